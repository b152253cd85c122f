import PyProof.Rows.All
import Wide.FinOn
import KE.KEqDict
import KE.KSortTup
import KE.KUnpack
import KE.KDictOf
import KE.KFromBytes
import KE.KIsAll
import PySem.Challenge.RW_calledroom_k90_whole_each_in_one_place
set_option Elab.async false
set_option linter.all false
set_option maxRecDepth 100000
set_option maxHeartbeats 8000000
namespace PySem.W.Fast
def tw10241921357870216366:True:=⟨⟩
def tw5554001162087968429:True:=⟨⟩
def tw12568828367534747987:True:=⟨⟩
def tw4916648293945773147:True:=⟨⟩
def tw11121001428858691040:True:=⟨⟩
def tw12620146570722956272:True:=⟨⟩
def tw17714723768701163511:True:=⟨⟩
def tw1562274486524438:True:=⟨⟩
def tw17965127567676785172:True:=⟨⟩
def tw9417899453206710122:True:=⟨⟩
def tw8501291003643161784:True:=⟨⟩
def tw2183568439106457076:True:=⟨⟩
def tw8730300095585658274:True:=⟨⟩
def tw16165006751728584943:True:=⟨⟩
def tw8685412855341894096:True:=⟨⟩
def tw7152457114148550320:True:=⟨⟩
def tw5485788148253015585:True:=⟨⟩
def tw14766931371798571957:True:=⟨⟩
def tw3122652563413220021:True:=⟨⟩
def tw12743088164258456224:True:=⟨⟩
def tw12761040463099780522:True:=⟨⟩
def tw4587160797071728488:True:=⟨⟩
def tw12083260247335943556:True:=⟨⟩
def tw12175206675994508851:True:=⟨⟩
def tw14371419084505255170:True:=⟨⟩
def tw1229130414516904029:True:=⟨⟩
def tw13006890462990976062:True:=⟨⟩
def tw17771624557794187460:True:=⟨⟩
def tw15727206765525192030:True:=⟨⟩
def tw8080929403538251353:True:=⟨⟩
def tw11575023660160574028:True:=⟨⟩
def tw8026442870001945605:True:=⟨⟩
def tw1339815547418574558:True:=⟨⟩
def tw11600775241434017159:True:=⟨⟩
def tw16895815071885033386:True:=⟨⟩
def tw13305933773139955469:True:=⟨⟩
def tw1463659376488123416:True:=⟨⟩
def tw9972801712396327875:True:=⟨⟩
def tw11630926631545967676:True:=⟨⟩
def tw9256088935714789781:True:=⟨⟩
def tw2611125131815704082:True:=⟨⟩
def tw11422662959041375796:True:=⟨⟩
def tw12940171953212437084:True:=⟨⟩
def tw11219898874827865205:True:=⟨⟩
def tw16946885511856809589:True:=⟨⟩
def tw17625250771742787020:True:=⟨⟩
def tw4681425998184122935:True:=⟨⟩
def tw8404598744768125985:True:=⟨⟩
def tw17325591484018657327:True:=⟨⟩
def tw9424761042887940654:True:=⟨⟩
def tw17355936107220271299:True:=⟨⟩
def tw6765599401146729502:True:=⟨⟩
def tw13363838242820051613:True:=⟨⟩
def tw6314923872660997435:True:=⟨⟩
def tw3522244830525214059:True:=⟨⟩
def tw2039751852917348027:True:=⟨⟩
def tw3876282057998855507:True:=⟨⟩
def tw14411447209239064223:True:=⟨⟩
def tw3826685441621036482:True:=⟨⟩
def tw3633883112647770304:True:=⟨⟩
def tw11483805388020244128:True:=⟨⟩
def tw13337516363624948833:True:=⟨⟩
def tw4172274204429218374:True:=⟨⟩
def tw17360743331150402755:True:=⟨⟩
def tw17069243340322387089:True:=⟨⟩
def tw3933685496758861244:True:=⟨⟩
def tw7537872850251667760:True:=⟨⟩
def tw772007867919952982:True:=⟨⟩
def tw13595817443504152590:True:=⟨⟩
def tw1442279440052225099:True:=⟨⟩
def tw17225361483337523096:True:=⟨⟩
def tw11340558644538606032:True:=⟨⟩
def tw8771675922429196426:True:=⟨⟩
def tw4013104109798583540:True:=⟨⟩
def tw12151466959224641616:True:=⟨⟩
def tw7822715872702451450:True:=⟨⟩
def tw12797241237396418267:True:=⟨⟩
def tw670732684217198622:True:=⟨⟩
def tw14104005270605320338:True:=⟨⟩
def tw8071971333971998817:True:=⟨⟩
def tw5701078138416118038:True:=⟨⟩
def tw5617770315143809163:True:=⟨⟩
def tw10901167250504639541:True:=⟨⟩
def tw7651956677283003829:True:=⟨⟩
def tw997435609828906037:True:=⟨⟩
def tw2156398723974357032:True:=⟨⟩
def tw3373729463328755504:True:=⟨⟩
def tw13000407567102166013:True:=⟨⟩
def tw169309907942594124:True:=⟨⟩
def tw15439136581606275712:True:=⟨⟩
def tw2783562230609921338:True:=⟨⟩
def tw14836830595111474682:True:=⟨⟩
def tw1978938686120026544:True:=⟨⟩
def tw4383787514579814571:True:=⟨⟩
def tw8633350841484768818:True:=⟨⟩
def tw3335187064848442498:True:=⟨⟩
def tw871175185046124009:True:=⟨⟩
def tw6650591092767120515:True:=⟨⟩
def tw1972535839211233926:True:=⟨⟩
def tw5288272654728842267:True:=⟨⟩
def tw12133604012573933073:True:=⟨⟩
def tw13722565835734330786:True:=⟨⟩
def tw6752361120023229562:True:=⟨⟩
def tw12863458802288313992:True:=⟨⟩
def tw13092836233600696178:True:=⟨⟩
def tw11056000092726100714:True:=⟨⟩
def tw7039396853490821177:True:=⟨⟩
def tw16702556801264512227:True:=⟨⟩
def tw3372639792793010672:True:=⟨⟩
def tw14101816809630332223:True:=⟨⟩
def tw4217557194419949472:True:=⟨⟩
def tw6319267383376496206:True:=⟨⟩
def tw15649934395651839118:True:=⟨⟩
def tw18011682251638914626:True:=⟨⟩
def tw2411554234663772172:True:=⟨⟩
def tw14186437978436518922:True:=⟨⟩
def tw5402129488184989928:True:=⟨⟩
def tw11442155206845333923:True:=⟨⟩
def tw13080823456666048321:True:=⟨⟩
def tw17862000980445339468:True:=⟨⟩
def tw7255374417541905348:True:=⟨⟩
def tw6545458449096945086:True:=⟨⟩
def tw4885141297853014600:True:=⟨⟩
def tw14945443965184343078:True:=⟨⟩
def tw5005854804439305746:True:=⟨⟩
def tw13746306376005624938:True:=⟨⟩
def tw14866561594803793762:True:=⟨⟩
def tw5602089087170566179:True:=⟨⟩
def tw2593644770178942791:True:=⟨⟩
def tw4955554051530544648:True:=⟨⟩
def tw17928729636713146699:True:=⟨⟩
def tw4256350996640645010:True:=⟨⟩
def tw14552016206807863721:True:=⟨⟩
def tw10463105375380339148:True:=⟨⟩
def tw7012008170867609711:True:=⟨⟩
def tw15000242365877569018:True:=⟨⟩
def tw1934036030721290842:True:=⟨⟩
def tw12390916705913849038:True:=⟨⟩
def tw12625686434100963067:True:=⟨⟩
def tw12229765331457821101:True:=⟨⟩
def tw9592978212818095864:True:=⟨⟩
def tw13051350409740646799:True:=⟨⟩
def tw10064207279572992157:True:=⟨⟩
def tw12483650901111260646:True:=⟨⟩
def tw1165162637037798716:True:=⟨⟩
def tw8049541886652702799:True:=⟨⟩
def tw8048069395630968053:True:=⟨⟩
end PySem.W.Fast
set_option bootstrap.genMatcherCode false
set_option compiler.extract_closed false
noncomputable section
local macro_rules|`(tactic|omega)=>`(tactic|lia)
abbrev gQm:=@List.getElem?_map
abbrev lQm:=@List.length_map
abbrev mQg:=@List.mem_of_getElem?
abbrev oQm:=@Option.map_eq_some_iff
abbrev gQe:=@List.getElem?_eq_getElem
abbrev gQs:=@List.getElem?_eq_some_iff
abbrev lQa:=@List.length_append
abbrev nQl:=@Nat.le_of_lt
abbrev mQa:=@List.mem_append
abbrev Qaq:=@PySem.wpAny_bind
abbrev Qbq:=@Option.bind_some
abbrev Qcq:=@PySem.Heap.get?_push_of_some
abbrev Qdq:=@decide_eq_false
abbrev Qeq:=@decide_eq_true
abbrev Qfq:=@List.mem_singleton
abbrev Qgq:=@PySem.wpAny_pure
abbrev Qhq:=@if_pos
abbrev Qiq:=@PySem.Heap.lt_size
abbrev Qjq:=@List.size_toArray
abbrev Qkq:=@List.mem_map
abbrev Qlq:=@List.getD_eq_getElem?_getD
abbrev Qmq:=@Nat.le_refl
abbrev Qnq:=@List.length_cons
abbrev Qoq:=@List.mem_append_right
abbrev Qpq:=@List.mem_cons_of_mem
abbrev Qqq:=@Nat.lt_of_lt_of_le
abbrev Qrq:=@PySem.Heap.get?_push_size
abbrev Qsq:=@List.mem_cons
abbrev Qtq:=@Bool.false_ne_true
abbrev Quq:=@if_neg
abbrev Qvq:=@List.append_assoc
abbrev Qwq:=@Nat.ne_of_lt
abbrev Qxq:=@List.length_take
abbrev Qyq:=@List.getElem?_set_self
abbrev Qzq:=@List.map_append
abbrev QAq:=@Nat.le_trans
abbrev QBq:=@List.mem_cons_self
abbrev QCq:=@Bool.and_eq_true
abbrev QDq:=@List.map_cons
abbrev QEq:=@List.take_length
abbrev QFq:=@PySem.W.mg_none_of
abbrev QGq:=@List.length_nil
abbrev QHq:=@List.getElem?_append_left
abbrev QIq:=@List.length_replicate
abbrev QJq:=@List.Perm.append_right
abbrev QKq:=@List.getElem?_set_ne
abbrev QLq:=@PySem.wpAny_holding
abbrev QMq:=@PySem.wpAny_field
abbrev QNq:=@List.replicate_succ
abbrev QOq:=@List.mem_flatMap
abbrev QPq:=@List.map_map
abbrev QQq:=@List.getElem?_append_right
abbrev QRq:=@PySem.wpAny_mono
abbrev QSq:=@List.flatMap_cons
abbrev QTq:=@List.mem_or_eq_of_mem_set
abbrev QUq:=@List.all_eq_true
abbrev QVq:=@List.length_range
abbrev QWq:=@List.drop_eq_getElem_cons
abbrev QXq:=@List.not_mem_nil
abbrev QYq:=@List.take_add_one
abbrev QZq:=@of_decide_eq_true
abbrev QaQ:=@of_decide_eq_false
abbrev QbQ:=@List.getElem_of_mem
abbrev QcQ:=@List.mem_of_getLast?
abbrev QdQ:=@Option.some.inj
abbrev QeQ:=@List.of_mem_zip
abbrev QfQ:=@List.getLast?_map
abbrev QgQ:=@PySem.wpAny_ite_false
abbrev QhQ:=@PySem.wpAny_newObj_type
abbrev QiQ:=@PySem.wpAny_callSpecial?_slot
abbrev QjQ:=@List.Sublist.refl
abbrev QkQ:=@List.eq_of_mem_replicate
abbrev QlQ:=@List.map_replicate
namespace L2
open PySem PySem.Spec PyProof.Rows
abbrev Key:=Sum Int Str
def qH:Key->Value->Bool
 |.inl k,v=>Value.isInt k v
 |.inr x,v=>Value.isStrOf x v
def MW(w:World):Key->Int
 |.inl k=>hashInt k
 |.inr x=>hashStr w x
def de:∀{k:Key} {v:Value},qH k v=true->(∃i t,k=Sum.inl i/\v=Value.int i t)\/(∃x t,k=Sum.inr x/\v=Value.str x t)
 | .inl i,v,h=>by
   obtain⟨t,e⟩:=Value.isInt_shape (k:=i) (v:=v) h
   exact .inl ⟨i,t,rfl,e⟩
 | .inr x,v,h=>by
   obtain⟨t,e⟩:=Value.isStrOf_shape (x:=x) (v:=v) h
   exact .inr ⟨x,t,rfl,e⟩
def DU(i:Int)(t:Tok):qH (.inl i) (.int i t)=true:=by simp[qH,Value.isInt]
def pQ(x:Str)(t:Tok):qH (.inr x) (.str x t)=true:=by simp[qH,Value.isStrOf]
def Jy(a b:Int):decide ((Sum.inl a:Key)=Sum.inl b)=(a==b):=by
 by_cases e:a=b
 ·subst e;simp
 ·have h:¬(Sum.inl a:Key)=Sum.inl b:=λq=>e (Sum.inl.inj q)
  rw[Qdq h]
  exact(beq_eq_false_iff_ne.mpr e).symm
def JN(a b:Str):decide ((Sum.inr a:Key)=Sum.inr b)=decide (a=b):=by
 by_cases e:a=b
 ·subst e;simp
 ·have h:¬(Sum.inr a:Key)=Sum.inr b:=λq=>e (Sum.inr.inj q)
  rw[Qdq h,Qdq e]
def Jt(a:Int)(b:Str):decide ((Sum.inl a:Key)=Sum.inr b)=false:=Qdq (λq=>nomatch q)
def Ju(a:Str)(b:Int):decide ((Sum.inr a:Key)=Sum.inl b)=false:=Qdq (λq=>nomatch q)
def bP(prog:Program)(w:World):PySem.KeyKind prog w Key where
 is:=qH
 hash:=MW w
 inj:=λv a b l f=>by
  rcases de l with⟨i,t,rfl,rfl⟩|⟨x,t,rfl,rfl⟩
  ·rcases de f with⟨j,u,rfl,e⟩|⟨y,u,rfl,e⟩
   ·injection e with c _;rw[c]
   ·exact nomatch e
  ·rcases de f with⟨j,u,rfl,e⟩|⟨y,u,rfl,e⟩
   ·exact nomatch e
   ·injection e with c _;rw[c]
 byValue:=λk v h=>by
  rcases de h with⟨i,t,rfl,rfl⟩|⟨x,t,rfl,rfl⟩ <;>rfl
 pyHash:=λd h=>by
  rcases de d with⟨i,t,rfl,rfl⟩|⟨x,t,rfl,rfl⟩
  ·exact wpAny_pyHash_int h
  ·exact wpAny_pyHash_str h
 eqBool:=λg d h=>by
  rcases de g with⟨i,t,rfl,rfl⟩|⟨x,t,rfl,rfl⟩
  ·rcases de d with⟨j,u,rfl,rfl⟩|⟨y,u,rfl,rfl⟩
   ·rw[Jy] at h;exact wpAny_eqBool_int h
   ·rw[Jt] at h;exact SeqAt.EqAt.int_str i t y u _ _ _ _ h
  ·rcases de d with⟨j,u,rfl,rfl⟩|⟨y,u,rfl,rfl⟩
   ·rw[Ju] at h;exact SeqAt.EqAt.str_int x t j u _ _ _ _ h
   ·rw[JN] at h;exact wpAny_eqBool_str h
 «strs»:=λk x t v h=>by
  rcases de h with⟨i,u,rfl,e⟩|⟨y,u,rfl,e⟩
  ·exact nomatch e
  ·injection e with c _
   subst c
   cases v <;>rfl
def zm(prog:Program)(w:World)(i:Int)(t:Tok):(bP prog w).is (.inl i) (.int i t)=true:=DU i t
def zT(prog:Program)(w:World)(x:Str)(t:Tok):(bP prog w).is (.inr x) (.str x t)=true:=pQ x t
inductive V where
 |non|bl (b:Bool)|int (i:Int)|str (x:Str)|byt (b:Array UInt8)|flt (b:UInt64)|ref (a:Addr)|ty (n:String)
 deriving DecidableEq
def RelV:V->Value->Prop
 |.non,u=>u=Value.none
 |.bl b,u=>u=Value.bool b
 |.int i,u=>∃t,u=Value.int i t
 |.str x,u=>∃t,u=Value.str x t
 |.byt b,u=>∃t,u=Value.bytes b t
 |.flt b,u=>∃t,u=Value.float b t
 |.ref a,u=>u=Value.ref a
 |.ty n,u=>u=Value.type n
abbrev bF:List V->List Value->Prop:=Paired RelV
def bF.length{xs:List V}{a:List Value}(r:bF xs a):xs.length=a.length:=Paired.length r
theorem bF.get:∀{xs:List V} {a:List Value} {i:Nat} {x:V},bF xs a->xs[i]?=some x->∃u,a[i]?=some u/\RelV x u
 |_,_,_,_,.nil,e=>by simp at e
 |_,_,0,_,.cons r _,e=>by simp at e;subst e;exact⟨_,rfl,r⟩
 | _,_,i+1,x,.cons _ t,e=>by
   obtain⟨u,c,b⟩:=bF.get (i:=i) (x:=x) t (by simpa using e)
   exact⟨u,by simpa using c,b⟩
theorem bF.set{x:V}{u:Value}(r:RelV x u):∀{xs:List V} {a:List Value} (i:Nat),bF xs a->bF (xs.set i x) (a.set i u)
 |_,_,_,.nil=>.nil
 |_,_,0,.cons _ t=>.cons r t
 |_,_,i+1,.cons q t=>.cons q (bF.set r i t)
theorem bF.append:∀{xs ys:List V} {a ws:List Value},bF xs a->bF ys ws->bF (xs++ys) (a++ws)
 |_,_,_,_,.nil,s=>s
 |_,_,_,_,.cons r t,s=>.cons r (bF.append t s)
theorem bF.take:∀{xs:List V} {a:List Value} (n:Nat),bF xs a->bF (xs.take n) (a.take n)
 |_,_,0,_=>.nil
 |_,_,_+1,.nil=>.nil
 |_,_,n+1,.cons r t=>.cons r (bF.take n t)
theorem bF.drop:∀{xs:List V} {a:List Value} (n:Nat),bF xs a->bF (xs.drop n) (a.drop n)
 |_,_,0,r=>r
 |_,_,_+1,.nil=>.nil
 |_,_,n+1,.cons _ t=>bF.drop n t
def tf:Option V->Option Value->Prop
 |some v,some u=>RelV v u
 |none,none=>True
 |_,_=>False
def KV{κ:Type}:List (κ×V)->List (κ×Value)->Prop:=Paired λ(p:κ×V) (q:κ×Value)=>p.1=q.1/\RelV p.2 q.2
def kV:Key->V
 |.inl i=>.int i
 |.inr x=>.str x
inductive HO where
 |lst (xs:List V)
 |tup (xs:List V)
 |dK (kvs:List (Key×V))|dT (kvs:List (List Key×V))
 |set (S:Int->Bool) (n:Nat)
 |ins (C dx:Addr) (fs:List (Str×V))
 |own (x:Addr)
 |xd (fs:List (Str×V))
 |met (f x:Addr)
 |rng (lo hi:Int)
 |frz (o:Obj) (u:HO)
 |tbl (ps:Array Value)
 |ext (φ:Heap->Prop)
abbrev Hp:=Addr->Option HO
def upd(H:Hp)(a:Addr)(o:HO):Hp:=λb=>if b=a then some o else H b
def bI{H:Hp}{a:Addr}{o:HO}:upd H a o a=some o:=by unfold upd;rw[Qhq rfl]
def bf{H:Hp}{a b:Addr}{o:HO}(h:b≠a):upd H a o b=H b:=by unfold upd;rw[Quq h]
def ER{H:Hp}{a b:Addr}{o u:HO}(h:H a=some o)(h':H b=some u)(d:o≠u):a≠b:=by
 intro e;subst e;rw[h] at h';exact d (QdQ h')
def eZ{H:Hp}{a b:Addr}{o:HO}(h:H a=some o)(h':H b=none):a≠b:=by
 intro e;subst e;rw[h] at h';cases h'
def Aa(h:Heap)(a:Addr)(items:Array Value):Prop:=∃o,h.get? a=some o/\o.cls=.type "tuple" /\o.dict=none/\∃n,o.data=.seq items n
def Aa.it{h:Heap}{a:Addr}{items:Array Value}(x:Aa h a items):IsTup h a items:=by
 obtain⟨o,e,c,_,d⟩:=x
 exact⟨o,e,c,d⟩
def Aa.new(h:Heap)(items:Array Value):Aa (h.push {cls:=.type "tuple",data:=.seq items}) h.objs.size items:=⟨_,Qrq _ rfl,rfl,rfl,_,rfl⟩
section
variable(P:Program)(w:World)
def cT(H:Hp)(h:Heap)(a:Addr):HO->Prop
 |.lst d=>d.length<=sizeLine/\∃(c:List Value) (n:Nat),bF d c/\h.get? a=some {cls:=.type "list",data:=.seq c.toArray n}
 |.tup d=>d.length<=sizeLine/\∃c:List Value,bF d c/\Aa h a c.toArray
 |.dK b=>b.length<=sizeLine/\(a==sysModules)=false/\∃l,KV b l/\h.DictOf (bP P w) a l
 |.dT b=>b.length<=sizeLine/\(a==sysModules)=false/\∃d:List (List Key×Addr×Value),
   Paired (λ(p:List Key×V) (q:List Key×Addr×Value)=>p.1=q.1/\H q.2.1=some (.tup (p.1.map kV))/\RelV p.2 q.2.2) b d∧
   ∃o m y,h.get? a=some o/\o.ExactDict/\o.data=.dict m y/\m.toList=d.map (entryOfKey (tupleKind (bP P w)))/\(d.map (·.1)).Nodup
 |.set S n=>h.SetOf (intKind P w) a S n
 |.ins C i g=>H i=some (.own a)/\g.length<=1000/\i≠a/\h.get? a=some (PySem.W.instObj C i)∧
   ∃e,h.Ns1 i e/\(∀f,tf (g.lookup f) (e f))/\PySem.Within e (g.map (·.1))
 |.own _=>∃o,h.get? a=some o
 |.xd g=>∃e,h.Ns1 a e/\∀f,tf (g.lookup f) (e f)
 |.rng z A=>∃t u v,h.get? a=some {cls:=.type "range",data:=.fields #[.int z t,.int A u,.int 1 v]}
 |.frz o u=>h.get? a=some o/\cT H h a u
 |.tbl s=>h.get? a=some {cls:=.none,data:=.fields s}
 |.met f x=>h.get? a=some (PySem.W.methodObj (.ref f) (.ref x))
 |.ext j=>j h/\(∃o,h.get? a=some o)/\∀k r:Heap,j k->(∀o,k.get? a=some o->r.get? a=some o)->j r
def nN(H:Hp)(h:Heap):Prop:=∀a o,H a=some o->cT P w H h a o
end
section
variable{P:Program}{w:World}{H H':Hp}{h h':Heap}{a:Addr}{o:HO}
theorem cT.lt(x:cT P w H h a o):a<h.objs.size:=by
 cases o with
 |lst d=>obtain⟨_,_,_,_,e⟩:=x;exact Qiq e
 |tup d=>obtain⟨_,_,_,p⟩:=x;exact p.it.lt
 |dK b=>obtain⟨_,_,_,_,o,_,_,e,_⟩:=x;exact Qiq e
 |dT b=>obtain⟨_,_,_,_,o,_,_,e,_⟩:=x;exact Qiq e
 |set S n=>obtain⟨o,_,_,_,e,_⟩:=x;exact Qiq e
 |ins C i c=>obtain⟨_,_,_,e,_⟩:=x;exact Qiq e
 |own y=>obtain⟨_,e⟩:=x;exact Qiq e
 |xd c=>obtain⟨_,⟨_,_,_,e,_⟩,_⟩:=x;exact Qiq e
 |rng l m=>obtain⟨_,_,_,e⟩:=x;exact Qiq e
 |frz j u=>obtain⟨e,_⟩:=x;exact Qiq e
 |tbl g=>exact Qiq (show h.get? a=some _ from x)
 |met f y=>exact Qiq (show h.get? a=some _ from x)
 |ext k=>obtain⟨_,⟨_,e⟩,_⟩:=x;exact Qiq e
theorem Paired.mapP{α c:Type}{F G:α->c->Prop}:∀{l₁:List α} {l₂:List c},Paired F l₁ l₂->(∀a b,F a b->G a b)->Paired G l₁ l₂
 |_,_,.nil,_=>.nil
 |_,_,.cons r t,f=>.cons (f _ _ r) (Paired.mapP t f)
def cT.stay(x:cT P w H h a o)(k:∀b u,(b=a\/H b=some (.own a))->h.get? b=some u->h'.get? b=some u)
  (M:∀b,H b=some (.own a)->H' b=some (.own a)) (ht:∀b xs,H b=some (.tup xs)->H' b=some (.tup xs)):cT P w H' h' a o:=by
 induction o with
 |lst xs=>obtain⟨z,l,n,r,e⟩:=x;exact⟨z,l,n,r,k _ _ (.inl rfl) e⟩
 |tup xs=>obtain⟨z,l,r,g,e,c⟩:=x;exact⟨z,l,r,g,k _ _ (.inl rfl) e,c⟩
 |dK A=>obtain⟨z,y,I,r,g,j,i,e,c⟩:=x;exact⟨z,y,I,r,g,j,i,k _ _ (.inl rfl) e,c⟩
 | dT A=>
   obtain⟨z,y,xs,r,g,j,i,e,c⟩:=x
   exact⟨z,y,xs,Paired.mapP r λp q z=>⟨z.1,ht _ _ z.2.1,z.2.2⟩,g,j,i,k _ _ (.inl rfl) e,c⟩
 |set S n=>obtain⟨g,j,i,t,e,c⟩:=x;exact⟨g,j,i,t,k _ _ (.inl rfl) e,c⟩
 | ins C N K=>
   obtain⟨d,z,G,e,m,⟨s,j,i,J,c⟩,r⟩:=x
   exact⟨M _ d,z,G,k _ _ (.inl rfl) e,m,⟨s,j,i,k _ _ (.inr d) J,c⟩,r⟩
 |own y=>obtain⟨g,e⟩:=x;exact⟨g,k _ _ (.inl rfl) e⟩
 |xd K=>obtain⟨m,⟨s,j,i,e,c⟩,r⟩:=x;exact⟨m,⟨s,j,i,k _ _ (.inl rfl) e,c⟩,r⟩
 |rng R U=>obtain⟨t,u,v,e⟩:=x;exact⟨t,u,v,k _ _ (.inl rfl) e⟩
 |frz g u L=>obtain⟨e,q⟩:=x;exact⟨k _ _ (.inl rfl) e,L q⟩
 | tbl B=>
   have e:h.get? a=some {cls:=.none,data:=.fields B}:=x
   show h'.get? a=some {cls:=.none,data:=.fields B}
   exact k a _ (.inl rfl) e
 | met f y=>
   have e:h.get? a=some (PySem.W.methodObj (.ref f) (.ref y)):=x
   show h'.get? a=some (PySem.W.methodObj (.ref f) (.ref y))
   exact k a _ (.inl rfl) e
 |ext Q=>obtain⟨p,⟨o,e⟩,F⟩:=x;exact⟨F _ _ p λo q=>k _ _ (.inl rfl) q,⟨o,k _ _ (.inl rfl) e⟩,F⟩
def nN.lt(x:nN P w H h)(e:H a=some o):a<h.objs.size:=(x a o e).lt
def nN.fresh(x:nN P w H h)(e:h.objs.size<=a):H a=none:=by
 cases q:H a with
 |none=>rfl
 |some u=>exact absurd (Qqq (x.lt q) e) (Nat.lt_irrefl _)
def nN.kept(x:nN P w H h)(k:∀b u,h.get? b=some u->h'.get? b=some u):nN P w H h':=λa o e=>
 (x a o e).stay (λb u _ q=>k b u q) (λ_ q=>q) λ_ _ q=>q
def nN.laid(x:nN P w H h)(k:∀b u,h.get? b=some u->h'.get? b=some u)(g:h.objs.size<=a)(new:cT P w (upd H a o) h' a o):nN P w (upd H a o) h':=λb u e=>by
 have f:=x.fresh g
 by_cases d:b=a
 ·subst d;rw[bI] at e;cases e;exact new
 ·rw[bf d] at e
  exact(x b u e).stay (λc v _ q=>k c v q) (λc q=>by rw[bf (eZ q f)];exact q) λc i q=>by rw[bf (eZ q f)];exact q
end
def Rd(H:Hp)(a:Addr)(u:HO):Prop:=H a=some u\/∃o,H a=some (.frz o u)
def Rd.ok{P:Program}{w:World}{H:Hp}{h:Heap}{a:Addr}{u:HO}(r:Rd H a u)(x:nN P w H h):cT P w H h a u:=by
 rcases r with r|⟨o,r⟩
 ·exact x a u r
 ·obtain⟨_,q⟩:=x a _ r
  exact q
def LY:Option HO->Prop
 |some (.lst _)=>True
 |some (.dK _)=>True
 |some (.dT _)=>True
 |some (.set _ _)=>True
 |some (.ins _ _ _)=>True
 |some (.ext _)=>True
 |_=>False
section
variable{P:Program}{w:World}{H:Hp}{h h':Heap}{x e:Addr}{o':HO}
def nN.write(ok:nN P w H h)(g:LY (H x))(he:e=x\/H e=some (.own x))(k:∀b u,b≠e->h.get? b=some u->h'.get? b=some u)(m:∃u,h'.get? e=some u)
  (new:cT P w (upd H x o') h' x o'):nN P w (upd H x o') h':=λb u q=>by
 have d:∀c y,H c=some (.own y)->c≠x:=λc y r z=>by subst z;rw[r] at g;exact g
 have f:∀c i,H c=some (.tup i)->c≠x:=λc i r z=>by subst z;rw[r] at g;exact g
 by_cases j:b=x
 ·subst j;rw[bI] at q;cases q;exact new
 ·rw[bf j] at q
  by_cases a:b=e
  ·have n:H b=some (.own x):=by
    rcases he with z|z
    ·exact absurd (a.trans z) j
    ·rw[a];exact z
   rw[q] at n;cases n
   obtain⟨v,o⟩:=m
   exact⟨v,by rw[a];exact o⟩
  ·refine(ok b u q).stay (λc v l r=>k c v ?_ r) (λc r=>by rw[bf (d c b r)];exact r) λc i r=>by rw[bf (f c i r)];exact r
   rcases l with rfl|l
   ·exact a
   ·rintro rfl
    rcases he with z|z
    ·exact d c b l z
    ·rw[l] at z;cases z;exact j rfl
end
structure Un(fs ex:List Addr)(H H':Hp)(h h':Heap):Prop where
 keep:∀b o,h.get? b=some o->H b=none->b∉fs->b∉ex->h'.get? b=some o
 slot:∀b o,h.get? b=some o->H b=none->b∈fs->b∉ex->∃sl,h'.get? b=some {o with slots:=sl}
 free:∀b o,h.get? b=some o->H b=none->b∉ex->H' b=none
 there:∀b o,h.get? b=some o->b∉ex->∃o',h'.get? b=some o'
 tups:∀b xs,H b=some (.tup xs)->H' b=some (.tup xs)
 frzs:∀b o u,H b=some (.frz o u)->H' b=some (.frz o u)
 tbls:∀b ps,H b=some (.tbl ps)->∃more,H' b=some (.tbl (ps++more))
section
variable{fs fs' ex ex':List Addr}{H H1 H2:Hp}{h h1 h2 h':Heap}{a x e:Addr}{o:HO}
def Un.any(u:Un fs ex H H1 h h1){b:Addr}{c:Obj}(q:h.get? b=some c)(n:H b=none)(f:b∉ex):∃g,h1.get? b=some {c with slots:=g}:=by
 by_cases d:b∈fs
 ·exact u.slot b c q n d f
 ·exact⟨c.slots,u.keep b c q n d f⟩
def Un.kept(k:∀b u,h.get? b=some u->h'.get? b=some u):Un fs ex H H h h':=
 ⟨λb c q _ _ _=>k b c q,λb c q _ _ _=>⟨c.slots,k b c q⟩,λ_ _ _ n _=>n,λb c q _=>⟨c,k b c q⟩,λ_ _ q=>q,λ_ _ _ q=>q,λ_ d q=>⟨#[],by rw[q];simp⟩⟩
def Un.refl:Un fs ex H H h h:=Un.kept λ_ _ q=>q
def Un.laid(k:∀b u,h.get? b=some u->h'.get? b=some u)(f:h.objs.size<=a)(c:H a=none):Un fs ex H (upd H a o) h h' where
 keep:=λb u q _ _ _=>k b u q
 slot:=λb u q _ _ _=>⟨u.slots,k b u q⟩
 free:=λb u q n _=>by rw[bf (Qwq (Qqq (Qiq q) f))];exact n
 there:=λb u q _=>⟨u,k b u q⟩
 tups:=λb d q=>by rw[bf (eZ q c)];exact q
 frzs:=λb u d q=>by rw[bf (eZ q c)];exact q
 tbls:=λb g q=>⟨#[],by rw[bf (eZ q c),q];simp⟩
def Un.write(d:LY (H x))(he:e=x\/H e=some (.own x))(k:∀b u,b≠e->h.get? b=some u->h'.get? b=some u)(f:∃u,h'.get? e=some u):Un fs ex H (upd H x o) h h':=by
 have j:∀b,H b=none->b≠x:=λb n z=>by subst z;rw[n] at d;exact d
 have i:∀b,H b=none->b≠e:=λb n z=>by
  subst z
  rcases he with r|r
  ·exact j b n r
  ·rw[n] at r;cases r
 have g:∀b u,H b=some u->¬LY (some u)->b≠x:=λb u q nm z=>by subst z;rw[q] at d;exact nm d
 refine⟨λb u q n _ _=>k b u (i b n) q,λb u q n _ _=>⟨u.slots,k b u (i b n) q⟩,λb u q n _=>by rw[bf (j b n)];exact n,λb u q _=> ?_,
  λb l q=>by rw[bf (g b _ q λz=>z)];exact q,λb u l q=>by rw[bf (g b _ q λz=>z)];exact q,λb m q=>⟨#[],by rw[bf (g b _ q λz=>z),q];simp⟩⟩
 by_cases c:b=e
 ·subst c;exact f
 ·exact⟨u,k b u c q⟩
end
def Mo(h:Heap)(H:Hp):List Addr:=(List.range h.objs.size).filter λa=>(H a).isSome
def yq(h:Heap)(H:Hp):Heap:=PySem.W.hideAll h (Mo h H)
def CP(h:Heap)(H:Hp):(yq h H).objs.size=h.objs.size:=PySem.W.hideAll_size _ _
def E4{h:Heap}{H:Hp}{b:Addr}{o:Obj}(e:h.get? b=some o)(n:H b=none):(yq h H).get? b=some o:=
 PySem.W.hideAll_get _ e λa=>by
  have q:(H b).isSome=true:=(List.mem_filter.mp a).2
  rw[n] at q;simp at q
def GK{h:Heap}{H:Hp}{b:Addr}{o:Obj}(e:(yq h H).get? b=some o):h.get? b=some o/\H b=none:=by
 have a:h.get? b=some o:=PySem.W.of_hideAll (Mo h H) e
 refine⟨a,?_⟩
 cases q:H b with
 |none=>rfl
 | some x=>
   have c:b∈Mo h H:=List.mem_filter.mpr ⟨List.mem_range.mpr (Qiq a),by simp[q]⟩
   have z:(yq h H).get? b=none:=PySem.W.hideAll_none (Mo h H) c
   rw[z] at e;cases e
structure Mod(K:PySem.W.Frag)(mg:Str->Option Value)(base:Heap):Prop where
 kin:K.In base
 glob:base.Ns mainGlobals mg
 blt:∃mb,base.Ns builtinsNs mb/\∀x:Str,x≠"__name__" ->mb x=bootBuiltins x
 nolimit:base.NoLimit
structure Cx where
 prog:Program
 w:World
 K:PySem.W.Frag
 mg:Str->Option Value
 base:Heap
 A:Around
 N:List Str
 s₀:Shared
 H₀:Hp
 env:Env
 outer:List Env
 stack:List Env
 ex:List Addr
 fn:Str->Bool
 calm:Bool
 pn:List (Addr×Obj)
 xe:Value->Shared->Prop
def Ep(l:List Env):List Addr:=l.filterMap (·.frame)
abbrev Cx.fs(X:Cx):List Addr:=Ep X.outer
def Ii(sc:Scope)(x:Str):Prop:=sc.names.lookup x=some .local\/sc.names.lookup x=some .cell\/sc.names.lookup x=some .free
def Loc(sc:Scope)(x:Str):Prop:=sc.names.lookup x=some .local\/sc.names.lookup x=some .cell
def Look(env:Env)(h:Heap)(m:Str->Option Value)(x:Str)(u:Value):Prop:=
 (env.kindOf x=some .local/\m x=some u)\/((env.kindOf x=some .cell\/env.kindOf x=some .free)/\∃c,env.cells.lookup x=some c/\h.IsCell c (some u))
structure Cx.Ok(X:Cx):Prop where
 mod:Mod X.K X.mg X.base
 kind:X.env.scope.kind=.function
 glob:X.env.globals=mainGlobals
 blt:X.env.builtins=builtinsNs
 above:X.s₀.heap.objs.size<=X.env.locals
 inj:∀x y c,X.env.cells.lookup x=some c->X.env.cells.lookup y=some c->x=y
 has:∀x,(X.env.kindOf x=some .cell\/X.env.kindOf x=some .free)->∃c,X.env.cells.lookup x=some c
 cab:∀x c,X.fn x=true->X.env.cells.lookup x=some c->X.s₀.heap.objs.size<=c
 hd:X.calm=true->X.A.handled=none
 frames:X.A.frames=some X.stack
 stk:X.stack=X.outer\/(X.stack=X.env::X.outer/\X.env.frame=some X.env.locals)
 exf:∀b∈X.ex,b≠X.env.locals/\∀x c,X.env.cells.lookup x=some c->c≠b
 bs:∀b o,X.base.get? b=some o->X.s₀.heap.get? b=some o/\X.H₀ b=none
 bsz:X.base.objs.size<=X.s₀.heap.objs.size
 noex:∀b o,X.base.get? b=some o->b∉X.ex
 exfs:∀b∈X.ex,b∉X.fs
 funs:X.s₀.heap.FunFrames X.base X.outer
 frf:∀b∈X.fs,X.H₀ b=none
structure Inv(X:Cx)(pins:List (Addr×Obj))(σ:List (Option V))(H:Hp)(s:Shared):Prop where
 ok:X.Ok
 os:s.os=X.s₀.os
 bare:AllBare s.gens
 base:Un X.fs X.ex X.H₀ H X.s₀.heap s.heap
 loc:∃m,s.heap.Ns X.env.locals m/\∀(i:Nat) (x:Str) (v:V),X.N[i]?=some x->σ[i]?=some (some v)->Ii X.env.scope x->∃u,RelV v u/\Look X.env s.heap m x u
 cell:∀x c,X.env.cells.lookup x=some c->∃v,s.heap.IsCell c v
 free:H X.env.locals=none
 freeC:∀x c,X.env.cells.lookup x=some c->H c=none
 pin:∀p∈X.pn++pins,s.heap.get? p.1=some p.2/\H p.1=none/\p.1≠X.env.locals/\p.1∉X.fs/\∀v,p.2.data≠.cell v
 hok:nN X.prog X.w H s.heap
 len:σ.length=X.N.length
section
variable{X:Cx}{pins:List (Addr×Obj)}{σ:List (Option V)}{H H':Hp}{s:Shared}{h':Heap}
def Cx.Ok.nofr(ok:X.Ok){b:Addr}{o:Obj}(e:X.base.get? b=some o):b∉X.fs:=λa=>by
 have:=(ok.funs.mem a).1
 rw[e] at this;cases this
def Inv.bs(I:Inv X pins σ H s):∀b o,X.base.get? b=some o->s.heap.get? b=some o/\H b=none:=λb o e=>
 ⟨I.base.keep b o (I.ok.bs b o e).1 (I.ok.bs b o e).2 (I.ok.nofr e) (I.ok.noex b o e),I.base.free b o (I.ok.bs b o e).1 (I.ok.bs b o e).2 (I.ok.noex b o e)⟩
def Inv.bk(I:Inv X pins σ H s):∀b o,X.base.get? b=some o->s.heap.get? b=some o:=λb o e=>(I.bs b o e).1
def Inv.mod(I:Inv X pins σ H s):Mod X.K X.mg X.base:=I.ok.mod
def Inv.kIn(I:Inv X pins σ H s):X.K.In s.heap:=I.ok.mod.kin.keeps I.bk
def Inv.lt(I:Inv X pins σ H s):X.env.locals<s.heap.objs.size:=let ⟨_,hn,_⟩:=I.loc;hn.lt
def Inv.sz(I:Inv X pins σ H s):X.s₀.heap.objs.size<=s.heap.objs.size:=QAq I.ok.above (nQl I.lt)
def Inv.nofs(I:Inv X pins σ H s){a:Addr}(h:s.heap.objs.size<=a):a∉X.fs:=λb=>by
 obtain⟨_,o,c,_⟩:=I.ok.funs.mem b
 exact absurd (Qqq (Qiq c) (QAq I.sz h)) (Nat.lt_irrefl _)
def Inv.cne(I:Inv X pins σ H s):∀x c,X.env.cells.lookup x=some c->c≠X.env.locals:=λx c e z=>by
 obtain⟨v,o,d,f⟩:=I.cell x c e
 obtain⟨m,⟨g,i,h,a,b,_⟩,_⟩:=I.loc
 rw[z,a] at d;cases d;rw[b] at f;cases f
theorem Inv.funs(I:Inv X pins σ H s):s.heap.FunFrames X.base X.outer:=by
 have d:∀(l:List Env),(∀b∈Ep l,b∈X.fs)->X.s₀.heap.FunFrames X.base l->s.heap.FunFrames X.base l:=by
  intro l
  induction l with
  |nil=>intro _ _;trivial
  | cons h r k=>
    intro g hl
    obtain⟨j,⟨L,o,c,p,m,n⟩,i⟩:=hl
    have a:L∈X.fs:=g L (by unfold Ep;rw[List.filterMap_cons,c];exact QBq)
    obtain⟨q,e⟩:=I.base.slot L o m (I.ok.frf L a) a λz=>I.ok.exfs L z a
    exact⟨j,⟨L,_,c,p,e,n⟩,k (λb f=>g b (by unfold Ep;rw[List.filterMap_cons,c];exact Qpq _ f)) i⟩
 exact d X.outer (λ_ f=>f) I.ok.funs
def Inv.stack(I:Inv X pins σ H s):s.heap.FunFrames X.base X.stack:=by
 rcases I.ok.stk with e|⟨e,b⟩
 ·rw[e];exact I.funs
 ·rw[e]
  obtain⟨m,a,_⟩:=I.loc
  refine .cons (by rw[I.ok.kind];decide) b a ?_ I.funs
  exact Heap.get?_none_of_le (QAq I.ok.bsz I.ok.above)
def Inv.stkSub(I:Inv X pins σ H s):∀b∈Ep X.stack,b∈X.env.locals::X.fs:=λb a=>by
 rcases I.ok.stk with e|⟨e,c⟩
 ·rw[e] at a;exact Qpq _ a
 ·rw[e] at a
  unfold Ep at a
  rw[List.filterMap_cons,c] at a
  exact a
def Inv.stkFree(I:Inv X pins σ H s):∀b∈Ep X.stack,H b=none:=λb a=>by
 rcases Qsq.mp (I.stkSub b a) with e|a
 ·rw[e];exact I.free
 ·obtain⟨_,o,c,_⟩:=I.ok.funs.mem a
  exact I.base.free b o c (I.ok.frf b a) λz=>I.ok.exfs b z a
def Inv.step{g':Array GenState}{t':Nat}{d':Drawn}{ch:List Addr}(I:Inv X pins σ H s)
  (h:∀b∈ch,(b∈X.ex\/X.s₀.heap.objs.size<=b)/\b≠X.env.locals/\(∀x c,X.env.cells.lookup x=some c->c≠b)/\∀p∈X.pn++pins,p.1≠b)
  (keep:∀b o,b≠X.env.locals->b∉X.fs->b∉ch->s.heap.get? b=some o->H b=none->h'.get? b=some o)
  (slot:∀b o,b≠X.env.locals->b∈X.fs->b∉ch->s.heap.get? b=some o->H b=none->∃F,h'.get? b=some {o with slots:=F}) (free:∀b o,b∉ch->s.heap.get? b=some o->H b=none->H' b=none)
  (there:∀b o,b∉ch->s.heap.get? b=some o->∃o',h'.get? b=some o')
  (tups:∀b xs,H b=some (.tup xs)->H' b=some (.tup xs)) (frzs:∀b o u,H b=some (.frz o u)->H' b=some (.frz o u)) (tbls:∀b ps,H b=some (.tbl ps)->∃more,H' b=some (.tbl (ps++more)))
  (ns:∀m,s.heap.Ns X.env.locals m->h'.Ns X.env.locals m) (J:nN X.prog X.w H' h') (Q:AllBare g'):
  Inv X pins σ H' {s with heap:=h',gens:=g',drawn:=d',toks:=t'}:=by
 have C:∀b o,X.s₀.heap.get? b=some o->b≠X.env.locals:=λb o e=>Qwq (Qqq (Qiq e) I.ok.above)
 have j:∀b o,X.s₀.heap.get? b=some o->b∉X.ex->b∉ch:=λb o e a y=>by
  rcases(h b y).1 with z|z
  ·exact a z
  ·exact absurd (Qqq (Qiq e) z) (Nat.lt_irrefl _)
 have f:∀x c,X.env.cells.lookup x=some c->∀v,s.heap.IsCell c v->h'.IsCell c v:=λx c e v R=>by
  obtain⟨o,A,K⟩:=R
  have g:c∉ch:=λz=>(h c z).2.2.1 x c e rfl
  by_cases P:c∈X.fs
  ·obtain⟨F,q⟩:=slot c o (I.cne x c e) P g A (I.freeC x c e)
   exact⟨_,q,K⟩
  ·exact⟨o,keep c o (I.cne x c e) P g A (I.freeC x c e),K⟩
 refine⟨I.ok,I.os,Q,⟨λb o e n y a=> ?_,λb o e n y a=> ?_,λb o e n a=> ?_,λb o e a=> ?_,λb xs e=>tups b xs (I.base.tups b xs e),λb o xs e=>frzs b o xs (I.base.frzs b o xs e),λb ps e=> ?_⟩,?_,λx c e=> ?_,?_,λx c e=> ?_,λp L=> ?_,J,I.len⟩
 ·exact keep b o (C b o e) y (j b o e a) (I.base.keep b o e n y a) (I.base.free b o e n a)
 ·obtain⟨F,t⟩:=I.base.slot b o e n y a
  obtain⟨G,B⟩:=slot b _ (C b o e) y (j b o e a) t (I.base.free b o e n a)
  exact⟨G,B⟩
 ·obtain⟨o',t⟩:=I.base.there b o e a
  exact free b o' (j b o e a) t (I.base.free b o e n a)
 ·obtain⟨o',t⟩:=I.base.there b o e a
  exact there b o' (j b o e a) t
 ·obtain⟨W,t⟩:=I.base.tbls b ps e
  obtain⟨S,B⟩:=tbls b _ t
  exact⟨W++S,by rw[B,Array.append_assoc]⟩
 ·obtain⟨m,Y,hl⟩:=I.loc
  refine⟨m,ns m Y,λi x v t B U=> ?_⟩
  obtain⟨u,r,l⟩:=hl i x v t B U
  refine⟨u,r,?_⟩
  rcases l with l|⟨k,c,e,z⟩
  ·exact .inl l
  ·exact .inr ⟨k,c,e,f x c e _ z⟩
 ·obtain⟨v,z⟩:=I.cell x c e
  exact⟨v,f x c e v z⟩
 ·obtain⟨m,⟨o,_,_,A,_⟩,_⟩:=I.loc
  exact free _ o (λz=>(h _ z).2.1 rfl) A I.free
 ·obtain⟨v,o,A,K⟩:=I.cell x c e
  exact free c o (λz=>(h c z).2.2.1 x c e rfl) A (I.freeC x c e)
 ·obtain⟨e,n,M,N,d⟩:=I.pin p L
  have g:p.1∉ch:=λz=>(h p.1 z).2.2.2 p L rfl
  exact⟨keep p.1 p.2 M N g e n,free p.1 p.2 g e n,M,N,d⟩
def Inv.un{t':Nat}(I:Inv X pins σ H s)(u:Un X.fs [] H H' s.heap h')(d:nN X.prog X.w H' h'):Inv X pins σ H' {s with heap:=h',toks:=t'}:=by
 obtain⟨m,⟨o,v,t,h,r⟩,_⟩:=id I.loc
 obtain⟨l,j⟩:=u.any h I.free (by simp)
 exact I.step (g':=s.gens) (d':=s.drawn) (ch:= []) (λ_ z=>nomatch z) (λb o _ g _ e n=>u.keep b o e n g (by simp)) (λb o _ g _ e n=>u.slot b o e n g (by simp)) (λb o _ e n=>u.free b o e n (by simp)) (λb o _ e=>u.there b o e (by simp)) u.tups u.frzs u.tbls (λp i=>by
  obtain⟨q,f,c,a,k⟩:=i
  rw[h] at a;cases a
  exact⟨_,f,c,j,k⟩) d I.bare
def Inv.call{g':Array GenState}{t':Nat}{d':Drawn}{ch:List Addr}(I:Inv X pins σ H s)(u:Un (Ep X.stack) ch H H' s.heap h')(i:nN X.prog X.w H' h')(l:AllBare g')
  (f:∀b∈ch,(b∈X.ex\/X.s₀.heap.objs.size<=b)/\b≠X.env.locals/\(∀x c,X.env.cells.lookup x=some c->c≠b)/\∀p∈X.pn++pins,p.1≠b):
  Inv X pins σ H' {s with heap:=h',gens:=g',drawn:=d',toks:=t'}:=by
 obtain⟨m,⟨o,F,C,k,r⟩,_⟩:=id I.loc
 obtain⟨y,g⟩:=u.any k I.free λz=>(f _ z).2.1 rfl
 exact I.step (ch:=ch) f (λb o g t a e n=>u.keep b o e n (λz=>(Qsq.mp (I.stkSub b z)).elim g t) a) (λb o _ _ a e n=>u.any e n a) (λb o a e n=>u.free b o e n a) (λb o a e=>u.there b o e a) u.tups u.frzs u.tbls (λA q=>by
  obtain⟨B,j,h,d,v⟩:=q
  rw[k] at d;cases d
  exact⟨_,j,h,g,v⟩) i l
def Inv.turned{t':Nat}{it:Addr}(I:Inv X pins σ H s)(k:∀b o,b≠it->s.heap.get? b=some o->h'.get? b=some o)(A:H it=none)(f:it≠X.env.locals)
  (g:it∈X.ex\/X.s₀.heap.objs.size<=it) (l:∀x c,X.env.cells.lookup x=some c->c≠it) (y:∀p∈X.pn++pins,p.1≠it):Inv X pins σ H {s with heap:=h',toks:=t'}:=by
 have d:∀b u,H b=some u->b≠it:=λb u e z=>by rw[z,A] at e;cases e
 refine I.step (g':=s.gens) (d':=s.drawn) (ch:= [it]) (λb t=> ?_) (λb o _ _ a e _=>k b o (λz=>a (by simp[z])) e) (λb o _ _ a e _=>⟨o.slots,k b o (λz=>a (by simp[z])) e⟩) (λ_ _ _ _ n=>n)
  (λb o a e=>⟨o,k b o (λz=>a (by simp[z])) e⟩) (λ_ _ e=>e) (λ_ _ _ e=>e) (λb B e=>⟨#[],by rw[e];simp⟩) (λm h=> ?_) (λb u e=> ?_) I.bare
 ·have e:b=it:=by simpa using t
  subst e
  exact⟨g,f,l,y⟩
 ·obtain⟨o,j,i,w,r⟩:=h
  exact⟨o,j,i,k _ o (Ne.symm f) w,r⟩
 ·refine(I.hok b u e).stay (λc v a q=>k c v ?_ q) (λ_ q=>q) λ_ _ q=>q
  rcases a with z|z
  ·rw[z];exact d b u e
  ·exact d c _ z
def Inv.tok(I:Inv X pins σ H s)(t:Nat):Inv X pins σ H {s with toks:=t}:=I.un (h':=s.heap) (t':=t) Un.refl I.hok
def Inv.kept{t':Nat}(I:Inv X pins σ H s)(k:∀b u,s.heap.get? b=some u->h'.get? b=some u):Inv X pins σ H {s with heap:=h',toks:=t'}:=I.un (Un.kept k) (I.hok.kept k)
def Inv.laid{a:Addr}{o:HO}{t':Nat}(I:Inv X pins σ H s)(k:∀b u,s.heap.get? b=some u->h'.get? b=some u)(c:s.heap.objs.size<=a)(new:cT X.prog X.w (upd H a o) h' a o):
  Inv X pins σ (upd H a o) {s with heap:=h',toks:=t'}:=I.un (Un.laid k c (I.hok.fresh c)) (I.hok.laid k c new)
def Inv.write{x e:Addr}{o:HO}{t':Nat}(I:Inv X pins σ H s)(c:LY (H x))(he:e=x\/H e=some (.own x))(k:∀b u,b≠e->s.heap.get? b=some u->h'.get? b=some u)(a:∃u,h'.get? e=some u)
  (new:cT X.prog X.w (upd H x o) h' x o):Inv X pins σ (upd H x o) {s with heap:=h',toks:=t'}:=I.un (Un.write c he k a) (I.hok.write c he k a new)
def Inv.pins_of{a:List (Addr×Obj)}(I:Inv X pins σ H s)(h:∀p∈a,s.heap.get? p.1=some p.2/\H p.1=none/\p.1≠X.env.locals/\p.1∉X.fs/\∀v,p.2.data≠.cell v):Inv X a σ H s:=
 ⟨I.ok,I.os,I.bare,I.base,I.loc,I.cell,I.free,I.freeC,λp b=>(mQa.mp b).elim (λz=>I.pin p (List.mem_append_left _ z)) (h p),I.hok,I.len⟩
def zN{N:List Str}(c:N.Nodup){i j:Nat}{x:Str}(a:N[i]?=some x)(b:N[j]?=some x):i=j:=by
 obtain⟨g,e⟩:=gQs.mp a
 obtain⟨f,d⟩:=gQs.mp b
 exact(List.getElem_inj c).mp (e.trans d.symm)
def C3{M:Model}{A:Around}{E:Value->Shared->Prop}{i:Nat}{x:Str}{v:V}{u:Value}{Q:Unit->Shared->Prop}(I:Inv X pins σ H s)(hN:X.N.Nodup)(hi:X.N[i]?=some x)(B:Loc X.env.scope x)(r:RelV v u)
  (h:∀s',Inv X pins (σ.set i (some v)) H s'->(∃a,Heap.SameBut a s.heap s'.heap/\(a=X.env.locals\/X.env.cells.lookup x=some a))->Q () s') (hf:X.fn x=true\/X.env.scope.names.lookup x=some .local:=by first|exact .inl rfl|exact .inr rfl|assumption):wpAny M A (storeName X.env x u) Q E s:=by
 obtain⟨m,hn,hl⟩:=id I.loc
 have Y:(X.env.scope.kind==.class||(X.env.scope.kind==.module&&X.env.locals !=X.env.globals))=false:=by rw[I.ok.kind];rfl
 have G:i<σ.length:=by rw[I.len];exact(gQs.mp hi).1
 have L:=I.cne
 have g:∀{a:Addr} {h':Heap},(∃o,s.heap.get? a=some o/\H a=none)->Heap.SameBut a s.heap h'->nN X.prog X.w H h':=λ{a h'} ha f b ob e=>by
  obtain⟨_,_,C⟩:=ha
  refine(I.hok b ob e).stay (λc w' t q=>(f.2 c ?_).trans q) (λ_ q=>q) λ_ _ q=>q
  rintro rfl
  rcases t with rfl|t
  ·rw[C] at e;cases e
  ·rw[C] at t;cases t
 rcases B with J|J
 ·refine wpAny_storeName_local J hn (λh' a1 f=> ?_) Y
  obtain⟨oL,_,_,a0,_⟩:=id hn
  refine h _ ⟨I.ok,I.os,I.bare,⟨λb o e n R B=> ?_,λb o e n R B=> ?_,I.base.free,λb o e B=> ?_,I.base.tups,I.base.frzs,I.base.tbls⟩,⟨_,a1,λj y v' l F e3=> ?_⟩,λy c e=> ?_,I.free,I.freeC,λp hp=> ?_,g ⟨oL,a0,I.free⟩ f,by simpa using I.len⟩ ⟨_,f,.inl rfl⟩
  ·exact(f.2 b (Qwq (Qqq (Qiq e) I.ok.above))).trans (I.base.keep b o e n R B)
  ·obtain⟨sl,l⟩:=I.base.slot b o e n R B
   exact⟨sl,(f.2 b (Qwq (Qqq (Qiq e) I.ok.above))).trans l⟩
  ·obtain⟨o',l⟩:=I.base.there b o e B
   exact⟨o',(f.2 b (Qwq (Qqq (Qiq e) I.ok.above))).trans l⟩
  ·by_cases K:j=i
   ·subst K
    rw[hi] at l;cases l
    rw[Qyq G] at F
    cases F
    exact⟨u,r,.inl ⟨J,by simp⟩⟩
   ·rw[QKq (Ne.symm K)] at F
    obtain⟨u',r',q⟩:=hl j y v' l F e3
    refine⟨u',r',?_⟩
    rcases q with⟨k,e⟩|⟨k,c,e,z⟩
    ·refine .inl ⟨k,?_⟩
     have:y≠x:=λe=>K (zN hN l (e▸hi))
     simp[this,e]
    ·exact .inr ⟨k,c,e,z.sameBut f (L y c e)⟩
  ·obtain⟨w',z⟩:=I.cell y c e
   exact⟨w',z.sameBut f (L y c e)⟩
  ·obtain⟨e,n,ne,nf,d⟩:=I.pin p hp
   exact⟨(f.2 p.1 ne).trans e,n,ne,nf,d⟩
 ·have P:X.fn x=true:=by
   rcases hf with z|z
   ·exact z
   ·rw[z] at J;cases J
  obtain⟨c,t⟩:=I.ok.has x (.inl J)
  obtain⟨w',z⟩:=I.cell x c t
  refine wpAny_storeName_cell I.ok.kind J t z (λh' W f=> ?_)
  obtain⟨oc,U,S⟩:=id z
  refine h {s with heap:=h'} ⟨I.ok,I.os,I.bare,⟨λb o e n R B=> ?_,λb o e n R B=> ?_,I.base.free,λb o e B=> ?_,I.base.tups,I.base.frzs,I.base.tbls⟩,⟨m,hn.sameBut f (Ne.symm (L x c t)),λj y v' l F e3=> ?_⟩,λy c' e=> ?_,I.free,I.freeC,λp hp=> ?_,g ⟨oc,U,I.freeC x c t⟩ f,by simpa using I.len⟩ ⟨c,f,.inr t⟩
  ·exact(f.2 b (Qwq (Qqq (Qiq e) (I.ok.cab x c P t)))).trans (I.base.keep b o e n R B)
  ·obtain⟨sl,l⟩:=I.base.slot b o e n R B
   exact⟨sl,(f.2 b (Qwq (Qqq (Qiq e) (I.ok.cab x c P t)))).trans l⟩
  ·obtain⟨o',l⟩:=I.base.there b o e B
   exact⟨o',(f.2 b (Qwq (Qqq (Qiq e) (I.ok.cab x c P t)))).trans l⟩
  ·by_cases K:j=i
   ·subst K
    rw[hi] at l;cases l
    rw[Qyq G] at F
    cases F
    exact⟨u,r,.inr ⟨.inl J,c,t,W⟩⟩
   ·rw[QKq (Ne.symm K)] at F
    obtain⟨u',r',q⟩:=hl j y v' l F e3
    refine⟨u',r',?_⟩
    rcases q with q|⟨k,c',e,z'⟩
    ·exact .inl q
    ·refine .inr ⟨k,c',e,z'.sameBut f ?_⟩
     rintro rfl
     exact K (zN hN l (I.ok.inj _ _ _ e t▸hi))
  ·by_cases Z:c'=c
   ·subst Z;exact⟨_,W⟩
   ·obtain⟨w2,z2⟩:=I.cell y c' e
    exact⟨w2,z2.sameBut f Z⟩
  ·obtain⟨e,n,ne,nf,d⟩:=I.pin p hp
   refine⟨(f.2 p.1 ?_).trans e,n,ne,nf,d⟩
   intro q
   rw[q,U] at e
   have q':oc=p.2:=QdQ e
   exact d w' (by rw[←q'];exact S)
def iz{M:Model}{A:Around}{E:Value->Shared->Prop}{i:Nat}{x:Str}{v:V}{u:Value}{Q:Unit->Shared->Prop}(I:Inv X pins σ H s)(b:X.N.Nodup)(hi:X.N[i]?=some x)(d:Loc X.env.scope x)(r:RelV v u)
  (h:∀a,Inv X pins (σ.set i (some v)) H a->Q () a) (e:X.fn x=true\/X.env.scope.names.lookup x=some .local:=by first|exact .inl rfl|exact .inr rfl|assumption):wpAny M A (storeName X.env x u) Q E s:=
 C3 I b hi d r (λa c _=>h a c) e
def Inv.call'{a:Shared}{ch:List Addr}(I:Inv X pins σ H s)(i:a.os=s.os)(u:Un (Ep X.stack) ch H H' s.heap a.heap)(f:nN X.prog X.w H' a.heap)(h:AllBare a.gens)
  (d:∀b∈ch,(b∈X.ex\/X.s₀.heap.objs.size<=b)/\b≠X.env.locals/\(∀x c,X.env.cells.lookup x=some c->c≠b)/\∀p∈X.pn++pins,p.1≠b):Inv X pins σ H' a:=by
 obtain⟨h',g',d',t',g⟩:=a
 have e:g=s.os:=i
 subst e
 exact I.call (g':=g') (t':=t') (d':=d') u f h d
end
abbrev XK:=Value->Option Addr->Hp->Prop
abbrev St:=List (Option V)
abbrev VK:=V->Hp->Prop
abbrev TE:=St->Hp->VK->Prop
abbrev TT:=St->Hp->(Bool->Hp->Prop)->Prop
abbrev TA:=St->Hp->(List V->Hp->Prop)->Prop
structure Ends where
 nx:St->Hp->Prop
 rt:VK
 bk:St->Hp->Prop:=λ_ _=>False
 ct:St->Hp->Prop:=λ_ _=>False
abbrev TS:=Ends->St->Hp->Prop
def EP(X:Cx)(a:List (Addr×Obj))(c:St)(Q:VK)(u:Value)(d:Shared):Prop:=∃v b,Inv X a c b d/\RelV v u/\Q v b
def TP(X:Cx)(a:List (Addr×Obj))(d:St)(Q:Bool->Hp->Prop)(b:Bool)(e:Shared):Prop:=∃c,Inv X a d c e/\Q b c
def AP(X:Cx)(a:List (Addr×Obj))(d:St)(Q:List V->Hp->Prop)(e:List Value)(f:Shared):Prop:=∃c b,Inv X a d b f/\bF c e/\Q c b
def SP(X:Cx)(b:List (Addr×Obj))(D:Ends)(f:Flow)(d:Shared):Prop:=
 match f with
 |.next=>∃a c,Inv X b a c d/\D.nx a c
 |.brk=>∃a c,Inv X b a c d/\D.bk a c
 |.cont=>∃a c,Inv X b a c d/\D.ct a c
 |.ret u=>∃v a c,Inv X b a c d/\RelV v u/\D.rt v c
def PE(X:Cx)(e:Expr)(t:TE):Prop:=
 ∀(a:List (Addr×Obj)) (s:Shared) (b:St) (H:Hp) (Q:VK),Inv X a b H s->t b H Q->wpAny (model X.prog X.w) X.A (eval e X.env) (EP X a b Q) X.xe s
def PT(X:Cx)(e:Expr)(t:TT):Prop:=
 ∀(a:List (Addr×Obj)) (s:Shared) (b:St) (H:Hp) (Q:Bool->Hp->Prop),Inv X a b H s->t b H Q->wpAny (model X.prog X.w) X.A (isTrue e X.env (eval e X.env)) (TP X a b Q) X.xe s
def PW(X:Cx)(e:Expr)(t:TT):Prop:=
 ∀(b:Sem Value) (a:List (Addr×Obj)) (s:Shared) (c:St) (H:Hp) (Q:Bool->Hp->Prop),Inv X a c H s->t c H Q->wpAny (model X.prog X.w) X.A (isTrue e X.env b) (TP X a c Q) X.xe s
def PW.pt{X:Cx}{e:Expr}{t:TT}(h:PW X e t):PT X e t:=h _
def PA(X:Cx)(d:List Expr)(t:TA):Prop:=
 ∀(c:Pos) (a:List (Addr×Obj)) (s:Shared) (b:St) (H:Hp) (Q:List V->Hp->Prop),Inv X a b H s->t b H Q->wpAny (model X.prog X.w) X.A (spliced (backTo c (starEach d X.env))) (AP X a b Q) X.xe s
def PS(X:Cx)(st:Stmt)(t:TS):Prop:=
 ∀(a:List (Addr×Obj)) (s:Shared) (b:St) (H:Hp) (D:Ends),Inv X a b H s->t D b H->wpAny (model X.prog X.w) X.A (exec st X.env) (SP X a D) X.xe s
def uF(X:Cx)(st:List Stmt)(t:TS):Prop:=
 ∀(a:List (Addr×Obj)) (s:Shared) (b:St) (H:Hp) (D:Ends),Inv X a b H s->t D b H->wpAny (model X.prog X.w) X.A (execs st X.env) (SP X a D) X.xe s
def c9{α:Type}{t:Sem α}{Q b:α->Shared->Prop}{M:Model}{A:Around}{E:Value->Shared->Prop}{s:Shared}(h:wpAny M A t Q E s)(c:∀a s,Q a s->b a s):wpAny M A t b E s:=QRq h c λ_ _ x=>x
section
variable{X:Cx}
def J9(i:Nat):TE:=λa H Q=>∃v,a[i]?=some (some v)/\Q v H
def tC(v:V):TE:=λ_ H Q=>Q v H
def Ei{i:Nat}{x:Str}{pos:Pos}(k:X.N[i]?=some x)(o:Ii X.env.scope x)(hd:(x==("__debug__":Str))=false:=by decide)(g:(x==("__classdict__":Str))=false:=by decide):PE X (.Name x pos) (J9 i):=by
 intro f s p H Q I h
 obtain⟨v,e,h⟩:=h
 obtain⟨m,q,hl⟩:=I.loc
 obtain⟨u,r,l⟩:=hl i x v k e o
 have d:EP X f p Q u s:=⟨v,H,I,r,h⟩
 rcases l with⟨b,n⟩|⟨b,c,j,a⟩
 ·exact wpAny_Name (wpAny_loadName_local I.ok.kind b q n d) hd
 ·rcases b with b|b
  ·exact wpAny_Name (wpAny_loadName_cell I.ok.kind b j a d) hd
  ·exact wpAny_Name (wpAny_loadName_free I.ok.kind b j a d g) hd
def Jn{i j pos}:PE X (.Constant (.int i) j pos) (tC (.int i)):=λ_ _ _ H _ I h=>wpAny_Constant_int ⟨.int i,H,I.tok _,⟨_,rfl⟩,h⟩
def K8{b j pos}:PE X (.Constant (.bool b) j pos) (tC (.bl b)):=λ_ _ _ H _ I h=>Constant_bool ⟨.bl b,H,I,rfl,h⟩
def IT{j pos}:PE X (.Constant .none j pos) (tC .non):=λ_ _ _ H _ I h=>Constant_none ⟨.non,H,I,rfl,h⟩
def IU{x j pos}:PE X (.Constant (.str x) j pos) (tC (.str x)):=λ_ _ _ H _ I h=>Calls.Constant_str ⟨.str x,H,I.tok _,⟨_,rfl⟩,h⟩
def Gl(X:Cx)(x:Str):Prop:=X.env.kindOf x=some .globalImplicit
def xp{E:Value->Shared->Prop}{a:List (Addr×Obj)}{s:Shared}{c:St}{H:Hp}{x:Str}{u:Value}{pos:Pos}{Q:Value->Shared->Prop}(I:Inv X a c H s)(b:Gl X x)(d:X.mg x=some u)(h:Q u s)
  (hd:(x==("__debug__":Str))=false:=by decide):wpAny (model X.prog X.w) X.A (eval (.Name x pos) X.env) Q E s:=
 Calls.Name_function_global I.ok.kind b (Calls.loadGlobal_global (by rw[I.ok.glob];exact I.mod.glob.keeps I.bk) d h) hd
def kG{E:Value->Shared->Prop}{a:List (Addr×Obj)}{s:Shared}{g:St}{H:Hp}{x:Str}{u:Value}{pos:Pos}{Q:Value->Shared->Prop}(I:Inv X a g H s)(b:Gl X x)(d:X.mg x=none)(e:bootBuiltins x=some u)(h:Q u s)
  (i:x≠"__name__":=by decide) (hd:(x==("__debug__":Str))=false:=by decide):wpAny (model X.prog X.w) X.A (eval (.Name x pos) X.env) Q E s:=by
 obtain⟨j,c,f⟩:=I.mod.blt
 exact Calls.Name_function_global I.ok.kind b (Calls.loadGlobal_builtin (by rw[I.ok.glob];exact I.mod.glob.keeps I.bk) d (by rw[I.ok.blt];exact c.keeps I.bk) ((f x i).trans e) h) hd
def xx{x:Str}{v:V}{u:Value}{pos:Pos}(a:Gl X x)(b:X.mg x=some u)(r:RelV v u)(hd:(x==("__debug__":Str))=false:=by decide):PE X (.Name x pos) (tC v):=
 λ_ _ _ H _ I h=>xp I a b ⟨v,H,I,r,h⟩ hd
def Hu{x:Str}{v:V}{u:Value}{pos:Pos}(a:Gl X x)(b:X.mg x=none)(c:bootBuiltins x=some u)(r:RelV v u)(d:x≠"__name__":=by decide)(hd:(x==("__debug__":Str))=false:=by decide):PE X (.Name x pos) (tC v):=
 λ_ _ _ H _ I h=>kG I a b c ⟨v,H,I,r,h⟩ d hd
variable{a b:Expr}{ta tb:TE}{pos:Pos}
variable{tA tB':TT}{rest:List Expr}
def Nt(t u:TT):TT:=λd H Q=>t d H λc H1=>if c=true then u d H1 Q else Q false H1
def Oo(t u:TT):TT:=λd H Q=>t d H λc H1=>if c=true then Q true H1 else u d H1 Q
def NA(t:TT):TT:=λd H Q=>t d H λc H1=>Q (!c) H1
def GV(g:PT X a tA):PW X (.BoolOp .And [a] pos) tA:=by
 intro j d s f H Q I h
 refine isTrue_and (c9 (g d s f H Q I h) λc i e=> ?_)
 cases c with
 |true=>exact isTrue_and_nil e
 |false=>exact e
def JK(g:PT X a tA):PW X (.BoolOp .Or [a] pos) tA:=by
 intro j d s f H Q I h
 refine isTrue_or (c9 (g d s f H Q I h) λc i e=> ?_)
 cases c with
 |false=>exact isTrue_or_nil e
 |true=>exact e
def JE(j:PT X a tA)(k:PW X (.BoolOp .And (b::rest) pos) tB'):PW X (.BoolOp .And (a::b::rest) pos) (Nt tA tB'):=by
 intro m d s e H Q I h
 refine isTrue_and (c9 (j d s e H _ I h) λc i l=> ?_)
 obtain⟨H1,f,g⟩:=l
 cases c with
 |true=>exact k m d i e H1 Q f g
 |false=>exact⟨H1,f,g⟩
def LN(j:PT X a tA)(k:PW X (.BoolOp .Or (b::rest) pos) tB'):PW X (.BoolOp .Or (a::b::rest) pos) (Oo tA tB'):=by
 intro m d s e H Q I h
 refine isTrue_or (c9 (j d s e H _ I h) λc i l=> ?_)
 obtain⟨H1,f,g⟩:=l
 cases c with
 |true=>exact⟨H1,f,g⟩
 |false=>exact k m d i e H1 Q f g
def II(f:PT X a tA):PT X (.UnaryOp .Not a pos) (NA tA):=by
 intro d s e H Q I h
 exact isTrue_not (f d s e H (λc H1=>Q (!c) H1) I h)
def L0(ta tb:TE):TE:=λd H Q=>ta d H λx H1=>∃c,x=.bl c/\if c=true then tb d H1 Q else Q (.bl false) H1
def IQ{op}{t:TE}(h:PE X a t):PE X (.BoolOp op [a] pos) t:=λc s d H Q I e=>BoolOp_one (h c s d H Q I e)
def IV(k:PE X a ta)(m:PE X (.BoolOp .And (b::rest) pos) tb):PE X (.BoolOp .And (a::b::rest) pos) (L0 ta tb):=by
 intro d s f H Q I h
 refine BoolOp_and (c9 (k d s f H _ I h) λv j l=> ?_)
 obtain⟨x,H1,g,i,e⟩:=l
 obtain⟨c,rfl,e⟩:=e
 cases i
 refine wpAny_truthy_bool ?_
 cases c with
 |true=>exact m d j f H1 Q g e
 |false=>exact⟨.bl false,H1,g,rfl,e⟩
def Os(t:TT)(ta tb:TE):TE:=λd H Q=>t d H λc H1=>if c=true then ta d H1 Q else tb d H1 Q
def Gc{c:Expr}(n:PT X c tA)(l:PE X a ta)(k:PE X b tb):PE X (.IfExp c a b pos) (Os tA ta tb):=by
 intro e s f H Q I h
 refine wpAny_IfExp (c9 (n e s f H _ I h) λd g m=> ?_)
 obtain⟨H1,i,j⟩:=m
 cases d with
 |true=>exact l e g f H1 Q i j
 |false=>exact k e g f H1 Q i j
end
def g6(K:PySem.W.Frag)(H:Hp)(a:Addr)(xs:List V):Prop:=
 Rd H a (.lst xs)∨
  ∃(o:Obj) (b:Array Value) (n:Nat),K.lookup a=some o/\o.cls=.type "list" /\o.dict=none/\o.data=.seq b n/\b.size<=sizeLine/\bF xs b.toList
def gJ(K:PySem.W.Frag)(H:Hp)(a:Addr)(xs:List V):Prop:=
 Rd H a (.tup xs)∨
  ∃(o:Obj) (b:Array Value) (n:Nat),K.lookup a=some o/\o.cls=.type "tuple" /\o.data=.seq b n/\b.size<=sizeLine/\bF xs b.toList
def Nw:Value->Option V
 |.none=>some .non
 |.bool b=>some (.bl b)
 |.int i _=>some (.int i)
 |.str x _=>some (.str x)
 |.bytes b _=>some (.byt b)
 |.float b _=>some (.flt b)
 |.ref a=>some (.ref a)
 |.type n=>some (.ty n)
 |_=>none
def RelV.abs{x:V}{u:Value}(r:RelV x u):Nw u=some x:=by
 cases x with
 |non=>cases r;rfl
 |bl _=>cases r;rfl
 |int _=>obtain⟨t,rfl⟩:=r;rfl
 |str _=>obtain⟨t,rfl⟩:=r;rfl
 |byt _=>obtain⟨t,rfl⟩:=r;rfl
 |flt _=>obtain⟨t,rfl⟩:=r;rfl
 |ref _=>cases r;rfl
 |ty _=>cases r;rfl
def RelV.inj{x y:V}{u:Value}(r:RelV x u)(q:RelV y u):x=y:=QdQ (r.abs.symm.trans q.abs)
theorem bF.inj:∀{xs ys:List V} {a:List Value},bF xs a->bF ys a->xs=ys
 |_,_,_,.nil,.nil=>rfl
 |_,_,_,.cons r t,.cons r' t'=>by rw[r.inj r',bF.inj t t']
section
variable{X:Cx}{pins:List (Addr×Obj)}{σ:St}{H:Hp}{s:Shared}{a:Addr}{xs ys:List V}
def g6.of{K:PySem.W.Frag}(h:H a=some (.lst xs)):g6 K H a xs:=.inl (.inl h)
def gJ.of{K:PySem.W.Frag}(h:H a=some (.tup xs)):gJ K H a xs:=.inl (.inl h)
def Inv.list(I:Inv X pins σ H s)(h:g6 X.K H a xs):∃b:List Value,bF xs b/\PlainL s.heap a b.toArray/\xs.length<=sizeLine:=by
 rcases h with h|⟨o,b,n,c,f,d,g,i,r⟩
 ·obtain⟨z,b,n,r,e⟩:=h.ok I.hok
  exact⟨b,r,⟨_,n,e,rfl,rfl,rfl⟩,z⟩
 ·refine⟨b.toList,r,⟨o,n,I.kIn a o c,f,d,by simpa using g⟩,?_⟩
  have e:=r.length
  simp only[Array.length_toList] at e
  omega
def Inv.tuple(I:Inv X pins σ H s)(h:gJ X.K H a xs):∃b:List Value,bF xs b/\IsTup s.heap a b.toArray/\xs.length<=sizeLine:=by
 rcases h with h|⟨o,b,n,c,d,f,g,r⟩
 ·obtain⟨z,b,r,p⟩:=h.ok I.hok
  exact⟨b,r,p.it,z⟩
 ·refine⟨b.toList,r,⟨o,I.kIn a o c,d,n,by simpa using f⟩,?_⟩
  have e:=r.length
  simp only[Array.length_toList] at e
  omega
def Inv.list_inj(I:Inv X pins σ H s)(h:g6 X.K H a xs)(h':g6 X.K H a ys):xs=ys:=by
 obtain⟨c,r,⟨o,n,e,_,_,d⟩,_⟩:=I.list h
 obtain⟨b,i,⟨k,l,f,_,_,g⟩,_⟩:=I.list h'
 rw[e] at f;cases f
 rw[d] at g
 injection g with j _
 have:c=b:=by simpa using congrArg Array.toList j
 subst this
 exact r.inj i
def Inv.tuple_inj(I:Inv X pins σ H s)(h:gJ X.K H a xs)(h':gJ X.K H a ys):xs=ys:=by
 obtain⟨c,r,⟨o,e,_,n,d⟩,_⟩:=I.tuple h
 obtain⟨b,i,⟨k,f,_,l,g⟩,_⟩:=I.tuple h'
 rw[e] at f;cases f
 rw[d] at g
 injection g with j _
 have:c=b:=by simpa using congrArg Array.toList j
 subst this
 exact r.inj i
end
abbrev Cx.wish(X:Cx)(E:Value->Shared->Prop):Cx:={X with xe:=E}
abbrev Cx.nox(X:Cx):Cx:=X.wish λ_ _=>False
def Cx.Ok.wish{X:Cx}(ok:X.Ok)(E:Value->Shared->Prop):(X.wish E).Ok:=
 ⟨ok.mod,ok.kind,ok.glob,ok.blt,ok.above,ok.inj,ok.has,ok.cab,ok.hd,ok.frames,ok.stk,ok.exf,ok.bs,ok.bsz,ok.noex,ok.exfs,ok.funs,ok.frf⟩
def Cx.Ok.unwish{X:Cx}{E:Value->Shared->Prop}(ok:(X.wish E).Ok):X.Ok:=
 ⟨ok.mod,ok.kind,ok.glob,ok.blt,ok.above,ok.inj,ok.has,ok.cab,ok.hd,ok.frames,ok.stk,ok.exf,ok.bs,ok.bsz,ok.noex,ok.exfs,ok.funs,ok.frf⟩
section
variable{X:Cx}{pins:List (Addr×Obj)}{σ:St}{H:Hp}{s:Shared}{E:Value->Shared->Prop}
def Inv.wish(I:Inv X pins σ H s)(E:Value->Shared->Prop):Inv (X.wish E) pins σ H s:=⟨I.ok.wish E,I.os,I.bare,I.base,I.loc,I.cell,I.free,I.freeC,I.pin,I.hok,I.len⟩
def Inv.unwish(I:Inv (X.wish E) pins σ H s):Inv X pins σ H s:=⟨I.ok.unwish,I.os,I.bare,I.base,I.loc,I.cell,I.free,I.freeC,I.pin,I.hok,I.len⟩
theorem SP.unwish{D:Ends}{f:Flow}{c:Shared}(h:SP (X.wish E) pins D f c):SP X pins D f c:=by
 cases f with
 |next=>obtain⟨a,b,I,q⟩:=h;exact⟨a,b,I.unwish,q⟩
 |brk=>obtain⟨a,b,I,q⟩:=h;exact⟨a,b,I.unwish,q⟩
 |cont=>obtain⟨a,b,I,q⟩:=h;exact⟨a,b,I.unwish,q⟩
 |ret u=>obtain⟨v,a,b,I,r,q⟩:=h;exact⟨v,a,b,I.unwish,r,q⟩
def uF.nox{st:List Stmt}{t:TS}(h:uF X.nox st t):uF X st t:=λpins s σ H D I a=>
 QRq (h pins s σ H D (I.wish _) a) (λ_ _ q=>q.unwish) λ_ _ z=>False.elim z
end
section
variable{X:Cx}{st:Stmt}{rest:List Stmt}{t u:TS}{e:Expr}{te:TE}{pos:Pos}
def L5:TS:=λD a H=>D.nx a H
def Nb(t u:TS):TS:=λD a H=>t {D with nx:=u D} a H
def GC:uF X [] L5:=λ_ _ a H _ I h=>wpAny_execs_nil ⟨a,H,I,h⟩
def FT(k:PS X st t)(d:uF X rest u):uF X (st::rest) (Nb t u):=by
 intro a s g H D I h
 refine wpAny_execs_cons (c9 (k a s g H {D with nx:=u D} I h) λf j q=> ?_)
 cases f with
 | next=>
   obtain⟨b,i,c,q⟩:=q
   exact d a j b i D c q
 |ret v=>exact q
 |brk=>exact q
 |cont=>exact q
def GQ(c:PS X st t):uF X [st] t:=by
 intro a s b H D I h
 refine wpAny_execs_cons (c9 (c a s b H D I h) λf d q=> ?_)
 cases f with
 |next=>exact wpAny_execs_nil q
 |ret v=>exact q
 |brk=>exact q
 |cont=>exact q
def Inv.quiet{a:List (Addr×Obj)}{b:St}{H:Hp}{s:Shared}(I:Inv X a b H s):interactive X.env=false:=by simp[interactive,I.ok.kind]
def L_(te:TE):TS:=λD a H=>te a H λ_ H1=>D.nx a H1
def GX(he:PE X e te)(f:swapsWith e none pos.line X.env=pure false:=by rfl):PS X (.Expr e pos) (L_ te):=by
 intro a s b H D I h
 exact wpAny_Expr_any (c9 (he a s b H _ I h) λv i ⟨x,H1,d,g,c⟩=>⟨b,H1,d,c⟩) I.quiet f
def M3(te:TE):TS:=λD a H=>te a H D.rt
def EA(he:PE X e te):PS X (.Return (some e) pos) (M3 te):=by
 intro a s b H D I h
 exact wpAny_Return_some (c9 (he a s b H _ I h) λv g ⟨x,H1,f,c,d⟩=>⟨x,b,H1,f,c,d⟩)
def M1(c:TT)(t u:TS):TS:=λD a H=>c a H λb H1=>if b=true then t D a H1 else u D a H1
def KW{c:Expr}{a b:List Stmt}{j:TT}(p:PT X c j)(m:uF X a t)(o:uF X b u):PS X (.If c a b pos) (M1 j t u):=by
 intro f s g H D I h
 refine wpAny_If (c9 (p f s g H _ I h) λd i n=> ?_)
 obtain⟨H1,l,k⟩:=n
 cases d with
 |true=>exact m f i g H1 D l k
 |false=>exact o f i g H1 D l k
def JB:TS:=λ_ _ _=>False
def Fc:PS X st JB:=λ_ _ _ _ _ _ h=>h.elim
end
abbrev TG:=V->St->Hp->(St->Hp->Prop)->Prop
abbrev G3:=List V->St->Hp->(St->Hp->Prop)->Prop
def PG(X:Cx)(a:Expr)(t:TG):Prop:=
 ∀ (b:List (Addr×Obj)) (s:Shared) (d:St) (H:Hp) (v:V) (u:Value) (Q:St->Hp->Prop),Inv X b d H s->RelV v u->t v d H Q→
   wpAny (model X.prog X.w) X.A (assign a X.env u) (λ_ f=>∃c e,Inv X b c e f/\Q c e) X.xe s
def Gq(X:Cx)(ts:List Expr)(t:G3):Prop:=
 ∀ (a:List (Addr×Obj)) (s:Shared) (c:St) (H:Hp) (e:List V) (f:List Value) (Q:St->Hp->Prop),Inv X a c H s->bF e f->t e c H Q→
   wpAny (model X.prog X.w) X.A (assignInOrder ((assignEach ts X.env).map (·.2)) f) (λ_ g=>∃b d,Inv X a b d g/\Q b d) X.xe s
abbrev Kb:=V->V->V->Hp->(Hp->Prop)->Prop
def LB(X:Cx)(t:Kb):Prop:=
 ∀ (a:List (Addr×Obj)) (s:Shared) (b:St) (H:Hp) (o i v:V) (d e u:Value) (Q:Hp->Prop),Inv X a b H s->RelV o d->RelV i e->RelV v u->t o i v H Q→
   wpAny (model X.prog X.w) X.A (setItem d e u) (λ_ f=>∃c,Inv X a b c f/\Q c) X.xe s
section
variable{X:Cx}{pos:Pos}
def oY(i:Nat):TG:=λv a H Q=>Q (a.set i (some v)) H
def xj{i:Nat}{x:Str}(b:X.N.Nodup)(hi:X.N[i]?=some x)(d:Loc X.env.scope x)(e:X.fn x=true\/X.env.scope.names.lookup x=some .local:=by first|exact .inl rfl|exact .inr rfl|assumption):PG X (.Name x pos) (oY i):=by
 intro a s f H v u Q I r h
 exact wpAny_assign_Name (iz I b hi d r (λg c=>⟨_,H,c,h⟩) e)
def Nh:G3:=λa b H Q=>a= []/\Q b H
def L6(t:TG)(u:G3):G3:=λd b H Q=>∃v r,d=v::r/\t v b H λa c=>u r a c Q
def GO:Gq X [] Nh:=by
 intro a s b H c d Q I r h
 obtain⟨e,h⟩:=h
 subst e
 cases r
 exact assignInOrder_nil ⟨b,H,I,h⟩
def FG{e:Expr}{b:List Expr}{t:TG}{u:G3}(d:PG X e t)(l:Gq X b u)
  (o:(assignEach (e::b) X.env).map (·.2)=assign e X.env::(assignEach b X.env).map (·.2):=by rfl):Gq X (e::b) (L6 t u):=by
 intro a s m H p w Q I r h
 obtain⟨v,q,i,h⟩:=h
 subst i
 cases r with
 | cons r k=>
   rw[o]
   refine assignInOrder_cons (c9 (d a s m H _ _ _ I r h) λ_ f j=> ?_)
   obtain⟨c,H1,n,g⟩:=j
   exact l a f c H1 _ _ Q n k g
def Nk(K:PySem.W.Frag)(n:Nat)(t:G3):TG:=λv c H Q=>∃a b,v=.ref a/\gJ K H a b/\b.length=n/\t b c H Q
def IL{d:List Expr}{k:Nat}{t:G3}{n:Nat}(A:X.calm=true)(h:Gq X d t)
  (B:(assignEach d X.env).length=n:=by rfl) (f:(assignEach d X.env).findIdx? (·.1)=none:=by rfl):PG X (.Tuple d k pos) (Nk X.K n t):=by
 intro c s j H v u Q I r g
 obtain⟨a,x,m,w,hl,g⟩:=g
 subst m
 cases r
 obtain⟨q,i,p,C⟩:=I.tuple w
 refine assign_Tuple_tuple (I.ok.hd A) p (by simp[B,←hl,i.length]) f λy l=> ?_
 have z:Inv X c j H {s with heap:=y}:=I.kept (t':=s.toks) λb o e=>l b o (Qwq (Qiq e)) e
 exact h c _ j H x _ Q z (by simpa using i) g
def KQ(c b:TE)(t:Kb):TG:=λv a H Q=>c a H λo H1=>b a H1 λi H2=>t o i v H2 λH3=>Q a H3
def JQ{o i:Expr}{f g:TE}{t:Kb}(z:PE X o f)(hi:PE X i g)(C:LB X t)
  (m:∀v,assign (.Subscript o i pos) X.env v=(do
   let b←holding [v] (eval o X.env)
   let c←holding [v,b] (eval i X.env)
   standAt pos
   holding [v,b,c] (setItem b c v)
   release [v,b,c] []):=by intro _;rfl):PG X (.Subscript o i pos) (KQ f g t):=by
 intro a s e H v u Q I r h
 rw[m]
 refine Qaq (QLq (c9 (z a s e H _ I h) λb k d=> ?_))
 obtain⟨x,H1,A,j,l⟩:=d
 refine Qaq (QLq (c9 (hi a k e H1 _ A l) λc p d=> ?_))
 obtain⟨y,H2,q,B,w⟩:=d
 refine Qaq (wpAny_standAt (Qaq (QLq (c9 (C a p e H2 x y v b c u _ q j B r w) λ_ G d=> ?_))))
 obtain⟨H3,n,F⟩:=d
 exact wpAny_release ⟨e,H3,n,F⟩
def DB(b:TE)(g:TG):TS:=λD a H=>b a H λx H1=>g x a H1 D.nx
def Ko{b e:Expr}{c:TE}{g:TG}(he:PE X e c)(f:PG X b g)(o:swapsWithSole [b] e pos.line X.env=pure false:=by rfl)(m:swappedStores [b] e X.env=pure none:=by rfl)
  (j:(assignEach [b] X.env).map (·.2)= [assign b X.env]:=by rfl):PS X (.Assign [b] e pos) (DB c g):=by
 intro a s d H D I h
 refine wpAny_Assign_stores (c9 (he a s d H _ I h) λv k ⟨x,H1,n,i,l⟩=> ?_) o m
 rw[j]
 exact c9 (f a k d H1 x v _ n i l) λ_ p q=>q
def Kw{i:Nat}{x:Str}{e:Expr}{c:TE}{a:Pos}(d:X.N.Nodup)(hi:X.N[i]?=some x)(j:Loc X.env.scope x)(he:PE X e c)(o:swapsWith e (some (.Name x a)) pos.line X.env=pure false:=by rfl)(k:X.fn x=true\/X.env.scope.names.lookup x=some .local:=by first|exact .inl rfl|exact .inr rfl|assumption):
  PS X (.Assign [.Name x a] e pos) (DB c (oY i)):=by
 intro b s m H D I h
 refine wpAny_Assign_Name (c9 (he b s m H _ I h) λv p ⟨y,H1,n,f,g⟩=> ?_) o
 exact iz n d hi j f (λq l=>⟨_,H1,l,g⟩) k
def Lm(i j:Nat)(c:TA):TS:=λD a H=>c a H λb H1=>∃v w,b= [v,w]/\D.nx ((a.set i (some v)).set j (some w)) H1
def Av{i j:Nat}{x y:Str}{a b:Expr}{B:TA}{k r n:Pos}{kt k2 pt2}(hc:X.calm=true)(u:X.N.Nodup)(hi:X.N[i]?=some x)(M:X.N[j]?=some y)(t:i≠j)
  (C:X.env.scope.names.lookup x=some .local) (z:X.env.scope.names.lookup y=some .local) (P:PA X [a,b] B)
  (S:swappedStores [.Tuple [.Name x k,.Name y r] kt n] (.Tuple [a,b] k2 pt2) X.env=pure (some [x,y]))
  (hs:swapsWithSole [.Tuple [.Name x k,.Name y r] kt n] (.Tuple [a,b] k2 pt2) pos.line X.env=pure false:=by rfl):
  PS X (.Assign [.Tuple [.Name x k,.Name y r] kt n] (.Tuple [a,b] k2 pt2) pos) (Lm i j B):=by
 intro c s F H D I h
 rw[exec_Assign_arm]
 refine Qaq (wpAny_standAt ?_)
 rw[hs]
 refine Qaq (Qgq ?_)
 rw[Quq (by decide)]
 refine Qaq (Tuple_ (c9 (P _ c s F H _ I h) λY d U=> ?_))
 obtain⟨vs,H1,Z,K,l⟩:=U
 obtain⟨v,w,Q,l⟩:=l
 subst Q
 obtain⟨f,g,rfl,rv,rw'⟩:∃f g,Y= [f,g]/\RelV v f/\RelV w g:=by
  cases K with
  | cons p q=>
    cases q with
    | cons J L=>
      cases L
      exact⟨_,_,rfl,p,J⟩
 refine QhQ ?_ (by show 2<=_;decide)
 have W:Inv X c F H1 {d with heap:=d.heap.push {cls:=.type "tuple",data:=.seq [f,g].toArray}}:=Z.kept (t':=d.toks) λb o e=>Qcq _ e
 rw[S]
 refine Qaq (Qgq ?_)
 show wpAny (model X.prog X.w) X.A (do rule "assign.swapped-stores";let items←unpackItems (.ref d.heap.objs.size) 2 none;assignInOrder [λv=>bindName X.env y v,λv=>bindName X.env x v] items.reverse;pure Flow.next) _ _ _
 refine Qaq (wpAny_rule (Qaq (unpackItems_tuple (items:= #[f,g]) (I.ok.hd hc) (IsTup.new d.heap _) λh' m=> ?_)))
 have R:=W.kept (h':=h') (t':=d.toks) λb o e=>m b o (Qwq (Qiq e)) e
 show wpAny _ _ (assignInOrder [λv=>bindName X.env y v,λv=>bindName X.env x v] [g,f] >>= λ_=>pure Flow.next) _ _ _
 refine Qaq (assignInOrder_cons (wpAny_bindName (iz R u M (.inl z) rw' (λs2 I4=> ?_) (.inr z))))
 refine assignInOrder_cons (wpAny_bindName (iz I4 u hi (.inl C) rv (λs3 G=>assignInOrder_nil (Qgq ?_)) (.inr C)))
 rw[List.set_comm _ _ (Ne.symm t)] at G
 exact⟨_,H1,G,l⟩
end
structure It where
 go:Nat->Hp->Prop
 yld:Nat->Hp->V->Hp->Prop
 stop:Nat->Hp->Prop
def qg(X:Cx)(a:List (Addr×Obj))(H:Hp)(b:Addr):Prop:=
 H b=none/\b≠X.env.locals/\b∉X.fs/\(b∈X.ex\/X.s₀.heap.objs.size<=b)/\(∀x c,X.env.cells.lookup x=some c->c≠b)/\∀p∈X.pn++a,p.1≠b
def Inv.fpOk{X:Cx}{a:List (Addr×Obj)}{g:St}{H f:Hp}{s:Shared}{b:Addr}(I:Inv X a g H s)(d:s.heap.objs.size<=b)(h:f b=none):qg X a f b:=by
 refine⟨h,Nat.ne_of_gt (Qqq I.lt d),I.nofs d,.inr (QAq I.sz d),λx c e z=> ?_,λp i z=> ?_⟩
 ·obtain⟨v,q⟩:=I.cell x c e
  exact absurd (Qqq q.lt (by rw[z];exact d)) (Nat.lt_irrefl _)
 ·exact absurd (Qqq (Qiq (I.pin p i).1) (by rw[z];exact d)) (Nat.lt_irrefl _)
structure Turn(P:Program)(w:World)(K:PySem.W.Frag)(tg:Expr)(J:It)(fp:List Addr)(it:Addr)(tn:Nat->Heap->Prop):Prop where
 mem:it∈fp
 obj:∀i h,tn i h->∀b∈fp,∃o,h.get? b=some o/\∀v,o.data≠.cell v
 keep:∀i h h',tn i h->(∀b∈fp,∀o,h.get? b=some o->h'.get? b=some o)->tn i h'
 item:∀(X:Cx),X.prog=P->X.w=w->X.K=K->X.calm=true->∀(i:Nat) (pins:List (Addr×Obj)) (s:Shared) (σ:St) (H:Hp) (E:Value->Shared->Prop),Inv X pins σ H s->(∀b∈fp,qg X pins H b)->tn i s.heap->J.go i H→
  wpAny (model P w) X.A (pyNext (.ref it)) (λr s1=>∃u,r=some u∧
   wpAny (model P w) X.A (letOwnedTupleGo tg (.ref it) u) (λ_ s2=>∃x H',Inv X pins σ H' s2/\RelV x u/\J.yld i H x H'/\tn (i+1) s2.heap/\∀b∈fp,H' b=none) E s1) E s
 done:∀(X:Cx),X.prog=P->X.w=w->X.K=K->X.calm=true->∀(i:Nat) (pins:List (Addr×Obj)) (s:Shared) (σ:St) (H:Hp) (E:Value->Shared->Prop),Inv X pins σ H s->(∀b∈fp,qg X pins H b)->tn i s.heap->J.stop i H→
  wpAny (model P w) X.A (pyNext (.ref it)) (λr s1=>r=none/\Inv X pins σ H s1) E s
 self:∀(A:Around) (i:Nat) (s:Shared) (Q:Value->Shared->Prop) (E:Value->Shared->Prop),tn i s.heap->Q (.ref it) s->wpAny (model P w) A (pyIter (.ref it)) Q E s
abbrev TI:=St->Hp->(It->Hp->Prop)->Prop
def Ob(X:Cx)(a:List (Addr×Obj))(i:St)(j:Expr)(R:It->Hp->Prop)(c:Value)(g:Shared):Prop:=
 ∃(e:Addr) (h:List Addr) (f:Nat->Heap->Prop) (J:It) (d:Hp),c=.ref e/\Inv X a i d g/\Turn X.prog X.w X.K j J h e f/\f 0 g.heap/\(∀b∈h,qg X a d b)/\R J d
def PI(X:Cx)(e b:Expr)(f:TI):Prop:=
 ∀ (a:List (Addr×Obj)) (s:Shared) (c:St) (H:Hp) (R:It->Hp->Prop),Inv X a c H s->f c H R→
   wpAny (model X.prog X.w) X.A (eval b X.env) (λv d=>wpAny (model X.prog X.w) X.A (pyIter v) (Ob X a c e R) X.xe d) X.xe s
def FJ{M:Model}{A:Around}{E:Value->Shared->Prop}{s:Shared}{b:Expr}{it:Addr}{u:Value}{o:Obj}{n:String}{vs:Array Value}{Q:Unit->Shared->Prop}(c:s.heap.get? it=some o)(d:o.cls=.type n)(hd:o.data=.fields vs)
    (e: ["enumerate","zip","dict_itemiterator","dict_reverseitemiterator","odict_iterator","itertools.zip_longest","itertools.pairwise"].contains n=false) (a:Q () s):wpAny M A (letOwnedTupleGo b (.ref it) u) Q E s:=by
  unfold letOwnedTupleGo
  cases b <;>first
    |exact Qgq a
    |(cases u <;>first
        |exact Qgq a
        |(refine Qaq (wpAny_load c ?_)
          rw[d,hd]
          show wpAny M A (if (["enumerate","zip","dict_itemiterator","dict_reverseitemiterator","odict_iterator","itertools.zip_longest","itertools.pairwise"].contains n&&vs[0]? ==some (rawInt _))=true then _ else _) Q E s
          rw[Quq (by intro h;rw[e,Bool.false_and] at h;cases h)]
          exact Qgq a))
def NN(K:PySem.W.Frag)(a:Addr):It:=
 ⟨λi H=>∃b x,g6 K H a b/\b[i]?=some x,λi H x c=>c=H/\∀b,g6 K H a b->b[i]?=some x,λi H=>∃b,g6 K H a b/\b.length<=i⟩
def NM(K:PySem.W.Frag)(a:Addr):It:=
 ⟨λi H=>∃b x,gJ K H a b/\b[i]?=some x,λi H x c=>c=H/\∀b,gJ K H a b->b[i]?=some x,λi H=>∃b,gJ K H a b/\b.length<=i⟩
def Mj(lo:Int)(n:Nat):It:=⟨λi _=>i<n,λi H x a=>a=H/\x=.int (lo+i),λi _=>n<=i⟩
def Dt{P:Program}{w:World}{K:PySem.W.Frag}{tg:Expr}(a it:Addr):Turn P w K tg (NN K a) [it] it (λi h=>h.IsListIter it a i) where
 mem:=by simp
 obj:=λi h f b j=>by
  have e:b=it:=by simpa using j
  subst e
  obtain⟨o,e,c,d⟩:=f
  exact⟨o,e,λv z=>by rw[d] at z;cases z⟩
 keep:=λi h q f k=>f.at λo e=>k it (by simp) o e
 item:=by
  intro X F J t R i g s Q H E I m f r
  subst F J t
  obtain⟨xs,x,n,B⟩:=r
  obtain⟨L,y,p,U⟩:=I.list n
  obtain⟨u,Z,Y⟩:=y.get B
  obtain⟨C,M,f2,G,A,N⟩:=m it (by simp)
  refine wpAny_pyNext_list_item f p.isList (x:=u) (by simpa using Z) λq l sb=> ?_
  have I1:Inv X g Q H {s with heap:=q}:=I.turned (t':=s.toks) (λb o j e=>(sb.2 b j).trans e) C M G A N
  obtain⟨o,e,c,d⟩:=id l
  exact⟨u,rfl,FJ (s:={s with heap:=q}) e c d (by decide) ⟨x,H,I1,Y,⟨rfl,λys S=>by rw[I.list_inj S n];exact B⟩,l,λb j=>(m b j).1⟩⟩
 done:=by
  intro X F J t R i g s Q H E I m f r
  subst F J t
  obtain⟨xs,n,B⟩:=r
  obtain⟨L,y,p,U⟩:=I.list n
  obtain⟨C,M,f2,G,A,N⟩:=m it (by simp)
  have hl:=y.length
  exact wpAny_pyNext_list_end (I.ok.hd R) f p.isList (by simp;omega) λq eb=>⟨rfl,I.turned (t':=s.toks) (λb o j e=>eb b o j e) C M G A N⟩
 self:=λ_ _ _ _ _ f h=>wpAny_pyIter_listiter f h
def BI{P:Program}{w:World}{K:PySem.W.Frag}{tg:Expr}(a it:Addr):Turn P w K tg (NM K a) [it] it (λi h=>h.IsTupleIter it a i) where
 mem:=by simp
 obj:=λi h f b l=>by
  have e:b=it:=by simpa using l
  subst e
  obtain⟨o,e,c,d⟩:=f
  exact⟨o,e,λv z=>by rw[d] at z;cases z⟩
 keep:=λi h r f k=>f.at λo e=>k it (by simp) o e
 item:=by
  intro X G L y R i g s Q H E I n f t
  subst G L y
  obtain⟨xs,x,q,C⟩:=t
  obtain⟨j,A,p,U⟩:=I.tuple q
  obtain⟨u,Z,Y⟩:=A.get C
  obtain⟨F,M,f2,J,B,N⟩:=n it (by simp)
  refine wpAny_pyNext_tuple_item f (show s.heap.IsTuple a j.toArray from p) (x:=u) (by simpa using Z) λr m sb=> ?_
  have I1:Inv X g Q H {s with heap:=r}:=I.turned (t':=s.toks) (λb o l e=>(sb.2 b l).trans e) F M J B N
  obtain⟨o,e,c,d⟩:=id m
  exact⟨u,rfl,FJ (s:={s with heap:=r}) e c d (by decide) ⟨x,H,I1,Y,⟨rfl,λys S=>by rw[I.tuple_inj S q];exact C⟩,m,λb l=>(n b l).1⟩⟩
 done:=by
  intro X G L y R i g s Q H E I n f t
  subst G L y
  obtain⟨xs,q,C⟩:=t
  obtain⟨j,A,p,U⟩:=I.tuple q
  obtain⟨F,M,f2,J,B,N⟩:=n it (by simp)
  have hl:=A.length
  exact wpAny_pyNext_tuple_end (I.ok.hd R) f (show s.heap.IsTuple a j.toArray from p) (by simp;omega) λr eb=>⟨rfl,I.turned (t':=s.toks) (λb o l e=>eb b o l e) F M J B N⟩
 self:=λ_ _ _ _ _ f h=>wpAny_pyIter_tupleiter f h
def Bs{P:Program}{w:World}{K:PySem.W.Frag}{J:Expr}(it:Addr)(lo:Int)(n:Nat):Turn P w K J (Mj lo n) [it] it (λi h=>IsRangeIter h it (lo+(i:Nat)*1) ((n:Int)-(i:Nat)) 1) where
 mem:=by simp
 obj:=λi h a b d=>by
  have e:b=it:=by simpa using d
  subst e
  exact⟨_,a,λv z=>by
   have N:Data.fields _=Data.cell v:=z
   cases N⟩
 keep:=λi h j a k=>k it (by simp) _ a
 item:=by
  intro X r x m B i c s F H E I g a l
  subst r x m
  obtain⟨q,y,L,u,p,A⟩:=g it (by simp)
  have W:=Walks.range (prog:=X.prog) (w:=X.w) (I.ok.hd B) it lo 1 n
  refine W.item i s _ _ l a λv j C G f Q=> ?_
  obtain⟨t,rfl⟩:=G
  have R:Inv X c F H {s with heap:=j,toks:=C}:=I.turned (λb o d e=>Q b o (by simpa using d) e) q y u p A
  refine⟨_,rfl,FJ (s:={s with heap:=j,toks:=C}) (n:="range_iterator") f rfl rfl (by decide) ⟨.int (lo+i),H,R,⟨t,?_⟩,⟨rfl,rfl⟩,f,λb d=>(g b d).1⟩⟩
  rw[Int.mul_one]
 done:=by
  intro X r x m B i c s F H E I g a l
  subst r x m
  obtain⟨q,y,L,u,p,A⟩:=g it (by simp)
  exact wpAny_pyNext_range_end (I.ok.hd B) a (by have:n<=i:=l;omega) λj M=>⟨rfl,I.turned (t':=s.toks) (λb o d e=>M b o d e) q y u p A⟩
 self:=λ_ _ _ _ _ a h=>wpAny_pyIter_rangeiter a h
section
variable{X:Cx}{tg:Expr}
def Ez{a:List (Addr×Obj)}{d:St}{H:Hp}{s:Shared}{R:It->Hp->Prop}{E:Value->Shared->Prop}{lo hi:Int}{t u v:Tok}{c:Nat}(I:Inv X a d H s)(g: -(2^62)<=lo)(k:lo<2^62)(m: -(2^62)<=hi)(j:hi<2^62)
  (q:R (Mj lo (hi-lo).toNat) H):wpAny (model X.prog X.w) X.A (pyIter (.ref s.heap.objs.size)) (Ob X a d tg R) E {s with heap:=s.heap.push {cls:=.type "range",data:=.fields #[.int lo t,.int hi u,.int 1 v]},toks:=c}:=by
 refine wpAny_pyIter_range (IsRange.new ..) (small_one g k m j) ?_
 have f:Inv X a d H {s with heap:=s.heap.push {cls:=.type "range",data:=.fields #[.int lo t,.int hi u,.int 1 v]},toks:=c}:=I.kept λb o e=>Qcq _ e
 refine⟨(s.heap.push {cls:=.type "range",data:=.fields #[.int lo t,.int hi u,.int 1 v]}).objs.size,[(s.heap.push {cls:=.type "range",data:=.fields #[.int lo t,.int hi u,.int 1 v]}).objs.size],_,_,H,rfl,
  f.kept (t':=c) λb o e=>Qcq _ e,Bs _ lo (hi-lo).toNat,?_,λb l=> ?_,q⟩
 ·have h:lo+((0:Nat):Int)*1=lo:=by simp
  have i:(((hi-lo).toNat:Nat):Int)-((0:Nat):Int)=Builtin.Range.rangeSize lo hi 1:=by rw[rangeSize_one];split <;>omega
  show IsRangeIter _ _ (lo+((0:Nat):Int)*1) ((((hi-lo).toNat:Nat):Int)-((0:Nat):Int)) 1
  rw[h,i]
  exact Qrq _ rfl
 ·have e:b=(s.heap.push {cls:=.type "range",data:=.fields #[.int lo t,.int hi u,.int 1 v]}).objs.size:=by simpa using l
  subst e
  exact f.fpOk (Qmq _) (f.hok.fresh (Qmq _))
def Mc(c:TA):TI:=λa H R=>c a H λb H1=>∃j:Int,b= [.int j]/\ -(2^62)<=j/\j<2^62/\R (Mj 0 j.toNat) H1
def CV{a:Expr}{d:TA}{p pos:Pos}(f:Gl X "range")(i:X.mg "range"=none)(k:PA X [a] d)(u:starEach [a] X.env= [(false,eval a X.env)]:=by rfl):PI X tg (.Call (.Name "range" p) [a] [] pos) (Mc d):=by
 intro b s n H R I h
 refine Call_ (kG I f i boot_range (PyProof.Rows.callWith_type1 (c9 (k pos b s n H _ I h) λx v ⟨w,H1,o,g,c⟩=> ?_) u rfl))
 obtain⟨j,e,c,m,q⟩:=c
 subst e
 cases g with
 | cons r l=>
   cases l
   obtain⟨t,rfl⟩:=r
   exact call_range_1 (Ez o (by omega) (by omega) c m (by simpa using q))
def MZ(f:TI)(g:TG)(h:TS):TS:=λD a H=>f a H λJ H1=>∃W:Nat->Nat->St->Hp->Prop,(∃m,W 0 m a H1)/\∀i m a H,W i m a H→
 (J.stop i H/\D.nx a H)\/(J.go i H/\∃N:St->Hp->Prop,(∀c b,N c b->∃e,e<m/\W (i+1) e c b)/\∀x b,J.yld i H x b->g x a b λd H2=>h {D with nx:=N,ct:=N,bk:=D.nx} d H2)
def mK(fp:List Addr)(h:Heap):List (Addr×Obj):=fp.filterMap λb=>(h.get? b).map λo=>(b,o)
def dm{fp:List Addr}{h:Heap}{b:Addr}{o:Obj}(a:b∈fp)(e:h.get? b=some o):(b,o)∈mK fp h:=List.mem_filterMap.mpr ⟨b,a,by rw[e];rfl⟩
def Dv{fp:List Addr}{h:Heap}{p:Addr×Obj}(d:p∈mK fp h):p.1∈fp/\h.get? p.1=some p.2:=by
 obtain⟨b,c,e⟩:=List.mem_filterMap.mp d
 cases q:h.get? b with
 |none=>rw[q] at e;cases e
 | some o=>
   rw[q] at e
   have a:(b,o)=p:=QdQ e
   subst a
   exact⟨c,q⟩
def Inv.pinned{a:List (Addr×Obj)}{f:St}{H:Hp}{s:Shared}{fp:List Addr}(I:Inv X a f H s)(i:∀b∈fp,qg X a H b)(m:∀b∈fp,∃o,s.heap.get? b=some o/\∀v,o.data≠.cell v):Inv X (a++mK fp s.heap) f H s:=
 I.pins_of λp h=>(mQa.mp h).elim (λz=>I.pin p (Qoq _ z)) λz=>by
  obtain⟨g,e⟩:=Dv z
  obtain⟨j,l,k,_⟩:=i p.1 g
  obtain⟨o,c,d⟩:=m p.1 g
  rw[e] at c;cases c
  exact⟨e,j,l,k,d⟩
def Inv.unpinned{a d:List (Addr×Obj)}{b:St}{H:Hp}{s:Shared}(I:Inv X (a++d) b H s):Inv X a b H s:=I.pins_of λp c=>I.pin p (Qoq _ (List.mem_append_left _ c))
def JD{j:Expr}{B:List Stmt}{wi:TI}{g:TG}{tb:TS}{pos:Pos}(K:PassesOwn (model X.prog X.w) X.A X.env X.xe)(hc:X.calm=true)(hi:PI X tg j wi)(hg:PG X tg g)(l:uF X B tb)
  (hs:∀x,foldedSetIterable j X.env x=pure x:=by intro _;rfl):PS X (.For tg j B [] pos) (MZ wi g tb):=by
 intro a s σ H D I h
 refine wpAny_For (c9 (hi a s σ H _ I h) λv s1 h1=>c9 h1 λa2 s2 h2=> ?_) hs
 obtain⟨it,S,tn,J,H2,e,I2,T,Y,f2,W,⟨m0,w0⟩,L⟩:=h2
 subst e
 have t:∀{z:Hp},(∀b∈S,z b=none)->∀b∈S,qg X a z b:=λhn b l=>⟨hn b l,(f2 b l).2⟩
 refine codeAny_forLoop_any (λn s'=>∃i q z,Inv X a q z s'/\tn i s'.heap/\(∀b∈S,z b=none)/\W i n q z) ?_ m0 ⟨0,σ,H2,I2,Y,λb l=>(f2 b l).1,w0⟩
 rintro n s3 ⟨i,y,H3,I3,M,R,w3⟩
 rcases L i n y H3 w3 with⟨stop,qn⟩|⟨go,N,hN,P⟩
 ·refine wpAny_passesOwn K (c9 (T.done X rfl rfl rfl hc i a s3 y H3 X.xe I3 (t R) M stop) λr s4 F=> ?_)
  obtain⟨Z,I4⟩:=F
  subst Z
  exact wpAny_execs_nil ⟨y,H3,I4,qn⟩
 ·refine wpAny_passesOwn K (c9 (T.item X rfl rfl rfl hc i a s3 y H3 X.xe I3 (t R) M go) λr s4 F=> ?_)
  obtain⟨u,Z,h4⟩:=F
  subst Z
  refine wpAny_passesOwn K (c9 h4 λ_ s5 F=> ?_)
  obtain⟨x,H5,I5,r5,y5,G,U⟩:=F
  have a0:=I5.pinned (t U) (T.obj _ _ G)
  refine wpAny_passesOwn K (c9 (hg _ s5 y H5 x u _ a0 r5 (P x H5 y5)) λ_ s6 F=> ?_)
  obtain⟨a1,H6,I6,q6⟩:=F
  refine wpAny_passesOwn K (c9 (l _ s6 a1 H6 _ I6 q6) λf s7 C=> ?_)
  have again:∀{c:St} {k:Hp},Inv X (a++mK S s5.heap) c k s7->N c k->∃m,m<n/\∃i q z,Inv X a q z s7/\tn i s7.heap/\(∀b∈S,z b=none)/\W i m q z:=λ{c k} p Q=>by
   obtain⟨m',hm,w7⟩:=hN c k Q
   refine⟨m',hm,i+1,c,k,p.unpinned,T.keep _ _ _ G λb l o e=>(p.pin (b,o) (Qoq _ (Qoq _ (dm l e)))).1,λb l=> ?_,w7⟩
   obtain⟨o,e,d⟩:=T.obj _ _ G b l
   exact(p.pin (b,o) (Qoq _ (Qoq _ (dm l e)))).2.1
  cases f with
  |next=>obtain⟨c,k,p,Q⟩:=C;exact again p Q
  |cont=>obtain⟨c,k,p,Q⟩:=C;exact again p Q
  |brk=>obtain⟨c,k,p,C⟩:=C;exact⟨c,k,p.unpinned,C⟩
  |ret v=>obtain⟨x7,c,k,p,r7,C⟩:=C;exact⟨x7,c,k,p.unpinned,r7,C⟩
end
abbrev R2:=V->V->Hp->VK->Prop
def i4(X:Cx)(f:Value->Value->Sem Value)(r:R2):Prop:=
 ∀ (a:List (Addr×Obj)) (s:Shared) (b:St) (H:Hp) (x y:V) (v u:Value) (Q:VK),Inv X a b H s->RelV x v->RelV y u->r x y H Q→
   wpAny (model X.prog X.w) X.A (f v u) (EP X a b Q) X.xe s
def Ni(X:Cx)(f:Value->Sem Value)(r:V->Hp->VK->Prop):Prop:=
 ∀ (a:List (Addr×Obj)) (s:Shared) (b:St) (H:Hp) (x:V) (v:Value) (Q:VK),Inv X a b H s->RelV x v->r x H Q→
   wpAny (model X.prog X.w) X.A (f v) (EP X a b Q) X.xe s
def gk(X:Cx)(f:Value)(r:List V->Hp->VK->Prop):Prop:=
 ∀ (a:List (Addr×Obj)) (s:Shared) (c:St) (H:Hp) (b:List V) (d:List Value) (Q:VK),Inv X a c H s->bF b d->r b H Q→
   wpAny (model X.prog X.w) X.A (call f d) (EP X a c Q) X.xe s
def MX(X:Cx)(r:V->Hp->(Bool->Hp->Prop)->Prop):Prop:=
 ∀ (a:List (Addr×Obj)) (s:Shared) (b:St) (H:Hp) (x:V) (v:Value) (Q:Bool->Hp->Prop),Inv X a b H s->RelV x v->r x H Q→
   wpAny (model X.prog X.w) X.A (truthy v) (TP X a b Q) X.xe s
def FV(r:R2)(c b:TE):TE:=λa H Q=>c a H λx H1=>b a H1 λy H2=>r x y H2 Q
def Ow(r:V->Hp->VK->Prop)(b:TE):TE:=λa H Q=>b a H λx H1=>r x H1 Q
def rI(C:Int->Int->Prop)(g:Int->Int->V):R2:=λx y H Q=>∃i j,x=.int i/\y=.int j/\C i j/\Q (g i j) H
def DS(g:Int->Int->V):R2:=λx y H Q=>∃i j,x=.int i/\y=.int j/\Q (g i j) H
def rU(g:Int->V):V->Hp->VK->Prop:=λx H Q=>∃i,x=.int i/\Q (g i) H
section
variable{X:Cx}{a b c:Expr}{ta tb tc:TE}{pos:Pos}
def IK(o:PE X a ta)(t:PE X b tb){d:List (Addr×Obj)}{s:Shared}{e:St}{H:Hp}{R:V->V->Hp->Prop}(I:Inv X d e H s)
  (h:ta e H λx H1=>tb e H1 λy H2=>R x y H2) {Q:Value->Shared->Prop} {f:Value->Value->Sem Value}
  (p:∀v u j x y H2,Inv X d e H2 j->RelV x v->RelV y u->R x y H2->wpAny (model X.prog X.w) X.A (f v u) Q X.xe j):
  wpAny (model X.prog X.w) X.A (eval a X.env) (λv i=>wpAny (model X.prog X.w) X.A (eval b X.env) (λu g=>wpAny (model X.prog X.w) X.A (f v u) Q X.xe g) X.xe i) X.xe s:=by
 refine c9 (o d s e H _ I h) λv m k=> ?_
 obtain⟨x,H1,z,l,n⟩:=k
 refine c9 (t d m e H1 _ z n) λu j k=> ?_
 obtain⟨y,H2,q,B,r⟩:=k
 exact p v u j x y H2 q l B r
def qZ{e:Operator}{r:R2}(m:i4 X (binaryOp e) r)(g:PE X a ta)(n:PE X b tb):PE X (.BinOp a e b pos) (FV r ta tb):=by
 intro d s l H Q I h
 exact wpAny_BinOp (IK g n I h λv u j x y H2 k i f q=>m d j l H2 x y v u Q k i f q)
def Ls{f:UnaryOp}{r:V->Hp->VK->Prop}(i:Ni X (unaryOp f) r)(j:PE X a ta):PE X (.UnaryOp f a pos) (Ow r ta):=by
 intro d s e H Q I h
 exact UnaryOp_ (c9 (j d s e H _ I h) λv g ⟨x,H1,k,m,l⟩=>i d g e H1 x v Q k m l)
def Mp{f:Value->Value->Sem Value}{C:Int->Int->Prop}{g:Int->Int->Int}
  (d:∀(i j:Int) (t u:Tok) (s:Shared) (Q:Value->Shared->Prop) (E:Value->Shared->Prop),C i j->Q (.int (g i j) s.toks) {s with toks:=s.toks+1}->wpAny (model X.prog X.w) X.A (f (.int i t) (.int j u)) Q E s):
  i4 X f (rI C λi j=>.int (g i j)):=by
 intro e s n H x y v u Q I m k h
 obtain⟨i,j,rfl,rfl,hc,q⟩:=h
 obtain⟨t,rfl⟩:=m
 obtain⟨l,rfl⟩:=k
 exact d i j t l s _ _ hc ⟨.int (g i j),H,I.tok _,⟨_,rfl⟩,q⟩
def LR{f:Value->Value->Sem Value}{g:Int->Int->Int}
  (d:∀(i j:Int) (t u:Tok) (s:Shared) (Q:Value->Shared->Prop) (E:Value->Shared->Prop),Q (.int (g i j) s.toks) {s with toks:=s.toks+1}->wpAny (model X.prog X.w) X.A (f (.int i t) (.int j u)) Q E s):
  i4 X f (DS λi j=>.int (g i j)):=by
 intro e s n H x y v u Q I m k h
 obtain⟨i,j,rfl,rfl,q⟩:=h
 obtain⟨t,rfl⟩:=m
 obtain⟨l,rfl⟩:=k
 exact d i j t l s _ _ ⟨.int (g i j),H,I.tok _,⟨_,rfl⟩,q⟩
def GP{f:Value->Value->Sem Value}{g:Int->Int->Bool}
  (d:∀(i j:Int) (t u:Tok) (s:Shared) (Q:Value->Shared->Prop) (E:Value->Shared->Prop),Q (.bool (g i j)) s->wpAny (model X.prog X.w) X.A (f (.int i t) (.int j u)) Q E s):
  i4 X f (DS λi j=>.bl (g i j)):=by
 intro e s n H x y v u Q I m k h
 obtain⟨i,j,rfl,rfl,q⟩:=h
 obtain⟨t,rfl⟩:=m
 obtain⟨l,rfl⟩:=k
 exact d i j t l s _ _ ⟨.bl (g i j),H,I,rfl,q⟩
def EK(i j:Int):Prop:=0<j/\j<1073741824
def F4(i j:Int):Prop:=0<=j/\j<=1000000/\i.natAbs<2^64
def Ha(i j:Int):Prop:=(-(2^64)<i/\i<2^64)\/(-(2^64)<j/\j<2^64)
def Ha.ok{i j:Int}(h:Ha i j):IntMulOk i j:=by
 rcases h with⟨e,d⟩|⟨e,d⟩
 ·exact .of_left (intBits_le_64 e d)
 ·exact .of_right (intBits_le_64 e d)
def Jj:i4 X (binaryOp .Add) (DS λi j=>.int (i+j)):=LR λ_ _ _ _ _ _ _ q=>add_int q
def Jx:i4 X (binaryOp .Sub) (DS λi j=>.int (i-j)):=LR λ_ _ _ _ _ _ _ q=>sub_int q
def G0:i4 X (binaryOp .FloorDiv) (rI EK λi j=>.int (i/j)):=Mp λi j _ _ _ _ _ d q=>by
 have f:(0:Int)<j:=d.1
 have e:j<1073741824:=d.2
 exact floordiv_int (by omega) (by rw[Int.fdiv_eq_ediv_of_nonneg i (by omega)];exact q) (.inl (PyProof.noPylong_small (by omega)))
def JS:i4 X (binaryOp .Mod) (rI (λ_ j=>0<j) λi j=>.int (i%j)):=Mp λi j _ _ _ _ _ d q=>by
 have e:(0:Int)<j:=d
 exact mod_int' (by omega) (by rw[Int.fmod_eq_emod_of_nonneg i (by omega)];exact q)
def J4:i4 X (binaryOp .Pow) (rI F4 λi j=>.int (i^j.toNat)):=Mp λ_ _ _ _ _ _ _ d q=>pow_int_small d.1 d.2.1 d.2.2 q
def Ou{f:Value->Sem Value}{g:Int->Int}
  (d:∀(i:Int) (t:Tok) (s:Shared) (Q:Value->Shared->Prop) (E:Value->Shared->Prop),Q (.int (g i) s.toks) {s with toks:=s.toks+1}->wpAny (model X.prog X.w) X.A (f (.int i t)) Q E s):
  Ni X f (rU λi=>.int (g i)):=by
 intro e s k H x v Q I j h
 obtain⟨i,rfl,q⟩:=h
 obtain⟨t,rfl⟩:=j
 exact d i t s _ _ ⟨.int (g i),H,I.tok _,⟨_,rfl⟩,q⟩
def Jr:Ni X (unaryOp .USub) (rU λi=>.int (-i)):=Ou λ_ _ _ _ _ q=>neg_int q
end
def AU:V->V->Bool
 |.non,.non=>true|.non,.int _=>true|.int _,.non=>true|.non,.bl _=>true|.bl _,.non=>true|.non,.str _=>true|.str _,.non=>true
 |.int _,.int _=>true|.bl _,.bl _=>true|.str _,.str _=>true|.byt _,.byt _=>true
 |.int _,.str _=>true|.str _,.int _=>true|.bl _,.str _=>true|.str _,.bl _=>true
 |_,_=>false
def N2:R2:=λx y H Q=>AU x y=true/\Q (.bl (decide (x=y))) H
def Oa:R2:=λx y H Q=>AU x y=true/\Q (.bl (!decide (x=y))) H
def Cd{i j:Int}:decide (V.int i=V.int j)=(i==j):=by
 rw[Bool.eq_iff_iff]
 simp
def Ge{i j:Bool}:decide (V.bl i=V.bl j)=(i==j):=by
 rw[Bool.eq_iff_iff]
 simp
def Co{i j:Str}:decide (V.str i=V.str j)=(i==j):=by
 rw[Bool.eq_iff_iff]
 simp
def BW{i j:Array UInt8}:decide (V.byt i=V.byt j)=(i.toList==j.toList):=by
 rw[Bool.eq_iff_iff]
 cases i
 cases j
 simp
section
variable{X:Cx}{a b c:Expr}{ta tb tc:TE}{pos:Pos}
def bR{d:List (Addr×Obj)}{f:St}{H:Hp}{s:Shared}{Q:VK}{k g:Bool}(I:Inv X d f H s)(q:Q (.bl k) H)(e:k=g):EP X d f Q (.bool g) s:=by
 subst e
 exact⟨.bl k,H,I,rfl,q⟩
def zG:i4 X (compareOp .Eq) N2:=by
 intro k s l H x y v u Q I g d h
 obtain⟨f,q⟩:=h
 cases x with
 | non=>
   cases g
   cases y with
   |non=>cases d;exact PySem.EqNone.eq_none_none (bR I q (by simp))
   |bl j=>cases d;exact PySem.EqNone.eq_none_bool (bR I q (by simp))
   |int j=>obtain⟨e,rfl⟩:=d;exact PySem.EqNone.eq_none_int (bR I q (by simp))
   |str j=>obtain⟨e,rfl⟩:=d;exact PySem.EqNone.eq_none_str (bR I q (by simp))
   |_=>exact absurd (show false=true from f) Qtq
 | bl i=>
   cases g
   cases y with
   |non=>cases d;exact PySem.EqNone.eq_bool_none (bR I q (by simp))
   |bl j=>cases d;exact eq_bool (bR I q Ge)
   |str j=>obtain⟨e,rfl⟩:=d;exact PySem.EqMixed.eq_bool_str (bR I q (by simp))
   |_=>exact absurd (show false=true from f) Qtq
 | int i=>
   obtain⟨t,rfl⟩:=g
   cases y with
   |non=>cases d;exact PySem.EqNone.eq_int_none (bR I q (by simp))
   |int j=>obtain⟨e,rfl⟩:=d;exact eq_int (bR I q Cd)
   |str j=>obtain⟨e,rfl⟩:=d;exact PySem.EqMixed.eq_int_str (bR I q (by simp))
   |_=>exact absurd (show false=true from f) Qtq
 | str i=>
   obtain⟨t,rfl⟩:=g
   cases y with
   |non=>cases d;exact PySem.EqNone.eq_str_none (bR I q (by simp))
   |bl j=>cases d;exact PySem.EqMixed.eq_str_bool (bR I q (by simp))
   |int j=>obtain⟨e,rfl⟩:=d;exact PySem.EqMixed.eq_str_int (bR I q (by simp))
   |str j=>obtain⟨e,rfl⟩:=d;exact eq_str (bR I q Co)
   |_=>exact absurd (show false=true from f) Qtq
 | byt i=>
   obtain⟨t,rfl⟩:=g
   cases y with
   |byt j=>obtain⟨e,rfl⟩:=d;exact PySem.W.eq_bytes (bR I q BW)
   |_=>exact absurd (show false=true from f) Qtq
 |_=>cases y <;>exact absurd (show false=true from f) Qtq
def NT:i4 X (compareOp .NotEq) Oa:=by
 intro k s l H x y v u Q I g d h
 obtain⟨f,q⟩:=h
 cases x with
 | non=>
   cases g
   cases y with
   |non=>cases d;exact PySem.EqNone.ne_none_none (bR I q (by simp))
   |bl j=>cases d;exact PySem.EqNone.ne_none_bool (bR I q (by simp))
   |int j=>obtain⟨e,rfl⟩:=d;exact PySem.EqNone.ne_none_int (bR I q (by simp))
   |str j=>obtain⟨e,rfl⟩:=d;exact PySem.EqNone.ne_none_str (bR I q (by simp))
   |_=>exact absurd (show false=true from f) Qtq
 | bl i=>
   cases g
   cases y with
   |non=>cases d;exact PySem.EqNone.ne_bool_none (bR I q (by simp))
   |bl j=>cases d;exact ne_bool (bR I q (congrArg not Ge))
   |str j=>obtain⟨e,rfl⟩:=d;exact PySem.EqMixed.ne_bool_str (bR I q (by simp))
   |_=>exact absurd (show false=true from f) Qtq
 | int i=>
   obtain⟨t,rfl⟩:=g
   cases y with
   |non=>cases d;exact PySem.EqNone.ne_int_none (bR I q (by simp))
   |int j=>obtain⟨e,rfl⟩:=d;exact ne_int (bR I q (congrArg not Cd))
   |str j=>obtain⟨e,rfl⟩:=d;exact PySem.EqMixed.ne_int_str (bR I q (by simp))
   |_=>exact absurd (show false=true from f) Qtq
 | str i=>
   obtain⟨t,rfl⟩:=g
   cases y with
   |non=>cases d;exact PySem.EqNone.ne_str_none (bR I q (by simp))
   |bl j=>cases d;exact PySem.EqMixed.ne_str_bool (bR I q (by simp))
   |int j=>obtain⟨e,rfl⟩:=d;exact PySem.EqMixed.ne_str_int (bR I q (by simp))
   |str j=>obtain⟨e,rfl⟩:=d;exact ne_str (bR I q (congrArg not Co))
   |_=>exact absurd (show false=true from f) Qtq
 | byt i=>
   obtain⟨t,rfl⟩:=g
   cases y with
   |byt j=>obtain⟨e,rfl⟩:=d;exact PySem.W.ne_bytes (bR I q (congrArg not BW))
   |_=>exact absurd (show false=true from f) Qtq
 |_=>cases y <;>exact absurd (show false=true from f) Qtq
def Fg:i4 X (compareOp .Lt) (DS λi j=>.bl (decide (i<j))):=GP λ_ _ _ _ _ _ _ q=>lt_int q
def NX:i4 X (compareOp .LtE) (DS λi j=>.bl (decide (i<=j))):=GP λ_ _ _ _ _ _ _ q=>le_int q
def Oi:i4 X (compareOp .Gt) (DS λi j=>.bl (decide (j<i))):=GP λ_ _ _ _ _ _ _ q=>gt_int q
def Og:i4 X (compareOp .GtE) (DS λi j=>.bl (decide (j<=i))):=GP λ_ _ _ _ _ _ _ q=>ge_int q
def MK:i4 X (compareOp .Is) (λx y H Q=>y=.non/\Q (.bl (decide (x=.non))) H):=by
 intro d s g H x y v u Q I e f h
 obtain⟨rfl,q⟩:=h
 cases f
 refine is_none_gen (bR I q ?_)
 cases x <;>first
  |(cases e;rfl)
  |(obtain⟨t,rfl⟩:=e;rfl)
def Mt:i4 X (compareOp .IsNot) (λx y H Q=>y=.non/\Q (.bl (!decide (x=.non))) H):=by
 intro d s g H x y v u Q I e f h
 obtain⟨rfl,q⟩:=h
 cases f
 refine isnot_none_gen (bR I q ?_)
 cases x <;>first
  |(cases e;rfl)
  |(obtain⟨t,rfl⟩:=e;rfl)
def i4.or{f:Value->Value->Sem Value}{r i:R2}(h:i4 X f r)(h':i4 X f i):i4 X f (λx y H Q=>r x y H Q\/i x y H Q):=by
 intro d s g H x y v u Q I j e q
 rcases q with q|q
 ·exact h d s g H x y v u Q I j e q
 ·exact h' d s g H x y v u Q I j e q
def eW(b:Expr){d:CmpOp}(h:d≠.In:=by decide)(e:d≠.NotIn:=by decide):behindInMarks d b=false:=by
 have g:(d==CmpOp.In)=false:=by cases d <;>first|rfl|exact absurd rfl h
 have f:(d==CmpOp.NotIn)=false:=by cases d <;>first|rfl|exact absurd rfl e
 cases b <;>simp[behindInMarks,g,f]
def B3{e:CmpOp}{r:R2}(n:i4 X (compareOp e) r)(i:PE X a ta)(o:PE X b tb)(g:behindInMarks e b=false):PE X (.Compare a [e] [b] pos) (FV r ta tb):=by
 intro d s m H Q I h
 exact wpAny_Compare1 (IK i o I h λv u k x y H2 l j f q=>n d k m H2 x y v u Q l j f q) g
def Fw(t:TE):TT:=λd H Q=>t d H λx e=>∃k,x=.bl k/\Q k e
def iH{f:CmpOp}{r:R2}(A:i4 X (compareOp f) r)(m:PE X a ta)(B:PE X b tb)(l:behindInMarks f b=false):PT X (.Compare a [f] [b] pos) (Fw (FV r ta tb)):=by
 intro d s g H Q I h
 refine wpAny_isTrue_Compare1 (c9 (m d s g H _ I h) λv j ⟨x,H1,C,i,n⟩=>c9 (B d j g H1 _ C n) λu q ⟨y,H2,t,F,w⟩=>
  c9 (A d q g H2 x y v u _ t i F w) λc J ⟨z,H3,p,o,k,e,G⟩=> ?_) l
 subst e
 cases o
 exact wpAny_truthy_bool ⟨H3,p,G⟩
def Jd(K:PySem.W.Frag)(x:V)(H:Hp)(k:Bool):Prop:=
 match x with
 |.non=>k=false
 |.bl b=>k=b
 |.int i=>k=(i !=0)
 |.str y=>y.length<=sizeLine/\k=((y.length:Int) !=0)
 |.byt y=>y.size<=sizeLine/\k=((y.size:Int) !=0)
 |.ref p=>(∃d,g6 K H p d/\k= !d.isEmpty)\/(∃d,gJ K H p d/\k= !d.isEmpty)\/∃e,H p=some (.dK e)/\k= !e.isEmpty
 |_=>False
def BA{κ:Type}{kvs:List (κ×V)}{vs:List (κ×Value)}(r:KV kvs vs):(!vs.isEmpty)= !kvs.isEmpty:=by
 cases r <;>rfl
def sk{xs:List V}{d:List Value}(r:bF xs d):(!d.toArray.isEmpty)= !xs.isEmpty:=by
 cases r <;>simp
def k_:(sizeLine:Nat)<2^63:=by rw[sizeLine_eq];decide
def J8:MX X (λx H Q=>∃k,Jd X.K x H k/\Q k H):=by
 intro B s G H x v Q I l h
 obtain⟨k,e,q⟩:=h
 have hl:=k_
 have J:sizeLine=16777216:=sizeLine_eq
 cases x with
 | non=>
   cases l
   have d:k=false:=e
   subst d
   exact truthy_none ⟨H,I,q⟩
 | bl b=>
   cases l
   have d:k=b:=e
   subst d
   exact wpAny_truthy_bool ⟨H,I,q⟩
 | int i=>
   obtain⟨t,rfl⟩:=l
   have d:k=(i !=0):=e
   subst d
   exact PySem.P.truthy_int ⟨H,I,q⟩
 | str y=>
   obtain⟨t,rfl⟩:=l
   obtain⟨F,d⟩:y.length<=sizeLine/\k=((y.length:Int) !=0):=e
   subst d
   exact PySem.P.truthy_str (by omega) ⟨H,I.tok _,q⟩
 | byt y=>
   obtain⟨t,rfl⟩:=l
   obtain⟨F,d⟩:y.size<=sizeLine/\k=((y.size:Int) !=0):=e
   subst d
   exact PySem.W.truthy_bytes (by omega) ⟨H,I.tok _,q⟩
 | ref p=>
   cases l
   have d:(∃j,g6 X.K H p j/\k= !j.isEmpty)\/(∃j,gJ X.K H p j/\k= !j.isEmpty)\/∃f,H p=some (.dK f)/\k= !f.isEmpty:=e
   rcases d with⟨j,n,d⟩|⟨j,n,d⟩|⟨f,n,d⟩
   · subst d
     obtain⟨u,r,z,A⟩:=I.list n
     have g:=r.length
     exact wpAny_truthy_list z.isList (by simp only[Qjq];omega) ⟨H,I.tok _,by rw[sk r];exact q⟩
   · subst d
     obtain⟨u,r,z,A⟩:=I.tuple n
     have g:=r.length
     exact truthy_tuple z (by simp only[Qjq];omega) ⟨H,I.tok _,by rw[sk r];exact q⟩
   · subst d
     obtain⟨A,C,o,r,m⟩:f.length<=sizeLine/\(p==sysModules)=false/\∃o,KV f o/\s.heap.DictOf (bP X.prog X.w) p o:=I.hok p _ n
     have g:f.length=o.length:=Paired.length r
     exact wpAny_truthy_dict C m (by omega) ⟨H,I.tok _,by rw[BA r];exact q⟩
 |_=>exact(show False from e).elim
def FD(m:PE X a ta)(he:∀d,isTrue a X.env d=(do let v←d;standAt a.pos;holding [v] (truthy v))):
  PT X a (λf H Q=>ta f H λx g=>∃k,Jd X.K x g k/\Q k g):=by
 intro e s f H Q I h
 exact isTrue_plain (c9 (m e s f H _ I h) λv j ⟨x,H1,n,i,l⟩=>J8 e j f H1 x v Q n i l) (he _)
def Bj:i4 X (binaryOp .Add) (λx y H Q=>∃i j,x=.str i/\y=.str j/\i.length+j.length<=sizeLine/\Q (.str (i++j)) H):=by
 intro d s k H x y v u Q I g e h
 obtain⟨i,j,rfl,rfl,hz,q⟩:=h
 obtain⟨t,rfl⟩:=g
 obtain⟨f,rfl⟩:=e
 exact add_str (λf l=>⟨.str (i++j),H,I.tok _,⟨_,rfl⟩,q⟩) hz
def vals1{x:V}{d:List Value}(r:bF [x] d):∃u,d= [u]/\RelV x u:=by
 cases r with
 |cons f e=>cases e;exact⟨_,rfl,f⟩
def vals2{x y:V}{d:List Value}(r:bF [x,y] d):∃u e,d= [u,e]/\RelV x u/\RelV y e:=by
 cases r with
 | cons h g=>
   cases g with
   |cons i f=>cases f;exact⟨_,_,rfl,h,i⟩
def KE(f:X.calm=true):gk X (.builtin "max") (λxs H Q=>∃i j,xs= [.int i,.int j]/\Q (.int (if j>i then j else i)) H):=by
 intro e s m H xs n Q I r h
 obtain⟨i,j,rfl,q⟩:=h
 obtain⟨u,g,rfl,⟨t,rfl⟩,⟨t',rfl⟩⟩:=vals2 r
 refine max_two_ints (I.ok.hd f) λo l k=>⟨_,H,I.kept k,?_,q⟩
 by_cases d:j>i
 ·rw[Qhq d,Qhq d];exact⟨_,rfl⟩
 ·rw[Quq d,Quq d];exact⟨_,rfl⟩
def KA(f:X.calm=true):gk X (.builtin "min") (λxs H Q=>∃i j,xs= [.int i,.int j]/\Q (.int (if j<i then j else i)) H):=by
 intro e s m H xs n Q I r h
 obtain⟨i,j,rfl,q⟩:=h
 obtain⟨u,g,rfl,⟨t,rfl⟩,⟨t',rfl⟩⟩:=vals2 r
 refine min_two_ints (I.ok.hd f) λo l k=>⟨_,H,I.kept k,?_,q⟩
 by_cases d:j<i
 ·rw[Qhq d,Qhq d];exact⟨_,rfl⟩
 ·rw[Quq d,Quq d];exact⟨_,rfl⟩
def KL:gk X (.type "int") (λxs H Q=>(∃i,xs= [.int i]/\Q (.int i) H)\/∃k,xs= [.bl k]/\Q (.int (if k then 1 else 0)) H):=by
 intro d s e H xs f Q I r h
 rcases h with⟨i,rfl,q⟩|⟨k,rfl,q⟩
 ·obtain⟨u,rfl,t,rfl⟩:=vals1 r
  exact call_int_int ⟨.int i,H,I,⟨_,rfl⟩,q⟩
 ·obtain⟨u,rfl,r1⟩:=vals1 r
  cases r1
  exact call_int_bool ⟨.int (if k then 1 else 0),H,I.tok _,⟨_,rfl⟩,q⟩
end
structure Jk(h:Heap)(x dx C:Addr)(mA:Str->Option Value):Prop where
 obj:h.get? x=some (PySem.W.instObj C dx)
 ns:h.Ns1 dx mA
 ne:dx≠x
def D_{h:Heap}{d:Addr}{c:Str->Option Value}(n:h.Ns1 d c):∃g,h.get? d=some g/\∀name,PySem.W.lookIn name g=some (c name):=by
 obtain⟨o,f,r,m,p,l,_,k⟩:=n
 refine⟨o,m,λname=> ?_⟩
 have e:=k name
 unfold nsFind findBy at e
 rw[←Array.find?_toList] at e
 unfold PySem.W.lookIn
 rw[p]
 dsimp only
 split
 ·rename_i y q
  rw[q] at e
  exact congrArg some e
 ·rename_i q
  rw[q] at e
  have a:f.toList.any (·.refKey)=false:=by
   rw[List.any_eq_false]
   intro y i
   obtain⟨z,t,b⟩:=l y (Array.mem_toList_iff.mp i)
   simp[DictEntry.refKey,b]
  have j:¬f.toList.any (·.refKey)=true:=by rw[a];exact Qtq
  rw[Quq j]
  exact congrArg some e
def Jk.look{h:Heap}{x c C:Addr}{b:Str->Option Value}(I:Jk h x c C b):∃a,PySem.W.InstAt h x (PySem.W.instObj C c) C (some a)/\∀name,PySem.W.lookIn name a=some (b name):=
 let ⟨a,ho,hl⟩:=D_ I.ns
 ⟨a,⟨I.obj,rfl,rfl,ho⟩,hl⟩
def tf.some_of{v:V}{o:Option Value}(r:tf (some v) o):∃u,o=some u/\RelV v u:=by
 cases o with
 |none=>exact(show False from r).elim
 |some u=>exact⟨u,rfl,r⟩
section
variable{P:Program}{w:World}{H H':Hp}{h h':Heap}{a C dx:Addr}{fs fs':List (Str×V)}
def Hq(c:nN P w H h)(e:H a=some (.ins C dx fs)):∃b,Jk h a dx C b/\(∀f,tf (fs.lookup f) (b f))/\PySem.Within b (fs.map (·.1))/\fs.length<=1000/\H dx=some (.own a):=by
 obtain⟨d,z,g,i,b,n,r,q⟩:=(show cT P w H h a (.ins C dx fs) from c a _ e)
 exact⟨b,⟨i,n,g⟩,r,q,z,d⟩
end
structure ML(K:PySem.W.Frag)(C:Addr):Prop where
 pg:PySem.W.plainGet K C Str.empty=true
 hd:PySem.W.hasDictIn K C=true
 po:PySem.W.plainOver K C=true
 sa:PySem.W.findIn K (.ref C) "__setattr__"=some (some (.builtin "object.__setattr__"))
def ML.get{K:PySem.W.Frag}{C:Addr}(c:ML K C)(f:Str):PySem.W.plainGet K C f=true:=c.pg
section
variable{X:Cx}{pins:List (Addr×Obj)}{σ:St}{H:Hp}{s:Shared}{A:Around}{E:Value->Shared->Prop}{Q:Value->Shared->Prop}{c:Value}{b:Bool}
inductive pV(K:PySem.W.Frag)(H:Hp):V->Value->Prop where
 |non:pV K H .non (.type "NoneType")
 |bl (x:Bool):pV K H (.bl x) (.type "bool")
 |int (i:Int):pV K H (.int i) (.type "int")
 |str (x:Str):pV K H (.str x) (.type "str")
 |flt (x:UInt64):pV K H (.flt x) (.type "float")
 |lst {a:Addr} {xs:List V} (e:H a=some (.lst xs)):pV K H (.ref a) (.type "list")
 |frz {a:Addr} {o:Obj} {xs:List V} (e:H a=some (.frz o (.lst xs))):pV K H (.ref a) (.type "list")
 |tup {a:Addr} {xs:List V} (e:H a=some (.tup xs)):pV K H (.ref a) (.type "tuple")
 |dK {a:Addr} {kvs:List (Key×V)} (e:H a=some (.dK kvs)):pV K H (.ref a) (.type "dict")
 |dT {a:Addr} {kvs:List (List Key×V)} (e:H a=some (.dT kvs)):pV K H (.ref a) (.type "dict")
 |ins {a C dx:Addr} {fs:List (Str×V)} (e:H a=some (.ins C dx fs)) (cl:ML K C) (ha:PySem.W.findIn K (.ref C) "__class__"=some (some (.builtin "object.__class__")))
   (hn:PySem.W.specialIn K (.builtin "object.__class__") "__get__"=some (some (.builtin "getset_descriptor.__get__"))) (htk:PySem.W.takesIn K (.builtin "object.__class__")=some true)
   (hm:PySem.W.mroIn K C (.type "object")=some true):pV K H (.ref a) (.ref C)
def C2{x:V}{u t:Value}(I:Inv X pins σ H s)(d:RelV x u)(l:pV X.K H x t)(e:PySem.W.kitOne X.K t c=some b)(h:∀m,Q (.bool b) {s with toks:=m}):
  wpAny (model X.prog X.w) A (call (.builtin "isinstance") [u,c]) Q E s:=by
 cases l with
 |non=>cases (show u=Value.none from d);exact PySem.W.kia_one PySem.W.kitx_none I.kIn True.intro e (λz=>nomatch z) h
 |bl y=>cases (show u=Value.bool y from d);exact PySem.W.kia_one PySem.W.kitx_bool I.kIn True.intro e (λz=>nomatch z) h
 |int i=>obtain⟨t,q⟩:=(show∃t,u=Value.int i t from d);cases q;exact PySem.W.kia_one PySem.W.kitx_int I.kIn True.intro e (λz=>nomatch z) h
 |str y=>obtain⟨t,q⟩:=(show∃t,u=Value.str y t from d);cases q;exact PySem.W.kia_one PySem.W.kitx_str I.kIn True.intro e (λz=>nomatch z) h
 |flt y=>obtain⟨t,q⟩:=(show∃t,u=Value.float y t from d);cases q;exact PySem.W.kia_one PySem.W.kitx_float I.kIn True.intro e (λz=>nomatch z) h
 | @lst a g ea=>
   cases (show u=Value.ref a from d)
   obtain⟨_,_,n,_,f⟩:=(show cT X.prog X.w H s.heap a (.lst g) from I.hok a _ ea)
   exact PySem.W.kia_one PySem.W.kitx_list I.kIn ⟨_,f,rfl⟩ e (λz=>nomatch z) h
 | @frz a ob g ea=>
   cases (show u=Value.ref a from d)
   obtain⟨_,_,_,n,_,f⟩:=(show cT X.prog X.w H s.heap a (.frz ob (.lst g)) from I.hok a _ ea)
   exact PySem.W.kia_one PySem.W.kitx_list I.kIn ⟨_,f,rfl⟩ e (λz=>nomatch z) h
 | @tup a g ea=>
   cases (show u=Value.ref a from d)
   obtain⟨_,_,_,p⟩:=(show cT X.prog X.w H s.heap a (.tup g) from I.hok a _ ea)
   obtain⟨o,f,j,_⟩:=p
   exact PySem.W.kia_one PySem.W.kitx_tuple I.kIn ⟨o,f,j⟩ e (λz=>nomatch z) h
 | @dK a kvs ea=>
   cases (show u=Value.ref a from d)
   obtain⟨_,_,B,_,p⟩:=(show cT X.prog X.w H s.heap a (.dK kvs) from I.hok a _ ea)
   obtain⟨o,r,k,f,j,_⟩:=p
   exact PySem.W.kia_one PySem.W.kitx_dict I.kIn ⟨o,f,j.1⟩ e (λz=>nomatch z) h
 | @dT a kvs ea=>
   cases (show u=Value.ref a from d)
   obtain⟨_,_,g,_,o,r,k,f,j,_⟩:=(show cT X.prog X.w H s.heap a (.dT kvs) from I.hok a _ ea)
   exact PySem.W.kia_one PySem.W.kitx_dict I.kIn ⟨o,f,j.1⟩ e (λz=>nomatch z) h
 | @ins a C dx fs ea cl ha hn htk hm=>
   cases (show u=Value.ref a from d)
   obtain⟨v,O,_⟩:=Hq I.hok ea
   obtain⟨F,J,_⟩:=O.look
   exact PySem.W.kia_one (PySem.W.kitx_own (cl.get _) cl.hd ha hn htk hm) I.kIn J e (λz=>nomatch z) h
end
structure dY(k:Nat)(A:Around):Prop where
 hd:A.handled=none
 dp:A.depth+3*k+5<recursionLimit
 un:A.units+16*k+200<cLine
def dY.mono{j k:Nat}{A:Around}(r:dY k A)(h:j<=k):dY j A:=⟨r.hd,by have:=r.dp;omega,by have:=r.un;omega⟩
def dY.deeper{k:Nat}{A:Around}(r:dY (k+1) A)(env:Env):dY k (A.deeper env):=
 ⟨r.hd,by have:=r.dp;show A.depth+1+3*k+5<_;omega,by have:=r.un;show A.units+3+16*k+200<_;omega⟩
def dY.depth{k:Nat}{A:Around}(r:dY k A):A.depth<recursionLimit:=by have:=r.dp;omega
def dY.units{k:Nat}{A:Around}(r:dY k A):A.units+64<cLine:=by have:=r.un;omega
def dY.units0{k:Nat}{A:Around}(r:dY k A):A.units<cLine:=by have:=r.un;omega
def IY:TA:=λ_ H Q=>Q [] H
def FN(c:TE)(d:TA):TA:=λa H Q=>c a H λx H1=>d a H1 λb H2=>Q (x::b) H2
section
variable{X:Cx}{e:Expr}{es:List Expr}{te:TE}{t:TA}{pos:Pos}
def fJ:PA X [] IY:=λ_ _ _ _ H Q I h=>Calls.spliced_nil ⟨[],H,I,.nil,h⟩
def da(i:PE X e te)(c:PA X es t)(p:starEach (e::es) X.env=(false,eval e X.env)::starEach es X.env:=by rfl):PA X (e::es) (FN te t):=by
 intro pos a s b H Q I h
 rw[p]
 show wpAny _ _ (spliced ((false,eval e X.env)::backTo pos (starEach es X.env))) _ _ s
 refine Calls.spliced_cons (c9 (i a s b H _ I h) λu f j=> ?_)
 obtain⟨x,H1,n,d,g⟩:=j
 exact c9 (c pos a f b H1 _ n g) λr q ⟨m,H2,k,o,l⟩=>⟨x::m,H2,k,.cons d o,l⟩
def ND(t:TA):TE:=λb H Q=>t b H λa H1=>a.length<=sizeLine/\∀p,H1 p=none->Q (.ref p) (upd H1 p (.tup a))
def Nc(t:TA):TE:=λb H Q=>t b H λa H1=>a.length<=sizeLine/\∀p,H1 p=none->Q (.ref p) (upd H1 p (.lst a))
def Kh{x1}(h:PA X es t):PE X (.Tuple es x1 pos) (ND t):=by
 intro a s j H Q I g
 refine wpAny_Tuple_spliced (c9 (h pos a s j H _ I g) λk c ⟨i,H1,d,r,z,q⟩=>⟨by rw[←r.length];exact z,?_⟩)
 have f:H1 c.heap.objs.size=none:=d.hok.fresh (Qmq _)
 refine⟨.ref c.heap.objs.size,upd H1 c.heap.objs.size (.tup i),d.laid (t':=c.toks) (λb u e=>Qcq _ e) (Qmq _) ?_,rfl,q _ f⟩
 exact⟨z,k,r,⟨_,Qrq _ rfl,rfl,rfl,_,rfl⟩⟩
def IR(h:PA X es t):PE X (.List es pos) (Nc t):=by
 intro a s j H Q I g
 refine wpAny_List_spliced (c9 (h pos a s j H _ I g) λk c ⟨i,H1,d,r,z,q⟩=>⟨by rw[←r.length];exact z,?_⟩)
 have f:H1 c.heap.objs.size=none:=d.hok.fresh (Qmq _)
 refine⟨.ref c.heap.objs.size,upd H1 c.heap.objs.size (.lst i),d.laid (t':=c.toks) (λb u e=>Qcq _ e) (Qmq _) ?_,rfl,q _ f⟩
 exact⟨z,k,0,r,Qrq _ rfl⟩
end
abbrev Sp:=List V->Hp->VK->XK->Prop
abbrev Ea:=List Env->Hp->Shared->XK->Value->Shared->Prop
structure Hj(P:Program)(w:World)(K:PySem.W.Frag)(mg:Str->Option Value)(base:Heap)(A:Around)(outer:List Env)(s:Shared)(H:Hp):Prop where
 frames:A.frames=some outer
 mod:Mod K mg base
 bs:∀b o,base.get? b=some o->s.heap.get? b=some o/\H b=none
 bsz:base.objs.size<=s.heap.objs.size
 funs:s.heap.FunFrames base outer
 frf:∀b∈Ep outer,H b=none
 hok:nN P w H s.heap
 bare:AllBare s.gens
def CE(outer:List Env)(P:Program)(w:World)(H:Hp)(s:Shared)(Q:VK)(u:Value)(a:Shared):Prop:=
 ∃v b,a.os=s.os/\AllBare a.gens/\Un (Ep outer) [] H b s.heap a.heap/\nN P w b a.heap/\RelV v u/\Q v b
def CR(CX:Ea)(outer:List Env)(P:Program)(w:World)(H:Hp)(s:Shared)(Q:VK)(E:XK)(r:Result)(a:Shared):Prop:=
 match r with
 |.ok (.ret u)=>CE outer P w H s Q u a
 |.ok _=>False
 |.error e=>CX outer H s E e a
structure bu(P:Program)(w:World)(K:PySem.W.Frag)(mg:Str->Option Value)(base:Heap)(CX:Ea)(k:Nat)(f:Addr)(fd:FuncData)(ps:List Str)(sp:Sp):Prop where
 len:∀vs H Q E,sp vs H Q E->vs.length=ps.length
 run:∀(A:Around) (outer:List Env) (s:Shared) (H:Hp) (args:Args) (us:List Value) (vs:List V) (Q:VK) (E:XK),dY k A->Hj P w K mg base A outer s H->BindsTo s fd args (ps.zip us)->bF vs us->sp vs H Q E→
  codeAny (model P w) A (.call (.ref f) args) (CR CX outer P w H s Q E) s
def bu.mono{P:Program}{w:World}{K:PySem.W.Frag}{mg:Str->Option Value}{base:Heap}{CX:Ea}{j k:Nat}{f:Addr}{c:FuncData}{ps:List Str}{sp:Sp}(F:bu P w K mg base CX j f c ps sp)(h:j<=k):
  bu P w K mg base CX k f c ps sp:=⟨F.len,λA a s H b g e Q E d=>F.run A a s H b g e Q E (d.mono h)⟩
def bu.imp{P:Program}{w:World}{K:PySem.W.Frag}{mg:Str->Option Value}{base:Heap}{CX:Ea}{k:Nat}{f:Addr}{d:FuncData}{ps:List Str}{sp b:Sp}(F:bu P w K mg base CX k f d ps sp)
  (h:∀vs H Q E,b vs H Q E->sp vs H Q E):bu P w K mg base CX k f d ps b:=
 ⟨λvs H Q E q=>F.len vs H Q E (h _ _ _ _ q),λA a s H c j vs Q E e i l g m=>F.run A a s H c j vs Q E e i l g (h _ _ _ _ m)⟩
section
variable{X:Cx}{pins:List (Addr×Obj)}{σ:St}{H:Hp}{s s':Shared}
def Inv.env0(I:Inv X pins σ H s):Hj X.prog X.w X.K X.mg X.base X.A X.stack s H:=
 ⟨I.ok.frames,I.ok.mod,I.bs,QAq I.ok.bsz I.sz,I.stack,I.stkFree,I.hok,I.bare⟩
def Inv.after{Q:VK}{u:Value}(I:Inv X pins σ H s)(h:CE X.stack X.prog X.w H s Q u s'):EP X pins σ Q u s':=by
 obtain⟨v,f,i,a,k,e,r,q⟩:=h
 obtain⟨j,g,d,t,c⟩:=s'
 obtain rfl:c=s.os:=i
 exact⟨v,f,I.call (h':=j) (g':=g) (d':=d) (t':=t) (ch:= []) k e a (λb z=>absurd z (by simp)),r,q⟩
end
def Gf(sp:Sp)(a:List V)(E:XK)(t:TA):TE:=λb H Q=>t b H λc H1=>sp (c++a) H1 Q E
def Binds(K:PySem.W.Frag)(b:FuncData)(ps:List Str)(ds:List Value):Prop:=
 ∀(s:Shared) (a:List Value),K.In s.heap->(a++ds).length=ps.length->BindsTo s b ⟨a,[]⟩ (ps.zip (a++ds))
def Binds.all{K:PySem.W.Frag}{b:FuncData}{ps:List Str}(h:∀a:List Value,a.length=ps.length->bindArgs b ⟨a,[]⟩=pure (ps.zip a)):Binds K b ps []:=λs a _ hl=>by
 rw[List.append_nil] at hl⊢
 exact .of_eq (h a hl)
def AF(CX:Ea)(X:Cx)(E:XK):Prop:=∀(a:List (Addr×Obj)) (c:St) (H:Hp) (s:Shared) (e:Value) (b:Shared),Inv X a c H s->CX X.stack H s E e b->X.xe e b
section
variable{X:Cx}{CX:Ea}{k:Nat}{f C:Addr}{fd:FuncData}{ps:List Str}{sp:Sp}{dvs:List V}{ds:List Value}{E:XK}{x m:Str}{p pos apos:Pos}{e o:Expr}{es:List Expr}{ta:TE}{t:TA}
def EX{a:List (Addr×Obj)}{d:St}{H:Hp}{s:Shared}{Q:VK}{b:List Value}{vs:List V}(F:bu X.prog X.w X.K X.mg X.base CX k f fd ps sp)(i:dY k X.A)(n:Binds X.K fd ps ds)(hd:bF dvs ds)(j:AF CX X E)
  (I:Inv X a d H s) (r:bF vs b) (h:sp (vs++dvs) H Q E):wpAny (model X.prog X.w) X.A (call (.ref f) b) (EP X a d Q) X.xe s:=by
 have g:bF (vs++dvs) (b++ds):=r.append hd
 have hl:(b++ds).length=ps.length:=by rw[←g.length];exact F.len _ _ _ _ h
 refine wpAny_call (codeAny_mono (F.run X.A X.stack s H ⟨b,[]⟩ (b++ds) (vs++dvs) Q E i I.env0 (n s b I.kIn hl) g h) λr l c=> ?_)
 cases r with
 |error e=>exact j a d H s e l I c
 | ok q=>
   cases q with
   |ret u=>exact I.after c
   |next=>exact False.elim c
   |brk=>exact False.elim c
   |cont=>exact False.elim c
def BR(F:bu X.prog X.w X.K X.mg X.base CX k f fd ps sp)(g:dY k X.A)(d:Gl X x)(i:X.mg x=some (.ref f))(n:PySem.W.keepIn X.K (.ref f)=true)(v:Binds X.K fd ps ds)(hd:bF dvs ds)(l:AF CX X E)
  (j:PA X (e::es) t) (b:(x==("__debug__":Str))=false:=by decide) (he:starEach (e::es) X.env=(false,eval e X.env)::starEach es X.env:=by rfl) (hpl:(backTo pos (starEach es X.env)).any (·.1)=false:=by rfl):
  PE X (.Call (.Name x p) (e::es) [] pos) (Gf sp dvs E t):=by
 intro a s u H Q I h
 refine wpAny_Call_Name_kw (xp I d i ?_ b)
 refine PySem.W.callWith_K (h₀:=X.base) I.ok.mod.kin n (c9 (j pos a s u H _ I h) λB y ⟨z,H1,c,r,q⟩=>⟨c.kIn,?_⟩) he hpl
 exact EX F g v hd l c r q
end
structure aG(N P:List Str)(sc:Scope):Prop where
 kind:sc.kind=.function
 co:sc.isCoroutine=false
 gen:sc.isGenerator=false
 nd:N.Nodup
 pre:N.take P.length=P
 par:∀x∈P,sc.names.lookup x=some .local\/sc.names.lookup x=some .cell
 nofree:∀y∈sc.names,y.2≠.free
theorem wc{b:Str->Option NameKind}{x:Str}:∀{a:List (Str×Value)} {m:Str->Option Value},(∀v,(x,v)∉a)->bindL b a m x=m x
 | [],_,_=>rfl
 | (n,v)::r,m,h=>by
   unfold bindL
   rw[wc λw c=>h w (Qpq _ c)]
   split
   · have:x≠n:=by rintro rfl;exact h v QBq
     simp[this]
   · rfl
theorem we{b:Str->Option NameKind}{x:Str}:∀{a:List (Str×Value)} {m:Str->Option Value},(∀v,(x,v)∉a)->bindC b a m x=m x
 | [],_,_=>rfl
 | (n,v)::r,m,h=>by
   unfold bindC
   rw[we λw c=>h w (Qpq _ c)]
   split
   · rfl
   · have:x≠n:=by rintro rfl;exact h v QBq
     simp[this]
theorem vO{a:Str->Option NameKind}{x:Str}{v:Value}:∀{P:List Str} {vs:List Value} {i:Nat} {m:Str->Option Value},P.Nodup->P[i]?=some x->vs[i]?=some v->a x=some .local→
  bindL a (P.zip vs) m x=some v
 | [],_,_,_,_,h,_,_=>by simp at h
 |_::_,[],_,_,_,_,h,_=>by simp at h
 | p::P,w::vs,0,m,nd,h1,h2,hk=>by
   simp at h1 h2;subst h1;subst h2
   show bindL a ((p,w)::P.zip vs) m p=_
   unfold bindL
   rw[wc λv b=>(List.nodup_cons.mp nd).1 (QeQ b).1,Qhq hk]
   simp
 | p::P,w::vs,i+1,m,nd,h1,h2,hk=>by
   show bindL a ((p,w)::P.zip vs) m x=_
   unfold bindL
   exact vO (i:=i) (List.nodup_cons.mp nd).2 (by simpa using h1) (by simpa using h2) hk
theorem vw{a:Str->Option NameKind}{x:Str}{v:Value}:∀{P:List Str} {vs:List Value} {i:Nat} {m:Str->Option Value},P.Nodup->P[i]?=some x->vs[i]?=some v->a x≠some .local→
  bindC a (P.zip vs) m x=some v
 | [],_,_,_,_,h,_,_=>by simp at h
 |_::_,[],_,_,_,_,h,_=>by simp at h
 | p::P,w::vs,0,m,nd,h1,h2,hk=>by
   simp at h1 h2;subst h1;subst h2
   show bindC a ((p,w)::P.zip vs) m p=_
   unfold bindC
   rw[we λv b=>(List.nodup_cons.mp nd).1 (QeQ b).1,Quq hk]
   simp
 | p::P,w::vs,i+1,m,nd,h1,h2,hk=>by
   show bindC a ((p,w)::P.zip vs) m x=_
   unfold bindC
   exact vw (i:=i) (List.nodup_cons.mp nd).2 (by simpa using h1) (by simpa using h2) hk
def start(N:List Str)(vs:List V):St:=vs.map some++List.replicate (N.length-vs.length) none
def zZ(CX:Ea)(P:Program)(w:World)(K:PySem.W.Frag)(mg:Str->Option Value)(base:Heap)(N:List Str)(b:Str)(a:Scope)(f:Addr)(d:Value)(A:Around)(outer:List Env)(s:Shared)(H:Hp)(E:XK):Cx where
 prog:=P
 w:=w
 K:=K
 mg:=mg
 base:=base
 A:=A.deeper (envOfC b a s.heap.objs.size f d)
 N:=N
 s₀:=s
 H₀:=H
 env:=envOfC b a s.heap.objs.size f d
 outer:=outer
 stack:=envOfC b a s.heap.objs.size f d::outer
 ex:= []
 calm:=true
 fn:=λ_=>true
 pn:= []
 xe:=λe h=>wpAny (model P w) (A.deeper (envOfC b a s.heap.objs.size f d)) (leaving (envOfC b a s.heap.objs.size f d) e) (λ_ c=>CX outer H s E e c) (λg c=>CX outer H s E g c) h
def yL{sc:Scope}{n:Nat}{x:Str}(h:sc.names.lookup x=some .cell):∃c,(cellsFrom n sc.names []).lookup x=some c:=by
 have q:=PySem.W.cellsFrom_some sc.names n [] (.inl h)
 exact Option.isSome_iff_exists.mp q
def DM{CX:Ea}{P:Program}{w:World}{K:PySem.W.Frag}{mg:Str->Option Value}{base:Heap}{N ps:List Str}{g:Str}{d:Scope}{f:Addr}{F:Value}{A:Around}{outer:List Env}{s L:Shared}{H:Hp}{E:XK}{I:List Value}{vs:List V}
  (S:aG N ps d) (hd:A.handled=none) (l:Hj P w K mg base A outer s H) (hl:vs.length=ps.length) (r:bF vs I)
  (x:InCallC s s.heap.objs.size (bindL (envOfC g d s.heap.objs.size f F).kindOf (ps.zip I) λ_=>none) (cellsFrom (s.heap.objs.size+1) d.names []) (bindC (envOfC g d s.heap.objs.size f F).kindOf (ps.zip I) λ_=>none) L):
  Inv (zZ CX P w K mg base N g d f F A outer s H E) [] (start N vs) H L:=by
 have Q:ps.length<=N.length:=by have:=congrArg List.length S.pre;rw[Qxq] at this;omega
 obtain⟨C,U,rfl,hk⟩:=x.done
 have o:∀b:Addr,b∉(zZ CX P w K mg base N g d f F A outer s H E).ex:=λb z=>absurd (show b∈([]:List Addr) from z) (by simp)
 refine⟨⟨l.mod,S.kind,rfl,rfl,Qmq _,λy z c C j=> ?_,λy m=> ?_,λy c _ h=> ?_,λ_=>hd,Around.frames_deeper l.frames,.inr ⟨rfl,rfl⟩,λb z=>absurd z (o b),l.bs,l.bsz,λb _ _=>o b,λb z=>absurd z (o b),l.funs,l.frf⟩,
  rfl,l.bare,Un.kept hk,⟨_,x.toInCall.ns,λi y v C j X=> ?_⟩,λy c h=>⟨_,x.cell y c h⟩,l.hok.fresh (Qmq _),λy c h=> ?_,λp t=>absurd (show p∈([]:List (Addr×Obj)) from t) (by simp),l.hok.kept hk,?_⟩
 ·exact name_of_addr x.apart (PySem.mem_of_lookup C) (PySem.mem_of_lookup j)
 ·have m:d.names.lookup y=some .cell\/d.names.lookup y=some .free:=m
  rcases m with m|m
  ·exact yL m
  ·exact absurd rfl (S.nofree _ (PySem.mem_of_lookup m))
 ·exact nQl (x.above y c (PySem.mem_of_lookup h))
 ·have G:i<vs.length:=by
   unfold start at j
   by_cases G:i<vs.length
   ·exact G
   ·rw[QQq (by simpa using G)] at j
    rw[List.getElem?_replicate] at j
    split at j <;>cases j
  have R:vs[i]?=some v:=by
   unfold start at j
   rw[QHq (by simpa using G),gQm] at j
   cases e:vs[i]? with
   |none=>rw[e] at j;cases j
   |some a=>rw[e] at j;cases j;rfl
  obtain⟨u,J,M⟩:=r.get R
  have t:ps[i]?=some y:=by
   rw[←S.pre,List.getElem?_take_of_lt (by omega)];exact C
  have B:ps.Nodup:=by rw[←S.pre];exact S.nd.sublist (List.take_sublist _ _)
  refine⟨u,M,?_⟩
  rcases S.par y (mQg t) with k|k
  ·exact .inl ⟨k,vO B t J k⟩
  ·obtain⟨c,e⟩:=yL (n:=s.heap.objs.size+1) k
   refine .inr ⟨.inl k,c,e,?_⟩
   have q:=x.cell y c e
   rw[vw B t J (by show d.names.lookup y≠_;rw[k];decide)] at q
   exact q
 ·exact l.hok.fresh (nQl (x.above y c (PySem.mem_of_lookup h)))
 ·unfold start
  show _=N.length
  rw[lQa,lQm,QIq]
  omega
def Lq{CX:Ea}{P:Program}{w:World}{K:PySem.W.Frag}{mg:Str->Option Value}{base:Heap}{k:Nat}{f:Addr}{name c:Str}{g:Arguments}{h:List Stmt}{a:Scope}{dV kV F pm d ct oc:Value}{Y od:Option Addr}
  {M:Array (Option Value)} {N ps:List Str} {sp:Sp} (lk:K.lookup f=some ⟨oc,od,.func (PySem.W.fnOf name c g h a dV kV F pm Y d ct),M⟩) (R:PySem.W.codeIn K d c=true) (S:aG N ps a)
  (len:∀vs H Q E,sp vs H Q E->vs.length=ps.length)
  (l:∀(A:Around) (outer:List Env) (s:Shared) (H:Hp) (vs:List V) (Q:VK) (E:XK),dY k (A.deeper (envOfC c a s.heap.objs.size f d))->sp vs H Q E→
   ∃t,uF (zZ CX P w K mg base N c a f d A outer s H E) h t/\t {nx:=λ_ j=>Q .non j,rt:=Q} (start N vs) H):
  bu P w K mg base CX (k+1) f (PySem.W.fnOf name c g h a dV kV F pm Y d ct) ps sp:=by
 refine⟨len,λA outer s H a0 us vs Q E G B hb r z=> ?_⟩
 have hl:=len _ _ _ _ z
 have KX:K.In s.heap:=B.mod.kin.keeps λb o e=>(B.bs b o e).1
 have U:s.heap.NoLimit:=B.mod.nolimit.keeps λb o e=>(B.bs b o e).1
 have m:∀y∈ps.zip us,a.names.lookup y.1=some .local\/(a.names.lookup y.1=some .cell/\((cellsFrom (s.heap.objs.size+1) a.names []).lookup y.1).isSome=true):=λ⟨n,v⟩ hy=>by
  rcases S.par n (QeQ hy).1 with q|q
  ·exact .inl q
  ·exact .inr ⟨q,PySem.W.cellsFrom_some _ _ _ (.inl q)⟩
 refine codeAny_call_function G.depth (KX _ _ lk) rfl S.co S.gen rfl (PySem.W.codeRec_of KX R) (hb _ _ _ _ ?_)
 refine wpAny_newFunctionEnv_cells S.kind m λa1 he Z x=> ?_
 subst he
 refine⟨U.keeps x.toInCall.keep,codeAny_func ?_⟩
 obtain⟨t,ht,hq⟩:=l A outer s H vs Q E (G.deeper _) z
 have I:Inv (zZ CX P w K mg base N c a f d A outer s H E) [] (start N vs) H Z:=DM S G.hd B hl r x
 refine QRq (ht [] Z (start N vs) H _ I hq) (λfl X p=> ?_) λe X p=>p
 have C:∀{i:St} {j:Hp} {v:V} {u:Value},Inv (zZ CX P w K mg base N c a f d A outer s H E) [] i j X->RelV v u->Q v j->CE outer P w H s Q u X:=
  λ{i j v u} J L q=>⟨v,j,J.os,J.bare,J.base,J.hok,L,q⟩
 cases fl with
 | ret u=>
   obtain⟨v,i,j,J,L,q⟩:=p
   exact C J L q
 | next=>
   obtain⟨i,j,J,q⟩:=p
   exact C (v:=V.non) (u:=Value.none) J rfl q
 | brk=>
   obtain⟨_,_,_,q⟩:=p
   exact False.elim q
 | cont=>
   obtain⟨_,_,_,q⟩:=p
   exact False.elim q
section
variable{X:Cx}{x:Str}{p pos:Pos}{e:Expr}{es:List Expr}{t:TA}{id T:String}{r:List V->Hp->VK->Prop}
def Mh(r:List V->Hp->VK->Prop)(t:TA):TE:=λa H Q=>t a H λb H1=>r b H1 Q
def ju(q:gk X (.builtin id) r)(d:Gl X x)(j:X.mg x=none)(m:bootBuiltins x=some (.builtin id))(k:PA X (e::es) t)(u:x≠"__name__":=by decide)(b:(x==("__debug__":Str))=false:=by decide)
  (he:starEach (e::es) X.env=(false,eval e X.env)::starEach es X.env:=by rfl) (hpl:(backTo pos (starEach es X.env)).any (·.1)=false:=by rfl):PE X (.Call (.Name x p) (e::es) [] pos) (Mh r t):=by
 intro a s c H Q I h
 refine wpAny_Call_Name_kw (kG I d j m ?_ u b)
 exact PyProof.Rows.callWith_builtin1 (c9 (k pos a s c H _ I h) λn g ⟨i,H1,o,f,l⟩=>q a g c H1 i n Q o f l) he hpl
def vB(q:gk X (.type T) r)(d:Gl X x)(j:X.mg x=none)(m:bootBuiltins x=some (.type T))(k:PA X (e::es) t)(u:x≠"__name__":=by decide)(b:(x==("__debug__":Str))=false:=by decide)
  (he:starEach (e::es) X.env=(false,eval e X.env)::starEach es X.env:=by rfl) (hpl:(backTo pos (starEach es X.env)).any (·.1)=false:=by rfl):PE X (.Call (.Name x p) (e::es) [] pos) (Mh r t):=by
 intro a s c H Q I h
 refine wpAny_Call_Name_kw (kG I d j m ?_ u b)
 exact PyProof.Rows.callWith_type1 (c9 (k pos a s c H _ I h) λn g ⟨i,H1,o,f,l⟩=>q a g c H1 i n Q o f l) he hpl
end
section
variable{κ:Type}[DecidableEq κ]
def pN(kvs:List (κ×V))(k:κ):Option V:=(kvs.find? λa=>decide (a.1=k)).map (·.2)
def putK(kvs:List (κ×V))(k:κ)(v:V):List (κ×V):=
 if (kvs.any λa=>decide (a.1=k))=true then kvs.map (λa=>if a.1=k then(a.1,v) else a) else kvs++ [(k,v)]
def sR{p:κ×V}{r:List (κ×V)}{k:κ}(e:p.1=k):pN (p::r) k=some p.2:=by simp[pN,List.find?_cons,e]
def sG{p:κ×V}{r:List (κ×V)}{k:κ}(e:¬p.1=k):pN (p::r) k=pN r k:=by simp[pN,List.find?_cons,e]
theorem zp(k:κ):∀kvs:List (κ×V),(kvs.any λkv=>decide (kv.1=k))=(pN kvs k).isSome
 | []=>rfl
 | p::r=>by
   rw[List.any_cons]
   by_cases e:p.1=k
   · simp only[sR e,Qeq e,Bool.true_or,Option.isSome_some]
   · rw[sG e,Qdq e,Bool.false_or];exact zp k r
def iQ(kvs:List (κ×V))(k:κ)(v:V):(putK kvs k v).length<=kvs.length+1:=by
 unfold putK
 split
 ·rw[lQm];omega
 ·rw[lQa,Qnq,QGq];omega
def tf.isSome_eq{o:Option V}{u:Option Value}(r:tf o u):o.isSome=u.isSome:=by
 cases o with
 | none=>cases u with
   |none=>rfl
   |some _=>exact(show False from r).elim
 | some _=>cases u with
   |none=>exact(show False from r).elim
   |some _=>rfl
def KV.val{kvs:List (κ×V)}{vs:List (κ×Value)}(r:KV kvs vs)(k:κ):tf (pN kvs k) (valueAt vs k):=by
 unfold KV at r
 induction r with
 |nil=>exact True.intro
 | @cons p q ps qs h t ih=>
   obtain⟨c,d⟩:=h
   by_cases e:p.1=k
   · have a:q.1=k:=c.symm.trans e
     have b:valueAt (q::qs) k=some q.2:=by simp[valueAt,List.find?_cons,a]
     rw[sR e,b];exact d
   · have a:¬q.1=k:=λz=>e (c.trans z)
     have b:valueAt (q::qs) k=valueAt qs k:=by simp[valueAt,List.find?_cons,a]
     rw[sG e,b];exact ih
theorem KV.any{kvs:List (κ×V)}{vs:List (κ×Value)}(r:KV kvs vs)(k:κ):(kvs.any λkv=>decide (kv.1=k))=vs.any λkv=>decide (kv.1=k):=by
 unfold KV at r
 induction r with
 |nil=>rfl
 |cons h t a=>rw[List.any_cons,List.any_cons,a,h.1]
def KV.repl{kvs:List (κ×V)}{vs:List (κ×Value)}(r:KV kvs vs)(k:κ){y:V}{u:Value}(b:RelV y u):
  KV (kvs.map λkv=>if kv.1=k then(kv.1,y) else kv) (vs.map λkv=>if kv.1=k then(kv.1,u) else kv):=by
 unfold KV at r⊢
 induction r with
 |nil=>exact .nil
 | @cons p q ps qs h t ih=>
   rw[QDq,QDq]
   refine .cons ?_ ih
   obtain⟨a,c⟩:=h
   by_cases e:p.1=k
   · rw[Qhq e,Qhq (a.symm.trans e)];exact⟨a,b⟩
   · rw[Quq e,Quq (λz=>e (a.trans z))];exact⟨a,c⟩
def KV.put{kvs:List (κ×V)}{vs:List (κ×Value)}(r:KV kvs vs)(k:κ){y:V}{u:Value}(a:RelV y u):KV (putK kvs k y) (stored vs k u):=by
 unfold putK stored
 rw[r.any k]
 by_cases e:(vs.any λb=>decide (b.1=k))=true
 ·rw[Qhq e,Qhq e];exact r.repl k a
 ·rw[Quq e,Quq e];exact Paired.snoc r ⟨rfl,a⟩
def KV.length{kvs:List (κ×V)}{vs:List (κ×Value)}(r:KV kvs vs):kvs.length=vs.length:=Paired.length r
end
def zM{P:Program}{w:World}{k:Key}{u:Value}(r:RelV (kV k) u):(bP P w).is k u=true:=by
 cases k with
 |inl i=>obtain⟨t,e⟩:=(show∃t,u=Value.int i t from r);subst e;exact zm P w i t
 |inr x=>obtain⟨t,e⟩:=(show∃t,u=Value.str x t from r);subst e;exact zT P w x t
theorem vo{P:Program}{w:World}:∀{a:List Key} {b:List Value},bF (a.map kV) b->ItemsAre (bP P w) a b
 | [],_,r=>by rw[List.map_nil] at r;cases r;exact .nil
 | k::a,_,r=>by
   rw[QDq] at r
   cases r with
   |cons h t=>exact .cons (zM h) (vo t)
abbrev KT(H:Hp):List (List Key×V)->List (List Key×Addr×Value)->Prop:=Paired λp q=>p.1=q.1/\H q.2.1=some (.tup (p.1.map kV))/\RelV p.2 q.2.2
def KT.val{H:Hp}{kvs:List (List Key×V)}{xs:List (List Key×Addr×Value)}(r:KT H kvs xs)(k:List Key):tf (pN kvs k) ((atKey xs k).map (·.2)):=by
 induction r with
 |nil=>exact True.intro
 | @cons p q ps qs h t ih=>
   obtain⟨c,_,d⟩:=h
   by_cases e:p.1=k
   · have a:q.1=k:=c.symm.trans e
     have b:atKey (q::qs) k=some q.2:=by simp[atKey,List.find?_cons,a]
     rw[sR e,b];exact d
   · have a:¬q.1=k:=λz=>e (c.trans z)
     have b:atKey (q::qs) k=atKey qs k:=by simp[atKey,List.find?_cons,a]
     rw[sG e,b];exact ih
def KT.repl{H:Hp}{kvs:List (List Key×V)}{xs:List (List Key×Addr×Value)}(r:KT H kvs xs)(k:List Key){y:V}{u:Value}(c:RelV y u):
  KT H (kvs.map λkv=>if kv.1=k then(kv.1,y) else kv) (xs.map (putAt k u)):=by
 induction r with
 |nil=>exact .nil
 | @cons p q ps qs h t ih=>
   rw[QDq,QDq]
   refine .cons ?_ ih
   obtain⟨a,b,d⟩:=h
   unfold putAt
   by_cases e:p.1=k
   · rw[Qhq e,Qhq (a.symm.trans e)];exact⟨a,b,c⟩
   · rw[Quq e,Quq (λz=>e (a.trans z))];exact⟨a,b,d⟩
def KT.put{H:Hp}{kvs:List (List Key×V)}{xs:List (List Key×Addr×Value)}(r:KT H kvs xs)(k:List Key){b:Addr}{y:V}{u:Value}(d:H b=some (.tup (k.map kV)))(a:RelV y u):
  KT H (putK kvs k y) (storedH xs k b u):=by
 have e:(kvs.any λc=>decide (c.1=k))=(atKey xs k).isSome:=by
  rw[zp,(r.val k).isSome_eq,Option.isSome_map]
 unfold putK storedH
 rw[e]
 by_cases q:(atKey xs k).isSome=true
 ·rw[Qhq q,Qhq q];exact r.repl k a
 ·rw[Quq q,Quq q];exact Paired.snoc r ⟨rfl,d,a⟩
def KT.keeps{H a:Hp}{kvs:List (List Key×V)}{xs:List (List Key×Addr×Value)}(r:KT H kvs xs)(ht:∀b ys,H b=some (.tup ys)->a b=some (.tup ys)):KT a kvs xs:=
 Paired.mapP r λ_ _ z=>⟨z.1,ht _ _ z.2.1,z.2.2⟩
section
variable{P:Program}{w:World}{H:Hp}{h:Heap}{a:Addr}
def ID{u:HO}(ok:nN P w H h)(e:Rd H a u):cT P w H h a u:=e.ok ok
def Ef{kvs:List (Key×V)}(ok:nN P w H h)(e:Rd H a (.dK kvs)):kvs.length<=sizeLine/\(a==sysModules)=false/\∃vs,KV kvs vs/\h.DictOf (bP P w) a vs:=
 show cT P w H h a (.dK kvs) from ID ok e
def Ac{kvs:List (Key×V)}(ok:nN P w H h)(e:H a=some (.dK kvs)):kvs.length<=sizeLine/\(a==sysModules)=false/\∃vs,KV kvs vs/\h.DictOf (bP P w) a vs:=Ef ok (.inl e)
def AE{b:List Key}(ok:nN P w H h)(e:H a=some (.tup (b.map kV))):(tupleKind (bP P w)).is h b a:=by
 obtain⟨_,c,r,o,g,d,_,n,f⟩:=(show cT P w H h a (.tup (b.map kV)) from ok a _ e)
 exact⟨o,c.toArray,n,g,d,f,by simpa using vo r⟩
def E8{kvs:List (List Key×V)}(ok:nN P w H h)(e:Rd H a (.dT kvs)):kvs.length<=sizeLine/\(a==sysModules)=false∧
  ∃xs,KT H kvs xs/\h.DictOfH (tupleKind (bP P w)) a xs:=by
 obtain⟨z,y,xs,r,o,j,f,d,k,n,i,g⟩:=(show cT P w H h a (.dT kvs) from ID ok e)
 refine⟨z,y,xs,r,o,j,f,d,k,n,i,λx b=> ?_,g⟩
 have c:∀{l:List (List Key×V)} {m:List (List Key×Addr×Value)},KT H l m->∀x∈m,(tupleKind (bP P w)).is h x.1 x.2.1:=by
  intro l m q
  induction q with
  |nil=>intro x b;exact nomatch b
  | @cons p q ps qs hq t ih=>
    intro x b
    rcases Qsq.mp b with e|b
    · subst e
      exact AE ok (by rw[←hq.1];exact hq.2.1)
    · exact ih x b
 exact c r x b
def KS{kvs:List (List Key×V)}(ok:nN P w H h)(e:H a=some (.dT kvs)):kvs.length<=sizeLine/\(a==sysModules)=false∧
  ∃xs,KT H kvs xs/\h.DictOfH (tupleKind (bP P w)) a xs:=E8 ok (.inl e)
end
def Dc(H:Hp)(a:Addr)(y:V)(r:Option V):Prop:=
 (∃c k,Rd H a (.dK c)/\y=kV k/\r=pN c k)\/∃c k b,Rd H a (.dT c)/\y=.ref b/\H b=some (.tup (k.map kV))/\r=pN c k
def ED(H:Hp)(a:Addr)(y v:V)(d:Hp):Prop:=
 (∃c k,H a=some (.dK c)/\y=kV k/\c.length<sizeLine/\d=upd H a (.dK (putK c k v)))∨
 ∃c k b,H a=some (.dT c)/\y=.ref b/\H b=some (.tup (k.map kV))/\c.length<sizeLine/\d=upd H a (.dT (putK c k v))
def Dc.k{H:Hp}{a:Addr}{kvs:List (Key×V)}{k:Key}(e:H a=some (.dK kvs)):Dc H a (kV k) (pN kvs k):=.inl ⟨kvs,k,.inl e,rfl,rfl⟩
def ED.k{H:Hp}{a:Addr}{kvs:List (Key×V)}{k:Key}{v:V}(e:H a=some (.dK kvs))(hl:kvs.length<sizeLine):ED H a (kV k) v (upd H a (.dK (putK kvs k v))):=.inl ⟨kvs,k,e,rfl,hl,rfl⟩
section
variable{X:Cx}{pins:List (Addr×Obj)}{σ:St}{H:Hp}{s:Shared}{a:Addr}{y v:V}{u r:Value}{o:Option V}{A:Around}{E:Value->Shared->Prop}
def Inv.big(I:Inv X pins σ H s):sysModules<s.heap.objs.size:=by
 have h:mainGlobals<s.heap.objs.size:=(I.mod.glob.keeps I.bk).lt
 exact Nat.lt_trans (by decide) h
def Dq{Q:Value->Shared->Prop}(C:A.units+1<cLine)(I:Inv X pins σ H s)(g:Dc H a y (some v))(t:RelV y u)(h:∀f x,Inv X pins σ H x->RelV v f->Q f x):
  wpAny (model X.prog X.w) A (getItem (.ref a) u) Q E s:=by
 rcases g with⟨q,k,e,n,l⟩|⟨q,k,b,e,n,G,l⟩
 ·subst n
  obtain⟨z,K,F,d,j⟩:=Ef I.hok e
  obtain⟨f,m,c⟩:=tf.some_of (v:=v) (o:=valueAt F k) (by rw[l];exact d.val k)
  exact wpAny_getItem_of (zM t) j.mapOf m (h f _ (I.tok _) c)
 ·subst n
  cases (show u=Value.ref b from t)
  obtain⟨z,K,J,d,j⟩:=E8 I.hok e
  obtain⟨f,m,c⟩:=tf.some_of (v:=v) (o:=(atKey J k).map (·.2)) (by rw[l];exact d.val k)
  obtain⟨p,B,i⟩:=oQm.mp m
  refine wpAny_getItem_heap (tupleKind_room_in1 C) (AE I.hok G) j B ?_
  rw[i]
  exact h f _ (I.tok _) c
def r_{h':Heap}{t':Nat}{c:HO}(I:Inv X pins σ H s)(d:LY (H a))(g:Heap.SameBut a s.heap h')(he:∃q,h'.get? a=some q)(new:cT X.prog X.w (upd H a c) h' a c):
  Inv X pins σ (upd H a c) {s with heap:=h',toks:=t'}:=
 I.write (x:=a) (e:=a) d (.inl rfl) (λb q f z=>(g.2 b f).trans z) he new
def uu{P:Program}{w:World}{c:Hp}{h':Heap}{kvs:List (Key×V)}{vs:List (Key×Value)}(z:kvs.length<=sizeLine)(hd:(a==sysModules)=false)(b:KV kvs vs)(d:h'.DictOf (bP P w) a vs):
  cT P w c h' a (.dK kvs):=⟨z,hd,vs,b,d⟩
def DK{F:Hp}{Q:Unit->Shared->Prop}(N:A.units+1<cLine)(I:Inv X pins σ H s)(g:ED H a y v F)(C:RelV y u)(G:RelV v r)(h:∀J,Inv X pins σ F J->Q () J):
  wpAny (model X.prog X.w) A (setItem (.ref a) u r) Q E s:=by
 rcases g with⟨f,k,e,t,l,m⟩|⟨f,k,b,e,t,L,l,m⟩
 ·subst t m
  obtain⟨z,x,P,d,p⟩:=Ac I.hok e
  have n:P.length<=sizeLine:=by rw[←d.length];exact z
  have hl:(putK f k v).length<=sizeLine:=by have:=iQ f k v;omega
  refine wpAny_setItem_pairs (hsz:=n) (zM C) p λM i B=>h _ ?_
  have Y:∃q,M.get? a=some q:=let ⟨q,_,_,j,_⟩:=i;⟨q,j⟩
  exact r_ I (by rw[e];exact True.intro) B Y (uu hl x (d.put k G) i)
 ·subst t m
  cases (show u=Value.ref b from C)
  obtain⟨z,x,Z,d,p⟩:=KS I.hok e
  have n:Z.length<=sizeLine:=by rw[←Paired.length d];exact z
  have hl:(putK f k v).length<=sizeLine:=by have:=iQ f k v;omega
  refine wpAny_setItem_heap (hsz:=n) (tupleKind_room_in1 N) (AE I.hok L) p λM i B=>h _ ?_
  obtain⟨q,W,R,j,h2,h3,U,_,S⟩:=i
  refine r_ I (by rw[e];exact True.intro) B ⟨q,j⟩ ⟨hl,x,_,(d.put k L G).keeps λc ys K=> ?_,q,W,R,j,h2,h3,U,S⟩
  rw[bf (ER K e (λz=>nomatch z))]
  exact K
end
def Hd(i:Expr):Prop:=∀b a,subscripted i false b a=operate [b,a] (getItem b a)
def CO{prog:Program}{w:World}{A:Around}{E:Value->Shared->Prop}{s:Shared}{env:Env}{b a:Expr}{pos:Pos}{T id:String}{Q:Value->Shared->Prop}
  (hl:typeLookup (.type T) "__getitem__"=pure (some (.builtin id))) (m:Hd a)
  (h:wpAny (model prog w) A (eval b env) (λo f=>wpAny (model prog w) A (eval a env) (λi c=>c.TypeIs o T/\wpAny (model prog w) A (getItem o i) Q E c) E f) E s):
  wpAny (model prog w) A (eval (.Subscript b a pos) env) Q E s:=by
 refine Subscript_ (QRq h (λo f j=>QRq j (λi c d=> ?_) λ_ _ x=>x) λ_ _ x=>x)
 obtain⟨l,d⟩:=d
 unfold subscriptTail
 refine Qaq ?_
 rw[getitemInPython_of_ne l.not_modules]
 refine Qaq (wpAny_specialOf l hl ?_)
 have g:wpAny (model prog w) A (subscripted a false o i) (λr e=>wpAny (model prog w) A (letTemporaryGo b o r >>= λ_=>pure r) Q E e) E c:=by
  rw[m o i]
  exact wpAny_operating (QRq d (λr e k=>Qaq (wpAny_letTemporaryGo (Qgq k))) λ_ _ x=>x)
 first
  |exact Qgq (Qaq g)
  |exact Qaq (Qgq (Qaq g))
  |exact Qaq g
def zV{X:Cx}{c:List (Addr×Obj)}{h:St}{H:Hp}{s:Shared}{a:Addr}{y:V}{o:Option V}(I:Inv X c h H s)(g:Dc H a y o):s.TypeIs (.ref a) "dict":=by
 rcases g with⟨d,k,e,_,_⟩|⟨d,k,b,e,_,_,_⟩
 ·obtain⟨_,_,j,_,f⟩:=Ef I.hok e
  exact f.typeIs
 ·obtain⟨_,_,i,_,f⟩:=E8 I.hok e
  exact f.typeIs
def Ly(d c:TE):TE:=λb H Q=>d b H λx H1=>c b H1 λy H2=>∃a v,x=.ref a/\Dc H2 a y (some v)/\Q v H2
def KO(e d c:TE):TS:=λD b H=>c b H λv H1=>e b H1 λx H2=>d b H2 λy H3=>∃a H4,x=.ref a/\ED H3 a y v H4/\D.nx b H4
section
variable{X:Cx}{o i e value:Expr}{pos pos' tpos:Pos}{td ty tv:TE}
def GB(l:X.A.units+1<cLine)(w:PE X o td)(hi:PE X i ty)(B:Hd i):PE X (.Subscript o i pos) (Ly td ty):=by
 intro b s f H Q I h
 refine CO PySem.F.slot_dict_getitem.lookup B (c9 (w b s f H _ I h) λu m ⟨x,H1,z,p,n⟩=>c9 (hi b m f H1 _ z n) λJ K r=> ?_)
 obtain⟨y,H2,d,j,a,v,k,g,t⟩:=r
 subst k
 obtain rfl:u=Value.ref a:=p
 exact⟨zV d g,Dq l d g j λG C q c=>⟨v,H2,q,c,t⟩⟩
def HP(k:X.A.units+1<cLine)(C:PE X o td)(hi:PE X i ty)(t:PE X value tv)(J:swapsWith value (some (.Subscript o i pos')) pos.line X.env=pure false):
  PS X (.Assign [.Subscript o i pos'] value pos) (KO td ty tv):=by
 intro b s c H D I h
 refine wpAny_Assign_Subscript (c9 (t b s c H _ I h) λr l ⟨v,H1,F,j,m⟩=>c9 (C b l c H1 _ F m) λu q ⟨x,H2,w,n,z⟩=>c9 (hi b q c H2 _ w z) λM K ⟨y,H3,p,d,a,H4,f,g,B⟩=> ?_) J
 subst f
 obtain rfl:u=Value.ref a:=n
 exact DK k p g d j λL G=>⟨c,H4,G,B⟩
end
def Fq{P:Program}{w:World}{H:Hp}(h:Heap)(a:sysModules<h.objs.size):cT P w H (h.push {cls:=.type "dict",data:=.dict #[]}) h.objs.size (.dK []):=
 ⟨Nat.zero_le _,beq_eq_false_iff_ne.mpr (Ne.symm (Qwq a)),[],.nil,Heap.DictOf.new h⟩
def J3:TE:=λ_ H Q=>∀p,H p=none->Q (.ref p) (upd H p (.dK []))
section
variable{X:Cx}{pos:Pos}
def Fk:PE X (.Dict [] [] pos) J3:=λb s c H Q I h=>
 wpAny_Dict_empty ⟨.ref s.heap.objs.size,_,I.laid (a:=s.heap.objs.size) (o:=.dK []) (t':=s.toks) (λ_ _ q=>Qcq _ q) (Qmq _) (Fq s.heap I.big),rfl,h _ (I.hok.fresh (Qmq _))⟩
end
def jV(kvs more:List (Key×V)):List (Key×V):=more.foldl (λa b=>putK a b.1 b.2) kvs
def KV.merge:∀{more:List (Key×V)} {rs:List (Key×Value)} {kvs:List (Key×V)} {vs:List (Key×Value)},KV more rs->KV kvs vs->KV (jV kvs more) (merged vs rs):=by
 intro more rs kvs vs r
 unfold KV at r
 induction r generalizing kvs vs with
 |nil=>intro q;exact q
 | @cons p q ps qs h t ih=>
   intro a
   have e:KV (putK kvs p.1 p.2) (stored vs q.1 q.2):=by
     have:=a.put p.1 h.2
     rw[←h.1];exact this
   exact ih e
theorem i3:∀(more kvs:List (Key×V)),(jV kvs more).length<=kvs.length+more.length
 | [],kvs=>by show kvs.length<=kvs.length+0;omega
 | p::r,kvs=>by
   have b:=i3 r (putK kvs p.1 p.2)
   have a:=iQ kvs p.1 p.2
   show(jV (putK kvs p.1 p.2) r).length<=_
   rw[Qnq];omega
end L2
namespace HT
open PySem PyProof.Rows
section
open PySem.SeqAt
open PySem.AutoSeq1 (wpAny_loadPart')
open PySem.MeetsSeq PySem.MeetsSeq2 PySem.MeetsSeq3
end
section
variable{prog:Program}{w:World}{A:Around}{E:Value->Shared->Prop}{s:Shared}
def HD{t b:Addr}{vs ws:List Value}{Q:Value->Shared->Prop}(ht:IsTup s.heap t vs.toArray)(x:IsTup s.heap b ws.toArray)(o:vs≠[])
  (u:ws= []->Q (.ref t) s) (v:ws≠[]->Q (.ref s.heap.objs.size) {s with heap:=s.heap.push {cls:=.type "tuple",data:=.seq (vs++ws).toArray}})
  (hsz:vs.length+ws.length<=sizeLine):wpAny (model prog w) A (binaryOp .Add (.ref t) (.ref b)) Q E s:=by
 obtain⟨⟨cls,l,data,k⟩,i,r,n,q⟩:=id ht
 obtain⟨⟨m,f,j,g⟩,a,c,p,d⟩:=id x
 simp only at r q c d
 subst r q c d
 have e:vs.toArray++ws.toArray=(vs++ws).toArray:=by simp
 by_cases h:ws= []
 ·exact concat_meets ⟨_,i,rfl⟩ ⟨_,a,rfl⟩ noFill_tuple_add seq_tuple_add PySem.F.slot_tuple_add PySem.F.entry_tuple_add (PySem.F.args_tuple_add_2 _ _)
   (tuple_addW1 t b vs.toArray ws.toArray n p l f k g (by simpa using o) (by simp[h])) ⟨i,a,u h⟩
 ·refine concat_meets ⟨_,i,rfl⟩ ⟨_,a,rfl⟩ noFill_tuple_add seq_tuple_add PySem.F.slot_tuple_add PySem.F.entry_tuple_add (PySem.F.args_tuple_add_2 _ _)
   (tuple_addW2 t b vs.toArray ws.toArray n p l f k g (by simpa using o) (by simpa using h) (by rw[Qjq,Qjq];exact hsz)) ⟨i,a,?_⟩
  rw[e]
  exact v h
def eR(n d:Nat):Option Int->Nat
 |none=>d
 |some v=>if v<0 then(v+(n:Int)).toNat else min v.toNat n
def tM(n d:Nat):eR n d none=d:=rfl
def Cr(n d k:Nat):eR n d (some (k:Int))=min k n:=by
 show(if (k:Int)<0 then((k:Int)+(n:Int)).toNat else min (k:Int).toNat n)=min k n
 rw[Quq (by omega),Int.toNat_natCast]
def Km(n d:Nat)(hd:d<=n)(o:Option Int):eR n d o<=n:=by
 cases o with
 |none=>exact hd
 | some v=>
   show(if v<0 then(v+(n:Int)).toNat else min v.toNat n)<=n
   by_cases a:v<0
   · rw[Qhq a];omega
   · rw[Quq a];exact Nat.min_le_right _ _
def CC(v:Int)(n d:Nat):(if v<0 then max (v+(n:Int)) 0 else min v (n:Int))=((eR n d (some v):Nat):Int):=by
 show(if v<0 then max (v+(n:Int)) 0 else min v (n:Int))=(((if v<0 then(v+(n:Int)).toNat else min v.toNat n):Nat):Int)
 by_cases a:v<0
 ·simp only[Qhq a];omega
 ·simp only[Quq a];omega
def BC(lo hi:Option Int)(n:Nat):Builtin.Slice.sliceAdjust lo hi 1 (n:Int)=(((eR n 0 lo:Nat):Int),((eR n n hi:Nat):Int)):=by
 have a:¬((1:Int)<0):=by omega
 unfold Builtin.Slice.sliceAdjust
 simp only[a,if_false]
 refine Prod.ext ?_ ?_
 ·cases lo with
  |none=>rfl
  |some v=>exact CC v n 0
 ·cases hi with
  |none=>rfl
  |some v=>exact CC v n n
def AR(i j:Nat):Builtin.Slice.slicePlaces (i:Int) (j:Int) 1=j-i:=by
 unfold Builtin.Slice.slicePlaces
 have a:(1:Int)>0:=by omega
 simp only[a,if_true,Int.ediv_one]
 split <;>omega
def tW{v:Value}{o:Option Int}{Q:Option Int->Shared->Prop}(p:IsPart v o)(h:Q o s):wpAny (model prog w) A (Builtin.Slice.slicePartIndex v) Q E s:=by
 cases p with
 |none=>exact slicePart_none h
 |int i t=>exact slicePart_int h
def jj{e:Addr}{d c:Value}{lo hi:Option Int}{n:Nat}{Q:Int×Int×Nat->Shared->Prop}(i:s.heap.IsSliceOf e d c .none)(j:IsPart d lo)(f:IsPart c hi)
  (h:Q (((eR n 0 lo:Nat):Int),1,eR n n hi-eR n 0 lo) s):wpAny (model prog w) A (Builtin.Slice.sliceApplied (.ref e) (pure (n:Int))) Q E s:=by
 obtain⟨k,a,g,b⟩:=id i
 unfold Builtin.Slice.sliceApplied Builtin.Slice.sliceFields
 refine Qaq (Qaq (QMq a b (x:=d) rfl (Qaq (QMq a b (x:=c) rfl (Qaq (QMq a b (x:=.none) rfl (Qgq ?_)))))))
 refine Qaq (slicePart_none ?_)
 show wpAny _ _ (if ((1:Int)==0)=true then _ else _) _ _ s
 rw[Quq (by decide)]
 refine Qaq (tW j (Qaq (tW f (Qaq (Qgq ?_)))))
 show wpAny _ _ (match Builtin.Slice.sliceAdjust lo hi 1 (n:Int) with|(lo,hi)=>pure (lo,(1:Int),Builtin.Slice.slicePlaces lo hi 1)) _ _ s
 rw[BC lo hi n]
 show wpAny _ _ (pure (((eR n 0 lo:Nat):Int),(1:Int),Builtin.Slice.slicePlaces ((eR n 0 lo:Nat):Int) ((eR n n hi:Nat):Int) 1)) _ _ s
 rw[AR]
 exact Qgq h
def E3(xs:Array Value)(i k:Nat):((List.range k).filterMap λ(m:Nat)=>xs[((i:Int)+(m:Int)*1).toNat]?).toArray=((xs.toList.drop i).take k).toArray:=by
 have e:(λ(m:Nat)=>xs[((i:Int)+(m:Int)*1).toNat]?)=λm=>xs[i+m]? :=by
  funext m
  have:((i:Int)+(m:Int)*1).toNat=i+m:=by omega
  rw[this]
 rw[e]
 have:=pick_run xs i k
 rw[List.filterMap_map] at this
 have a:((λx=>xs[x]?)∘λx=>i+x)=λm=>xs[i+m]? :=rfl
 rw[a] at this
 rw[this]
def oI{t b:Addr}{items:Array Value}{i g:Value}{lo hi:Option Int}{Q:Value->Shared->Prop}(ht:IsTup s.heap t items)(j:s.heap.IsSliceOf b i g .none)(p:IsPart i lo)(n:IsPart g hi)
  (o:¬(eR items.size 0 lo=0/\eR items.size items.size hi=items.size))
  (h:Q (.ref s.heap.objs.size) {s with heap:=s.heap.push {cls:=.type "tuple",data:=.seq ((items.toList.drop (eR items.size 0 lo)).take (eR items.size items.size hi-eR items.size 0 lo)).toArray}})
  (hsz:items.size<=sizeLine):wpAny (model prog w) A (getItem (.ref t) (.ref b)) Q E s:=by
 have a:sizeOk (.seq ((items.toList.drop (eR items.size 0 lo)).take (eR items.size items.size hi-eR items.size 0 lo)).toArray):=by
  show((items.toList.drop (eR items.size 0 lo)).take (eR items.size items.size hi-eR items.size 0 lo)).toArray.size<=sizeLine
  rw[Qjq,Qxq,List.length_drop,Array.length_toList]
  omega
 have r:eR items.size items.size hi<=items.size:=Km _ _ (Qmq _) hi
 obtain⟨k,c,f,l⟩:=id j
 have d:s.TypeIs (.ref b) "slice":=⟨k,c,f⟩
 unfold getItem
 try with_reducible refine QLq ?_
 first|refine Qaq (Qgq ?_)|skip
 refine Qaq (wpAny_sequenceKey ht.typeIs (by decide) ?_)
 refine Qaq (QiQ (name:=Str.ofString "__getitem__") ht.typeIs PyProof.Rows.slot_tuple_getitem
  (wpAny_call_entry PyProof.Rows.slot_tuple_getitem ht.typeIs entry_tuple_getitem ?_ (args_tuple_getitem _ _)))
 show wpAny _ _ (Builtin.Tuple.tupleItemsOf (.ref t) >>= _) _ _ s
 refine Qaq (tupleItemsOf_ ht ?_)
 refine Qaq (wpAny_typeOf d ?_)
 rw[Qhq (by decide)]
 refine Qaq (jj j p n ?_)
 have e:¬((((eR items.size 0 lo:Nat):Int)==0&&(1:Int)==1&&(eR items.size items.size hi-eR items.size 0 lo)==items.size)=true):=by
  intro q
  rw[QCq,QCq] at q
  have u:((eR items.size 0 lo:Nat):Int)=0:=eq_of_beq q.1.1
  have v:eR items.size items.size hi-eR items.size 0 lo=items.size:=eq_of_beq q.2
  exact o ⟨by omega,by omega⟩
 show wpAny _ _ (if (((eR items.size 0 lo:Nat):Int)==0&&(1:Int)==1&&(eR items.size items.size hi-eR items.size 0 lo)==items.size)=true then _ else _) _ _ s
 rw[Quq e,E3]
 first
  |exact Qaq (m:=Builtin.Tuple.tupleExact _) (QhQ (Qgq ⟨_,rfl,Qgq h⟩) a)
  |exact Qaq (m:=Builtin.Tuple.tupleExact _) (QhQ (Qaq (Qgq (Qgq ⟨_,rfl,Qgq h⟩))) a)
  |exact Qaq (Qaq (m:=Builtin.Tuple.tupleExact _) (QhQ (Qgq (Qgq ⟨_,rfl,Qgq h⟩)) a))
  |exact Qaq (Qaq (m:=Builtin.Tuple.tupleExact _) (QhQ (Qgq ⟨_,rfl,Qgq h⟩) a))
end
end HT
namespace L2
open PySem PySem.Spec PyProof.Rows
abbrev TO:=St->Hp->(Option Int->Hp->Prop)->Prop
def PO(X:Cx)(e:Option Expr)(t:TO):Prop:=
 ∀ (a:List (Addr×Obj)) (s:Shared) (b:St) (H:Hp) (Q:Option Int->Hp->Prop),Inv X a b H s->t b H Q→
   wpAny (model X.prog X.w) X.A (evalPart e X.env) (λu d=>∃o c,Inv X a b c d/\IsPart u o/\Q o c) X.xe s
def Gz:TO:=λ_ H Q=>Q none H
def LJ(t:TE):TO:=λa H Q=>t a H λx H1=>∃i,x=.int i/\Q (some i) H1
section
variable{X:Cx}{e:Expr}{te:TE}{lo hi:Option Expr}{tl th:TO}{pos p2:Pos}
def GD:PO X none Gz:=by
 intro a s b H Q I h
 rw[evalPart_none]
 exact Qgq ⟨none,H,I,.none,h⟩
def GF(h:PE X e te):PO X (some e) (LJ te):=by
 intro a s b H Q I f
 rw[evalPart_some]
 refine c9 (h a s b H _ I f) λu k g=> ?_
 obtain⟨x,H1,d,j,c⟩:=g
 obtain⟨i,rfl,q⟩:=c
 obtain⟨t,rfl⟩:=j
 exact⟨some i,H1,d,.int i t,q⟩
def MO(X:Cx)(r:V->Option Int->Option Int->Hp->VK->Prop):Prop:=
 ∀ (a:List (Addr×Obj)) (s:Shared) (c:St) (H:Hp) (x:V) (v f d:Value) (lo hi:Option Int) (b:Addr) (Q:VK),Inv X a c H s->RelV x v->s.heap.IsSliceOf b f d .none->IsPart f lo->IsPart d hi->r x lo hi H Q→
   ∃T id,typeLookup (.type T) "__getitem__"=pure (some (.builtin id))/\s.TypeIs v T/\wpAny (model X.prog X.w) X.A (getItem v (.ref b)) (EP X a c Q) X.xe s
def On(r:V->Option Int->Option Int->Hp->VK->Prop)(te:TE)(tl th:TO):TE:=λa H Q=>te a H λx H1=>tl a H1 λl H2=>th a H2 λu H3=>r x l u H3 Q
def FA{r:V->Option Int->Option Int->Hp->VK->Prop}(j:MO X r)(he:PE X e te)(hl:PO X lo tl)(n:PO X hi th):PE X (.Subscript e (.Slice lo hi none p2) pos) (On r te tl th):=by
 intro a s d H Q I h
 refine Subscript_ (c9 (he a s d H _ I h) λv o i=> ?_)
 obtain⟨x,H1,F,k,p⟩:=i
 refine wpAny_Slice (c9 (hl a o d H1 _ F p) λg y ⟨l,H2,z,B,C⟩=>c9 (n a y d H2 _ z C) λf c i=> ?_)
 obtain⟨u,H3,t,m,J⟩:=i
 rw[evalPart_none]
 refine Qgq ?_
 have G:Inv X a d H3 {c with heap:=c.heap.push {cls:=.type "slice",data:=.fields #[g,f,.none]}}:=t.kept (t':=c.toks) λb K q=>Qcq _ q
 obtain⟨T,id,hT,ht,hg⟩:=j a {c with heap:=c.heap.push {cls:=.type "slice",data:=.fields #[g,f,.none]}} d H3 x v g f l u c.heap.objs.size Q G k (Heap.IsSliceOf.new ..) B m J
 show wpAny (model X.prog X.w) X.A (subscriptTail e (.Slice lo hi none p2) v (.ref c.heap.objs.size)) (EP X a d Q) X.xe {c with heap:=c.heap.push {cls:=.type "slice",data:=.fields #[g,f,.none]}}
 exact tail_any (ops:= [.ref c.heap.objs.size,v]) ht hT hg (by with_unfolding_all rfl)
def Bx(xs:List V)(lo hi:Option Int):List V:=(xs.drop (HT.eR xs.length 0 lo)).take (HT.eR xs.length xs.length hi-HT.eR xs.length 0 lo)
def yI(xs:List V)(lo hi:Option Int):(Bx xs lo hi).length<=xs.length:=by
 unfold Bx
 rw[Qxq,List.length_drop]
 omega
def MN(K:PySem.W.Frag):V->Option Int->Option Int->Hp->VK->Prop:=λx lo hi H Q=>∃a b,x=.ref a/\gJ K H a b∧
 ¬(HT.eR b.length 0 lo=0/\HT.eR b.length b.length hi=b.length)/\∀p,H p=none->Q (.ref p) (upd H p (.tup (Bx b lo hi)))
def Jh:MO X (MN X.K):=by
 intro i s y H x v w t lo hi p Q I l n m k h
 obtain⟨a,d,rfl,hx,hw,q⟩:=h
 cases l
 obtain⟨f,r,j,g⟩:=I.tuple hx
 have c:f.toArray.size=d.length:=by rw[Qjq];exact r.length.symm
 refine⟨"tuple",_,PyProof.Rows.slot_tuple_getitem.lookup,j.typeIs,?_⟩
 refine HT.oI j n m k (by rw[c];exact hw) ?_ (by rw[c];exact g)
 rw[c]
 refine⟨.ref s.heap.objs.size,_,I.laid (t':=s.toks) (o:=.tup (Bx d lo hi)) (λb u q=>Qcq _ q) (Qmq _) ?_,rfl,q _ (I.hok.fresh (Qmq _))⟩
 exact⟨QAq (yI d lo hi) g,_,(r.drop (HT.eR d.length 0 lo)).take (HT.eR d.length d.length hi-HT.eR d.length 0 lo),Aa.new _ _⟩
def Ib(K:PySem.W.Frag):R2:=λx y H Q=>∃a b d c,x=.ref a/\y=.ref b/\gJ K H a d/\gJ K H b c/\d≠[]/\d.length+c.length<=sizeLine∧
 (c= []->Q (.ref a) H)/\(c≠[]->∀p,H p=none->Q (.ref p) (upd H p (.tup (d++c))))
def bF.nil_iff{xs:List V}{a:List Value}(r:bF xs a):a= []↔xs= []:=by
 cases r with
 |nil=>simp
 |cons _ _=>simp
def GA:i4 X (binaryOp .Add) (Ib X.K):=by
 intro f s r H x y v u Q I k j h
 obtain⟨a,b,n,m,rfl,rfl,ha,hb,hx,hz,q1,q2⟩:=h
 cases k
 cases j
 obtain⟨l,d,i,_⟩:=I.tuple ha
 obtain⟨g,c,p2,_⟩:=I.tuple hb
 refine HT.HD i p2 (λz=>hx (d.nil_iff.mp z)) (λz=>⟨.ref a,H,I,rfl,q1 (c.nil_iff.mp z)⟩) (λz=> ?_) (by rw[←d.length,←c.length];exact hz)
 refine⟨.ref s.heap.objs.size,_,I.laid (t':=s.toks) (o:=.tup (n++m)) (λb p q=>Qcq _ q) (Qmq _) ?_,rfl,q2 (λw=>z (c.nil_iff.mpr w)) _ (I.hok.fresh (Qmq _))⟩
 exact⟨by rw[lQa];exact hz,_,d.append c,Aa.new _ _⟩
end
def Gs(n:Nat)(i:Int):Option Nat:=if 0<=i then(if i<n then some i.toNat else none) else if -(n:Int)<=i then some (i+n).toNat else none
def jw{α:Type}(xs:List α)(i:Int):Option α:=(Gs xs.length i).bind λj=>xs[j]?
def Cm{n:Nat}{i:Int}{j:Nat}(h:Gs n i=some j):seqIndex? i n=some j/\j<n/\ -(n:Int)<=i/\i<n:=by
 unfold Gs at h
 by_cases b:0<=i
 ·rw[Qhq b] at h
  by_cases a:i<n
  ·rw[Qhq a] at h
   have e:i.toNat=j:=QdQ h
   exact⟨by rw[seqIndex_of b a,e],by omega,by omega,a⟩
  ·rw[Quq a] at h;cases h
 ·rw[Quq b] at h
  by_cases a: -(n:Int)<=i
  ·rw[Qhq a] at h
   have e:(i+n).toNat=j:=QdQ h
   exact⟨by rw[seqIndex_neg (by omega) a,e],by omega,a,by omega⟩
  ·rw[Quq a] at h;cases h
def yw{α:Type}{xs:List α}{i:Int}{v:α}(h:jw xs i=some v):∃j,seqIndex? i xs.length=some j/\xs[j]?=some v/\j<xs.length/\ -(xs.length:Int)<=i/\i<xs.length:=by
 unfold jw at h
 cases e:Gs xs.length i with
 |none=>rw[e] at h;cases h
 | some j=>
   rw[e] at h
   obtain⟨d,a,c,b⟩:=Cm e
   exact⟨j,d,h,a,c,b⟩
def BP(b:Expr):Prop:=∀o i,subscripted b false o i=operate [o,i] (getItem o i)
def GW(X:Cx)(r:R2):Prop:=
 ∀ (c a:Expr) (b:List (Addr×Obj)) (s:Shared) (d:St) (H:Hp) (x y:V) (v u:Value) (Q:VK),Inv X b d H s->RelV x v->RelV y u->r x y H Q→
   subscripted a false v u=operate [v,u] (getItem v u)->wpAny (model X.prog X.w) X.A (subscriptTail c a v u) (EP X b d Q) X.xe s
def Mk(X:Cx)(id:String)(r:V->List V->Hp->VK->Prop):Prop:=
 ∀ (a:List (Addr×Obj)) (s:Shared) (c:St) (H:Hp) (x:V) (b:List V) (v:Value) (d:List Value) (Q:VK),Inv X a c H s->RelV x v->bF b d->r x b H Q→
   wpAny (model X.prog X.w) X.A (call (.builtin id) (v::d)) (EP X a c Q) X.xe s
section
variable{X:Cx}{a b:Expr}{ta tb:TE}{pos:Pos}
def GW.or{r j:R2}(h:GW X r)(h':GW X j):GW X (λx y H Q=>r x y H Q\/j x y H Q):=by
 intro d c e s i H x y v u Q I g f q k
 rcases q with q|q
 ·exact h d c e s i H x y v u Q I g f q k
 ·exact h' d c e s i H x y v u Q I g f q k
def LU{r:R2}(e:GW X r)(f:PE X a ta)(l:PE X b tb)(m:BP b):PE X (.Subscript a b pos) (FV r ta tb):=by
 intro c s k H Q I h
 exact Subscript_ (IK f l I h λv u i x y H2 j g d q=>e a b c i k H2 x y v u Q j g d q (m _ _))
def KN(K:PySem.W.Frag):R2:=λx y H Q=>∃p c i v,x=.ref p/\y=.int i/\g6 K H p c/\jw c i=some v/\Q v H
def Lo(K:PySem.W.Frag):R2:=λx y H Q=>∃p c i v,x=.ref p/\y=.int i/\gJ K H p c/\jw c i=some v/\Q v H
def LK:R2:=λx y H Q=>∃z i c,x=.str z/\y=.int i/\z.length<=sizeLine/\jw z.cps.toList i=some c/\Q (.str ⟨#[c]⟩) H
def Gw:GW X (KN X.K):=by
 intro l g c s B H x y v u Q I G F h C
 obtain⟨p,R,i,z,rfl,rfl,hq,he,q⟩:=h
 cases G
 obtain⟨t,rfl⟩:=F
 obtain⟨m,r,n,P⟩:=I.list hq
 obtain⟨j,e,N,S,L,J⟩:=yw he
 obtain⟨w,o,f⟩:=r.get N
 have hl:=r.length
 have U:=k_
 have d:EP X c B Q w s:=⟨z,H,I,f,q⟩
 by_cases A:0<=i
 ·have k:i.toNat=j:=by
   rw[seqIndex_of A J] at e
   exact QdQ e
  exact item_listR n.isList A (by omega) (by rw[k];simpa using o) d C
 ·have k:(i+(m.toArray.size:Int)).toNat=j:=by
   rw[seqIndex_neg (by omega) L] at e
   rw[Qjq,←hl]
   exact QdQ e
  exact subscriptTail_builtinR (x:=w) n.isList.typeIs slot_list_getitem.lookup
   (wpAny_getItem_list_neg (Q:=λr M=>r=w/\EP X c B Q r M) n.isList (by omega) (by rw[Qjq] <;>omega) (by omega) (by rw[k];simpa using o) ⟨rfl,d⟩) C
def Jv:GW X (Lo X.K):=by
 intro f e c s l H x y v u Q I A m h G
 obtain⟨p,N,i,z,rfl,rfl,hq,he,q⟩:=h
 cases A
 obtain⟨t,rfl⟩:=m
 obtain⟨C,r,k,J⟩:=I.tuple hq
 obtain⟨j,n,F,P,M,L⟩:=yw he
 obtain⟨w,o,d⟩:=r.get F
 have hl:=r.length
 have R:=k_
 have g:EP X c l Q w s:=⟨z,H,I,d,q⟩
 exact subscriptTail_builtinR (x:=w) k.typeIs slot_tuple_getitem.lookup
  (getItem_tuple (j:=j) (Q:=λr B=>r=w/\EP X c l Q r B) k (by omega) (by omega) (by rw[Qjq,←hl];exact n) (by simpa using o) ⟨rfl,g⟩) G
def I_:GW X LK:=by
 intro e d f s B H x y v u Q I l k h w
 obtain⟨z,i,c,rfl,rfl,hz,he,q⟩:=h
 obtain⟨t,rfl⟩:=l
 obtain⟨A,rfl⟩:=k
 obtain⟨j,g,r,C,p,o⟩:=yw he
 have hl:z.cps.toList.length=z.length:=by simp[Str.length]
 rw[hl] at g p o
 have F:=k_
 exact tail_any (typeIs_str s z t) slot_str_getitem.lookup (getItem_str (c:=c) (by
  have m:decide (i< -(2^63:Int))=false:=Qdq (by omega)
  have n:decide (i>=2^63)=false:=Qdq (by omega)
  rw[m,n,Bool.or_false]) (by rw[g];simpa using r) ⟨.str ⟨#[c]⟩,H,I.tok _,⟨_,rfl⟩,q⟩) w
def NL(K:PySem.W.Frag):R2:=λx y H Q=>KN K x y H Q\/Lo K x y H Q\/LK x y H Q
def JP:GW X (NL X.K):=Gw.or (Jv.or I_)
def BB(c:List Value)(n j:Nat)(u:Value):Obj.mapSeq (·.setIfInBounds j u) {cls:=.type "list",data:=.seq c.toArray n}={cls:=.type "list",data:=.seq (c.set j u).toArray n}:=by
 simp[Obj.mapSeq]
def Inv.lst{d:List (Addr×Obj)}{f:St}{H:Hp}{s:Shared}{p:Addr}{xs:List V}(I:Inv X d f H s)(h:H p=some (.lst xs)):
  ∃(c:List Value) (n:Nat),bF xs c/\s.heap.get? p=some {cls:=.type "list",data:=.seq c.toArray n}/\xs.length<=sizeLine:=by
 obtain⟨z,c,n,r,e⟩:=I.hok p _ h
 exact⟨c,n,r,e,z⟩
def Inv.lstUpd{c:List (Addr×Obj)}{j:St}{H:Hp}{s:Shared}{p:Addr}{xs ys:List V}{d its':List Value}{n g:Nat}{f:Obj->Obj}(I:Inv X c j H s)(h:H p=some (.lst xs))
  (k:s.heap.get? p=some {cls:=.type "list",data:=.seq d.toArray n}) (i:f {cls:=.type "list",data:=.seq d.toArray n}={cls:=.type "list",data:=.seq its'.toArray g}) (r:bF ys its') (hz:ys.length<=sizeLine) (t:Nat):
  Inv X c j (upd H p (.lst ys)) {s with heap:=s.heap.update p f,toks:=t}:=by
 have e:(s.heap.update p f).get? p=some {cls:=.type "list",data:=.seq its'.toArray g}:=by
  rw[Heap.get?_update_self f k (by rw[i] <;>rfl),i]
 refine I.write (x:=p) (e:=p) (by rw[h];trivial) (.inl rfl) (λb u l q=>(Heap.get?_update_other _ _ (Ne.symm l)).trans q) ⟨_,e⟩ ?_
 exact⟨hz,its',g,r,e⟩
def Ij:V->V->V->Hp->(Hp->Prop)->Prop:=λo i v H Q=>∃p c k j,o=.ref p/\i=.int k/\H p=some (.lst c)/\Gs c.length k=some j/\Q (upd H p (.lst (c.set j v)))
def set_list:LB X Ij:=by
 intro c s C H o i v K G u Q I A F y h
 obtain⟨p,B,k,j,rfl,rfl,hp,hj,q⟩:=h
 cases A
 obtain⟨t,rfl⟩:=F
 obtain⟨d,n,r,g,z⟩:=I.lst hp
 obtain⟨e,J,x,w⟩:=Cm hj
 have hl:=r.length
 have L:=k_
 have l:Inv X c C (upd H p (.lst (B.set j v))) {s with heap:=s.heap.update p (Obj.mapSeq (·.setIfInBounds j u))}:=
  I.lstUpd hp g (BB d n j u) (r.set y j) (by rw[List.length_set];exact z) s.toks
 by_cases m:0<=k
 ·have f:k.toNat=j:=by
   rw[seqIndex_of m w] at e
   exact QdQ e
  exact PySem.W.ki_setAt g m (by omega) (by rw[Qjq,←hl];exact w) (by rw[f];exact⟨_,l,q⟩)
 ·have f:(k+(d.toArray.size:Int)).toNat=j:=by
   rw[seqIndex_neg (by omega) x] at e
   rw[Qjq,←hl]
   exact QdQ e
  exact PySem.W.ki_setBack g (by omega) (by rw[Qjq,←hl];exact x) (by omega) (by rw[f];exact⟨_,l,q⟩)
def fG:V->Bool
 |.non=>true
 |.bl _=>true
 |.int _=>true
 |.str _=>true
 |_=>false
def jz:V->V->Bool
 |.non,.non=>true
 |.bl a,.bl b=>a==b
 |.bl a,.int b=>(if a then 1 else 0)==b
 |.int a,.bl b=>a==(if b then 1 else 0)
 |.int a,.int b=>a==b
 |.str a,.str b=>a==b
 |_,_=>false
def F7{A:Around}{s:Shared}{y x:V}{u v:Value}(e:RelV y u)(c:RelV x v)(g:fG y=true)(f:fG x=true):SeqAt.EqAt A s u v (jz y x):=by
 cases y with
 | non=>
   cases e
   cases x with
   |non=>cases c;exact SeqAt.EqAt.same _
   |bl b=>cases c;exact SeqAt.EqAt.none_bool b
   |int b=>obtain⟨t,rfl⟩:=c;exact SeqAt.EqAt.none_int b t
   |str b=>obtain⟨t,rfl⟩:=c;exact SeqAt.EqAt.none_str b t
   |_=>exact absurd (show false=true from f) Qtq
 | bl a=>
   cases e
   cases x with
   |non=>cases c;exact SeqAt.EqAt.bool_none a
   |bl b=>cases c;exact SeqAt.EqAt.bool_bool a b
   |int b=>obtain⟨t,rfl⟩:=c;exact SeqAt.EqAt.bool_int a b t
   |str b=>obtain⟨t,rfl⟩:=c;exact SeqAt.EqAt.bool_str a b t
   |_=>exact absurd (show false=true from f) Qtq
 | int a=>
   obtain⟨d,rfl⟩:=e
   cases x with
   |non=>cases c;exact SeqAt.EqAt.int_none a d
   |bl b=>cases c;exact SeqAt.EqAt.int_bool a d b
   |int b=>obtain⟨t,rfl⟩:=c;exact SeqAt.EqAt.int_int a d b t
   |str b=>obtain⟨t,rfl⟩:=c;exact SeqAt.EqAt.int_str a d b t
   |_=>exact absurd (show false=true from f) Qtq
 | str a=>
   obtain⟨d,rfl⟩:=e
   cases x with
   |non=>cases c;exact SeqAt.EqAt.str_none a d
   |bl b=>cases c;exact SeqAt.EqAt.str_bool a d b
   |int b=>obtain⟨t,rfl⟩:=c;exact SeqAt.EqAt.str_int a d b t
   |str b=>obtain⟨t,rfl⟩:=c;exact SeqAt.EqAt.str_str a d b t
   |_=>exact absurd (show false=true from f) Qtq
 |_=>exact absurd (show false=true from g) Qtq
def yA(x:V)(u:Value):Bool:=match u with
 |.none=>jz .non x
 |.bool b=>jz (.bl b) x
 |.int i _=>jz (.int i) x
 |.str z _=>jz (.str z) x
 |_=>false
def tw{x y:V}{u:Value}(r:RelV y u)(f:fG y=true):yA x u=jz y x:=by
 cases y with
 |non=>cases r;rfl
 |bl b=>cases r;rfl
 |int i=>obtain⟨t,rfl⟩:=r;rfl
 |str z=>obtain⟨t,rfl⟩:=r;rfl
 |_=>exact absurd (show false=true from f) Qtq
theorem ph{x:V}:∀{xs:List V} {c:List Value},bF xs c->xs.all fG=true->c.any (yA x)=xs.any λy=>jz y x
 |_,_,.nil,_=>rfl
 | y::xs,u::c,.cons r t,f=>by
   rw[List.all_cons,QCq] at f
   rw[List.any_cons,List.any_cons,tw r f.1,ph t f.2]
theorem ix{A:Around}{s:Shared}{x:V}{v:Value}(e:RelV x v)(g:fG x=true):∀{xs:List V} {d:List Value},bF xs d->xs.all fG=true->∀u∈d,SeqAt.EqAt A s u v (yA x u)
 |_,_,.nil,_=>λu c=>by cases c
 | y::xs,u::d,.cons r t,f=>λh c=>by
   rw[List.all_cons,QCq] at f
   rcases Qsq.mp c with rfl|c
   · rw[tw r f.1];exact F7 r e f.1 g
   · exact ix e g t f.2 h c
def FH(x:V)(xs:List V):Bool:=xs.any λy=>jz y x
def NG(K:PySem.W.Frag)(d:Bool):R2:=λx y H Q=>∃p c,y=.ref p/\(g6 K H p c\/gJ K H p c)/\fG x=true/\c.all fG=true/\Q (.bl (if d then !FH x c else FH x c)) H
def DT:i4 X (compareOp .In) (NG X.K false):=by
 intro g s m H x y v u Q I i j h
 obtain⟨p,l,rfl,d,fx,fs,q⟩:=h
 cases j
 rcases d with d|d
 ·obtain⟨c,r,f,k⟩:=I.list d
  refine SeqAt.in_listAt (yA x) f.isList (λw e=>ix i fx r fs w (by simpa using e)) ⟨.bl _,H,I,rfl,?_⟩
  rw[show c.toArray.any (yA x)=c.any (yA x) by simp,ph r fs]
  exact q
 ·obtain⟨c,r,f,k⟩:=I.tuple d
  refine SeqAt.in_tupleAt (yA x) f (λw e=>ix i fx r fs w (by simpa using e)) ⟨.bl _,H,I,rfl,?_⟩
  rw[show c.toArray.any (yA x)=c.any (yA x) by simp,ph r fs]
  exact q
def yi:i4 X (compareOp .NotIn) (NG X.K true):=by
 intro g s m H x y v u Q I i j h
 obtain⟨p,l,rfl,d,fx,fs,q⟩:=h
 cases j
 rcases d with d|d
 ·obtain⟨c,r,f,k⟩:=I.list d
  refine SeqAt.notIn_listAt (yA x) f.isList (λw e=>ix i fx r fs w (by simpa using e)) ⟨.bl _,H,I,rfl,?_⟩
  rw[show c.toArray.any (yA x)=c.any (yA x) by simp,ph r fs]
  exact q
 ·obtain⟨c,r,f,k⟩:=I.tuple d
  refine SeqAt.notIn_tupleAt (yA x) f (λw e=>ix i fx r fs w (by simpa using e)) ⟨.bl _,H,I,rfl,?_⟩
  rw[show c.toArray.any (yA x)=c.any (yA x) by simp,ph r fs]
  exact q
def oD:gk X (.builtin "len") (λxs H Q=>∃p ys,xs= [.ref p]/\(g6 X.K H p ys\/gJ X.K H p ys)/\Q (.int ys.length) H):=by
 intro i s k H xs l Q I r h
 obtain⟨p,ys,rfl,d,q⟩:=h
 obtain⟨u,rfl,rx⟩:=vals1 r
 cases rx
 have m:=k_
 rcases d with d|d
 ·obtain⟨e,g,f,j⟩:=I.list d
  have c:=g.length
  exact Calls.call_len_list f.isList (by simp only[Qjq] <;>omega) ⟨.int ys.length,H,I.tok _,⟨s.toks+1,by rw[Qjq,c]⟩,q⟩
 ·obtain⟨e,g,f,j⟩:=I.tuple d
  have c:=g.length
  exact len_tuple f (by simp only[Qjq] <;>omega) ⟨.int ys.length,H,I.tok _,⟨s.toks+1,by rw[Qjq,c]⟩,q⟩
def xv:gk X (.builtin "len") (λxs H Q=>∃z,xs= [.str z]/\z.length<=sizeLine/\Q (.int z.length) H):=by
 intro c s d H xs e Q I r h
 obtain⟨z,rfl,hz,q⟩:=h
 obtain⟨u,rfl,t,rfl⟩:=vals1 r
 have f:=k_
 exact len_str (by omega) ⟨.int z.length,H,I.tok _,⟨_,rfl⟩,q⟩
def gk.or{f:Value}{r i:List V->Hp->VK->Prop}(h:gk X f r)(h':gk X f i):gk X f (λxs H Q=>r xs H Q\/i xs H Q):=by
 intro c s d H xs g Q I e q
 rcases q with q|q
 ·exact h c s d H xs g Q I e q
 ·exact h' c s d H xs g Q I e q
def xX:gk X (.type "list") (λxs H Q=>∃p ys,xs= [.ref p]/\(g6 X.K H p ys\/gJ X.K H p ys)/\∀l,H l=none->Q (.ref l) (upd H l (.lst ys))):=by
 intro k s C H xs F Q I r h
 obtain⟨p,ys,rfl,m,q⟩:=h
 obtain⟨u,rfl,rx⟩:=vals1 r
 cases rx
 have t:∀(c:List Value),bF ys c->ys.length<=sizeLine->∀(d:Heap) (f:Nat),(∀b B,s.heap.get? b=some B->d.get? b=some B)→
   d.get? s.heap.objs.size=some {cls:=.type "list",dict:=none,data:=.seq c.toArray f,slots:= #[]}->EP X k C Q (.ref s.heap.objs.size) {s with heap:=d}:=λc g i d f j e=>
  ⟨.ref s.heap.objs.size,_,I.laid (t':=s.toks) j (Qmq _) (show cT X.prog X.w _ d _ (.lst ys) from⟨i,c,f,g,e⟩),rfl,q _ (I.hok.fresh (Qmq _))⟩
 rcases m with m|m
 ·obtain⟨c,g,x,i⟩:=I.list m
  have v:=g.length
  obtain⟨o,y,A,n,z⟩:=x.isList
  exact call_list_seq p (.inl rfl) y A z (λd f j e=>t c g i d f j e) (by simp only[Qjq] <;>omega)
 ·obtain⟨c,g,x,i⟩:=I.tuple m
  have v:=g.length
  obtain⟨o,y,A,n,z⟩:=x
  exact call_list_seq p (.inr rfl) y A z (λd f j e=>t c g i d f j e) (by simp only[Qjq] <;>omega)
def uP:gk X (.type "tuple") (λxs H Q=>∃p ys,xs= [.ref p]/\((g6 X.K H p ys/\∀l,H l=none->Q (.ref l) (upd H l (.tup ys)))\/(gJ X.K H p ys/\Q (.ref p) H))):=by
 intro c s m H xs y Q I r h
 obtain⟨p,ys,rfl,h⟩:=h
 obtain⟨u,rfl,rx⟩:=vals1 r
 cases rx
 rcases h with⟨i,q⟩|⟨i,q⟩
 ·obtain⟨d,j,g,k⟩:=I.list i
  have t:=j.length
  refine call_tuple_list g.isList (λf v=> ?_) (by simp only[Qjq] <;>omega)
  have n:Inv X c m H {s with heap:=f}:=I.kept (t':=s.toks) v
  have x:Inv X c m (upd H f.objs.size (.tup ys)) {s with heap:=f.push {cls:=.type "tuple",data:=.seq d.toArray}}:=
   n.laid (t':=s.toks) (λb o e=>Qcq _ e) (Qmq _) (show cT X.prog X.w _ _ _ (.tup ys) from⟨k,d,j,Aa.new _ _⟩)
  exact⟨.ref f.objs.size,_,x,rfl,q _ (n.hok.fresh (Qmq _))⟩
 ·obtain⟨d,j,g,k⟩:=I.tuple i
  exact call_tuple_same g ⟨.ref p,H,I,rfl,q⟩
def Oe(K:PySem.W.Frag)(T:String)(x:V)(H:Hp):Prop:=match x with
 |.str _=>T="str"
 |.int _=>T="int"
 |.ref p=>(T="list" /\∃d,g6 K H p d)\/(T="tuple" /\∃o,K.lookup p=some o/\o.cls=.type "tuple" /\o.dict=none)∨
   (T="dict" /\((∃c,H p=some (.dK c))\/∃c,H p=some (.dT c)))\/(T="set" /\∃S n,H p=some (.set S n))
 |_=>False
def Kk{g:List (Addr×Obj)}{w:St}{H:Hp}{s:Shared}{T:String}{x:V}{v:Value}(I:Inv X g w H s)(r:RelV x v)(h:Oe X.K T x H):
  s.TypeIs v T/\∀a,v=.ref a->∃m,s.heap.get? a=some m/\m.dict=none:=by
 cases x with
 | str z=>
   obtain⟨t,rfl⟩:=r
   cases (show T="str" from h)
   exact⟨typeIs_str s z t,λ_ e=>nomatch e⟩
 | int i=>
   obtain⟨t,rfl⟩:=r
   cases (show T="int" from h)
   exact⟨typeIs_int s i t,λ_ e=>nomatch e⟩
 | ref p=>
   cases r
   rcases h with⟨rfl,xs,hq⟩|⟨rfl,o,d,hc,l⟩|⟨rfl,d⟩|⟨rfl,S,n,d⟩
   · obtain⟨u,_,q,_⟩:=I.list hq
     refine⟨q.isList.typeIs,λa e=> ?_⟩
     cases e
     obtain⟨o,n,e,c,l,_⟩:=q
     exact⟨o,e,l⟩
   · refine⟨⟨o,I.kIn p o d,hc⟩,λa e=> ?_⟩
     cases e
     exact⟨o,I.kIn _ o d,l⟩
   · have z:∃o,s.heap.get? p=some o/\o.ExactDict:=by
       rcases d with⟨j,d⟩|⟨j,d⟩
       · obtain⟨_,_,_,_,o,_,_,e,f,_⟩:=I.hok p _ d
         exact⟨o,e,f⟩
       · obtain⟨_,_,_,_,o,_,_,e,f,_⟩:=I.hok p _ d
         exact⟨o,e,f⟩
     obtain⟨o,e,f⟩:=z
     refine⟨⟨o,e,f.1⟩,λa k=> ?_⟩
     cases k
     exact⟨o,e,f.2.1⟩
   · obtain⟨o,_,_,_,e,f,_⟩:=I.hok p _ d
     refine⟨⟨o,e,f.1⟩,λa k=> ?_⟩
     cases k
     exact⟨o,e,f.2.1⟩
 |_=>exact False.elim h
def Mx(K:PySem.W.Frag)(T:String)(r:V->List V->Hp->VK->Prop)(e:TE)(t:TA):TE:=λc H Q=>e c H λx H1=>Oe K T x H1/\t c H1 λd H2=>r x d H2 Q
variable{o e:Expr}{es:List Expr}{to:TE}{t:TA}{name:Str}{apos cpos:Pos}{T id:String}{r:V->List V->Hp->VK->Prop}
def vX(p:PlainAttrs T)(slot:Slot T name id)(k:typeOf (.builtin id)=pure (.type "method_descriptor"))(y:Mk X id r)(N:PE X o to)(z:PA X (e::es) t)
  (f:attributeBase o name X.env (eval o X.env)=eval o X.env:=by rfl)
  (i:((backTo cpos (starEach (e::es) X.env)).all (λx=> !x.1)&&(backToKw cpos (keywordEach [] X.env)).all (λx=>x.1.isSome)
   &&decide ((e::es).length+([]:List Keyword).length+(if ([]:List Keyword).isEmpty then 0 else 1)<30))=true:=by rfl)
  (g:(apos.endLine==cpos.line)=true:=by rfl) (R:starEach (e::es) X.env=(false,eval e X.env)::starEach es X.env:=by rfl) (d:(backTo cpos (starEach es X.env)).any (·.1)=false:=by rfl):
  PE X (.Call (.Attribute o name apos) (e::es) [] cpos) (Mx X.K T r to t):=by
 intro c s j H Q I h
 refine wpAny_Call_method_late f i g rfl (c9 (N c s j H _ I h) λv u F=> ?_)
 obtain⟨x,H1,m,l,B,A⟩:=F
 obtain⟨q,L⟩:=Kk m l B
 refine⟨T,id,p,slot,k,q,L,?_⟩
 have n:=z cpos c u j H1 _ m A
 rw[R] at n⊢
 refine Calls.callWith_builtin (by show(false||(backTo cpos (starEach es X.env)).any (·.1))=false;rw[d] <;>rfl) (Calls.evalArgs_plain ?_)
 exact c9 n λM C ⟨w,H2,G,P,J⟩=>y c C j H2 x w v M Q G l P J
end
def MG(X:Cx)(id:String)(r:V->List V->Hp->VK->Prop):Prop:=
 ∀ (a:List (Addr×Obj)) (s:Shared) (c:St) (H:Hp) (x:V) (b:List V) (v:Value) (d:List Value) (Q:VK),Inv X a c H s->RelV x v->bF b d->r x b H Q→
   wpAny (model X.prog X.w) X.A (call (.builtin id) (v::d)) (EP X a c Q) X.xe s
def bF.one:∀{x:V} {a:List Value},bF [x] a->∃u,a= [u]/\RelV x u
 |_,_,.cons r .nil=>⟨_,rfl,r⟩
theorem bF.rep{xs:List V}{a:List Value}(h:bF xs a):∀k:Nat,bF (List.replicate k xs).flatten (List.replicate k a).flatten
 |0=>.nil
 | k+1=>by
   rw[QNq,QNq,List.flatten_cons,List.flatten_cons]
   exact bF.append h (bF.rep h k)
theorem foldl_rep(a:List Value):∀(k:Nat) (b:List Value),
  List.foldl (λf d=>f++d) b.toArray (List.replicate k a.toArray)=(b++(List.replicate k a).flatten).toArray
 |0,b=>by simp
 | k+1,b=>by
   have e:b.toArray++a.toArray=(b++a).toArray:=by simp
   have c:(b++a)++(List.replicate k a).flatten=b++(List.replicate (k+1) a).flatten:=by
     rw[QNq,List.flatten_cons,Qvq]
   rw[←c,←foldl_rep a k (b++a),←e,QNq,List.foldl_cons]
section
variable{X:Cx}{pins:List (Addr×Obj)}{σ:St}{H:Hp}{s:Shared}{l b:Addr}{xs ys zs:List V}
def Inv.lset{a its':List Value}{n:Nat}{f:Array Value->Array Value}{t':Nat}(I:Inv X pins σ H s)(d:H l=some (.lst xs))
  (e:s.heap.get? l=some {cls:=.type "list",data:=.seq a.toArray n}) (i:f a.toArray=its'.toArray) (g:bF ys its') (hz:ys.length<=sizeLine):
  Inv X pins σ (upd H l (.lst ys)) {s with heap:=s.heap.update l (Obj.mapSeq f),toks:=t'}:=by
 have q:=PySem.IsL.update e f
 rw[i] at q
 refine I.write (x:=l) (e:=l) (by rw[d];exact trivial) (.inl rfl) (λj u h c=>(Heap.get?_update_other s.heap (Obj.mapSeq f) (Ne.symm h)).trans c) ⟨_,q⟩ ?_
 exact⟨hz,its',_,g,q⟩
def Inv.lnew{a:List Value}{t':Nat}(I:Inv X pins σ H s)(c:bF ys a)(hz:ys.length<=sizeLine):
  Inv X pins σ (upd H s.heap.objs.size (.lst ys)) {s with heap:=s.heap.push {cls:=.type "list",data:=.seq a.toArray},toks:=t'}:=
 I.laid (λ_ _ q=>Qcq _ q) (Qmq _) ⟨hz,a,0,c,Qrq _ rfl⟩
def Inv.fresh(I:Inv X pins σ H s):H s.heap.objs.size=none:=I.hok.fresh (Qmq _)
def Inv.lstM(I:Inv X pins σ H s)(c:H l=some (.lst xs)):xs.length<=sizeLine/\∃(a:List Value) (n:Nat),bF xs a/\xs.length=a.length/\s.heap.get? l=some {cls:=.type "list",data:=.seq a.toArray n}:=by
 obtain⟨z,a,n,r,e⟩:=I.hok l _ c
 exact⟨z,a,n,r,r.length,e⟩
def tT{n:Nat}(h:n<=sizeLine):Builtin.List.listTooLong n=false:=by
 unfold Builtin.List.listTooLong
 exact Qdq (by omega)
end
section
variable{X:Cx}
def B6:V->List V->Hp->VK->Prop:=λx b H Q=>∃l a y,x=.ref l/\b= [y]/\H l=some (.lst a)/\a.length<sizeLine/\Q .non (upd H l (.lst (a++ [y])))
def pX:MG X "list.append" B6:=by
 intro b s i H x f v j Q I d c h
 obtain⟨l,g,y,rfl,rfl,hH,hz,q⟩:=h
 cases d
 obtain⟨u,rfl,ru⟩:=c.one
 obtain⟨z,a,n,r,hl,e⟩:=I.lstM hH
 refine call_meets F.slot_list_append ⟨_,e,rfl⟩ F.entry_list_append (F.args_list_append_2 _ _) (PySem.list_append l a.toArray n u (by rw[Qjq];omega)) ⟨e,?_⟩
 refine⟨.non,_,I.lset (its':=a++ [u]) hH e (by simp) (r.append (.cons ru .nil)) ?_,rfl,q⟩
 rw[lQa,List.length_singleton]
 omega
def Cu:V->List V->Hp->VK->Prop:=λx d H Q=>∃l b a c,x=.ref l/\d= [.ref b]/\H l=some (.lst a)/\H b=some (.lst c)/\a.length+c.length<=sizeLine/\Q .non (upd H l (.lst (a++c)))
def D8:MG X "list.extend" Cu:=by
 intro g s A H x w v C Q I j i h
 obtain⟨l,b,y,B,rfl,rfl,hH,hB,hz,q⟩:=h
 cases j
 obtain⟨u,rfl,ru⟩:=i.one
 cases ru
 obtain⟨z,c,n,r,hl,e⟩:=I.lstM hH
 obtain⟨t,a,o,p,k,m⟩:=I.lstM hB
 have f:c.toArray.size+a.toArray.size<=sizeLine:=by rw[Qjq,Qjq];omega
 have d:¬(!c.toArray.isEmpty&&Builtin.List.listTooLong (c.toArray.size+a.toArray.size))=true:=by
  rw[tT f,Bool.and_false]
  exact Qtq
 refine call_meets F.slot_list_extend ⟨_,e,rfl⟩ F.entry_list_extend (F.args_list_extend_2 _ _)
  (AutoSeq1.list_extend_list_list_0 l c.toArray n b a.toArray o d (by rw[Qjq];omega) (by omega)) ⟨e,m,?_⟩
 refine⟨.non,_,I.lset (its':=c++a) hH e (by simp) (r.append p) ?_,rfl,q⟩
 rw[lQa]
 omega
def MQ:R2:=λx y H Q=>∃l b a c,x=.ref l/\y=.ref b/\H l=some (.lst a)/\H b=some (.lst c)/\a.length+c.length<=sizeLine/\∀p,H p=none->Q (.ref p) (upd H p (.lst (a++c)))
def JW:i4 X (binaryOp .Add) MQ:=by
 intro d s w H x y v u Q I g f h
 obtain⟨l,b,t,A,rfl,rfl,hH,hB,hz,q⟩:=h
 cases g
 cases f
 obtain⟨z,c,n,r,hl,e⟩:=I.lstM hH
 obtain⟨o,a,p,k,i,j⟩:=I.lstM hB
 refine PySem.P.add_list e j ?_ (by rw[Qjq,Qjq];omega)
 have m:c.toArray++a.toArray=(c++a).toArray:=by simp
 rw[m]
 exact⟨.ref _,_,I.lnew (t':=s.toks) (r.append k) (by rw[lQa];omega),rfl,q _ I.fresh⟩
def Nz:R2:=λx y H Q=>∃l k a,x=.ref l/\y=.int k/\H l=some (.lst a)/\ -(2^63)<=k/\k<2^63/\a.length*k.toNat<=sizeLine∧
 ∀p,H p=none->Q (.ref p) (upd H p (.lst (List.replicate k.toNat a).flatten))
def len_rep{α:Type}(xs:List α)(k:Nat):(List.replicate k xs).flatten.length=k*xs.length:=by
 induction k with
 |zero=>simp
 |succ k a=>rw[QNq,List.flatten_cons,lQa,a,Nat.succ_mul,Nat.add_comm]
def Kr:i4 X (binaryOp .Mult) Nz:=by
 intro p s J H x y v u Q I A w h
 obtain⟨l,k,G,rfl,rfl,hH,h1,h2,hz,q⟩:=h
 cases A
 obtain⟨t,rfl⟩:=w
 obtain⟨z,b,n,r,hl,e⟩:=I.lstM hH
 have i:b.toArray.size*k.toNat<=sizeLine:=by rw[Qjq,←hl];exact hz
 have f:¬b.toArray.size*k.toNat>(2^63-1)/8:=by
  have:(sizeLine:Nat)<=(2^63-1)/8:=by decide
  omega
 have g:¬(!Builtin.List.listFitsIndex k)=true:=by
  rw[fitsIndex_both h1 h2]
  exact Qtq
 have c:¬Builtin.List.listTooLong (b.toArray.size*k.toNat)=true:=by
  rw[tT i]
  exact Qtq
 have d:List.foldl (λj o=>j++o) #[] (List.replicate (if b.toArray.isEmpty=true then 0 else k.toNat) b.toArray)=(List.replicate k.toNat b).flatten.toArray:=by
  have B:∀m:Nat,List.foldl (λj o=>j++o) #[] (List.replicate m b.toArray)=(List.replicate m b).flatten.toArray:=λm=>by
   have:=foldl_rep b m []
   rw[List.nil_append] at this
   exact this
  rw[B]
  cases b with
  |nil=>simp
  |cons a K=>rw[Quq (by simp)]
 refine wpAny_binaryOp_repeat_ref (T:="list") (U:="int") (by decide) ⟨_,e,rfl⟩ (λC=>typeIs_int C k t) noFill_list_mul F.fills_int_mul F.slot_int_rmul repeat_list F.slot_int_index.lookup
  (call_meets F.slot_int_rmul (typeIs_int s k t) F.entry_int_rmul (F.args_int_rmul_2 _ _) (int___rmul___int_list k t l b.toArray n)
   ⟨e,rfl,⟨_,e,rfl⟩,call_meets F.slot_list_mul ⟨_,e,rfl⟩ F.entry_list_mul (F.args_list_mul_2 _ _) (AutoListH.list___mul___list_int_3 l b.toArray n k t g f c) ⟨e,?_⟩⟩)
 rw[d]
 exact⟨.ref _,_,I.lnew (t':=s.toks) (r.rep k.toNat) (by rw[len_rep,Nat.mul_comm];exact hz),rfl,q _ I.fresh⟩
end
end L2
namespace Att
open PySem PySem.W PySem.Calls PyProof.Rows
def rH{P:Params}{h:Heap}:∀(ns:List Int) (vs:List Value),WellAll P h vs (ns.map WData.int)->IntsAre vs ns:=by
 intro ns
 induction ns with
 | nil=>
   intro vs w
   rw[List.map_nil] at w
   cases w
   exact .nil
 | cons n ns c=>
   intro vs w
   rw[QDq] at w
   cases w with
   | cons a b=>
     cases a
     exact .cons _ _ (c _ b)
def C1{l:OpenLaw}{n:Nat}(t:l.most=some n){P:Params}{h:Heap}{args:List WData}{vals:List Value}
  (b:l.row.toRowW.claim.pre args=true) (i:WellAll P h vals args):
  ∃a vs ns,vals= [Value.ref a]/\args= [WData.list (ns.map WData.int)]/\h.get? a=some {cls:=.type "list",data:=.seq vs.toArray}/\IntsAre vs ns/\ns.length<=n:=by
 have j:WShape.hasAll [] args [.list .int]=true:=(pre_splitW b).1
 have k:l.pre.holds [] {args:=args}=true:=(pre_splitW b).2
 obtain⟨d,r,rfl,h1,h2⟩:=hasAllW_cons j
 obtain rfl:=hasAllW_nil h2
 obtain⟨u,rfl,h3⟩:=hasW_list h1
 obtain⟨ns,rfl⟩:=items_int h3
 have c:ns.length<=n:=by
  unfold OpenLaw.pre at k
  have g:(WTm.not (.lt (.lit (.int (n:Int))) (.len (.arg 0)))).holds [] {args:= [.list (ns.map .int)]}=true:=by
   have g:=(holds_andW k).1
   rw[t] at g
   exact g
  have f:=condW_of g (w_not (w_lt w_lit (w_len_list (w_arg rfl))))
  rw[lQm] at f
  refine Nat.le_of_not_lt λq=> ?_
  have m:(n:Int)<((ns.length:Nat):Int):=by omega
  first
   |(rw[Qeq m] at f;exact absurd f (by decide))
   |(simp at f;omega)
 cases i with
 | cons p o=>
   cases o
   cases p with
   |list s e=>exact⟨_,_,ns,rfl,rfl,s,rH ns _ e,c⟩
def DR(l:OpenLaw)(args:List WData):l.row.toRowW.claim.post args (.bool true) args=true:=
 postW_of (r:=l.row.toRowW) (X:=(true==true))
  (show WShape.has [] (.bool true) .bool=true by first|rfl|decide|simp[WShape.has,WShape.arms,WShape.armsAll])
  (show(WTm.eq .res (.lit (.bool true))).value [] {args:=args,res:=some (.bool true),after:=args}=some (.bool (true==true)) from w_eq_bool (w_res rfl) w_lit) rfl
def yT{l:OpenLaw}{n:Nat}{q:Program}{c:List Str}{x:(Str->Option Value)->Heap->Prop}{B:World->Heap->Prop}{d:DefRec}
  (P:l.most=some n) (p:d.params.defaults= [])
  (i:∀(w:World) (s₀ b:Shared) (mg v:Str->Option Value) (g:Addr) (o:Obj) (s j e:Value) (a:Addr) (vs:List Value) (ns:List Int),
   Ground q c [] x w s₀ mg v b.heap->B w b.heap→
   b.heap.get? g=some o->o.data=.func (docDef d.name d.params d.body d.scope s j e)->b.heap.CodeRec j d.name->mg d.name=some (.ref g)→
   b.heap.get? a=some {cls:=.type "list",data:=.seq vs.toArray}->IntsAre vs ns->ns.length<=n->b.gens= #[]→
   codeAny (model l.prog w) callerA (.call (.ref g) ⟨[.ref a],[]⟩) (λr k=>r=.ok (.ret (.bool true))/\OldK b.heap k.heap/\k.os=b.os/\AllBare k.gens) b):
  WalkO q c x B l.row.toRowW d [] (λf vs=>PySem.call f vs):=by
 intro w s₀ b mg v G Y g o s j e J kV M N u z m F A y Q h C K t H
 obtain rfl:J=.none:=Dflts.none z p
 obtain rfl:kV=.none:=Dflts.noKw z
 obtain⟨a,vs,ns,rfl,rfl,hobj,hints,hlen⟩:=C1 P h t
 refine enter_call (codeAny_mono (i w s₀ b mg v g o s j e a vs ns G Y M (fd_plain N) u m hobj hints hlen F) λr k L=> ?_)
 obtain⟨rfl,h2,h3,h4⟩:=L
 exact⟨.inl ⟨.bool true,.bool true,[],rfl,λ_=>rfl,.bool true,DR l _,λ_=>⟨List.Pairwise.nil,λ_ I=>(nomatch I)⟩⟩,h2,h3,h4⟩
end Att
namespace L2
open PySem PySem.Spec PyProof.Rows
theorem vP:∀{vs:List Value} {ns:List Int},IntsAre vs ns->bF (ns.map V.int) vs
 |_,_,.nil=>.nil
 |_,_,.cons n t h=>.cons ⟨t,rfl⟩ (vP h)
def Hz(H:Hp):Prop:=∀b,H b=none\/∃o a,H b=some (.frz o (.lst a))
def Gi{P:Program}{w:World}{K:PySem.W.Frag}{mg S:Str->Option Value}{CX:Ea}{k:Nat}{Y a:Addr}{fd:FuncData}{x:Str}{sp:Sp}{c:Shared}{vs:List Value}{ns:List Int}
  (KX:K.In c.heap) (J:c.heap.Ns mainGlobals mg) (g:c.heap.Ns builtinsNs S) (U:∀x:Str,x≠"__name__" ->S x=bootBuiltins x) (G:c.heap.NoLimit) (hg:c.gens= #[])
  (N:c.heap.get? a=some {cls:=.type "list",data:=.seq vs.toArray}) (hi:IntsAre vs ns) (hl:ns.length<=sizeLine) (hr:dY k callerA)
  (F:∀base:Heap,K.In base->base.Ns mainGlobals mg->bu P w K mg base CX k Y fd [x] sp) (p:∀(s:Shared) (u:Value),BindsTo s fd ⟨[u],[]⟩ [(x,u)])
  (R:∀H:Hp,Hz H->g6 K H a (ns.map V.int)->sp [.ref a] H (λv _=>v=.bl true) λ_ _ _=>False)
  (Z:∀H e i,CX [] H c (λ_ _ _=>False) e i->False):
  codeAny (model P w) callerA (.call (.ref Y) ⟨[.ref a],[]⟩) (λr i=>r=.ok (.ret (.bool true))/\OldK c.heap i.heap/\i.os=c.os/\AllBare i.gens) c:=by
 have rv:=vP hi
 have y:=hi.length
 have l:∀H:Hp,Hz H->g6 K H a (ns.map V.int)->nN P w H c.heap->(∀b,H b≠none->b=a)->(H a≠none->K.lookup a=none)→
   codeAny (model P w) callerA (.call (.ref Y) ⟨[.ref a],[]⟩) (λr i=>r=.ok (.ret (.bool true))/\OldK c.heap i.heap/\i.os=c.os/\AllBare i.gens) c:=by
  intro H hO hS C hA hK
  have f:∀{b:Addr} {o:Obj},c.heap.get? b=some o->H b=none->(yq c.heap H).get? b=some o:=λe n=>E4 e n
  have X:∀{b:Addr} {o:Obj} {B:Array DictEntry} {I:Nat},c.heap.get? b=some o->o.data=.dict B I->H b=none:=λ{b o B I} e d=>by
   cases q:H b with
   |none=>rfl
   | some u=>
     have e':b=a:=hA b (by rw[q];simp)
     subst e'
     rw[N] at e;cases e
     have d':Data.seq vs.toArray _=Data.dict B I:=d
     cases d'
  have j:∀{b:Addr} {m:Str->Option Value},c.heap.Ns b m->(yq c.heap H).Ns b m:=λ{b m} ⟨o,B,I,e,d,r⟩=>⟨o,B,I,f e (X e d),d,r⟩
  have A:K.In (yq c.heap H):=λb o e=>f (KX b o e) (by
   cases q:H b with
   |none=>rfl
   | some u=>
     have e':b=a:=hA b (by rw[q];simp)
     subst e'
     rw[hK (by rw[q];simp)] at e;cases e)
  have hM:Mod K mg (yq c.heap H):=⟨A,j J,⟨S,j g,U⟩,let ⟨mc,h1,h2⟩:=G;⟨mc,j h1,h2⟩⟩
  have e0:Hj P w K mg (yq c.heap H) callerA [] c H:=⟨rfl,hM,λb o e=>GK e,Nat.le_of_eq (CP _ _),trivial,λb g=>absurd (show b∈([]:List Addr) from g) (by simp),C,.of_eq hg⟩
  refine codeAny_mono ((F _ A (j J)).run callerA [] c H ⟨[.ref a],[]⟩ [.ref a] [.ref a] _ _ hr e0 (p c (.ref a)) (.cons rfl .nil) (R H hO hS)) λr i h=> ?_
  cases r with
  |error e=>exact(Z H e i h).elim
  | ok fl=>
    cases fl with
    |next=>exact False.elim h
    |brk=>exact False.elim h
    |cont=>exact False.elim h
    | ret u=>
      obtain⟨v,H',os,L,un,t,r',q⟩:=h
      have q':v=.bl true:=q
      subst q'
      obtain rfl:u=Value.bool true:=r'
      refine⟨rfl,OldK.of_keep λb o e=> ?_,os,L⟩
      cases q:H b with
      |none=>exact un.keep b o e q (by intro z;exact absurd (show b∈([]:List Addr) from z) (by simp)) (by simp)
      | some u=>
        rcases hO b with z|⟨ob,xs,z⟩
        · rw[q] at z;cases z
        · have z2:=un.frzs b ob _ z
          obtain⟨e1,_⟩:=C b _ z
          obtain⟨e2,_⟩:=t b _ z2
          rw[e] at e1;cases e1
          exact e2
 cases Q:K.lookup a with
 | some o=>
   have e:=KX a o Q
   rw[N] at e
   cases e
   refine l (λ_=>none) (λ_=>.inl rfl) (.inr ⟨_,vs.toArray,_,Q,rfl,rfl,rfl,by rw[Qjq,y];exact hl,by simpa using rv⟩) (λb u z=>by have M:(none:Option HO)=some u:=z;cases M) (λb z=>absurd rfl z) λz=>absurd rfl z
 | none=>
   refine l (λb=>if b=a then some (.frz {cls:=.type "list",data:=.seq vs.toArray} (.lst (ns.map V.int))) else none) (λb=> ?_) (.inl (.inr ⟨{cls:=.type "list",data:=.seq vs.toArray},Qhq rfl⟩)) (λb u z=> ?_) (λb z=> ?_) λ_=>Q
   · by_cases g:b=a
     · exact .inr ⟨_,_,Qhq g⟩
     · exact .inl (Quq g)
   · by_cases g:b=a
     · have M:=(Qhq g).symm.trans z
       cases M
       subst g
       exact⟨N,by rw[lQm];exact hl,vs,_,rv,N⟩
     · have M:=(Quq g).symm.trans z
       cases M
   · by_cases g:b=a
     · exact g
     · exact absurd (Quq g) z
def GE{l:PySem.W.OpenLaw}{n k:Nat}{q:Program}{j:List Str}{U:(Str->Option Value)->Heap->Prop}{L:World->Heap->Prop}{d:DefRec}{K:Params->PySem.W.Frag}{CX:World->Ea}{sp:World->Sp}{x:Str}
  (hn:l.most=some n) (I:n<=sizeLine) (z:d.params.defaults= []) (R:dY k callerA)
  (hY:∀(w:World) (h:Heap),L w h->(K w.params).In h)
  (F:∀(w:World) (mg:Str->Option Value) (r:Addr) (h:Heap),(K w.params).In h->h.Ns mainGlobals mg->mg d.name=some (.ref r)→
   ∃ C:FuncData,(∀(s:Shared) (u:Value),BindsTo s C ⟨[u],[]⟩ [(x,u)])∧
     ∀base:Heap,(K w.params).In base->base.Ns mainGlobals mg->bu l.prog w (K w.params) mg base (CX w) k r C [x] (sp w))
  (y:∀(w:World) (H:Hp) (a:Addr) (ns:List Int),ns.length<=n->Hz H->g6 (K w.params) H a (ns.map V.int)->sp w [.ref a] H (λv _=>v=.bl true) λ_ _ _=>False)
  (A:∀(w:World) (H:Hp) (s:Shared) (e:Value) (B:Shared),CX w [] H s (λ_ _ _=>False) e B->False):
  PySem.W.WalkO q j U L l.row.toRowW d [] (λf vs=>PySem.call f vs):=by
 refine Att.yT hn z λw J m mg mb r o pm cd Q a vs ns G Y ho hd X t p i c P=> ?_
 have M:=hY w _ Y
 obtain⟨C,hb,S⟩:=F w mg r _ M G.T.g t
 exact Gi M G.T.g G.T.b G.T.builtins G.T.nolimit P p i (QAq c I) R S hb (λH Z N=>y w H a ns c Z N) λH e B=>A w H m e B
def gV(s:Stmt):Arguments:=match s with
 |.FunctionDef _ a _ _ _ _ _ _ _ _=>a
 |_=>{posonlyargs:= [],args:= [],vararg:=none,kwonlyargs:= [],kw_defaults:= [],kwarg:=none,defaults:= []}
def eO(s:Stmt):List Stmt:=match s with
 |.FunctionDef _ _ b _ _ _ _ _ _ _=>b
 |_=> []
def aA(s:Stmt):Scope:=match s with
 |.FunctionDef _ _ _ _ _ _ a _ _ _=>a
 |_=>{kind:=.function,names:= [],isGenerator:=false,isCoroutine:=false}
abbrev dJ:Ea:=λ_ _ _ _ _ _=>False
abbrev E0:XK:=λ_ _ _=>False
def FK{X:Cx}:AF dJ X E0:=λ_ _ _ _ _ _ _ h=>h.elim
structure eA(K:PySem.W.Frag)(x qual:Str)(st:Stmt)(f:Addr)(fd:FuncData):Prop where
 ex:∃(oc:Value) (od:Option Addr) (kV doc pm:Value) (an:Option Addr) (cdv ct:Value) (osl:Array (Option Value)),
  fd=PySem.W.fnOf x qual (gV st) (eO st) (aA st) .none kV doc pm an cdv ct/\K.lookup f=some ⟨oc,od,.func fd,osl⟩/\PySem.W.codeIn K cdv qual=true
 kp:PySem.W.keepIn K (.ref f)=true
section
variable{P:Program}{w:World}{K:PySem.W.Frag}{mg:Str->Option Value}{base:Heap}
def eA.ok{x a:Str}{st:Stmt}{f:Addr}{e:FuncData}{N ps:List Str}{k:Nat}{sp:Sp}(F:eA K x a st f e)(S:aG N ps (aA st))(len:∀vs H Q E,sp vs H Q E->vs.length=ps.length)
  (c:∀(b:Value) (A:Around) (outer:List Env) (s:Shared) (H:Hp) (vs:List V) (Q:VK) (E:XK),dY k (A.deeper (envOfC a (aA st) s.heap.objs.size f b))->sp vs H Q E→
   ∃t,uF (zZ dJ P w K mg base N a (aA st) f b A outer s H E).nox (eO st) t/\t {nx:=λ_ g=>Q .non g,rt:=Q} (start N vs) H):bu P w K mg base dJ (k+1) f e ps sp:=by
 obtain⟨o,r,kV,i,p,n,b,m,l,rfl,lk,hcd⟩:=F.ex
 refine Lq lk hcd S len λA outer s H vs Q E j d=> ?_
 obtain⟨t,h,q⟩:=c b A outer s H vs Q E j d
 exact⟨t,h.nox,q⟩
def eA.binds{x a:Str}{st:Stmt}{f:Addr}{i:FuncData}{ps:List Str}(F:eA K x a st f i)
  (h:∀(kV b g:Value) (e:Option Addr) (c ct:Value) (d:List Value),d.length=ps.length->bindArgs (PySem.W.fnOf x a (gV st) (eO st) (aA st) .none kV b g e c ct) ⟨d,[]⟩=pure (ps.zip d)):Binds K i ps []:=by
 obtain⟨k,l,kV,b,g,e,c,ct,j,rfl,lk,hcd⟩:=F.ex
 exact .all (h kV b g e c ct)
def BK{x a:Str}{st:Stmt}{f:Addr}{i:Value}{j g:Option Addr}{e:Array (Option Value)}{kV d h b ct:Value}(l:K.lookup f=some ⟨i,j,.func (PySem.W.fnOf x a (gV st) (eO st) (aA st) .none kV d h g b ct),e⟩)
  (c:PySem.W.codeIn K b a=true) (k:PySem.W.keepIn K (.ref f)=true):eA K x a st f (PySem.W.fnOf x a (gV st) (eO st) (aA st) .none kV d h g b ct):=⟨⟨i,j,kV,d,h,g,b,ct,e,rfl,l,c⟩,k⟩
end
def IC{A:Around}{k:Nat}(a:dY k A):A.units+1<cLine:=Nat.lt_of_le_of_lt (Nat.add_le_add_left (by decide:1<=64) _) a.units
def aZ{n:Nat}(h:n<=1000):n<sizeLine:=Nat.lt_of_le_of_lt h (by decide)
section
variable{X:Cx}
def pv(i:Nat){x:Str}{pos:Pos}(b:X.N[i]?=some x:=by rfl)(c:Ii X.env.scope x:=by first|exact Or.inl rfl|exact Or.inr (Or.inl rfl)|exact Or.inr (Or.inr rfl))(hd:(x==("__debug__":Str))=false:=by decide)
  (a:(x==("__classdict__":Str))=false:=by decide):PE X (.Name x pos) (J9 i):=Ei b c hd a
end
section
variable{prog:Program}{w:World}{A:Around}{s:Shared}
def ow{q a k:Expr}{t:List Expr}{b:Scope}{pos:Pos}{it o:Value}{env:Env}{R:Result->Shared->Prop}(I:Nat->Shared->Prop)
  (B:∀n s,I n s->wpAny (model prog w) A (pyNext it) (λr e=>match r with
   |none=>R (.ok .next) e
   |some v=>wpAny (model prog w) A (letOwnedTupleGo a it v) (λ_ d=>wpAny (model prog w) A (assign a env v) (λ_ g=>
     wpAny (model prog w) A (forIn t true λc r=>if r=true then do let ok←isTrue c env (eval c env);pure (ForInStep.yield ok) else pure (ForInStep.yield r)) (λok s₃=>
      if ok=true then wpAny (model prog w) A (eval q env) (λx l=>
       wpAny (model prog w) A (call (.builtin "list.append") [o,x]) (λ_ j=>∃m,m<n/\I m j) (λ_ _=>False) l) (λ_ _=>False) s₃
      else∃m,m<n/\I m s₃) (λ_ _=>False) g) (λ_ _=>False) d) (λ_ _=>False) e) (λ_ _=>False) s)
  (n:Nat) (h:I n s):codeAny (model prog w) A (.compLoop (.ListComp q [⟨a,k,t,0⟩] b pos) 0 it o env) R s:=by
 refine codeAny_loop rfl I (λn s C=> ?_) n h
 show wpAny _ A ((compTurn (.ListComp q [⟨a,k,t,0⟩] b pos) 0 it o env).onRaise (λx=>do noteFrame x env;theTreesLotGoes x)) _ _ s
 refine wpAny_noted ?_
 rw[compTurn_list]
 refine Qaq (wpAny_standAt (Qaq (QRq (B n s C) (λr e i=> ?_) λ_ _ f=>f.elim)))
 cases r with
 |none=>exact Qgq i
 | some v=>
   refine Qaq (QRq i (λ_ d p=> ?_) λ_ _ f=>f.elim)
   refine Qaq (QRq p (λ_ g y=>Qaq (QRq y (λok s₃ h₃=> ?_) λ_ _ f=>f.elim)) λ_ _ f=>f.elim)
   cases ok with
   |false=>exact Qgq ⟨rfl,h₃⟩
   | true=>
     exact Qaq (Qaq (QRq h₃ (λx l z=>Qaq (QRq z (λ_ j u=>Qgq (Qgq ⟨rfl,u⟩)) λ_ _ f=>f.elim)) λ_ _ f=>f.elim))
end
def aL(X:Cx)(N:List Str)(a:Scope)(b:List (Str×Addr))(C:Addr)(s:Shared)(H:Hp)(fp:List Addr):Cx where
 prog:=X.prog
 w:=X.w
 K:=X.K
 mg:=X.mg
 base:=X.base
 A:=X.A
 N:=N
 s₀:=s
 H₀:=H
 env:=compEnvC a b C X.env
 outer:=X.stack
 stack:=X.stack
 ex:=fp
 fn:=λ_=>false
 calm:=X.calm
 pn:= []
 xe:=λ_ _=>False
def j8(js:List (Option Nat))(a:St):St:=js.map λo=>o.bind λj=>a.getD j none
structure aM(X:Cx)(N:List Str)(js:List (Option Nat))(scope:Scope)(cl:List (Str×Addr)):Prop where
 kind:scope.kind=.function
 nocell:∀y∈scope.names,y.2≠.cell
 names:∀y∈scope.names,y.2=.local->scope.names.lookup y.1=some .local
 clos:closureFor scope X.env=pure cl
 sub:∀x c,cl.lookup x=some c->X.env.cells.lookup x=some c
 has:∀x,((relabel scope X.env).names.lookup x=some .cell\/(relabel scope X.env).names.lookup x=some .free)->∃c,cl.lookup x=some c
 cap:∀(k j:Nat) (x:Str),js[k]?=some (some j)->N[k]?=some x->X.N[j]?=some x/\(X.env.kindOf x=some .cell\/X.env.kindOf x=some .free)/\((relabel scope X.env).names.lookup x=some .cell\/(relabel scope X.env).names.lookup x=some .free)
 len:js.length=N.length
def m6(X:Cx)(d:List Expr)(t:TT):Prop:=
 ∀ (a:List (Addr×Obj)) (s:Shared) (b:St) (H:Hp) (Q:Bool->Hp->Prop),Inv X a b H s->t b H Q→
   wpAny (model X.prog X.w) X.A (forIn d true λc r=>if r=true then do let ok←isTrue c X.env (eval c X.env);pure (ForInStep.yield ok) else pure (ForInStep.yield r)) (TP X a b Q) X.xe s
def Kz{X:Cx}:m6 X [] (λ_ H Q=>Q true H):=λ_ _ _ H _ I h=>wpAny_tests_nil ⟨H,I,h⟩
def Kp{X:Cx}{c:Expr}{t:TT}(d:PT X c t):m6 X [c] t:=λa s b H Q I h=>
 wpAny_tests_one (c9 (d a s b H Q I h) λok s' h'=>h')
def Lz(J:It)(g:TG)(k:TT)(l:TE)(Q:VK)(D:Addr)(n:St)(H:Hp):Prop:=
 ∃ W:Nat->Nat->St->Hp->Prop,(∃m,W 0 m n H)/\∀i m e c,W i m e c→
   (J.stop i c/\Q (.ref D) c)\/(J.go i c/\∃f:St->Hp->Prop,(∀b d,f b d->∃j,j<m/\W (i+1) j b d)∧
     ∀ x H2,J.yld i c x H2->g x e H2 λa H3=>k a H3 λok H4=>
       if ok=true then l a H4 λy H5=>∃h,H5 D=some (.lst h)/\h.length<sizeLine/\f a (upd H5 D (.lst (h++ [y]))) else f a H4)
def FL(js:List (Option Nat))(d:TI)(g:TG)(b:TT)(c:TE):TE:=λa H Q=>d a H λJ H1=>∀D,H1 D=none->Lz J g b c Q D (j8 js a) (upd H1 D (.lst []))
def HJ{X:Cx}{N:List Str}{js:List (Option Nat)}{a:Scope}{R:List (Str×Addr)}{tg P b4:Expr}{b6:List Expr}{pos:Pos}{wi:TI}{g:TG}{tt:TT}{te:TE}
  (S:aM X N js a R) (hc:X.calm=true) (hi:PI X tg P wi)
  (hg:∀C s H fp,PG (aL X N a R C s H fp) tg g) (ht:∀C s H fp,m6 (aL X N a R C s H fp) b6 tt) (he:∀C s H fp,PE (aL X N a R C s H fp) b4 te)
  (hs:∀x,foldedSetIterable P X.env x=pure x:=by intro _;rfl):PE X (.ListComp b4 [⟨tg,P,b6,0⟩] a pos) (FL js wi g tt te):=by
 intro a5 s σ H Q I h
 rw[eval_ListComp]
 refine wpAny_comprehension_free (use:=none) rfl hs S.clos S.kind S.names (c9 (hi a5 s σ H _ I h) λv s1 h1=>c9 h1 λd5 f h2=> ?_)
 obtain⟨it,fp,tn,J,H2,e,B,T,b1,f2,hD⟩:=h2
 subst e
 refine QhQ (wpAny_newFunctionEnv S.nocell (by intro y hy;simp at hy) (λK G t=> ?_) S.kind)
 dsimp only at G t⊢
 generalize b3:f.heap.push {cls:=.type "list",dict:=none,data:=.seq ([]:List Value).toArray}=P2 at G t⊢
 have hC:P2.objs.size=f.heap.objs.size+1:=by rw[←b3,Heap.size_push]
 have c0:f.heap.objs.size≠P2.objs.size:=by rw[hC];exact Qwq (Nat.lt_succ_self _)
 have a6:f.heap.objs.size<=P2.objs.size:=by rw[hC];exact Nat.le_succ _
 have F:∀b,b<f.heap.objs.size->b≠P2.objs.size:=λb k=>by rw[hC];exact Qwq (Nat.lt_succ_of_lt k)
 have U:∀b o,f.heap.get? b=some o->K.get? b=some o:=λb o e=>t.extBut b o (F b (Qiq e)) (Qcq _ (b3▸Qcq _ e))
 have c4:K.get? f.heap.objs.size=some {cls:=.type "list",dict:=none,data:=.seq ([]:List Value).toArray}:=t.extBut _ _ c0 (Qcq _ (b3▸Qrq _ rfl))
 have nD:H2 f.heap.objs.size=none:=B.fresh
 have nC:H2 P2.objs.size=none:=B.hok.fresh a6
 have b2:∀b∈fp,b<f.heap.objs.size:=λb k=>by
  obtain⟨o,e,_⟩:=T.obj _ _ b1 b k
  exact Qiq e
 obtain⟨W,⟨m0,w0⟩,b7⟩:=hD f.heap.objs.size nD
 have d1:(aL X N a R P2.objs.size f H2 fp).Ok:=by
  refine⟨B.ok.mod,S.kind,B.ok.glob,B.ok.blt,a6,λx y c h1 h2=>B.ok.inj x y c (S.sub x c h1) (S.sub y c h2),S.has,(λx c h=>by cases h),B.ok.hd,B.ok.frames,.inl rfl,
   λb k=>⟨F b (b2 b k),λx c h=>(f2 b k).2.2.2.2.1 x c (S.sub x c h)⟩,B.bs,QAq B.ok.bsz B.sz,λb o e k=> ?_,λb k z=> ?_,B.stack,B.stkFree⟩
  ·rcases(f2 b k).2.2.2.1 with z|z
   ·exact B.ok.noex b o e z
   ·exact absurd (Qqq (Qqq (Qiq e) B.ok.bsz) z) (Nat.lt_irrefl _)
  ·rcases Qsq.mp (B.stkSub b z) with q|q
   ·exact(f2 b k).2.1 q
   ·exact(f2 b k).2.2.1 q
 have b8:cT X.prog X.w (upd H2 f.heap.objs.size (.lst [])) K f.heap.objs.size (.lst []):=⟨Nat.zero_le _,[],0,.nil,c4⟩
 have I4:Inv (aL X N a R P2.objs.size f H2 fp) [] (j8 js σ) (upd H2 f.heap.objs.size (.lst [])) {f with heap:=K,toks:=f.toks+([]:List (Str×Value)).length}:=by
  refine⟨d1,rfl,B.bare,Un.laid U (Qmq _) nD,⟨_,G,λi x v h1 h2 h3=> ?_⟩,λx c h=> ?_,by show upd H2 _ _ P2.objs.size=none;rw[bf c0.symm];exact nC,λx c h=> ?_,λp hp=>absurd (show p∈([]:List (Addr×Obj)) from hp) (by simp),B.hok.laid U (Qmq _) b8,by show(j8 js σ).length=N.length;unfold j8;rw[lQm];exact S.len⟩
  ·unfold j8 at h2
   rw[gQm] at h2
   cases e:js[i]? with
   |none=>rw[e] at h2;cases h2
   | some o=>
     rw[e] at h2
     cases o with
     |none=>cases h2
     | some j=>
       have a0:σ.getD j none=some v:=QdQ h2
       have hj:σ[j]?=some (some v):=by
         rw[Qlq] at a0
         cases q:σ[j]? with
         |none=>rw[q] at a0;cases a0
         |some y=>rw[q] at a0;exact congrArg some a0
       obtain⟨c1,c2,c3⟩:=S.cap i j x e h1
       obtain⟨m,hn,hl⟩:=B.loc
       have d3:Ii X.env.scope x:=by
         rcases c2 with z|z
         · exact .inr (.inl z)
         · exact .inr (.inr z)
       obtain⟨u,r,l⟩:=hl j x v c1 hj d3
       refine⟨u,r,.inr ⟨c3,?_⟩⟩
       obtain⟨c,c6⟩:=S.has x c3
       refine⟨c,c6,?_⟩
       rcases l with⟨z,_⟩|⟨_,c',e',z⟩
       · rcases c2 with y|y <;>rw[y] at z <;>cases z
       · rw[S.sub x c c6] at e'
         cases e'
         obtain⟨o,ho,hd⟩:=z
         exact⟨o,U _ _ ho,hd⟩
  ·obtain⟨v,o,ho,hd⟩:=B.cell x c (S.sub x c h)
   exact⟨v,o,U _ _ ho,hd⟩
  ·obtain⟨v,o,ho,hd⟩:=B.cell x c (S.sub x c h)
   rw[bf (Qwq (Qiq ho))]
   exact B.freeC x c (S.sub x c h)
 have a2:∀{M:List (Addr×Obj)} {Z:Hp},M= []->(∀b∈fp,Z b=none)->∀b∈fp,qg (aL X N a R P2.objs.size f H2 fp) M Z b:=λ{M Z} ep hn b k=>by
  subst ep
  refine⟨hn b k,F b (b2 b k),λz=>d1.exfs b k z,.inl k,λx c h=>(f2 b k).2.2.2.2.1 x c (S.sub x c h),λp hp=>absurd (show p∈([]:List (Addr×Obj)) from hp) (by simp)⟩
 have b0:codeAny (model X.prog X.w) X.A (.compLoop (.ListComp b4 [⟨tg,P,b6,0⟩] a pos) 0 (.ref it) (.ref f.heap.objs.size) (compEnvC a R P2.objs.size X.env))
   (compPost (model X.prog X.w) X.A X.xe none (EP X a5 σ Q) (.ref f.heap.objs.size) P2.objs.size) {f with heap:=K,toks:=f.toks+([]:List (Str×Value)).length}:=by
  refine ow (λn s'=>∃i a1 Z,Inv (aL X N a R P2.objs.size f H2 fp) [] a1 Z s'/\tn i s'.heap/\(∀b∈fp,Z b=none)/\W i n a1 Z) ?_ m0
   ⟨0,_,_,I4,T.keep _ _ _ b1 λb _ o e=>U b o e,λb k=>by rw[bf (Qwq (b2 b k))];exact(f2 b k).1,w0⟩
  rintro n s3 ⟨i,a4,H3,I3,b9,d0,w3⟩
  rcases b7 i n a4 H3 w3 with⟨stop,q⟩|⟨go,Nx,hN,c5⟩
  ·refine c9 (T.done (aL X N a R P2.objs.size f H2 fp) rfl rfl rfl hc i [] s3 a4 H3 _ I3 (a2 rfl d0) b9 stop) λr s4 Y=> ?_
   obtain⟨hr,I5⟩:=Y
   subst hr
   obtain⟨m,hn,_⟩:=id I5.loc
   refine⟨m,hn,λh' a3=>⟨.ref f.heap.objs.size,H3,?_,rfl,q⟩⟩
   have u:=I5.base
   have ne:∀b o,f.heap.get? b=some o->b≠P2.objs.size:=λb o e=>F b (Qiq e)
   refine B.call' (ch:=fp) I5.os ⟨λb o e n k hx=>(a3.2 b (ne b o e)).trans (u.keep b o e n k hx),λb o e n k hx=> ?_,u.free,λb o e hx=> ?_,u.tups,u.frzs,u.tbls⟩ (λb ob e=> ?_) I5.bare λb k=>⟨(f2 b k).2.2.2.1,(f2 b k).2.1,(f2 b k).2.2.2.2.1,(f2 b k).2.2.2.2.2⟩
   ·obtain⟨sl,e1⟩:=u.slot b o e n k hx
    exact⟨sl,(a3.2 b (ne b o e)).trans e1⟩
   ·obtain⟨o',e1⟩:=u.there b o e hx
    exact⟨o',(a3.2 b (ne b o e)).trans e1⟩
   ·refine(I5.hok b ob e).stay (λc w' hc q=>(a3.2 c ?_).trans q) (λ_ q=>q) λ_ _ q=>q
    have fC:H3 P2.objs.size=none:=I5.free
    rintro rfl
    rcases hc with z|z
    ·rw[←z,fC] at e;cases e
    ·rw[fC] at z;cases z
  ·refine c9 (T.item (aL X N a R P2.objs.size f H2 fp) rfl rfl rfl hc i [] s3 a4 H3 _ I3 (a2 rfl d0) b9 go) λr s4 Y=> ?_
   obtain⟨u,hr,h4⟩:=Y
   subst hr
   refine c9 h4 λ_ s5 Y=> ?_
   obtain⟨x,H5,I5,r5,y5,b5,d2⟩:=Y
   have d4:=I5.pinned (a2 rfl d2) (T.obj _ _ b5)
   refine c9 (hg P2.objs.size f H2 fp _ s5 a4 H5 x u _ d4 r5 (c5 x H5 y5)) λ_ s6 Y=> ?_
   obtain⟨L,H6,I6,q6⟩:=Y
   refine c9 (ht P2.objs.size f H2 fp _ s6 L H6 _ I6 q6) λok s7 Y=> ?_
   obtain⟨H7,I7,q7⟩:=Y
   have again:∀{s8:Shared} {H8:Hp},Inv (aL X N a R P2.objs.size f H2 fp) ([]++mK fp s5.heap) L H8 s8->Nx L H8->∃m,m<n/\∃i a1 Z,Inv (aL X N a R P2.objs.size f H2 fp) [] a1 Z s8/\tn i s8.heap/\(∀b∈fp,Z b=none)/\W i m a1 Z:=λ{s8 H8} I8 n8=>by
    obtain⟨m',hm,w8⟩:=hN L H8 n8
    refine⟨m',hm,i+1,L,H8,I8.unpinned,T.keep _ _ _ b5 λb k o e=>(I8.pin (b,o) (Qoq _ (Qoq _ (dm k e)))).1,λb k=> ?_,w8⟩
    obtain⟨o,e,d⟩:=T.obj _ _ b5 b k
    exact(I8.pin (b,o) (Qoq _ (Qoq _ (dm k e)))).2.1
   cases ok with
   |false=>exact again I7 q7
   | true=>
     refine c9 (he P2.objs.size f H2 fp _ s7 L H7 _ I7 q7) λyv s8 Y=> ?_
     obtain⟨y,H8,I8,ry,xs,hx,hl,n8⟩:=Y
     refine c9 (pX (X:=aL X N a R P2.objs.size f H2 fp) _ s8 L H8 (.ref f.heap.objs.size) [y] (.ref f.heap.objs.size) [yv] (λ_ Z=>Nx L Z) I8 rfl (.cons ry .nil) ⟨_,xs,y,rfl,rfl,hx,hl,n8⟩) λ_ s9 Y=> ?_
     obtain⟨z,H9,I9,_,q9⟩:=Y
     exact again I9 q9
 exact codeAny_compStart_list b0 (T.self _ 0 _ _ _ (T.keep _ _ _ b1 λb _ o e=>U b o e) b0)
section
variable{X:Cx}
def EE:gk X (.builtin "isinstance") (λxs H Q=>∃x T t b,xs= [x,.ty T]/\pV X.K H x t/\PySem.W.kitOne X.K t (.type T)=some b/\Q (.bl b) H):=by
 intro a s f H xs g Q I r h
 obtain⟨x,T,t,b,rfl,ty,e,q⟩:=h
 obtain⟨u,c,rfl,rx,rt⟩:=vals2 r
 cases (show c=Value.type T from rt)
 exact C2 I rx ty e λd=>⟨.bl b,H,I.tok d,rfl,q⟩
def Ed:List V->List V->Bool
 | [],[]=>true
 |x::xs,y::ys=>jz x y&&Ed xs ys
 |_,_=>false
theorem xD:∀{xs ys:List V},xs.length≠ys.length->Ed xs ys=false
 | [],[],h=>absurd rfl h
 | [],_::_,_=>rfl
 |_::_,[],_=>rfl
 | x::xs,y::ys,h=>by
   have:=xD (xs:=xs) (ys:=ys) λe=>h (by simp[e])
   show(jz x y&&Ed xs ys)=false
   rw[this,Bool.and_false]
theorem wW:∀{xs ys:List V},xs.length=ys.length->(List.range xs.length).all (λj=>jz (xs.getD j .non) (ys.getD j .non))=Ed xs ys
 | [],[],_=>rfl
 | [],_::_,h=>by cases h
 |_::_,[],h=>by cases h
 | x::xs,y::ys,h=>by
   have a:=wW (xs:=xs) (ys:=ys) (Nat.succ.inj h)
   rw[Qnq,List.range_succ_eq_map,List.all_cons,List.all_map]
   show(jz x y&&_)=(jz x y&&Ed xs ys)
   rw[←a]
   rfl
def F2{A:Around}{s:Shared}{xs ys:List V}{a vs:List Value}(r:bF xs a)(d:bF ys vs)(f:xs.all fG=true)(f':ys.all fG=true)(j:Nat)(g:j<a.toArray.size)(q:j<vs.toArray.size):
  SeqAt.EqAt A s a.toArray[j] vs.toArray[j] (jz (xs.getD j .non) (ys.getD j .non)):=by
 have m:=r.length
 have h:=d.length
 have c:j<xs.length:=by rw[m];simpa using g
 have b:j<ys.length:=by rw[h];simpa using q
 obtain⟨u,k,i⟩:=r.get (gQe c)
 obtain⟨v,n,p⟩:=d.get (gQe b)
 have t:xs.getD j .non=xs[j]:=by rw[Qlq,gQe c];rfl
 have l:ys.getD j .non=ys[j]:=by rw[Qlq,gQe b];rfl
 have e:a.toArray[j]=u:=by
  have:=(gQs.mp k).2
  simpa using this
 have o:vs.toArray[j]=v:=by
  have:=(gQs.mp n).2
  simpa using this
 rw[e,o,t,l]
 exact F7 i p (QUq.mp f _ (List.getElem_mem c)) (QUq.mp f' _ (List.getElem_mem b))
def Ja(K:PySem.W.Frag)(e:Bool):R2:=λx y H Q=>∃a b d c,x=.ref a/\y=.ref b/\g6 K H a d/\g6 K H b c/\d.all fG=true/\c.all fG=true/\Q (.bl (if e then !Ed d c else Ed d c)) H
def Jp(m:X.A.units<cLine):i4 X (compareOp .Eq) (Ja X.K false):=by
 intro l s F H x y v u Q I z p h
 obtain⟨a,b,i,n,rfl,rfl,ha,hb,fa,fb,q⟩:=h
 cases z
 cases p
 obtain⟨d,r,o,C⟩:=I.list ha
 obtain⟨f,k,c,t⟩:=I.list hb
 by_cases hl:i.length=n.length
 ·have g:d.toArray.size=f.toArray.size:=by simp[←r.length,←k.length,hl]
  refine SeqAt.eq_listAt (e:=λj=>jz (i.getD j .non) (n.getD j .non)) o.isList c.isList g m (λj w B=>F2 r k fa fb j w B) ⟨.bl _,H,I,rfl,?_⟩
  rw[show d.toArray.size=i.length by simp[r.length],wW hl]
  exact q
 ·refine SeqAt.eq_list_lengthsAt o.isList c.isList (by simpa [←r.length,←k.length] using hl) m ⟨.bl _,H,I,rfl,?_⟩
  rw[←xD hl]
  exact q
def Kn(o:X.A.units<cLine):i4 X (compareOp .NotEq) (Ja X.K true):=by
 intro m s G H x y v u Q I B t h
 obtain⟨a,b,f,k,rfl,rfl,ha,hb,fa,fb,q⟩:=h
 cases B
 cases t
 obtain⟨d,r,p,F⟩:=I.list ha
 obtain⟨g,l,c,w⟩:=I.list hb
 by_cases hl:f.length=k.length
 ·have i:d.toArray.size=g.toArray.size:=by simp[←r.length,←l.length,hl]
  refine SeqAt.RcNeAt.lists (e:=λj=>jz (f.getD j .non) (k.getD j .non)) p.isList c.isList i o (λj z C=>F2 r l fa fb j z C) _ _ _ _ ⟨.bl _,H,I,rfl,?_⟩
  rw[show d.toArray.size=f.length by simp[r.length],wW hl]
  exact q
 ·refine SeqAt.RcNeAt.lists_lengths p.isList c.isList (by simpa [←r.length,←l.length] using hl) o _ _ _ _ ⟨.bl _,H,I,rfl,?_⟩
  have n:Q (.bl (!Ed f k)) H:=q
  rw[xD hl] at n
  exact n
end
section
variable{X:Cx}
def EF{bs:List Bool}{a:List Value}(r:bF (bs.map V.bl) a){i:Nat}{v:Value}(h:a.toArray[i]?=some v):v=.bool (bs.getD i false):=by
 have f:i<a.length:=by
  have:=(Array.getElem?_eq_some_iff.mp h).1
  simpa using this
 have l:=r.length
 rw[lQm] at l
 have c:i<bs.length:=by omega
 obtain⟨u,e,q⟩:=r.get (i:=i) (x:=V.bl bs[i]) (by rw[gQm,gQe c];rfl)
 have b:a[i]?=some v:=by simpa using h
 rw[e] at b
 cases b
 have d:bs.getD i false=bs[i]:=by rw[Qlq,gQe c];rfl
 rw[d]
 exact q
theorem yY:∀bs:List Bool,(List.range bs.length).all (λi=>bs.getD i false)=bs.all id
 | []=>rfl
 | b::bs=>by
   rw[Qnq,List.range_succ_eq_map,List.all_cons,List.all_map,List.all_cons,←yY bs]
   rfl
def Ma(K:PySem.W.Frag)(f:List Bool->Bool):List V->Hp->VK->Prop:=λc H Q=>∃a b,c= [.ref a]/\g6 K H a (b.map V.bl)/\Q (.bl (f b)) H
def Dy(n:X.calm=true):gk X (.builtin "all") (Ma X.K λbs=>bs.all id):=by
 intro j s z H y C Q I r h
 obtain⟨a,bs,rfl,ha,q⟩:=h
 obtain⟨u,rfl,rx⟩:=vals1 r
 cases (show u=Value.ref a from rx)
 obtain⟨c,g,f,p⟩:=I.list ha
 have hl:c.toArray.size=bs.length:=by have:=g.length;simp at this;simp[this]
 have d:a<s.heap.objs.size:=by obtain⟨o,e,_⟩:=f.isList;exact Qiq e
 refine call_all_walk (wpAny_pyIter_list f.isList ⟨s.heap.objs.size,_,_,_,_,_,λi=>bs.getD i false,rfl,Walks.list (A:=X.A.in1) (show X.A.in1.handled=none from I.ok.hd n) s.heap.objs.size a (Qwq d) c.toArray,⟨⟨_,Qrq _ rfl,rfl,rfl⟩,f.isList.at λo e=>Qcq _ e⟩,?_,λh' w m=> ?_⟩)
 ·intro i v x B t k l
  rw[EF g k]
  exact wpAny_truthy_bool l
 ·rw[hl,yY]
  refine⟨.bl _,H,I.kept (h':=h') λb o e=>m b o ?_ (Qcq _ e),rfl,q⟩
  have:=Qiq e
  simp
  exact Qwq this
end
end L2
namespace Dk
open PySem
def tO:mroOf (Value.type "dict")=pure [Value.type "dict",Value.type "object"]:=by
 rw[mroOf_type]
 rfl
def rM:typeLookup (Value.type "dict") (Str.ofString "__new__")=pure (some (Value.builtin "dict.__new__")):=by
 rw[typeLookup_type,builtinLookup_eq_fast]
 rfl
def zk:isSubtype (Value.type "dict") (Value.type "dict")=pure true:=by
 rw[isSubtype_type]
 rfl
def hJ:plainId "dict.__new__"=true:=by decide +kernel
def di:TypeCalled "dict" "dict.__new__" "dict.__init__" where
 notType:=by decide +kernel
 canCreate:=by decide +kernel
 mro:=⟨_,_,tO⟩
 made:=madeBy_type tO rM (by decide +kernel)
 plain:=hJ
 sub:=zk
 init:=F.slot_dict_init
def rj(a:Value):checkTypeCall "dict" {pos:= [a]}=pure ():=by rfl
def uA(a:Value):checkBuiltinCall "dict.__new__" {pos:= [Value.type "dict",a]}=pure ():=by with_unfolding_all rfl
def t_:entryFor table "dict.__new__"=some Builtin.«dict.__new__»:=by rfl
def rF{prog:Program}{w:World}{A:Around}{E:Value->Shared->Prop}{s:Shared}(a:Value){Q₁:Value->Shared->Prop}
  (h:Q₁ (.ref s.heap.objs.size) {s with heap:=s.heap.push {cls:=.type "dict",data:=.dict #[]}}):
  codeAny (model prog w) A (.call (.builtin "dict.__new__") {pos:= [.type "dict",a]}) (wants Q₁ E) s:=by
 refine codeAny_of_tree ?_
 show wpAny _ _ (do checkBuiltinCall "dict.__new__" _;_) _ _ _
 refine Qaq (wpAny_of_eq (uA a) (Qgq ⟨plainId_quiet hJ _,codeAny_builtin t_ ?_⟩))
 rw[Around.under_plainId hJ]
 refine Qaq (Qgq (QgQ rfl (Qaq (wpAny_of_eq zk (QgQ rfl (Qaq (wpAny_of_eq tO (QgQ ?_ ?_))))))))
 ·rfl
 ·refine Qaq ?_
  have e:newObj (.type "dict") (.dict #[])=newObjAsIs (.type "dict") (.dict #[]):=by
   unfold newObj
   simp
  rw[e]
  exact Qaq (wpAny_alloc (Qgq (Qgq h)))
def Af{prog:Program}{w:World}{A:Around}{E:Value->Shared->Prop}{s:Shared}{a:Value}{Q:Value->Shared->Prop}
  (h:wpAny (model prog w) A.in1.in1 (Builtin.«dict.__init__» {pos:= [.ref s.heap.objs.size,a]})
   (λt l=>match t with|.done f=>wants (λr b=>r=.none/\Q (.ref s.heap.objs.size) b) E (.ok f) l|.again x=>x.quiet=true/\codeAny (model prog w) A.in1 x (wants (λr b=>r=.none/\Q (.ref s.heap.objs.size) b) E) l)
   (λe l=>wants (λr b=>r=.none/\Q (.ref s.heap.objs.size) b) E (.error e) l) {s with heap:=s.heap.push {cls:=.type "dict",data:=.dict #[]}}):
  wpAny (model prog w) A (call (.type "dict") [a]) Q E s:=by
 obtain⟨c,G,k⟩:=di.mro
 have i:=di.made
 have j:=di.sub
 refine wpAny_call (codeAny_of_tree ?_)
 refine Qgq ⟨Code.quiet_builtin _ (by decide +kernel),codeAny_builtin F.entry_type_call ?_⟩
 rw[Around.under_plain (weight_type_call_type "dict" [a] []) rfl]
 have C:=di.notType
 have B:=di.canCreate
 have p:=rj a
 unfold Builtin.«type.__call__»
 dsimp only
 refine QgQ rfl ?_
 refine QgQ (by rw[B];rfl) ?_
 refine Qaq (wpAny_of_eq p (Qaq (wpAny_of_eq k (QgQ rfl (Qaq (wpAny_of_eq i (Qaq (Qgq (Qaq (QLq (wpAny_call (codeAny_mono (rF (E:=E) (Q₁:=λv d=>v=.ref s.heap.objs.size/\d={s with heap:=s.heap.push {cls:=.type "dict",data:=.dict #[]}}) a ⟨rfl,rfl⟩) λr d g=> ?_))))))))))))
 cases r with
 |error e=>exact g
 | ok u=>
   cases u with
   | ret z=>
     obtain⟨rfl,rfl⟩:=g
     have y:=Qrq s.heap (o:={cls:=.type "dict",data:=.dict #[]}) rfl
     have m:Shared.TypeIs {s with heap:=s.heap.push {cls:=.type "dict",data:=.dict #[]}} (.ref s.heap.objs.size) "dict":=⟨_,y,rfl⟩
     have q:=di.init.lookup
     have n:=di.init.bind (.ref s.heap.objs.size)
     refine Qaq (wpAny_isInstance m j (QgQ rfl (Qaq (QLq ?_))))
     unfold callSpecial?
     refine Qaq (wpAny_specialOf m q (QLq (Qaq (wpAny_of_eq n (Qaq (wpAny_call (codeAny_mono (codeAny_call_builtin di.init.plain F.entry_dict_init (di.init.check _ _ _ _ _ [a] [] _ m (F.args_dict_init_2 _ _) h)) λr b g=> ?_)))))))
     cases r with
     |error e=>exact g
     | ok u=>
       cases u with
       | ret v=>
         obtain⟨rfl,hq⟩:=g
         exact Qgq (QgQ rfl (Qgq hq))
       |_=>exact g.elim
   |_=>exact g.elim
def kg:entryFor table "dict.update.loop"=some Builtin.«dict.update.loop»:=by rfl
def gL:plainId "dict.update.loop"=true:=by decide +kernel
section
variable{prog:Program}{w:World}{K:Type}[DecidableEq K]{knd:KeyKind prog w K}
def AS(kvs:List (K×Value))(k:K)(v:Value):(stored kvs k v).length<=kvs.length+1:=by
 unfold stored
 split
 ·rw[lQm];omega
 ·rw[lQa];simp
def JG(b:Nat->K)(a:Nat->Value):Nat->List (K×Value)
 |0=> []
 |i+1=>stored (JG b a i) (b i) (a i)
theorem B7(b:Nat->K)(a:Nat->Value):∀i,(JG b a i).length<=i
 |0=>Qmq _
 |i+1=>QAq (AS _ _ _) (Nat.succ_le_succ (B7 b a i))
end
end Dk
namespace L2
open PySem PySem.Spec PyProof.Rows
section
variable{X:Cx}
def key_is{k:Key}{u:Value}(r:RelV (kV k) u)(P:Program)(w:World):(bP P w).is k u=true:=by
 cases k with
 |inl i=>obtain⟨t,rfl⟩:=(show∃t,u=Value.int i t from r);simp[bP,qH,Value.isInt]
 |inr x=>obtain⟨t,rfl⟩:=(show∃t,u=Value.str x t from r);simp[bP,qH,Value.isStrOf]
end
end L2
namespace Dk
open PySem
end Dk
namespace L2
open PySem PySem.Spec PyProof.Rows
def GN{X:Cx}{N:List Str}{js:List (Option Nat)}{a:Scope}{Y:List (Str×Addr)}{tg M a5 K:Expr}{b0:List Expr}{pos b2:Pos}{wi:TI}{g gt:TG}{tt:TT}{te:TE}
  (S:aM X N js a Y) (hc:X.calm=true) (hi:PI X tg M wi)
  (hg:∀C s H fp,PG (aL X N a Y C s H fp) tg g) (ht:∀C s H fp,m6 (aL X N a Y C s H fp) b0 tt) (he:∀C s H fp,PE (aL X N a Y C s H fp) a5 te) (e3:PG X K gt)
  (hs:∀x,foldedSetIterable M X.env x=pure x:=by intro _;rfl) (e2:swapsWithSole [K] (.ListComp a5 [⟨tg,M,b0,0⟩] a pos) b2.line X.env=pure true:=by rfl)
  (h1:(assignEach [K] X.env).map (·.2)= [assign K X.env]:=by rfl):PS X (.Assign [K] (.ListComp a5 [⟨tg,M,b0,0⟩] a pos) b2) (DB (FL js wi g tt te) gt):=by
 intro U s σ H Dn I h
 rw[exec_Assign_arm]
 refine Qaq (wpAny_standAt (Qaq (wpAny_of_eq e2 (wpAny_ite_true rfl (Qaq ?_)))))
 rw[h1]
 show wpAny _ _ (do let _←comprehension _ _ _ _ _ _ _ (some λv=>assignAll v [assign K X.env]);pure ()) _ _ _
 refine Qaq ?_
 refine wpAny_comprehension_free (use:=some λv=>assignAll v [assign K X.env]) rfl hs S.clos S.kind S.names (c9 (hi U s σ H _ I h) λv s1 h1=>c9 h1 λe4 k h2=> ?_)
 obtain⟨it,fp,tn,J,H2,e,t,T,b4,f2,hD⟩:=h2
 subst e
 refine QhQ (wpAny_newFunctionEnv S.nocell (by intro y hy;simp at hy) (λP L B=> ?_) S.kind)
 dsimp only at L B⊢
 generalize b6:k.heap.push {cls:=.type "list",dict:=none,data:=.seq ([]:List Value).toArray}=P2 at L B⊢
 have hC:P2.objs.size=k.heap.objs.size+1:=by rw[←b6,Heap.size_push]
 have c5:k.heap.objs.size≠P2.objs.size:=by rw[hC];exact Qwq (Nat.lt_succ_self _)
 have a1:k.heap.objs.size<=P2.objs.size:=by rw[hC];exact Nat.le_succ _
 have G:∀b,b<k.heap.objs.size->b≠P2.objs.size:=λb f=>by rw[hC];exact Qwq (Nat.lt_succ_of_lt f)
 have a0:∀b o,k.heap.get? b=some o->P.get? b=some o:=λb o e=>B.extBut b o (G b (Qiq e)) (Qcq _ (b6▸Qcq _ e))
 have c6:P.get? k.heap.objs.size=some {cls:=.type "list",dict:=none,data:=.seq ([]:List Value).toArray}:=B.extBut _ _ c5 (Qcq _ (b6▸Qrq _ rfl))
 have nD:H2 k.heap.objs.size=none:=t.fresh
 have nC:H2 P2.objs.size=none:=t.hok.fresh a1
 have b5:∀b∈fp,b<k.heap.objs.size:=λb f=>by
  obtain⟨o,e,_⟩:=T.obj _ _ b4 b f
  exact Qiq e
 obtain⟨W,⟨m0,w0⟩,b9⟩:=hD k.heap.objs.size nD
 have d4:(aL X N a Y P2.objs.size k H2 fp).Ok:=by
  refine⟨t.ok.mod,S.kind,t.ok.glob,t.ok.blt,a1,λx y c h1 h2=>t.ok.inj x y c (S.sub x c h1) (S.sub y c h2),S.has,(λx c h=>by cases h),t.ok.hd,t.ok.frames,.inl rfl,
   λb f=>⟨G b (b5 b f),λx c h=>(f2 b f).2.2.2.2.1 x c (S.sub x c h)⟩,t.bs,QAq t.ok.bsz t.sz,λb o e f=> ?_,λb f z=> ?_,t.stack,t.stkFree⟩
  ·rcases(f2 b f).2.2.2.1 with z|z
   ·exact t.ok.noex b o e z
   ·exact absurd (Qqq (Qqq (Qiq e) t.ok.bsz) z) (Nat.lt_irrefl _)
  ·rcases Qsq.mp (t.stkSub b z) with q|q
   ·exact(f2 b f).2.1 q
   ·exact(f2 b f).2.2.1 q
 have c0:cT X.prog X.w (upd H2 k.heap.objs.size (.lst [])) P k.heap.objs.size (.lst []):=⟨Nat.zero_le _,[],0,.nil,c6⟩
 have I4:Inv (aL X N a Y P2.objs.size k H2 fp) [] (j8 js σ) (upd H2 k.heap.objs.size (.lst [])) {k with heap:=P,toks:=k.toks+([]:List (Str×Value)).length}:=by
  refine⟨d4,rfl,t.bare,Un.laid a0 (Qmq _) nD,⟨_,L,λi x v h1 h2 h3=> ?_⟩,λx c h=> ?_,by show upd H2 _ _ P2.objs.size=none;rw[bf c5.symm];exact nC,λx c h=> ?_,λp hp=>absurd (show p∈([]:List (Addr×Obj)) from hp) (by simp),t.hok.laid a0 (Qmq _) c0,by show(j8 js σ).length=N.length;unfold j8;rw[lQm];exact S.len⟩
  ·unfold j8 at h2
   rw[gQm] at h2
   cases e:js[i]? with
   |none=>rw[e] at h2;cases h2
   | some o=>
     rw[e] at h2
     cases o with
     |none=>cases h2
     | some j=>
       have a2:σ.getD j none=some v:=QdQ h2
       have hj:σ[j]?=some (some v):=by
         rw[Qlq] at a2
         cases q:σ[j]? with
         |none=>rw[q] at a2;cases a2
         |some y=>rw[q] at a2;exact congrArg some a2
       obtain⟨c1,c2,c3⟩:=S.cap i j x e h1
       obtain⟨m,hn,hl⟩:=t.loc
       have d7:Ii X.env.scope x:=by
         rcases c2 with z|z
         · exact .inr (.inl z)
         · exact .inr (.inr z)
       obtain⟨u,r,l⟩:=hl j x v c1 hj d7
       refine⟨u,r,.inr ⟨c3,?_⟩⟩
       obtain⟨c,d2⟩:=S.has x c3
       refine⟨c,d2,?_⟩
       rcases l with⟨z,_⟩|⟨_,c',e',z⟩
       · rcases c2 with y|y <;>rw[y] at z <;>cases z
       · rw[S.sub x c d2] at e'
         cases e'
         obtain⟨o,ho,hd⟩:=z
         exact⟨o,a0 _ _ ho,hd⟩
  ·obtain⟨v,o,ho,hd⟩:=t.cell x c (S.sub x c h)
   exact⟨v,o,a0 _ _ ho,hd⟩
  ·obtain⟨v,o,ho,hd⟩:=t.cell x c (S.sub x c h)
   rw[bf (Qwq (Qiq ho))]
   exact t.freeC x c (S.sub x c h)
 have a4:∀{Q:List (Addr×Obj)} {H':Hp},Q= []->(∀b∈fp,H' b=none)->∀b∈fp,qg (aL X N a Y P2.objs.size k H2 fp) Q H' b:=λ{Q H'} ep hn b f=>by
  subst ep
  refine⟨hn b f,G b (b5 b f),λz=>d4.exfs b f z,.inl f,λx c h=>(f2 b f).2.2.2.2.1 x c (S.sub x c h),λp hp=>absurd (show p∈([]:List (Addr×Obj)) from hp) (by simp)⟩
 have b3:codeAny (model X.prog X.w) X.A (.compLoop (.ListComp a5 [⟨tg,M,b0,0⟩] a pos) 0 (.ref it) (.ref k.heap.objs.size) (compEnvC a Y P2.objs.size X.env))
   (compPost (model X.prog X.w) X.A X.xe (some λv=>assignAll v [assign K X.env]) (λ_ s9=>wpAny (model X.prog X.w) X.A (pure ()) (λ_ d6=>wpAny (model X.prog X.w) X.A (pure Flow.next) (SP X U Dn) X.xe d6) X.xe s9) (.ref k.heap.objs.size) P2.objs.size) {k with heap:=P,toks:=k.toks+([]:List (Str×Value)).length}:=by
  refine ow (λn s'=>∃i a3 H',Inv (aL X N a Y P2.objs.size k H2 fp) [] a3 H' s'/\tn i s'.heap/\(∀b∈fp,H' b=none)/\W i n a3 H') ?_ m0
   ⟨0,_,_,I4,T.keep _ _ _ b4 λb _ o e=>a0 b o e,λb f=>by rw[bf (Qwq (b5 b f))];exact(f2 b f).1,w0⟩
  rintro n s3 ⟨i,b1,H3,I3,c4,d3,w3⟩
  rcases b9 i n b1 H3 w3 with⟨stop,q⟩|⟨go,Nx,hN,d1⟩
  ·refine c9 (T.done (aL X N a Y P2.objs.size k H2 fp) rfl rfl rfl hc i [] s3 b1 H3 _ I3 (a4 rfl d3) c4 stop) λr s4 R=> ?_
   obtain⟨hr,I5⟩:=R
   subst hr
   obtain⟨m,hn,_⟩:=id I5.loc
   have e0:∀h',Heap.SameBut P2.objs.size s4.heap h'->Inv X U σ H3 {s4 with heap:=h'}:=by
    intro h' Z
    have u:=I5.base
    have ne:∀b o,k.heap.get? b=some o->b≠P2.objs.size:=λb o e=>G b (Qiq e)
    refine t.call' (ch:=fp) I5.os ⟨λb o e n f hx=>(Z.2 b (ne b o e)).trans (u.keep b o e n f hx),λb o e n f hx=> ?_,u.free,λb o e hx=> ?_,u.tups,u.frzs,u.tbls⟩ (λb ob e=> ?_) I5.bare λb f=>⟨(f2 b f).2.2.2.1,(f2 b f).2.1,(f2 b f).2.2.2.2.1,(f2 b f).2.2.2.2.2⟩
    ·obtain⟨sl,e1⟩:=u.slot b o e n f hx
     exact⟨sl,(Z.2 b (ne b o e)).trans e1⟩
    ·obtain⟨o',e1⟩:=u.there b o e hx
     exact⟨o',(Z.2 b (ne b o e)).trans e1⟩
    ·refine(I5.hok b ob e).stay (λc w' hc q=>(Z.2 c ?_).trans q) (λ_ q=>q) λ_ _ q=>q
     have fC:H3 P2.objs.size=none:=I5.free
     rintro rfl
     rcases hc with z|z
     ·rw[←z,fC] at e;cases e
     ·rw[fC] at z;cases z
   have IX:=e0 s4.heap ⟨rfl,λ_ _=>rfl⟩
   have a6:qg X U H3 P2.objs.size:=t.fpOk a1 I5.free
   obtain⟨oC,es,ep,d0,b8,d9⟩:=hn
   have IP:=IX.pinned (fp:= [P2.objs.size]) (λb f=>by rw[Qfq] at f;rw[f];exact a6) (λb f=>by rw[Qfq] at f;rw[f];exact⟨oC,d0,λv=>by rw[b8];simp⟩)
   show wpAny _ _ (assignAll (.ref k.heap.objs.size) [assign K X.env]) _ _ _
   rw[assignAll.eq_2]
   refine c9 (e3 _ s4 σ H3 (.ref k.heap.objs.size) (.ref k.heap.objs.size) _ IP rfl q) λ_ s6 R=> ?_
   obtain⟨F,H6,I6,q6⟩:=R
   have pC:=I6.pin (P2.objs.size,oC) (Qoq _ (Qoq _ (dm (Qfq.mpr rfl) d0)))
   refine⟨m,⟨oC,es,ep,pC.1,b8,d9⟩,λh' Z=>Qgq (Qgq ⟨F,H6,?_,q6⟩)⟩
   exact I6.unpinned.turned (it:=P2.objs.size) (t':=s6.toks) (λb o' f e=>(Z.2 b f).trans e) pC.2.1 pC.2.2.1 a6.2.2.2.1 a6.2.2.2.2.1 a6.2.2.2.2.2
  ·refine c9 (T.item (aL X N a Y P2.objs.size k H2 fp) rfl rfl rfl hc i [] s3 b1 H3 _ I3 (a4 rfl d3) c4 go) λr s4 R=> ?_
   obtain⟨u,hr,h4⟩:=R
   subst hr
   refine c9 h4 λ_ s5 R=> ?_
   obtain⟨x,H5,I5,r5,y5,b7,d5⟩:=R
   have d8:=I5.pinned (a4 rfl d5) (T.obj _ _ b7)
   refine c9 (hg P2.objs.size k H2 fp _ s5 b1 H5 x u _ d8 r5 (d1 x H5 y5)) λ_ s6 R=> ?_
   obtain⟨F,H6,I6,q6⟩:=R
   refine c9 (ht P2.objs.size k H2 fp _ s6 F H6 _ I6 q6) λok s7 R=> ?_
   obtain⟨H7,I7,q7⟩:=R
   have again:∀{s8:Shared} {H8:Hp},Inv (aL X N a Y P2.objs.size k H2 fp) ([]++mK fp s5.heap) F H8 s8->Nx F H8->∃m,m<n/\∃i a3 H',Inv (aL X N a Y P2.objs.size k H2 fp) [] a3 H' s8/\tn i s8.heap/\(∀b∈fp,H' b=none)/\W i m a3 H':=λ{s8 H8} I8 n8=>by
    obtain⟨m',hm,w8⟩:=hN F H8 n8
    refine⟨m',hm,i+1,F,H8,I8.unpinned,T.keep _ _ _ b7 λb f o e=>(I8.pin (b,o) (Qoq _ (Qoq _ (dm f e)))).1,λb f=> ?_,w8⟩
    obtain⟨o,e,d⟩:=T.obj _ _ b7 b f
    exact(I8.pin (b,o) (Qoq _ (Qoq _ (dm f e)))).2.1
   cases ok with
   |false=>exact again I7 q7
   | true=>
     refine c9 (he P2.objs.size k H2 fp _ s7 F H7 _ I7 q7) λyv s8 R=> ?_
     obtain⟨y,H8,I8,ry,xs,hx,hl,n8⟩:=R
     refine c9 (pX (X:=aL X N a Y P2.objs.size k H2 fp) _ s8 F H8 (.ref k.heap.objs.size) [y] (.ref k.heap.objs.size) [yv] (λ_ H'=>Nx F H') I8 rfl (.cons ry .nil) ⟨_,xs,y,rfl,rfl,hx,hl,n8⟩) λ_ s9 R=> ?_
     obtain⟨z,H9,I9,_,q9⟩:=R
     exact again I9 q9
 exact codeAny_compStart_list b3 (T.self _ 0 _ _ _ (T.keep _ _ _ b4 λb _ o e=>a0 b o e) b3)
end L2
namespace Dk
open PySem
end Dk
namespace L2
open PySem PySem.Spec PyProof.Rows
section
variable{X:Cx}
def Gy(K:PySem.W.Frag):List V->Hp->VK->Prop:=λd H Q=>∃(a:Addr) (c:List Str),d= [.ref a]/\g6 K H a (c.map V.str)/\c.length<64/\∀(l:Addr) (b:List Str),H l=none->sortedS b=true->b.Perm c->Q (.ref l) (upd H l (.lst (b.map V.str)))
theorem vL:∀{ys:List Str} {a:List Value},bF (ys.map V.str) a->StrsAre a ys
 | [],_,r=>by cases r;exact .nil
 | y::ys,_,r=>by
   cases r with
   | cons h t=>
     obtain⟨b,rfl⟩:=h
     exact .cons y b (vL t)
def xf{ss:List Str}{vs:List Value}(h:StrsAre vs ss):bF (ss.map V.str) vs:=by
 induction h with
 |nil=>exact .nil
 |cons y t _ a=>exact .cons ⟨t,rfl⟩ a
def yt:gk X (.builtin "sorted") (Gy X.K):=by
 intro m s A H z B Q I r h
 obtain⟨a,k,rfl,ha,h64,q⟩:=h
 obtain⟨u,rfl,rx⟩:=vals1 r
 cases (show u=Value.ref a from rx)
 obtain⟨d,l,p,y⟩:=I.list ha
 have w:d.length=k.length:=by have:=l.length;simpa using this.symm
 have g:s.heap.objs.size<=s.heap.objs.size+1:=Nat.le_succ _
 refine sorted_strs p.isList (vL l) (by omega) λc f v j x=> ?_
 obtain⟨e,n⟩:=sortedAll_at s.heap d c
 have i:f.length=k.length:=j.length_eq
 refine⟨.ref (s.heap.objs.size+1),_,I.laid (a:=s.heap.objs.size+1) (o:=.lst (f.map V.str)) (h':=sortedAll s.heap d c) (t':=s.toks) (λb o t=> ?_) g ⟨?_,c.toList,e,xf v,?_⟩,rfl,q _ f (I.hok.fresh g) x j⟩
 ·exact sortedAll_old t
 ·rw[lQm,i]
  exact QAq (nQl h64) (by decide)
 ·simpa using n
end
end L2
namespace Zp
open PySem
section
variable{prog:Program}{w:World}{A:Around}{E:Value->Shared->Prop}{s:Shared}
def LX{i t:Addr}{k:Nat}{vs:Array Value}{v:Value}{Q:Value->Shared->Prop}(c:s.heap.IsTupleIter i t k)(f:s.heap.IsTuple t vs)(g:vs[k]?=some v)
  (q:∀h',h'.IsTupleIter i t (k+1)->Heap.SameBut i s.heap h'->Q v {s with heap:=h'}):wpAny (model prog w) A (Builtin.SmallTypes.nextOf (.ref i)) Q E s:=by
 obtain⟨m,b,h,a⟩:=id c
 obtain⟨l,e,_,j,d⟩:=f
 unfold Builtin.SmallTypes.nextOf
 refine Qaq (QiQ (name:=Str.ofString "__next__") c.typeIs F.slot_tuple_iterator_next (wpAny_call_entry F.slot_tuple_iterator_next c.typeIs F.entry_tuple_iterator_next ?_ (F.args_tuple_iterator_next_1 _)))
 refine(?_:wpAny _ _ (field (.ref i) 0 >>= _) _ _ s)
 refine Qaq (QMq b a (x:=.ref t) rfl ?_)
 refine(?_:wpAny _ _ (if (Value.ref t==Value.none)=true then _ else _) _ _ s)
 rw[Quq (λz=>by cases (show false=true from z))]
 refine(?_:wpAny _ _ (field (.ref i) 1 >>= _) _ _ s)
 refine Qaq (QMq b a (x:=.int k 0) rfl ?_)
 refine(?_:wpAny _ _ (seqItems? (.ref t) >>= _) _ _ s)
 refine Qaq (wpAny_seqItems e d ?_)
 simp only[Int.toNat_natCast,g]
 refine Qaq (wpAny_setField b a (by simp) (Qgq ⟨v,rfl,Qgq (q _ ⟨_,Heap.get?_update_self _ b (Obj.isFreed_of_fields (Obj.data_mapFields a _)),(Obj.cls_mapFields ..).trans h,?_⟩ (Heap.SameBut.update ..))⟩))
 rw[Obj.data_mapFields a]
 simp[rawInt]
def Lf{i t:Addr}{k:Nat}{vs:Array Value}{Q:Value->Shared->Prop}(f:A.handled=none)(d:s.heap.IsTupleIter i t k)(j:s.heap.IsTuple t vs)(l:vs[k]?=none)
  (q:∀h' e,Heap.ExtBut i s.heap h'->(∃o,h'.get? e=some o/\o.cls=.type "StopIteration")->E (.ref e) {s with heap:=h'}):wpAny (model prog w) A (Builtin.SmallTypes.nextOf (.ref i)) Q E s:=by
 obtain⟨r,c,u,b⟩:=id d
 obtain⟨p,h,_,n,g⟩:=j
 unfold Builtin.SmallTypes.nextOf
 refine Qaq (QiQ (name:=Str.ofString "__next__") d.typeIs F.slot_tuple_iterator_next (wpAny_call_entry F.slot_tuple_iterator_next d.typeIs F.entry_tuple_iterator_next ?_ (F.args_tuple_iterator_next_1 _)))
 refine(?_:wpAny _ _ (field (.ref i) 0 >>= _) _ _ s)
 refine Qaq (QMq c b (x:=.ref t) rfl ?_)
 refine(?_:wpAny _ _ (if (Value.ref t==Value.none)=true then _ else _) _ _ s)
 rw[Quq (λz=>by cases (show false=true from z))]
 refine(?_:wpAny _ _ (field (.ref i) 1 >>= _) _ _ s)
 refine Qaq (QMq c b (x:=.int k 0) rfl ?_)
 refine(?_:wpAny _ _ (seqItems? (.ref t) >>= _) _ _ s)
 refine Qaq (wpAny_seqItems h g ?_)
 simp only[Int.toNat_natCast,l]
 refine Qaq (wpAny_rule (Qaq (wpAny_setField c b (by simp) ?_)))
 refine(?_:wpAny _ _ (newExc (.type "StopIteration") [] >>= _) _ _ _)
 refine Qaq ?_
 simp only[newExc,newTuple]
 refine Qaq (QhQ ?_ (by size_fits))
 refine Qaq (m:=firstArgMember _ _) (wpAny_of_eq (a:=Value.none) (by first|rfl|(simp only[firstArgMember];rfl)) (QhQ ?_ (by size_fits)))
 simp only[raiseNew]
 refine Qaq (wpAny_handled ?_)
 first|rw[show A.in1.handled=none from f]|rw[f]
 exact Qaq (Qgq (wpAny_throw (q _ _ (((Heap.SameBut.update ..).extBut.push _).push _) ⟨_,Qrq _ rfl,rfl⟩)))
end
def Rest(z O i j:Addr)(h h':Heap):Prop:=∀c o,c≠z->c≠O->c≠i->c≠j->h.get? c=some o->h'.get? c=some o
end Zp
namespace L2
open PySem PySem.Spec PyProof.Rows
section
variable{X:Cx}{pins:List (Addr×Obj)}{σ:St}{H:Hp}{s:Shared}{h':Heap}
def Inv.turnedL{t':Nat}{fp:List Addr}(I:Inv X pins σ H s)(d:∀b∈fp,qg X pins H b)(k:∀b o,b∉fp->s.heap.get? b=some o->h'.get? b=some o):Inv X pins σ H {s with heap:=h',toks:=t'}:=by
 have f:∀b u,H b=some u->b∉fp:=λb u e z=>by rw[(d b z).1] at e;cases e
 refine I.step (g':=s.gens) (d':=s.drawn) (ch:=fp) (λb g=>⟨(d b g).2.2.2.1,(d b g).2.1,(d b g).2.2.2.2.1,(d b g).2.2.2.2.2⟩) (λb o _ _ a e _=>k b o a e) (λb o _ _ a e _=>⟨o.slots,k b o a e⟩) (λ_ _ _ _ n=>n)
  (λb o a e=>⟨o,k b o a e⟩) (λ_ _ e=>e) (λ_ _ _ e=>e) (λb p e=>⟨#[],by rw[e];simp⟩) (λm h=> ?_) (λb u e=> ?_) I.bare
 ·obtain⟨o,j,i,l,r⟩:=h
  exact⟨o,j,i,k _ o (λz=>(d _ z).2.1 rfl) l,r⟩
 ·refine(I.hok b u e).stay (λc v a q=>k c v ?_ q) (λ_ q=>q) λ_ _ q=>q
  rcases a with z|z
  ·rw[z];exact f b u e
  ·exact f c _ z
def Inv.turnedNew{t':Nat}{fp:List Addr}{p:Addr}{o:HO}(I:Inv X pins σ H s)(f:∀b∈fp,qg X pins H b)(k:∀b u,b∉fp->s.heap.get? b=some u->h'.get? b=some u)(i:s.heap.objs.size<=p)
  (new:cT X.prog X.w (upd H p o) h' p o):Inv X pins σ (upd H p o) {s with heap:=h',toks:=t'}:=by
 have y:=I.hok.fresh i
 have h:∀b u,H b=some u->b∉fp:=λb u e z=>by rw[(f b z).1] at e;cases e
 have g:∀b u,H b=some u->upd H p o b=some u:=λb u e=>by rw[bf (eZ e y)];exact e
 refine I.step (g':=s.gens) (d':=s.drawn) (ch:=fp) (λb a=>⟨(f b a).2.2.2.1,(f b a).2.1,(f b a).2.2.2.2.1,(f b a).2.2.2.2.2⟩) (λb o _ _ d e _=>k b o d e) (λb o _ _ d e _=>⟨o.slots,k b o d e⟩)
  (λb u _ e n=>by rw[bf (λz=>Nat.lt_irrefl _ (Qqq (Qiq e) (by rw[z];exact i)))];exact n)
  (λb o d e=>⟨o,k b o d e⟩) (λb B e=>g b _ e) (λb u v e=>g b _ e) (λb A e=>⟨#[],by rw[g b _ e];simp⟩) (λm j=> ?_) (λb u e=> ?_) I.bare
 ·obtain⟨o,t,l,x,r⟩:=j
  exact⟨o,t,l,k _ o (λz=>(f _ z).2.1 rfl) x,r⟩
 ·by_cases a:b=p
  ·subst a
   rw[bI] at e
   cases e
   exact new
  ·rw[bf a] at e
   refine(I.hok b u e).stay (λc v d q=>k c v ?_ q) (λc q=>g c _ q) λc _ q=>g c _ q
   rcases d with z|z
   ·rw[z];exact h b u e
   ·exact h c _ z
end
end L2
namespace Zp
open PySem PySem.W PyProof.Rows
def pD:KasT (Array Nat)->List (Array Nat)
 |.ret p=> [p]
 |.ask _ _ k=>pD (k true)++pD (k false)
def uC(n:Nat):KasT (Array Nat)->Bool
 |.ret _=>true
 |.ask i j k=>decide (i<n)&&decide (j<n)&&decide (i≠j)&&uC n (k true)&&uC n (k false)
def se:∀n:Nat,n<=3->2<=n->uC n (kas_sort n)=true/\(pD (kas_sort n)).all (λp=>p.toList.isPerm (List.range n))=true:=by
 intro n b a
 have:n=2\/n=3:=by omega
 rcases this with rfl|rfl
 ·decide +kernel
 ·decide +kernel
inductive et(h:Heap):List Value->List Str->Prop
 |nil:et h [] []
 |cons {a:Addr} {o:Obj} {xs:Array Value} {n:Nat} {x:Str} {t:Tok} {vs:List Value} {fs:List Str}:h.get? a=some o->o.cls=.type "tuple" ->o.data=.seq xs n->xs[0]?=some (.str x t)->et h vs fs->et h (.ref a::vs) (x::fs)
theorem et.keep{h h':Heap}(k:∀a o,h.get? a=some o->o.cls=.type "tuple" ->h'.get? a=some o):∀{vs:List Value} {fs:List Str},et h vs fs->et h' vs fs
 |_,_,.nil=>.nil
 |_,_,.cons e c d f r=>.cons (k _ _ e c) c d f (r.keep k)
theorem et.len{h:Heap}:∀{vs:List Value} {fs:List Str},et h vs fs->vs.length=fs.length
 |_,_,.nil=>rfl
 |_,_,.cons _ _ _ _ r=>congrArg (·+1) r.len
theorem et.get{h:Heap}:∀{vs:List Value} {fs:List Str} {i:Nat},et h vs fs->i<fs.length->∃a o xs n t,vs.getD i Value.none=.ref a/\h.get? a=some o/\o.data=.seq xs n/\xs[0]?=some (.str (fs.getD i "") t)
 |_,_,0,.cons e c d f r,_=>⟨_,_,_,_,_,rfl,e,d,f⟩
 | _,_,i+1,.cons e c d f r,hi=>by
   have:=r.get (i:=i) (by simpa using hi)
   simpa using this
 |_,_,_,.nil,hi=>by simp at hi
theorem et.firsts{h:Heap}:∀{vs:List Value} {fs:List Str},et h vs fs->∃a:List Value,KatTups h vs a/\a.length=fs.length/\∀v∈a,∃x t,v=.str x t
 |_,_,.nil=>⟨[],KatTups.nil,rfl,by simp⟩
 | _,_,.cons e c d f r=>by
   obtain⟨a,k,l,m⟩:=r.firsts
   exact⟨_::a,KatTups.cons e c d f k,by simp[l],λv b=>by
     rcases Qsq.mp b with z|z
     · exact⟨_,_,z⟩
     · exact m v z⟩
end Zp
namespace L2
open PySem PySem.Spec PyProof.Rows
mutual
inductive qc(N:Addr->Prop)(H:Hp):PyData->V->Prop
 |non:qc N H .none .non
 |bl (b:Bool):qc N H (.bool b) (.bl b)
 |int (i:Int):qc N H (.int i) (.int i)
 |str (x:Str):qc N H (.str x) (.str x)
 |tup {a:Addr} {us:List V} {xs:List PyData}:H a=some (.tup us)->lI N H xs us->qc N H (.tuple xs) (.ref a)
 |lst {a:Addr} {us:List V} {xs:List PyData}:H a=some (.lst us)->N a->lI N H xs us->qc N H (.list xs) (.ref a)
 |dct {a:Addr}:H a=some (.dK [])->qc N H (.dict []) (.ref a)
inductive lI(N:Addr->Prop)(H:Hp):List PyData->List V->Prop
 |nil:lI N H [] []
 |cons {x:PyData} {u:V} {xs:List PyData} {us:List V}:qc N H x u->lI N H xs us->lI N H (x::xs) (u::us)
end
section
variable{X:Cx}
mutual
theorem g_{c:List (Addr×Obj)}{J:St}{H:Hp}{s:Shared}{N:Addr->Prop}(I:Inv X c J H s)(j:∀a,N a->a≠sysModules):∀{d:PyData} {v:V} {u:Value},qc N H d v->RelV v u->∃as,Reads s.heap u d as/\sysModules∉as
 |_,_,_,.non,r=>by cases r;exact⟨_,.none,by simp⟩
 |_,_,_,.bl b,r=>by cases r;exact⟨_,.bool b,by simp⟩
 |_,_,_,.int i,r=>by obtain⟨t,rfl⟩:=r;exact⟨_,.int i t,by simp⟩
 |_,_,_,.str x,r=>by obtain⟨t,rfl⟩:=r;exact⟨_,.str x t,by simp⟩
 | _,_,_,.tup (a:=a) h hs,r=>by
   cases r
   obtain⟨l,k,⟨o,f,g,n,q⟩,A⟩:=I.tuple (gJ.of h)
   obtain⟨as,p,m⟩:=fg I j hs k
   exact⟨as,.tuple f g q (by simpa using p),m⟩
 | _,_,_,.lst (a:=a) h n hs,r=>by
   cases r
   obtain⟨l,k,G,A⟩:=I.list (g6.of h)
   obtain⟨o,f,g,P,q⟩:=G.isList
   obtain⟨as,p,m⟩:=fg I j hs k
   exact⟨_,.list f g q (by simpa using p),by rw[Qsq];exact λe=>e.elim (λe=>j _ n e.symm) m⟩
 | _,_,_,.dct (a:=a) h,r=>by
   cases r
   obtain⟨_,w,L,B,K⟩:=Ac I.hok h
   cases B
   obtain⟨o,F,M,f,C,g,_,z,_⟩:=K
   have y:F.toList= []:=List.eq_nil_of_length_eq_zero z.length
   exact⟨_,.dict (as:= []) (bs:= []) (kvs:= []) f C.1 g (by rw[y];exact .nil) (by rw[y];exact .nil),by
     simp
     intro e
     rw[e] at w
     simp at w⟩
theorem fg{b:List (Addr×Obj)}{l:St}{H:Hp}{s:Shared}{N:Addr->Prop}(I:Inv X b l H s)(c:∀a,N a->a≠sysModules):∀{xs:List PyData} {d:List V} {vs:List Value},lI N H xs d->bF d vs->∃as,ReadsAll s.heap vs xs as/\sysModules∉as
 |_,_,_,.nil,r=>by cases r;exact⟨_,.nil,by simp⟩
 | _,_,_,.cons h hs,r=>by
   cases r with
   | cons r i=>
     obtain⟨as,j,k⟩:=g_ I c h r
     obtain⟨m,g,f⟩:=fg I c hs i
     exact⟨_,.cons j g,by rw[mQa];exact λe=>e.elim k f⟩
end
end
section
variable{X:Cx}
def GR:i4 X (binaryOp .Mult) (rI IntMulOk λi j=>.int (i*j)):=Mp λ_ _ _ _ _ _ _ a q=>mul_int q a
inductive vW(H:Hp):List Addr->List Str->Prop
 |nil:vW H [] []
 |cons {a:Addr} {x:Str} {us:List V} {rs:List Addr} {ss:List Str}:H a=some (.tup (.str x::us))->vW H rs ss->vW H (a::rs) (x::ss)
theorem y_{b:List (Addr×Obj)}{e:St}{H:Hp}{s:Shared}(I:Inv X b e H s):∀{rs:List Addr} {ss:List Str},vW H rs ss->Zp.et s.heap (rs.map Value.ref) ss
 |_,_,.nil=>.nil
 | _,_,.cons (a:=a) h r=>by
   obtain⟨f,g,⟨o,j,d,n,i⟩,l⟩:=I.tuple (gJ.of h)
   cases g with
   | cons c k=>
     obtain⟨t,rfl⟩:=c
     exact .cons (t:=t) j d i (by simp) (y_ I r)
theorem v7:∀{rs:List Addr} {b:List Value},bF (rs.map V.ref) b->b=rs.map Value.ref
 | [],_,r=>by cases r;rfl
 | a::rs,_,r=>by
   cases r with
   | cons h t=>
     cases h
     rw[v7 t]
     rfl
theorem t7:∀(rs:List Addr),bF (rs.map V.ref) (rs.map Value.ref)
 | []=>.nil
 |a::rs=>.cons rfl (t7 rs)
end
section
variable{X:Cx}
def Fz(K:PySem.W.Frag):R2:=λx y H Q=>∃a b c,x=.ref a/\y=.ref b/\g6 K H a c/\g6 K H b []/\Q (.bl (!c.isEmpty)) H
def yJ(f:X.A.units<cLine):i4 X (compareOp .NotEq) (Fz X.K):=by
 intro c s p H x y v u Q I g e h
 obtain⟨a,b,o,rfl,rfl,ha,hb,q⟩:=h
 cases o with
 |nil=>exact Kn f c s p H _ _ v u Q I g e ⟨a,b,[],[],rfl,rfl,ha,hb,rfl,rfl,q⟩
 | cons z B=>
   cases g
   cases e
   obtain⟨m,r,n,w⟩:=I.list ha
   obtain⟨j,t,d,i⟩:=I.list hb
   have l:=r.length
   have k:=t.length
   exact SeqAt.RcNeAt.lists_lengths n.isList d.isList (by simp[←l,←k]) f _ _ _ _ ⟨.bl true,H,I,rfl,q⟩
end
end L2
namespace HT
open PySem PySem.Spec PyProof.Rows
section
variable{prog:Program}{w:World}{A:Around}{E:Value->Shared->Prop}{s:Shared}
def l_{t b:Addr}{items:Array Value}{i f:Value}{lo hi:Option Int}{Q:Value->Shared->Prop}(ht:IsTup s.heap t items)(j:s.heap.IsSliceOf b i f .none)(p:IsPart i lo)(o:IsPart f hi)
  (g:eR items.size 0 lo=0/\eR items.size items.size hi=items.size) (h:Q (.ref t) s):wpAny (model prog w) A (getItem (.ref t) (.ref b)) Q E s:=by
 obtain⟨l,c,e,n⟩:=id j
 have d:s.TypeIs (.ref b) "slice":=⟨l,c,e⟩
 unfold getItem
 try with_reducible refine QLq ?_
 first|refine Qaq (Qgq ?_)|skip
 refine Qaq (wpAny_sequenceKey ht.typeIs (by decide) ?_)
 refine Qaq (QiQ (name:=Str.ofString "__getitem__") ht.typeIs PyProof.Rows.slot_tuple_getitem
  (wpAny_call_entry PyProof.Rows.slot_tuple_getitem ht.typeIs entry_tuple_getitem ?_ (args_tuple_getitem _ _)))
 show wpAny _ _ (Builtin.Tuple.tupleItemsOf (.ref t) >>= _) _ _ s
 refine Qaq (tupleItemsOf_ ht ?_)
 refine Qaq (wpAny_typeOf d ?_)
 rw[Qhq (by decide)]
 refine Qaq (jj j p o ?_)
 have a:(((eR items.size 0 lo:Nat):Int)==0&&(1:Int)==1&&(eR items.size items.size hi-eR items.size 0 lo)==items.size)=true:=by
  rw[g.1,g.2]
  simp
 show wpAny _ _ (if (((eR items.size 0 lo:Nat):Int)==0&&(1:Int)==1&&(eR items.size items.size hi-eR items.size 0 lo)==items.size)=true then _ else _) _ _ s
 rw[Qhq a]
 have k:∀{A:Around} {E:Value->Shared->Prop} {R:Bool->Shared->Prop},R true s->wpAny (model prog w) A (Builtin.Tuple.tupleIsExact (.ref t)) R E s:=λ{A E R} h=>by
  unfold Builtin.Tuple.tupleIsExact
  exact Qaq (wpAny_typeOf ht.typeIs (Qgq h))
 refine Qaq (m:=Builtin.Tuple.tupleIsExact _) (k ?_)
 rw[Qhq rfl]
 refine Qaq (wpAny_rule ?_)
 exact Qgq ⟨_,rfl,Qgq h⟩
end
end HT
namespace L2
open PySem PySem.Spec PyProof.Rows
def NF(K:PySem.W.Frag):V->Option Int->Option Int->Hp->VK->Prop:=λx c d H Q=>∃a b,x=.ref a/\gJ K H a b∧
 (HT.eR b.length 0 c=0/\HT.eR b.length b.length d=b.length->Q (.ref a) H)/\(¬(HT.eR b.length 0 c=0/\HT.eR b.length b.length d=b.length)->∀p,H p=none->Q (.ref p) (upd H p (.tup (Bx b c d))))
def HH{X:Cx}:MO X (NF X.K):=by
 intro c s t H x v q p l m o Q I i n k g h
 obtain⟨a,b,rfl,hx,q1,q2⟩:=h
 by_cases e:HT.eR b.length 0 l=0/\HT.eR b.length b.length m=b.length
 ·cases i
  obtain⟨f,r,j,u⟩:=I.tuple hx
  have d:f.toArray.size=b.length:=by rw[Qjq];exact r.length.symm
  refine⟨"tuple",_,PyProof.Rows.slot_tuple_getitem.lookup,j.typeIs,?_⟩
  exact HT.l_ j n k g (by rw[d];exact e) ⟨.ref a,H,I,rfl,q1 e⟩
 ·exact Jh c s t H _ v q p l m o Q I i n k g ⟨a,b,rfl,hx,e,q2 e⟩
end L2
namespace DL
open PySem PySem.Spec PyProof.Rows L2
inductive D where
 |non|bl (b:Bool)|int (i:Int)|str (x:Str)|tup (xs:List D)|ref (k:Nat)|fn (x:Str)
inductive O where
 |lst (xs:List D)|frz (xs:List D)|dct (kvs:List (Key×D))
abbrev aC:=List O
abbrev cv:=List (Option D)
structure Md where
 K:PySem.W.Frag
 mg:Str->Option Value
mutual
inductive Rel(M:Md)(ρ:List Addr)(H:Hp):D->V->Prop
 |non:Rel M ρ H .non .non
 |bl (b:Bool):Rel M ρ H (.bl b) (.bl b)
 |int (i:Int):Rel M ρ H (.int i) (.int i)
 |str (x:Str):Rel M ρ H (.str x) (.str x)
 |tup {a:Addr} {vs:List V} {ds:List D}:H a=some (.tup vs)->a7 M ρ H ds vs->Rel M ρ H (.tup ds) (.ref a)
 |ref {k:Nat} {a:Addr}:ρ[k]?=some a->Rel M ρ H (.ref k) (.ref a)
 |fn {x:Str} {a:Addr}:M.mg x=some (.ref a)->Rel M ρ H (.fn x) (.ref a)
inductive a7(M:Md)(ρ:List Addr)(H:Hp):List D->List V->Prop
 |nil:a7 M ρ H [] []
 |cons {d:D} {v:V} {ds:List D} {vs:List V}:Rel M ρ H d v->a7 M ρ H ds vs->a7 M ρ H (d::ds) (v::vs)
end
section
variable{M:Md}{ρ ρ':List Addr}{H H':Hp}
def N3:HO->Prop
 |.tup _=>True
 |.frz _ _=>True
 |_=>False
structure bX(ρ:List Addr)(H:Hp)(ρ':List Addr)(H':Hp):Prop where
 pre:ρ <+: ρ'
 new:∀a∈ρ',a∈ρ\/H a=none
 keep:∀a o,H a=some o->a∉ρ\/N3 o->H' a=some o
 grow:∀a,H' a=none->H a=none
def bX.refl:bX ρ H ρ H:=⟨List.prefix_refl _,λ_ h=>.inl h,λ_ _ h _=>h,λ_ h=>h⟩
def bX.trans{b d:List Addr}{H1 H2:Hp}(e:bX ρ H b H1)(f:bX b H1 d H2):bX ρ H d H2 where
 pre:=e.pre.trans f.pre
 new:=λa h=>(f.new a h).elim (λh=>e.new a h) λh=>.inr (e.grow a h)
 keep:=λa o h c=>f.keep a o (e.keep a o h c) (c.imp (λn m=>(e.new a m).elim n λz=>by rw[z] at h;cases h) id)
 grow:=λa h=>e.grow a (f.grow a h)
def bX.laid{a:Addr}{o:HO}(h:H a=none):bX ρ H ρ (upd H a o) where
 pre:=List.prefix_refl _
 new:=λ_ h=>.inl h
 keep:=λb c e _=>by rw[bf];exact e;intro z;subst z;rw[h] at e;cases e
 grow:=λb e=>by
  by_cases z:b=a
  ·subst z;exact h
  ·rw[bf z] at e;exact e
theorem jd{α:Type}:∀{l:List α},l.Nodup->∀{i j:Nat} {a:α},l[i]?=some a->l[j]?=some a->i=j
 | [],_,_,_,_,h,_=>by simp at h
 |x::l,n,0,0,_,_,_=>rfl
 | x::l,n,0,j+1,a,h1,h2=>by
   rw[List.nodup_cons] at n
   simp at h1 h2
   subst h1
   exact absurd (mQg h2) n.1
 | x::l,n,i+1,0,a,h1,h2=>by
   rw[List.nodup_cons] at n
   simp at h1 h2
   subst h2
   exact absurd (mQg h1) n.1
 | x::l,n,i+1,j+1,a,h1,h2=>by
   rw[List.nodup_cons] at n
   simp at h1 h2
   exact congrArg (·+1) (jd n.2 h1 h2)
def cc{α e:Type}{a c:α}{b d:e}(h:some (a,b)=some (c,d)):a=c/\b=d:=by cases h;exact⟨rfl,rfl⟩
def dt{α:Type}{l b:List α}(h:l <+: b){k:Nat}{a:α}(e:l[k]?=some a):b[k]?=some a:=by
 obtain⟨t,rfl⟩:=h
 rw[QHq (gQs.mp e).1]
 exact e
mutual
theorem Rel.ext(e:bX ρ H ρ' H'):∀{d:D} {v:V},Rel M ρ H d v->Rel M ρ' H' d v
 |_,_,.non=>.non
 |_,_,.bl b=>.bl b
 |_,_,.int i=>.int i
 |_,_,.str x=>.str x
 |_,_,.tup h hs=>.tup (e.keep _ _ h (.inr trivial)) (a7.ext e hs)
 |_,_,.ref h=>.ref (dt e.pre h)
 |_,_,.fn h=>.fn h
theorem a7.ext(e:bX ρ H ρ' H'):∀{ds:List D} {vs:List V},a7 M ρ H ds vs->a7 M ρ' H' ds vs
 |_,_,.nil=>.nil
 |_,_,.cons h hs=>.cons (Rel.ext e h) (a7.ext e hs)
end
mutual
theorem Rel.pre(e:ρ <+: ρ'):∀{d:D} {v:V},Rel M ρ H d v->Rel M ρ' H d v
 |_,_,.non=>.non
 |_,_,.bl b=>.bl b
 |_,_,.int i=>.int i
 |_,_,.str x=>.str x
 |_,_,.tup h hs=>.tup h (a7.pre e hs)
 |_,_,.ref h=>.ref (dt e h)
 |_,_,.fn h=>.fn h
theorem a7.pre(e:ρ <+: ρ'):∀{ds:List D} {vs:List V},a7 M ρ H ds vs->a7 M ρ' H ds vs
 |_,_,.nil=>.nil
 |_,_,.cons h hs=>.cons (Rel.pre e h) (a7.pre e hs)
end
theorem a7.length:∀{ds:List D} {vs:List V},a7 M ρ H ds vs->ds.length=vs.length
 |_,_,.nil=>rfl
 |_,_,.cons _ h=>congrArg (·+1) h.length
theorem a7.append:∀{ds a:List D} {vs ws:List V},a7 M ρ H ds vs->a7 M ρ H a ws->a7 M ρ H (ds++a) (vs++ws)
 |_,_,_,_,.nil,h=>h
 |_,_,_,_,.cons h hs,h'=>.cons h (hs.append h')
theorem a7.get:∀{ds:List D} {vs:List V} {i:Nat} {d:D},a7 M ρ H ds vs->ds[i]?=some d->∃v,vs[i]?=some v/\Rel M ρ H d v
 |_,_,0,_,.cons h _,e=>by cases e;exact⟨_,rfl,h⟩
 |_,_,i+1,_,.cons _ hs,e=>hs.get (i:=i) (by simpa using e)
 |_,_,_,_,.nil,e=>by simp at e
theorem a7.set{d:D}{v:V}(h:Rel M ρ H d v):∀{ds:List D} {vs:List V} (i:Nat),a7 M ρ H ds vs->a7 M ρ H (ds.set i d) (vs.set i v)
 |_,_,_,.nil=>.nil
 |_,_,0,.cons _ t=>.cons h t
 |_,_,i+1,.cons q t=>.cons q (a7.set h i t)
theorem a7.take:∀{ds:List D} {vs:List V} (n:Nat),a7 M ρ H ds vs->a7 M ρ H (ds.take n) (vs.take n)
 |_,_,0,_=>.nil
 |_,_,_+1,.nil=>.nil
 |_,_,n+1,.cons h hs=>.cons h (hs.take n)
theorem a7.drop:∀{ds:List D} {vs:List V} (n:Nat),a7 M ρ H ds vs->a7 M ρ H (ds.drop n) (vs.drop n)
 |_,_,0,h=>h
 |_,_,_+1,.nil=>.nil
 |_,_,n+1,.cons _ hs=>hs.drop n
theorem a7.rep{ds:List D}{vs:List V}(h:a7 M ρ H ds vs):∀k:Nat,a7 M ρ H (List.replicate k ds).flatten (List.replicate k vs).flatten
 |0=>.nil
 |k+1=>by rw[QNq,QNq,List.flatten_cons,List.flatten_cons];exact h.append (h.rep k)
def b_(M:Md)(ρ:List Addr)(H:Hp):List (Key×D)->List (Key×V)->Prop
 | [],kv=>kv= []
 |(k,d)::r,kv=>∃v t,kv=(k,v)::t/\Rel M ρ H d v/\b_ M ρ H r t
theorem b_.imp{ρ':List Addr}{H':Hp}(f:∀d v,Rel M ρ H d v->Rel M ρ' H' d v):∀{l:List (Key×D)} {kv:List (Key×V)},b_ M ρ H l kv->b_ M ρ' H' l kv
 | [],_,h=>h
 |(_,_)::_,_,⟨v,t,e,h,hs⟩=>⟨v,t,e,f _ _ h,b_.imp f hs⟩
theorem b_.length:∀{l:List (Key×D)} {kv:List (Key×V)},b_ M ρ H l kv->l.length=kv.length
 | [],_,h=>by cases h;rfl
 |(_,_)::_,_,⟨v,t,e,h,hs⟩=>by subst e;exact congrArg (·+1) hs.length
def oB(M:Md)(ρ:List Addr)(H:Hp)(a:Addr):O->Prop
 |.lst d=>∃b,H a=some (.lst b)/\a7 M ρ H d b
 |.frz d=>∃b o,H a=some (.frz o (.lst b))/\a7 M ρ H d b
 |.dct c=>∃e,H a=some (.dK e)/\b_ M ρ H c e
structure fM(M:Md)(ρ:List Addr)(S:aC)(H:Hp):Prop where
 len:ρ.length=S.length
 nd:ρ.Nodup
 obj:∀(k:Nat) (a:Addr) (o:O),ρ[k]?=some a->S[k]?=some o->oB M ρ H a o
def oB.lay{a b:Addr}{o:O}{u:HO}(h:oB M ρ H a o)(i:H b=none):oB M ρ (upd H b u) a o:=by
 have e:bX ρ H ρ (upd H b u):=bX.laid i
 have f:∀{x},H a=some x->upd H b u a=some x:=λ{x} h=>by rw[bf];exact h;intro z;subst z;rw[i] at h;cases h
 cases o with
 |lst k=>obtain⟨g,d,c⟩:=h;exact⟨g,f d,c.ext e⟩
 |frz k=>obtain⟨g,o,d,c⟩:=h;exact⟨g,o,f d,c.ext e⟩
 |dct j=>obtain⟨l,d,c⟩:=h;exact⟨l,f d,c.imp λ_ _ r=>r.ext e⟩
def fM.lay{S:aC}{b:Addr}{u:HO}(h:fM M ρ S H)(d:H b=none):fM M ρ S (upd H b u):=⟨h.len,h.nd,λk a o e c=>(h.obj k a o e c).lay d⟩
theorem oB.pre{a:Addr}{o:O}(e:ρ <+: ρ')(h:oB M ρ H a o):oB M ρ' H a o:=by
 cases o with
 |lst g=>obtain⟨d,c,b⟩:=h;exact⟨d,c,b.pre e⟩
 |frz g=>obtain⟨d,o,c,b⟩:=h;exact⟨d,o,c,b.pre e⟩
 |dct f=>obtain⟨i,c,b⟩:=h;exact⟨i,c,b.imp λ_ _ r=>r.pre e⟩
def fM.box{S:aC}{a:Addr}{o:O}(h:fM M ρ S H)(l:a∉ρ)(g:oB M (ρ++ [a]) H a o):fM M (ρ++ [a]) (S++ [o]) H where
 len:=by rw[lQa,lQa,h.len];rfl
 nd:=by rw[List.nodup_append];exact⟨h.nd,by simp,λx i y f=>by rw[Qfq] at f;subst f;exact λz=>l (z▸i)⟩
 obj:=λk b u d e=>by
  by_cases c:k<ρ.length
  ·rw[QHq c] at d
   rw[QHq (h.len▸c)] at e
   exact(h.obj k b u d e).pre (List.prefix_append _ _)
  ·have c:ρ.length<=k:=Nat.le_of_not_lt c
   rw[QQq c] at d
   rw[QQq (h.len▸c)] at e
   have z:k-ρ.length=0:=by
    have:=(gQs.mp d).1
    simp at this
    omega
   have j:k-S.length=0:=by rw[←h.len];exact z
   rw[z] at d
   rw[j] at e
   cases d
   cases e
   exact g
def fM.put{S:aC}{k:Nat}{a:Addr}{o o':O}{u:HO}(h:fM M ρ S H)(i:ρ[k]?=some a)(K:S[k]?=some o)(C:oB M ρ (upd H a u) a o')(A:∀x,H a=some x->¬N3 x):fM M ρ (S.set k o') (upd H a u)/\bX ρ H ρ (upd H a u):=by
 have J:a∈ρ:=mQg i
 have e:bX ρ H ρ (upd H a u):=by
  refine⟨List.prefix_refl _,λ_ h=>.inl h,λb x w c=> ?_,λb m=> ?_⟩
  ·rw[bf]
   ·exact w
   ·intro z
    subst z
    exact c.elim (λn=>n J) λG=>A _ w G
  ·by_cases z:b=a
   ·subst z;rw[bI] at m;cases m
   ·rw[bf z] at m;exact m
 refine⟨⟨by rw[List.length_set];exact h.len,h.nd,λj b p d l=> ?_⟩,e⟩
 by_cases c:j=k
 ·subst c
  rw[i] at d
  cases d
  rw[Qyq (gQs.mp K).1] at l
  cases l
  exact C
 ·rw[QKq (Ne.symm c)] at l
  have t:b≠a:=by
   intro z
   subst z
   have y:=(gQs.mp d)
   have v:=(gQs.mp i)
   obtain⟨y,L⟩:=y
   obtain⟨v,N⟩:=v
   exact c (jd h.nd d i)
  have q:=h.obj j b p d l
  cases p with
  |lst I=>obtain⟨s,f,g⟩:=q;exact⟨s,by rw[bf t];exact f,g.ext e⟩
  |frz I=>obtain⟨s,o,f,g⟩:=q;exact⟨s,o,by rw[bf t];exact f,g.ext e⟩
  |dct B=>obtain⟨F,f,g⟩:=q;exact⟨F,by rw[bf t];exact f,g.imp λ_ _ r=>r.ext e⟩
end
structure En(M:Md)(ρ:List Addr)(H:Hp)(Γ:cv)(σ:L2.St):Prop where
 len:σ.length=Γ.length
 get:∀(i:Nat) (d:D),Γ[i]?=some (some d)->∃v,σ[i]?=some (some v)/\Rel M ρ H d v
def En.ext{M:Md}{ρ a:List Addr}{H c:Hp}{f:cv}{b:L2.St}(h:En M ρ H f b)(e:bX ρ H a c):En M a c f b:=⟨h.len,λi d q=>by obtain⟨v,j,g⟩:=h.get i d q;exact⟨v,j,g.ext e⟩⟩
def En.set{M:Md}{ρ:List Addr}{H:Hp}{a:cv}{b:L2.St}{i:Nat}{d:D}{v:V}(h:En M ρ H a b)(r:Rel M ρ H d v):En M ρ H (a.set i (some d)) (b.set i (some v)) where
 len:=by rw[List.length_set,List.length_set];exact h.len
 get:=λj e q=>by
  by_cases c:i=j
  ·subst c
   have l:i<a.length:=by
    have:=(gQs.mp q).1
    rwa [List.length_set] at this
   rw[Qyq l] at q
   cases q
   exact⟨v,Qyq (h.len▸l),r⟩
  ·rw[QKq c] at q⊢
   exact h.get j e q
structure Ok(M:Md)(ρ:List Addr)(Γ:cv)(S:aC)(σ:L2.St)(H:Hp):Prop where
 en:En M ρ H Γ σ
 st:fM M ρ S H
def Ok.to{M:Md}{ρ a:List Addr}{d:cv}{S f:aC}{c:L2.St}{H b:Hp}(h:Ok M ρ d S c H)(e:bX ρ H a b)(s:fM M a f b):Ok M a d f c b:=⟨h.en.ext e,s⟩
abbrev bx:=cv->aC->Option (D×aC)
abbrev fN:=cv->aC->Option (List D×aC)
abbrev jA:=cv->aC->Option (Bool×aC)
def tD(M:Md)(f:bx):TE:=λh H Q=>∃c e S d g,Ok M c e S h H/\f e S=some (d,g)/\∀a v b,bX c H a b->fM M a g b->Rel M a b d v->Q v b
def tL(M:Md)(f:fN):TE:=λj H Q=>∃d h S e i,Ok M d h S j H/\f h S=some (e,i)∧
 ∀b a g c,bX d H b c->fM M b i c->H a=none->a∉b->c a=some (.lst g)->a7 M b c e g->Q (.ref a) c
def yC(M:Md)(f:fN):TA:=λi H Q=>∃c g S d h,Ok M c g S i H/\f g S=some (d,h)/\∀a e b,bX c H a b->fM M a h b->a7 M a b d e->Q e b
def tB(M:Md)(f:jA):TT:=λh H Q=>∃d e S b g,Ok M d e S h H/\f e S=some (b,g)/\∀a c,bX d H a c->fM M a g c->Q b c
section
variable{X:Cx}
abbrev md(X:Cx):Md:=⟨X.K,X.mg⟩
def km{e:Expr}{t t':TE}(h:PE X e t)(w:∀b H Q,t' b H Q->t b H Q):PE X e t':=λa s b H Q I q=>h a s b H Q I (w _ _ _ q)
def Mv{e:Expr}{t t':TT}(h:PT X e t)(w:∀b H Q,t' b H Q->t b H Q):PT X e t':=λa s b H Q I q=>h a s b H Q I (w _ _ _ q)
def Ol{e:Expr}{t t':TT}(h:PW X e t)(w:∀b H Q,t' b H Q->t b H Q):PW X e t':=λc a s b H Q I q=>h c a s b H Q I (w _ _ _ q)
def NP{d:List Expr}{t t':TA}(h:PA X d t)(w:∀b H Q,t' b H Q->t b H Q):PA X d t':=λc a s b H Q I q=>h c a s b H Q I (w _ _ _ q)
def Dm{e:Stmt}{t t':TS}(h:PS X e t)(w:∀D b H,t' D b H->t D b H):PS X e t':=λa s b H D I q=>h a s b H D I (w _ _ _ q)
def Li{e:List Stmt}{t t':TS}(h:uF X e t)(w:∀D b H,t' D b H->t D b H):uF X e t':=λa s b H D I q=>h a s b H D I (w _ _ _ q)
noncomputable def av(i:Nat):bx:=λa S=>match a[i]? with
 |some (some d)=>some (d,S)
 |_=>none
def Dg{i:Nat}{a:cv}{S:aC}{d:D}{b:aC}(h:av i a S=some (d,b)):a[i]?=some (some d)/\b=S:=by
 unfold av at h
 split at h
 ·cases h;exact⟨by assumption,rfl⟩
 ·cases h
def LG{e:Expr}{i:Nat}(h:PE X e (J9 i)):PE X e (tD (md X) (av i)):=km h λj H Q c=>by
 obtain⟨a,l,S,d,k,ok,e,q⟩:=c
 obtain⟨g,rfl⟩:=Dg e
 obtain⟨v,f,b⟩:=ok.en.get i d g
 exact⟨v,f,q a v H bX.refl ok.st b⟩
noncomputable def cF(d:D):bx:=λ_ S=>some (d,S)
def ka{e:Expr}{v:V}{d:D}(h:PE X e (tC v))(r:∀ρ H,Rel (md X) ρ H d v):PE X e (tD (md X) (cF d)):=km h λc H Q a=>by
 obtain⟨ρ,g,S,b,f,ok,e,q⟩:=a
 cases e
 exact q ρ v H bX.refl ok.st (r _ _)
def bc{i:Int}{j pos}:PE X (.Constant (.int i) j pos) (tD (md X) (cF (.int i))):=ka Jn λ_ _=>.int i
def Ov{b:Bool}{j pos}:PE X (.Constant (.bool b) j pos) (tD (md X) (cF (.bl b))):=ka K8 λ_ _=>.bl b
def LC{j pos}:PE X (.Constant .none j pos) (tD (md X) (cF .non)):=ka IT λ_ _=>.non
def eK{x:Str}{j pos}:PE X (.Constant (.str x) j pos) (tD (md X) (cF (.str x))):=ka IU λ_ _=>.str x
def bC(f:fN):bx:=λc S=>(f c S).bind λ(b,a)=>some (.ref a.length,a++ [.lst b])
def fD{e:Expr}{f:fN}(h:PE X e (tL (md X) f)):PE X e (tD (md X) (bC f)):=km h λA H Q o=>by
 obtain⟨m,k,S,d,z,ok,e,q⟩:=o
 unfold bC at e
 cases j:f k S with
 |none=>rw[j] at e;cases e
 | some p=>
   obtain⟨u,v⟩:=p
   rw[j] at e
   obtain⟨rfl,rfl⟩:=cc e
   refine⟨m,k,S,u,v,ok,j,λg a r n x l y t s w=> ?_⟩
   have i:=w.pre (List.prefix_append g [a])
   refine q (g++ [a]) (.ref a) n ⟨x.pre.trans (List.prefix_append _ _),λb c=> ?_,x.keep,x.grow⟩ (l.box t ⟨r,s,i⟩) (.ref ?_)
   · rcases mQa.mp c with c|c
     · exact x.new b c
     · rw[Qfq] at c;subst c;exact .inr y
   · rw[←l.len,QQq (Qmq _)]
     simp
noncomputable def au:fN:=λ_ S=>some ([],S)
noncomputable def aq(f:bx)(g:fN):fN:=λa S=>(f a S).bind λ(d,b)=>(g a b).bind λ(c,e)=>some (d::c,e)
def ar{α c:Type}{o:Option α}{f:α->Option c}{b:c}(h:o.bind f=some b):∃a,o=some a/\f a=some b:=by
 cases o with
 |none=>cases h
 |some a=>exact⟨a,rfl,h⟩
def aW:PA X [] (yC (md X) au):=NP fJ λc H Q b=>by
 obtain⟨a,g,S,d,f,ok,e,q⟩:=b
 cases e
 exact q a [] H bX.refl ok.st .nil
def az{e:Expr}{a:List Expr}{f:bx}{g:fN}(u:PE X e (tD (md X) f))(o:PA X a (yC (md X) g))(B:starEach (e::a) X.env=(false,eval e X.env)::starEach a X.env:=by rfl):PA X (e::a) (yC (md X) (aq f g)):=
 NP (da u o B) λF H Q r=>by
  obtain⟨n,m,S,d,C,ok,e,q⟩:=r
  obtain⟨⟨x,j⟩,w,e⟩:=ar e
  obtain⟨⟨z,s⟩,y,e⟩:=ar e
  obtain⟨rfl,rfl⟩:=cc e
  refine⟨n,m,S,x,j,ok,w,λc v H1 k i p=>⟨c,m,j,z,s,ok.to k i,y,λh t H2 l b A=> ?_⟩⟩
  exact q h (v::t) H2 (k.trans l) b (.cons (p.ext l) A)
def aP(f:fN):bx:=λc S=>(f c S).bind λ(a,b)=>if a.length<=sizeLine then some (.tup a,b) else none
def eG{j:List Expr}{f:fN}{k pos}(h:PA X j (yC (md X) f)):PE X (.Tuple j k pos) (tD (md X) (aP f)):=km (Kh h) λw H Q m=>by
 obtain⟨l,t,S,d,u,ok,e,q⟩:=m
 obtain⟨⟨o,r⟩,n,e⟩:=ar e
 dsimp only at e
 split at e
 ·rename_i c
  obtain⟨rfl,rfl⟩:=cc e
  refine⟨l,t,S,o,r,ok,n,λb v H1 s g i=>⟨i.length▸c,λp a=> ?_⟩⟩
  exact q b (.ref p) _ (s.trans (bX.laid a)) (g.lay a) (.tup bI (i.ext (bX.laid a)))
 ·cases e
def bg(f:fN):fN:=λc S=>(f c S).bind λ(a,b)=>if a.length<=sizeLine then some (a,b) else none
def dg{M:Md}{ρ a:List Addr}{S:aC}{H b:Hp}{p:Addr}(x:bX ρ H a b)(st:fM M a S b)(c:b p=none):p∉a:=λm=>by
 obtain⟨k,g⟩:=List.getElem?_of_mem m
 have l:k<S.length:=st.len▸(gQs.mp g).1
 have:=st.obj k p _ g (gQe l)
 cases e:S[k] with
 |lst f=>rw[e] at this;obtain⟨d,h,_⟩:=this;rw[c] at h;cases h
 |frz f=>rw[e] at this;obtain⟨d,o,h,_⟩:=this;rw[c] at h;cases h
 |dct f=>rw[e] at this;obtain⟨d,h,_⟩:=this;rw[c] at h;cases h
def gM{k:List Expr}{f:fN}{pos}(h:PA X k (yC (md X) f)):PE X (.List k pos) (tL (md X) (bg f)):=km (IR h) λv H Q m=>by
 obtain⟨l,t,S,d,u,ok,e,q⟩:=m
 obtain⟨⟨r,s⟩,o,e⟩:=ar e
 dsimp only at e
 split at e
 ·rename_i c
  obtain⟨rfl,rfl⟩:=cc e
  refine⟨l,t,S,r,s,ok,o,λg n H1 i b j=>⟨j.length▸c,λp a=> ?_⟩⟩
  exact q g p n _ (i.trans (bX.laid a)) (b.lay a) (i.grow p a) (dg i b a) bI (j.ext (bX.laid a))
 ·cases e
end
section
variable{X:Cx}{a b c e:Expr}{pos:Pos}
def E7:i4 X (binaryOp .Add) (λx y H Q=>∃a b ys,x=.ref a/\y=.ref b/\gJ X.K H a []/\gJ X.K H b ys/\Q (.ref b) H):=by
 intro o s R H x y v u Q I G B h
 obtain⟨a,b,ys,rfl,rfl,ha,l,q⟩:=h
 cases G
 cases B
 obtain⟨N,C,M,_⟩:=I.tuple ha
 obtain⟨i,S,l,_⟩:=I.tuple l
 cases C
 obtain⟨⟨L,J,p,A⟩,t,z,n,w⟩:=id M
 obtain⟨⟨r,k,j,m⟩,g,d,P,f⟩:=id l
 simp only at z w d f
 subst z w d f
 exact concat_meets ⟨_,t,rfl⟩ ⟨_,g,rfl⟩ noFill_tuple_add seq_tuple_add PySem.F.slot_tuple_add PySem.F.entry_tuple_add (PySem.F.args_tuple_add_2 _ _)
   (tuple_addW0 a b _ i.toArray n P J k A m (by simp)) ⟨t,g,.ref b,H,I,rfl,q⟩
abbrev sL:=aC->D->D->Option D
def ki(M:Md)(r:R2)(o:sL):Prop:=∀{f:List Addr} {S:aC} {H:Hp} {x y d:D} {u v:V} {Q:VK},fM M f S H->Rel M f H x u->Rel M f H y v->o S x y=some d->(∀w g,bX f H f g->fM M f S g->Rel M f g d w->Q w g)->r u v H Q
noncomputable def aV(o:sL)(f g:bx):bx:=λi S=>(f i S).bind λ(x,j)=>(g i j).bind λ(y,h)=>(o h x y).bind λd=>some (d,h)
def qP{r:R2}{o:sL}{f g:bx}(L:ki (md X) r o)(h:PE X e (FV r (tD (md X) f) (tD (md X) g))):PE X e (tD (md X) (aV o f g)):=km h λR H Q A=>by
 obtain⟨u,t,S,d,N,ok,e,q⟩:=A
 obtain⟨⟨x,n⟩,G,e⟩:=ar e
 obtain⟨⟨y,C⟩,I,e⟩:=ar e
 obtain⟨P,J,e⟩:=ar e
 obtain⟨rfl,rfl⟩:=cc e
 refine⟨u,t,S,x,n,ok,G,λk v H1 p m z=>⟨k,t,n,y,C,ok.to p m,I,λl w H2 s j M=> ?_⟩⟩
 exact L j (z.ext s) M J λB H3 K i F=>q l B H3 ((p.trans s).trans K) i F
def bQ:sL:=λ_ x y=>match x,y with
 |.int i,.int j=>some (.int (i+j))
 |.str i,.str j=>if i.length+j.length<=sizeLine then some (.str (i++j)) else none
 |.tup i,.tup j=>if i.length+j.length<=sizeLine then some (.tup (i++j)) else none
 |_,_=>none
abbrev KR(K:PySem.W.Frag):R2:=λx y H Q=>(∃i j,x=.int i/\y=.int j/\Q (.int (i+j)) H)\/(∃i j,x=.str i/\y=.str j/\i.length+j.length<=sizeLine/\Q (.str (i++j)) H)∨
 (∃a b d,x=.ref a/\y=.ref b/\gJ K H a []/\gJ K H b d/\Q (.ref b) H)\/Ib K x y H Q
def Gx:i4 X (binaryOp .Add) (KR X.K):=Jj.or (Bj.or (E7.or GA))
def Ku{M:Md}:ki M (KR M.K) bQ:=by
 intro t S H x y d u v Q h o m e q
 cases o with
 |int i=>cases m <;>simp only[bQ,reduceCtorEq] at e;cases e;exact .inl ⟨_,_,rfl,rfl,q _ _ bX.refl h (.int _)⟩
 | str i=>
   cases m <;>simp only[bQ,reduceCtorEq] at e
   split at e <;>cases e
   exact .inr (.inl ⟨_,_,rfl,rfl,by assumption,q _ _ bX.refl h (.str _)⟩)
 | tup l g=>
   cases m with
   | tup n j=>
     simp only[bQ] at e
     split at e <;>cases e
     rename_i hl
     have s:=g.length
     have r:=j.length
     cases g with
     |nil=>exact .inr (.inr (.inl ⟨_,_,_,rfl,rfl,gJ.of l,gJ.of n,q _ _ bX.refl h (.tup n j)⟩))
     | cons g f=>
       refine .inr (.inr (.inr ⟨_,_,_,_,rfl,rfl,gJ.of l,gJ.of n,by simp,by rw[←s,←r];exact hl,λz=> ?_,λz p k=> ?_⟩))
       · subst z
         cases j
         rw[List.append_nil] at q
         exact q _ _ bX.refl h (.tup l (.cons g f))
       · exact q _ _ (bX.laid k) (h.lay k) (.tup bI ((a7.append (.cons g f) j).ext (bX.laid k)))
   |_=>simp only[bQ,reduceCtorEq] at e
 |_=>simp only[bQ,reduceCtorEq] at e
def n_{f g:bx}(d:PE X a (tD (md X) f))(h:PE X b (tD (md X) g)):PE X (.BinOp a .Add b pos) (tD (md X) (aV bQ f g)):=qP Ku (qZ Gx d h)
def intD(C:Int->Int->Prop)[∀i j,Decidable (C i j)](k:Int->Int->D):sL:=λ_ x y=>match x,y with
 |.int i,.int j=>if C i j then some (k i j) else none
 |_,_=>none
def yj{M:Md}{C:Int->Int->Prop}[∀i j,Decidable (C i j)]{k:Int->Int->D}{g:Int->Int->V}(h:∀i j ρ H,Rel M ρ H (k i j) (g i j)):ki M (rI C g) (intD C k):=by
 intro ρ S H x y d u v Q m f l e q
 cases f <;>cases l <;>simp only[intD,reduceCtorEq] at e
 split at e <;>cases e
 exact⟨_,_,rfl,rfl,by assumption,q _ _ bX.refl m (h _ _ _ _)⟩
def nU{M:Md}{k:Int->Int->D}{g:Int->Int->V}(h:∀i j ρ H,Rel M ρ H (k i j) (g i j)):ki M (DS g) (intD (λ_ _=>True) k):=by
 intro ρ S H x y d u v Q m f l e q
 cases f <;>cases l <;>simp only[intD,reduceCtorEq] at e
 rw[Qhq trivial] at e
 cases e
 exact⟨_,_,rfl,rfl,q _ _ bX.refl m (h _ _ _ _)⟩
instance{i j:Int}:Decidable (EK i j):=by unfold EK;infer_instance
instance{i j:Int}:Decidable (F4 i j):=by unfold F4;infer_instance
open Classical in
noncomputable instance{i j:Int}:Decidable (IntMulOk i j):=Classical.propDecidable _
abbrev mU:sL:=intD (λ_ _=>True) λi j=>.int (i-j)
noncomputable abbrev oO:sL:=intD IntMulOk λi j=>.int (i*j)
abbrev pw:sL:=intD (λ_ j=>0<j) λi j=>.int (i%j)
abbrev wa:sL:=intD EK λi j=>.int (i/j)
abbrev E6:sL:=intD F4 λi j=>.int (i^j.toNat)
def NV{f g:bx}(d:PE X a (tD (md X) f))(h:PE X b (tD (md X) g)):PE X (.BinOp a .Sub b pos) (tD (md X) (aV mU f g)):=qP (nU λi j _ _=>.int _) (qZ Jx d h)
def Ia{f g:bx}(d:PE X a (tD (md X) f))(h:PE X b (tD (md X) g)):PE X (.BinOp a .Mult b pos) (tD (md X) (aV oO f g)):=qP (yj λi j _ _=>.int _) (qZ GR d h)
def H_{f g:bx}(d:PE X a (tD (md X) f))(h:PE X b (tD (md X) g)):PE X (.BinOp a .Mod b pos) (tD (md X) (aV pw f g)):=qP (yj λi j _ _=>.int _) (qZ JS d h)
def MU{f g:bx}(d:PE X a (tD (md X) f))(h:PE X b (tD (md X) g)):PE X (.BinOp a .FloorDiv b pos) (tD (md X) (aV wa f g)):=qP (yj λi j _ _=>.int _) (qZ G0 d h)
def Oc{f g:bx}(d:PE X a (tD (md X) f))(h:PE X b (tD (md X) g)):PE X (.BinOp a .Pow b pos) (tD (md X) (aV E6 f g)):=qP (yj λi j _ _=>.int _) (qZ J4 d h)
def rL(f:bx):bx:=λh S=>(f h S).bind λ(d,g)=>match d with
 |.int i=>some (.int (-i),g)
 |_=>none
def N_{f:bx}(k:PE X a (tD (md X) f)):PE X (.UnaryOp .USub a pos) (tD (md X) (rL f)):=km (Ls Jr k) λs H Q j=>by
 obtain⟨h,p,S,d,r,ok,e,q⟩:=j
 obtain⟨⟨x,n⟩,l,e⟩:=ar e
 dsimp only at e
 split at e
 ·obtain⟨rfl,rfl⟩:=cc e
  refine⟨h,p,S,_,n,ok,l,λm v H1 o g i=> ?_⟩
  cases i
  exact⟨_,rfl,q _ _ _ o g (.int _)⟩
 ·cases e
def uM:D->Option V
 |.non=>some .non
 |.bl b=>some (.bl b)
 |.int i=>some (.int i)
 |.str x=>some (.str x)
 |_=>none
def lJ{M:Md}{ρ:List Addr}{H:Hp}{d:D}{u v:V}(r:Rel M ρ H d u)(e:uM d=some v):u=v:=by
 cases r <;>simp[uM] at e <;>exact e
def eI(d:Bool):sL:=λ_ x y=>match uM x,uM y with
 |some u,some v=>if AU u v=true then some (.bl (if d then !decide (u=v) else decide (u=v))) else none
 |_,_=>none
def zE{f:Bool}{S:aC}{x y d:D}(e:eI f S x y=some d):∃u v,uM x=some u/\uM y=some v/\AU u v=true/\d=.bl (if f then !decide (u=v) else decide (u=v)):=by
 unfold eI at e
 split at e
 ·split at e <;>cases e
  exact⟨_,_,by assumption,by assumption,by assumption,rfl⟩
 ·cases e
def zx{M:Md}:ki M N2 (eI false):=by
 intro l S H x y d u v Q k f i e q
 obtain⟨m,n,g,h,j,rfl⟩:=zE e
 cases lJ f g
 cases lJ i h
 exact⟨j,q _ _ bX.refl k (.bl _)⟩
def Oh{M:Md}:ki M Oa (eI true):=by
 intro l S H x y d u v Q k f i e q
 obtain⟨m,n,g,h,j,rfl⟩:=zE e
 cases lJ f g
 cases lJ i h
 exact⟨j,q _ _ bX.refl k (.bl _)⟩
abbrev DF:sL:=intD (λ_ _=>True) λi j=>.bl (decide (i<j))
abbrev Ny:sL:=intD (λ_ _=>True) λi j=>.bl (decide (i<=j))
abbrev Il:sL:=intD (λ_ _=>True) λi j=>.bl (decide (j<i))
abbrev Nj:sL:=intD (λ_ _=>True) λi j=>.bl (decide (j<=i))
def Fx{M:Md}:ki M (DS λi j=>.bl (decide (i<j))) DF:=nU λi j _ _=>.bl _
def NR{M:Md}:ki M (DS λi j=>.bl (decide (i<=j))) Ny:=nU λi j _ _=>.bl _
def NW{M:Md}:ki M (DS λi j=>.bl (decide (j<i))) Il:=nU λi j _ _=>.bl _
def Of{M:Md}:ki M (DS λi j=>.bl (decide (j<=i))) Nj:=nU λi j _ _=>.bl _
def isNone:D->Bool
 |.non=>true
 |_=>false
def A4(d:Bool):sL:=λ_ x y=>match y with
 |.non=>some (.bl (if d then !isNone x else isNone x))
 |_=>none
def vF{M:Md}{ρ:List Addr}{H:Hp}{d:D}{u:V}(r:Rel M ρ H d u):decide (u=V.non)=isNone d:=by
 cases r <;>simp[isNone]
def NB{M:Md}:ki M (λx y H Q=>y=.non/\Q (.bl (decide (x=.non))) H) (A4 false):=by
 intro i S H x y d u v Q h g f e q
 cases f <;>simp only[A4,reduceCtorEq] at e
 cases e
 rw[vF g]
 exact⟨rfl,q _ _ bX.refl h (.bl _)⟩
def MC{M:Md}:ki M (λx y H Q=>y=.non/\Q (.bl (!decide (x=.non))) H) (A4 true):=by
 intro i S H x y d u v Q h g f e q
 cases f <;>simp only[A4,reduceCtorEq] at e
 cases e
 rw[vF g]
 exact⟨rfl,q _ _ bX.refl h (.bl _)⟩
def N4{d:CmpOp}{r:R2}{o:sL}{f g:bx}(j:i4 X (compareOp d) r)(h:ki (md X) r o)(k:PE X a (tD (md X) f))(l:PE X b (tD (md X) g))(i:behindInMarks d b=false):PE X (.Compare a [d] [b] pos) (tD (md X) (aV o f g)):=qP h (B3 j k l i)
noncomputable def aF(f:bx):jA:=λh S=>(f h S).bind λ(d,g)=>match d with
 |.bl k=>some (k,g)
 |_=>none
def sA{f:bx}{g:cv}{S h:aC}{k:Bool}(e:aF f g S=some (k,h)):f g S=some (.bl k,h):=by
 obtain⟨⟨d,j⟩,i,e⟩:=ar e
 dsimp only at e
 split at e
 ·cases e;exact i
 ·cases e
def K3{r:R2}{o:sL}{f g:bx}(K:ki (md X) r o)(h:PT X e (Fw (FV r (tD (md X) f) (tD (md X) g)))):PT X e (tB (md X) (aF (aV o f g))):=Mv h λR H Q A=>by
 obtain⟨u,t,S,d,M,ok,e,q⟩:=A
 have e:=sA e
 obtain⟨⟨x,n⟩,F,e⟩:=ar e
 obtain⟨⟨y,B⟩,G,e⟩:=ar e
 obtain⟨P,I,e⟩:=ar e
 obtain⟨rfl,rfl⟩:=cc e
 refine⟨u,t,S,x,n,ok,F,λk v H1 p m z=>⟨k,t,n,y,B,ok.to p m,G,λl w H2 s j L=> ?_⟩⟩
 exact K j (z.ext s) L I λN H3 J i C=>by cases C;exact⟨_,rfl,q l H3 ((p.trans s).trans J) i⟩
def kU{d:CmpOp}{r:R2}{o:sL}{f g:bx}(j:i4 X (compareOp d) r)(h:ki (md X) r o)(k:PE X a (tD (md X) f))(l:PE X b (tD (md X) g))(i:behindInMarks d b=false):PT X (.Compare a [d] [b] pos) (tB (md X) (aF (aV o f g))):=K3 h (iH j k l i)
def BD(S:aC):D->Option Bool
 |.non=>some false
 |.bl b=>some b
 |.int i=>some (i !=0)
 |.str y=>if y.length<=sizeLine then some ((y.length:Int) !=0) else none
 |.tup d=>some (!d.isEmpty)
 | .ref k=>match S[k]? with
   |some (.lst d)=>some (!d.isEmpty)
   |some (.dct d)=>some (!d.isEmpty)
   |_=>none
 |.fn _=>none
def a7.isEmpty{M:Md}{ρ:List Addr}{H:Hp}{ds:List D}{vs:List V}(h:a7 M ρ H ds vs):ds.isEmpty=vs.isEmpty:=by cases h <;>rfl
theorem b_.isEmpty{M:Md}{ρ:List Addr}{H:Hp}{ds:List (Key×D)}{vs:List (Key×V)}(h:b_ M ρ H ds vs):ds.isEmpty=vs.isEmpty:=by
 cases ds with
 |nil=>cases h;rfl
 |cons p r=>obtain⟨v,t,e,_⟩:=h;subst e;rfl
def GZ{M:Md}{ρ:List Addr}{S:aC}{H:Hp}{d:D}{u:V}{k:Bool}(st:fM M ρ S H)(r:Rel M ρ H d u)(e:BD S d=some k):Jd M.K u H k:=by
 cases r with
 |non=>cases e;rfl
 |bl=>cases e;rfl
 |int=>cases e;rfl
 |str=>simp only[BD] at e;split at e <;>cases e;exact⟨by assumption,rfl⟩
 |tup h j=>cases e;exact .inr (.inl ⟨_,gJ.of h,by rw[j.isEmpty]⟩)
 |fn=>cases e
 | ref h=>
   simp only[BD] at e
   split at e
   · cases e
     obtain⟨g,i,f⟩:=st.obj _ _ _ h (by assumption)
     exact .inl ⟨g,g6.of i,by rw[f.isEmpty]⟩
   · cases e
     obtain⟨g,i,f⟩:=st.obj _ _ _ h (by assumption)
     exact .inr (.inr ⟨g,i,by rw[f.isEmpty]⟩)
   · cases e
def rK(f:bx):jA:=λh S=>(f h S).bind λ(d,g)=>(BD g d).bind λk=>some (k,g)
def Om{f:bx}(l:PE X a (tD (md X) f))(he:∀d,isTrue a X.env d=(do let v←d;standAt a.pos;holding [v] (truthy v)):=by intro _;rfl):PT X a (tB (md X) (rK f)):=Mv (FD l he) λw H Q j=>by
 obtain⟨h,t,S,k,u,ok,e,q⟩:=j
 obtain⟨⟨x,r⟩,n,e⟩:=ar e
 obtain⟨m,o,e⟩:=ar e
 obtain⟨rfl,rfl⟩:=cc e
 exact⟨h,t,S,x,r,ok,n,λp v H1 s g i=>⟨m,GZ g i o,q _ _ s g⟩⟩
def Dz(f:jA):jA:=λg S=>(f g S).bind λ(k,d)=>some (!k,d)
def NS{f:jA}(i:PT X a (tB (md X) f)):PT X (.UnaryOp .Not a pos) (tB (md X) (Dz f)):=Mv (II i) λs H Q h=>by
 obtain⟨g,p,S,k,r,ok,e,q⟩:=h
 obtain⟨⟨o,m⟩,j,e⟩:=ar e
 obtain⟨rfl,rfl⟩:=cc e
 exact⟨g,p,S,o,m,ok,j,λl H1 n d=>q _ _ n d⟩
def gq(f g:jA):jA:=λh S=>(f h S).bind λ(k,d)=>if k=true then g h d else some (false,d)
def Ic(f g:jA):jA:=λh S=>(f h S).bind λ(k,d)=>if k=true then some (true,d) else g h d
def tj{f:jA}(d:PT X a (tB (md X) f)):PW X (.BoolOp .And [a] pos) (tB (md X) f):=GV d
def NK{f:jA}(d:PT X a (tB (md X) f)):PW X (.BoolOp .Or [a] pos) (tB (md X) f):=JK d
def w_and{d:List Expr}{f g:jA}(s:PT X a (tB (md X) f))(w:PW X (.BoolOp .And (b::d) pos) (tB (md X) g)):PW X (.BoolOp .And (a::b::d) pos) (tB (md X) (gq f g)):=Ol (JE s w) λy H Q r=>by
 obtain⟨o,n,S,k,p,ok,e,q⟩:=r
 obtain⟨⟨v,m⟩,t,e⟩:=ar e
 refine⟨o,n,S,v,m,ok,t,λj H1 l h=> ?_⟩
 dsimp only at e
 split at e
 ·rename_i c
  rw[Qhq c]
  exact⟨j,n,m,k,p,ok.to l h,e,λu H2 x i=>q _ _ (l.trans x) i⟩
 ·rename_i c
  rw[Quq c]
  obtain⟨rfl,rfl⟩:=cc e
  exact q _ _ l h
def w_or{d:List Expr}{f g:jA}(s:PT X a (tB (md X) f))(w:PW X (.BoolOp .Or (b::d) pos) (tB (md X) g)):PW X (.BoolOp .Or (a::b::d) pos) (tB (md X) (Ic f g)):=Ol (LN s w) λy H Q r=>by
 obtain⟨o,n,S,k,p,ok,e,q⟩:=r
 obtain⟨⟨v,m⟩,t,e⟩:=ar e
 refine⟨o,n,S,v,m,ok,t,λj H1 l h=> ?_⟩
 dsimp only at e
 split at e
 ·rename_i c
  rw[Qhq c]
  obtain⟨rfl,rfl⟩:=cc e
  exact q _ _ l h
 ·rename_i c
  rw[Quq c]
  exact⟨j,n,m,k,p,ok.to l h,e,λu H2 x i=>q _ _ (l.trans x) i⟩
def C8(f g:bx):bx:=λi S=>(f i S).bind λ(d,h)=>match d with
 |.bl true=>g i h
 |.bl false=>some (.bl false,h)
 |_=>none
def NJ{op}{f:bx}(h:PE X a (tD (md X) f)):PE X (.BoolOp op [a] pos) (tD (md X) f):=IQ h
def N5{h:List Expr}{f g:bx}(t:PE X a (tD (md X) f))(z:PE X (.BoolOp .And (b::h) pos) (tD (md X) g)):PE X (.BoolOp .And (a::b::h) pos) (tD (md X) (C8 f g)):=km (IV t z) λC H Q s=>by
 obtain⟨p,o,S,d,r,ok,e,q⟩:=s
 obtain⟨⟨x,n⟩,u,e⟩:=ar e
 refine⟨p,o,S,x,n,ok,u,λk v H1 l i m=> ?_⟩
 dsimp only at e
 split at e
 ·cases m
  refine⟨_,rfl,?_⟩
  rw[Qhq rfl]
  exact⟨k,o,n,d,r,ok.to l i,e,λy w H2 A j B=>q _ _ _ (l.trans A) j B⟩
 ·cases m
  refine⟨_,rfl,?_⟩
  rw[Quq Qtq]
  obtain⟨rfl,rfl⟩:=cc e
  exact q _ _ _ l i (.bl _)
 ·cases e
def oh(c:jA)(f g:bx):bx:=λd S=>(c d S).bind λ(k,h)=>if k=true then f d h else g d h
def N7{h:jA}{f g:bx}(A:PT X c (tB (md X) h))(v:PE X a (tD (md X) f))(z:PE X b (tD (md X) g)):PE X (.IfExp c a b pos) (tD (md X) (oh h f g)):=km (Gc A v z) λB H Q u=>by
 obtain⟨t,r,S,d,s,ok,e,q⟩:=u
 obtain⟨⟨y,n⟩,x,e⟩:=ar e
 refine⟨t,r,S,y,n,ok,x,λj H1 l k=> ?_⟩
 dsimp only at e
 split at e
 ·rename_i c
  rw[Qhq c]
  exact⟨j,r,n,d,s,ok.to l k,e,λm w H2 o i p=>q _ _ _ (l.trans o) i p⟩
 ·rename_i c
  rw[Quq c]
  exact⟨j,r,n,d,s,ok.to l k,e,λm w H2 o i p=>q _ _ _ (l.trans o) i p⟩
def kf:sL:=λS x y=>match x,y with
 |.tup xs,.int i=>jw xs i
 |.str z,.int i=>if z.length<=sizeLine then(jw z.cps.toList i).map λc=>.str ⟨#[c]⟩ else none
 | .ref k,.int i=>match S[k]? with
   |some (.lst xs)=>jw xs i
   |some (.frz xs)=>jw xs i
   |_=>none
 |_,_=>none
def Hn{α f:Type}{xs:List α}{ys:List f}{i:Int}{x:α}(h:jw xs i=some x)(l:xs.length=ys.length):∃j:Nat,xs[j]?=some x/\∀y,ys[j]?=some y->jw ys i=some y:=by
 unfold jw at h
 obtain⟨j,e,h⟩:=ar h
 exact⟨j,h,λy d=>by unfold jw;rw[←l,e];exact d⟩
def a7.atI{M:Md}{ρ:List Addr}{H:Hp}{ds:List D}{vs:List V}{i:Int}{d:D}(h:a7 M ρ H ds vs)(e:L2.jw ds i=some d):∃v,L2.jw vs i=some v/\Rel M ρ H d v:=by
 obtain⟨j,l,f⟩:=Hn e h.length
 obtain⟨v,k,g⟩:=h.get l
 exact⟨v,f v k,g⟩
def Mb{M:Md}:ki M (NL M.K) kf:=by
 intro r S H x y d u v Q i l n e q
 cases n <;>cases l <;>simp only[kf,reduceCtorEq] at e
 ·split at e
  ·obtain⟨c,f,g⟩:=oQm.mp e
   subst g
   exact .inr (.inr ⟨_,_,c,rfl,rfl,by assumption,f,q _ _ bX.refl i (.str _)⟩)
  ·cases e
 ·rename_i h p
  obtain⟨v,f,g⟩:=p.atI e
  exact .inr (.inl ⟨_,_,_,v,rfl,rfl,gJ.of h,f,q _ _ bX.refl i g⟩)
 ·rename_i h
  split at e
  ·obtain⟨m,k,j⟩:=i.obj _ _ _ h (by assumption)
   obtain⟨v,f,g⟩:=j.atI e
   exact .inl ⟨_,_,_,v,rfl,rfl,g6.of k,f,q _ _ bX.refl i g⟩
  ·obtain⟨m,o,k,j⟩:=i.obj _ _ _ h (by assumption)
   obtain⟨v,f,g⟩:=j.atI e
   exact .inl ⟨_,_,_,v,rfl,rfl,.inl (.inr ⟨o,k⟩),f,q _ _ bX.refl i g⟩
  ·cases e
def er{f g:bx}(d:PE X a (tD (md X) f))(h:PE X b (tD (md X) g))(i:BP b:=by intro _ _;rfl):PE X (.Subscript a b pos) (tD (md X) (aV kf f g)):=qP Mb (LU JP d h i)
end
inductive Tag where
 |tu|fr|st (k:Nat)|fz (k:Nat)
def AQ(M:Md)(ρ:List Addr)(H:Hp)(a:Addr)(vs:List V):Tag->Prop
 |.tu=>gJ M.K H a vs
 |.fr=>H a=some (.lst vs)/\a∉ρ
 |.st k=>ρ[k]?=some a/\H a=some (.lst vs)
 |.fz k=>ρ[k]?=some a/\∃o,H a=some (.frz o (.lst vs))
abbrev dz:=cv->aC->Option ((List D×Tag)×aC)
def tQ(M:Md)(f:dz):TE:=λj H Q=>∃d h S e t i,Ok M d h S j H/\f h S=some ((e,t),i)∧
 ∀b a g c,bX d H b c->fM M b i c->AQ M b c a g t->a7 M b c e g->Q (.ref a) c
def AQ.sq{M:Md}{ρ:List Addr}{H:Hp}{a:Addr}{vs:List V}{t:Tag}(h:AQ M ρ H a vs t):g6 M.K H a vs\/gJ M.K H a vs:=by
 cases t with
 |tu=>exact .inr h
 |fr=>exact .inl (g6.of h.1)
 |st k=>exact .inl (g6.of h.2)
 |fz k=>obtain⟨_,o,h⟩:=h;exact .inl (.inl (.inr ⟨o,h⟩))
def Tag.isL:Tag->Bool
 |.tu=>false
 |_=>true
def Tag.isM:Tag->Bool
 |.fr=>true
 |.st _=>true
 |_=>false
def AQ.sqL{M:Md}{ρ:List Addr}{H:Hp}{a:Addr}{vs:List V}{t:Tag}(h:AQ M ρ H a vs t)(c:t.isL=true):g6 M.K H a vs:=by
 cases t with
 |tu=>cases c
 |fr=>exact g6.of h.1
 |st k=>exact g6.of h.2
 |fz k=>obtain⟨_,o,h⟩:=h;exact .inl (.inr ⟨o,h⟩)
def AQ.sqM{M:Md}{ρ:List Addr}{H:Hp}{a:Addr}{vs:List V}{t:Tag}(h:AQ M ρ H a vs t)(c:t.isM=true):H a=some (.lst vs):=by
 cases t with
 |tu=>cases c
 |fr=>exact h.1
 |st k=>exact h.2
 |fz k=>cases c
def AQ.sqT{M:Md}{ρ:List Addr}{H:Hp}{a:Addr}{vs:List V}{t:Tag}(h:AQ M ρ H a vs t)(c:t.isL=false):gJ M.K H a vs:=by
 cases t with
 |tu=>exact h
 |fr=>cases c
 |st k=>cases c
 |fz k=>cases c
def Tag.stays(S:aC)(ds:List D):Tag->Prop
 |.st k=>S[k]?=some (.lst ds)
 |.fz k=>S[k]?=some (.frz ds)
 |_=>True
def gJ.ext{K:PySem.W.Frag}{ρ b:List Addr}{H c:Hp}{a:Addr}{vs:List V}(e:bX ρ H b c)(h:gJ K H a vs):gJ K c a vs:=by
 rcases h with(h|⟨o,h⟩)|h
 ·exact .inl (.inl (e.keep _ _ h (.inr trivial)))
 ·exact .inl (.inr ⟨o,e.keep _ _ h (.inr trivial)⟩)
 ·exact .inr h
def AQ.to{M:Md}{ρ d:List Addr}{S:aC}{H i:Hp}{a:Addr}{vs:List V}{ds:List D}{t:Tag}(h:AQ M ρ H a vs t)(r:a7 M ρ H ds vs)(e:bX ρ H d i)(st:fM M d S i)(c:t.stays S ds):∃b,AQ M d i a b t/\a7 M d i ds b:=by
 cases t with
 |tu=>exact⟨vs,gJ.ext e h,r.ext e⟩
 |fr=>exact⟨vs,⟨e.keep _ _ h.1 (.inl h.2),λm=>(e.new a m).elim h.2 λz=>by have f:=h.1;rw[z] at f;cases f⟩,r.ext e⟩
 | st k=>
   have g:=dt e.pre h.1
   obtain⟨b,f,j⟩:=st.obj k a _ g c
   exact⟨b,⟨g,f⟩,j⟩
 | fz k=>
   have g:=dt e.pre h.1
   obtain⟨b,o,f,j⟩:=st.obj k a _ g c
   exact⟨b,⟨g,o,f⟩,j⟩
section
variable{X:Cx}{a b c e:Expr}{pos:Pos}
def gP(f:fN):dz:=λh S=>(f h S).bind λ(d,g)=>some ((d,.fr),g)
def Ng{f:fN}(h:PE X e (tL (md X) f)):PE X e (tQ (md X) (gP f)):=km h λz H Q i=>by
 obtain⟨g,r,S,y,t,v,ok,e,q⟩:=i
 obtain⟨⟨d,n⟩,l,e⟩:=ar e
 obtain⟨m,rfl⟩:=cc e
 obtain⟨rfl,rfl⟩:=Prod.mk.inj m
 exact⟨g,r,S,d,n,ok,l,λo a w u x s A k j p=>q _ _ _ _ x s ⟨j,k⟩ p⟩
def pZ(S:aC):D->Option (List D×Tag)
 |.tup d=>some (d,.tu)
 | .ref k=>match S[k]? with
   |some (.lst d)=>some (d,.st k)
   |some (.frz d)=>some (d,.fz k)
   |_=>none
 |_=>none
def aQ(f:bx):dz:=λh S=>(f h S).bind λ(d,g)=>(pZ g d).bind λp=>some (p,g)
def B0{M:Md}{ρ:List Addr}{S:aC}{H:Hp}{d:D}{v:V}{ds:List D}{t:Tag}(st:fM M ρ S H)(r:Rel M ρ H d v)(e:pZ S d=some (ds,t)):∃a vs,v=.ref a/\AQ M ρ H a vs t/\a7 M ρ H ds vs:=by
 cases r with
 |tup h i=>simp only[pZ] at e;cases e;exact⟨_,_,rfl,gJ.of h,i⟩
 | ref h=>
   simp only[pZ] at e
   split at e
   · rename_i q
     cases e
     obtain⟨vs,f,g⟩:=st.obj _ _ _ h q
     exact⟨_,vs,rfl,⟨h,f⟩,g⟩
   · rename_i q
     cases e
     obtain⟨vs,o,f,g⟩:=st.obj _ _ _ h q
     exact⟨_,vs,rfl,⟨h,o,f⟩,g⟩
   · cases e
 |_=>simp only[pZ,reduceCtorEq] at e
def uJ{f:bx}(h:PE X e (tD (md X) f)):PE X e (tQ (md X) (aQ f)):=km h λB H Q j=>by
 obtain⟨i,s,S,A,t,w,ok,e,q⟩:=j
 obtain⟨⟨d,o⟩,k,e⟩:=ar e
 obtain⟨⟨n,y⟩,l,e⟩:=ar e
 obtain⟨m,rfl⟩:=cc e
 obtain⟨rfl,rfl⟩:=Prod.mk.inj m
 refine⟨i,s,S,d,o,ok,k,λp v u x g r=> ?_⟩
 obtain⟨a,z,rfl,h1,h2⟩:=B0 g r l
 exact q _ _ _ _ x g h1 h2
def zJ{f:dz}{p:Pos}(l:Gl X "len")(o:X.mg "len"=none)(s:PE X a (tQ (md X) f))(k:starEach [a] X.env= [(false,eval a X.env)]:=by rfl):
  PE X (.Call (.Name "len" p) [a] [] pos) (tD (md X) λi S=>(f i S).bind λ(p,g)=>some (.int p.1.length,g)):=
 km (ju oD l o PySem.boot_len (da s fJ k) (he:=k)) λB H Q n=>by
  obtain⟨m,i,S,d,A,ok,e,q⟩:=n
  obtain⟨⟨⟨v,t⟩,g⟩,u,e⟩:=ar e
  obtain⟨rfl,rfl⟩:=cc e
  refine⟨m,i,S,v,t,g,ok,u,λw a j z x y h r=>⟨a,j,rfl,h.sq,?_⟩⟩
  have:=q _ (.int j.length) _ x y (by rw[←r.length];exact .int _)
  exact this
def gD(f:dz):bx:=λg S=>(f g S).bind λ(p,d)=>some (.int p.1.length,d)
def tupQ(f:dz):bx:=λg S=>(f g S).bind λ(p,d)=>some (.tup p.1,d)
def Ct{f:dz}{p:Pos}(m:Gl X "tuple")(u:X.mg "tuple"=none)(v:PE X a (tQ (md X) f))(k:starEach [a] X.env= [(false,eval a X.env)]:=by rfl)(ht:∀g S ds t i,f g S=some ((ds,t),i)->t.isL=true):
  PE X (.Call (.Name "tuple" p) [a] [] pos) (tD (md X) (tupQ f)):=
 km (vB uP m u (by rfl) (da v fJ k) (he:=k)) λB H Q o=>by
  obtain⟨n,g,S,d,i,ok,e,q⟩:=o
  obtain⟨⟨⟨ds,t⟩,w⟩,j,e⟩:=ar e
  obtain⟨rfl,rfl⟩:=cc e
  refine⟨n,g,S,ds,t,w,ok,j,λy a s A x z h r=>⟨a,s,rfl,.inl ⟨h.sqL (ht _ _ _ _ _ j),λl hl=> ?_⟩⟩⟩
  exact q _ _ _ (x.trans (bX.laid hl)) (z.lay hl) (.tup bI (r.ext (bX.laid hl)))
def My{f:fN}:∀d S ds t g,gP f d S=some ((ds,t),g)->t.isL=true:=λd S ds t g e=>by
 obtain⟨⟨h,i⟩,j,e⟩:=ar e
 cases e
 rfl
def f_(f:dz):dz:=λg S=>(f g S).bind λ(p,d)=>if p.2.isL=true then some (p,d) else none
def q5{f:dz}:∀d S ds t g,f_ f d S=some ((ds,t),g)->t.isL=true:=λd S ds t g e=>by
 obtain⟨⟨⟨h,j⟩,i⟩,k,e⟩:=ar e
 dsimp only at e
 split at e <;>cases e
 assumption
def Iw{f:dz}(h:PE X e (tQ (md X) f)):PE X e (tQ (md X) (f_ f)):=km h λo H Q m=>by
 obtain⟨i,l,S,p,t,r,ok,e,q⟩:=m
 obtain⟨⟨⟨d,k⟩,g⟩,n,e⟩:=ar e
 dsimp only at e
 split at e
 ·obtain⟨j,rfl⟩:=cc e
  obtain⟨rfl,rfl⟩:=Prod.mk.inj j
  exact⟨i,l,S,d,k,g,ok,n,q⟩
 ·cases e
def Bu{f:dz}{p:Pos}(m:Gl X "list")(u:X.mg "list"=none)(v:PE X a (tQ (md X) f))(j:starEach [a] X.env= [(false,eval a X.env)]:=by rfl):
  PE X (.Call (.Name "list" p) [a] [] pos) (tL (md X) λi S=>(f i S).bind λ(p,g)=>some (p.1,g)):=
 km (vB xX m u (by rfl) (da v fJ j) (he:=j)) λC H Q o=>by
  obtain⟨n,i,S,d,B,ok,e,q⟩:=o
  obtain⟨⟨⟨y,t⟩,g⟩,w,e⟩:=ar e
  obtain⟨rfl,rfl⟩:=cc e
  refine⟨n,i,S,y,t,g,ok,w,λz a s A x k h r=>⟨a,s,rfl,h.sq,λl hl=> ?_⟩⟩
  exact q _ _ _ _ (x.trans (bX.laid hl)) (k.lay hl) (x.grow _ hl) (dg x k hl) bI (r.ext (bX.laid hl))
def zU(f:dz):fN:=λg S=>(f g S).bind λ(p,d)=>some (p.1,d)
def IW:List D->Option (List Bool)
 | []=>some []
 |.bl b::r=>(IW r).bind λd=>some (b::d)
 |_::_=>none
theorem F6{M:Md}{ρ:List Addr}{H:Hp}:∀{ds:List D} {vs:List V} {bs:List Bool},a7 M ρ H ds vs->IW ds=some bs->vs=bs.map V.bl
 | [],_,_,h,e=>by cases h;cases e;rfl
 | d::ds,_,_,h,e=>by
   cases d with
   | bl b=>
     simp only[IW] at e
     obtain⟨f,i,e⟩:=ar e
     cases e
     cases h with
     | cons h g=>
       cases h
       rw[F6 g i]
       rfl
   |_=>cases e
def HW(f:dz):bx:=λh S=>(f h S).bind λ(p,g)=>if p.2.isL=true then(IW p.1).bind λd=>some (.bl (d.all id),g) else none
def NU{f:dz}{p:Pos}(z:X.calm=true)(i:Gl X "all")(l:X.mg "all"=none)(m:PE X a (tQ (md X) f))(g:starEach [a] X.env= [(false,eval a X.env)]:=by rfl):
  PE X (.Call (.Name "all" p) [a] [] pos) (tD (md X) (HW f)):=
 km (ju (Dy z) i l (by rfl) (da m fJ g) (he:=g)) λG H Q k=>by
  obtain⟨j,y,S,d,C,ok,e,q⟩:=k
  obtain⟨⟨⟨s,t⟩,v⟩,n,e⟩:=ar e
  dsimp only at e
  split at e
  ·rename_i c
   obtain⟨u,o,e⟩:=ar e
   obtain⟨rfl,rfl⟩:=cc e
   refine⟨j,y,S,s,t,v,ok,n,λw a F B x A h r=>⟨a,u,rfl,?_,q _ _ _ x A (.bl _)⟩⟩
   rw[←F6 r o]
   exact h.sqL c
  ·cases e
def Hs(S:aC)(T:String):D->Option Bool
 |.non=>some (T=="NoneType")
 |.bl _=>some (T=="bool" ||T=="int")
 |.int _=>some (T=="int")
 |.str _=>some (T=="str")
 |.tup _=>some (T=="tuple")
 | .ref k=>match S[k]? with
   |some (.lst _)=>some (T=="list")
   |some (.frz _)=>some (T=="list")
   |some (.dct _)=>some (T=="dict")
   |_=>none
 |.fn _=>none
def Ll(K:PySem.W.Frag)(T:String):Prop:=(PySem.W.kitOne K (.type "NoneType") (.type T)=some (T=="NoneType"))/\(PySem.W.kitOne K (.type "bool") (.type T)=some (T=="bool" ||T=="int"))/\(PySem.W.kitOne K (.type "int") (.type T)=some (T=="int"))/\(PySem.W.kitOne K (.type "str") (.type T)=some (T=="str"))∧
 (PySem.W.kitOne K (.type "tuple") (.type T)=some (T=="tuple"))/\(PySem.W.kitOne K (.type "list") (.type T)=some (T=="list"))/\(PySem.W.kitOne K (.type "dict") (.type T)=some (T=="dict"))
def DZ(T:String)(f:bx):bx:=λh S=>(f h S).bind λ(d,g)=>(Hs g T d).bind λk=>some (.bl k,g)
def NQ{T:String}{l:Expr}{f:bx}{p:Pos}(N:Ll X.K T)(y:Gl X "isinstance")(G:X.mg "isinstance"=none)(I:PE X a (tD (md X) f))(ht:PE X l (tC (.ty T)))(t:starEach [a,l] X.env= [(false,eval a X.env),(false,eval l X.env)]:=by rfl)(j:starEach [l] X.env= [(false,eval l X.env)]:=by rfl):
  PE X (.Call (.Name "isinstance" p) [a,l] [] pos) (tD (md X) (DZ T f)):=
 km (ju EE y G boot_isinstance (da I (da ht fJ j) (by rw[t,j])) (he:=by rw[t,j]) (hpl:=by rw[j];rfl)) λσ H Q A=>by
  obtain⟨z,Y,S,d,S',ok,e,q⟩:=A
  obtain⟨⟨B,M⟩,J,e⟩:=ar e
  obtain⟨k,i,e⟩:=ar e
  obtain⟨rfl,rfl⟩:=cc e
  obtain⟨P,F,C,W,L,w,U⟩:=N
  refine⟨z,Y,S,B,M,ok,J,λR v Z x s r=> ?_⟩
  have g:=q _ _ _ x s (.bl _)
  cases r with
  |non=>cases i;exact⟨_,_,_,_,rfl,.non,P,g⟩
  |bl=>cases i;exact⟨_,_,_,_,rfl,.bl _,F,g⟩
  |int=>cases i;exact⟨_,_,_,_,rfl,.int _,C,g⟩
  |str=>cases i;exact⟨_,_,_,_,rfl,.str _,W,g⟩
  |tup h t=>cases i;exact⟨_,_,_,_,rfl,.tup h,L,g⟩
  |fn=>cases i
  | ref h=>
    simp only[Hs] at i
    split at i
    · rename_i n;cases i;obtain⟨u,m,_⟩:=s.obj _ _ _ h n;exact⟨_,_,_,_,rfl,.lst m,w,g⟩
    · rename_i n;cases i;obtain⟨u,o,m,_⟩:=s.obj _ _ _ h n;exact⟨_,_,_,_,rfl,.frz m,w,g⟩
    · rename_i n;cases i;obtain⟨u,m,_⟩:=s.obj _ _ _ h n;exact⟨_,_,_,_,rfl,.dK m,U,g⟩
    · cases i
abbrev Jz:=List D->Option D
def Hi(M:Md)(r:List V->Hp->VK->Prop)(o:Jz):Prop:=∀{f:List Addr} {S:aC} {H:Hp} {g:List D} {d:D} {h:List V} {Q:VK},fM M f S H->a7 M f H g h->o g=some d->(∀w,Rel M f H d w->Q w H)->r h H Q
def Au(o:Jz)(f:fN):bx:=λi S=>(f i S).bind λ(h,g)=>(o h).bind λd=>some (d,g)
def M7{r:List V->Hp->VK->Prop}{o:Jz}{f:fN}(v:Hi (md X) r o)(h:PE X e (Mh r (yC (md X) f))):PE X e (tD (md X) (Au o f)):=km h λB H Q l=>by
 obtain⟨j,x,S,d,y,ok,e,q⟩:=l
 obtain⟨⟨u,s⟩,n,e⟩:=ar e
 obtain⟨z,p,e⟩:=ar e
 obtain⟨rfl,rfl⟩:=cc e
 exact⟨j,x,S,u,s,ok,n,λi A H1 t g k=>v g k p λw m=>q i w H1 t g m⟩
def maxD:Jz
 | [.int i,.int j]=>some (.int (if j>i then j else i))
 |_=>none
def minD:Jz
 | [.int i,.int j]=>some (.int (if j<i then j else i))
 |_=>none
def intOfD:Jz
 | [.int i]=>some (.int i)
 | [.bl k]=>some (.int (if k then 1 else 0))
 |_=>none
def MH{M:Md}:Hi M (λxs H Q=>∃i j,xs= [.int i,.int j]/\Q (.int (if j>i then j else i)) H) maxD:=by
 intro h S H xs d k Q l r e q
 unfold maxD at e
 split at e <;>cases e
 cases r with|cons r f=>cases f with|cons g f=>cases f;cases r;cases g;exact⟨_,_,rfl,q _ (.int _)⟩
def M8{M:Md}:Hi M (λxs H Q=>∃i j,xs= [.int i,.int j]/\Q (.int (if j<i then j else i)) H) minD:=by
 intro h S H xs d k Q l r e q
 unfold minD at e
 split at e <;>cases e
 cases r with|cons r f=>cases f with|cons g f=>cases f;cases r;cases g;exact⟨_,_,rfl,q _ (.int _)⟩
def LI{M:Md}:Hi M (λxs H Q=>(∃i,xs= [.int i]/\Q (.int i) H)\/∃k,xs= [.bl k]/\Q (.int (if k then 1 else 0)) H) intOfD:=by
 intro g S H xs d h Q j r e q
 unfold intOfD at e
 split at e <;>cases e
 ·cases r with|cons r f=>cases f;cases r;exact .inl ⟨_,rfl,q _ (.int _)⟩
 ·cases r with|cons r f=>cases f;cases r;exact .inr ⟨_,rfl,q _ (.int _)⟩
def gB:List D->Option (List V)
 | []=>some []
 |d::r=>(uM d).bind λv=>(gB r).bind λf=>some (v::f)
def oT{d:D}{v:V}(e:uM d=some v):fG v=true:=by
 cases d <;>simp[uM] at e <;>subst e <;>rfl
theorem i8{M:Md}{ρ:List Addr}{H:Hp}:∀{ds:List D} {d vs:List V},a7 M ρ H ds d->gB ds=some vs->d=vs/\vs.all fG=true
 |_,_,_,.nil,e=>by cases e;exact⟨rfl,rfl⟩
 | _,_,_,.cons h hs,e=>by
   obtain⟨v,f,e⟩:=ar e
   obtain⟨vs,g,e⟩:=ar e
   cases e
   obtain⟨j,i⟩:=i8 hs g
   rw[lJ h f,j]
   exact⟨rfl,by rw[List.all_cons,oT f,i];rfl⟩
def Ds(d:Bool)(f:bx)(g:dz):bx:=λi S=>(f i S).bind λ(x,j)=>(g i j).bind λ(p,k)=>(uM x).bind λv=>(gB p.1).bind λh=>some (.bl (if d then !FH v h else FH v h),k)
def nK{f:bx}{t:TE}(l:∀d H Q,tD (md X) f d H Q->t d H Q)(h:PT X e (Fw t)):PT X e (tB (md X) (aF f)):=Mv h λd H Q ⟨j,m,S,k,n,ok,e,q⟩=>
 l _ _ _ ⟨j,m,S,.bl k,n,ok,sA e,λg v o x i r=>by cases r;exact⟨k,rfl,q _ _ x i⟩⟩
def Io{h:Bool}{f:bx}{g:dz}:∀k H Q,tD (md X) (Ds h f g) k H Q->FV (NG X.K h) (tD (md X) f) (tQ (md X) g) k H Q:=λk H Q w=>by
 obtain⟨r,p,S,d,P,ok,e,q⟩:=w
 obtain⟨⟨x,n⟩,z,e⟩:=ar e
 obtain⟨⟨⟨B,t⟩,y⟩,A,e⟩:=ar e
 obtain⟨v,m,e⟩:=ar e
 obtain⟨R,J,e⟩:=ar e
 obtain⟨rfl,rfl⟩:=cc e
 refine⟨r,p,S,x,n,ok,z,λj u H1 o l s=>⟨j,p,n,B,t,y,ok.to o l,A,λC a L H2 M i I N=> ?_⟩⟩
 cases lJ s m
 obtain⟨G,F⟩:=i8 N J
 subst G
 exact⟨a,L,rfl,I.sq,oT m,F,q _ _ _ (o.trans M) i (.bl _)⟩
def MF{f:bx}{g:dz}(h:PE X a (tD (md X) f))(i:PE X b (tQ (md X) g))(d:behindInMarks .In b=false:=by rfl):PT X (.Compare a [.In] [b] pos) (tB (md X) (aF (Ds false f g))):=nK Io (iH DT h i d)
def Mz{f:bx}{g:dz}(h:PE X a (tD (md X) f))(i:PE X b (tQ (md X) g))(d:behindInMarks .NotIn b=false:=by rfl):PT X (.Compare a [.NotIn] [b] pos) (tB (md X) (aF (Ds true f g))):=nK Io (iH yi h i d)
end
inductive Out where
 |nx (Γ:cv) (S:aC)|bk (Γ:cv) (S:aC)|ct (Γ:cv) (S:aC)|rt (d:D) (S:aC)|rl (ds:List D) (S:aC)
abbrev cO:=cv->aC->Option Out
def wH(M:Md)(ρ:List Addr)(H:Hp)(D:Ends):Out->Prop
 |.nx f g=>∀b e c,bX ρ H b c->Ok M b f g e c->D.nx e c
 |.bk f g=>∀b e c,bX ρ H b c->Ok M b f g e c->D.bk e c
 |.ct f g=>∀b e c,bX ρ H b c->Ok M b f g e c->D.ct e c
 |.rt d g=>∀b v c,bX ρ H b c->fM M b g c->Rel M b c d v->D.rt v c
 |.rl i g=>∀b a h c,bX ρ H b c->fM M b g c->H a=none->a∉b->c a=some (.lst h)->a7 M b c i h->D.rt (.ref a) c
def wH.to{M:Md}{ρ c:List Addr}{H H1:Hp}{D:Ends}{o:Out}(h:wH M ρ H D o)(e:bX ρ H c H1):wH M c H1 D o:=by
 cases o with
 |nx=>exact λb d f x ok=>h _ _ _ (e.trans x) ok
 |bk=>exact λb d f x ok=>h _ _ _ (e.trans x) ok
 |ct=>exact λb d f x ok=>h _ _ _ (e.trans x) ok
 |rt=>exact λb v f x g r=>h _ _ _ (e.trans x) g r
 |rl=>exact λb a l f x g k j i r=>h _ _ _ _ (e.trans x) g (e.grow _ k) j i r
def tS(M:Md)(g:cO):TS:=λD c H=>∃a b S o,Ok M a b S c H/\g b S=some o/\wH M a H D o
section
variable{X:Cx}{a b c e:Expr}{pos:Pos}{st:Stmt}{rest body other:List Stmt}
def fL:cO:=λd S=>some (.nx d S)
def v8:uF X [] (tS (md X) fL):=Li GC λD f H ⟨d,g,S,o,ok,e,q⟩=>by cases e;exact q _ _ _ bX.refl ok
noncomputable def aE(f g:cO):cO:=λi S=>(f i S).bind λo=>match o with
 |.nx d h=>g d h
 |o=>some o
def bZ{f g:cO}(m:PS X st (tS (md X) f))(t:uF X rest (tS (md X) g)):uF X (st::rest) (tS (md X) (aE f g)):=Li (FT m t) λD v H l=>by
 obtain⟨k,u,S,o,ok,e,q⟩:=l
 obtain⟨j,n,e⟩:=ar e
 refine⟨k,u,S,j,ok,n,?_⟩
 cases j with
 |nx i p=>exact λd s H1 r h=>⟨d,i,p,o,h,e,q.to r⟩
 |bk=>cases e;exact q
 |ct=>cases e;exact q
 |rt=>cases e;exact q
 |rl=>cases e;exact q
def dP{f:cO}(d:PS X st (tS (md X) f)):uF X [st] (tS (md X) f):=GQ d
def never:cO:=λ_ _=>none
def Mw:PS X st (tS (md X) never):=Dm Fc λD f H ⟨d,g,S,o,ok,e,q⟩=>by cases e
def kn(f:bx):cO:=λd S=>(f d S).bind λ(_,g)=>some (.nx d g)
def eS{f:bx}(h:PE X e (tD (md X) f))(n:swapsWith e none pos.line X.env=pure false:=by rfl):PS X (.Expr e pos) (tS (md X) (kn f)):=Dm (GX h n) λD s H i=>by
 obtain⟨g,m,S,o,ok,e,q⟩:=i
 obtain⟨⟨d,k⟩,j,e⟩:=ar e
 cases e
 exact⟨g,m,S,d,k,ok,j,λl v p x st r=>q _ _ _ x (ok.to x st)⟩
noncomputable def cp(f:bx):cO:=λh S=>(f h S).bind λ(d,g)=>some (.rt d g)
def wm{f:bx}(h:PE X e (tD (md X) f)):PS X (.Return (some e) pos) (tS (md X) (cp f)):=Dm (EA h) λD m H k=>by
 obtain⟨i,j,S,o,ok,e,q⟩:=k
 obtain⟨⟨d,g⟩,l,e⟩:=ar e
 cases e
 exact⟨i,j,S,d,g,ok,l,q⟩
noncomputable def Gr(f:fN):cO:=λh S=>(f h S).bind λ(d,g)=>some (.rl d g)
def JF{f:fN}(h:PE X e (tL (md X) f)):PS X (.Return (some e) pos) (tS (md X) (Gr f)):=Dm (EA h) λD m H k=>by
 obtain⟨i,j,S,o,ok,e,q⟩:=k
 obtain⟨⟨d,g⟩,l,e⟩:=ar e
 cases e
 exact⟨i,j,S,d,g,ok,l,q⟩
def eE(c:jA)(f g:cO):cO:=λd S=>(c d S).bind λ(k,h)=>if k=true then f d h else g d h
def wF{h:jA}{f g:cO}(u:PT X c (tB (md X) h))(r:uF X body (tS (md X) f))(t:uF X other (tS (md X) g)):PS X (.If c body other pos) (tS (md X) (eE h f g)):=Dm (KW u r t) λD v H p=>by
 obtain⟨n,m,S,o,ok,e,q⟩:=p
 obtain⟨⟨k,l⟩,s,e⟩:=ar e
 refine⟨n,m,S,k,l,ok,s,λd H1 j i=> ?_⟩
 dsimp only at e
 split at e
 ·rename_i c
  rw[Qhq c]
  exact⟨d,m,l,o,ok.to j i,e,q.to j⟩
 ·rename_i c
  rw[Quq c]
  exact⟨d,m,l,o,ok.to j i,e,q.to j⟩
abbrev me:=D->cv->aC->Option (cv×aC)
abbrev rq:=List D->cv->aC->Option (cv×aC)
def tG(M:Md)(g:me):TG:=λv n H Q=>∃j l S d i m,Ok M j l S n H/\Rel M j H d v/\g d l S=some (i,m)/\∀f h k,bX j H f k->Ok M f i m h k->Q h k
def Ms(M:Md)(g:rq):G3:=λo n H Q=>∃i l S k h m,Ok M i l S n H/\a7 M i H k o/\g k l S=some (h,m)/\∀d f j,bX i H d j->Ok M d h m f j->Q f j
def MY{t t':TG}(h:PG X e t)(w:∀v f H Q,t' v f H Q->t v f H Q):PG X e t':=λd s f H v u Q I r q=>h d s f H v u Q I r (w _ _ _ _ q)
def Lb{g:List Expr}{t t':G3}(h:Gq X g t)(w:∀v f H Q,t' v f H Q->t v f H Q):Gq X g t':=λd s f H v u Q I r q=>h d s f H v u Q I r (w _ _ _ _ q)
def bL(i:Nat):me:=λd f S=>some (f.set i (some d),S)
def Ek{i:Nat}(h:PG X e (oY i)):PG X e (tG (md X) (bL i)):=MY h λv k H Q g=>by
 obtain⟨j,m,S,d,f,l,ok,r,e,q⟩:=g
 cases e
 exact q _ _ _ bX.refl ⟨ok.en.set r,ok.st⟩
def dr:rq:=λd f S=>match d with
 | []=>some (f,S)
 |_=>none
def aI(f:me)(g:rq):rq:=λj k S=>match j with
 |d::r=>(f d k S).bind λ(h,i)=>g r h i
 | []=>none
def A5:Gq X [] (Ms (md X) dr):=Lb GO λj h H Q f=>by
 obtain⟨g,l,S,i,d,k,ok,r,e,q⟩:=f
 cases r with
 |nil=>cases e;exact⟨rfl,q _ _ _ bX.refl ok⟩
 |cons=>cases e
def lN{h:List Expr}{f:me}{g:rq}(t:PG X e (tG (md X) f))(x:Gq X h (Ms (md X) g))(B:(assignEach (e::h) X.env).map (·.2)=assign e X.env::(assignEach h X.env).map (·.2):=by rfl):Gq X (e::h) (Ms (md X) (aI f g)):=
 Lb (FG t x B) λF I H Q p=>by
  obtain⟨o,A,S,G,j,s,ok,r,e,q⟩:=p
  cases r with
  |nil=>cases e
  | cons r y=>
    obtain⟨⟨d,m⟩,u,e⟩:=ar e
    refine⟨_,_,rfl,o,A,S,_,d,m,ok,r,u,λk w H1 n l=>⟨k,d,m,_,j,s,l,y.ext n,e,λv C H2 z i=>q _ _ _ (n.trans z) i⟩⟩
def iV(g:rq):me:=λd h S=>match d with
 |.tup f=>g f h S
 |_=>none
def nG(n:Nat)(g:rq):rq:=λd f S=>if d.length=n then g d f S else none
def Fs{f:List Expr}{k:Nat}{g:rq}{n:Nat}(s:X.calm=true)(h:Gq X f (Ms (md X) g))(t:(assignEach f X.env).length=n:=by rfl)(i:(assignEach f X.env).findIdx? (·.1)=none:=by rfl):
  PG X (.Tuple f k pos) (tG (md X) (iV (nG n g))):=MY (IL s h t i) λv u H Q ⟨m,p,S,d,j,o,ok,r,e,q⟩=>by
 cases r with
 | tup h l=>
   simp only[iV,nG] at e
   split at e
   · rename_i c
     exact⟨_,_,rfl,gJ.of h,by rw[←l.length];exact c,m,p,S,_,j,o,ok,l,e,q⟩
   · cases e
 |_=>cases e
def rV(f:bx)(g:me):cO:=λi S=>(f i S).bind λ(d,j)=>(g d i j).bind λ(h,k)=>some (.nx h k)
def K7{f:bx}{g:me}:∀D k H,tS (md X) (rV f g) D k H->DB (tD (md X) f) (tG (md X) g) D k H:=λD k H t=>by
 obtain⟨r,p,S,o,ok,e,q⟩:=t
 obtain⟨⟨d,m⟩,w,e⟩:=ar e
 obtain⟨⟨j,u⟩,x,e⟩:=ar e
 cases e
 exact⟨r,p,S,d,m,ok,w,λi v H1 n l s=>⟨i,p,m,d,j,u,ok.to n l,s,x,λy A H2 z h=>q _ _ _ (n.trans z) h⟩⟩
def N9{d:Expr}{f:bx}{g:me}(he:PE X e (tD (md X) f))(h:PG X d (tG (md X) g))(j:swapsWithSole [d] e pos.line X.env=pure false:=by rfl)(i:swappedStores [d] e X.env=pure none:=by rfl)
  (k:(assignEach [d] X.env).map (·.2)= [assign d X.env]:=by rfl):PS X (.Assign [d] e pos) (tS (md X) (rV f g)):=Dm (Ko he h j i k) K7
noncomputable def aX(i:Nat)(f:bx):cO:=λg S=>(f g S).bind λ(d,h)=>some (.nx (g.set i (some d)) h)
def Mg{i:Nat}{f:bx}(h:PS X st (DB (tD (md X) f) (oY i))):PS X st (tS (md X) (aX i f)):=Dm h λD t H m=>by
 obtain⟨k,s,S,o,ok,e,q⟩:=m
 obtain⟨⟨d,r⟩,n,e⟩:=ar e
 cases e
 exact⟨k,s,S,d,r,ok,n,λp v H1 j g l=>q _ _ _ j ⟨(ok.en.ext j).set l,g⟩⟩
abbrev uR:=cv->aC->Option ((List D×(aC->Prop))×aC)
def Walks(M:Md)(J:It)(ρ:List Addr)(H:Hp)(ds:List D)(W:aC->Prop):Prop:=∀(i:Nat) (f:List Addr) (j:aC) (h:Hp),bX ρ H f h->fM M f j h->W j→
 (∀d,ds[i]?=some d->J.go i h/\∀x g,J.yld i h x g->bX f h f g/\fM M f j g/\Rel M f g d x)/\(i=ds.length->J.stop i h)
def tI(M:Md)(f:uR):TI:=λl H R=>∃h j S i W k,Ok M h j S l H/\f j S=some ((i,W),k)/\∀d J g,bX h H d g->fM M d k g->Walks M J d g i W->R J g
def Mr{g:Expr}{t t':TI}(h:PI X g e t)(w:∀f H R,t' f H R->t f H R):PI X g e t':=λd s f H R I q=>h d s f H R I (w _ _ _ q)
def Js{z l:Expr}{r:TE}(hl:PE X l r):PI X z l (λm H R=>r m H λx H1=>∃a,x=.ref a/\((∃xs,g6 X.K H1 a xs)/\R (NN X.K a) H1\/(∃xs,gJ X.K H1 a xs)/\R (NM X.K a) H1)):=by
 intro g s m H R I h
 refine c9 (hl g s m H _ I h) λv d y=> ?_
 obtain⟨x,H1,f,u,j⟩:=y
 obtain⟨a,e,j⟩:=j
 subst e
 cases u
 rcases j with⟨⟨xs,k⟩,q⟩|⟨⟨xs,k⟩,q⟩
 ·obtain⟨i,t,p,w⟩:=f.list k
  refine wpAny_pyIter_list p.isList ?_
  refine⟨d.heap.objs.size,[d.heap.objs.size],_,_,H1,rfl,f.kept (t':=d.toks) λb o e=>Qcq _ e,Dt a _,⟨_,Qrq _ rfl,rfl,rfl⟩,λb n=> ?_,q⟩
  have e:b=d.heap.objs.size:=by simpa using n
  subst e
  exact f.fpOk (Qmq _) (f.hok.fresh (Qmq _))
 ·obtain⟨i,t,p,w⟩:=f.tuple k
  refine wpAny_pyIter_tuple (show d.heap.IsTuple a i.toArray from p) ?_
  refine⟨d.heap.objs.size,[d.heap.objs.size],_,_,H1,rfl,f.kept (t':=d.toks) λb o e=>Qcq _ e,BI a _,⟨_,Qrq _ rfl,rfl,rfl⟩,λb n=> ?_,q⟩
  have e:b=d.heap.objs.size:=by simpa using n
  subst e
  exact f.fpOk (Qmq _) (f.hok.fresh (Qmq _))
def jW(f:dz):uR:=λg S=>(f g S).bind λ(p,d)=>some ((p.1,λh=>p.2.stays h p.1),d)
def LF{M l:Expr}{f:dz}(hl:PE X l (tQ (md X) f)):PI X M l (tI (md X) (jW f)):=Mr (Js hl) λZ H R G=>by
 obtain⟨F,P,S,Y,W,U,ok,e,q⟩:=G
 obtain⟨⟨⟨y,t⟩,L⟩,J,e⟩:=ar e
 obtain⟨K,rfl⟩:=cc e
 obtain⟨rfl,rfl⟩:=Prod.mk.inj K
 refine⟨F,P,S,y,t,L,ok,J,λN a C Q x st h r=>⟨a,rfl,?_⟩⟩
 cases c:t.isL with
 | true=>
   refine .inl ⟨⟨C,h.sqL c⟩,q _ _ _ x st λi u I H2 z j w=> ?_⟩
   obtain⟨g,B,o⟩:=h.to r z j w
   have m:=B.sqL c
   refine⟨λd A=> ?_,λs=>⟨g,m,by rw[s,o.length];exact Qmq _⟩⟩
   obtain⟨v,n,p⟩:=o.get A
   refine⟨⟨g,v,m,n⟩,λx H3 k=> ?_⟩
   obtain⟨rfl,k⟩:=k
   have:=k g m
   rw[n] at this
   cases this
   exact⟨bX.refl,j,p⟩
 | false=>
   refine .inr ⟨⟨C,h.sqT c⟩,q _ _ _ x st λi u I H2 z j w=> ?_⟩
   obtain⟨g,B,o⟩:=h.to r z j w
   have m:=B.sqT c
   refine⟨λd A=> ?_,λs=>⟨g,m,by rw[s,o.length];exact Qmq _⟩⟩
   obtain⟨v,n,p⟩:=o.get A
   refine⟨⟨g,v,m,n⟩,λx H3 k=> ?_⟩
   obtain⟨rfl,k⟩:=k
   have:=k g m
   rw[n] at this
   cases this
   exact⟨bX.refl,j,p⟩
def gH(lo hi:Int):List D:=(List.range (hi-lo).toNat).map λ(i:Nat)=>D.int (lo+(i:Int))
def nP(f:bx):uR:=λh S=>(f h S).bind λ(d,g)=>match d with
 |.int j=>if -(2^62)<=j/\j<2^62 then some ((gH 0 j,λ_=>True),g) else none
 |_=>none
def D3{M:Md}{ρ:List Addr}{H:Hp}{lo hi:Int}:Walks M (Mj lo (hi-lo).toNat) ρ H (gH lo hi) (λ_=>True):=λi l n H2 o f w=>by
 unfold gH
 refine⟨λd h=> ?_,λhi=>by rw[lQm,QVq] at hi;exact Nat.le_of_eq hi.symm⟩
 rw[gQm] at h
 obtain⟨k,m,rfl⟩:=oQm.mp h
 have hl:=(gQs.mp m)
 obtain⟨hl,g⟩:=hl
 rw[List.getElem_range] at g
 subst g
 rw[QVq] at hl
 refine⟨hl,λx H3 j=> ?_⟩
 obtain⟨rfl,rfl⟩:=j
 exact⟨bX.refl,f,.int _⟩
def xt{v a:Expr}{f:bx}{p:Pos}(k:Gl X "range")(n:X.mg "range"=none)(o:PE X a (tD (md X) f))(i:starEach [a] X.env= [(false,eval a X.env)]:=by rfl):PI X v (.Call (.Name "range" p) [a] [] pos) (tI (md X) (nP f)):=
 Mr (CV k n (az o aW i) i) λC H R m=>by
  obtain⟨ρ,y,S,B,W,z,ok,e,q⟩:=m
  obtain⟨⟨d,u⟩,s,e⟩:=ar e
  dsimp only at e
  split at e
  ·rename_i j
   split at e
   ·rename_i h
    obtain⟨t,rfl⟩:=cc e
    obtain⟨rfl,rfl⟩:=Prod.mk.inj t
    refine⟨ρ,y,S,[.int j],u,ok,by unfold aq au;rw[s];rfl,λg A l x st r=> ?_⟩
    cases r with
    | cons r w=>
      cases w
      cases r
      refine⟨j,rfl,h.1,h.2,q _ _ _ x st ?_⟩
      have:=D3 (M:=md X) (ρ:=g) (H:=l) (lo:=0) (hi:=j)
      rw[Int.sub_zero] at this
      exact this
   ·cases e
  ·cases e
open Classical in
def forL(g:me)(b:cO)(W:aC->Prop):List D->cv->aC->Option Out
 | [],Γ,S=>if W S then some (.nx Γ S) else none
 |d ::ds,Γ,S=>if W S then(g d Γ S).bind λ(i,j)=>(b i j).bind λo=>match o with
    |.nx f h=>forL g b W ds f h
    |.ct f h=>forL g b W ds f h
    |.bk f h=>some (.nx f h)
    |.rt x h=>some (.rt x h)
    |.rl x h=>some (.rl x h)
  else none
def ib(i:uR)(g:me)(b:cO):cO:=λd S=>(i d S).bind λ(p,f)=>forL g b p.2 p.1 d f
def uf{Y k:Expr}{i:uR}{g:me}{f:cO}(hp:PassesOwn (model X.prog X.w) X.A X.env X.xe)(hc:X.calm=true)(hi:PI X Y k (tI (md X) i))(hg:PG X Y (tG (md X) g))(hb:uF X body (tS (md X) f))
  (hs:∀x,foldedSetIterable k X.env x=pure x:=by intro _;rfl):PS X (.For Y k body [] pos) (tS (md X) (ib i g f)):=Dm (JD hp hc hi hg hb hs) λD σ H ⟨ρ,Γ,S,o,ok,e,q⟩=>by
 obtain⟨⟨⟨h,W⟩,S1⟩,e1,e⟩:=ar e
 refine⟨ρ,Γ,S,h,W,S1,ok,e1,λu J H1 x1 Z wk=> ?_⟩
 have L:=q.to x1
 have Q:=ok.to x1 Z
 refine⟨λi m p B=>m=h.length-i/\i<=h.length/\∃d s z,bX u H1 d B/\Ok (md X) d s z p B/\forL g f W (h.drop i) s z=some o,⟨h.length,by simp,Nat.zero_le _,u,Γ,S1,bX.refl,Q,e⟩,?_⟩
 rintro i m a1 H2 ⟨rfl,hi,d,s,z,x2,ok2,e2⟩
 by_cases v:i<h.length
 ·have hd:h[i]?=some h[i]:=gQe v
  rw[QWq v] at e2
  unfold forL at e2
  split at e2
  ·rename_i w
   obtain⟨w1,w2⟩:=wk i d z H2 x2 ok2.st w
   obtain⟨go,P⟩:=w1 _ hd
   refine .inr ⟨go,λp B=>∃r n M,bX u H1 r B/\Ok (md X) r n M p B/\forL g f W (h.drop (i+1)) n M=some o,λp B ⟨r,n,M,h1,h2,h3⟩=>⟨h.length-(i+1),by omega,rfl,v,r,n,M,h1,h2,h3⟩,λx H3 hy=> ?_⟩
   obtain⟨x3,R,r3⟩:=P x H3 hy
   obtain⟨⟨F,S4⟩,e4,e5⟩:=ar e2
   refine⟨d,s,z,_,F,S4,ok2.to x3 R,r3,e4,λU a0 H4 x4 N=> ?_⟩
   obtain⟨o5,e6,K⟩:=ar e5
   have C:=(x2.trans x3).trans x4
   refine⟨U,F,S4,o5,N,e6,?_⟩
   cases o5 with
   |nx l y=>exact λt I H6 G j=>⟨t,l,y,C.trans G,j,K⟩
   |ct l y=>exact λt I H6 G j=>⟨t,l,y,C.trans G,j,K⟩
   |bk l y=>cases K;exact λt I H6 G j=>L _ _ _ (C.trans G) j
   |rt d6 y=>cases K;exact L.to C
   |rl d6 y=>cases K;exact L.to C
  ·cases e2
 ·have e3:i=h.length:=by omega
  subst e3
  rw[List.drop_length] at e2
  unfold forL at e2
  split at e2
  ·rename_i w
   cases e2
   obtain⟨w1,w2⟩:=wk h.length d z H2 x2 ok2.st w
   exact .inl ⟨w2 rfl,L _ _ _ x2 ok2⟩
  ·cases e2
end
section
variable{M:Md}{ρ:List Addr}{H:Hp}{b:Addr}{us ws:List V}
mutual
theorem Rel.off(a:H b=some (.lst us)):∀{d:D} {v:V},Rel M ρ H d v->Rel M ρ (upd H b (.lst ws)) d v
 |_,_,.non=>.non
 |_,_,.bl x=>.bl x
 |_,_,.int i=>.int i
 |_,_,.str x=>.str x
 |_,_,.tup h hs=>.tup (by rw[bf (ER h a (by intro z;cases z))];exact h) (a7.off a hs)
 |_,_,.ref h=>.ref h
 |_,_,.fn h=>.fn h
theorem a7.off(a:H b=some (.lst us)):∀{ds:List D} {vs:List V},a7 M ρ H ds vs->a7 M ρ (upd H b (.lst ws)) ds vs
 |_,_,.nil=>.nil
 |_,_,.cons h hs=>.cons (Rel.off a h) (a7.off a hs)
end
theorem fM.off{S:aC}(st:fM M ρ S H)(g:H b=some (.lst us))(n:b∉ρ):fM M ρ S (upd H b (.lst ws)):=⟨st.len,st.nd,λk a o h l=>by
 have q:=st.obj k a o h l
 have f:a≠b:=λz=>n (z▸mQg h)
 cases o with
 |lst j=>obtain⟨e,c,d⟩:=q;exact⟨e,by rw[bf f];exact c,d.off g⟩
 |frz j=>obtain⟨e,o,c,d⟩:=q;exact⟨e,o,by rw[bf f];exact c,d.off g⟩
 |dct m=>obtain⟨i,c,d⟩:=q;exact⟨i,by rw[bf f];exact c,d.imp λ_ _ r=>r.off g⟩⟩
def En.off{c:cv}{a:L2.St}(h:En M ρ H c a)(f:H b=some (.lst us)):En M ρ (upd H b (.lst ws)) c a:=⟨h.len,λi d q=>by obtain⟨v,g,e⟩:=h.get i d q;exact⟨v,g,e.off f⟩⟩
def bX.off{d:List Addr}{f:Hp}(e:bX d f ρ H)(g:f b=none)(u:HO):bX d f ρ (upd H b u):=⟨e.pre,e.new,λa o h c=>by rw[bf (eZ h g)];exact e.keep a o h c,λa h=>by
 by_cases z:a=b
 ·subst z;exact g
 ·rw[bf z] at h;exact e.grow a h⟩
end
def pe(js:List (Option Nat))(a:cv):cv:=js.map λo=>o.bind λj=>a.getD j none
def En.sig{M:Md}{ρ:List Addr}{H:Hp}{b:cv}{c:L2.St}(js:List (Option Nat))(h:En M ρ H b c):En M ρ H (pe js b) (j8 js c) where
 len:=by unfold pe j8;rw[lQm,lQm]
 get:=λi d q=>by
  unfold pe at q
  unfold j8
  rw[gQm] at q⊢
  cases e:js[i]? with
  |none=>rw[e] at q;cases q
  | some o=>
    rw[e] at q
    cases o with
    |none=>cases q
    | some j=>
      have a:b.getD j none=some d:=QdQ q
      have g:b[j]?=some (some d):=by
        rw[Qlq] at a
        cases z:b[j]? with
        |none=>rw[z] at a;cases a
        |some y=>rw[z] at a;exact congrArg some a
      obtain⟨v,f,k⟩:=h.get j d g
      refine⟨v,?_,k⟩
      show some (c.getD j none)=some (some v)
      rw[Qlq,f]
      rfl
open Classical in
def mf(g:me)(t:jA)(f:bx)(W:aC->Prop):List D->cv->aC->List D->Option (List D×aC)
 | [],Γ,S,acc=>if W S then some (acc,S) else none
 |d ::ds,Γ,S,acc=>if W S then(g d Γ S).bind λ(a,c)=>(t a c).bind λ(k,b)=>
    if k=true then(f a b).bind λ(y,e)=>if acc.length<sizeLine then mf g t f W ds a e (acc++ [y]) else none
    else mf g t f W ds a b acc
  else none
def bO(js:List (Option Nat))(i:uR)(g:me)(t:jA)(f:bx):fN:=λa S=>(i a S).bind λ(p,b)=>mf g t f p.2 p.1 (pe js a) b []
section
variable{M:Md}
def Fh{js:List (Option Nat)}{i:uR}{g:me}{t:jA}{f:bx}:∀X H Q,tL M (bO js i g t f) X H Q->FL js (tI M i) (tG M g) (tB M t) (tD M f) X H Q:=λX H Q qq=>by
 obtain⟨ρ,Γ,S,rs,S',ok,e,q⟩:=qq
 obtain⟨⟨⟨j,W⟩,S1⟩,e1,e⟩:=ar e
 refine⟨ρ,Γ,S,j,W,S1,ok,e1,λn J H1 Y R wk D L=> ?_⟩
 have n1:D∉n:=dg Y R L
 have a1:Ok M n (pe js Γ) S1 (j8 js X) (upd H1 D (.lst [])):=⟨((ok.en.ext Y).ext (bX.laid L)).sig js,R.lay L⟩
 refine⟨λi m s d=>m=j.length-i/\i<=j.length/\∃c B K a h,bX n H1 c d/\Ok M c B K s d/\D∉c/\d D=some (.lst h)/\a7 M c d a h/\mf g t f W (j.drop i) B K a=some (rs,S'),
  ⟨j.length,by simp,Nat.zero_le _,n,_,S1,[],[],bX.laid L,a1,n1,bI,.nil,e⟩,?_⟩
 rintro i m b1 H2 ⟨rfl,hi,c,B,K,a,h,x2,ok2,n2,hD2,racc,e2⟩
 by_cases G:i<j.length
 ·have hd:j[i]?=some j[i]:=gQe G
  rw[QWq G] at e2
  unfold mf at e2
  split at e2
  ·rename_i w
   obtain⟨w1,w2⟩:=wk i c K H2 x2 ok2.st w
   obtain⟨go,a0⟩:=w1 _ hd
   refine .inr ⟨go,λs d=>∃b r u a h,bX n H1 b d/\Ok M b r u s d/\D∉b/\d D=some (.lst h)/\a7 M b d a h/\mf g t f W (j.drop (i+1)) r u a=some (rs,S'),
    λs d ⟨b,r,u,a,h,h1,h2,h3,h4,h5,h6⟩=>⟨j.length-(i+1),by omega,rfl,G,b,r,u,a,h,h1,h2,h3,h4,h5,h6⟩,λx H3 hy=> ?_⟩
   obtain⟨x3,a3,r3⟩:=a0 x H3 hy
   obtain⟨⟨l,S4⟩,e4,e5⟩:=ar e2
   refine⟨c,B,K,_,l,S4,ok2.to x3 a3,r3,e4,λa5 b0 H4 x4 o=> ?_⟩
   obtain⟨⟨k,S5⟩,e6,e7⟩:=ar e5
   refine⟨a5,l,S4,k,S5,o,e6,λP H5 U N=> ?_⟩
   have A:=(x3.trans x4).trans U
   have C:∀{b d},bX c H2 b d->d D=some (.lst h)/\D∉b:=λ{b d} x=>⟨x.keep _ _ hD2 (.inl n2),λm=>(x.new _ m).elim n2 λz=>by rw[z] at hD2;cases hD2⟩
   dsimp only at e7⊢
   split at e7
   ·rename_i ck
    rw[Qhq ck]
    obtain⟨⟨y,S6⟩,e8,Z⟩:=ar e7
    refine⟨P,l,S5,y,S6,o.to U N,e8,λa6 v H6 x6 a2 r6=> ?_⟩
    have I:=A.trans x6
    obtain⟨p,n6⟩:=C I
    have F:=racc.ext I
    dsimp only at Z
    split at Z
    ·rename_i cl
     refine⟨h,p,by rw[←racc.length];exact cl,a6,l,S6,a++ [y],h++ [v],(x2.trans I).off L _,⟨((o.en.ext U).ext x6).off p,a2.off p n6⟩,n6,bI,(F.append (.cons r6 .nil)).off p,Z⟩
    ·cases Z
   ·rename_i ck
    rw[Quq ck]
    obtain⟨a4,n5⟩:=C A
    exact⟨P,l,S5,a,h,x2.trans A,o.to U N,n5,a4,racc.ext A,e7⟩
  ·cases e2
 ·have e3:i=j.length:=by omega
  subst e3
  rw[List.drop_length] at e2
  unfold mf at e2
  split at e2
  ·rename_i w
   obtain⟨rfl,rfl⟩:=cc e2
   obtain⟨w1,w2⟩:=wk j.length c K H2 x2 ok2.st w
   exact .inl ⟨w2 rfl,q c D h H2 (Y.trans x2) ok2.st (Y.grow _ L) n2 hD2 racc⟩
  ·cases e2
end
section
variable{X:Cx}{a b c e:Expr}{pos:Pos}{st:Stmt}{rest body other:List Stmt}
def cu:jA:=λ_ S=>some (true,S)
def LZ{d:List Expr}{t t':TT}(h:m6 X d t)(w:∀g H Q,t' g H Q->t g H Q):m6 X d t':=λf s g H Q I q=>h f s g H Q I (w _ _ _ q)
def Lp:m6 X [] (tB (md X) cu):=LZ Kz λf H Q ⟨d,g,S,k,h,ok,e,q⟩=>by cases e;exact q _ _ bX.refl ok.st
def NY{f:jA}(d:PT X c (tB (md X) f)):m6 X [c] (tB (md X) f):=Kp d
def E_{N:List Str}{js:List (Option Nat)}{d:Scope}{l:List (Str×Addr)}{m h j:Expr}{k:List Expr}{i:uR}{g:me}{t:jA}{f:bx}
  (S:aM X N js d l) (p:X.calm=true) (hi:PI X m h (tI (md X) i))
  (n:∀C s H fp,PG (aL X N d l C s H fp) m (tG (md X) g)) (ht:∀C s H fp,m6 (aL X N d l C s H fp) k (tB (md X) t)) (he:∀C s H fp,PE (aL X N d l C s H fp) j (tD (md X) f))
  (o:∀x,foldedSetIterable h X.env x=pure x:=by intro _;rfl):PE X (.ListComp j [⟨m,h,k,0⟩] d pos) (tL (md X) (bO js i g t f)):=km (HJ S p hi n ht he o) Fh
def IG{N:List Str}{js:List (Option Nat)}{h:Scope}{v:List (Str×Addr)}{w j m k:Expr}{r:List Expr}{i:uR}{g:me}{t:jA}{f:bx}{n:Nat}{l:Pos}
  (S:aM X N js h v) (hc:X.calm=true) (hi:PI X w j (tI (md X) i))
  (K:∀C s H fp,PG (aL X N h v C s H fp) w (tG (md X) g)) (ht:∀C s H fp,m6 (aL X N h v C s H fp) r (tB (md X) t)) (he:∀C s H fp,PE (aL X N h v C s H fp) m (tD (md X) f)) (A:PG X k (oY n))
  (L:∀x,foldedSetIterable j X.env x=pure x:=by intro _;rfl) (z:swapsWithSole [k] (.ListComp m [⟨w,j,r,0⟩] h pos) l.line X.env=pure true:=by rfl)
  (P:(assignEach [k] X.env).map (·.2)= [assign k X.env]:=by rfl):PS X (.Assign [k] (.ListComp m [⟨w,j,r,0⟩] h pos) l) (tS (md X) (aX n (bC (bO js i g t f)))):=
 Dm (GN S hc hi K ht he A L z P) λD σ H M=>by
  obtain⟨F,Γ,S,o,ok,e,q⟩:=M
  obtain⟨⟨d,S1⟩,Z,e⟩:=ar e
  cases e
  obtain⟨⟨I,R⟩,e2,e3⟩:=ar Z
  obtain⟨rfl,rfl⟩:=cc e3
  refine Fh σ H _ ⟨F,Γ,S,I,R,ok,e2,λp a U G x st Q Y W rs=> ?_⟩
  have y:=rs.pre (List.prefix_append p [a])
  have B:=st.box (o:=.lst I) Y ⟨U,W,y⟩
  have J:bX F H (p++ [a]) G:=⟨x.pre.trans (List.prefix_append _ _),λb u=>by
   rcases mQa.mp u with u|u
   ·exact x.new b u
   ·rw[Qfq] at u;subst u;exact .inr Q,x.keep,x.grow⟩
  refine q (p++ [a]) _ G J ⟨((ok.en.ext J).set (.ref ?_)),B⟩
  rw[←st.len,QQq (Qmq _)]
  simp
end
inductive Res where
 |d (x:D)|l (ds:List D)
abbrev dw:=List D->aC->Option (Res×aC)
def Jl(M:Md)(ρ:List Addr)(H b:Hp)(v:V):Res->Prop
 |.d x=>Rel M ρ b x v
 |.l e=>∃a c,v=.ref a/\H a=none/\a∉ρ/\b a=some (.lst c)/\a7 M ρ b e c
def dZ(M:Md)(n:Nat)(F:dw):Sp:=λf H Q _=>∃c S d r e,d.length=n/\a7 M c H d f/\fM M c S H/\F d S=some (r,e)/\∀a v b,bX c H a b->fM M a e b->Jl M a H b v r->Q v b
mutual
def bK(m:Nat):D->Bool
 |.ref k=>decide (k<m)
 |.tup a=>bD m a
 |_=>true
def bD(m:Nat):List D->Bool
 | []=>true
 |d::ds=>bK m d&&bD m ds
end
def G4(m:Nat):O->Bool
 |.lst a=>bD m a
 |.frz a=>bD m a
 |.dct b=>bD m (b.map (·.2))
section
variable{M:Md}{ρ ρ':List Addr}{H:Hp}
mutual
theorem Rel.cut(e:ρ <+: ρ'):∀{d:D} {v:V},Rel M ρ' H d v->bK ρ.length d=true->Rel M ρ H d v
 |_,_,.non,_=>.non
 |_,_,.bl x,_=>.bl x
 |_,_,.int i,_=>.int i
 |_,_,.str x,_=>.str x
 |_,_,.tup h hs,b=>.tup h (a7.cut e hs (by simpa [bK] using b))
 | _,_,.ref (k:=k) (a:=a) h,b=>.ref (by
   obtain⟨t,rfl⟩:=e
   have c:k<ρ.length:=by simpa [bK] using b
   rwa [QHq c] at h)
 |_,_,.fn h,_=>.fn h
theorem a7.cut(e:ρ <+: ρ'):∀{ds:List D} {vs:List V},a7 M ρ' H ds vs->bD ρ.length ds=true->a7 M ρ H ds vs
 |_,_,.nil,_=>.nil
 | _,_,.cons h hs,b=>by
   have a:=b
   simp only[bD,QDq,QCq] at a
   exact .cons (Rel.cut e h a.1) (a7.cut e hs a.2)
end
theorem b_.cut(e:ρ <+: ρ'):∀{l:List (Key×D)} {kv:List (Key×V)},b_ M ρ' H l kv->bD ρ.length (l.map (·.2))=true->b_ M ρ H l kv
 | [],_,h,_=>h
 | (_,_)::_,_,⟨v,t,q,h,hs⟩,b=>by
   have a:=b
   simp only[bD,QDq,QCq] at a
   exact⟨v,t,q,h.cut e a.1,b_.cut e hs a.2⟩
theorem oB.cut{a:Addr}{o:O}(e:ρ <+: ρ')(h:oB M ρ' H a o)(b:G4 ρ.length o=true):oB M ρ H a o:=by
 cases o with
 |lst i=>obtain⟨f,d,c⟩:=h;exact⟨f,d,c.cut e b⟩
 |frz i=>obtain⟨f,o,d,c⟩:=h;exact⟨f,o,d,c.cut e b⟩
 |dct g=>obtain⟨j,d,c⟩:=h;exact⟨j,d,c.cut e b⟩
mutual
theorem Rel.low:∀{d:D} {v:V},Rel M ρ H d v->bK ρ.length d=true
 |_,_,.non=>rfl
 |_,_,.bl x=>rfl
 |_,_,.int i=>rfl
 |_,_,.str x=>rfl
 |_,_,.tup h hs=>by simp only[bK];exact a7.low hs
 |_,_,.ref h=>by simp only[bK];exact Qeq (gQs.mp h).1
 |_,_,.fn h=>rfl
theorem a7.low:∀{ds:List D} {vs:List V},a7 M ρ H ds vs->bD ρ.length ds=true
 |_,_,.nil=>rfl
 |_,_,.cons h hs=>by simp only[bD];rw[Rel.low h,a7.low hs];rfl
end
theorem b_.low:∀{l:List (Key×D)} {kv:List (Key×V)},b_ M ρ H l kv->bD ρ.length (l.map (·.2))=true
 | [],_,_=>rfl
 |(_,_)::_,_,⟨v,t,q,h,hs⟩=>by simp only[QDq,bD];rw[h.low,b_.low hs];rfl
theorem oB.low{a:Addr}{o:O}(h:oB M ρ H a o):G4 ρ.length o=true:=by
 cases o with
 |lst e=>obtain⟨f,c,b⟩:=h;exact b.low
 |frz e=>obtain⟨f,o,c,b⟩:=h;exact b.low
 |dct d=>obtain⟨g,c,b⟩:=h;exact b.low
end
def oS(S a:aC):Prop:=S.length<=a.length/\∀k o,k<S.length->a[k]?=some o->S[k]?=some o\/G4 S.length o=true
open Classical in
def settle(S:aC)(d:D)(a:aC):Option (Res×aC):=if oS S a then match d with
  | .ref k=>if k<S.length then some (.d (.ref k),a.take S.length) else match a[k]? with
    |some (.lst ds)=>if bD S.length ds=true then some (.l ds,a.take S.length) else none
    |_=>none
  |d=>if bK S.length d=true then some (.d d,a.take S.length) else none
 else none
open Classical in
def eB(S:aC)(ds:List D)(a:aC):Option (Res×aC):=if oS S a/\bD S.length ds=true then some (.l ds,a.take S.length) else none
noncomputable def eP(n:Nat)(b:cO):dw:=λc S=>(b (c.map some++List.replicate (n-c.length) none) S).bind λo=>match o with
 |.nx _ a=>settle S .non a
 |.rt d a=>settle S d a
 |.rl l a=>eB S l a
 |_=>none
noncomputable def Jw(n:Nat)(b:cO):dw:=λc S=>(b (c.map some++List.replicate (n-c.length) none) S).bind λo=>match o with
 |.nx _ a=>some (.d .non,a)
 |.rt d a=>some (.d d,a)
 |.rl l a=>some (.l l,a)
 |_=>none
def fM.clean{M:Md}{ρ b:List Addr}{S f:aC}{H e:Hp}(st:fM M ρ S H)(x:bX ρ H b e)(i:fM M b f e)(c:oS S f):fM M ρ (f.take S.length) e/\bX ρ H ρ e:=by
 refine⟨⟨?_,st.nd,λk a o g j=> ?_⟩,List.prefix_refl _,λ_ h=>.inl h,x.keep,x.grow⟩
 ·rw[Qxq,st.len]
  have:=c.1
  omega
 ·have l:k<ρ.length:=(gQs.mp g).1
  have d:k<S.length:=st.len▸l
  rw[List.getElem?_take_of_lt d] at j
  refine(i.obj k a o (dt x.pre g) j).cut x.pre ?_
  rcases c.2 k o d j with z|z
  ·exact(st.obj k a o g z).low
  ·rw[st.len];exact z
def vp{M:Md}{ρ b:List Addr}{S s h:aC}{H g:Hp}{d:D}{v:V}{r:Res}(st:fM M ρ S H)(x:bX ρ H b g)(f:fM M b s g)(i:Rel M b g d v)(e:settle S d s=some (r,h)):
  bX ρ H ρ g/\fM M ρ h g/\Jl M ρ H g v r:=by
 unfold settle at e
 split at e
 ·rename_i c
  obtain⟨l,o⟩:=st.clean x f c
  cases d with
  | ref k=>
    dsimp only at e
    split at e
    · rename_i p
      obtain⟨rfl,rfl⟩:=cc e
      exact⟨o,l,i.cut x.pre (by simp only[bK];rw[st.len];exact Qeq p)⟩
    · rename_i p
      split at e
      · rename_i B A
        split at e
        · rename_i q
          obtain⟨rfl,rfl⟩:=cc e
          cases i with
          | ref n=>
            rename_i a
            obtain⟨y,w,z⟩:=f.obj k a _ n A
            have u:a∉ρ:=λm=>by
              obtain⟨j,t⟩:=List.getElem?_of_mem m
              have:=jd f.nd (dt x.pre t) n
              subst this
              exact p (st.len▸(gQs.mp t).1)
            refine⟨o,l,a,y,rfl,(x.new a (mQg n)).resolve_left u,u,w,z.cut x.pre (by rw[st.len];exact q)⟩
        · cases e
      · cases e
  | _=>
    dsimp only at e
    split at e
    · rename_i q
      obtain⟨rfl,rfl⟩:=cc e
      exact⟨o,l,i.cut x.pre (by rw[st.len];exact q)⟩
    · cases e
 ·cases e
def AD{M:Md}{ρ b:List Addr}{S h f:aC}{H d:Hp}{ds:List D}{a:Addr}{vs:List V}{r:Res}(st:fM M ρ S H)(x:bX ρ H b d)(g:fM M b h d)(fr:H a=none)(n:a∉b)(k:d a=some (.lst vs))(i:a7 M b d ds vs)(e:eB S ds h=some (r,f)):
  bX ρ H ρ d/\fM M ρ f d/\Jl M ρ H d (.ref a) r:=by
 unfold eB at e
 split at e
 ·rename_i c
  obtain⟨j,l⟩:=st.clean x g c.1
  obtain⟨rfl,rfl⟩:=cc e
  exact⟨l,j,a,vs,rfl,fr,λm=>n (x.pre.subset m),k,i.cut x.pre (by rw[st.len];exact c.2)⟩
 ·cases e
def Am{M:Md}{ρ:List Addr}{H:Hp}{ds:List D}{vs:List V}{N:List Str}(r:a7 M ρ H ds vs):En M ρ H (ds.map some++List.replicate (N.length-ds.length) none) (L2.start N vs) where
 len:=by unfold L2.start;simp[r.length]
 get:=λi d q=>by
  unfold L2.start
  by_cases c:i<ds.length
  ·rw[QHq (by rw[lQm];exact c),gQm] at q
   obtain⟨g,f,a⟩:=oQm.mp q
   cases a
   obtain⟨v,e,b⟩:=r.get f
   exact⟨v,by rw[QHq (by rw[lQm,←r.length];exact c),gQm,e];rfl,b⟩
  ·rw[QQq (by rw[lQm];omega)] at q
   have:=mQg q
   rw[List.mem_replicate] at this
   cases this.2
section
variable{P:Program}{w:World}{K:PySem.W.Frag}{mg:Str->Option Value}{base:Heap}
def bq{x c:Str}{st:Stmt}{f:Addr}{L:FuncData}{N ps:List Str}{k:Nat}{b:cO}(F:eA K x c st f L)(S:aG N ps (aA st))
  (h:∀(g:Value) (A:Around) (outer:List Env) (s:Shared) (H:Hp) (E:XK),dY k (A.deeper (envOfC c (aA st) s.heap.objs.size f g))→
   uF (zZ dJ P w K mg base N c (aA st) f g A outer s H E).nox (eO st) (tS ⟨K,mg⟩ b)):bu P w K mg base dJ (k+1) f L ps (dZ ⟨K,mg⟩ ps.length (eP N.length b)):=by
 refine F.ok S (λI H Q E ⟨B,S,X,r,R,G,y,_⟩=>by rw[←y.length];exact G) λg A outer s H I Q E M ⟨B,S,X,r,R,G,y,t,Y,q⟩=>⟨_,h g A outer s H E M,?_⟩
 obtain⟨o,W,e⟩:=ar Y
 refine⟨B,_,S,o,⟨Am y,t⟩,W,?_⟩
 cases o with
 |nx a0 J=>exact λm Z C l u=>by obtain⟨n,j,p⟩:=vp t l u.st .non e;exact q _ _ _ n j p
 |rt d J=>exact λm v C l i z=>by obtain⟨n,j,p⟩:=vp t l i z e;exact q _ _ _ n j p
 |rl d J=>exact λm a I C l i fr na U z=>by obtain⟨n,j,p⟩:=AD t l i fr na U z e;exact q _ _ _ n j p
 |bk=>cases e
 |ct=>cases e
def FM{x c:Str}{st:Stmt}{f:Addr}{C:FuncData}{N ps:List Str}{k:Nat}{b:cO}(F:eA K x c st f C)(S:aG N ps (aA st))
  (h:∀(g:Value) (A:Around) (outer:List Env) (s:Shared) (H:Hp) (E:XK),dY k (A.deeper (envOfC c (aA st) s.heap.objs.size f g))→
   uF (zZ dJ P w K mg base N c (aA st) f g A outer s H E).nox (eO st) (tS ⟨K,mg⟩ b)):bu P w K mg base dJ (k+1) f C ps (dZ ⟨K,mg⟩ ps.length (Jw N.length b)):=by
 refine F.ok S (λm H Q E ⟨u,S,M,r,I,z,p,_⟩=>by rw[←p.length];exact z) λg A outer s H m Q E G ⟨u,S,M,r,I,z,p,X,R,q⟩=>⟨_,h g A outer s H E G,?_⟩
 obtain⟨o,L,e⟩:=ar R
 refine⟨u,_,S,o,⟨Am p,X⟩,L,?_⟩
 cases o with
 |nx Y B=>cases e;exact λl U y j n=>q _ _ _ j n.st .non
 |rt d B=>cases e;exact λl v y j i t=>q _ _ _ j i t
 |rl d B=>cases e;exact λl a m y j i Z W J t=>q _ _ _ j i ⟨a,m,rfl,Z,W,J,t⟩
 |bk=>cases e
 |ct=>cases e
end
section
variable{X:Cx}{x:Str}{k n:Nat}{f:Addr}{fd:FuncData}{ps:List Str}{F:dw}{e:Expr}{es:List Expr}{g:fN}{p pos:Pos}
noncomputable def ay(F:dw)(g:fN):bx:=λh S=>(g h S).bind λ(b,a)=>(F b a).bind λ(r,c)=>match r with
 |.d x=>some (x,c)
 |.l _=>none
def cV(F:dw)(g:fN):fN:=λh S=>(g h S).bind λ(a,b)=>(F a b).bind λ(r,c)=>match r with
 |.d _=>none
 |.l a=>some (a,c)
def nA(n:Nat)(g:fN):Prop:=∀b S a c,g b S=some (a,c)->a.length=n
def AG:nA 0 au:=λ_ _ _ _ e=>by cases e;rfl
def lS{n:Nat}{f:bx}{g:fN}(h:nA n g):nA (n+1) (aq f g):=λl S i m e=>by
 obtain⟨⟨d,c⟩,o,e⟩:=ar e
 obtain⟨⟨b,j⟩,a,e⟩:=ar e
 cases e
 rw[Qnq,h _ _ _ _ a]
def B1{M:Md}(G:nA n g):∀h H Q,tD M (ay F g) h H Q->Gf (dZ M n F) [] E0 (yC M g) h H Q:=λh H Q t=>by
 obtain⟨o,C,S,d,I,ok,e,q⟩:=t
 obtain⟨⟨c,m⟩,j,e⟩:=ar e
 obtain⟨⟨r,u⟩,w,e⟩:=ar e
 refine⟨o,C,S,c,m,ok,j,λb J H1 z i s=>⟨b,m,c,r,u,G _ _ _ _ j,by rw[List.append_nil];exact s,i,w,λy v H2 A a B=> ?_⟩⟩
 cases r with
 |d x=>obtain⟨rfl,rfl⟩:=cc e;exact q _ _ _ (z.trans A) a B
 |l c=>cases e
def HR{M:Md}(J:nA n g):∀i H Q,tL M (cV F g) i H Q->Gf (dZ M n F) [] E0 (yC M g) i H Q:=λi H Q w=>by
 obtain⟨t,I,S,d,K,ok,e,q⟩:=w
 obtain⟨⟨h,o⟩,m,e⟩:=ar e
 obtain⟨⟨r,y⟩,A,e⟩:=ar e
 refine⟨t,I,S,h,o,ok,m,λc z H1 s j u=>⟨c,o,h,r,y,J _ _ _ _ m,by rw[List.append_nil];exact u,j,A,λB v H2 C b G=> ?_⟩⟩
 cases r with
 |d x=>cases e
 | l h=>
   obtain⟨rfl,rfl⟩:=cc e
   obtain⟨a,z,rfl,fr,na,ha,rr⟩:=G
   exact q _ _ _ _ (s.trans C) b (s.grow _ fr) na ha rr
def JZ(G:bu X.prog X.w X.K X.mg X.base dJ k f fd ps (dZ (md X) n F))(d:dY k X.A)(c:Gl X x)(h:X.mg x=some (.ref f))(b:PySem.W.keepIn X.K (.ref f)=true)(i:Binds X.K fd ps [])(j:PA X (e::es) (yC (md X) g))(l:nA n g)
  (a:(x==("__debug__":Str))=false:=by decide) (he:starEach (e::es) X.env=(false,eval e X.env)::starEach es X.env:=by rfl) (hpl:(backTo pos (starEach es X.env)).any (·.1)=false:=by rfl):
  PE X (.Call (.Name x p) (e::es) [] pos) (tD (md X) (ay F g)):=km (BR G d c h b i .nil FK j a he hpl) (B1 l)
def JL(G:bu X.prog X.w X.K X.mg X.base dJ k f fd ps (dZ (md X) n F))(d:dY k X.A)(c:Gl X x)(h:X.mg x=some (.ref f))(b:PySem.W.keepIn X.K (.ref f)=true)(i:Binds X.K fd ps [])(j:PA X (e::es) (yC (md X) g))(l:nA n g)
  (a:(x==("__debug__":Str))=false:=by decide) (he:starEach (e::es) X.env=(false,eval e X.env)::starEach es X.env:=by rfl) (hpl:(backTo pos (starEach es X.env)).any (·.1)=false:=by rfl):
  PE X (.Call (.Name x p) (e::es) [] pos) (tL (md X) (cV F g)):=km (BR G d c h b i .nil FK j a he hpl) (HR l)
end
def jZ{α:Type}(xs:List α)(lo hi:Option Int):List α:=(xs.drop (HT.eR xs.length 0 lo)).take (HT.eR xs.length xs.length hi-HT.eR xs.length 0 lo)
def a7.cut3{M:Md}{ρ:List Addr}{H:Hp}{ds:List D}{vs:List V}{lo hi:Option Int}(h:a7 M ρ H ds vs):a7 M ρ H (jZ ds lo hi) (Bx vs lo hi):=by
 unfold jZ Bx
 rw[h.length]
 exact(h.drop _).take _
def Hm{α:Type}{xs:List α}{lo hi:Option Int}(b:HT.eR xs.length 0 lo=0)(a:HT.eR xs.length xs.length hi=xs.length):jZ xs lo hi=xs:=by
 unfold jZ
 rw[b,a]
 simp
abbrev KM:=cv->aC->Option (Option Int×aC)
def Mu(M:Md)(f:KM):TO:=λg H Q=>∃c d S o e,Ok M c d S g H/\f d S=some (o,e)/\∀a b,bX c H a b->fM M a e b->Q o b
section
variable{X:Cx}{a b c e:Expr}{pos:Pos}{st:Stmt}
def uI:KM:=λ_ S=>some (none,S)
def sF(f:bx):KM:=λh S=>(f h S).bind λ(d,g)=>match d with
 |.int i=>some (some i,g)
 |_=>none
def NH{o:Option Expr}{t t':TO}(h:PO X o t)(w:∀f H Q,t' f H Q->t f H Q):PO X o t':=λd s f H Q I q=>h d s f H Q I (w _ _ _ q)
def Nq:PO X none (Mu (md X) uI):=NH GD λf H Q ⟨d,g,S,o,h,ok,e,q⟩=>by cases e;exact q _ _ bX.refl ok.st
def M4{f:bx}(h:PE X e (tD (md X) f)):PO X (some e) (Mu (md X) (sF f)):=NH (GF h) λs H Q i=>by
 obtain⟨g,m,S,o,p,ok,e,q⟩:=i
 obtain⟨⟨d,k⟩,j,e⟩:=ar e
 dsimp only at e
 split at e
 ·obtain⟨rfl,rfl⟩:=cc e
  refine⟨g,m,S,_,k,ok,j,λl v n x st r=> ?_⟩
  cases r
  exact⟨_,rfl,q _ _ x st⟩
 ·cases e
def uq(f:bx)(lo hi:KM):bx:=λg S=>(f g S).bind λ(d,i)=>(lo g i).bind λ(l,k)=>(hi g k).bind λ(h,m)=>match d with
 |.tup j=>some (.tup (jZ j l h),m)
 |_=>none
def MA{lo hi:Option Expr}{L:Pos}{f:bx}{l h:KM}(he:PE X e (tD (md X) f))(hl:PO X lo (Mu (md X) l))(M:PO X hi (Mu (md X) h)):PE X (.Subscript e (.Slice lo hi none L) pos) (tD (md X) (uq f l h)):=
 km (FA HH he hl M) λZ H Q J=>by
  obtain⟨G,u,S,d,Y,ok,e,q⟩:=J
  obtain⟨⟨x,B⟩,R,e⟩:=ar e
  obtain⟨⟨A,w⟩,U,e⟩:=ar e
  obtain⟨⟨F,K⟩,W,e⟩:=ar e
  cases x with
  | tup z=>
    dsimp only at e
    obtain⟨rfl,rfl⟩:=cc e
    refine⟨G,u,S,_,B,ok,R,λo v H1 s j I=>⟨o,u,B,A,w,ok.to s j,U,λr H2 t n=>⟨r,u,w,F,K,(ok.to s j).to t n,W,λP H3 C g=> ?_⟩⟩⟩
    have i:=(s.trans t).trans C
    have N:=I.ext (t.trans C)
    cases N with
    | tup y k=>
      refine⟨_,_,rfl,gJ.of y,λc=> ?_,λc p m=> ?_⟩
      · have:jZ z A F=z:=Hm (by rw[k.length];exact c.1) (by rw[k.length];exact c.2)
        rw[this] at q
        exact q _ _ _ i g (.tup y k)
      · exact q _ _ _ (i.trans (bX.laid m)) (g.lay m) (.tup bI (k.cut3.ext (bX.laid m)))
  |_=>cases e
open Classical in
def Ak(f g:dz):fN:=λh S=>(f h S).bind λ(p,i)=>(g h i).bind λ(r,d)=>if p.2.isM=true/\r.2.isM=true/\p.2.stays d p.1/\p.1.length+r.1.length<=sizeLine then some (p.1++r.1,d) else none
def Me{f g:dz}(C:PE X a (tQ (md X) f))(P:PE X b (tQ (md X) g)):PE X (.BinOp a .Add b pos) (tL (md X) (Ak f g)):=km (qZ JW C P) λW H Q z=>by
 obtain⟨w,v,S,d,R,ok,e,q⟩:=z
 obtain⟨⟨⟨I,t⟩,o⟩,F,e⟩:=ar e
 obtain⟨⟨⟨L,x⟩,B⟩,G,e⟩:=ar e
 dsimp only at e
 split at e
 ·rename_i c
  obtain⟨rfl,rfl⟩:=cc e
  refine⟨w,v,S,I,t,o,ok,F,λk a U H1 r l A y=>⟨k,v,o,L,x,B,ok.to r l,G,λJ b K H2 s h N u=> ?_⟩⟩
  obtain⟨m,M,n⟩:=A.to y s h c.2.2.1
  have i:=r.trans s
  refine⟨_,_,m,K,rfl,rfl,M.sqM c.1,N.sqM c.2.1,by rw[←n.length,←u.length];exact c.2.2.2,λp j=> ?_⟩
  exact q _ _ _ _ (i.trans (bX.laid j)) (h.lay j) (i.grow _ j) (dg i h j) bI ((n.append u).ext (bX.laid j))
 ·cases e
open Classical in
def AO(f:dz)(g:bx):fN:=λh S=>(f h S).bind λ(p,i)=>(g h i).bind λ(r,d)=>match r with
 |.int k=>if p.2.isM=true/\p.2.stays d p.1/\ -(2^63)<=k/\k<2^63/\p.1.length*k.toNat<=sizeLine then some ((List.replicate k.toNat p.1).flatten,d) else none
 |_=>none
def NO{f:dz}{g:bx}(F:PE X a (tQ (md X) f))(M:PE X b (tD (md X) g)):PE X (.BinOp a .Mult b pos) (tL (md X) (AO f g)):=km (qZ Kr F M) λU H Q A=>by
 obtain⟨y,x,S,d,P,ok,e,q⟩:=A
 obtain⟨⟨⟨J,t⟩,s⟩,G,e⟩:=ar e
 obtain⟨⟨r,C⟩,I,e⟩:=ar e
 cases r with
 | int k=>
   dsimp only at e
   split at e
   · rename_i c
     obtain⟨rfl,rfl⟩:=cc e
     refine⟨y,x,S,J,t,s,ok,G,λl a R H1 u m B z=>⟨l,x,s,_,C,ok.to u m,I,λK w H2 v h N=> ?_⟩⟩
     obtain⟨n,L,o⟩:=B.to z v h c.2.1
     have i:=u.trans v
     cases N
     refine⟨_,k,n,rfl,rfl,L.sqM c.1,c.2.2.1,c.2.2.2.1,by rw[←o.length];exact c.2.2.2.2,λp j=> ?_⟩
     exact q _ _ _ _ (i.trans (bX.laid j)) (h.lay j) (i.grow _ j) (dg i h j) bI ((o.rep _).ext (bX.laid j))
   · cases e
 |_=>cases e
open Classical in
def eqQ(d:Bool)(f g:dz):bx:=λk S=>(f k S).bind λ(p,l)=>(g k l).bind λ(r,h)=>if p.2.isL=true/\r.2.isL=true/\p.2.stays h p.1 then(gB p.1).bind λj=>(gB r.1).bind λi=>some (.bl (if d then !Ed j i else Ed j i),h) else none
def LS{i:Bool}{f g:dz}:∀l H Q,tD (md X) (eqQ i f g) l H Q->FV (Ja X.K i) (tQ (md X) f) (tQ (md X) g) l H Q:=λl H Q w=>by
 obtain⟨s,r,S,d,R,ok,e,q⟩:=w
 obtain⟨⟨⟨C,t⟩,n⟩,A,e⟩:=ar e
 obtain⟨⟨⟨J,u⟩,y⟩,B,e⟩:=ar e
 dsimp only at e
 split at e
 ·rename_i c
  obtain⟨Y,F,e⟩:=ar e
  obtain⟨U,N,e⟩:=ar e
  obtain⟨rfl,rfl⟩:=cc e
  refine⟨s,r,S,C,t,n,ok,A,λk a W H1 o m x v=>⟨k,r,n,J,u,y,ok.to o m,B,λG b I H2 p h M P=> ?_⟩⟩
  obtain⟨j,L,z⟩:=x.to v p h c.2.2
  obtain⟨rfl,f1⟩:=i8 z F
  obtain⟨rfl,f2⟩:=i8 P N
  exact⟨a,b,j,I,rfl,rfl,L.sqL c.1,M.sqL c.2.1,f1,f2,q _ _ _ (o.trans p) h (.bl _)⟩
 ·cases e
def N8{f g:dz}(d:X.A.units<cLine)(h:PE X a (tQ (md X) f))(i:PE X b (tQ (md X) g)):PT X (.Compare a [.Eq] [b] pos) (tB (md X) (aF (eqQ false f g))):=nK LS (iH (Jp d) h i (eW _))
open Classical in
def cJ(f:dz):bx:=λg S=>(f g S).bind λ(p,d)=>if p.2.isL=true/\p.2.stays d p.1 then some (.bl (!p.1.isEmpty),d) else none
def B8{f:dz}:∀k H Q,tD (md X) (cJ f) k H Q->FV (Fz X.K) (tQ (md X) f) (tL (md X) (bg au)) k H Q:=λk H Q s=>by
 obtain⟨p,o,S,d,C,ok,e,q⟩:=s
 obtain⟨⟨⟨x,t⟩,j⟩,w,e⟩:=ar e
 dsimp only at e
 split at e
 ·rename_i c
  obtain⟨rfl,rfl⟩:=cc e
  refine⟨p,o,S,x,t,j,ok,w,λi a I H1 m l u r=>⟨i,o,j,[],j,ok.to m l,rfl,λy b G H2 n g J F A B=> ?_⟩⟩
  obtain⟨h,z,v⟩:=u.to r n g c.2
  cases B
  refine⟨a,b,h,rfl,rfl,z.sqL c.1,g6.of A,?_⟩
  rw[←v.isEmpty]
  exact q _ _ _ (m.trans n) g (.bl _)
 ·cases e
def Ip:PE X (.List [] pos) (tL (md X) (bg au)):=gM aW
def Mn{f:dz}{p:Pos}(g:X.A.units<cLine)(d:PE X a (tQ (md X) f)):PE X (.Compare a [.NotEq] [.List [] p] pos) (tD (md X) (cJ f)):=km (B3 (yJ g) d Ip (eW _)) B8
def rY{f:dz}{p:Pos}(g:X.A.units<cLine)(d:PE X a (tQ (md X) f)):PT X (.Compare a [.NotEq] [.List [] p] pos) (tB (md X) (aF (cJ f))):=nK B8 (iH (yJ g) d Ip (eW _))
def fM.putL{M:Md}{ρ:List Addr}{S:aC}{H:Hp}{k:Nat}{a:Addr}{ds g:List D}{ws:List V}(st:fM M ρ S H)(d:ρ[k]?=some a)(f:S[k]?=some (.lst ds))(r:a7 M ρ H g ws):fM M ρ (S.set k (.lst g)) (upd H a (.lst ws))/\bX ρ H ρ (upd H a (.lst ws)):=by
 obtain⟨l,i,j⟩:=st.obj k a _ d f
 exact st.put d f ⟨ws,bI,r.off i⟩ λx h=>by rw[i] at h;cases h;exact id
def nM(m:List D->List D->Option (List D×D))(f:bx)(g:fN):bx:=λj S=>(f j S).bind λ(x,h)=>match x with
 | .ref k=>(g j h).bind λ(l,i)=>match h[k]?,i[k]? with
   |some (.lst _),some (.lst ds)=>(m ds l).bind λ(n,d)=>some (d,i.set k (.lst n))
   |_,_=>none
 |_=>none
def KY(M:Md)(r:V->List V->Hp->VK->Prop)(m:List D->List D->Option (List D×D)):Prop:=∀{f:List Addr} {H:Hp} {a:Addr} {h l j:List D} {d:D} {i k:List V} {Q:VK},H a=some (.lst i)->a7 M f H h i->a7 M f H l k->m h l=some (j,d)→
 (∀g w,a7 M f H j g->Rel M f H d w->Q w (upd H a (.lst g)))->r (.ref a) k H Q
def MM{m:List D->List D->Option (List D×D)}{r:V->List V->Hp->VK->Prop}{f:bx}{g:fN}(ho:KY (md X) r m):∀t H Q,tD (md X) (nM m f g) t H Q->Mx X.K "list" r (tD (md X) f) (yC (md X) g) t H Q:=λt H Q I=>by
 obtain⟨F,C,S,d,S',ok,e,q⟩:=I
 obtain⟨⟨x,y⟩,M,e⟩:=ar e
 cases x with
 | ref k=>
   dsimp only at e
   obtain⟨⟨W,L⟩,N,e⟩:=ar e
   dsimp only at e
   split at e
   · rename_i R ds n i
     obtain⟨⟨es,d'⟩,P,e⟩:=ar e
     obtain⟨rfl,rfl⟩:=cc e
     refine⟨F,C,S,_,y,ok,M,λs v H1 z l G=> ?_⟩
     cases G with
     | ref u=>
       rename_i a
       obtain⟨o,Z,_⟩:=l.obj k a _ u n
       refine⟨.inl ⟨rfl,o,g6.of Z⟩,s,C,y,W,L,ok.to z l,N,λU us H2 B h r2=> ?_⟩
       have j:=dt B.pre u
       obtain⟨vs,J,Y⟩:=h.obj k a _ j i
       refine ho J Y r2 P λws w rw rd=> ?_
       obtain⟨p,A⟩:=h.putL j i rw
       exact q _ _ _ ((z.trans B).trans A) p (rd.ext A)
   · cases e
 |_=>cases e
def eQ:List D->List D->Option (List D×D):=λd f=>match f with
 | [y]=>if d.length<sizeLine then some (d++ [y],.non) else none
 |_=>none
def Ji{M:Md}:KY M B6 eQ:=by
 intro k H a l o n d h m Q j g f e q
 unfold eQ at e
 split at e
 ·split at e
  ·rename_i hl
   obtain⟨rfl,rfl⟩:=cc e
   cases f with
   | cons f i=>
     cases i
     exact⟨a,h,_,rfl,rfl,j,by rw[←g.length];exact hl,q _ _ (g.append (.cons f .nil)) .non⟩
  ·cases e
 ·cases e
def c_{f:bx}{g:bx}{o:Expr}{h d:Pos}(m:PE X o (tD (md X) f))(n:PE X e (tD (md X) g))(i:attributeBase o "append" X.env (eval o X.env)=eval o X.env:=by rfl) (k:((backTo d (starEach [e] X.env)).all (λx=> !x.1)&&(backToKw d (keywordEach [] X.env)).all (λx=>x.1.isSome)
   &&decide ([e].length+([]:List Keyword).length+(if ([]:List Keyword).isEmpty then 0 else 1)<30))=true:=by rfl)
  (j:(h.endLine==d.line)=true:=by rfl) (l:starEach [e] X.env= [(false,eval e X.env)]:=by rfl):PE X (.Call (.Attribute o "append" h) [e] [] d) (tD (md X) (nM eQ f (aq g au))):=
 km (vX PySem.F.plainAttrs_list PySem.F.slot_list_append PySem.F.type_list_append pX m (az n aW l) i k j l) (MM Ji)
end
section
variable{X:Cx}{a b c e:Expr}{pos:Pos}{st:Stmt}
def zr(f:bx)(g:dz):bx:=λi S=>(f i S).bind λ(x,d)=>match x with
 | .ref k=>(g i d).bind λ(p,h)=>match d[k]?,h[k]? with
   |some (.lst _),some (.lst ds)=>if p.2.isM=true/\ds.length+p.1.length<=sizeLine then some (.non,h.set k (.lst (ds++p.1))) else none
   |_,_=>none
 |_=>none
def Lg{f:bx}{g:dz}:∀r H Q,tD (md X) (zr f g) r H Q->Mx X.K "list" Cu (tD (md X) f) (FN (tQ (md X) g) IY) r H Q:=λr H Q G=>by
 obtain⟨C,B,S,d,S',ok,e,q⟩:=G
 obtain⟨⟨x,w⟩,L,e⟩:=ar e
 cases x with
 | ref k=>
   dsimp only at e
   obtain⟨⟨⟨R,t⟩,I⟩,M,e⟩:=ar e
   dsimp only at e
   split at e
   · rename_i N ds m i
     split at e
     · rename_i c
       obtain⟨rfl,rfl⟩:=cc e
       refine⟨C,B,S,_,w,ok,L,λp v H1 y l F=> ?_⟩
       cases F with
       | ref s=>
         rename_i a
         obtain⟨n,Z,_⟩:=l.obj k a _ s m
         refine⟨.inl ⟨rfl,n,g6.of Z⟩,p,B,w,R,t,I,ok.to y l,M,λP b us H2 z h Y A=> ?_⟩
         have j:=dt z.pre s
         obtain⟨J,U,u⟩:=h.obj k a _ j i
         refine⟨a,b,J,us,rfl,rfl,U,Y.sqM c.1,by rw[←u.length,←A.length];exact c.2,?_⟩
         obtain⟨o,W⟩:=h.putL j i (u.append A)
         exact q _ _ _ ((y.trans z).trans W) o .non
     · cases e
   · cases e
 |_=>cases e
def Ff{f:bx}{g:dz}{o:Expr}{h d:Pos}(m:PE X o (tD (md X) f))(n:PE X e (tQ (md X) g))(i:attributeBase o "extend" X.env (eval o X.env)=eval o X.env:=by rfl) (k:((backTo d (starEach [e] X.env)).all (λx=> !x.1)&&(backToKw d (keywordEach [] X.env)).all (λx=>x.1.isSome)
   &&decide ([e].length+([]:List Keyword).length+(if ([]:List Keyword).isEmpty then 0 else 1)<30))=true:=by rfl)
  (j:(h.endLine==d.line)=true:=by rfl) (l:starEach [e] X.env= [(false,eval e X.env)]:=by rfl):PE X (.Call (.Attribute o "extend" h) [e] [] d) (tD (md X) (zr f g)):=
 km (vX PySem.F.plainAttrs_list PySem.F.slot_list_extend PySem.F.type_list_extend D8 m (da n fJ l) i k j l) Lg
def KD(f g:bx):me:=λd h S=>(f h S).bind λ(x,m)=>(g h m).bind λ(y,l)=>match x,y with
 | .ref k,.int i=>match l[k]? with
   |some (.lst ds)=>(Gs ds.length i).bind λj=>some (h,l.set k (.lst (ds.set j d)))
   |_=>none
 |_,_=>none
def MT{f g:bx}:∀v p H Q,tG (md X) (KD f g) v p H Q->KQ (tD (md X) f) (tD (md X) g) Ij v p H Q:=λv p H Q I=>by
 obtain⟨G,C,S,d,L,Z,ok,r,e,q⟩:=I
 obtain⟨⟨x,w⟩,M,e⟩:=ar e
 obtain⟨⟨y,J⟩,N,e⟩:=ar e
 cases x with
 | ref k=>
   cases y with
   | int i=>
     dsimp only at e
     split at e
     · rename_i ds F
       obtain⟨j,P,e⟩:=ar e
       obtain⟨rfl,rfl⟩:=cc e
       refine⟨G,C,S,_,w,ok,M,λo v1 H1 z s m=>⟨o,C,w,_,J,ok.to z s,N,λR Y H2 B h W=> ?_⟩⟩
       cases W
       have m:=m.ext B
       cases m with
       | ref t=>
         obtain⟨K,U,u⟩:=h.obj k _ _ t F
         have l:=z.trans B
         obtain⟨n,A⟩:=h.putL t F (a7.set (r.ext l) j u)
         exact⟨_,K,i,j,rfl,rfl,U,by rw[←u.length];exact P,q _ _ _ (l.trans A) ((ok.to l h).to A n)⟩
     · cases e
   |_=>cases e
 |_=>cases e
def N1{o i:Expr}{f g:bx}(d:PE X o (tD (md X) f))(hi:PE X i (tD (md X) g))
  (h:∀v,assign (.Subscript o i pos) X.env v=(do
   let ov←holding [v] (eval o X.env)
   let iv←holding [v,ov] (eval i X.env)
   standAt pos
   holding [v,ov,iv] (setItem ov iv v)
   release [v,ov,iv] []):=by intro _;rfl):PG X (.Subscript o i pos) (tG (md X) (KD f g)):=MY (JQ d hi set_list h) MT
def yO(i j:Nat)(f:fN):cO:=λd S=>(f d S).bind λ(h,g)=>match h with
 | [v,w]=>some (.nx ((d.set i (some v)).set j (some w)) g)
 |_=>none
def E5{i j:Nat}{f:fN}(h:PS X st (Lm i j (yC (md X) f))):PS X st (tS (md X) (yO i j f)):=Dm h λD w H k=>by
 obtain⟨g,s,S,o,ok,e,q⟩:=k
 obtain⟨⟨v,m⟩,l,e⟩:=ar e
 dsimp only at e
 split at e
 ·cases e
  refine⟨g,s,S,_,m,ok,l,λn u t x st r=> ?_⟩
  cases r with
  | cons r d=>
    cases d with
    | cons p d=>
      cases d
      exact⟨_,_,rfl,q _ _ _ x ⟨((ok.en.ext x).set r).set p,st⟩⟩
 ·cases e
end
def dS(cells:List (Str×Addr)):List (Str×NameKind)->List (Str×Addr)->List (Str×Addr)
 | [],acc=>acc
 |(n,k)::r,acc=>if (k==.free)=true then dS cells r ((n,(cells.lookup n).getD 0)::acc) else dS cells r acc
theorem pP{env:Env}:∀(names:List (Str×NameKind)) (b:List (Str×Addr)),(∀y∈names,y.2=.free->(env.cells.lookup y.1).isSome=true)→
  (forIn names b λ(x:Str×NameKind) (cs:List (Str×Addr))=>(do
   if (x.2==NameKind.free)=true then do
    let c←cellOf env x.1
    pure (ForInStep.yield ((x.1,c)::cs))
   else pure (ForInStep.yield cs):Sem (ForInStep (List (Str×Addr)))))=(pure (dS env.cells names b):Sem _)
 | [],b,_=>rfl
 | (n,k)::r,b,h=>by
   rw[List.forIn_cons]
   unfold dS
   by_cases c:(k==NameKind.free)=true
   · obtain⟨a,e⟩:=Option.isSome_iff_exists.mp (h (n,k) QBq (by simpa using c))
     simp only[c,if_true]
     have f:cellOf env n=pure a:=by
       unfold cellOf
       rw[e]
     rw[f,pure_bind,pure_bind,e]
     exact pP r _ λy d=>h y (Qpq _ d)
   · simp only[c,Bool.false_eq_true,if_false]
     rw[pure_bind]
     exact pP r _ λy d=>h y (Qpq _ d)
def EZ{a:Scope}{env:Env}(h:∀y∈a.names,y.2=.free->(env.cells.lookup y.1).isSome=true):closureFor a env=pure (dS env.cells a.names []):=by
 unfold closureFor
 have:=pP a.names [] h
 rw[bind_pure]
 exact this
theorem sr{cells:List (Str×Addr)}:∀(names:List (Str×NameKind)) (a:List (Str×Addr)) (p:Str×Addr),p∈dS cells names a->p∈a\/∃n,(n,NameKind.free)∈names/\p=(n,(cells.lookup n).getD 0)
 | [],a,p,h=>.inl h
 | (n,k)::r,a,p,h=>by
   unfold dS at h
   split at h
   · rename_i c
     rcases sr r _ p h with h|⟨m,d,b⟩
     · rcases Qsq.mp h with h|h
       · exact .inr ⟨n,by rw[show k=NameKind.free by simpa using c];exact QBq,h⟩
       · exact .inl h
     · exact .inr ⟨m,Qpq _ d,b⟩
   · rcases sr r _ p h with h|⟨m,d,b⟩
     · exact .inl h
     · exact .inr ⟨m,Qpq _ d,b⟩
theorem tE{cells:List (Str×Addr)}{x:Str}:∀(names:List (Str×NameKind)) (a:List (Str×Addr)),((x,NameKind.free)∈names\/∃c,(x,c)∈a)->∃c,(x,c)∈dS cells names a
 | [],a,h=>by
   rcases h with h|h
   · cases h
   · exact h
 | (n,k)::r,a,h=>by
   unfold dS
   split
   · rename_i c
     refine tE r _ ?_
     rcases h with h|⟨c,h⟩
     · rcases Qsq.mp h with h|h
       · cases h;exact .inr ⟨_,QBq⟩
       · exact .inl h
     · exact .inr ⟨c,Qpq _ h⟩
   · rename_i c
     refine tE r _ ?_
     rcases h with h|h
     · rcases Qsq.mp h with h|h
       · cases h;exact absurd rfl c
       · exact .inl h
     · exact .inr h
theorem mr{x:Str}{c:Addr}:∀{l:List (Str×Addr)},(x,c)∈l->∃b,l.lookup x=some b
 | [],h=>by cases h
 | (n,d)::r,h=>by
   unfold List.lookup
   by_cases e:(x==n)=true
   · rw[e];exact⟨d,rfl⟩
   · have a:(x==n)=false:=by simpa using e
     rw[a]
     rcases Qsq.mp h with h|h
     · cases h;simp at e
     · exact mr h
def uE(b:List Str)(a:Str->Option NameKind)(names:List (Str×NameKind)):List (Option Nat)->List Str->Bool
 |some j::js,x::N=>(b[j]? ==some x)&&(a x==some .cell||a x==some .free)&&(names.lookup x==some .free)&&uE b a names js N
 |none::js,_::N=>uE b a names js N
 |_,_=>true
theorem uD{b:List Str}{a:Str->Option NameKind}{names:List (Str×NameKind)}:∀{js:List (Option Nat)} {N:List Str} {k j:Nat} {x:Str},uE b a names js N=true->js[k]?=some (some j)->N[k]?=some x->b[j]?=some x/\(a x=some .cell\/a x=some .free)/\names.lookup x=some .free
 | some i::js,y::N,0,j,x,h,h1,h2=>by
   cases h1
   cases h2
   simp only[uE,QCq,Bool.or_eq_true,beq_iff_eq] at h
   exact⟨h.1.1.1,h.1.1.2,h.1.2⟩
 | some i::js,y::N,k+1,j,x,h,h1,h2=>by
   simp only[uE,QCq] at h
   exact uD h.2 (by simpa using h1) (by simpa using h2)
 |none::js,y::N,0,j,x,h,h1,h2=>by cases h1
 |none::js,y::N,k+1,j,x,h,h1,h2=>uD (k:=k) (by simpa [uE] using h) (by simpa using h1) (by simpa using h2)
 | [],N,k,j,x,h,h1,h2=>by simp at h1
 |some i::js,[],k,j,x,h,h1,h2=>by simp at h2
 |none::js,[],k,j,x,h,h1,h2=>by simp at h2
theorem pd{env:Env}{x:Str}:∀{names:List (Str×NameKind)},names.lookup x=some .free->(names.map λ(n,k)=>if (k==NameKind.free&&env.scope.kind==.function&&env.kindOf n==some .cell) then(n,NameKind.cell) else(n,k)).lookup x=some .cell∨
  (names.map λ(n,k)=>if (k==NameKind.free&&env.scope.kind==.function&&env.kindOf n==some .cell) then(n,NameKind.cell) else(n,k)).lookup x=some .free
 | [],h=>by cases h
 | (n,k)::r,h=>by
   unfold List.lookup at h
   rw[QDq]
   by_cases e:(x==n)=true
   · rw[e] at h
     cases h
     dsimp only
     split
     · left;unfold List.lookup;rw[e]
     · right;unfold List.lookup;rw[e]
   · have a:(x==n)=false:=by simpa using e
     rw[a] at h
     have b:=pd (env:=env) h
     dsimp only
     split <;>(unfold List.lookup;rw[a];exact b)
def aM.gen{X:Cx}{N:List Str}{js:List (Option Nat)}{d:Scope}(k:d.kind=.function)(o:d.names.all (λy=>y.2 !=.cell)=true)(w:d.names.all (λy=>y.2 !=.local||d.names.lookup y.1==some .local)=true)
  (q:d.names.all (λy=>y.2 !=.free||(X.env.cells.lookup y.1).isSome)=true) (t:uE X.N X.env.kindOf d.names js N=true) (s:js.length=N.length):aM X N js d (dS X.env.cells d.names []) where
 kind:=k
 nocell:=λy f=>by
  have:=QUq.mp o y f
  simpa using this
 names:=λy f e=>by
  have:=QUq.mp w y f
  rw[e] at this
  simpa using this
 clos:=EZ λy f e=>by
  have:=QUq.mp q y f
  rw[e] at this
  simpa using this
 sub:=λx c h=>by
  rcases sr _ _ _ (PySem.mem_of_lookup h) with h|⟨n,m,e⟩
  ·cases h
  ·cases e
   have:=QUq.mp q _ m
   have A:(X.env.cells.lookup x).isSome=true:=by simpa using this
   obtain⟨c,g⟩:=Option.isSome_iff_exists.mp A
   rw[g]
   rfl
 has:=λx h=>by
  have l:(x,NameKind.free)∈d.names:=by
   have:∃k,(relabel d X.env).names.lookup x=some k/\(k=.cell\/k=.free):=by
    rcases h with h|h
    ·exact⟨_,h,.inl rfl⟩
    ·exact⟨_,h,.inr rfl⟩
   obtain⟨B,u,g⟩:=this
   have p:=PySem.mem_of_lookup u
   unfold relabel at p
   obtain⟨⟨n,v⟩,f,i⟩:=Qkq.mp p
   dsimp only at i
   split at i
   ·rename_i c
    cases i
    simp only[QCq] at c
    have:v=NameKind.free:=by simpa using c.1.1
    rw[←this]
    exact f
   ·cases i
    rcases g with z|z
    ·have:=QUq.mp o _ f
     rw[z] at this
     simp at this
    ·rw[←z];exact f
  obtain⟨c,g⟩:=tE (cells:=X.env.cells) d.names [] (.inl l)
  exact mr g
 cap:=λk j x r m=>by
  obtain⟨a,b,c⟩:=uD t r m
  refine⟨a,b,?_⟩
  unfold relabel
  exact pd c
 len:=s
structure eX(P:Program)(w:World)(K:PySem.W.Frag)(mg:Str->Option Value)(base:Heap)(k:Nat)(x:Str)(ps:List Str)(F:dw):Prop where
 ex:∃f fd,bu P w K mg base dJ k f fd ps (dZ ⟨K,mg⟩ ps.length F)/\Binds K fd ps []/\PySem.W.keepIn K (.ref f)=true/\mg x=some (.ref f)
section
variable{X:Cx}{x:Str}{k n:Nat}{ps:List Str}{F:dw}{e:Expr}{es:List Expr}{g:fN}{p pos:Pos}
def KP(C:eX X.prog X.w X.K X.mg X.base k x ps F)(d:dY k X.A)(c:Gl X x)(h:PA X (e::es) (yC (md X) g))(j:nA ps.length g)
  (a:(x==("__debug__":Str))=false:=by decide) (he:starEach (e::es) X.env=(false,eval e X.env)::starEach es X.env:=by rfl) (hpl:(backTo pos (starEach es X.env)).any (·.1)=false:=by rfl):
  PE X (.Call (.Name x p) (e::es) [] pos) (tD (md X) (ay F g)):=by
 obtain⟨f,l,G,b,i,m⟩:=C.ex
 exact JZ G d c m i b h j a he hpl
def L7(C:eX X.prog X.w X.K X.mg X.base k x ps F)(d:dY k X.A)(c:Gl X x)(h:PA X (e::es) (yC (md X) g))(j:nA ps.length g)
  (a:(x==("__debug__":Str))=false:=by decide) (he:starEach (e::es) X.env=(false,eval e X.env)::starEach es X.env:=by rfl) (hpl:(backTo pos (starEach es X.env)).any (·.1)=false:=by rfl):
  PE X (.Call (.Name x p) (e::es) [] pos) (tL (md X) (cV F g)):=by
 obtain⟨f,l,G,b,i,m⟩:=C.ex
 exact JL G d c m i b h j a he hpl
end
def eX.mono{P:Program}{w:World}{K:PySem.W.Frag}{mg:Str->Option Value}{base:Heap}{j k:Nat}{x:Str}{ps:List Str}{F:dw}(C:eX P w K mg base j x ps F)(h:j<=k):eX P w K mg base k x ps F:=by
 obtain⟨f,a,G,b,c,m⟩:=C.ex
 exact⟨f,a,G.mono h,b,c,m⟩
structure Bl(mg:Str->Option Value):Prop where
 len:mg "len"=none
 tuple:mg "tuple"=none
 list:mg "list"=none
 dict:mg "dict"=none
 set:mg "set"=none
 int:mg "int"=none
 str:mg "str"=none
 bool:mg "bool"=none
 all:mg "all"=none
 any:mg "any"=none
 range:mg "range"=none
 zip:mg "zip"=none
 sorted:mg "sorted"=none
 isi:mg "isinstance"=none
 min:mg "min"=none
 max:mg "max"=none
 abs:mg "abs"=none
 enum:mg "enumerate"=none
open AutoSeq1 in
def mT(l:Addr)(items:Array Value)(n:Nat)(b:Addr)(a:Array Value)(o:Nat)(m:Option Addr)(j:Array (Option Value))(k:¬(!items.isEmpty&&Builtin.List.listTooLong (items.size+a.size))=true)(e:items.size<=sizeLine)(f:items.size+a.size<=sizeLine+1):
  Meets (Builtin.«list.extend» ⟨[.ref l,.ref b],[]⟩) (λ_ R s=>s.heap.get? l=some {cls:=.type "list",dict:=none,data:=.seq items n,slots:= #[]}/\s.heap.get? b=some {cls:=.type "tuple",dict:=m,data:=.seq a o,slots:=j}/\R (.ok (.ret Value.none)) {s with heap:=s.heap.update l (Obj.mapSeq λx=>x++a),toks:=s.toks}):=
 .of_wp λi w A R s h=>by
  obtain⟨q,g,d,v,r⟩:=s;obtain⟨hl,p,h⟩:=h;have z:=idx_int;have y:=AutoSeq1.sub_tuple_tuple;have u:=AutoSeq1.sub_list_list;have t:=AutoSeq1.sub_tuple_list;have B:=AutoSeq1.sub_list_tuple;
  have c:(items++a).size<=sizeLine+1:=by rw[Array.size_append];exact f
  wp_walk using (wpAny_updateSeq hl rfl (hz:=e) (_hz':=c)),AutoSeq1.wpAny_loadPart' hl,AutoSeq1.wpAny_loadPart' p;exact⟨_,rfl,h⟩
section
variable{X:Cx}{a b c e:Expr}{pos:Pos}{st:Stmt}
def HU:MG X "list.extend" (λx vs H Q=>∃l b xs i,x=.ref l/\vs= [.ref b]/\H l=some (.lst xs)/\gJ X.K H b i/\xs.length+i.length<=sizeLine/\Q .non (upd H l (.lst (xs++i)))):=by
 intro k s N H x vs v P Q I A y h
 obtain⟨l,b,xs,i,rfl,rfl,hH,hB,hz,q⟩:=h
 cases A
 obtain⟨u,rfl,ru⟩:=y.one
 cases ru
 obtain⟨z,f,n,r,hl,e⟩:=I.lstM hH
 obtain⟨d,m,⟨⟨C,B,w,t⟩,G,p,M,o⟩,J⟩:=I.tuple hB
 have L:=m.length
 simp only at p o
 subst p o
 have j:f.toArray.size+d.toArray.size<=sizeLine:=by rw[Qjq,Qjq];omega
 have g:¬(!f.toArray.isEmpty&&Builtin.List.listTooLong (f.toArray.size+d.toArray.size))=true:=by
  rw[tT j,Bool.and_false]
  exact Qtq
 refine call_meets F.slot_list_extend ⟨_,e,rfl⟩ F.entry_list_extend (F.args_list_extend_2 _ _)
  (mT l f.toArray n b d.toArray M B t g (by rw[Qjq];omega) (by omega)) ⟨e,G,?_⟩
 refine⟨.non,_,I.lset (its':=f++d) hH e (by simp) (r.append m) ?_,rfl,q⟩
 rw[lQa]
 omega
def vV(f:bx)(g:dz):bx:=λi S=>(f i S).bind λ(x,d)=>match x with
 | .ref k=>(g i d).bind λ(p,h)=>match d[k]?,h[k]? with
   |some (.lst _),some (.lst ds)=>if p.2.isL=false/\ds.length+p.1.length<=sizeLine then some (.non,h.set k (.lst (ds++p.1))) else none
   |_,_=>none
 |_=>none
def JR{f:bx}{g:dz}:∀s H Q,tD (md X) (vV f g) s H Q->Mx X.K "list" (λx vs H Q=>∃l b xs u,x=.ref l/\vs= [.ref b]/\H l=some (.lst xs)/\gJ X.K H b u/\xs.length+u.length<=sizeLine/\Q .non (upd H l (.lst (xs++u)))) (tD (md X) f) (FN (tQ (md X) g) IY) s H Q:=λs H Q J=>by
 obtain⟨G,F,S,d,S',ok,e,q⟩:=J
 obtain⟨⟨x,z⟩,M,e⟩:=ar e
 cases x with
 | ref k=>
   dsimp only at e
   obtain⟨⟨⟨U,t⟩,L⟩,N,e⟩:=ar e
   dsimp only at e
   split at e
   · rename_i P ds n i
     split at e
     · rename_i c
       obtain⟨rfl,rfl⟩:=cc e
       refine⟨G,F,S,_,z,ok,M,λr v H1 A m I=> ?_⟩
       cases I with
       | ref w=>
         rename_i a
         obtain⟨o,g1,_⟩:=m.obj k a _ w n
         refine⟨.inl ⟨rfl,o,g6.of g1⟩,r,F,z,U,t,L,ok.to A m,N,λR b us H2 B h Z C=> ?_⟩
         have j:=dt B.pre w
         obtain⟨vs,W,y⟩:=h.obj k a _ j i
         refine⟨a,b,vs,us,rfl,rfl,W,Z.sqT c.1,by rw[←y.length,←C.length];exact c.2,?_⟩
         obtain⟨p,Y⟩:=h.putL j i (y.append C)
         exact q _ _ _ ((A.trans B).trans Y) p .non
     · cases e
   · cases e
 |_=>cases e
def KI{f:bx}{g:dz}{o:Expr}{h d:Pos}(m:PE X o (tD (md X) f))(n:PE X e (tQ (md X) g))(i:attributeBase o "extend" X.env (eval o X.env)=eval o X.env:=by rfl) (k:((backTo d (starEach [e] X.env)).all (λx=> !x.1)&&(backToKw d (keywordEach [] X.env)).all (λx=>x.1.isSome)
   &&decide ([e].length+([]:List Keyword).length+(if ([]:List Keyword).isEmpty then 0 else 1)<30))=true:=by rfl)
  (j:(h.endLine==d.line)=true:=by rfl) (l:starEach [e] X.env= [(false,eval e X.env)]:=by rfl):PE X (.Call (.Attribute o "extend" h) [e] [] d) (tD (md X) (vV f g)):=
 km (vX PySem.F.plainAttrs_list PySem.F.slot_list_extend PySem.F.type_list_extend HU m (da n fJ l) i k j l) JR
def oH(x:V):List V->Option Nat
 | []=>none
 |y::r=>if jz y x=true then some 0 else(oH x r).map (·+1)
theorem Ci{x:V}:∀{xs:List V} {j:Nat},oH x xs=some j->(∃y,xs[j]?=some y/\jz y x=true)/\∀m y,m<j->xs[m]?=some y->jz y x=false
 | [],_,h=>by cases h
 | y::r,j,h=>by
   unfold oH at h
   split at h
   · rename_i c
     cases h
     exact⟨⟨y,rfl,c⟩,λm _ d=>absurd d (Nat.not_lt_zero _)⟩
   · rename_i c
     obtain⟨i,g,rfl⟩:=oQm.mp h
     obtain⟨⟨z,n,k⟩,l⟩:=Ci g
     refine⟨⟨z,by simpa using n,k⟩,λm w d f=> ?_⟩
     cases m with
     |zero=>cases f;simpa using c
     |succ m=>exact l m w (by omega) (by simpa using f)
def FC:Mk X "list.index" (λx vs H Q=>∃a xs y j,x=.ref a/\vs= [y]/\g6 X.K H a xs/\fG y=true/\xs.all fG=true/\oH y xs=some j/\Q (.int (j:Nat)) H):=by
 intro B s σ H x vs v us Q I R N h
 obtain⟨a,xs,y,j,rfl,rfl,hq,fy,fs,hj,q⟩:=h
 cases R
 obtain⟨u,rfl,ru⟩:=N.one
 obtain⟨f,r,Y,hz⟩:=I.list hq
 obtain⟨⟨S,dd,M,L⟩,n,e,J,g,G⟩:=Y
 simp only at J g G
 subst J g G
 obtain⟨⟨z,o,h2⟩,h3⟩:=Ci hj
 have hl:=r.length
 have Z:j<xs.length:=(gQs.mp o).1
 obtain⟨w,p,i⟩:=r.get o
 have A:f.toArray[j]'(by rw[Qjq];omega)=w:=by
  have:=(gQs.mp p).2
  simpa using this
 have C:=k_
 refine call_meets PySem.F.slot_list_index ⟨_,e,rfl⟩ PySem.F.entry_list_index (PySem.F.args_list_index_2 _ _)
  (SeqAt.list_indexAt a f.toArray n none L u (yA y) j (by rw[Qjq];omega) (by omega) (by rw[A,tw i (QUq.mp fs z (mQg o))];exact h2) λm P k=> ?_)
  ⟨e,λw p=>ix ru fy r fs w (by simpa using p),⟨.int j,H,I.tok _,⟨_,rfl⟩,q⟩⟩
 have d:m<xs.length:=by rw[Qjq] at P;omega
 obtain⟨U,t,l⟩:=r.get (gQe d)
 have W:f.toArray[m]=U:=by
  have:=(gQs.mp t).2
  simpa using this
 rw[W,tw l (QUq.mp fs _ (List.getElem_mem d))]
 exact h3 m _ k (gQe d)
end
end DL
namespace Zq
open PySem
def It(t:Bool)(h:Heap)(i a:Addr)(k:Nat):Prop:=if t=true then h.IsTupleIter i a k else h.IsListIter i a k
def Sq(t:Bool)(h:Heap)(a:Addr)(xs:Array Value):Prop:=if t=true then h.IsTuple a xs else h.IsList a xs
section
variable{t t2:Bool}{h h':Heap}{i j a b z O T:Addr}{k:Nat}{xs ys:Array Value}
theorem It.at(g:It t h i a k)(f:∀o,h.get? i=some o->h'.get? i=some o):It t h' i a k:=by
 cases t with
 |true=>exact(show h.IsTupleIter i a k from g).at f
 |false=>exact(show h.IsListIter i a k from g).at f
def It.ext{c:Addr}(g:It t h i a k)(f:Heap.ExtBut c h h')(n:i≠c):It t h' i a k:=g.at λo e=>f i o n e
def Sq.at(g:Sq t h a xs)(f:∀o,h.get? a=some o->h'.get? a=some o):Sq t h' a xs:=by
 cases t with
 |true=>obtain⟨o,e,r⟩:=(show h.IsTuple a xs from g);exact(show h'.IsTuple a xs from⟨o,f o e,r⟩)
 |false=>obtain⟨o,e,r⟩:=(show h.IsList a xs from g);exact(show h'.IsList a xs from⟨o,f o e,r⟩)
def Sq.ext{c:Addr}(g:Sq t h a xs)(f:Heap.ExtBut c h h')(n:a≠c):Sq t h' a xs:=g.at λo e=>f a o n e
def It.obj(g:It t h i a k):∃o,h.get? i=some o/\∀v,o.data≠.cell v:=by
 cases t with
 |true=>obtain⟨o,e,_,d⟩:=(show h.IsTupleIter i a k from g);exact⟨o,e,λv n=>by rw[d] at n;cases n⟩
 |false=>obtain⟨o,e,_,d⟩:=(show h.IsListIter i a k from g);exact⟨o,e,λv n=>by rw[d] at n;cases n⟩
end
section
variable{prog:Program}{w:World}{A:Around}{E:Value->Shared->Prop}{s:Shared}{t t2:Bool}{z T O i j a b:Addr}{k:Nat}{xs ys:Array Value}{x y u v:Value}
def draw{Q:Value->Shared->Prop}(e:It t s.heap i a k)(c:Sq t s.heap a xs)(d:xs[k]?=some v)
  (q:∀h',It t h' i a (k+1)->Heap.SameBut i s.heap h'->Q v {s with heap:=h'}):wpAny (model prog w) A (Builtin.SmallTypes.nextOf (.ref i)) Q E s:=by
 cases t with
 |true=>exact Zp.LX e c d q
 |false=>exact wpAny_nextOf_list_item e c d q
def CG{Q:Value->Shared->Prop}(f:A.handled=none)(g:It t s.heap i a k)(c:Sq t s.heap a xs)(d:xs[k]?=none)
  (q:∀h' e,Heap.ExtBut i s.heap h'->(∃o,h'.get? e=some o/\o.cls=.type "StopIteration")->E (.ref e) {s with heap:=h'}):wpAny (model prog w) A (Builtin.SmallTypes.nextOf (.ref i)) Q E s:=by
 cases t with
 |true=>exact Zp.Lf f g c d q
 |false=>exact wpAny_nextOf_list_end f g c d q
abbrev uL(h:Heap)(z T O:Addr)(d c:Value):Prop:=
 h.get? z=some {cls:=.type "zip",dict:=none,data:=.fields #[d,c,.bool false,.ref T,.ref O],slots:= #[]}
def item(D:ZipApart z T O i j a b){Q:Value->Shared->Prop}(p:uL s.heap z T O .none (.bool false))(gT:IsPair s.heap T (.ref i) (.ref j))(gO:IsPair s.heap O u v)(gi:It t s.heap i a k)(gj:It t2 s.heap j b k)
  (ga:Sq t s.heap a xs) (gb:Sq t2 s.heap b ys) (ex:xs[k]?=some x) (ey:ys[k]?=some y)
  (q:∀h',uL h' z T O (rawInt s.heap.objs.size) (.bool false)->IsPair h' O x y->It t h' i a (k+1)->It t2 h' j b (k+1)->IsPair h' s.heap.objs.size x y->Zp.Rest z O i j s.heap h'->Q (.ref s.heap.objs.size) {s with heap:=h'}):
  wpAny (model prog w) A (Builtin.«zip.__next__» ⟨[.ref z],[]⟩) (λN s'=>∃r,N=.done (.ret r)/\Q r s') E s:=by
 refine(?_:wpAny _ _ (field (.ref z) 2 >>= _) _ _ _)
 refine Qaq (QMq p rfl (x:=.bool false) rfl ?_)
 refine(?_:wpAny _ _ (field (.ref z) 3 >>= _) _ _ _)
 refine Qaq (QMq p rfl (x:=.ref T) rfl (Qaq (wpAny_seqItems gT rfl ?_)))
 refine(?_:wpAny _ _ (Builtin.SmallTypes.ownedTupleIsFree (.ref z) >>= _) _ _ _)
 refine Qaq ?_
 unfold Builtin.SmallTypes.ownedTupleIsFree
 refine Qaq (QMq p rfl (x:=.none) rfl (Qgq ?_))
 simp only[if_true]
 refine Qaq (wpAny_rule (Qaq (QMq p rfl (x:=.ref O) rfl (Qaq (wpAny_setField_rec p (by simp) λh1 K f=> ?_)))))
 replace K:uL h1 z T O .ellipsis (.bool false):=K
 refine Qaq ?_
 simp only[List.zipIdx_cons,List.zipIdx_nil,List.forIn_nil,List.forIn_cons]
 refine Qaq (Qaq (wpAny_onRaise ?_))
 refine(?_:wpAny _ _ (Builtin.SmallTypes.nextOf (.ref i) >>= _) _ _ _)
 refine Qaq (draw (gi.ext f.extBut D.i1z) (ga.ext f.extBut D.l1z) ex λh2 i2 h=>Qgq ?_)
 have Y:IsPair h2 O u v:=h.extBut _ _ D.TOi1 (f.extBut _ _ D.TOz gO)
 refine Qaq (wpAny_seqItems Y rfl (Qaq (wpAny_updateSeq_pair Y λh3 L l=>Qaq (wpAny_letGo (Qgq ?_)))))
 replace L:IsPair h3 O x v:=L
 refine Qaq (Qaq (wpAny_onRaise ?_))
 refine(?_:wpAny _ _ (Builtin.SmallTypes.nextOf (.ref j) >>= _) _ _ _)
 refine Qaq (draw (((gj.ext f.extBut D.i2z).ext h.extBut D.i12.symm).ext l.extBut D.TOi2.symm) (((gb.ext f.extBut D.l2z).ext h.extBut D.l2i1).ext l.extBut D.l2TO) ey λh4 j4 m=>Qgq ?_)
 have P:IsPair h4 O x v:=m.extBut _ _ D.TOi2 L
 refine Qaq (wpAny_seqItems P rfl (Qaq (wpAny_updateSeq_pair P λd C n=>Qaq (wpAny_letGo (Qgq (Qgq ?_))))))
 replace C:IsPair d O x y:=C
 refine Qaq (wpAny_seqItems C rfl (Qaq (wpAny_newTuple ?_)))
 have W:d.objs.size=s.heap.objs.size:=by rw[n.1,m.1,l.1,h.1,f.1]
 have Z:uL d z T O .ellipsis (.bool false):=n.extBut _ _ D.TOz.symm (m.extBut _ _ D.i2z.symm (l.extBut _ _ D.TOz.symm (h.extBut _ _ D.i1z.symm K)))
 have r5:Zp.Rest z O i j s.heap d:=λc o g B I J e=>n.extBut _ _ B (m.extBut _ _ J (l.extBut _ _ B (h.extBut _ _ I (f.extBut _ _ g e))))
 have i5:It t d i a (k+1):=((i2.ext l.extBut D.TOi1.symm).ext m.extBut D.i12).ext n.extBut D.TOi1.symm
 have j5:It t2 d j b (k+1):=j4.ext n.extBut D.TOi2.symm
 have S:z<d.objs.size:=Qiq Z
 refine(?_:wpAny _ _ (Builtin.SmallTypes.ownedTupleHandOut (.ref z) (.ref d.objs.size) >>= _) _ _ _)
 refine Qaq ?_
 unfold Builtin.SmallTypes.ownedTupleHandOut
 have z6:uL (d.push {cls:=.type "tuple",data:=.seq #[x,y]}) z T O .ellipsis (.bool false):=Qcq _ Z
 refine Qaq (wpAny_setField_rec z6 (by simp) λh7 M U=> ?_)
 replace M:uL h7 z T O (rawInt d.objs.size) (.bool false):=M
 refine wpAny_setField_rec M (by simp) λF G R=> ?_
 replace G:uL F z T O (rawInt d.objs.size) (.bool false):=G
 have H:∀c o,c≠z->d.get? c=some o->F.get? c=some o:=λc o g e=>R.extBut _ _ g (U.extBut _ _ g (Qcq _ e))
 have X:IsPair F d.objs.size x y:=R.extBut _ _ (Nat.ne_of_gt S) (U.extBut _ _ (Nat.ne_of_gt S) (Qrq _ rfl))
 rw[W] at G X
 refine Qgq ⟨_,rfl,?_⟩
 refine(?_:Q (.ref d.objs.size) _)
 rw[W]
 exact q F G (H _ _ D.TOz C) (i5.at λo e=>H _ o D.i1z e) (j5.at λo e=>H _ o D.i2z e) X λc o g B I J e=>H c o g (r5 c o g B I J e)
def alive{α:Addr}{Q:Option Obj->Shared->Prop}(h:Q (s.heap.get? α) s):wpAny (model prog w) A (loadIfAlive α) Q E s:=λ_ _ _=>h
def again(D:ZipApart z T O i j a b){p:Addr}{S:Obj}{n:Value}{Q:Value->Shared->Prop}(l:uL s.heap z T O (rawInt p) n)(Y:s.heap.get? p=some S)(L:IsPair s.heap T (.ref i) (.ref j))(gi:It t s.heap i a k)(N:It t2 s.heap j b k)
  (R:Sq t s.heap a xs) (gb:Sq t2 s.heap b ys) (ex:xs[k]?=some x) (ey:ys[k]?=some y)
  (q:∀h',uL h' z T O (rawInt p) (.bool true)->It t h' i a (k+1)->It t2 h' j b (k+1)->IsPair h' s.heap.objs.size x y->Zp.Rest z O i j s.heap h'->Q (.ref s.heap.objs.size) {s with heap:=h'}):
  wpAny (model prog w) A (Builtin.«zip.__next__» ⟨[.ref z],[]⟩) (λI F=>∃r,I=.done (.ret r)/\Q r F) E s:=by
 refine(?_:wpAny _ _ (field (.ref z) 2 >>= _) _ _ _)
 refine Qaq (QMq l rfl (x:=.bool false) rfl ?_)
 refine(?_:wpAny _ _ (field (.ref z) 3 >>= _) _ _ _)
 refine Qaq (QMq l rfl (x:=.ref T) rfl (Qaq (wpAny_seqItems L rfl ?_)))
 refine(?_:wpAny _ _ (Builtin.SmallTypes.ownedTupleIsFree (.ref z) >>= _) _ _ _)
 refine Qaq ?_
 unfold Builtin.SmallTypes.ownedTupleIsFree
 refine Qaq (QMq l rfl (x:=rawInt p) rfl ?_)
 refine(?_:wpAny _ _ (loadIfAlive ((p:Int).toNat) >>= _) _ _ _)
 refine Qaq ?_
 rw[Int.toNat_natCast]
 refine alive ?_
 rw[Y]
 refine(?_:wpAny _ _ (field (.ref z) 1 >>= _) _ _ _)
 refine Qaq (QMq l rfl (x:=n) rfl ?_)
 have J:wpAny (model prog w) A (if (n !=Value.bool true)=true then(do let _←setField (.ref z) 1 (.bool true);pure false) else pure false)
   (λr F=>r=false/\∃g,F={s with heap:=g}/\uL g z T O (rawInt p) (.bool true)/\Heap.SameBut z s.heap g) E s:=by
  by_cases c:(n !=Value.bool true)=true
  ·rw[Qhq c]
   exact Qaq (wpAny_setField_rec l (by simp) λg H d=>Qgq ⟨rfl,g,rfl,H,d⟩)
  ·rw[Quq c]
   have e:n=Value.bool true:=by simpa using c
   subst e
   exact Qgq ⟨rfl,s.heap,rfl,l,Heap.SameBut.refl _ _⟩
 refine QRq J (λr F G=> ?_) λ_ _ h=>h
 obtain⟨rfl,g,rfl,H,d⟩:=G
 simp only[Bool.false_eq_true,if_false]
 refine Qaq ?_
 simp only[List.forIn_toArray,List.forIn_cons,List.forIn_nil]
 refine Qaq (Qaq (QLq ?_))
 refine(?_:wpAny _ _ (Builtin.SmallTypes.nextOf (.ref i) >>= _) _ _ _)
 refine Qaq (draw (gi.ext d.extBut D.i1z) (R.ext d.extBut D.l1z) ex λh2 i2 m=>Qgq (Qgq ?_))
 refine Qaq (Qaq (QLq ?_))
 refine(?_:wpAny _ _ (Builtin.SmallTypes.nextOf (.ref j) >>= _) _ _ _)
 refine Qaq (draw ((N.ext d.extBut D.i2z).ext m.extBut D.i12.symm) ((gb.ext d.extBut D.l2z).ext m.extBut D.l2i1) ey λf X B=>Qgq (Qgq (Qgq ?_)))
 refine Qaq (wpAny_newTuple ?_ (by show 2<=_;decide))
 have U:f.objs.size=s.heap.objs.size:=by rw[B.1,m.1,d.1]
 have C:∀c o,f.get? c=some o->(f.push {cls:=.type "tuple",data:=.seq #[x,y]}).get? c=some o:=λc o e=>Qcq _ e
 have K:IsPair (f.push {cls:=.type "tuple",data:=.seq #[x,y]}) f.objs.size x y:=Qrq _ rfl
 have W:uL (f.push {cls:=.type "tuple",data:=.seq #[x,y]}) z T O (rawInt p) (.bool true):=C _ _ (B.extBut _ _ D.i2z.symm (m.extBut _ _ D.i1z.symm H))
 refine Qgq ⟨_,rfl,?_⟩
 refine(?_:Q (.ref f.objs.size) _)
 rw[U] at K⊢
 exact q _ W ((i2.ext B.extBut D.i12).at λo e=>C _ o e) (X.at λo e=>C _ o e) K λc o Z c2 M P e=>C c o (B.extBut _ _ P (m.extBut _ _ M (d.extBut _ _ Z e)))
def stop(D:ZipApart z T O i j a b){Q:Fin->Shared->Prop}(N:A.handled=none)(d:uL s.heap z T O .none (.bool false))(C:IsPair s.heap T (.ref i) (.ref j))(P:It t s.heap i a k)(I:Sq t s.heap a xs)(ex:xs[k]?=none)
  (q:∀h' e,Zp.Rest z O i j s.heap h'->(∃o,h'.get? e=some o/\o.cls=.type "StopIteration")->E (.ref e) {s with heap:=h'}):
  wpAny (model prog w) A (Builtin.«zip.__next__» ⟨[.ref z],[]⟩) Q E s:=by
 refine(?_:wpAny _ _ (field (.ref z) 2 >>= _) _ _ _)
 refine Qaq (QMq d rfl (x:=.bool false) rfl ?_)
 refine(?_:wpAny _ _ (field (.ref z) 3 >>= _) _ _ _)
 refine Qaq (QMq d rfl (x:=.ref T) rfl (Qaq (wpAny_seqItems C rfl ?_)))
 refine(?_:wpAny _ _ (Builtin.SmallTypes.ownedTupleIsFree (.ref z) >>= _) _ _ _)
 refine Qaq ?_
 unfold Builtin.SmallTypes.ownedTupleIsFree
 refine Qaq (QMq d rfl (x:=.none) rfl (Qgq ?_))
 simp only[if_true]
 refine Qaq (wpAny_rule (Qaq (QMq d rfl (x:=.ref O) rfl (Qaq (wpAny_setField_rec d (by simp) λG f g=> ?_)))))
 replace f:uL G z T O .ellipsis (.bool false):=f
 refine Qaq ?_
 simp only[List.zipIdx_cons,List.zipIdx_nil,List.forIn_nil,List.forIn_cons]
 refine Qaq (Qaq (wpAny_onRaise ?_))
 refine(?_:wpAny _ _ (Builtin.SmallTypes.nextOf (.ref i) >>= _) _ _ _)
 refine Qaq (CG N (P.ext g.extBut D.i1z) (I.ext g.extBut D.l1z) ex λM e r K=> ?_)
 obtain⟨J,h,m⟩:=K
 have l:uL M z T O .ellipsis (.bool false):=r _ _ D.i1z.symm f
 have H:e≠z:=λn=>by rw[n,l] at h;cases h;simp at m
 exact wpAny_setField_rec l (by simp) λL _ B=>q L e (λc o p _ F _ n=>B.extBut _ _ p (r _ _ F (g.extBut _ _ p n))) ⟨J,B.extBut _ _ H h,m⟩
def LA(D:ZipApart z T O i j a b){p:Addr}{J:Obj}{l:Value}{Q:Fin->Shared->Prop}(R:A.handled=none)(f:uL s.heap z T O (rawInt p) l)(K:s.heap.get? p=some J)(G:IsPair s.heap T (.ref i) (.ref j))(S:It t s.heap i a k)(I:Sq t s.heap a xs)(ex:xs[k]?=none)
  (q:∀h' e,Zp.Rest z O i j s.heap h'->(∃o,h'.get? e=some o/\o.cls=.type "StopIteration")->E (.ref e) {s with heap:=h'}):
  wpAny (model prog w) A (Builtin.«zip.__next__» ⟨[.ref z],[]⟩) Q E s:=by
 refine(?_:wpAny _ _ (field (.ref z) 2 >>= _) _ _ _)
 refine Qaq (QMq f rfl (x:=.bool false) rfl ?_)
 refine(?_:wpAny _ _ (field (.ref z) 3 >>= _) _ _ _)
 refine Qaq (QMq f rfl (x:=.ref T) rfl (Qaq (wpAny_seqItems G rfl ?_)))
 refine(?_:wpAny _ _ (Builtin.SmallTypes.ownedTupleIsFree (.ref z) >>= _) _ _ _)
 refine Qaq ?_
 unfold Builtin.SmallTypes.ownedTupleIsFree
 refine Qaq (QMq f rfl (x:=rawInt p) rfl ?_)
 refine(?_:wpAny _ _ (loadIfAlive ((p:Int).toNat) >>= _) _ _ _)
 refine Qaq ?_
 rw[Int.toNat_natCast]
 refine alive ?_
 rw[K]
 refine(?_:wpAny _ _ (field (.ref z) 1 >>= _) _ _ _)
 refine Qaq (QMq f rfl (x:=l) rfl ?_)
 have B:wpAny (model prog w) A (if (l !=Value.bool true)=true then(do let _←setField (.ref z) 1 (.bool true);pure false) else pure false)
   (λr F=>r=false/\∃d,F={s with heap:=d}/\uL d z T O (rawInt p) (.bool true)/\Heap.SameBut z s.heap d) E s:=by
  by_cases c:(l !=Value.bool true)=true
  ·rw[Qhq c]
   exact Qaq (wpAny_setField_rec f (by simp) λd C g=>Qgq ⟨rfl,d,rfl,C,g⟩)
  ·rw[Quq c]
   have e:l=Value.bool true:=by simpa using c
   subst e
   exact Qgq ⟨rfl,s.heap,rfl,f,Heap.SameBut.refl _ _⟩
 refine QRq B (λr F m=> ?_) λ_ _ h=>h
 obtain⟨rfl,d,rfl,C,g⟩:=m
 simp only[Bool.false_eq_true,if_false]
 refine Qaq ?_
 simp only[List.forIn_toArray,List.forIn_cons,List.forIn_nil]
 refine Qaq (Qaq (QLq ?_))
 refine(?_:wpAny _ _ (Builtin.SmallTypes.nextOf (.ref i) >>= _) _ _ _)
 refine Qaq (CG R (S.ext g.extBut D.i1z) (I.ext g.extBut D.l1z) ex λP e N L=> ?_)
 exact q P e (λc o M _ H _ n=>N _ _ H (g.extBut _ _ M n)) L
def Zs(h:Heap)(z T O i j:Addr):Prop:=uL h z T O .none (.bool false)/\(∃u v,IsPair h O u v)\/∃(p:Addr) (d:Obj) (c:Value),uL h z T O (rawInt (p:Nat)) c/\h.get? p=some d/\p≠z/\p≠O/\p≠i/\p≠j
def Zs.but{h h':Heap}{S:Addr}(g:Zs h z T O i j)(f:∀c o,c≠S->h.get? c=some o->h'.get? c=some o)(e:z≠S)(C:O≠S)(m:∃o,h'.get? S=some o):Zs h' z T O i j:=by
 rcases g with⟨d,u,v,r⟩|⟨p,q,l,d,B,n⟩
 ·exact .inl ⟨f _ _ e d,u,v,f _ _ C r⟩
 ·by_cases c:p=S
  ·subst c
   obtain⟨o,F⟩:=m
   exact .inr ⟨p,o,l,f _ _ e d,F,n⟩
  ·exact .inr ⟨p,q,l,f _ _ e d,f _ _ c B,n⟩
def FZ(D:ZipApart z T O i j a b){Q:Option Value->Shared->Prop}(d:Zs s.heap z T O i j)(H:IsPair s.heap T (.ref i) (.ref j))(C:It t s.heap i a k)(n:It t2 s.heap j b k)
  (L:Sq t s.heap a xs) (P:Sq t2 s.heap b ys) (ex:xs[k]?=some x) (R:ys[k]?=some y)
  (q:∀h',Zs h' z T O i j->It t h' i a (k+1)->It t2 h' j b (k+1)->IsPair h' s.heap.objs.size x y->Zp.Rest z O i j s.heap h'->Q (some (.ref s.heap.objs.size)) {s with heap:=h'}):
  wpAny (model prog w) A (pyNext (.ref z)) Q E s:=by
 unfold pyNext
 have g:∀{c o},s.heap.get? c=some o->s.heap.objs.size≠c:=λe=>Nat.ne_of_gt (Qiq e)
 obtain⟨Y,W,_⟩:=C.obj
 obtain⟨X,S,_⟩:=n.obj
 rcases d with⟨d,u,v,M⟩|⟨p,U,f1,d,N,G,K,I,J⟩
 ·have f:s.TypeIs (.ref z) "zip":=⟨_,d,rfl⟩
  exact Qaq (wpAny_attempt (QiQ (name:=Str.ofString "__next__") f F.slot_zip_next (wpAny_call_entry F.slot_zip_next f F.entry_zip_next
   (item D d H M C n L P ex R λh' m Z r B l h=>Qgq (q h' (.inr ⟨_,_,_,m,l,g d,g M,g W,g S⟩) r B l h)) (F.args_zip_next_1 _))))
 ·have f:s.TypeIs (.ref z) "zip":=⟨_,d,rfl⟩
  exact Qaq (wpAny_attempt (QiQ (name:=Str.ofString "__next__") f F.slot_zip_next (wpAny_call_entry F.slot_zip_next f F.entry_zip_next
   (again D d N H C n L P ex R λh' m r B l h=>Qgq (q h' (.inr ⟨p,U,_,m,h _ _ G K I J N,G,K,I,J⟩) r B l h)) (F.args_zip_next_1 _))))
def zQ(D:ZipApart z T O i j a b){Q:Option Value->Shared->Prop}(m:A.handled=none)(c:Zs s.heap z T O i j)(h:IsPair s.heap T (.ref i) (.ref j))(n:It t s.heap i a k)(l:Sq t s.heap a xs)(ex:xs[k]?=none)
  (q:∀h',Zp.Rest z O i j s.heap h'->Q none {s with heap:=h'}):wpAny (model prog w) A (pyNext (.ref z)) Q E s:=by
 unfold pyNext
 rcases c with⟨c,u,v,G⟩|⟨p,C,H,c,B,_⟩
 ·have d:s.TypeIs (.ref z) "zip":=⟨_,c,rfl⟩
  exact Qaq (wpAny_attempt (QiQ (name:=Str.ofString "__next__") d F.slot_zip_next (wpAny_call_entry F.slot_zip_next d F.entry_zip_next
   (stop D m c h n l ex λh' e r ⟨o,g,f⟩=>Qaq (wpAny_isInstance (T:="StopIteration") (b:=true) ⟨o,g,f⟩ isSubtype_stop (Qgq (q _ r)))) (F.args_zip_next_1 _))))
 ·have d:s.TypeIs (.ref z) "zip":=⟨_,c,rfl⟩
  exact Qaq (wpAny_attempt (QiQ (name:=Str.ofString "__next__") d F.slot_zip_next (wpAny_call_entry F.slot_zip_next d F.entry_zip_next
   (LA D m c B h n l ex λh' e r ⟨o,g,f⟩=>Qaq (wpAny_isInstance (T:="StopIteration") (b:=true) ⟨o,g,f⟩ isSubtype_stop (Qgq (q _ r)))) (F.args_zip_next_1 _))))
end
def MD(t:Bool):String:=if t=true then "tuple_iterator" else "list_iterator"
abbrev H1(t:Bool)(h:Heap)(a:Addr):Heap:=h.push {cls:=.type (MD t),data:=.fields #[.ref a,.int 0 0]}
abbrev H2(t t2:Bool)(h:Heap)(a b:Addr):Heap:=(H1 t h a).push {cls:=.type (MD t2),data:=.fields #[.ref b,.int 0 0]}
abbrev H3(t t2:Bool)(h:Heap)(a b:Addr):Heap:=(H2 t t2 h a b).push {cls:=.type "tuple",data:=.seq #[.ref h.objs.size,.ref (H1 t h a).objs.size]}
abbrev H4(t t2:Bool)(h:Heap)(a b:Addr):Heap:=(H3 t t2 h a b).push {cls:=.type "tuple",data:=.seq #[.none,.none]}
abbrev H5(t t2:Bool)(h:Heap)(a b:Addr):Heap:=(H4 t t2 h a b).push {cls:=.type "zip",data:=.fields #[.none,.bool false,.bool false,.ref (H2 t t2 h a b).objs.size,.ref (H3 t t2 h a b).objs.size]}
def Sq.push{t:Bool}{h:Heap}{a:Addr}{xs:Array Value}(g:Sq t h a xs)(o:Obj):Sq t (h.push o) a xs:=g.at λ_ e=>Qcq _ e
def Dx(t t2:Bool)(a b:Addr)(xs ys:Array Value):Meets (Builtin.«zip.__new__» ⟨[.type "zip",.ref a,.ref b],[]⟩) (λ_ R s=>Sq t s.heap a xs/\Sq t2 s.heap b ys/\R (.ok (.ret (.ref (H4 t t2 s.heap a b).objs.size))) {s with heap:=H5 t t2 s.heap a b}):=
 .of_wp λm w A R s h=>by
  obtain⟨e,g,d,i,f⟩:=s
  obtain⟨l,n,h⟩:=h
  have o:=sub_zip
  have c:=n.push {cls:=.type (MD t),data:=.fields #[.ref a,.int 0 0]}
  cases t <;>cases t2
  ·have k:Heap.IsList (Shared.heap ⟨e,g,d,i,f⟩) a xs:=l
   have j:Heap.IsList (Shared.heap ⟨e.push {cls:=.type "list_iterator",data:=.fields #[.ref a,.int 0 0]},g,d,i,f⟩) b ys:=c
   wp_walk using wpAny_pyIter_list k,wpAny_pyIter_list j
   exact⟨_,rfl,h⟩
  ·have k:Heap.IsList (Shared.heap ⟨e,g,d,i,f⟩) a xs:=l
   have j:Heap.IsTuple (Shared.heap ⟨e.push {cls:=.type "list_iterator",data:=.fields #[.ref a,.int 0 0]},g,d,i,f⟩) b ys:=c
   wp_walk using wpAny_pyIter_list k,wpAny_pyIter_tuple j
   exact⟨_,rfl,h⟩
  ·have k:Heap.IsTuple (Shared.heap ⟨e,g,d,i,f⟩) a xs:=l
   have j:Heap.IsList (Shared.heap ⟨e.push {cls:=.type "tuple_iterator",data:=.fields #[.ref a,.int 0 0]},g,d,i,f⟩) b ys:=c
   wp_walk using wpAny_pyIter_tuple k,wpAny_pyIter_list j
   exact⟨_,rfl,h⟩
  ·have k:Heap.IsTuple (Shared.heap ⟨e,g,d,i,f⟩) a xs:=l
   have j:Heap.IsTuple (Shared.heap ⟨e.push {cls:=.type "tuple_iterator",data:=.fields #[.ref a,.int 0 0]},g,d,i,f⟩) b ys:=c
   wp_walk using wpAny_pyIter_tuple k,wpAny_pyIter_tuple j
   exact⟨_,rfl,h⟩
section
variable{prog:Program}{w:World}{A:Around}{E:Value->Shared->Prop}{s:Shared}
def HX{t t2:Bool}{a b:Addr}{xs ys:Array Value}{Q:Value->Shared->Prop}(m:Sq t s.heap a xs)(p:Sq t2 s.heap b ys)
  (q:∀h',uL h' (s.heap.objs.size+4) (s.heap.objs.size+2) (s.heap.objs.size+3) .none (.bool false)->IsPair h' (s.heap.objs.size+2) (.ref s.heap.objs.size) (.ref (s.heap.objs.size+1))->IsPair h' (s.heap.objs.size+3) .none .none→
   It t h' s.heap.objs.size a 0->It t2 h' (s.heap.objs.size+1) b 0->(∀c o,s.heap.get? c=some o->h'.get? c=some o)->Q (.ref (s.heap.objs.size+4)) {s with heap:=h'}):
  wpAny (model prog w) A (call (.type "zip") [.ref a,.ref b]) Q E s:=by
 refine callType_new F.called_zip (by decide) (F.typeCall_zip_2 _ _) (F.newCall_zip_2 _ _) (λh=>F.args_object_init_3 h _ _) F.entry_zip_new (Dx t t2 a b xs ys) ⟨m,p,?_⟩
 have d:(H1 t s.heap a).objs.size=s.heap.objs.size+1:=Heap.size_push ..
 have f:(H2 t t2 s.heap a b).objs.size=s.heap.objs.size+2:=by rw[Heap.size_push,d]
 have g:(H3 t t2 s.heap a b).objs.size=s.heap.objs.size+3:=by rw[Heap.size_push,f]
 have k:(H4 t t2 s.heap a b).objs.size=s.heap.objs.size+4:=by rw[Heap.size_push,g]
 have e:(H5 t t2 s.heap a b).get? (H4 t t2 s.heap a b).objs.size=some _:=Qrq _ rfl
 have l:(H5 t t2 s.heap a b).get? (H3 t t2 s.heap a b).objs.size=some _:=Qcq _ (Qrq _ rfl)
 have i:(H5 t t2 s.heap a b).get? (H2 t t2 s.heap a b).objs.size=some _:=Qcq _ (Qcq _ (Qrq _ rfl))
 have j:(H5 t t2 s.heap a b).get? (H1 t s.heap a).objs.size=some _:=Qcq _ (Qcq _ (Qcq _ (Qrq _ rfl)))
 have r:(H5 t t2 s.heap a b).get? s.heap.objs.size=some _:=Qcq _ (Qcq _ (Qcq _ (Qcq _ (Qrq _ rfl))))
 refine(?_:_/\_)
 rw[f,g,k] at e
 rw[d,f] at i
 rw[g] at l
 rw[d] at j
 rw[k]
 refine⟨⟨_,e,rfl⟩,q _ e i l ?_ ?_ λc o n=>Qcq _ (Qcq _ (Qcq _ (Qcq _ (Qcq _ n))))⟩
 ·cases t <;>exact⟨_,r,rfl,rfl⟩
 ·cases t2 <;>exact⟨_,j,rfl,rfl⟩
end
def qm:typeLookup (.type "zip") "__getattr__"=pure none:=by rw[typeLookup_type,builtinLookup_eq_fast];kernel_rfl
def jE:entryFor table "zip.__getattribute__"=some Builtin.«object.__getattribute__»:=
 entryFor_alias (id':="object.__getattribute__") (by kernel_rfl) (by decide +kernel) (by decide +kernel) (by kernel_rfl)
def rD:typeLookup (Value.type "zip") (Str.ofString "keys")=pure none:=by
 rw[typeLookup_type,builtinLookup_eq_fast]
 rfl
def tR(a:Addr)(fs:Array Value)(name:Str)(u:Tok)(e:typeLookup (.type "zip") name=pure none)(b:(["__module__","__name__","__qualname__","__doc__","__annotations__"]:List Str).contains name=false)(hsz:name.length+100<=sizeLine:=by size_fits):
  Meets (Builtin.«object.__getattribute__» ⟨[.ref a,.str name u],[]⟩) (λA R s=>s.heap.get? a=some {cls:=.type "zip",dict:=none,data:=.fields fs,slots:= #[]}/\raisesAttr (.ref a) name A R s):=
 Meets.of_wp λf w A R s c=>by
  obtain⟨h,g,d,k,i⟩:=s
  obtain⟨j,c⟩:=c
  have l:(⟨h,g,d,k,i⟩:Shared).TypeIs (.ref a) "zip":=⟨_,j,rfl⟩
  unfold Builtin.«object.__getattribute__»
  repeat (any_goals (first|assumption|wp_step))
  simp only[b,Bool.false_eq_true,if_false]
  repeat (any_goals (first|assumption|wp_step))
  exact wpAny_raiseAttrError c.1 c.2 (attrMsg_fits (by decide +kernel) hsz)
def C_{prog:Program}{w:World}{A:Around}{E:Value->Shared->Prop}{s:Shared}{a:Addr}{fs:Array Value}{Q:Option Value->Shared->Prop}
  (j:s.heap.get? a=some {cls:=.type "zip",dict:=none,data:=.fields fs,slots:= #[]}) (v:A.handled=none)
  (h:∀(h':Heap) (i:Nat),(∀b o,s.heap.get? b=some o->h'.get? b=some o)->Q none {s with heap:=h',toks:=i}):
  wpAny (model prog w) A (getAttr? (.ref a) (Str.ofString "keys")) Q E s:=by
 obtain⟨p,g,d,i,k⟩:=s
 have n:∀x,Shared.TypeIs ⟨p,g,d,x,k⟩ (.ref a) "zip":=λx=>⟨_,j,rfl⟩
 have m:=sub_AttributeError
 have r:=F.slot_zip_getattribute.lookup
 have q:=F.slot_zip_getattribute.bind (Value.ref a)
 have u:=qm
 unfold getAttr? mkText getAttrBy? getAttrBy
 refine Qaq (Qaq (wpAny_fresh' (Qgq (Qaq (wpAny_attempt (QLq ?_))))))
 unfold typeOf
 refine Qaq (Qaq (wpAny_loadPart' j (Qgq (Qaq (wpAny_of_eq r (QgQ rfl ?_))))))
 unfold getAttrByItsOwn hookBefore
 refine Qaq (QgQ rfl (Qgq (Qaq (wpAny_attempt (QLq ?_)))))
 unfold callGetattribute
 refine QgQ rfl ?_
 unfold boundAndCalled
 refine Qaq (wpAny_of_eq q ?_)
 refine call_meets F.slot_zip_getattribute (n (i+1)) jE (F.args_zip_getattribute_2 (Value.ref a) _) (tR a fs (Str.ofString "keys") i rD (by decide +kernel) (by decide +kernel)) ⟨j,v,λh' f e c=> ?_⟩
 obtain⟨y,z,t⟩:=c.there
 have l:Shared.TypeIs ⟨h',g,d,f,k⟩ (.ref e) "AttributeError":=⟨_,t,rfl⟩
 show wpAny _ _ (getattributeRaised _ _ _ _ _ _ _) _ _ _
 unfold getattributeRaised
 refine Qaq (wpAny_isInstance l m (wpAny_ite_true rfl ?_))
 unfold hookBehind hookOrError
 refine Qaq (QgQ rfl (wpAny_of_eq u ?_))
 show wpAny _ _ (attributeErrorLeaves _ _ _ _ _) _ _ _
 unfold attributeErrorLeaves
 refine wpAny_ite_true rfl (wpAny_throw ?_)
 exact Qaq (wpAny_isInstance l m (wpAny_ite_true rfl (Qgq (h h' f c.keeps))))
def u5{prog:Program}{w:World}{A:Around}{E:Value->Shared->Prop}{s:Shared}{z:Addr}{fs:Array Value}{Q:Value->Shared->Prop}
  (j:s.heap.get? z=some {cls:=.type "zip",dict:=none,data:=.fields fs,slots:= #[]}) (m:A.handled=none)
  (h:∀(h':Heap) (d:Nat),(∀b o,(s.heap.push {cls:=.type "dict",data:=.dict #[]}).get? b=some o->h'.get? b=some o)→
   wpAny (model prog w) A.in1.in1 (pyIter (.ref z)) (λit f=>codeAny (model prog w) A.in1 (.builtin "dict.update.loop" {pos:= [.ref s.heap.objs.size,it,rawInt 0,.none]}) (wants (λr a=>r=.none/\Q (.ref s.heap.objs.size) a) E) f) E {s with heap:=h',toks:=d}):
  wpAny (model prog w) A (call (.type "dict") [.ref z]) Q E s:=by
 refine Dk.Af ?_
 have g:=Qrq s.heap (o:={cls:=.type "dict",data:=.dict #[]}) rfl
 have i:Shared.TypeIs {s with heap:=s.heap.push {cls:=.type "dict",data:=.dict #[]}} (.ref s.heap.objs.size) "dict":=⟨_,g,rfl⟩
 have c:=Qcq {cls:=.type "dict",data:=.dict #[]} j
 have k:Shared.TypeIs {s with heap:=s.heap.push {cls:=.type "dict",data:=.dict #[]}} (.ref z) "zip":=⟨_,c,rfl⟩
 unfold Builtin.«dict.__init__» Builtin.Dict.selfAndRest
 refine Qaq (Qaq (wpAny_notOrdered_dict i ?_))
 refine Qaq (Qgq (Qgq ?_))
 show wpAny _ _ (Builtin.Dict.updateFrom _ _ _ _ _) _ _ _
 unfold Builtin.Dict.updateFrom
 refine Qaq (wpAny_typeOf k (wpAny_ite_true (by decide +kernel) (Qaq (C_ c (by simpa using m) λh' d l=> ?_))))
 refine wpAny_ite_true rfl ?_
 refine Qaq (wpAny_rule (Qaq (QRq (h h' d l) (λit f q=> ?_) λe f q=>q)))
 exact Qgq ⟨plainId_quiet (by decide +kernel) _,q⟩
end Zq
namespace Zq
open PySem Dk
section
variable{prog:Program}{w:World}{K:Type}[DecidableEq K]{knd:KeyKind prog w K}{z T O i j a b S:Addr}{t t2:Bool}{xs ys:Array Value}
def Az{A:Around}{R:Result->Shared->Prop}(hA:A.in1.handled=none)(D:ZipApart z T O i j a b)(nS:S≠z/\S≠T/\S≠O/\S≠i/\S≠j/\S≠a/\S≠b)(a4:a≠T/\b≠T)(f:Nat->K)(x:∀(n:Nat) v,xs[n]?=some v->knd.is (f n) v=true)(a3:xs.size<=ys.size)(hn:xs.size<=sizeLine):
  ∀ (m n:Nat) (c:Int) (s:Shared),xs.size-n=m->n<=xs.size->Zs s.heap z T O i j->IsPair s.heap T (.ref i) (.ref j)->It t s.heap i a n->It t2 s.heap j b n->Sq t s.heap a xs->Sq t2 s.heap b ys->Heap.DictOf knd s.heap S (JG f (λn=>ys.getD n .none) n)→
    (∀h' M,Heap.DictOf knd h' S (JG f (λn=>ys.getD n .none) xs.size)->(∀c o,c≠z->c≠O->c≠i->c≠j->c≠S->s.heap.get? c=some o->h'.get? c=some o)->R (.ok (.ret .none)) {s with heap:=h',toks:=M})→
    codeAny (model prog w) A (.builtin "dict.update.loop" {pos:= [.ref S,.ref z,rawInt c,.none]}) R s:=by
 obtain⟨n1,n2,U,Z,J,n6,n7⟩:=nS
 intro m
 induction m with
 | zero=>
   intro n c s hm a0 gz y gi gj B W hd h
   have e:n=xs.size:=by omega
   subst e
   refine codeAny_builtin kg ?_
   rw[Around.under_plainId gL]
   show wpAny _ _ (do let __x←pyNext (.ref z);_) _ _ _
   refine Qaq (zQ D hA gz y gi B (by simp) λh' r=> ?_)
   refine Qaq (Qgq (Qgq (h h' s.toks ?_ λc o p g k l _ e=>r c o p g k l e)))
   obtain⟨o,P,L,H,h2⟩:=hd
   exact⟨o,P,L,r _ _ n1 U Z J H,h2⟩
 | succ m ih=>
   intro n c s hm a0 gz y gi gj B W hd h
   have q:n<xs.size:=by omega
   have ex:xs[n]?=some xs[n]:=by simp[q]
   have ey:ys[n]?=some ys[n]:=by simp[show n<ys.size by omega]
   refine codeAny_builtin kg ?_
   rw[Around.under_plainId gL]
   show wpAny _ _ (do let __x←pyNext (.ref z);_) _ _ _
   refine Qaq (FZ D gz y gi gj B W ex ey λhp Y X Q gp r=> ?_)
   have a1:Heap.DictOf knd hp S (JG f (λn=>ys.getD n .none) n):=by
     obtain⟨o,P,L,H,h2⟩:=hd
     exact⟨o,P,L,r _ _ n1 U Z J H,h2⟩
   refine Qaq (QLq (Qaq (wpAny_tryCatch ?_)))
   unfold Builtin.Dict.pairItems
   refine Qaq (wpAny_typeOf (T:="tuple") ⟨_,gp,rfl⟩ (wpAny_ite_true rfl (Qaq ?_)))
   unfold seqItems?
   refine Qaq (wpAny_load' gp (Qgq (Qgq (QLq (wpAny_dictSet_pairs (x n _ ex) a1 (λh' u hs=> ?_) (QAq (B7 f _ n) (by omega)))))))
   have ev:ys.getD n .none=ys[n]:=by simp[Array.getD,show n<ys.size by omega]
   have F:∀c o,c≠S->hp.get? c=some o->h'.get? c=some o:=λc o hc e=>by rw[hs.2 c hc];exact e
   have d:∀c o,c≠z->c≠O->c≠i->c≠j->c≠S->s.heap.get? c=some o->h'.get? c=some o:=λc o p g k l C e=>F c o C (r c o p g k l e)
   have G:∃o,h'.get? S=some o:=by obtain⟨o,_,_,e,_⟩:=u;exact⟨o,e⟩
   have a2:Heap.DictOf knd h' S (JG f (λn=>ys.getD n .none) (n+1)):=by
     show Heap.DictOf knd h' S (stored _ (f n) (ys.getD n .none))
     rw[ev]
     exact u
   refine Qgq ⟨plainId_quiet gL _,ih (n+1) (c+1) _ (by omega) q (Y.but F n1.symm U.symm G) ?_ (X.at λo e=>F _ o Z.symm e) (Q.at λo e=>F _ o J.symm e) ?_ ?_ a2 λI M N k4=>h I M N λc o p g k l C e=>k4 c o p g k l C (d c o p g k l C e)⟩
   · exact d _ _ D.TIz D.TITO D.TIi1 D.TIi2 n2.symm y
   · exact B.at λo e=>d _ o D.l1z D.l1TO D.l1i1 D.l1i2 n6.symm e
   · exact W.at λo e=>d _ o D.l2z D.l2TO D.l2i1 D.l2i2 n7.symm e
end
end Zq
namespace L2
open PySem PySem.Spec PyProof.Rows Zq
section
variable{X:Cx}
def zK(K:PySem.W.Frag)(t:Bool)(H:Hp)(a:Addr)(xs:List V):Prop:=if t=true then gJ K H a xs else g6 K H a xs
def Inv.sq{c:List (Addr×Obj)}{d:St}{H:Hp}{s:Shared}{t:Bool}{a:Addr}{xs:List V}(I:Inv X c d H s)(h:zK X.K t H a xs):∃b:List Value,bF xs b/\Sq t s.heap a b.toArray/\xs.length<=sizeLine:=by
 cases t with
 | true=>
   obtain⟨b,r,p,z⟩:=I.tuple h
   exact⟨b,r,(show s.heap.IsTuple a b.toArray from p),z⟩
 | false=>
   obtain⟨b,r,p,z⟩:=I.list h
   exact⟨b,r,(show s.heap.IsList a b.toArray from p.isList),z⟩
def Sq.lt{t:Bool}{h:Heap}{a:Addr}{xs:Array Value}(g:Sq t h a xs):a<h.objs.size:=by
 cases t with
 |true=>obtain⟨o,e,_⟩:=(show h.IsTuple a xs from g);exact Qiq e
 |false=>obtain⟨o,e,_⟩:=(show h.IsList a xs from g);exact Qiq e
def Kx(K:PySem.W.Frag):List V->Hp->VK->Prop:=λf H Q=>∃(t e:Bool) (a b:Addr) (c:List Key) (d:List V),f= [.ref a,.ref b]/\zK K t H a (c.map kV)/\zK K e H b d/\c.length=d.length/\∀p,H p=none->Q (.ref p) (upd H p (.dK (jV [] (c.zip d))))
def AZ{x y:Expr}{ta:TA}{p1 W c1 P:Pos}(C:X.calm=true)(a4:Gl X "dict")(a0:X.mg "dict"=none)(hg:Gl X "zip")(hm:X.mg "zip"=none)(ha:PA X [x,y] ta)(hs:starEach [x,y] X.env= [(false,eval x X.env),(false,eval y X.env)]:=by rfl)(J:starEach [y] X.env= [(false,eval y X.env)]:=by rfl)
  (he:starEach [Expr.Call (.Name "zip" W) [x,y] [] P] X.env= [(false,eval (Expr.Call (.Name "zip" W) [x,y] [] P) X.env)]:=by rfl):
  PE X (.Call (.Name "dict" p1) [.Call (.Name "zip" W) [x,y] [] P] [] c1) (Mh (Kx X.K) ta):=by
 intro B s σ H Q I h
 refine wpAny_Call_Name_kw (kG I a4 a0 (by rfl) ?_)
 refine PyProof.Rows.callWith_type1 ?_ he rfl
 rw[he]
 show wpAny _ _ (spliced ((false,eval (Expr.Call (.Name "zip" W) [x,y] [] P) X.env)::backTo c1 (starEach [] X.env))) _ _ s
 refine Calls.spliced_cons ?_
 refine wpAny_Call_Name_kw (kG I hg hm (by rfl) ?_)
 refine PyProof.Rows.callWith_type1 (c9 (ha P B s σ H _ I h) λus j ⟨vs,H1,F,r1,q1⟩=> ?_) (by rw[hs,J]) (by rw[J];rfl)
 obtain⟨t,t2,a,b,d,ys,e,qa,qb,hl,q⟩:=q1
 subst e
 cases r1 with
 | cons r rr=>
   cases rr with
   | cons r' rr=>
     cases rr
     cases r
     cases r'
     obtain⟨z,ra,pa,za⟩:=F.sq qa
     obtain⟨m,rb,pb,zb⟩:=F.sq qb
     have lx:=Sq.lt pa
     have ly:=Sq.lt pb
     have la:=ra.length
     have lb:=rb.length
     rw[lQm] at la
     refine Zq.HX pa pb λg S gT gO gi gj Y=>Calls.spliced_nil ?_
     have I2:Inv X B σ H1 {j with heap:=g}:=F.kept (t':=j.toks) Y
     refine Zq.u5 S (F.ok.hd C) λU tk k2=> ?_
     have p:∀c o,g.get? c=some o->U.get? c=some o:=λc o e=>k2 c o (Qcq _ e)
     have a5:U.get? g.objs.size=some {cls:=.type "dict",data:=.dict #[]}:=k2 _ _ (Qrq g rfl)
     refine wpAny_pyIter_zip (p _ _ S) ?_
     have DD:=PyProof.Rows.zipApart_new lx ly
     have f:j.heap.objs.size+4<g.objs.size:=Qiq S
     have M:∀(n:Nat) k,d[n]?=some k->d.getD n (.inl 0)=k:=λn k e=>by rw[Qlq,e];rfl
     have G:∀c,c<j.heap.objs.size->c≠j.heap.objs.size+4/\c≠j.heap.objs.size+3/\c≠j.heap.objs.size/\c≠j.heap.objs.size+1/\c≠g.objs.size:=λc C=>
       ⟨Qwq (Qqq C (Nat.le_add_right _ _)),Qwq (Qqq C (Nat.le_add_right _ _)),Qwq C,Qwq (Qqq C (Nat.le_add_right _ _)),Qwq (Nat.lt_trans (Qqq C (Nat.le_add_right _ 4)) f)⟩
     refine Zq.Az (knd:=bP X.prog X.w) (t:=t) (t2:=t2) (xs:=z.toArray) (ys:=m.toArray) (show X.A.in1.in1.handled=none from F.ok.hd C) DD ?_ ?_ (λn=>d.getD n (.inl 0)) ?_ (by simp;omega) (by simp;omega) z.toArray.size 0 0 _ rfl (Nat.zero_le _)
       (.inl ⟨p _ _ S,_,_,p _ _ gO⟩) (p _ _ gT) (gi.at λo e=>p _ o e) (gj.at λo e=>p _ o e) (pa.at λo e=>p _ o (Y _ o e)) (pb.at λo e=>p _ o (Y _ o e)) ?_ ?_
     · refine⟨Nat.ne_of_gt f,Nat.ne_of_gt (Nat.lt_trans ?_ f),Nat.ne_of_gt (Nat.lt_trans ?_ f),Nat.ne_of_gt (Nat.lt_trans ?_ f),Nat.ne_of_gt (Nat.lt_trans ?_ f),(G _ lx).2.2.2.2.symm,(G _ ly).2.2.2.2.symm⟩ <;>(show _<j.heap.objs.size+4) <;>omega
     · exact⟨Qwq (Qqq lx (Nat.le_add_right _ _)),Qwq (Qqq ly (Nat.le_add_right _ _))⟩
     · intro n v hv
       have N:z[n]?=some v:=by simpa using hv
       have hn:n<d.length:=by
         have:=(gQs.mp N).1
         omega
       have L:=gQe hn
       obtain⟨u,R,Z⟩:=ra.get (i:=n) (x:=kV d[n]) (by rw[gQm,L];rfl)
       rw[N] at R
       cases R
       show(bP X.prog X.w).is (d.getD n (.inl 0)) v=true
       rw[M n _ L]
       exact key_is Z _ _
     · obtain⟨o,es,ep,e1,e2⟩:=Heap.DictOf.new (knd:=bP X.prog X.w) g
       exact⟨o,es,ep,k2 _ _ e1,e2⟩
     · intro h3 a2 dd k3
       have a3:g.objs.size≠sysModules:=by
         have:=I2.big
         exact Nat.ne_of_gt this
       have le:j.heap.objs.size<=g.objs.size:=nQl (Nat.lt_of_le_of_lt (Nat.le_add_right _ 4) f)
       refine⟨rfl,.ref g.objs.size,_,F.laid (a:=g.objs.size) (o:=.dK (jV [] (d.zip ys))) (t':=a2) (h':=h3) (λc o e=> ?_) le (uu ?_ (beq_eq_false_iff_ne.mpr a3) ?_ dd),rfl,q _ (F.hok.fresh le)⟩
       · obtain⟨o1,o2,o3,o4,o5⟩:=G c (Qiq e)
         exact k3 c o o1 o2 o3 o4 o5 (p c o (Y c o e))
       · have:=i3 (d.zip ys) []
         rw[QGq,List.length_zip] at this
         omega
       · have a1:∀n,n<=d.length->KV (jV [] ((d.zip ys).take n)) (Dk.JG (λn=>d.getD n (.inl 0)) (λn=>m.toArray.getD n .none) n):=by
           intro n
           induction n with
           |zero=>intro _;exact .nil
           | succ n ih=>
             intro hn
             have L:=gQe (l:=d) (i:=n) (by omega)
             have hy:=gQe (l:=ys) (i:=n) (by omega)
             obtain⟨u,R,Z⟩:=rb.get hy
             have ez:(d.zip ys)[n]?=some (d[n],ys[n]):=by rw[List.getElem?_zip_eq_some];exact⟨L,hy⟩
             have e3:(d.zip ys).take (n+1)=(d.zip ys).take n++ [(d[n],ys[n])]:=by rw[QYq,ez];rfl
             have eu:m.toArray.getD n .none=u:=by
               have:=(gQs.mp R)
               obtain⟨g,U⟩:=this
               simp[Array.getD,g,U]
             rw[e3]
             show KV (List.foldl _ [] ((d.zip ys).take n++ [(d[n],ys[n])])) (stored _ (d.getD n (.inl 0)) (m.toArray.getD n .none))
             rw[List.foldl_append,M n _ L,eu]
             exact(ih (by omega)).put d[n] Z
         have:=a1 d.length (Qmq _)
         have e4:(d.zip ys).take d.length=d.zip ys:=by
           have:(d.zip ys).length=d.length:=by rw[List.length_zip];omega
           rw[←this,QEq]
         rw[e4] at this
         have e5:z.toArray.size=d.length:=by simp;omega
         rw[e5]
         exact this
end
end L2
namespace Zq
open PySem
section
variable{prog:Program}{w:World}{A:Around}{E:Value->Shared->Prop}{s:Shared}{t t2:Bool}{z T O i j a b:Addr}{k:Nat}{xs ys:Array Value}{x y u v:Value}
def C0(D:ZipApart z T O i j a b){Q:Option Value->Shared->Prop}(d:uL s.heap z T O .none (.bool false))(e:IsPair s.heap T (.ref i) (.ref j))(n:IsPair s.heap O u v)(G:It t s.heap i a k)(g:It t2 s.heap j b k)
  (m:Sq t s.heap a xs) (r:Sq t2 s.heap b ys) (ex:xs[k]?=some x) (B:ys[k]?=some y)
  (q:∀h',uL h' z T O (rawInt s.heap.objs.size) (.bool false)->IsPair h' O x y->It t h' i a (k+1)->It t2 h' j b (k+1)->IsPair h' s.heap.objs.size x y->Zp.Rest z O i j s.heap h'->Q (some (.ref s.heap.objs.size)) {s with heap:=h'}):
  wpAny (model prog w) A (pyNext (.ref z)) Q E s:=by
 have c:s.TypeIs (.ref z) "zip":=⟨_,d,rfl⟩
 unfold pyNext
 exact Qaq (wpAny_attempt (QiQ (name:=Str.ofString "__next__") c F.slot_zip_next (wpAny_call_entry F.slot_zip_next c F.entry_zip_next
  (item D d e n G g m r ex B λh' f C h p o l=>Qgq (q h' f C h p o l)) (F.args_zip_next_1 _))))
end
end Zq
namespace L2
open PySem PySem.Spec PyProof.Rows Zq
def Inv.sq_inj{X:Cx}{b:List (Addr×Obj)}{c:St}{H:Hp}{s:Shared}{t:Bool}{a:Addr}{xs ys:List V}(I:Inv X b c H s)(h:zK X.K t H a xs)(h':zK X.K t H a ys):xs=ys:=by
 cases t with
 |true=>exact I.tuple_inj h h'
 |false=>exact I.list_inj h h'
def Od(K:PySem.W.Frag)(t t2:Bool)(a b:Addr):It:=
  ⟨λi H=>∃c d x y,zK K t H a c/\zK K t2 H b d/\c[i]?=some x/\d[i]?=some y,
   λi H v e=>∃p,v=.ref p/\H p=none/\∀c d x y,zK K t H a c->zK K t2 H b d->c[i]?=some x->d[i]?=some y->e=upd H p (.tup [x,y]),
   λi H=>∃c,zK K t H a c/\c.length<=i⟩
def CT{P:Program}{w:World}{K:PySem.W.Frag}{A:List Expr}{x1:Nat}{tp:Pos}{t t2:Bool}{z T O i j a b:Addr}(D:ZipApart z T O i j a b):
  Turn P w K (.Tuple A x1 tp) (Od K t t2 a b) [z,T,O,i,j] z (λn h=>uL h z T O .none (.bool false)/\IsPair h T (.ref i) (.ref j)/\(∃u v,IsPair h O u v)/\Zq.It t h i a n/\Zq.It t2 h j b n) where
 mem:=by simp
 obj:=λn h ⟨f,g,⟨u,v,m⟩,p,q⟩ c d=>by
  simp at d
  rcases d with rfl|rfl|rfl|rfl|rfl
  ·exact⟨_,f,λv n=>by cases n⟩
  ·exact⟨_,g,λv n=>by cases n⟩
  ·exact⟨_,m,λv n=>by cases n⟩
  ·exact p.obj
  ·exact q.obj
 keep:=λn h h' ⟨f,g,⟨u,v,m⟩,p,q⟩ k=>⟨k z (by simp) _ f,k T (by simp) _ g,⟨u,v,k O (by simp) _ m⟩,p.at λo e=>k i (by simp) o e,q.at λo e=>k j (by simp) o e⟩
 item:=by
  rintro X Q U R d n l s σ H E I G ⟨f,g,⟨u,v,m⟩,p,q⟩ Z
  subst Q U R
  obtain⟨xs,ys,x,y,F,qb,hx,hy⟩:=Z
  obtain⟨L,M,S,_⟩:=I.sq F
  obtain⟨a0,rb,pb,_⟩:=I.sq qb
  obtain⟨ux,ex,rx⟩:=M.get hx
  obtain⟨uy,ey,ry⟩:=rb.get hy
  have B:∀{c o},s.heap.get? c=some o->c≠s.heap.objs.size:=λe=>Qwq (Qiq e)
  have C:∀c∈[z,T,O,i,j],c≠s.heap.objs.size:=λc d=>by
   obtain⟨oi,e1,_⟩:=p.obj
   obtain⟨oj,e2,_⟩:=q.obj
   simp at d
   rcases d with rfl|rfl|rfl|rfl|rfl
   ·exact B f
   ·exact B g
   ·exact B m
   ·exact B e1
   ·exact B e2
  refine Zq.C0 D f g m p q S pb (x:=ux) (y:=uy) (by simpa using ex) (by simpa using ey) λh1 z1 O1 i1 j1 n1 J=>⟨_,rfl,?_⟩
  have T1:=J _ _ D.TIz D.TITO D.TIi1 D.TIi2 g
  refine wpAny_letOwnedTupleGo_zip z1 λh2 z2 r=> ?_
  have I2:Inv X l σ (upd H s.heap.objs.size (.tup [x,y])) {s with heap:=h2}:=I.turnedNew (t':=s.toks) (fp:= [z,T,O,i,j]) G (λc o d e=> ?_) (Qmq _) ?_
  ·refine⟨.ref s.heap.objs.size,_,I2,rfl,⟨s.heap.objs.size,rfl,I.hok.fresh (Qmq _),λa2 a1 x' y' q1 q2 N Y=> ?_⟩,⟨z2,r.extBut _ _ D.TIz T1,⟨_,_,r.extBut _ _ D.TOz O1⟩,i1.ext r.extBut D.i1z,j1.ext r.extBut D.i2z⟩,λc d=> ?_⟩
   ·rw[I.sq_inj q1 F] at N
    rw[I.sq_inj q2 qb] at Y
    rw[hx] at N
    rw[hy] at Y
    cases N
    cases Y
    rfl
   ·rw[bf (C c d)]
    exact(G c d).1
  ·simp at d
   exact r.extBut _ _ d.1 (J c o d.1 d.2.2.1 d.2.2.2.1 d.2.2.2.2 e)
  ·exact⟨by show 2<=_;decide,[ux,uy],.cons rx (.cons ry .nil),_,r.extBut _ _ (λe=>C z (by simp) e.symm) n1,rfl,rfl,0,rfl⟩
 done:=by
  rintro X Q U R d n l s σ H E I G ⟨f,g,⟨u,v,m⟩,p,q⟩ Z
  subst Q U R
  obtain⟨xs,F,hx⟩:=Z
  obtain⟨L,M,S,_⟩:=I.sq F
  have hl:=M.length
  refine Zq.zQ D (I.ok.hd d) (.inl ⟨f,u,v,m⟩) g p S (by simp;omega) λh1 J=>⟨rfl,I.turnedL (t':=s.toks) (fp:= [z,T,O,i,j]) G λc o d e=> ?_⟩
  simp at d
  exact J c o d.1 d.2.2.1 d.2.2.2.1 d.2.2.2.2 e
 self:=λ_ _ _ _ _ ⟨f,_⟩ h=>wpAny_pyIter_zip f h
section
variable{X:Cx}
def Ox(K:PySem.W.Frag)(h:TA):TI:=λe H R=>h e H λg H1=>∃(t c:Bool) (a b:Addr) (f d:List V),g= [.ref a,.ref b]/\zK K t H1 a f/\zK K c H1 b d/\R (Od K t c a b) H1
def HE{i:List Expr}{S:Nat}{L:Pos}{a b:Expr}{l:TA}{p pos:Pos}(z:Gl X "zip")(J:X.mg "zip"=none)(M:PA X [a,b] l)(hs:starEach [a,b] X.env= [(false,eval a X.env),(false,eval b X.env)]:=by rfl)(f:starEach [b] X.env= [(false,eval b X.env)]:=by rfl):
  PI X (.Tuple i S L) (.Call (.Name "zip" p) [a,b] [] pos) (Ox X.K l):=by
 intro d s Y H R I h
 refine Call_ (kG I z J (by rfl) (PyProof.Rows.callWith_type1 (c9 (M pos d s Y H _ I h) λus n ⟨vs,H1,g,F,N⟩=> ?_) (by rw[hs,f]) (by rw[f];rfl)))
 obtain⟨t,t2,x,y,xs,ys,e,W,G,q⟩:=N
 subst e
 cases F with
 | cons r j=>
   cases j with
   | cons Z j=>
     cases j
     cases r
     cases Z
     obtain⟨U,ra,m,_⟩:=g.sq W
     obtain⟨B,rb,u,_⟩:=g.sq G
     have P:=Sq.lt m
     have ly:=Sq.lt u
     refine Zq.HX m u λh' w A Q gi C k=> ?_
     refine wpAny_pyIter_zip w ⟨_,_,_,_,H1,rfl,g.kept (t':=n.toks) k,CT (PyProof.Rows.zipApart_new P ly),⟨w,A,⟨_,_,Q⟩,gi,C⟩,λc o=> ?_,q⟩
     have v:n.heap.objs.size<=c:=by
       simp only[Qsq,QXq,or_false] at o
       rcases o with e|e|e|e|e <;>(rw[e];first|exact Qmq _|exact Nat.le_add_right _ _)
     exact g.fpOk v (g.hok.fresh v)
end
end L2
namespace DL
open PySem PySem.Spec PyProof.Rows L2
def AQ.sqB{M:Md}{ρ:List Addr}{H:Hp}{a:Addr}{vs:List V}{t:Tag}(h:AQ M ρ H a vs t):L2.zK M.K (!t.isL) H a vs:=by
 cases c:t.isL with
 |true=>exact h.sqL c
 |false=>exact h.sqT c
def zf(xs ys:List D):List D:=List.zipWith (λx y=>D.tup [x,y]) xs ys
open Classical in
def uX(f g:dz):uR:=λb S=>(f b S).bind λ(p,c)=>(g b c).bind λ(r,a)=>if p.2.stays a p.1/\p.1.length<=r.1.length then some ((zf p.1 r.1,λS=>p.2.stays S p.1/\r.2.stays S r.1),a) else none
section
variable{X:Cx}{a b c e:Expr}{pos:Pos}{st:Stmt}
def FS{n:List Expr}{r:Nat}{tp p:Pos}{f g:dz}(hg:Gl X "zip")(hm:X.mg "zip"=none)(ha:PE X a (tQ (md X) f))(hb:PE X b (tQ (md X) g))(hs:starEach [a,b] X.env= [(false,eval a X.env),(false,eval b X.env)]:=by rfl)(j:starEach [b] X.env= [(false,eval b X.env)]:=by rfl):
  PI X (.Tuple n r tp) (.Call (.Name "zip" p) [a,b] [] pos) (tI (md X) (uX f g)):=Mr (HE hg hm (da ha (da hb fJ j) (by rw[hs,j])) hs j) λσ H R ⟨ρ,N,S,ds,W,S',ok,e,q⟩=>by
 obtain⟨⟨⟨m,t1⟩,Z⟩,e1,e⟩:=ar e
 obtain⟨⟨⟨o,t2⟩,S2⟩,e2,e⟩:=ar e
 dsimp only at e
 split at e
 ·rename_i c
  obtain⟨e3,rfl⟩:=cc e
  obtain⟨rfl,rfl⟩:=Prod.mk.inj e3
  refine⟨ρ,N,S,m,t1,Z,ok,e1,λA a1 a0 H1 r G h1 r1=>⟨A,N,Z,o,t2,S2,ok.to r G,e2,λa3 b1 ws H2 J l K r2=> ?_⟩⟩
  obtain⟨F,M,r3⟩:=h1.to r1 J l c.1
  refine⟨_,_,a1,b1,F,ws,rfl,M.sqB,K.sqB,q _ _ _ (r.trans J) l λi a2 S3 H3 Q k w=> ?_⟩
  obtain⟨C,B,L⟩:=M.to r3 Q k w.1
  obtain⟨U,Y,g4⟩:=K.to r2 Q k w.2
  refine⟨λd h=> ?_,λhi=>⟨C,B.sqB,?_⟩⟩
  ·unfold zf at h
   rw[List.getElem?_zipWith] at h
   cases s:m[i]? with
   |none=>rw[s] at h;cases h
   | some x=>
     cases t:o[i]? with
     |none=>rw[s,t] at h;cases h
     | some y=>
       rw[s,t] at h
       cases h
       obtain⟨u,I,ru⟩:=L.get s
       obtain⟨z,P,rz⟩:=g4.get t
       refine⟨⟨C,U,u,z,B.sqB,Y.sqB,I,P⟩,λv H4 hv=> ?_⟩
       obtain⟨p,rfl,hp,hq⟩:=hv
       have:=hq C U u z B.sqB Y.sqB I P
       subst this
       exact⟨bX.laid hp,k.lay hp,.tup bI ((a7.cons ru (.cons rz .nil)).ext (bX.laid hp))⟩
  ·rw[hi]
   unfold zf
   rw[List.length_zipWith,L.length.symm]
   have:=c.2
   omega
 ·cases e
end
def uQ:D->Option Key
 |.int i=>some (.inl i)
 |.str x=>some (.inr x)
 |_=>none
def rR{M:Md}{ρ:List Addr}{H:Hp}{d:D}{v:V}{k:Key}(r:Rel M ρ H d v)(e:uQ d=some k):v=kV k:=by
 cases r <;>simp[uQ] at e <;>subst e <;>rfl
def zO:List D->Option (List Key)
 | []=>some []
 |d::r=>(uQ d).bind λk=>(zO r).bind λa=>some (k::a)
theorem yN{M:Md}{ρ:List Addr}{H:Hp}:∀{ds:List D} {vs:List V} {a:List Key},a7 M ρ H ds vs->zO ds=some a->vs=a.map kV
 |_,_,_,.nil,e=>by cases e;rfl
 | _,_,_,.cons h hs,e=>by
   obtain⟨k,c,e⟩:=ar e
   obtain⟨a,b,e⟩:=ar e
   cases e
   rw[rR h c,yN hs b]
   rfl
def ub(kvs:List (Key×D))(k:Key):Option D:=(kvs.find? λa=>decide (a.1=k)).map (·.2)
def putD(kvs:List (Key×D))(k:Key)(v:D):List (Key×D):=
 if (kvs.any λa=>decide (a.1=k))=true then kvs.map (λa=>if a.1=k then(a.1,v) else a) else kvs++ [(k,v)]
def cP(kvs more:List (Key×D)):List (Key×D):=more.foldl (λa b=>putD a b.1 b.2) kvs
section
variable{M:Md}{ρ:List Addr}{H:Hp}
theorem b_.append:∀{l m:List (Key×D)} {kv kw:List (Key×V)},b_ M ρ H l kv->b_ M ρ H m kw->b_ M ρ H (l++m) (kv++kw)
 | [],_,_,_,h,h'=>by cases h;exact h'
 |(_,_)::_,_,_,_,⟨v,t,e,h,hs⟩,h'=>by subst e;exact⟨v,_,rfl,h,b_.append hs h'⟩
theorem b_.any:∀{l:List (Key×D)} {kv:List (Key×V)} (k:Key),b_ M ρ H l kv->(l.any λp=>decide (p.1=k))=kv.any λp=>decide (p.1=k)
 | [],_,_,h=>by cases h;rfl
 |(_,_)::_,_,k,⟨v,t,e,h,hs⟩=>by subst e;simp only[List.any_cons,b_.any k hs]
theorem b_.mapP{d:D}{v:V}{k:Key}(r:Rel M ρ H d v):∀{l:List (Key×D)} {kv:List (Key×V)},b_ M ρ H l kv->b_ M ρ H (l.map λp=>if p.1=k then(p.1,d) else p) (kv.map λp=>if p.1=k then(p.1,v) else p)
 | [],_,h=>by cases h;rfl
 | (k',_)::_,_,⟨u,t,e,h,hs⟩=>by
   subst e
   simp only[QDq]
   by_cases c:k'=k
   · simp only[c,if_true];exact⟨v,_,rfl,r,b_.mapP r hs⟩
   · simp only[c,if_false];exact⟨u,_,rfl,h,b_.mapP r hs⟩
def b_.put{l:List (Key×D)}{kv:List (Key×V)}{k:Key}{d:D}{v:V}(h:b_ M ρ H l kv)(r:Rel M ρ H d v):b_ M ρ H (putD l k d) (putK kv k v):=by
 unfold putD putK
 rw[h.any k]
 split
 ·exact h.mapP r
 ·exact h.append ⟨v,[],rfl,r,rfl⟩
theorem b_.merge:∀{m:List (Key×D)} {kw:List (Key×V)} {l:List (Key×D)} {kv:List (Key×V)},b_ M ρ H m kw->b_ M ρ H l kv->b_ M ρ H (cP l m) (jV kv kw)
 | [],_,_,_,h,h'=>by cases h;exact h'
 | (k,d)::m,_,_,_,⟨v,t,e,h,hs⟩,h'=>by
   subst e
   unfold cP jV
   rw[List.foldl_cons,List.foldl_cons]
   exact b_.merge (m:=m) (kw:=t) hs (h'.put h)
theorem b_.zip:∀{a:List Key} {ds:List D} {vs:List V},a7 M ρ H ds vs->b_ M ρ H (a.zip ds) (a.zip vs)
 | [],_,_,_=>rfl
 |_::_,_,_,.nil=>rfl
 |k::a,_,_,.cons h hs=>⟨_,_,rfl,h,b_.zip hs⟩
theorem b_.val:∀{l:List (Key×D)} {kv:List (Key×V)} {k:Key} {d:D},b_ M ρ H l kv->ub l k=some d->∃v,pN kv k=some v/\Rel M ρ H d v
 | [],_,_,_,_,e=>by cases e
 | (k',d')::_,_,k,d,⟨v,t,e,h,hs⟩,e'=>by
   subst e
   unfold ub at e'
   unfold pN
   rw[List.find?_cons] at e'⊢
   by_cases c:k'=k
   · simp only[c,decide_true] at e'⊢
     cases e'
     exact⟨v,rfl,h⟩
   · simp only[c,decide_false] at e'⊢
     exact b_.val hs e'
def b_.ext'{a:List Addr}{b:Hp}{l:List (Key×D)}{kv:List (Key×V)}(h:b_ M ρ H l kv)(e:bX ρ H a b):b_ M a b l kv:=h.imp λ_ _ r=>r.ext e
def b_.pre'{a:List Addr}{l:List (Key×D)}{kv:List (Key×V)}(h:b_ M ρ H l kv)(e:ρ <+: a):b_ M a H l kv:=h.imp λ_ _ r=>r.pre e
end
section
variable{X:Cx}{a b c e:Expr}{pos:Pos}{st:Stmt}
def K_{M:Md}{ρ d:List Addr}{H h:Hp}{k:aC}{l:List (Key×D)}{kv:List (Key×V)}{p:Addr}{Q:VK}(x:bX ρ H d h)(st:fM M d k h)(j:h p=none)(r:b_ M d h l kv)
  (q:∀f v g,bX ρ H f g->fM M f (k++ [.dct l]) g->Rel M f g (.ref k.length) v->Q v g):Q (.ref p) (upd h p (.dK kv)):=by
 have s:p∉d:=dg x st j
 have n:bX d h d (upd h p (.dK kv)):=bX.laid j
 have m:=(st.lay (u:=.dK kv) j).box (o:=.dct l) s ⟨kv,bI,(r.ext' n).pre' (List.prefix_append _ _)⟩
 refine q (d++ [p]) (.ref p) _ ⟨x.pre.trans (List.prefix_append _ _),λc i=> ?_,(x.trans n).keep,(x.trans n).grow⟩ m (.ref ?_)
 ·rcases mQa.mp i with i|i
  ·exact x.new c i
  ·rw[Qfq] at i;subst i;exact .inr (x.grow _ j)
 ·rw[←st.len,QQq (Qmq _)]
  simp
open Classical in
def KH(f g:dz):bx:=λh S=>(f h S).bind λ(p,j)=>(g h j).bind λ(r,d)=>if p.2.stays d p.1/\p.1.length=r.1.length then(zO p.1).bind λi=>some (.ref d.length,d++ [.dct (cP [] (i.zip r.1))]) else none
def KC{C m c1 j:Pos}{f g:dz}(hc:X.calm=true)(k:Gl X "dict")(n:X.mg "dict"=none)(F:Gl X "zip")(W:X.mg "zip"=none)(Y:PE X a (tQ (md X) f))(hb:PE X b (tQ (md X) g))(A:starEach [a,b] X.env= [(false,eval a X.env),(false,eval b X.env)]:=by rfl)(h:starEach [b] X.env= [(false,eval b X.env)]:=by rfl)
  (he:starEach [Expr.Call (.Name "zip" m) [a,b] [] j] X.env= [(false,eval (Expr.Call (.Name "zip" m) [a,b] [] j) X.env)]:=by rfl):
  PE X (.Call (.Name "dict" C) [.Call (.Name "zip" m) [a,b] [] j] [] c1) (tD (md X) (KH f g)):=km (AZ hc k n F W (da Y (da hb fJ h) (by rw[A,h])) A h he) λσ H Q ⟨I,z,S,d,S',ok,e,q⟩=>by
 obtain⟨⟨⟨s,L⟩,v⟩,Z,e⟩:=ar e
 obtain⟨⟨⟨r,J⟩,U⟩,e2,e⟩:=ar e
 dsimp only at e
 split at e
 ·rename_i c
  obtain⟨B,e3,e⟩:=ar e
  obtain⟨rfl,rfl⟩:=cc e
  refine⟨I,z,S,s,L,v,ok,Z,λo G P H1 w t R N=>⟨o,z,v,r,J,U,ok.to w t,e2,λa0 b1 ws H2 x i h2 y=> ?_⟩⟩
  obtain⟨a2,h3,u⟩:=R.to N x i c.1
  have K:=yN u e3
  subst K
  have hl:=u.length
  rw[lQm] at hl
  refine⟨_,_,G,b1,B,ws,rfl,h3.sqB,h2.sqB,by rw[←hl,←y.length];exact c.2,λp M=> ?_⟩
  exact K_ (w.trans x) i M (b_.merge (l:= []) (b_.zip y) rfl) q
 ·cases e
def M0:bx:=λ_ S=>some (.ref S.length,S++ [.dct []])
def M5:PE X (.Dict [] [] pos) (tD (md X) M0):=km Fk λi H Q g=>by
 obtain⟨h,k,S,d,j,ok,e,q⟩:=g
 obtain⟨rfl,rfl⟩:=cc e
 exact λp f=>K_ bX.refl ok.st f (l:= []) (kv:= []) rfl q
def Lu(f g:bx):bx:=λi S=>(f i S).bind λ(x,j)=>(g i j).bind λ(y,h)=>match x with
 | .ref k=>match h[k]? with
   |some (.dct l)=>(uQ y).bind λm=>(ub l m).bind λd=>some (d,h)
   |_=>none
 |_=>none
def M9{f g:bx}(B:X.A.units+1<cLine)(j:PE X a (tD (md X) f))(P:PE X b (tD (md X) g))(o:Hd b):PE X (.Subscript a b pos) (tD (md X) (Lu f g)):=km (GB B j P o) λσ H Q w=>by
 obtain⟨u,t,S,d,Y,ok,e,q⟩:=w
 obtain⟨⟨x,p⟩,F,e⟩:=ar e
 obtain⟨⟨y,C⟩,G,e⟩:=ar e
 cases x with
 | ref k=>
   dsimp only at e
   split at e
   · rename_i l o
     obtain⟨U,J,e⟩:=ar e
     obtain⟨Z,N,e⟩:=ar e
     obtain⟨rfl,rfl⟩:=cc e
     refine⟨u,t,S,_,p,ok,F,λm v1 H1 r n i=>⟨m,t,p,y,C,ok.to r n,G,λI W H2 s h R=> ?_⟩⟩
     cases rR R J
     have i:=i.ext s
     cases i with
     | ref j=>
       obtain⟨kv,z,M⟩:=h.obj k _ _ j o
       obtain⟨v,L,K⟩:=M.val N
       exact⟨_,v,rfl,by rw[←L];exact Dc.k z,q _ _ _ (r.trans s) h K⟩
   · cases e
 |_=>cases e
def MB(f g h:bx):cO:=λi S=>(h i S).bind λ(d,m)=>(f i m).bind λ(x,o)=>(g i o).bind λ(y,j)=>match x with
 | .ref k=>match j[k]? with
   |some (.dct l)=>(uQ y).bind λn=>if l.length<sizeLine then some (.nx i (j.set k (.dct (putD l n d)))) else none
   |_=>none
 |_=>none
mutual
theorem Rel.offK{M:Md}{ρ:List Addr}{H:Hp}{b:Addr}{g:List (Key×V)}{o:HO}(f:H b=some (.dK g)):∀{d:D} {v:V},Rel M ρ H d v->Rel M ρ (upd H b o) d v
 |_,_,.non=>.non
 |_,_,.bl x=>.bl x
 |_,_,.int i=>.int i
 |_,_,.str x=>.str x
 |_,_,.tup h hs=>.tup (by rw[bf (ER h f (by intro z;cases z))];exact h) (a7.offK f hs)
 |_,_,.ref h=>.ref h
 |_,_,.fn h=>.fn h
theorem a7.offK{M:Md}{ρ:List Addr}{H:Hp}{b:Addr}{f:List (Key×V)}{o:HO}(d:H b=some (.dK f)):∀{ds:List D} {vs:List V},a7 M ρ H ds vs->a7 M ρ (upd H b o) ds vs
 |_,_,.nil=>.nil
 |_,_,.cons h hs=>.cons (Rel.offK d h) (a7.offK d hs)
end
def fM.putKd{M:Md}{ρ:List Addr}{S:aC}{H:Hp}{k:Nat}{a:Addr}{l h:List (Key×D)}{kw:List (Key×V)}(st:fM M ρ S H)(i:ρ[k]?=some a)(d:S[k]?=some (.dct l))(r:b_ M ρ H h kw):fM M ρ (S.set k (.dct h)) (upd H a (.dK kw))/\bX ρ H ρ (upd H a (.dK kw)):=by
 obtain⟨j,f,m⟩:=st.obj k a _ i d
 exact st.put i d ⟨kw,bI,r.imp λ_ _ q=>q.offK f⟩ λx g=>by rw[f] at g;cases g;exact id
def MV{f g h:bx}{i:Pos}{v:Expr}(W:X.A.units+1<cLine)(p:PE X a (tD (md X) f))(hb:PE X b (tD (md X) g))(hv:PE X v (tD (md X) h))(r:swapsWith v (some (.Subscript a b i)) pos.line X.env=pure false:=by rfl):PS X (.Assign [.Subscript a b i] v pos) (tS (md X) (MB f g h)):=
 Dm (HP W p hb hv r) λD σ H Q=>by
  obtain⟨N,I,S,o,ok,e,q⟩:=Q
  obtain⟨⟨d,L⟩,e1,e⟩:=ar e
  obtain⟨⟨x,J⟩,e2,e⟩:=ar e
  obtain⟨⟨y,U⟩,e3,e⟩:=ar e
  cases x with
  | ref k=>
    dsimp only at e
    split at e
    · rename_i l r
      obtain⟨P,e4,e⟩:=ar e
      split at e
      · rename_i hl
        cases e
        refine⟨N,I,S,d,L,ok,e1,λu v1 H1 z n s=>⟨u,I,L,_,J,ok.to z n,e2,λw v2 H2 F t G=>⟨w,I,J,y,U,(ok.to z n).to F t,e3,λZ v3 H3 C j Y=> ?_⟩⟩⟩
        cases rR Y e4
        have G:=G.ext C
        have s:=s.ext (F.trans C)
        have m:=(z.trans F).trans C
        cases G with
        | ref p=>
          obtain⟨kv,R,M⟩:=j.obj k _ _ p r
          obtain⟨B,K⟩:=j.putKd p r (M.put (k:=P) s)
          exact⟨_,_,rfl,ED.k R (by rw[←M.length];exact hl),q _ _ _ (m.trans K) ((ok.to m j).to K B)⟩
      · cases e
    · cases e
  |_=>cases e
open Classical in
def Ks(f:dz)(g:bx):bx:=λh S=>(f h S).bind λ(p,i)=>if p.2.isL=true then(g h i).bind λ(y,d)=>if p.2.stays d p.1 then(uM y).bind λv=>(gB p.1).bind λk=>(oH v k).bind λj=>some (.int (j:Nat),d) else none else none
def Mm{f:dz}{g:bx}{o:Expr}{i h:Pos}(ho:PE X o (tQ (md X) f))(P:PE X e (tD (md X) g))(k:attributeBase o "index" X.env (eval o X.env)=eval o X.env:=by rfl) (n:((backTo h (starEach [e] X.env)).all (λx=> !x.1)&&(backToKw h (keywordEach [] X.env)).all (λx=>x.1.isSome)
   &&decide ([e].length+([]:List Keyword).length+(if ([]:List Keyword).isEmpty then 0 else 1)<30))=true:=by rfl)
  (l:(i.endLine==h.line)=true:=by rfl) (J:starEach [e] X.env= [(false,eval e X.env)]:=by rfl):PE X (.Call (.Attribute o "index" i) [e] [] h) (tD (md X) (Ks f g)):=
 km (vX PySem.F.plainAttrs_list PySem.F.slot_list_index PySem.F.type_list_index FC ho (az P aW J) k n l J) λσ H Q M=>by
  obtain⟨K,I,S,d,S',ok,e,q⟩:=M
  obtain⟨⟨⟨Y,t⟩,B⟩,U,e⟩:=ar e
  dsimp only at e
  split at e
  ·rename_i z
   obtain⟨⟨y,N⟩,W,e⟩:=ar e
   dsimp only at e
   split at e
   ·rename_i cS
    obtain⟨v,A,e⟩:=ar e
    obtain⟨vs,e4,e⟩:=ar e
    obtain⟨j,e5,e⟩:=ar e
    obtain⟨rfl,rfl⟩:=cc e
    refine⟨K,I,S,Y,t,B,ok,U,λr a us H1 C s w L=>⟨.inl ⟨rfl,us,w.sqL z⟩,r,I,B,[y],N,ok.to C s,by simp only[aq,au,W,Qbq],λZ ws H2 G m u=> ?_⟩⟩
    obtain⟨p,h3,R⟩:=w.to L G m cS
    cases u with
    | cons u rr=>
      cases rr
      cases lJ u A
      obtain⟨rfl,f1⟩:=i8 R e4
      exact⟨a,p,_,j,rfl,rfl,h3.sqL z,oT A,f1,e5,q _ _ _ (C.trans G) m (.int _)⟩
   ·cases e
  ·cases e
end
section
variable{X:Cx}{a b c e:Expr}{pos:Pos}{st:Stmt}
def Nl:V->List V->Hp->VK->Prop:=λx g H Q=>∃a b f d,x=.ref a/\g= [.ref b]/\a≠b/\H a=some (.dK f)/\H b=some (.dK d)/\f.length+d.length<=sizeLine/\Q .non (upd H a (.dK (jV f d)))
def Di:Mk X "dict.update" Nl:=by
 intro m s K H x J v L Q I r p h
 obtain⟨a,b,l,i,rfl,rfl,ab,ha,hb,hz,q⟩:=h
 cases r
 obtain⟨u,rfl,ru⟩:=p.one
 cases ru
 obtain⟨z,A,o,g,n⟩:=Ac I.hok ha
 obtain⟨G,j,t,d,k⟩:=Ac I.hok hb
 refine call_meetsIn PySem.F.slot_dict_update n.typeIs PySem.F.entry_dict_update (PySem.F.args_dict_update_2 _ _) (meets_dict_update (bP X.prog X.w) a b ab j) ⟨o,t,n,k,by rw[←g.length,←d.length];exact hz,λB f _ C=> ?_⟩
 have y:∃q,B.get? a=some q:=let ⟨q,_,_,hq,_⟩:=f;⟨q,hq⟩
 have hl:=i3 i l
 exact⟨.non,_,r_ I (by rw[ha];exact True.intro) C y (uu (by omega) A (KV.merge d g) f),rfl,q⟩
def GY(f g:bx):bx:=λi S=>(f i S).bind λ(x,h)=>(g i h).bind λ(y,d)=>match x,y with
 | .ref k,.ref j=>if k≠j then match h[k]?,d[k]?,d[j]? with
   |some (.dct _),some (.dct l),some (.dct m)=>if l.length+m.length<=sizeLine then some (.non,d.set k (.dct (cP l m))) else none
   |_,_,_=>none
   else none
 |_,_=>none
def L1{f g:bx}{o:Expr}{n h:Pos}(ho:PE X o (tD (md X) f))(w:PE X e (tD (md X) g))(p:attributeBase o "update" X.env (eval o X.env)=eval o X.env:=by rfl) (t:((backTo h (starEach [e] X.env)).all (λx=> !x.1)&&(backToKw h (keywordEach [] X.env)).all (λx=>x.1.isSome)
   &&decide ([e].length+([]:List Keyword).length+(if ([]:List Keyword).isEmpty then 0 else 1)<30))=true:=by rfl)
  (r:(n.endLine==h.line)=true:=by rfl) (Z:starEach [e] X.env= [(false,eval e X.env)]:=by rfl):PE X (.Call (.Attribute o "update" n) [e] [] h) (tD (md X) (GY f g)):=
 km (vX PySem.F.plainAttrs_dict PySem.F.slot_dict_update PySem.F.type_dict_update Di ho (az w aW Z) p t r Z) λσ H Q qq=>by
  obtain⟨ρ,Y,S,d,S',ok,e,q⟩:=qq
  obtain⟨⟨x,K⟩,e1,e⟩:=ar e
  obtain⟨⟨y,I⟩,e2,e⟩:=ar e
  cases x with
  | ref k=>
    cases y with
    | ref j=>
      dsimp only at e
      split at e
      · rename_i ne
        cases C:K[k]? with
        |none=>rw[C] at e;cases e
        | some o1=>
          rw[C] at e
          cases o1 with
          | dct l0=>
            cases A:I[k]? with
            |none=>rw[A] at e;cases e
            | some o2=>
              rw[A] at e
              cases o2 with
              | dct l=>
                cases L:I[j]? with
                |none=>rw[L] at e;cases e
                | some o3=>
                  rw[L] at e
                  cases o3 with
                  | dct m=>
                    dsimp only at e
                    split at e
                    · rename_i hl
                      obtain⟨rfl,rfl⟩:=cc e
                      refine⟨ρ,Y,S,_,K,ok,e1,λJ v H1 P u r1=> ?_⟩
                      cases r1 with
                      | ref w=>
                        rename_i a
                        obtain⟨B,g0,_⟩:=u.obj k a _ w C
                        refine⟨.inr (.inr (.inl ⟨rfl,.inl ⟨B,g0⟩⟩)),J,Y,K,[.ref j],I,ok.to P u,by simp only[aq,au,e2,Qbq],λa0 ws H2 W i M=> ?_⟩
                        cases M with
                        | cons M rr=>
                          cases rr
                          cases M with
                          | ref U=>
                            rename_i b
                            have s:=dt W.pre w
                            obtain⟨kv,g1,R⟩:=i.obj k a _ s A
                            obtain⟨kw,g3,N⟩:=i.obj j b _ U L
                            have ab:a≠b:=λz=>by subst z;exact ne (jd i.nd s U)
                            obtain⟨G,x3⟩:=i.putKd s A (b_.merge N R)
                            exact⟨a,b,kv,kw,rfl,rfl,ab,g1,g3,by rw[←R.length,←N.length];exact hl,q _ _ _ ((P.trans W).trans x3) G .non⟩
                    · cases e
                  |_=>cases e
              |_=>cases e
          |_=>cases e
      · cases e
    |_=>cases e
  |_=>cases e
end
end DL
namespace L2
open PySem PySem.Spec PyProof.Rows
section
variable{prog:Program}{w:World}{A:Around}{s:Shared}
def ve{G F a k:Expr}{q:List Expr}{d:Scope}{pos:Pos}{it:Value}{D:Addr}{env:Env}{R:Result->Shared->Prop}(I:Nat->Shared->Prop)
  (C:∀n s,I n s->wpAny (model prog w) A (pyNext it) (λr f=>match r with
   |none=>R (.ok .next) f
   |some v=>wpAny (model prog w) A (letOwnedTupleGo a it v) (λ_ e=>wpAny (model prog w) A (assign a env v) (λ_ g=>
     wpAny (model prog w) A (forIn q true λc r=>if r=true then do let ok←isTrue c env (eval c env);pure (ForInStep.yield ok) else pure (ForInStep.yield r)) (λok s₃=>
      if ok=true then wpAny (model prog w) A (eval G env) (λx l=>wpAny (model prog w) A (eval F env) (λy j=>
       wpAny (model prog w) A (dictSet D x y) (λ_ o=>∃m,m<n/\I m o) (λ_ _=>False) j) (λ_ _=>False) l) (λ_ _=>False) s₃
      else∃m,m<n/\I m s₃) (λ_ _=>False) g) (λ_ _=>False) e) (λ_ _=>False) f) (λ_ _=>False) s)
  (n:Nat) (h:I n s):codeAny (model prog w) A (.compLoop (.DictComp G F [⟨a,k,q,0⟩] d pos) 0 it (.ref D) env) R s:=by
 refine codeAny_loop rfl I (λn s H=> ?_) n h
 show wpAny _ A ((compTurn (.DictComp G F [⟨a,k,q,0⟩] d pos) 0 it (.ref D) env).onRaise (λx=>do noteFrame x env;theTreesLotGoes x)) _ _ s
 refine wpAny_noted ?_
 rw[compTurn_dict]
 refine Qaq (wpAny_standAt (Qaq (QRq (C n s H) (λr f i=> ?_) λ_ _ b=>b.elim)))
 cases r with
 |none=>exact Qgq i
 | some v=>
   refine Qaq (QRq i (λ_ e p=> ?_) λ_ _ b=>b.elim)
   refine Qaq (QRq p (λ_ g z=>Qaq (QRq z (λok s₃ h₃=> ?_) λ_ _ b=>b.elim)) λ_ _ b=>b.elim)
   cases ok with
   |false=>exact Qgq ⟨rfl,h₃⟩
   | true=>
     exact Qaq (Qaq (QRq h₃ (λx l B=>Qaq (QLq (QRq B (λy j t=>Qaq (wpAny_standAt (QLq (QRq t (λ_ o u=>Qgq ⟨rfl,u⟩) λ_ _ b=>b.elim)))) λ_ _ b=>b.elim))) λ_ _ b=>b.elim))
end
def J5(J:It)(g:TG)(p:TT)(q o:TE)(Q:VK)(D:Addr)(r:St)(H:Hp):Prop:=
 ∃ W:Nat->Nat->St->Hp->Prop,(∃m,W 0 m r H)/\∀i m f d,W i m f d→
   (J.stop i d/\Q (.ref D) d)\/(J.go i d/\∃h:St->Hp->Prop,(∀b e,h b e->∃l,l<m/\W (i+1) l b e)∧
     ∀ x H2,J.yld i d x H2->g x f H2 λa H3=>p a H3 λok H4=>
       if ok=true then q a H4 λk H5=>o a H5 λy n=>∃c j,k=kV j/\n D=some (.dK c)/\c.length<sizeLine/\h a (upd n D (.dK (putK c j y))) else h a H4)
def EG(js:List (Option Nat))(e:TI)(g:TG)(c:TT)(d b:TE):TE:=λa H Q=>e a H λJ H1=>∀D,H1 D=none->J5 J g c d b Q D (j8 js a) (upd H1 D (.dK []))
def EJ{X:Cx}{N:List Str}{js:List (Option Nat)}{a:Scope}{cl:List (Str×Addr)}{tg Q kx vx K:Expr}{b0:List Expr}{pos b2:Pos}{wi:TI}{g gt:TG}{tt:TT}{tk tv:TE}
  (S:aM X N js a cl) (hc:X.calm=true) (hi:PI X tg Q wi)
  (hg:∀C s H fp,PG (aL X N a cl C s H fp) tg g) (ht:∀C s H fp,m6 (aL X N a cl C s H fp) b0 tt) (hk:∀C s H fp,PE (aL X N a cl C s H fp) kx tk) (hv:∀C s H fp,PE (aL X N a cl C s H fp) vx tv) (e5:PG X K gt)
  (hs:∀x,foldedSetIterable Q X.env x=pure x:=by intro _;rfl) (e3:swapsWithSole [K] (.DictComp kx vx [⟨tg,Q,b0,0⟩] a pos) b2.line X.env=pure true:=by rfl)
  (h1:(assignEach [K] X.env).map (·.2)= [assign K X.env]:=by rfl):PS X (.Assign [K] (.DictComp kx vx [⟨tg,Q,b0,0⟩] a pos) b2) (DB (EG js wi g tt tk tv) gt):=by
 intro Z s σ H Dn I h
 rw[exec_Assign_arm]
 refine Qaq (wpAny_standAt (Qaq (wpAny_of_eq e3 (wpAny_ite_true rfl (Qaq ?_)))))
 rw[h1]
 show wpAny _ _ (do let _←comprehension _ _ _ _ _ _ _ (some λv=>assignAll v [assign K X.env]);pure ()) _ _ _
 refine Qaq ?_
 refine wpAny_comprehension_free (use:=some λv=>assignAll v [assign K X.env]) rfl hs S.clos S.kind S.names (c9 (hi Z s σ H _ I h) λv s1 h1=>c9 h1 λe8 t h2=> ?_)
 obtain⟨it,fp,tn,J,H2,e,F,T,b4,f2,hD⟩:=h2
 subst e
 refine QhQ (wpAny_newFunctionEnv S.nocell (by intro y hy;simp at hy) (λR L B=> ?_) S.kind)
 dsimp only at L B⊢
 generalize a5:t.heap.push {cls:=.type "dict",data:=.dict #[]}=P2 at L B⊢
 have hC:P2.objs.size=t.heap.objs.size+1:=by rw[←a5,Heap.size_push]
 have b6:t.heap.objs.size≠P2.objs.size:=by rw[hC];exact Qwq (Nat.lt_succ_self _)
 have a1:t.heap.objs.size<=P2.objs.size:=by rw[hC];exact Nat.le_succ _
 have G:∀b,b<t.heap.objs.size->b≠P2.objs.size:=λb f=>by rw[hC];exact Qwq (Nat.lt_succ_of_lt f)
 have a0:∀b o,t.heap.get? b=some o->R.get? b=some o:=λb o e=>B.extBut b o (G b (Qiq e)) (Qcq _ (a5▸Qcq _ e))
 have e6:R.get? t.heap.objs.size=some {cls:=.type "dict",data:=.dict #[]}:=B.extBut _ _ b6 (Qcq _ (a5▸Qrq _ rfl))
 have nD:H2 t.heap.objs.size=none:=F.fresh
 have nC:H2 P2.objs.size=none:=F.hok.fresh a1
 have b5:∀b∈fp,b<t.heap.objs.size:=λb f=>by
  obtain⟨o,e,_⟩:=T.obj _ _ b4 b f
  exact Qiq e
 obtain⟨W,⟨m0,w0⟩,c0⟩:=hD t.heap.objs.size nD
 have d4:(aL X N a cl P2.objs.size t H2 fp).Ok:=by
  refine⟨F.ok.mod,S.kind,F.ok.glob,F.ok.blt,a1,λx y c h1 h2=>F.ok.inj x y c (S.sub x c h1) (S.sub y c h2),S.has,(λx c h=>by cases h),F.ok.hd,F.ok.frames,.inl rfl,
   λb f=>⟨G b (b5 b f),λx c h=>(f2 b f).2.2.2.2.1 x c (S.sub x c h)⟩,F.bs,QAq F.ok.bsz F.sz,λb o e f=> ?_,λb f z=> ?_,F.stack,F.stkFree⟩
  ·rcases(f2 b f).2.2.2.1 with z|z
   ·exact F.ok.noex b o e z
   ·exact absurd (Qqq (Qqq (Qiq e) F.ok.bsz) z) (Nat.lt_irrefl _)
  ·rcases Qsq.mp (F.stkSub b z) with q|q
   ·exact(f2 b f).2.1 q
   ·exact(f2 b f).2.2.1 q
 have c4:cT X.prog X.w (upd H2 t.heap.objs.size (.dK [])) R t.heap.objs.size (.dK []):=by
  obtain⟨o,es,ep,e1,e2⟩:=Heap.DictOf.new (knd:=bP X.prog X.w) t.heap
  exact uu (Nat.zero_le _) (beq_eq_false_iff_ne.mpr (Ne.symm (Qwq F.big))) .nil ⟨o,es,ep,B.extBut _ _ b6 (Qcq _ (a5▸e1)),e2⟩
 have I4:Inv (aL X N a cl P2.objs.size t H2 fp) [] (j8 js σ) (upd H2 t.heap.objs.size (.dK [])) {t with heap:=R,toks:=t.toks+([]:List (Str×Value)).length}:=by
  refine⟨d4,rfl,F.bare,Un.laid a0 (Qmq _) nD,⟨_,L,λi x v h1 h2 h3=> ?_⟩,λx c h=> ?_,by show upd H2 _ _ P2.objs.size=none;rw[bf b6.symm];exact nC,λx c h=> ?_,λp hp=>absurd (show p∈([]:List (Addr×Obj)) from hp) (by simp),F.hok.laid a0 (Qmq _) c4,by show(j8 js σ).length=N.length;unfold j8;rw[lQm];exact S.len⟩
  ·unfold j8 at h2
   rw[gQm] at h2
   cases e:js[i]? with
   |none=>rw[e] at h2;cases h2
   | some o=>
     rw[e] at h2
     cases o with
     |none=>cases h2
     | some j=>
       have a2:σ.getD j none=some v:=QdQ h2
       have hj:σ[j]?=some (some v):=by
         rw[Qlq] at a2
         cases q:σ[j]? with
         |none=>rw[q] at a2;cases a2
         |some y=>rw[q] at a2;exact congrArg some a2
       obtain⟨c1,c2,c3⟩:=S.cap i j x e h1
       obtain⟨m,hn,hl⟩:=F.loc
       have d7:Ii X.env.scope x:=by
         rcases c2 with z|z
         · exact .inr (.inl z)
         · exact .inr (.inr z)
       obtain⟨u,r,l⟩:=hl j x v c1 hj d7
       refine⟨u,r,.inr ⟨c3,?_⟩⟩
       obtain⟨c,d2⟩:=S.has x c3
       refine⟨c,d2,?_⟩
       rcases l with⟨z,_⟩|⟨_,c',e',z⟩
       · rcases c2 with y|y <;>rw[y] at z <;>cases z
       · rw[S.sub x c d2] at e'
         cases e'
         obtain⟨o,ho,hd⟩:=z
         exact⟨o,a0 _ _ ho,hd⟩
  ·obtain⟨v,o,ho,hd⟩:=F.cell x c (S.sub x c h)
   exact⟨v,o,a0 _ _ ho,hd⟩
  ·obtain⟨v,o,ho,hd⟩:=F.cell x c (S.sub x c h)
   rw[bf (Qwq (Qiq ho))]
   exact F.freeC x c (S.sub x c h)
 have a4:∀{U:List (Addr×Obj)} {H':Hp},U= []->(∀b∈fp,H' b=none)->∀b∈fp,qg (aL X N a cl P2.objs.size t H2 fp) U H' b:=λ{U H'} ep hn b f=>by
  subst ep
  refine⟨hn b f,G b (b5 b f),λz=>d4.exfs b f z,.inl f,λx c h=>(f2 b f).2.2.2.2.1 x c (S.sub x c h),λp hp=>absurd (show p∈([]:List (Addr×Obj)) from hp) (by simp)⟩
 have b3:codeAny (model X.prog X.w) X.A (.compLoop (.DictComp kx vx [⟨tg,Q,b0,0⟩] a pos) 0 (.ref it) (.ref t.heap.objs.size) (compEnvC a cl P2.objs.size X.env))
   (compPost (model X.prog X.w) X.A X.xe (some λv=>assignAll v [assign K X.env]) (λ_ s9=>wpAny (model X.prog X.w) X.A (pure ()) (λ_ d6=>wpAny (model X.prog X.w) X.A (pure Flow.next) (SP X Z Dn) X.xe d6) X.xe s9) (.ref t.heap.objs.size) P2.objs.size) {t with heap:=R,toks:=t.toks+([]:List (Str×Value)).length}:=by
  refine ve (λn s'=>∃i a3 H',Inv (aL X N a cl P2.objs.size t H2 fp) [] a3 H' s'/\tn i s'.heap/\(∀b∈fp,H' b=none)/\W i n a3 H') ?_ m0
   ⟨0,_,_,I4,T.keep _ _ _ b4 λb _ o e=>a0 b o e,λb f=>by rw[bf (Qwq (b5 b f))];exact(f2 b f).1,w0⟩
  rintro n s3 ⟨i,b1,H3,I3,c5,d3,w3⟩
  rcases c0 i n b1 H3 w3 with⟨stop,q⟩|⟨go,Nx,hN,d1⟩
  ·refine c9 (T.done (aL X N a cl P2.objs.size t H2 fp) rfl rfl rfl hc i [] s3 b1 H3 _ I3 (a4 rfl d3) c5 stop) λr s4 Y=> ?_
   obtain⟨hr,I5⟩:=Y
   subst hr
   obtain⟨m,hn,_⟩:=id I5.loc
   have e0:∀h',Heap.SameBut P2.objs.size s4.heap h'->Inv X Z σ H3 {s4 with heap:=h'}:=by
    intro h' P
    have u:=I5.base
    have ne:∀b o,t.heap.get? b=some o->b≠P2.objs.size:=λb o e=>G b (Qiq e)
    refine F.call' (ch:=fp) I5.os ⟨λb o e n f hx=>(P.2 b (ne b o e)).trans (u.keep b o e n f hx),λb o e n f hx=> ?_,u.free,λb o e hx=> ?_,u.tups,u.frzs,u.tbls⟩ (λb ob e=> ?_) I5.bare λb f=>⟨(f2 b f).2.2.2.1,(f2 b f).2.1,(f2 b f).2.2.2.2.1,(f2 b f).2.2.2.2.2⟩
    ·obtain⟨sl,e1⟩:=u.slot b o e n f hx
     exact⟨sl,(P.2 b (ne b o e)).trans e1⟩
    ·obtain⟨o',e1⟩:=u.there b o e hx
     exact⟨o',(P.2 b (ne b o e)).trans e1⟩
    ·refine(I5.hok b ob e).stay (λc w' hc q=>(P.2 c ?_).trans q) (λ_ q=>q) λ_ _ q=>q
     have fC:H3 P2.objs.size=none:=I5.free
     rintro rfl
     rcases hc with z|z
     ·rw[←z,fC] at e;cases e
     ·rw[fC] at z;cases z
   have IX:=e0 s4.heap ⟨rfl,λ_ _=>rfl⟩
   have a6:qg X Z H3 P2.objs.size:=F.fpOk a1 I5.free
   obtain⟨oC,es,ep,c6,b9,d9⟩:=hn
   have IP:=IX.pinned (fp:= [P2.objs.size]) (λb f=>by rw[Qfq] at f;rw[f];exact a6) (λb f=>by rw[Qfq] at f;rw[f];exact⟨oC,c6,λv=>by rw[b9];simp⟩)
   show wpAny _ _ (assignAll (.ref t.heap.objs.size) [assign K X.env]) _ _ _
   rw[assignAll.eq_2]
   refine c9 (e5 _ s4 σ H3 (.ref t.heap.objs.size) (.ref t.heap.objs.size) _ IP rfl q) λ_ s6 Y=> ?_
   obtain⟨M,H6,I6,q6⟩:=Y
   have pC:=I6.pin (P2.objs.size,oC) (Qoq _ (Qoq _ (dm (Qfq.mpr rfl) c6)))
   refine⟨m,⟨oC,es,ep,pC.1,b9,d9⟩,λh' P=>Qgq (Qgq ⟨M,H6,?_,q6⟩)⟩
   exact I6.unpinned.turned (it:=P2.objs.size) (t':=s6.toks) (λb o' f e=>(P.2 b f).trans e) pC.2.1 pC.2.2.1 a6.2.2.2.1 a6.2.2.2.2.1 a6.2.2.2.2.2
  ·refine c9 (T.item (aL X N a cl P2.objs.size t H2 fp) rfl rfl rfl hc i [] s3 b1 H3 _ I3 (a4 rfl d3) c5 go) λr s4 Y=> ?_
   obtain⟨u,hr,h4⟩:=Y
   subst hr
   refine c9 h4 λ_ s5 Y=> ?_
   obtain⟨x,H5,I5,r5,y5,b7,d5⟩:=Y
   have d8:=I5.pinned (a4 rfl d5) (T.obj _ _ b7)
   refine c9 (hg P2.objs.size t H2 fp _ s5 b1 H5 x u _ d8 r5 (d1 x H5 y5)) λ_ s6 Y=> ?_
   obtain⟨M,H6,I6,q6⟩:=Y
   refine c9 (ht P2.objs.size t H2 fp _ s6 M H6 _ I6 q6) λok s7 Y=> ?_
   obtain⟨H7,I7,q7⟩:=Y
   have again:∀{s8:Shared} {H8:Hp},Inv (aL X N a cl P2.objs.size t H2 fp) ([]++mK fp s5.heap) M H8 s8->Nx M H8->∃m,m<n/\∃i a3 H',Inv (aL X N a cl P2.objs.size t H2 fp) [] a3 H' s8/\tn i s8.heap/\(∀b∈fp,H' b=none)/\W i m a3 H':=λ{s8 H8} I8 n8=>by
    obtain⟨m',hm,w8⟩:=hN M H8 n8
    refine⟨m',hm,i+1,M,H8,I8.unpinned,T.keep _ _ _ b7 λb f o e=>(I8.pin (b,o) (Qoq _ (Qoq _ (dm f e)))).1,λb f=> ?_,w8⟩
    obtain⟨o,e,d⟩:=T.obj _ _ b7 b f
    exact(I8.pin (b,o) (Qoq _ (Qoq _ (dm f e)))).2.1
   cases ok with
   |false=>exact again I7 q7
   | true=>
     refine c9 (hk P2.objs.size t H2 fp _ s7 M H7 _ I7 q7) λkv s8 Y=> ?_
     obtain⟨k,H8,I8,rk,q8⟩:=Y
     refine c9 (hv P2.objs.size t H2 fp _ s8 M H8 _ I8 q8) λyv s9 Y=> ?_
     obtain⟨y,H9,I9,ry,e4,ky,ek,hx,hl,n9⟩:=Y
     subst ek
     obtain⟨z,hd,vs,d0,dd⟩:=Ac I9.hok hx
     refine wpAny_dictSet_pairs (zM rk) dd (λh' b8 P=> ?_) (by rw[←d0.length];exact z)
     have he:∃q,h'.get? t.heap.objs.size=some q:=let ⟨q,_,_,hq,_⟩:=b8;⟨q,hq⟩
     have e7:=iQ e4 ky y
     exact again (r_ I9 (by rw[hx];exact True.intro) P he (uu (by omega) hd (d0.put ky ry) b8)) n9
 exact codeAny_compStart_dict b3 (T.self _ 0 _ _ _ (T.keep _ _ _ b4 λb _ o e=>a0 b o e) b3)
end L2
namespace DL
open PySem PySem.Spec PyProof.Rows L2
section
variable{M:Md}{ρ:List Addr}{H:Hp}{b:Addr}{us:List (Key×V)}{o:HO}
theorem fM.offK{S:aC}(st:fM M ρ S H)(g:H b=some (.dK us))(n:b∉ρ):fM M ρ S (upd H b o):=⟨st.len,st.nd,λk a p h l=>by
 have q:=st.obj k a p h l
 have f:a≠b:=λz=>n (z▸mQg h)
 cases p with
 |lst j=>obtain⟨e,c,d⟩:=q;exact⟨e,by rw[bf f];exact c,d.offK g⟩
 |frz j=>obtain⟨e,o,c,d⟩:=q;exact⟨e,o,by rw[bf f];exact c,d.offK g⟩
 |dct m=>obtain⟨i,c,d⟩:=q;exact⟨i,by rw[bf f];exact c,d.imp λ_ _ r=>r.offK g⟩⟩
def En.offK{c:cv}{a:L2.St}(h:En M ρ H c a)(f:H b=some (.dK us)):En M ρ (upd H b o) c a:=⟨h.len,λi d q=>by obtain⟨v,g,e⟩:=h.get i d q;exact⟨v,g,e.offK f⟩⟩
end
open Classical in
def iZ(g:me)(t:jA)(c b:bx)(W:aC->Prop):List D->cv->aC->List (Key×D)->Option (List (Key×D)×aC)
 | [],Γ,S,acc=>if W S then some (acc,S) else none
 |d ::ds,Γ,S,acc=>if W S then(g d Γ S).bind λ(a,i)=>(t a i).bind λ(k,e)=>
    if k=true then(c a e).bind λ(x,j)=>(b a j).bind λ(y,h)=>(uQ x).bind λf=>if acc.length<sizeLine then iZ g t c b W ds a h (putD acc f y) else none
    else iZ g t c b W ds a e acc
  else none
def pI(js:List (Option Nat))(i:uR)(g:me)(t:jA)(d c:bx):cv->aC->Option (List (Key×D)×aC):=λa S=>(i a S).bind λ(p,b)=>iZ g t d c p.2 p.1 (pe js a) b []
def GG{M:Md}{js:List (Option Nat)}{i:uR}{g:me}{t:jA}{fk fv:bx}{σ:L2.St}{H:Hp}{Q:VK}{ρ:List Addr}{Γ:cv}{S S':aC}{l:List (Key×D)}(ok:Ok M ρ Γ S σ H)(e:pI js i g t fk fv Γ S=some (l,S'))
  (q:∀b a kv f,bX ρ H b f->fM M b S' f->H a=none->a∉b->f a=some (.dK kv)->b_ M b f l kv->Q (.ref a) f):EG js (tI M i) (tG M g) (tB M t) (tD M fk) (tD M fv) σ H Q:=by
 obtain⟨⟨⟨n,W⟩,S1⟩,e1,e⟩:=ar e
 refine⟨ρ,Γ,S,n,W,S1,ok,e1,λp J H1 x1 Z wk D U=> ?_⟩
 have n1:D∉p:=dg x1 Z U
 have a1:Ok M p (pe js Γ) S1 (j8 js σ) (upd H1 D (.dK [])):=⟨((ok.en.ext x1).ext (bX.laid U)).sig js,Z.lay U⟩
 refine⟨λi m u f=>m=n.length-i/\i<=n.length/\∃d F R c j,bX p H1 d f/\Ok M d F R u f/\D∉d/\f D=some (.dK j)/\b_ M d f c j/\iZ g t fk fv W (n.drop i) F R c=some (l,S'),
  ⟨n.length,by simp,Nat.zero_le _,p,_,S1,[],[],bX.laid U,a1,n1,bI,rfl,e⟩,?_⟩
 rintro i m b6 H2 ⟨rfl,hi,d,F,R,c,j,x2,ok2,n2,hD2,racc,e2⟩
 by_cases K:i<n.length
 ·have hd:n[i]?=some n[i]:=gQe K
  rw[QWq K] at e2
  unfold iZ at e2
  split at e2
  ·rename_i w
   obtain⟨w1,w2⟩:=wk i d R H2 x2 ok2.st w
   obtain⟨go,a0⟩:=w1 _ hd
   refine .inr ⟨go,λu f=>∃b s B c j,bX p H1 b f/\Ok M b s B u f/\D∉b/\f D=some (.dK j)/\b_ M b f c j/\iZ g t fk fv W (n.drop (i+1)) s B c=some (l,S'),
    λu f ⟨b,s,B,c,j,h1,h2,h3,h4,h5,h6⟩=>⟨n.length-(i+1),by omega,rfl,K,b,s,B,c,j,h1,h2,h3,h4,h5,h6⟩,λx H3 hy=> ?_⟩
   obtain⟨x3,a5,r3⟩:=a0 x H3 hy
   obtain⟨⟨h,S4⟩,e4,e5⟩:=ar e2
   refine⟨d,F,R,_,h,S4,ok2.to x3 a5,r3,e4,λb2 b5 H4 x4 o=> ?_⟩
   obtain⟨⟨k,S5⟩,e6,e7⟩:=ar e5
   refine⟨b2,h,S4,k,S5,o,e6,λY H5 X P=> ?_⟩
   have C:=(x3.trans x4).trans X
   have G:∀{b f},bX d H2 b f->f D=some (.dK j)/\D∉b:=λ{b f} x=>⟨x.keep _ _ hD2 (.inl n2),λm=>(x.new _ m).elim n2 λz=>by rw[z] at hD2;cases hD2⟩
   dsimp only at e7⊢
   split at e7
   ·rename_i ck
    rw[Qhq ck]
    obtain⟨⟨kx,S6⟩,e8,e9⟩:=ar e7
    obtain⟨⟨y,S7⟩,a6,a4⟩:=ar e9
    obtain⟨kk,b4,I⟩:=ar a4
    refine⟨Y,h,S5,kx,S6,o.to X P,e8,λb3 kv H6 x6 a2 r6=>⟨b3,h,S6,y,S7,(o.to X P).to x6 a2,a6,λa3 v H7 x7 b1 r7=> ?_⟩⟩
    have L:=(C.trans x6).trans x7
    obtain⟨A,n7⟩:=G L
    have N:=racc.ext' L
    split at I
    ·rename_i cl
     refine⟨j,kk,rR r6 b4,A,by rw[←racc.length];exact cl,a3,h,S7,putD c kk y,_,(x2.trans L).off U _,⟨(((o.en.ext X).ext x6).ext x7).offK A,b1.offK A n7⟩,n7,bI,(N.put r7).imp λ_ _ r=>r.offK A,I⟩
    ·cases I
   ·rename_i ck
    rw[Quq ck]
    obtain⟨b0,n5⟩:=G C
    exact⟨Y,h,S5,c,j,x2.trans C,o.to X P,n5,b0,racc.ext' C,e7⟩
  ·cases e2
 ·have e3:i=n.length:=by omega
  subst e3
  rw[List.drop_length] at e2
  unfold iZ at e2
  split at e2
  ·rename_i w
   obtain⟨rfl,rfl⟩:=cc e2
   obtain⟨w1,w2⟩:=wk n.length d R H2 x2 ok2.st w
   exact .inl ⟨w2 rfl,q d D j H2 (x1.trans x2) ok2.st (x1.grow _ U) n2 hD2 racc⟩
  ·cases e2
def LL(n:Nat)(f:cv->aC->Option (List (Key×D)×aC)):cO:=λb S=>(f b S).bind λ(l,a)=>some (.nx (b.set n (some (.ref a.length))) (a++ [.dct l]))
section
variable{X:Cx}{pos:Pos}
def G2{N:List Str}{js:List (Option Nat)}{c:Scope}{p:List (Str×Addr)}{r d y w f:Expr}{k:List Expr}{i:uR}{g:me}{t:jA}{B G:bx}{n:Nat}{h:Pos}
  (S:aM X N js c p) (hc:X.calm=true) (hi:PI X r d (tI (md X) i))
  (J:∀C s H fp,PG (aL X N c p C s H fp) r (tG (md X) g)) (ht:∀C s H fp,m6 (aL X N c p C s H fp) k (tB (md X) t)) (hk:∀C s H fp,PE (aL X N c p C s H fp) y (tD (md X) B)) (Z:∀C s H fp,PE (aL X N c p C s H fp) w (tD (md X) G)) (v:PG X f (oY n))
  (L:∀x,foldedSetIterable d X.env x=pure x:=by intro _;rfl) (u:swapsWithSole [f] (.DictComp y w [⟨r,d,k,0⟩] c pos) h.line X.env=pure true:=by rfl)
  (P:(assignEach [f] X.env).map (·.2)= [assign f X.env]:=by rfl):PS X (.Assign [f] (.DictComp y w [⟨r,d,k,0⟩] c pos) h) (tS (md X) (LL n (pI js i g t B G))):=
 Dm (EJ S hc hi J ht hk Z v L u P) λD σ H M=>by
  obtain⟨K,Γ,S,o,ok,e,q⟩:=M
  obtain⟨⟨l,S1⟩,Y,e⟩:=ar e
  cases e
  refine GG ok Y λj a R A x I Q W U rs=> ?_
  have z:=I.box (o:=.dct l) W ⟨R,U,rs.pre' (List.prefix_append j [a])⟩
  have F:bX K H (j++ [a]) A:=⟨x.pre.trans (List.prefix_append _ _),λb m=>by
   rcases mQa.mp m with m|m
   ·exact x.new b m
   ·rw[Qfq] at m;subst m;exact .inr Q,x.keep,x.grow⟩
  refine q (j++ [a]) _ A F ⟨((ok.en.ext F).set (.ref ?_)),z⟩
  rw[←I.len,QQq (Qmq _)]
  simp
end
end DL
namespace Zp
open PySem PySem.W PyProof.Rows
def jc(a:Nat->Nat->Bool):KasT (Array Nat)->Array Nat
 |.ret p=>p
 |.ask i j k=>jc a (k (a i j))
theorem ip(a:Nat->Nat->Bool):∀t:KasT (Array Nat),jc a t∈pD t
 |.ret p=>by simp[jc,pD]
 | .ask i j k=>by
   unfold jc pD
   cases a i j with
   |true=>exact List.mem_append_left _ (ip a (k true))
   |false=>exact Qoq _ (ip a (k false))
theorem xH{a:Nat->Nat->(Bool->Shared->Prop)->Shared->Prop}{Q:Array Nat->Shared->Prop}{s:Shared}{n:Nat}{b:Nat->Nat->Bool}(c:∀i j C,i<n->j<n->i≠j->C (b i j) s->a i j C s):
  ∀t:KasT (Array Nat),uC n t=true->Q (jc b t) s->t.kasWp a Q s
 |.ret p,_,h=>h
 | .ask i j k,ha,h=>by
   simp only[uC,QCq,decide_eq_true_eq] at ha
   obtain⟨⟨⟨⟨m,d⟩,l⟩,g⟩,f⟩:=ha
   refine c i j _ m d l ?_
   cases e:b i j with
   |true=>exact xH c (k true) g (by unfold jc at h;rw[e] at h;exact h)
   |false=>exact xH c (k false) f (by unfold jc at h;rw[e] at h;exact h)
def KJ(fs:List Str)(i j:Nat):Bool:=decide ((fs.getD i "").cps.toList<(fs.getD j "").cps.toList)
def sortBy{α:Type}(fs:List Str)(d:α)(xs:List α):List α:=if xs.length<2 then xs else(jc (KJ fs) (kas_sort xs.length)).toList.map λi=>xs.getD i d
def ed{α:Type}{d:α}(fs:List Str)(xs:List α)(h:xs.length<=3):(sortBy fs d xs).Perm xs:=by
 unfold sortBy
 split
 ·exact List.Perm.refl _
 ·rename_i b
  obtain⟨_,a⟩:=se xs.length h (by omega)
  have c:(jc (KJ fs) (kas_sort xs.length)).toList.Perm (List.range xs.length):=List.isPerm_iff.mp (QUq.mp a _ (ip _ _))
  have e:(List.range xs.length).map (λi=>xs.getD i d)=xs:=by
   apply List.ext_getElem
   ·simp
   ·intro i f b
    simp[Qlq,b]
  have:=c.map λi=>xs.getD i d
  rw[e] at this
  exact this
section
variable{prog:Program}{w:World}{A:Around}{E:Value->Shared->Prop}{s:Shared}
def BJ{a:Addr}{vs:List Value}{fs:List Str}{n:Nat}{P:PySem.Fin->Shared->Prop}(J:s.heap.get? a=some (seqObj "list" vs.toArray n))(h3:vs.length<=3)(ht:et s.heap vs fs)(hd:fs.Nodup)
  (q:∀I:Array Value,I.toList=sortBy fs Value.none vs->P (.done (.ret .none)) {s with heap:=sortedHeap s.heap a vs I}):wpAny (model prog w) A (Builtin.«list.sort» ⟨[.ref a],[]⟩) P E s:=by
 rw[list_sort_plain]
 have ha:a<s.heap.objs.size:=Qiq J
 refine Qaq (listItems_at J rfl (Qaq (listUpdate_at J rfl ?_ (by rw[Qjq,sizeLine_eq];omega) (Nat.zero_le _))))
 obtain⟨Y,H⟩:∃Y,(s.heap.update a (Obj.mapSeq λ_=> #[])).get? a=some (seqObj "list" #[] Y):=⟨_,get?_update_seq J (λ_=> #[])⟩
 refine Qaq (seqEpoch_at H rfl (Qaq (wpAny_newTuple ?_ (by show vs.length<=_;rw[sizeLine_eq];omega))))
 refine Qaq (wpAny_newList (QLq ?_) (Nat.zero_le _))
 have g:(((s.heap.update a (Obj.mapSeq λ_=> #[])).push (seqObj "tuple" vs.toArray 0)).push (seqObj "list" #[] 0)).get? a=some (seqObj "list" #[] Y):=Qcq _ (Qcq _ H)
 have u:et (((s.heap.update a (Obj.mapSeq λ_=> #[])).push (seqObj "tuple" vs.toArray 0)).push (seqObj "list" #[] 0)) vs fs:=ht.keep λb o e c=>by
  have nb:b≠a:=λz=>by rw[z,J] at e;cases e;simp[seqObj] at c
  exact Qcq _ (Qcq _ (by rw[Heap.get?_update_ne _ _ _ _ nb];exact e))
 refine(?_:wpAny (model prog w) A _ P E {s with heap:=((s.heap.update a (Obj.mapSeq λ_=> #[])).push (seqObj "tuple" vs.toArray 0)).push (seqObj "list" #[] 0)})
 dsimp only
 by_cases F:vs.toArray.size<2
 ·rw[Qhq F,Qhq F]
  refine Qaq (Qgq ?_)
  rw[StateT.run_pure]
  refine Qaq (Qgq ?_)
  dsimp only
  have e2:((vs.toArray.zip vs.toArray).map (·.2))=vs.toArray:=by
   apply Array.toList_inj.mp
   simp
   exact List.map_snd_zip (Qmq _)
  refine Qaq (seqEpoch_at g rfl (Qaq (listUpdate_at g rfl ?_ (hsz2:=by
   refine QAq (Nat.le_of_eq (congrArg Array.size e2)) ?_
   rw[Qjq,sizeLine_eq]
   omega))))
  simp only[bne_self_eq_false,Bool.false_eq_true,if_false]
  refine Qgq ?_
  have:=q vs.toArray (by unfold sortBy;rw[Qhq (by simpa using F)])
  rw[←e2] at this
  exact this
 ·rw[Quq F,Quq F]
  have hn:2<=vs.length:=by simpa using F
  obtain⟨gs,kt,lg,mg⟩:=u.firsts
  have lf:=ht.len
  refine Qaq (kat_kind (T:=.type "str") kt (by omega) (λv hv=> ?_) rfl ?_)
  ·obtain⟨x,t,rfl⟩:=mg v hv
   exact .now
  obtain⟨ok,perm⟩:=se vs.length h3 hn
  have X:SortSt.mk' (tuples' true) (vs.toArray.zip vs.toArray) #[] 7 none=kas_st (tuples' true) (pairsOf vs) (List.toArray (List.range vs.length)):=by
   have e:=kas_range (pairsOf vs)
   rw[pairsOf_size] at e
   refine(?_:SortSt.mk' (tuples' true) (pairsOf vs) #[] 7 none=SortSt.mk' (tuples' true) ((List.toArray (List.range vs.length)).map (kas_item (pairsOf vs))) #[] 7 none)
   rw[e]
  refine(?_:wpAny (model prog w) A (StateT.run sortRuns' (SortSt.mk' (tuples' true) (vs.toArray.zip vs.toArray) #[] 7 none) >>= _) P E _)
  rw[X]
  have L:=kas_runs (prog:=prog) (w:=w) (A:=A) (E:=E) (κ:=tuples' true) (it:=pairsOf vs) (n:=vs.length)
   (s:={s with heap:=((s.heap.update a (Obj.mapSeq λ_=> #[])).push (seqObj "tuple" vs.toArray 0)).push (seqObj "list" #[] 0)})
   (G:=λp K=>p=jc (KJ fs) (kas_sort vs.length)/\K={s with heap:=((s.heap.update a (Obj.mapSeq λ_=> #[])).push (seqObj "tuple" vs.toArray 0)).push (seqObj "list" #[] 0)})
   (Q:=λ_ f K=>K={s with heap:=((s.heap.update a (Obj.mapSeq λ_=> #[])).push (seqObj "tuple" vs.toArray 0)).push (seqObj "list" #[] 0)}/\failedOf f=none/\∃p,p=jc (KJ fs) (kas_sort vs.length)/\arrOf f=p.map (kas_item (pairsOf vs)))
   hn (by omega) (λp' f K a1 a2 a3 a4=>⟨a4.2,a3,p',a4.1,a2⟩) (xH (n:=vs.length) (λi j C hi hj N hC=> ?_) _ ok ⟨rfl,rfl⟩)
  ·refine Qaq (QRq L ?_ λ_ _ e=>e)
   rintro⟨⟨⟩,f⟩ K ⟨rfl,hf,p,hp,har⟩
   dsimp only
   have l:((arrOf f).map (·.2)).toList=sortBy fs Value.none vs:=by
    unfold sortBy
    rw[Quq (by omega),har,Array.map_map,Array.toList_map,hp]
    refine List.map_congr_left λk _=> ?_
    show(kas_item (pairsOf vs) k).2=_
    rw[kas_item_eq]
   have h:=ed (d:=Value.none) fs vs h3
   have R:((arrOf f).map (·.2)).size=vs.length:=by
    have:=congrArg List.length l
    rw[h.length_eq] at this
    simpa using this
   refine Qaq (seqEpoch_at g rfl (Qaq (listUpdate_at g rfl ?_ (hsz2:=by
    refine QAq (Nat.le_of_eq R) ?_
    rw[sizeLine_eq]
    omega))))
   rw[hf]
   simp only[bne_self_eq_false,Bool.false_eq_true,if_false]
   exact Qgq (q _ l)
  ·unfold kas_cmp
   rw[kas_item_eq,kas_item_eq]
   obtain⟨x,ox,xs,nx,tx,ex,gx,dx,fx⟩:=u.get (i:=i) (by omega)
   obtain⟨y,oy,ys,ny,ty,ey,gy,dy,Z⟩:=u.get (i:=j) (by omega)
   dsimp only
   rw[ex,ey]
   have S:¬fs.getD i ""=fs.getD j "":=λz=>by
    have B:i<fs.length:=by omega
    have m:j<fs.length:=by omega
    rw[Qlq,Qlq,gQe B,gQe m] at z
    have z':fs[i]=fs[j]:=z
    rcases Nat.lt_or_gt_of_ne N with U|U
    ·exact List.pairwise_iff_getElem.mp hd i j B m U z'
    ·exact List.pairwise_iff_getElem.mp hd j i m B U z'.symm
   refine kat_lt gx dx gy dy ?_
   obtain⟨xr,W⟩:∃r,xs.toList=.str (fs.getD i "") tx::r:=by
    cases e:xs.toList with
    |nil=>have:=congrArg (·[0]?) e;simp[fx] at this
    |cons v r=>have:=congrArg (·[0]?) e;simp[fx] at this;exact⟨r,by rw[Qlq,this]⟩
   obtain⟨yr,M⟩:∃r,ys.toList=.str (fs.getD j "") ty::r:=by
    cases e:ys.toList with
    |nil=>have:=congrArg (·[0]?) e;simp[Z] at this
    |cons v r=>have:=congrArg (·[0]?) e;simp[Z] at this;exact⟨r,by rw[Qlq,this]⟩
   rw[W,M,List.zip_cons_cons]
   refine kat_cons (wpAny_eqBool_str ?_)
   rw[Qdq S]
   exact kat_no (oneLt_str hC)
def xm{l:Addr}{vs:List Value}{fs:List Str}{Q:Value->Shared->Prop}(hl:s.heap.IsList l vs.toArray)(i:vs.length<=3)(ht:et s.heap vs fs)(hd:fs.Nodup)
  (q:∀a:Array Value,a.toList=sortBy fs Value.none vs->Q (.ref (s.heap.objs.size+1)) {s with heap:=sortedAll s.heap vs a}):wpAny (model prog w) A (call (.builtin "sorted") [.ref l]) Q E s:=by
 refine Calls.call_function_entry kind_sorted plain_sorted entry_sorted (args_sorted1 _) ?_
 unfold Builtin.«sorted»
 refine Qaq (m:=checkCount "sorted" 1 1 _) (Qgq (Qaq (collect_list hl (Qaq (wpAny_newList ?_ (by rw[sizeLine_eq];omega))) (by rw[sizeLine_eq];omega))))
 have f:((s.heap.push (seqObj "list" #[] 0)).update s.heap.objs.size (Obj.mapSeq (·++vs.toArray))).objs.size=s.heap.objs.size+1:=by rw[Heap.size_update,size_push']
 have d:(((s.heap.push (seqObj "list" #[] 0)).update s.heap.objs.size (Obj.mapSeq (·++vs.toArray))).push (seqObj "list" vs.toArray 0)).get? (s.heap.objs.size+1)=some (seqObj "list" vs.toArray 0):=by
  rw[←f]
  exact Qrq _ rfl
 have c:et (((s.heap.push (seqObj "list" #[] 0)).update s.heap.objs.size (Obj.mapSeq (·++vs.toArray))).push (seqObj "list" vs.toArray 0)) vs fs:=ht.keep λb o e _=>by
  have h:b<s.heap.objs.size:=Qiq e
  refine Qcq _ ?_
  rw[Heap.get?_update_ne _ _ _ _ (Qwq h)]
  exact Qcq _ e
 refine(?_:wpAny _ _ _ _ _ {s with heap:=((s.heap.push (seqObj "list" #[] 0)).update s.heap.objs.size (Obj.mapSeq (·++vs.toArray))).push (seqObj "list" vs.toArray 0)})
 rw[f]
 refine Qaq (QLq (wpAny_call_entry slot_list_sort ⟨_,d,rfl⟩ entry_list_sort (BJ d i c hd λa g=>⟨_,rfl,?_⟩) (args_list_sort _)))
 exact Qgq ⟨_,rfl,q a g⟩
end
end Zp
namespace L2
open PySem PySem.Spec PyProof.Rows
section
variable{X:Cx}
def Hk(K:PySem.W.Frag):List V->Hp->VK->Prop:=λd H Q=>∃(a:Addr) (b:List Addr) (c:List Str),d= [.ref a]/\g6 K H a (b.map V.ref)/\b.length<=3/\vW H b c/\c.Nodup/\∀(l:Addr),H l=none->Q (.ref l) (upd H l (.lst ((Zp.sortBy c 0 b).map V.ref)))
def u_:gk X (.builtin "sorted") (Hk X.K):=by
 intro l s B H A F Q I r h
 obtain⟨a,c,g,rfl,ha,h3,hF,hd,q⟩:=h
 obtain⟨u,rfl,rx⟩:=vals1 r
 cases (show u=Value.ref a from rx)
 obtain⟨t,n,w,z⟩:=I.list ha
 cases v7 n
 have k:s.heap.objs.size<=s.heap.objs.size+1:=Nat.le_succ _
 refine Zp.xm w.isList (by simpa using h3) (y_ I hF) hd λd m=> ?_
 have p:d.toList=(Zp.sortBy g 0 c).map Value.ref:=by
  rw[m]
  unfold Zp.sortBy
  rw[lQm]
  split
  ·rfl
  ·rename_i C
   rw[QPq]
   obtain⟨_,j⟩:=Zp.se c.length h3 (by omega)
   have f:(Zp.jc (Zp.KJ g) (PySem.W.kas_sort c.length)).toList.Perm (List.range c.length):=List.isPerm_iff.mp (QUq.mp j _ (Zp.ip _ _))
   refine List.map_congr_left λi y=> ?_
   have hl:i<c.length:=List.mem_range.mp (f.mem_iff.mp y)
   show(c.map Value.ref).getD i Value.none=Value.ref (c.getD i 0)
   rw[Qlq,Qlq,gQm,gQe hl]
   rfl
 obtain⟨e,v⟩:=sortedAll_at s.heap (c.map Value.ref) d
 refine⟨.ref (s.heap.objs.size+1),_,I.laid (a:=s.heap.objs.size+1) (o:=.lst ((Zp.sortBy g 0 c).map V.ref)) (h':=sortedAll s.heap (c.map Value.ref) d) (t':=s.toks) (λb o x=>sortedAll_old x) k ⟨?_,d.toList,e,?_,?_⟩,rfl,q _ (I.hok.fresh k)⟩
 ·rw[lQm,(Zp.ed g c h3).length_eq]
  exact QAq h3 (by decide)
 ·have:=t7 (Zp.sortBy g 0 c)
  rw[←p] at this
  exact this
 ·simpa using v
end
end L2
namespace DL
open PySem PySem.Spec PyProof.Rows L2
def vY(a b:Str):Prop:=¬(b.cps.toList<a.cps.toList)
instance(a b:Str):Decidable (vY a b):=by unfold vY;infer_instance
def Dw(a b:Str):vY a b\/vY b a:=by
 by_cases h:b.cps.toList<a.cps.toList
 ·exact .inr λc=>List.lt_asymm h c
 ·exact .inl h
def vq{a b c:Str}(e:vY a b)(d:vY b c):vY a c:=by
 unfold vY at *
 rw[List.not_lt] at *
 exact List.le_trans e d
def EC{a b:Str}(c:vY a b)(d:vY b a):a=b:=by
 unfold vY at *
 rw[List.not_lt] at *
 have:=List.le_antisymm c d
 cases a
 cases b
 simp only[Str.mk.injEq]
 exact Array.toList_inj.mp this
def AL(x:Str):List Str->List Str
 | []=> [x]
 |y::r=>if vY x y then x::y::r else y::AL x r
def qi:List Str->List Str
 | []=> []
 |x::r=>AL x (qi r)
theorem pU(x:Str):∀l:List Str,(AL x l).Perm (x::l)
 | []=>List.Perm.refl _
 | y::r=>by
   unfold AL
   split
   · exact List.Perm.refl _
   · exact((pU x r).cons y).trans (List.Perm.swap _ _ _)
theorem kO:∀l:List Str,(qi l).Perm l
 | []=>List.Perm.refl _
 |x::r=>(pU x _).trans ((kO r).cons x)
theorem qI{x:Str}:∀{l:List Str},l.Pairwise vY->(AL x l).Pairwise vY
 | [],_=>by simp[AL]
 | y::r,h=>by
   rw[List.pairwise_cons] at h
   unfold AL
   split
   · rename_i c
     refine List.pairwise_cons.mpr ⟨λz a=> ?_,List.pairwise_cons.mpr h⟩
     rcases Qsq.mp a with rfl|a
     · exact c
     · exact vq c (h.1 z a)
   · rename_i c
     refine List.pairwise_cons.mpr ⟨λz a=> ?_,qI h.2⟩
     rcases Qsq.mp ((pU x r).mem_iff.mp a) with rfl|a
     · exact(Dw _ _).resolve_left c
     · exact h.1 z a
theorem my:∀l:List Str,(qi l).Pairwise vY
 | []=>List.Pairwise.nil
 |x::r=>qI (my r)
def xB:∀{l:List Str},sortedS l=true->l.Pairwise vY
 | [],_=>List.Pairwise.nil
 | x::r,h=>by
   have e:∀(r:List Str) (x:Str),risingS x r=true->(x::r).Pairwise vY:=by
     intro r
     induction r with
     |nil=>intro x _;simp
     | cons y r d=>
       intro x h
       unfold risingS at h
       simp only[QCq] at h
       have c:=d y h.2
       have b:vY x y:=by
         have:=h.1
         unfold vY
         rw[ltCps_eq] at this
         simpa using this
       refine List.pairwise_cons.mpr ⟨λz a=> ?_,c⟩
       rcases Qsq.mp a with rfl|a
       · exact b
       · exact vq b ((List.pairwise_cons.mp c).1 z a)
   exact e r x h
def Du{c ss:List Str}(h:sortedS c=true)(p:c.Perm ss):c=qi ss:=
 List.Perm.eq_of_pairwise (le:=vY) (λa b _ _ e d=>EC e d) (xB h) (my ss) (p.trans (kO ss).symm)
end DL
namespace L2
open PySem PySem.Spec PyProof.Rows
end L2
namespace DL
open PySem PySem.Spec L2
section
variable{X:Cx}{a b e:Expr}{pos:Pos}
def vk:List D->Option (List Str)
 | []=>some []
 |.str x::r=>(vk r).bind λc=>some (x::c)
 |_::_=>none
theorem zq{M:Md}{ρ:List Addr}{H:Hp}:∀{ds:List D} {vs:List V} {xs:List Str},a7 M ρ H ds vs->vk ds=some xs->vs=xs.map V.str
 | [],_,_,h,e=>by cases h;cases e;rfl
 | d::ds,_,_,h,e=>by
   cases d with
   | str b=>
     simp only[vk] at e
     obtain⟨c,g,e⟩:=ar e
     cases e
     cases h with
     | cons h f=>
       cases h
       rw[zq f g]
       rfl
   |_=>cases e
theorem vA{M:Md}{ρ:List Addr}{H:Hp}:∀ss:List Str,a7 M ρ H (ss.map D.str) (ss.map V.str)
 | []=>.nil
 |s::ss=>.cons (.str s) (vA ss)
def Ce(f:dz):fN:=λg S=>(f g S).bind λ(p,d)=>if p.2.isL=true then(vk p.1).bind λc=>if c.length<64 then some ((qi c).map D.str,d) else none else none
def FB{f:dz}{p:Pos}(j:Gl X "sorted")(v:X.mg "sorted"=none)(w:PE X a (tQ (md X) f))(g:starEach [a] X.env= [(false,eval a X.env)]:=by rfl):
  PE X (.Call (.Name "sorted" p) [a] [] pos) (tL (md X) (Ce f)):=
 km (ju yt j v PyProof.Rows.boot_sorted (da w fJ g) (he:=g)) λL H Q o=>by
  obtain⟨m,G,S,d,J,ok,e,q⟩:=o
  obtain⟨⟨⟨A,t⟩,B⟩,y,e⟩:=ar e
  dsimp only at e
  split at e
  ·rename_i c
   obtain⟨n,z,e⟩:=ar e
   split at e
   ·rename_i k
    obtain⟨rfl,rfl⟩:=cc e
    refine⟨m,G,S,A,t,B,ok,y,λC a K I x i h r=>⟨a,n,rfl,?_,k,λl u hl s F=> ?_⟩⟩
    ·rw[←zq r z];exact h.sqL c
    ·cases Du s F
     exact q _ _ _ _ (x.trans (bX.laid hl)) (i.lay hl) (x.grow _ hl) (dg x i hl) bI (vA _)
   ·cases e
  ·cases e
def qR:List D->Option (List Str)
 | []=>some []
 |.tup (.str x::_)::r=>(qR r).bind λc=>some (x::c)
 |_::_=>none
theorem zv{M:Md}{ρ:List Addr}{H:Hp}:∀{ds:List D} {vs:List V} {xs:List Str},a7 M ρ H ds vs->qR ds=some xs->∃rs:List Addr,vs=rs.map V.ref/\vW H rs xs
 | [],_,_,h,e=>by cases h;cases e;exact⟨[],rfl,.nil⟩
 | .tup (.str x::us)::r,_,_,h,e=>by
   simp only[qR] at e
   obtain⟨d,i,e⟩:=ar e
   cases e
   cases h with
   | cons h g=>
     cases h with
     | tup h c=>
       obtain⟨rs,rfl,F⟩:=zv g i
       cases c with
       | cons f c=>
         cases f
         exact⟨_::rs,rfl,.cons h F⟩
 |.tup (.non::_)::_,_,_,_,e=>by cases e
 |.tup (.bl _::_)::_,_,_,_,e=>by cases e
 |.tup (.int _::_)::_,_,_,_,e=>by cases e
 |.tup (.tup _::_)::_,_,_,_,e=>by cases e
 |.tup (.ref _::_)::_,_,_,_,e=>by cases e
 |.tup (.fn _::_)::_,_,_,_,e=>by cases e
 |.tup []::_,_,_,_,e=>by cases e
 |.non::_,_,_,_,e=>by cases e
 |.bl _::_,_,_,_,e=>by cases e
 |.int _::_,_,_,_,e=>by cases e
 |.str _::_,_,_,_,e=>by cases e
 |.ref _::_,_,_,_,e=>by cases e
 |.fn _::_,_,_,_,e=>by cases e
def ui(ss:List Str)(ds:List D):List D:=Zp.sortBy ss .non ds
def uz{α l:Type}{R:α->l->Prop}{ss:List Str}{xs:List α}{ys:List l}{d:α}{d':l}(hl:xs.length=ys.length)(p:xs.length<=3)(h:∀(i:Nat) (x:α),xs[i]?=some x->∃y,ys[i]?=some y/\R x y):
  ∀(i:Nat) (x:α),(Zp.sortBy ss d xs)[i]?=some x->∃y,(Zp.sortBy ss d' ys)[i]?=some y/\R x y:=by
 intro i x e
 unfold Zp.sortBy at *
 rw[←hl]
 split at e
 ·rename_i c;rw[Qhq c];exact h i x e
 ·rename_i q
  obtain⟨_,j⟩:=Zp.se xs.length p (by omega)
  have f:(Zp.jc (Zp.KJ ss) (PySem.W.kas_sort xs.length)).toList.Perm (List.range xs.length):=List.isPerm_iff.mp (QUq.mp j _ (Zp.ip _ _))
  rw[gQm] at e
  obtain⟨k,m,e⟩:=oQm.mp e
  have g:k<xs.length:=List.mem_range.mp (f.mem_iff.mp (mQg m))
  have n:xs[k]?=some x:=by
   rw[Qlq,gQe g] at e
   rw[gQe g]
   exact congrArg some e
  obtain⟨y,o,r⟩:=h k x n
  refine⟨y,?_,r⟩
  rw[Quq (by omega),gQm,m]
  simp[Qlq,o]
theorem a7.of_get{M:Md}{ρ:List Addr}{H:Hp}:∀{ds:List D} {vs:List V},ds.length=vs.length->(∀(i:Nat) (d:D),ds[i]?=some d->∃v,vs[i]?=some v/\Rel M ρ H d v)->a7 M ρ H ds vs
 | [],[],_,_=>.nil
 | [],_::_,h,_=>by cases h
 |_::_,[],h,_=>by cases h
 | d::ds,v::vs,h,g=>by
   obtain⟨f,e,r⟩:=g 0 d rfl
   cases e
   exact .cons r (a7.of_get (Nat.succ.inj h) λi d c=>by
     obtain⟨v,e,r⟩:=g (i+1) d (by simpa using c)
     exact⟨v,by simpa using e,r⟩)
def yx(f:dz):fN:=λg S=>(f g S).bind λ(p,d)=>if p.2.isL=true then(qR p.1).bind λc=>if p.1.length<=3/\c.Nodup then some (ui c p.1,d) else none else none
def KG{f:dz}{p:Pos}(B:Gl X "sorted")(K:X.mg "sorted"=none)(L:PE X a (tQ (md X) f))(z:starEach [a] X.env= [(false,eval a X.env)]:=by rfl):
  PE X (.Call (.Name "sorted" p) [a] [] pos) (tL (md X) (yx f)):=
 km (ju u_ B K PyProof.Rows.boot_sorted (da L fJ z) (he:=z)) λσ H Q J=>by
  obtain⟨C,W,S,d,Y,ok,e,q⟩:=J
  obtain⟨⟨⟨m,t⟩,P⟩,M,e⟩:=ar e
  dsimp only at e
  split at e
  ·rename_i c
   obtain⟨k,N,e⟩:=ar e
   split at e
   ·rename_i j
    obtain⟨rfl,rfl⟩:=cc e
    refine⟨C,W,S,m,t,P,ok,M,λo a Z G x A h r=> ?_⟩
    obtain⟨s,rfl,F⟩:=zv r N
    have hl:m.length=s.length:=by have:=r.length;simpa using this
    refine⟨a,s,k,rfl,h.sqL c,by omega,F,j.2,λl g=> ?_⟩
    refine q _ _ _ _ (x.trans (bX.laid g)) (A.lay g) (x.grow _ g) (dg x A g) bI (a7.ext (bX.laid g) ?_)
    refine a7.of_get ?_ λi d u=> ?_
    ·rw[lQm]
     unfold ui
     rw[(Zp.ed k m j.1).length_eq,(Zp.ed k s (by omega)).length_eq,hl]
    ·obtain⟨y,n,U⟩:=uz (R:=λ(d:D) (a:Addr)=>Rel (md X) o G d (.ref a)) (d':=0) hl j.1 (λi d u=>by
      obtain⟨v,w,I⟩:=r.get u
      rw[gQm] at w
      obtain⟨y,n,rfl⟩:=oQm.mp w
      exact⟨y,n,I⟩) i d u
     exact⟨.ref y,by rw[gQm,n];rfl,U⟩
   ·cases e
  ·cases e
end
def CA{P:Program}{w:World}{K:PySem.W.Frag}{mg:Str->Option Value}{base:Heap}{f:Addr}{d:FuncData}{ps:List Str}{k n:Nat}:bu P w K mg base dJ k f d ps (dZ ⟨K,mg⟩ n λ_ _=>none):=
 {len:=λc H Q E h=>by
   obtain⟨_,_,_,_,_,_,_,_,e,_⟩:=h
   cases e
  run:=λA a s H b g c Q E _ _ _ _ h=>by
   obtain⟨_,_,_,_,_,_,_,_,e,_⟩:=h
   cases e}
end DL
namespace Zq
open PySem PyProof.Rows
def Hw{prog:Program}{w:World}{A:Around}(k:A.handled=none)(t:Bool)(it a:Addr)(f:a≠it)(items:Array Value):
  Draws prog w A it [it,a] items.size (λi v=>items[i]?=some v) (λi h=>It t h it a i/\Sq t h a items) where
 live:=λ_ _ b=>by obtain⟨o,h,_⟩:=b.1.obj;exact⟨o,h⟩
 frame:=λ_ _ _ b g=>⟨b.1.at λo e=>g it (by simp) o e,b.2.at λo e=>g a (by simp) o e⟩
 item:=λi s Q E j b l=>draw b.1 b.2 (v:=items[i]) (by simp[j]) λn d c=>l _ n s.toks (by simp[j]) ⟨d,b.2.ext c.extBut f⟩ c
 done:=λs Q E b m=>CG k b.1 b.2 (by simp) m
def Gg{prog:Program}{w:World}{A:Around}(d:A.handled=none)(t:Bool)(it a:Addr)(items:Array Value)(k:Nat)(c:items.size<=k):
  Draws prog w A it [it,a] k (λi v=>items[i]?=some v) (λi h=>i=k/\It t h it a k/\Sq t h a items) where
 live:=λ_ _ b=>by obtain⟨o,h,_⟩:=b.2.1.obj;exact⟨o,h⟩
 frame:=λ_ _ _ b c=>⟨b.1,b.2.1.at λo e=>c it (by simp) o e,b.2.2.at λo e=>c a (by simp) o e⟩
 item:=λi s Q E g b j=>absurd b.1 (Qwq g)
 done:=λs Q E b f=>CG d b.2.1 b.2.2 (by simp[c]) f
abbrev E2(t:Bool)(h:Heap)(a:Addr):Heap:=(H1 t h a).push {cls:=.type "enumerate",data:=.fields #[.none,.bool false,.ref h.objs.size,rawInt 0,.none,.none]}
def A9(t:Bool)(a:Addr)(xs:Array Value):Meets (Builtin.«enumerate.__new__» ⟨[.type "enumerate",.ref a],[]⟩) (λ_ R s=>Sq t s.heap a xs/\R (.ok (.ret (.ref (H1 t s.heap a).objs.size))) {s with heap:=E2 t s.heap a}):=
 .of_wp λe w A R s h=>by
  obtain⟨f,g,d,l,i⟩:=s
  obtain⟨j,h⟩:=h
  have k:=sub_enumerate
  cases t
  ·have b:Heap.IsList (Shared.heap ⟨f,g,d,l,i⟩) a xs:=j
   wp_walk
   refine wpAny_stack_any λm=>Qgq ?_
   split
   ·rename_i c _ _ _ _ _
    cases (c==Value.type "enumerate")
    ·wp_walk using wpAny_pyIter_list b
     exact⟨_,rfl,h⟩
    ·wp_walk using wpAny_pyIter_list b
     exact⟨_,rfl,h⟩
   ·wp_walk using wpAny_pyIter_list b
    exact⟨_,rfl,h⟩
  ·have b:Heap.IsTuple (Shared.heap ⟨f,g,d,l,i⟩) a xs:=j
   wp_walk
   refine wpAny_stack_any λm=>Qgq ?_
   split
   ·rename_i c _ _ _ _ _
    cases (c==Value.type "enumerate")
    ·wp_walk using wpAny_pyIter_tuple b
     exact⟨_,rfl,h⟩
    ·wp_walk using wpAny_pyIter_tuple b
     exact⟨_,rfl,h⟩
   ·wp_walk using wpAny_pyIter_tuple b
    exact⟨_,rfl,h⟩
section
variable{prog:Program}{w:World}{A:Around}{E:Value->Shared->Prop}{s:Shared}
def Lr{t:Bool}{a:Addr}{xs:Array Value}{Q:Value->Shared->Prop}(g:Sq t s.heap a xs)
  (q:∀h',IsEnum h' (s.heap.objs.size+1) s.heap.objs.size 0 .none->It t h' s.heap.objs.size a 0->(∀c o,s.heap.get? c=some o->h'.get? c=some o)->Q (.ref (s.heap.objs.size+1)) {s with heap:=h'}):
  wpAny (model prog w) A (call (.type "enumerate") [.ref a]) Q E s:=by
 refine callType_new F.called_enumerate (by decide) (F.typeCall_enumerate_1 _) (F.newCall_enumerate_1 _) (λd=>F.args_object_init_2 d _) F.entry_enumerate_new (A9 t a xs) ⟨g,?_⟩
 have e:(H1 t s.heap a).objs.size=s.heap.objs.size+1:=Heap.size_push ..
 have b:(E2 t s.heap a).get? (H1 t s.heap a).objs.size=some _:=Qrq _ rfl
 have f:(E2 t s.heap a).get? s.heap.objs.size=some _:=Qcq _ (Qrq _ rfl)
 refine(?_:_/\_)
 rw[e] at b
 rw[e]
 refine⟨⟨_,b,rfl⟩,q _ b ?_ λc o n=>Qcq _ (Qcq _ n)⟩
 cases t <;>exact⟨_,f,rfl,rfl⟩
end
end Zq
namespace L2
open PySem PyProof.Rows Zq
def NZ(K:PySem.W.Frag)(t:Bool)(a:Addr):It:=
  ⟨λi H=>∃b x,zK K t H a b/\b[i]?=some x,
   λi H v c=>∃p,v=.ref p/\H p=none/\∀b x,zK K t H a b->b[i]?=some x->c=upd H p (.tup [.int (i:Nat),x]),
   λi H=>∃b,zK K t H a b/\b.length<=i⟩
def DJ{P:Program}{w:World}{K:PySem.W.Frag}{r:List Expr}{x1:Nat}{tp:Pos}{t:Bool}{e it a:Addr}(l:e≠it)(Q:a≠e)(R:a≠it):
  Turn P w K (.Tuple r x1 tp) (NZ K t a) [e,it] e (λn h=>(∃d,IsEnum h e it (n:Nat) d)/\Zq.It t h it a n) where
 mem:=by simp
 obj:=λn h ⟨⟨d,f⟩,j⟩ c b=>by
  simp at b
  rcases b with rfl|rfl
  ·exact⟨_,f,λv n=>by cases n⟩
  ·exact j.obj
 keep:=λn h h' ⟨⟨d,f⟩,j⟩ k=>⟨⟨d,k e (by simp) _ f⟩,j.at λo e=>k it (by simp) o e⟩
 item:=by
  rintro X q L B b n i s σ H E I u ⟨⟨d,f⟩,j⟩ z
  subst q L B
  obtain⟨xs,x,y,J⟩:=z
  obtain⟨g,N,G,_⟩:=I.sq y
  obtain⟨ux,U,rx⟩:=N.get J
  have Y:∀{c o},s.heap.get? c=some o->c≠s.heap.objs.size:=λe=>Qwq (Qiq e)
  have m:∀c∈[e,it],c≠s.heap.objs.size:=λc b=>by
   obtain⟨oi,e1,_⟩:=j.obj
   simp at b
   rcases b with rfl|rfl
   ·exact Y f
   ·exact Y e1
  have C:n<g.toArray.size:=by
   have:=(gQs.mp U).1
   simpa using this
  refine wpAny_pyNext_enum_itemD (Hw (A:=X.A.in1) (I.ok.hd b) t it a R g.toArray) f ⟨j,G⟩ C l (by simp[l,Ne.symm Q]) λx' h1 Z q ho F hT a0 hk=>⟨_,rfl,?_⟩
  obtain rfl:x'=ux:=by
   have:=q
   simp only[List.getElem?_toArray] at this
   rw[U] at this
   exact(QdQ this).symm
  refine wpAny_letOwnedTupleGo_enum ho λh2 e2 M=> ?_
  have I2:Inv X i σ (upd H s.heap.objs.size (.tup [.int (n:Nat),x])) {s with heap:=h2,toks:=Z+1}:=I.turnedNew (t':=Z+1) (fp:= [e,it]) u (λc o b p=> ?_) (Qmq _) ?_
  ·refine⟨.ref s.heap.objs.size,_,I2,rfl,⟨s.heap.objs.size,rfl,I.hok.fresh (Qmq _),λa1 x' q1 S=> ?_⟩,⟨⟨_,by simpa using e2⟩,F.1.ext M.extBut (Ne.symm l)⟩,λc b=> ?_⟩
   ·rw[I.sq_inj q1 y] at S
    rw[J] at S
    cases S
    rfl
   ·rw[bf (m c b)]
    exact(u c b).1
  ·simp at b
   exact M.extBut _ _ b.1 (hk c o b.1 b.2 p)
  ·exact⟨by show 2<=_;decide,[_,_],.cons ⟨_,rfl⟩ (.cons rx .nil),_,M.extBut _ _ (λp=>m e (by simp) p.symm) hT,rfl,rfl,0,rfl⟩
 done:=by
  rintro X q L B b n i s σ H E I u ⟨⟨d,f⟩,j⟩ z
  subst q L B
  obtain⟨xs,y,J⟩:=z
  obtain⟨g,N,G,_⟩:=I.sq y
  have hl:=N.length
  refine wpAny_pyNext_enum_endD (Gg (A:=X.A.in1) (I.ok.hd b) t it a g.toArray n (by simp;omega)) f ⟨rfl,j,G⟩ λh1 r1=>⟨rfl,I.turnedL (t':=s.toks) (fp:= [e,it]) u λc o b p=> ?_⟩
  simp at b
  exact r1 c o b.2 p
 self:=λ_ _ _ _ _ ⟨⟨d,f⟩,_⟩ h=>wpAny_pyIter_enum f h
section
variable{X:Cx}
def Le(K:PySem.W.Frag)(e:TA):TI:=λc H R=>e c H λd H1=>∃(t:Bool) (a:Addr) (b:List V),d= [.ref a]/\zK K t H1 a b/\R (NZ K t a) H1
def GU{d:List Expr}{B:Nat}{y:Pos}{a:Expr}{i:TA}{p pos:Pos}(u:Gl X "enumerate")(w:X.mg "enumerate"=none)(z:PA X [a] i)(L:starEach [a] X.env= [(false,eval a X.env)]:=by rfl):
  PI X (.Tuple d B y) (.Call (.Name "enumerate" p) [a] [] pos) (Le X.K i):=by
 intro b s J H R I h
 refine Call_ (kG I u w (by rfl) (PyProof.Rows.callWith_type1 (c9 (z pos b s J H _ I h) λU f ⟨N,H1,g,v,A⟩=> ?_) L rfl))
 obtain⟨t,x,Q,e,F,q⟩:=A
 subst e
 cases v with
 | cons r G=>
   cases G
   cases r
   obtain⟨C,P,j,_⟩:=g.sq F
   have l:=Sq.lt j
   refine Zq.Lr j λS m M k=> ?_
   refine wpAny_pyIter_enum m ⟨_,_,_,_,H1,rfl,g.kept (t':=f.toks) k,DJ (e:=f.heap.objs.size+1) (it:=f.heap.objs.size) (Nat.succ_ne_self _) (Qwq (Nat.lt_succ_of_lt l)) (Qwq l),⟨⟨_,m⟩,M⟩,λc o=> ?_,q⟩
   have n:f.heap.objs.size<=c:=by
     simp only[Qsq,QXq,or_false] at o
     rcases o with e|e <;>(rw[e];first|exact Qmq _|exact Nat.le_add_right _ _)
   exact g.fpOk n (g.hok.fresh n)
end
end L2
namespace DL
open PySem PySem.Spec L2
def ji(n:Nat):List D->List D
 | []=> []
 |d::ds=>.tup [.int n,d]::ji (n+1) ds
theorem pM:∀{ds:List D} {n i:Nat} {d:D},(ji n ds)[i]?=some d->∃x,ds[i]?=some x/\d=.tup [.int ((n+i:Nat)),x]
 | [],_,_,_,h=>by simp[ji] at h
 | x::ds,n,0,d,h=>by
   simp only[ji,List.getElem?_cons_zero,Option.some.injEq] at h
   exact⟨x,rfl,h.symm⟩
 | x::ds,n,i+1,d,h=>by
   simp only[ji,List.getElem?_cons_succ] at h
   obtain⟨y,b,a⟩:=pM h
   exact⟨y,by simpa using b,by rw[a];congr 3;omega⟩
theorem vj:∀{ds:List D} {n:Nat},(ji n ds).length=ds.length
 | [],_=>rfl
 |_::_,_=>congrArg (·+1) vj
def sV(f:dz):uR:=λb S=>(f b S).bind λ(p,a)=>some ((ji 0 p.1,λS=>p.2.stays S p.1),a)
section
variable{X:Cx}{a:Expr}{pos:Pos}
def Nv{c:List Expr}{h:Nat}{G p:Pos}{f:dz}(t:Gl X "enumerate")(F:X.mg "enumerate"=none)(I:PE X a (tQ (md X) f))(s:starEach [a] X.env= [(false,eval a X.env)]:=by rfl):
  PI X (.Tuple c h G) (.Call (.Name "enumerate" p) [a] [] pos) (tI (md X) (sV f)):=Mr (GU t F (da I fJ s) s) λσ H R ⟨z,Γ,S,ds,W,S',ok,e,q⟩=>by
 obtain⟨⟨⟨j,A⟩,U⟩,L,e⟩:=ar e
 obtain⟨P,rfl⟩:=cc e
 obtain⟨rfl,rfl⟩:=Prod.mk.inj P
 refine⟨z,Γ,S,j,A,U,ok,L,λN y g H1 h l n B=> ?_⟩
 refine⟨_,y,g,rfl,n.sqB,q _ _ _ h l λi K S3 H3 Y b w=> ?_⟩
 obtain⟨m,k,r⟩:=n.to B Y b w
 refine⟨λd Z=> ?_,λM=>⟨m,k.sqB,?_⟩⟩
 ·obtain⟨x,J,rfl⟩:=pM Z
  obtain⟨u,o,C⟩:=r.get J
  refine⟨⟨m,u,k.sqB,o⟩,λv H4 Q=> ?_⟩
  obtain⟨p,rfl,hp,hq⟩:=Q
  have:=hq m u k.sqB o
  subst this
  refine⟨bX.laid hp,b.lay hp,.tup bI ((a7.cons ?_ (.cons C .nil)).ext (bX.laid hp))⟩
  rw[Nat.zero_add]
  exact .int _
 ·rw[M,vj,r.length]
  exact Qmq _
end
structure B5(P:Program)(w:World)(K:PySem.W.Frag)(mg:Str->Option Value)(x:Str)(tbl:List (Str×Str)):Prop where
 at_:∃a,mg x=some (.ref a)/\∀h:Heap,K.In h->∃vs,h.DictOf (bP P w) a vs/\∀k nm,tbl.lookup k=some nm->∃f,valueAt vs (Sum.inr k:Key)=some (.ref f)/\mg nm=some (.ref f)
section
variable{X:Cx}{a b c e:Expr}{pos:Pos}
def Mq(d:List (Str×Str))(g:bx):bx:=λh S=>(g h S).bind λ(y,f)=>match y with
 |.str x=>(d.lookup x).bind λnm=>some (.fn nm,f)
 |_=>none
def Hh{x:Str}{j:List (Str×Str)}{g:bx}{p:Pos}(R:B5 X.prog X.w X.K X.mg x j)(C:Gl X x)(hb:PE X b (tD (md X) g))(hs:Hd b)(hd:(x==("__debug__":Str))=false:=by decide):
  PE X (.Subscript (.Name x p) b pos) (tD (md X) (Mq j g)):=by
 rintro i s σ H Q I ⟨t,Γ,S,d,S',ok,e,q⟩
 obtain⟨a,M,G⟩:=R.at_
 obtain⟨⟨y,A⟩,N,e⟩:=ar e
 cases y with
 | str z=>
   obtain⟨nm,U,e⟩:=ar e
   obtain⟨rfl,rfl⟩:=cc e
   refine CO PySem.F.slot_dict_getitem.lookup hs (xp I C M ?_ hd)
   refine c9 (hb i s σ H (λv l=>∃h,bX t H h l/\fM (md X) h A l/\Rel (md X) h l (.str z) v) I ⟨t,Γ,S,_,A,ok,N,λh v l x st r=>⟨h,x,st,r⟩⟩) λiv Y qr=> ?_
   obtain⟨v,H2,B,J,h,x2,n,r2⟩:=qr
   obtain⟨vs,u,Z⟩:=G _ B.kIn
   obtain⟨f,P,m⟩:=Z z nm U
   cases r2
   have W:Y.TypeIs (.ref a) "dict":=by
     obtain⟨o,es,ep,L,h2,h3,_⟩:=u
     exact⟨o,L,h2.1⟩
   refine⟨W,wpAny_getItem_of (zM (k:=Sum.inr z) J) u.mapOf P ?_⟩
   exact⟨.ref f,H2,B.tok _,rfl,q _ _ _ x2 n (.fn m)⟩
 |_=>cases e
def sM(i:Nat)(T:List (Str×dw))(g:fN):bx:=λd S=>match d[i]? with
 |some (some (.fn x))=>(T.lookup x).bind λF=>ay F g d S
 |_=>none
def Hl{i k:Nat}{y:Str}{ps:List Str}{T:List (Str×dw)}{j:List Expr}{g:fN}{p:Pos}(M:∀x F,T.lookup x=some F->eX X.prog X.w X.K X.mg X.base k x ps F)(U:dY k X.A)(P:X.N[i]?=some y)(hv:Ii X.env.scope y)
  (ha:PA X (e::j) (yC (md X) g)) (hn:nA ps.length g) (n:(y==("__debug__":Str))=false:=by decide) (z:(y==("__classdict__":Str))=false:=by decide) (he:starEach (e::j) X.env=(false,eval e X.env)::starEach j X.env:=by rfl) (hpl:(backTo pos (starEach j X.env)).any (·.1)=false:=by rfl):
  PE X (.Call (.Name y p) (e::j) [] pos) (tD (md X) (sM i T g)):=by
 rintro h s B H Q I ⟨R,Γ,S,d,S',ok,e,q⟩
 unfold sM at e
 split at e
 ·rename_i x hx
  obtain⟨F,t,e⟩:=ar e
  obtain⟨f,fd,G,bb,kp,m⟩:=(M x F t).ex
  obtain⟨v,o,Y⟩:=ok.en.get i _ hx
  cases Y with
  | fn hm=>
    have C:(md X).mg x=some (.ref f):=m
    rw[hm] at C
    cases C
    refine wpAny_Call_Name_kw (c9 (Ei P hv n z h s B H (λL l=>L=.ref f/\l=H) I ⟨_,o,rfl,rfl⟩) λu s1 qr=> ?_)
    obtain⟨L,l,I1,Z,t,e2⟩:=qr
    subst t e2
    cases (show u=Value.ref f from Z)
    refine PySem.W.callWith_K (h₀:=X.base) I.ok.mod.kin kp (c9 (ha pos h s1 B l _ I1 (B1 hn B l Q ⟨R,Γ,S,d,S',ok,e,q⟩)) λus s2 ⟨vs,H1,J,r,q2⟩=>⟨J.kIn,?_⟩) he hpl
    exact EX G U bb .nil FK J r q2
 ·cases e
end
def AC(w:World)(x:Str):PyData.keyHash w.params x=hashStr w x:=by
 unfold PyData.keyHash hashStr
 first|rfl|simp
inductive Al(w:World)(mg:Str->Option Value):List DictEntry->List (Str×Str)->Prop
 |nil:Al w mg [] []
 |cons {x nm:Str} {t:Tok} {f:Addr} {es:List DictEntry} {tbl:List (Str×Str)}:mg nm=some (.ref f)->Al w mg es tbl->Al w mg (⟨PyData.keyHash w.params x,.str x t,.ref f⟩::es) ((x,nm)::tbl)
def Al.keys{P:Program}{w:World}{mg:Str->Option Value}{b:List DictEntry}{a:List (Str×Str)}(c:Al w mg b a):∀e∈b,∃k,(bP P w).is k e.key=true/\e.hash=(bP P w).hash k:=by
 induction c with
 |nil=>intro e h;cases h
 | @cons x nm t f b a hm c ih=>
   intro e h
   rcases Qsq.mp h with rfl|h
   · exact⟨Sum.inr x,pQ x t,AC w x⟩
   · exact ih e h
def Al.pairs{P:Program}{w:World}{mg:Str->Option Value}{b:List DictEntry}{a:List (Str×Str)}(d:Al w mg b a):∃vs:List (Key×Value),Pairs (bP P w) b vs/\vs.map (·.1)=a.map (λp=>Sum.inr p.1)∧
  ∀k nm,a.lookup k=some nm->∃f,valueAt vs (Sum.inr k:Key)=some (.ref f)/\mg nm=some (.ref f):=by
 induction d with
 |nil=>exact⟨[],.nil,rfl,λk nm h=>by cases h⟩
 | @cons x nm t f b a hm d ih=>
   obtain⟨vs,i,j,o⟩:=ih
   refine⟨(Sum.inr x,.ref f)::vs,.cons (pQ x t) rfl i,by simp[j],λk n h=> ?_⟩
   by_cases c:k=x
   · subst c
     rw[List.lookup_cons_self] at h
     cases h
     refine⟨f,?_,hm⟩
     unfold valueAt
     rw[List.find?_cons_of_pos (by simp)]
     rfl
   · have m:(k==x)=false:=by simpa using c
     rw[List.lookup_cons,m] at h
     obtain⟨g,e,l⟩:=o k n h
     refine⟨g,?_,l⟩
     unfold valueAt at e⊢
     rw[List.find?_cons_of_neg]
     · exact e
     · intro z
       have:(Sum.inr x:Key)=Sum.inr k:=by simpa using z
       exact c (Sum.inr.inj this).symm
def Fi{P:Program}{w:World}{K:PySem.W.Frag}{mg:Str->Option Value}{x:Str}{c:List (Str×Str)}{a:Addr}{d:List DictEntry}{k:Nat}(j:mg x=some (.ref a))(l:K.lookup a=some ⟨.type "dict",none,.dict d.toArray k,#[]⟩)(f:Al w mg d c)(nd:(c.map (·.1)).Nodup):B5 P w K mg x c:=by
 obtain⟨i,g,q,r⟩:=f.pairs (P:=P)
 refine⟨a,j,λh o=>⟨i,⟨_,_,_,o _ _ l,⟨rfl,rfl,rfl⟩,rfl,λe m=>f.keys e (by simpa using m),by simpa using g,?_⟩,r⟩⟩
 rw[q]
 have:c.map (λp=>(Sum.inr p.1:Key))=(c.map (·.1)).map Sum.inr:=by rw[QPq];rfl
 rw[this]
 exact List.Pairwise.map _ (λa b n e=>n (Sum.inr.inj e)) nd
theorem Et{P:Program}{w:World}{K:PySem.W.Frag}{mg:Str->Option Value}{base:Heap}{k:Nat}{ps:List Str}:∀{T:List (Str×dw)},(∀p∈T,eX P w K mg base k p.1 ps p.2)->∀x F,T.lookup x=some F->eX P w K mg base k x ps F
 | [],_,x,F,h=>by cases h
 | p::T,g,x,F,h=>by
   by_cases c:x=p.1
   · subst c
     rw[List.lookup_cons_self] at h
     cases h
     exact g p (QBq ..)
   · have a:(x==p.1)=false:=by simpa using c
     rw[List.lookup_cons,a] at h
     exact Et (λq b=>g q (Qpq _ b)) x F h
def yU:Sp:=λd H Q _=>∃(a:Addr) (b:List Int) (o:Obj),d= [.ref a]/\H a=some (.frz o (.lst (b.map V.int)))/\b.length<=63/\∀c,Q (.bl true) c
theorem vy{M:Md}{ρ:List Addr}{H:Hp}:∀ns:List Int,a7 M ρ H (ns.map D.int) (ns.map V.int)
 | []=>.nil
 |s::ss=>.cons (.int s) (vy ss)
def He{P:Program}{w:World}{K:PySem.W.Frag}{mg:Str->Option Value}{base:Heap}{k:Nat}{f:Addr}{i:FuncData}{ps:List Str}{F:dw}(G:bu P w K mg base dJ k f i ps (dZ ⟨K,mg⟩ 1 F))
  (h:∀ns:List Int,ns.length<=63->∃c,F [.ref 0] [.frz (ns.map D.int)]=some (.d (.bl true),c)):bu P w K mg base dJ k f i ps yU:=
 G.imp λt H Q E l=>by
  obtain⟨a,ns,o,e,m,hl,q⟩:=l
  subst e
  obtain⟨c,e⟩:=h ns hl
  refine⟨[a],[.frz (ns.map D.int)],[.ref 0],_,c,rfl,.cons (.ref rfl) .nil,⟨rfl,by simp,λk b s g p=> ?_⟩,e,λn v j x u r=> ?_⟩
  ·cases k with
   |zero=>cases g;cases p;exact⟨_,o,m,vy ns⟩
   |succ k=>simp at g
  ·cases r
   exact q j
def AN(K:PySem.W.Frag):Bool:=K.all λp=>match p.2.data with|.seq _ _=>(match p.2.cls with|.type s=>s !="list" |_=>true)|_=>true
def DG{K:PySem.W.Frag}(h:AN K=true){a:Addr}{o:Obj}(e:K.lookup a=some o){f:Array Value}{n:Nat}(hd:o.data=.seq f n):o.cls≠.type "list":=by
 intro k
 have d:∀(K:List (Addr×Obj)),K.all (λp=>match p.2.data with|.seq _ _=>(match p.2.cls with|.type s=>s !="list" |_=>true)|_=>true)=true->K.lookup a=some o->False:=by
  intro K
  induction K with
  |nil=>intro _ e;cases e
  | cons p K i=>
    intro h e
    rw[List.all_cons,QCq] at h
    obtain⟨b,q⟩:=p
    rw[List.lookup_cons] at e
    by_cases c:a=b
    · subst c
      simp only[BEq.rfl] at e
      cases e
      have g:=h.1
      simp only[hd,k] at g
      simp at g
    · have j:(a==b)=false:=by simpa using c
      rw[j] at e
      exact i h.2 e
 exact d K h e
def Lw{K:PySem.W.Frag}{H:Hp}{a:Addr}{ns:List Int}(nl:AN K=true)(hl:ns.length<=63)(c:Hz H)(b:g6 K H a (ns.map V.int)):yU [.ref a] H (λv _=>v=.bl true) λ_ _ _=>False:=by
 rcases b with(h|⟨o,h⟩)|⟨o,its,n,h,hc,_,hd,_⟩
 ·rcases c a with z|⟨o,d,z⟩
  ·rw[h] at z;cases z
  ·rw[h] at z;cases z
 ·exact⟨a,ns,o,rfl,h,hl,λ_=>rfl⟩
 ·exact absurd hc (DG nl h hd)
def K5{l:PySem.W.OpenLaw}{q:Program}{b:List Str}{o:(Str->Option Value)->Heap->Prop}{g:World->Heap->Prop}{d:DefRec}{K:Params->PySem.W.Frag}{k:Nat}(r:l.most=some 63)(c:d.params.defaults= [])(m:dY k PySem.callerA)
  (t:∀(w:World) (h:Heap),g w h->(K w.params).In h) (nl:∀w:World,AN (K w.params)=true)
  (F:∀(w:World) (mg:Str->Option Value) (e:Addr) (h:Heap),(K w.params).In h->h.Ns mainGlobals mg->mg d.name=some (.ref e)→
   ∃i:FuncData,(∀(s:Shared) (u:Value),BindsTo s i ⟨[u],[]⟩ [("_law_script",u)])/\∀base:Heap,(K w.params).In base->base.Ns mainGlobals mg->bu l.prog w (K w.params) mg base dJ k e i ["_law_script"] yU):
  PySem.W.WalkO q b o g l.row.toRowW d [] (λf vs=>PySem.call f vs):=
 L2.GE (n:=63) (k:=k) (x:="_law_script") (CX:=λ_=>dJ) (sp:=λ_=>yU) r (by decide) c m t F (λw H a v hl p j=>Lw (nl w) hl p j) λ_ _ _ _ _ z=>z
end DL
namespace DL
open PySem PySem.Spec L2 PyProof.Rows
section
variable{X:Cx}{x:Str}{e:Expr}{f:bx}{pos pos':Pos}
def pS(i:Nat)(a:X.N.Nodup)(he:PE X e (tD (md X) f))(hi:X.N[i]?=some x:=by rfl)(b:Loc X.env.scope x:=by first|exact Or.inl rfl|exact Or.inr rfl)(c:swapsWith e (some (.Name x pos')) pos.line X.env=pure false:=by rfl)
  (d:X.fn x=true\/X.env.scope.names.lookup x=some .local:=by first|exact .inl rfl|exact .inr rfl|assumption):PS X (.Assign [.Name x pos'] e pos) (tS (md X) (aX i f)):=Mg (Kw a hi b he c d)
def Oq(i:Nat)(a:X.N.Nodup)(hi:X.N[i]?=some x:=by rfl)(b:Loc X.env.scope x:=by first|exact Or.inl rfl|exact Or.inr rfl)(c:X.fn x=true\/X.env.scope.names.lookup x=some .local:=by first|exact .inl rfl|exact .inr rfl|assumption):PG X (.Name x pos) (oY i):=xj a hi b c
def uV(i:Nat)(a:X.N.Nodup)(hi:X.N[i]?=some x:=by rfl)(b:Loc X.env.scope x:=by first|exact Or.inl rfl|exact Or.inr rfl)(c:X.fn x=true\/X.env.scope.names.lookup x=some .local:=by first|exact .inl rfl|exact .inr rfl|assumption):PG X (.Name x pos) (tG (md X) (bL i)):=Ek (xj a hi b c)
def M_{N:List Str}{a:Scope}{b:List (Str×Addr)}{C:Addr}{s:Shared}{H:Hp}{fp:List Addr}(i:Nat)(c:N.Nodup:=by decide +kernel)(hi:(aL X N a b C s H fp).N[i]?=some x:=by rfl)(d:Loc (aL X N a b C s H fp).env.scope x:=by first|exact Or.inl rfl|exact Or.inr rfl)
  (g:(aL X N a b C s H fp).fn x=true\/(aL X N a b C s H fp).env.scope.names.lookup x=some .local:=by first|exact .inl rfl|exact .inr rfl|assumption):PG (aL X N a b C s H fp) (.Name x pos) (tG (md (aL X N a b C s H fp)) (bL i)):=Ek (xj c hi d g)
def v_(i:Nat)(b:X.N[i]?=some x:=by rfl)(c:Ii X.env.scope x:=by first|exact Or.inl rfl|exact Or.inr (Or.inl rfl)|exact Or.inr (Or.inr rfl))(hd:(x==("__debug__":Str))=false:=by decide)(a:(x==("__classdict__":Str))=false:=by decide):PE X (.Name x pos) (tD (md X) (av i)):=LG (pv i b c hd a)
end
section
variable{X:Cx}{x:Str}{k k':Nat}{ps:List Str}{F:dw}{e:Expr}{es:List Expr}{g:fN}{p pos:Pos}
def gU(C:eX X.prog X.w X.K X.mg X.base k x ps F)(d:dY k' X.A)(f:PA X (e::es) (yC (md X) g))(b:k<=k':=by first|decide|omega)(c:Gl X x:=by rfl)
  (h:nA ps.length g:=by repeat (first|exact AG|refine lS ?_))
  (a:(x==("__debug__":Str))=false:=by decide) (he:starEach (e::es) X.env=(false,eval e X.env)::starEach es X.env:=by rfl) (hpl:(backTo pos (starEach es X.env)).any (·.1)=false:=by rfl):
  PE X (.Call (.Name x p) (e::es) [] pos) (tD (md X) (ay F g)):=KP C (d.mono b) c f h a he hpl
def JT(C:eX X.prog X.w X.K X.mg X.base k x ps F)(d:dY k' X.A)(f:PA X (e::es) (yC (md X) g))(b:k<=k':=by first|decide|omega)(c:Gl X x:=by rfl)
  (h:nA ps.length g:=by repeat (first|exact AG|refine lS ?_))
  (a:(x==("__debug__":Str))=false:=by decide) (he:starEach (e::es) X.env=(false,eval e X.env)::starEach es X.env:=by rfl) (hpl:(backTo pos (starEach es X.env)).any (·.1)=false:=by rfl):
  PE X (.Call (.Name x p) (e::es) [] pos) (tL (md X) (cV F g)):=L7 C (d.mono b) c f h a he hpl
end
def fq{N P:List Str}{sc:Scope}(a:sc.kind=.function:=by rfl)(b:sc.isCoroutine=false:=by rfl)(c:sc.isGenerator=false:=by rfl)(d:N.Nodup:=by decide +kernel)(e:N.take P.length=P:=by rfl)
  (f:∀x∈P,sc.names.lookup x=some .local\/sc.names.lookup x=some .cell:=by decide +kernel) (g:∀y∈sc.names,y.2≠.free:=by decide +kernel):aG N P sc:=⟨a,b,c,d,e,f,g⟩
structure a9(K:PySem.W.Frag)(x:Str)(st:Stmt)(f:Addr):Prop where
 ex:∃(oc:Value) (od:Option Addr) (kV dc pm:Value) (an:Option Addr) (cd ct:Value) (sl:Array (Option Value)),PySem.W.nsIn K mainGlobals x=some (some (.ref f))∧
  K.lookup f=some ⟨oc,od,.func (PySem.W.fnOf x x (gV st) (eO st) (aA st) .none kV dc pm an cd ct),sl⟩/\PySem.W.codeIn K cd x=true/\PySem.W.keepIn K (.ref f)=true
def a9.of{K:PySem.W.Frag}{x:Str}{st:Stmt}{f:Addr}{e:Value}{g:Option Addr}{kV j h:Value}{i:Option Addr}{b ct:Value}{d:Array (Option Value)}(a:PySem.W.nsIn K mainGlobals x=some (some (.ref f)))
  (l:K.lookup f=some ⟨e,g,.func (PySem.W.fnOf x x (gV st) (eO st) (aA st) .none kV j h i b ct),d⟩) (c:PySem.W.codeIn K b x=true) (k:PySem.W.keepIn K (.ref f)=true):a9 K x st f:=⟨e,g,kV,j,h,i,b,ct,d,a,l,c,k⟩
structure NC(K:PySem.W.Frag)(mg:Str->Option Value)(x:Str)(st:Stmt)(ps:List Str)(f:Addr):Prop where
 ex:∃fd,eA K x x st f fd/\Binds K fd ps []/\PySem.W.keepIn K (.ref f)=true
 m:mg x=some (.ref f)
def a9.ok1{K:PySem.W.Frag}{mg:Str->Option Value}{x:Str}{st:Stmt}{ps:List Str}{f:Addr}{h:Heap}(D:a9 K x st f)(X:K.In h)(G:h.Ns mainGlobals mg)
  (l:∀(kV d g:Value) (e:Option Addr) (c ct:Value) (a:List Value),a.length=ps.length->bindArgs (PySem.W.fnOf x x (gV st) (eO st) (aA st) .none kV d g e c ct) ⟨a,[]⟩=pure (ps.zip a):=by intro _ _ _ _ _ _ a hl;rcases a with _|⟨_,_|⟨_,_|⟨_,_|⟨_,_|⟨_,_|⟨_,_⟩⟩⟩⟩⟩⟩ <;>first|rfl|cases hl):NC K mg x st ps f:=by
 obtain⟨p,q,kV,n,g,e,o,ct,m,k,i,j,b⟩:=D.ex
 exact⟨⟨_,BK i j b,(BK i j b).binds l,b⟩,PySem.W.mg_of X G k⟩
structure Pk(P:Program)(w:World)(base:Heap):Prop where
def NC.cal{P:Program}{w:World}{base:Heap}{K:PySem.W.Frag}{mg:Str->Option Value}{x:Str}{st:Stmt}{ps:List Str}{f:Addr}{k:Nat}{F:dw}(O:NC K mg x st ps f)(Z:Pk P w base)
  (h:∀a,eA K x x st f a->Binds K a ps []->PySem.W.keepIn K (.ref f)=true->mg x=some (.ref f)->bu P w K mg base dJ k f a ps (dZ ⟨K,mg⟩ ps.length F)):eX P w K mg base k x ps F:=by
 obtain⟨a,d,b,c⟩:=O.ex
 exact⟨f,a,h a d b c O.m,b,c,O.m⟩
end DL
namespace DL
open PySem PySem.Spec L2
def E{α:Type}(f:cv->aC->Option (α×aC))(c:cv)(S:aC)(Q:α->aC->Prop):Prop:=∃a b,f c S=some (a,b)/\Q a b
def T(f:cO)(a:cv)(S:aC)(Q:Out->Prop):Prop:=∃o,f a S=some o/\Q o
def Fn(F:dw)(ds:List D)(S:aC)(Q:Res->aC->Prop):Prop:=∃r a,F ds S=some (r,a)/\Q r a
def Tg(g:me)(d:D)(c:cv)(S:aC)(Q:cv->aC->Prop):Prop:=∃a b,g d c S=some (a,b)/\Q a b
def Mi(g:rq)(d:List D)(c:cv)(S:aC)(Q:cv->aC->Prop):Prop:=∃a b,g d c S=some (a,b)/\Q a b
def Op{α:Type}(o:Option α)(Q:α->Prop):Prop:=∃d,o=some d/\Q d
section
variable{Γ:cv}{S:aC}
def E.mono{α:Type}{f:cv->aC->Option (α×aC)}{Q R:α->aC->Prop}(h:E f Γ S Q)(i:∀a S,Q a S->R a S):E f Γ S R:=by
 obtain⟨a,b,e,q⟩:=h
 exact⟨a,b,e,i _ _ q⟩
def T.mono{f:cO}{Q R:Out->Prop}(h:T f Γ S Q)(i:∀o,Q o->R o):T f Γ S R:=by
 obtain⟨a,e,q⟩:=h
 exact⟨a,e,i _ q⟩
def bp{i:Nat}{d:D}{Q:D->aC->Prop}(h:Γ[i]?=some (some d))(q:Q d S):E (av i) Γ S Q:=⟨d,S,by unfold av;rw[h],q⟩
def mD{d:D}{Q:D->aC->Prop}(q:Q d S):E (cF d) Γ S Q:=⟨d,S,rfl,q⟩
def ke{Q:List D->aC->Prop}(q:Q [] S):E au Γ S Q:=⟨[],S,rfl,q⟩
def cE{f:bx}{g:fN}{Q:List D->aC->Prop}(h:E f Γ S λd a=>E g Γ a λds S2=>Q (d::ds) S2):E (aq f g) Γ S Q:=by
 obtain⟨d,a,c,ds,S2,b,q⟩:=h
 exact⟨_,_,by unfold aq;rw[c];simp only[Qbq];rw[b];rfl,q⟩
def fK{o:sL}{f g:bx}{Q:D->aC->Prop}(h:E f Γ S λx a=>E g Γ a λy S2=>Op (o S2 x y) λd=>Q d S2):E (aV o f g) Γ S Q:=by
 obtain⟨x,a,e,y,S2,b,d,c,q⟩:=h
 exact⟨d,S2,by unfold aV;rw[e];simp only[Qbq];rw[b];simp only[Qbq];rw[c];rfl,q⟩
def FO{f:fN}{Q:D->aC->Prop}(h:E f Γ S λds a=>ds.length<=sizeLine/\Q (.tup ds) a):E (aP f) Γ S Q:=by
 obtain⟨ds,a,b,l,q⟩:=h
 exact⟨_,_,by unfold aP;rw[b];simp only[Qbq];rw[Qhq l],q⟩
def Cy{f:fN}{Q:List D->aC->Prop}(h:E f Γ S λds a=>ds.length<=sizeLine/\Q ds a):E (bg f) Γ S Q:=by
 obtain⟨ds,a,b,l,q⟩:=h
 exact⟨_,_,by unfold bg;rw[b];simp only[Qbq];rw[Qhq l],q⟩
def sW{f:fN}{Q:D->aC->Prop}(h:E f Γ S λds a=>Q (.ref a.length) (a++ [.lst ds])):E (bC f) Γ S Q:=by
 obtain⟨ds,a,b,q⟩:=h
 exact⟨_,_,by unfold bC;rw[b];rfl,q⟩
def Np{o:Jz}{f:fN}{Q:D->aC->Prop}(h:E f Γ S λds a=>Op (o ds) λd=>Q d a):E (Au o f) Γ S Q:=by
 obtain⟨ds,a,c,d,b,q⟩:=h
 exact⟨d,a,by unfold Au;rw[c];simp only[Qbq];rw[b];rfl,q⟩
def fh{f:bx}{Q:(List D×Tag)->aC->Prop}(h:E f Γ S λd a=>Op (pZ a d) λp=>Q p a):E (aQ f) Γ S Q:=by
 obtain⟨e,a,c,d,b,q⟩:=h
 exact⟨d,a,by unfold aQ;rw[c];simp only[Qbq];rw[b];rfl,q⟩
def xg{f:fN}{Q:(List D×Tag)->aC->Prop}(h:E f Γ S λds a=>Q (ds,.fr) a):E (gP f) Γ S Q:=by
 obtain⟨ds,a,b,q⟩:=h
 exact⟨_,a,by unfold gP;rw[b];rfl,q⟩
def EH{f:dz}{Q:D->aC->Prop}(h:E f Γ S λp a=>Q (.int p.1.length) a):E (gD f) Γ S Q:=by
 obtain⟨p,a,b,q⟩:=h
 exact⟨_,a,by unfold gD;rw[b];rfl,q⟩
def Jb{f:dz}{Q:D->aC->Prop}(h:E f Γ S λp a=>Q (.tup p.1) a):E (tupQ f) Γ S Q:=by
 obtain⟨p,a,b,q⟩:=h
 exact⟨_,a,by unfold tupQ;rw[b];rfl,q⟩
def KB{f:dz}{Q:(List D×Tag)->aC->Prop}(h:E f Γ S λp a=>p.2.isL=true/\Q p a):E (f_ f) Γ S Q:=by
 obtain⟨p,a,b,l,q⟩:=h
 exact⟨_,a,by unfold f_;rw[b];simp only[Qbq];rw[Qhq l],q⟩
def o_{f:dz}{Q:D->aC->Prop}(h:E f Γ S λp a=>(p.2.isL=true/\p.2.stays a p.1)/\Q (.bl (!p.1.isEmpty)) a):E (cJ f) Γ S Q:=by
 obtain⟨p,a,b,l,q⟩:=h
 exact⟨_,a,by unfold cJ;rw[b];simp only[Qbq];rw[Qhq l],q⟩
def Bo{F:dw}{g:fN}{Q:D->aC->Prop}(h:E g Γ S λds a=>Fn F ds a λr S2=>match r with|.d x=>Q x S2|.l _=>False):E (ay F g) Γ S Q:=by
 obtain⟨ds,a,c,r,S2,b,q⟩:=h
 cases r with
 |d x=>exact⟨x,S2,by unfold ay;rw[c];simp only[Qbq];rw[b];rfl,q⟩
 |l x=>exact q.elim
def yu{F:dw}{g:fN}{Q:List D->aC->Prop}(h:E g Γ S λds a=>Fn F ds a λr S2=>match r with|.d _=>False|.l x=>Q x S2):E (cV F g) Γ S Q:=by
 obtain⟨ds,a,c,r,S2,b,q⟩:=h
 cases r with
 |d x=>exact q.elim
 |l x=>exact⟨x,S2,by unfold cV;rw[c];simp only[Qbq];rw[b];rfl,q⟩
def bV{f:bx}{Q:Bool->aC->Prop}(h:E f Γ S λd a=>match d with|.bl k=>Q k a|_=>False):E (aF f) Γ S Q:=by
 obtain⟨d,a,b,q⟩:=h
 cases d with
 |bl k=>exact⟨k,a,by unfold aF;rw[b];rfl,q⟩
 |_=>exact q.elim
def Im{f:bx}{Q:Bool->aC->Prop}(h:E f Γ S λd a=>Op (BD a d) λk=>Q k a):E (rK f) Γ S Q:=by
 obtain⟨d,a,c,k,b,q⟩:=h
 exact⟨k,a,by unfold rK;rw[c];simp only[Qbq];rw[b];rfl,q⟩
def Kf{f:jA}{Q:Bool->aC->Prop}(h:E f Γ S λk a=>Q (!k) a):E (Dz f) Γ S Q:=by
 obtain⟨k,a,b,q⟩:=h
 exact⟨_,a,by unfold Dz;rw[b];rfl,q⟩
def jU{f g:jA}{Q:Bool->aC->Prop}(h:E f Γ S λk a=>if k=true then E g Γ a Q else Q false a):E (gq f g) Γ S Q:=by
 obtain⟨k,a,b,q⟩:=h
 cases k with
 |true=>obtain⟨j,d,c,q⟩:=(q:E g Γ a Q);exact⟨j,d,by unfold gq;rw[b];exact c,q⟩
 |false=>exact⟨false,a,by unfold gq;rw[b];rfl,q⟩
def K4{f g:jA}{Q:Bool->aC->Prop}(h:E f Γ S λk a=>if k=true then Q true a else E g Γ a Q):E (Ic f g) Γ S Q:=by
 obtain⟨k,a,b,q⟩:=h
 cases k with
 |true=>exact⟨true,a,by unfold Ic;rw[b];rfl,q⟩
 |false=>obtain⟨j,d,c,q⟩:=(q:E g Γ a Q);exact⟨j,d,by unfold Ic;rw[b];exact c,q⟩
def Oj{c:jA}{f g:bx}{Q:D->aC->Prop}(h:E c Γ S λk a=>if k=true then E f Γ a Q else E g Γ a Q):E (oh c f g) Γ S Q:=by
 obtain⟨k,a,e,q⟩:=h
 cases k with
 |true=>obtain⟨j,d,b,q⟩:=(q:E f Γ a Q);exact⟨j,d,by unfold oh;rw[e];exact b,q⟩
 |false=>obtain⟨j,d,b,q⟩:=(q:E g Γ a Q);exact⟨j,d,by unfold oh;rw[e];exact b,q⟩
def ou{i:Nat}{f:bx}{Q:Out->Prop}(h:E f Γ S λd a=>Q (.nx (Γ.set i (some d)) a)):T (aX i f) Γ S Q:=by
 obtain⟨d,a,b,q⟩:=h
 exact⟨_,by unfold aX;rw[b];rfl,q⟩
def vQ{f:bx}{Q:Out->Prop}(h:E f Γ S λd a=>Q (.rt d a)):T (cp f) Γ S Q:=by
 obtain⟨d,a,b,q⟩:=h
 exact⟨_,by unfold cp;rw[b];rfl,q⟩
def MI{f:fN}{Q:Out->Prop}(h:E f Γ S λd a=>Q (.rl d a)):T (Gr f) Γ S Q:=by
 obtain⟨d,a,b,q⟩:=h
 exact⟨_,by unfold Gr;rw[b];rfl,q⟩
def fX{f:bx}{Q:Out->Prop}(h:E f Γ S λd a=>Q (.nx Γ a)):T (kn f) Γ S Q:=by
 obtain⟨d,a,b,q⟩:=h
 exact⟨_,by unfold kn;rw[b];rfl,q⟩
def bW{Q:Out->Prop}(q:Q (.nx Γ S)):T fL Γ S Q:=⟨_,rfl,q⟩
def Nu{f:bx}{g:me}{Q:Out->Prop}(h:E f Γ S λd b=>Tg g d Γ b λa S2=>Q (.nx a S2)):T (rV f g) Γ S Q:=by
 obtain⟨d,b,e,a,S2,c,q⟩:=h
 exact⟨_,by unfold rV;rw[e];simp only[Qbq];rw[c];rfl,q⟩
def bA{f g:cO}{Q:Out->Prop}(h:T f Γ S λo=>match o with|.nx a b=>T g a b Q|o=>Q o):T (aE f g) Γ S Q:=by
 obtain⟨o,c,q⟩:=h
 cases o with
 |nx a b=>obtain⟨o,d,q⟩:=(q:T g a b Q);exact⟨o,by unfold aE;rw[c];exact d,q⟩
 |_=>exact⟨_,by unfold aE;rw[c];rfl,q⟩
def dX{c:jA}{f g:cO}{Q:Out->Prop}(h:E c Γ S λk a=>if k=true then T f Γ a Q else T g Γ a Q):T (eE c f g) Γ S Q:=by
 obtain⟨k,a,d,q⟩:=h
 cases k with
 |true=>obtain⟨j,b,q⟩:=(q:T f Γ a Q);exact⟨j,by unfold eE;rw[d];exact b,q⟩
 |false=>obtain⟨j,b,q⟩:=(q:T g Γ a Q);exact⟨j,by unfold eE;rw[d];exact b,q⟩
def aS{i:Nat}{d:D}{Q:cv->aC->Prop}(q:Q (Γ.set i (some d)) S):Tg (bL i) d Γ S Q:=⟨_,_,rfl,q⟩
def Ot{f g:bx}{d:D}{Q:cv->aC->Prop}(h:E f Γ S λx a=>E g Γ a λy S2=>∃k i ds j,x=.ref k/\y=.int i/\S2[k]?=some (.lst ds)/\Gs ds.length i=some j/\Q Γ (S2.set k (.lst (ds.set j d)))):Tg (KD f g) d Γ S Q:=by
 obtain⟨x,a,c,y,S2,b,k,i,ds,j,rfl,rfl,h1,h2,q⟩:=h
 exact⟨_,_,by unfold KD;rw[c];simp only[Qbq];rw[b];simp only[Qbq,h1,h2],q⟩
def fe{i:uR}{g:me}{b:cO}{Q:Out->Prop} (h:E i Γ S λp v=>∃I:Nat->cv->aC->Prop,I 0 Γ v/\(∀n a e,I n a e->p.2 e)∧
   (∀(n:Nat) (d:D) (a:cv) (e:aC),p.1[n]?=some d->I n a e->Tg g d a e λt S2=>T b t S2 λo=>match o with|.nx c f=>I (n+1) c f|.ct c f=>I (n+1) c f|.bk c f=>Q (.nx c f)|o=>Q o)∧
   ∀a e,I p.1.length a e->Q (.nx a e)):T (ib i g b) Γ S Q:=by
 obtain⟨⟨r,W⟩,v,z,I,A,w,j,s⟩:=h
 have C:∀(k n:Nat) (a:cv) (e:aC),n+k=r.length->I n a e->∃o,forL g b W (r.drop n) a e=some o/\Q o:=by
  intro k
  induction k with
  | zero=>
    intro n a e y m
    rw[List.drop_of_length_le (by omega)]
    refine⟨.nx a e,by simp only[forL];rw[Qhq (w _ _ _ m)],s _ _ (by rw[←y];exact m)⟩
  | succ k x=>
    intro n a e y m
    have l:n<r.length:=by omega
    rw[QWq l]
    obtain⟨t,S2,u,o,B,q⟩:=j n r[n] a e (gQe l) m
    simp only[forL]
    rw[Qhq (w _ _ _ m),u]
    simp only[Qbq]
    rw[B]
    simp only[Qbq]
    cases o with
    |nx c f=>exact x (n+1) c f (by omega) q
    |ct c f=>exact x (n+1) c f (by omega) q
    |bk c f=>exact⟨_,rfl,q⟩
    |rt d f=>exact⟨_,rfl,q⟩
    |rl d f=>exact⟨_,rfl,q⟩
 obtain⟨o,u,q⟩:=C r.length 0 Γ v (by omega) A
 exact⟨o,by unfold ib;rw[z];exact u,q⟩
def lz{js:List (Option Nat)}{i:uR}{g:me}{t:jA}{f:bx}{Q:List D->aC->Prop} (h:E i Γ S λp z=>∃I:Nat->cv->aC->List D->Prop,I 0 (pe js Γ) z []/\(∀n b e a,I n b e a->p.2 e)∧
   (∀(n:Nat) (d:D) (b:cv) (e:aC) (a:List D),p.1[n]?=some d->I n b e a->Tg g d b e λj S2=>E t j S2 λk w=>if k=true then E f j w λy A=>a.length<sizeLine/\I (n+1) j A (a++ [y]) else I (n+1) j w a)∧
   ∀b e a,I p.1.length b e a->Q a e):E (bO js i g t f) Γ S Q:=by
 obtain⟨⟨u,W⟩,z,G,I,H,B,m,v⟩:=h
 have K:∀(k n:Nat) (b:cv) (e:aC) (a:List D),n+k=u.length->I n b e a->∃r l,mf g t f W (u.drop n) b e a=some (r,l)/\Q r l:=by
  intro k
  induction k with
  | zero=>
    intro n b e a F s
    rw[List.drop_of_length_le (by omega)]
    refine⟨a,e,by simp only[mf];rw[Qhq (B _ _ _ _ s)],v _ _ _ (by rw[←F];exact s)⟩
  | succ k C=>
    intro n b e a F s
    have o:n<u.length:=by omega
    rw[QWq o]
    obtain⟨j,S2,x,c,w,J,q⟩:=m n u[n] b e a (gQe o) s
    simp only[mf]
    rw[Qhq (B _ _ _ _ s),x]
    simp only[Qbq]
    rw[J]
    simp only[Qbq]
    cases c with
    | true=>
      rw[Qhq rfl] at q⊢
      obtain⟨y,A,L,hl,q⟩:=q
      rw[L]
      simp only[Qbq]
      rw[Qhq hl]
      exact C (n+1) j A _ (by omega) q
    | false=>
      rw[Quq (by decide)] at q⊢
      exact C (n+1) j w _ (by omega) q
 obtain⟨r,l,x,q⟩:=K u.length 0 _ z [] (by omega) H
 exact⟨r,l,by unfold bO;rw[G];exact x,q⟩
def Iv{f:bx}{Q:(List D×(aC->Prop))->aC->Prop}(h:E f Γ S λd a=>∃j,d=.int j/\(-(2^62)<=j/\j<2^62)/\Q (gH 0 j,λ_=>True) a):E (nP f) Γ S Q:=by
 obtain⟨d,a,b,j,rfl,hj,q⟩:=h
 exact⟨_,a,by unfold nP;rw[b];simp only[Qbq];rw[Qhq hj],q⟩
def uY{f:dz}{Q:(List D×(aC->Prop))->aC->Prop}(h:E f Γ S λp a=>Q (p.1,λb=>p.2.stays b p.1) a):E (jW f) Γ S Q:=by
 obtain⟨p,a,c,q⟩:=h
 exact⟨_,a,by unfold jW;rw[c];rfl,q⟩
def gY{m:List D->List D->Option (List D×D)}{f:bx}{g:fN}{Q:D->aC->Prop}(h:E f Γ S λx b=>∃k a,x=.ref k/\b[k]?=some (.lst a)/\E g Γ b λys S2=>∃ds,S2[k]?=some (.lst ds)/\Op (m ds ys) λp=>Q p.2 (S2.set k (.lst p.1))):E (nM m f g) Γ S Q:=by
 obtain⟨x,b,c,k,a,rfl,h1,ys,S2,e2,ds,h2,p,e3,q⟩:=h
 exact⟨_,_,by unfold nM;rw[c];simp only[Qbq,e2,h1,h2,e3],q⟩
end
def bT{n:Nat}{b:cO}{ds:List D}{S:aC}{Q:Res->aC->Prop} (h:T b (ds.map some++List.replicate (n-ds.length) none) S λo=>match o with
   |.nx _ a=>Op (settle S .non a) λp=>Q p.1 p.2|.rt d a=>Op (settle S d a) λp=>Q p.1 p.2|.rl l a=>Op (eB S l a) λp=>Q p.1 p.2|_=>False):Fn (eP n b) ds S Q:=by
 obtain⟨o,f,q⟩:=h
 cases o with
 |nx g a=>obtain⟨⟨r,e⟩,c,q⟩:=q;exact⟨r,e,by unfold eP;rw[f];exact c,q⟩
 |rt d a=>obtain⟨⟨r,e⟩,c,q⟩:=q;exact⟨r,e,by unfold eP;rw[f];exact c,q⟩
 |rl d a=>obtain⟨⟨r,e⟩,c,q⟩:=q;exact⟨r,e,by unfold eP;rw[f];exact c,q⟩
 |bk=>exact q.elim
 |ct=>exact q.elim
def fW{S a S2:aC}{d:D}{Q:Res×aC->Prop}(b:oS S a)(ht:a.take S.length=S2)(hd:∀k,d≠.ref k)(hl:bK S.length d=true)(q:Q (.d d,S2)):Op (settle S d a) Q:=by
 refine⟨_,?_,q⟩
 unfold settle
 rw[Qhq b,ht]
 cases d with
 |ref k=>exact absurd rfl (hd k)
 |_=>simp only[hl,if_true]
def m9{S a S2:aC}{ds:List D}{Q:Res×aC->Prop}(b:oS S a)(ht:a.take S.length=S2)(hl:bD S.length ds=true)(q:Q (.l ds,S2)):Op (eB S ds a) Q:=by
 refine⟨_,?_,q⟩
 unfold eB
 rw[Qhq ⟨b,hl⟩,ht]
def uv{S:aC}:oS S S:=⟨Qmq _,λk o _ h=>.inl h⟩
def vN{S:aC}{k:Nat}{o:O}(h:G4 S.length o=true):oS S (S.set k o):=by
 refine⟨by simp,λj u _ e=> ?_⟩
 rw[List.getElem?_set] at e
 split at e
 ·split at e
  ·cases e;exact .inr h
  ·cases e
 ·exact .inl e
end DL
namespace L2
open PySem PySem.Spec PyProof.Rows
end L2
namespace DL
open PySem PySem.Spec L2
end DL
namespace L2
open PySem PySem.Spec PyProof.Rows
end L2
namespace DL
open PySem PySem.Spec PyProof.Rows L2
end DL
namespace L2
open PySem PySem.Spec PyProof.Rows
end L2
namespace DL
open PySem PySem.Spec PyProof.Rows L2
end DL
namespace DL
open PySem PySem.Spec L2
mutual
def iB:D->Option PyData
 |.non=>some .none
 |.bl b=>some (.bool b)
 |.int i=>some (.int i)
 |.str x=>if PyData.strOk x=true then some (.str x) else none
 |.tup a=>(fu a).map .tuple
 |.ref _=>none
 |.fn _=>none
def fu:List D->Option (List PyData)
 | []=>some []
 |d::ds=>(iB d).bind λp=>(fu ds).map (p::·)
end
mutual
theorem lG:∀{d:D} {p:PyData},iB d=some p->p.canLay0=true
 |.non,_,e=>by cases e;rfl
 |.bl _,_,e=>by cases e;rfl
 |.int _,_,e=>by cases e;rfl
 | .str x,_,e=>by
   simp only[iB] at e
   split at e
   · rename_i c;cases e;exact c
   · cases e
 | .tup ds,_,e=>by
   simp only[iB] at e
   obtain⟨b,a,rfl⟩:=oQm.mp e
   exact jb a
 |.ref _,_,e=>by cases e
 |.fn _,_,e=>by cases e
theorem jb:∀{ds:List D} {ps:List PyData},fu ds=some ps->PyData.canLayAll0 ps=true
 | [],_,e=>by cases e;rfl
 | d::ds,_,e=>by
   simp only[fu] at e
   obtain⟨p,b,e⟩:=ar e
   obtain⟨ps,a,rfl⟩:=oQm.mp e
   simp only[PyData.canLayAll0,QCq]
   exact⟨lG b,jb a⟩
end
mutual
theorem xZ{M:Md}{ρ:List Addr}{H:Hp}:∀{d:D} {p:PyData} {v:V},Rel M ρ H d v->iB d=some p->qc (λ_=>False) H p v
 |.non,_,_,.non,e=>by cases e;exact .non
 |.bl _,_,_,.bl _,e=>by cases e;exact .bl _
 |.int _,_,_,.int _,e=>by cases e;exact .int _
 | .str _,_,_,.str _,e=>by
   simp only[iB] at e
   split at e
   · cases e;exact .str _
   · cases e
 | .tup ds,_,_,.tup h hs,e=>by
   simp only[iB] at e
   obtain⟨b,a,rfl⟩:=oQm.mp e
   exact .tup h (og hs a)
 |.ref _,_,_,_,e=>by cases e
 |.fn _,_,_,_,e=>by cases e
theorem og{M:Md}{ρ:List Addr}{H:Hp}:∀{ds:List D} {ps:List PyData} {vs:List V},a7 M ρ H ds vs->fu ds=some ps->lI (λ_=>False) H ps vs
 | [],_,_,.nil,e=>by cases e;exact .nil
 | d::ds,_,_,.cons h hs,e=>by
   simp only[fu] at e
   obtain⟨p,b,e⟩:=ar e
   obtain⟨ps,a,rfl⟩:=oQm.mp e
   exact .cons (xZ h b) (og hs a)
end
end DL
namespace L2
open PySem PySem.Spec
section
variable{X:Cx}
def Ky(a:Bool):R2:=λx y H Q=>∃p q,qc (λ_=>False) H p x/\qc (λ_=>False) H q y/\p.canLay0=true/\q.canLay0=true/\p.depth<=60/\Q (.bl (if a then !PyData.eqv p q else PyData.eqv p q)) H
def JY(l:X.A.units+64<cLine):i4 X (compareOp .Eq) (Ky false):=by
 rintro b s o H x y v u Q I g c ⟨p,q,i,f,d,e,r,h⟩
 obtain⟨n,k,_⟩:=g_ I (λa z=>z.elim) i g
 obtain⟨m,j,_⟩:=g_ I (λa z=>z.elim) f c
 exact SeqAt.eqOverData _ _ _ _ _ _ _ _ _ _ _ _ k j d e (by omega) ⟨.bl _,H,I,rfl,h⟩
def Kq(l:X.A.units+64<cLine):i4 X (compareOp .NotEq) (Ky true):=by
 rintro b s o H x y v u Q I g c ⟨p,q,i,f,d,e,r,h⟩
 obtain⟨n,k,_⟩:=g_ I (λa z=>z.elim) i g
 obtain⟨m,j,_⟩:=g_ I (λa z=>z.elim) f c
 exact SeqAt.neOverData _ _ _ _ _ _ _ _ _ _ _ _ k j d e (by omega) ⟨.bl _,H,I,rfl,h⟩
def IB(K:PySem.W.Frag)(e:Bool):R2:=λx y H Q=>∃a b g f c d,x=.ref a/\y=.ref b/\g6 K H a g/\g6 K H b f/\lI (λ_=>False) H c g/\lI (λ_=>False) H d f/\PyData.canLayAll0 c=true/\PyData.canLayAll0 d=true/\(PyData.list c).depth<=60/\Q (.bl (if e then !PyData.eqvAll c d else PyData.eqvAll c d)) H
def sy{b:List (Addr×Obj)}{j:St}{H:Hp}{s:Shared}{a:Addr}{xs:List V}{ps:List PyData}(I:Inv X b j H s)(h:g6 X.K H a xs)(d:lI (λ_=>False) H ps xs):∃as,Reads s.heap (.ref a) (.list ps) as:=by
 obtain⟨f,c,g,m⟩:=I.list h
 obtain⟨o,e,k,p,l⟩:=g.isList
 obtain⟨as,i,n⟩:=fg I (λa z=>z.elim) d c
 exact⟨_,.list e k l (by simpa using i)⟩
def Hr(r:X.A.units+64<cLine):i4 X (compareOp .NotEq) (IB X.K true):=by
 rintro c s F H x y v u Q I j d ⟨a,b,C,z,q,t,k,l,i,p,m,g,e,f,G,h⟩
 subst k l
 cases j
 cases d
 obtain⟨B,o⟩:=sy I i m
 obtain⟨w,n⟩:=sy I p g
 refine SeqAt.neOverData _ _ _ _ _ _ _ _ _ _ _ _ o n (by simpa [PyData.canLay0] using e) (by simpa [PyData.canLay0] using f) (by omega) ⟨.bl _,H,I,rfl,?_⟩
 exact h
def JM(K:PySem.W.Frag)(d:Bool):R2:=λx y H Q=>∃p a c b,y=.ref a/\(g6 K H a c\/gJ K H a c)/\qc (λ_=>False) H p x/\lI (λ_=>False) H b c/\p.canLay0=true/\PyData.canLayAll0 b=true/\p.depth<=60/\Q (.bl (if d then !b.any (PyData.eqv · p) else b.any (PyData.eqv · p))) H
def HY(s:Shared)(p:PyData)(u:Value):Bool:= @decide (∃d a,d.canLay0=true/\Reads s.heap u d a/\PyData.eqv d p=true) (Classical.propDecidable _)
def Gd{s:Shared}{p d:PyData}{u:Value}{as:List Addr}(l:d.canLay0=true)(r:Reads s.heap u d as):HY s p u=PyData.eqv d p:=by
 unfold HY
 cases h:PyData.eqv d p with
 |true=>exact @Qeq _ (Classical.propDecidable _) ⟨d,as,l,r,h⟩
 | false=>
   refine @Qdq _ (Classical.propDecidable _) ?_
   rintro⟨c,a,f,e,b⟩
   rw[SeqAt.Reads.unique d c u as a l r e] at h
   rw[h] at b
   cases b
theorem i9{s:Shared}{p:PyData}:∀{c:List Value} {ps:List PyData} {as:List Addr},ReadsAll s.heap c ps as->PyData.canLayAll0 ps=true->c.any (HY s p)=ps.any (PyData.eqv · p)/\∀u∈c,∃d as,d.canLay0=true/\Reads s.heap u d as
 |_,_,_,.nil,_=>⟨rfl,λu a=>by cases a⟩
 | _,d::ps,_,.cons r rs,l=>by
   have b:d.canLay0=true/\PyData.canLayAll0 ps=true:=by simpa [PyData.canLayAll0] using l
   obtain⟨f,e⟩:=i9 (p:=p) rs b.2
   refine⟨by rw[List.any_cons,List.any_cons,f,Gd b.1 r],λu a=> ?_⟩
   rcases Qsq.mp a with rfl|a
   · exact⟨_,_,b.1,r⟩
   · exact e u a
def xb{A:Around}{s:Shared}{p:PyData}{v:Value}{bs:List Addr}(c:A.units+63<cLine)(b:Reads s.heap v p bs)(lp:p.canLay0=true)(hd:p.depth<=60){u:Value}(h:∃d as,d.canLay0=true/\Reads s.heap u d as):SeqAt.EqAt A s u v (HY s p u):=by
 obtain⟨d,as,l,r⟩:=h
 rw[Gd l r]
 intro a w E Q q
 exact SeqAt.eqBoolOverData a w A E s _ _ _ _ _ _ Q r b l lp (by omega) q
def J1(M:X.A.units+64<cLine):i4 X (compareOp .In) (JM X.K false):=by
 rintro n s R H x y v u Q I C t ⟨p,a,P,L,F,e,G,c,m,d,q,h⟩
 subst F
 cases t
 obtain⟨N,o,_⟩:=g_ I (λa z=>z.elim) G C
 have b:X.A.in1.units+63<cLine:=by show X.A.units+1+63<cLine;omega
 rcases e with e|e
 ·obtain⟨i,r,j,B⟩:=I.list e
  obtain⟨J,k,_⟩:=fg I (λa z=>z.elim) c r
  obtain⟨f,l⟩:=i9 (p:=p) k d
  refine SeqAt.in_listAt (HY s p) j.isList (λw g=>xb b o m q (l w (by simpa using g))) ⟨.bl _,H,I,rfl,?_⟩
  rw[List.any_toArray,f]
  exact h
 ·obtain⟨i,r,j,B⟩:=I.tuple e
  obtain⟨J,k,_⟩:=fg I (λa z=>z.elim) c r
  obtain⟨f,l⟩:=i9 (p:=p) k d
  refine SeqAt.in_tupleAt (HY s p) j (λw g=>xb b o m q (l w (by simpa using g))) ⟨.bl _,H,I,rfl,?_⟩
  rw[List.any_toArray,f]
  exact h
def D2(M:X.A.units+64<cLine):i4 X (compareOp .NotIn) (JM X.K true):=by
 rintro n s R H x y v u Q I C t ⟨p,a,P,L,F,e,G,c,m,d,q,h⟩
 subst F
 cases t
 obtain⟨N,o,_⟩:=g_ I (λa z=>z.elim) G C
 have b:X.A.in1.units+63<cLine:=by show X.A.units+1+63<cLine;omega
 rcases e with e|e
 ·obtain⟨i,r,j,B⟩:=I.list e
  obtain⟨J,k,_⟩:=fg I (λa z=>z.elim) c r
  obtain⟨f,l⟩:=i9 (p:=p) k d
  refine SeqAt.notIn_listAt (HY s p) j.isList (λw g=>xb b o m q (l w (by simpa using g))) ⟨.bl _,H,I,rfl,?_⟩
  rw[List.any_toArray,f]
  exact h
 ·obtain⟨i,r,j,B⟩:=I.tuple e
  obtain⟨J,k,_⟩:=fg I (λa z=>z.elim) c r
  obtain⟨f,l⟩:=i9 (p:=p) k d
  refine SeqAt.notIn_tupleAt (HY s p) j (λw g=>xb b o m q (l w (by simpa using g))) ⟨.bl _,H,I,rfl,?_⟩
  rw[List.any_toArray,f]
  exact h
end
end L2
namespace DL
open PySem PySem.Spec L2
section
variable{X:Cx}{a b e:Expr}{pos:Pos}
def Gu(c:Bool):sL:=λ_ x y=>(iB x).bind λp=>(iB y).bind λq=>if p.depth<=60 then some (.bl (if c then !PyData.eqv p q else PyData.eqv p q)) else none
def Fm{M:Md}{f:Bool}:ki M (Ky f) (Gu f):=by
 intro m S H x y d u v Q l i k e q
 unfold Gu at e
 obtain⟨p,g,e⟩:=ar e
 obtain⟨j,h,e⟩:=ar e
 split at e
 ·rename_i c
  cases e
  exact⟨p,j,xZ i g,xZ k h,lG g,lG h,c,q _ _ bX.refl l (.bl _)⟩
 ·cases e
def Lv{f g:bx}{k:Nat}(c:dY k X.A)(d:PE X a (tD (md X) f))(h:PE X b (tD (md X) g)):PT X (.Compare a [.Eq] [b] pos) (tB (md X) (aF (aV (Gu false) f g))):=kU (JY c.units) Fm d h (eW _)
def Lc{f g:bx}{k:Nat}(c:dY k X.A)(d:PE X a (tD (md X) f))(h:PE X b (tD (md X) g)):PT X (.Compare a [.NotEq] [b] pos) (tB (md X) (aF (aV (Gu true) f g))):=kU (Kq c.units) Fm d h (eW _)
open Classical in
def z_(c:Bool)(f g:dz):bx:=λj S=>(f j S).bind λ(p,k)=>(g j k).bind λ(r,h)=>if p.2.isL=true/\r.2.isL=true/\p.2.stays h p.1 then(fu p.1).bind λd=>(fu r.1).bind λi=>if (PyData.list d).depth<=60 then some (.bl (if c then !PyData.eqvAll d i else PyData.eqvAll d i),h) else none else none
def JA{i:Bool}{f g:dz}:∀l H Q,tD (md X) (z_ i f g) l H Q->FV (IB X.K i) (tQ (md X) f) (tQ (md X) g) l H Q:=λl H Q z=>by
 obtain⟨w,u,S,d,Y,ok,e,q⟩:=z
 obtain⟨⟨⟨J,t⟩,o⟩,G,e⟩:=ar e
 obtain⟨⟨⟨N,x⟩,B⟩,I,e⟩:=ar e
 dsimp only at e
 split at e
 ·rename_i c
  obtain⟨U,n,e⟩:=ar e
  obtain⟨C,r,e⟩:=ar e
  split at e
  ·rename_i v
   obtain⟨rfl,rfl⟩:=cc e
   refine⟨w,u,S,J,t,o,ok,G,λk a Z H1 p m A y=>⟨k,u,o,N,x,B,ok.to p m,I,λL b M H2 s h R W=> ?_⟩⟩
   obtain⟨j,P,F⟩:=A.to y s h c.2.2
   exact⟨a,b,j,M,U,C,rfl,rfl,P.sqL c.1,R.sqL c.2.1,og F n,og W r,jb n,jb r,v,q _ _ _ (p.trans s) h (.bl _)⟩
  ·cases e
 ·cases e
def Jq{f g:dz}{k:Nat}(c:dY k X.A)(d:PE X a (tQ (md X) f))(h:PE X b (tQ (md X) g)):PT X (.Compare a [.NotEq] [b] pos) (tB (md X) (aF (z_ true f g))):=nK JA (iH (Hr c.units) d h (eW _))
def JJ(c:Bool)(f:bx)(g:dz):bx:=λh S=>(f h S).bind λ(x,i)=>(g h i).bind λ(p,j)=>(iB x).bind λv=>(fu p.1).bind λd=>if v.depth<=60 then some (.bl (if c then !d.any (PyData.eqv · v) else d.any (PyData.eqv · v)),j) else none
def Ie{h:Bool}{f:bx}{g:dz}:∀k H Q,tD (md X) (JJ h f g) k H Q->FV (JM X.K h) (tD (md X) f) (tQ (md X) g) k H Q:=λk H Q z=>by
 obtain⟨w,s,S,d,N,ok,e,q⟩:=z
 obtain⟨⟨x,n⟩,C,e⟩:=ar e
 obtain⟨⟨⟨G,t⟩,A⟩,F,e⟩:=ar e
 obtain⟨v,m,e⟩:=ar e
 obtain⟨B,p,e⟩:=ar e
 split at e
 ·rename_i c
  obtain⟨rfl,rfl⟩:=cc e
  refine⟨w,s,S,x,n,ok,C,λj u H1 o l y=>⟨j,s,n,G,t,A,ok.to o l,F,λI a L H2 r i J M=> ?_⟩⟩
  exact⟨v,a,L,B,rfl,J.sq,xZ (y.ext r) m,og M p,lG m,jb p,c,q _ _ _ (o.trans r) i (.bl _)⟩
 ·cases e
def Lh{f:bx}{g:dz}{k:Nat}(c:dY k X.A)(h:PE X a (tD (md X) f))(i:PE X b (tQ (md X) g))(d:behindInMarks .In b=false:=by rfl):PT X (.Compare a [.In] [b] pos) (tB (md X) (aF (JJ false f g))):=nK Ie (iH (J1 c.units) h i d)
def Fb{f:bx}{g:dz}{k:Nat}(c:dY k X.A)(h:PE X a (tD (md X) f))(i:PE X b (tQ (md X) g))(d:behindInMarks .NotIn b=false:=by rfl):PT X (.Compare a [.NotIn] [b] pos) (tB (md X) (aF (JJ true f g))):=nK Ie (iH (D2 c.units) h i d)
end
end DL
namespace L2
open PySem PySem.Spec
section
variable{X:Cx}
def IA(K:PySem.W.Frag):R2:=λx y H Q=>∃a b c,x=.ref a/\y=.ref b/\gJ K H a c/\gJ K H b []/\Q (.bl (!c.isEmpty)) H
def GI(n:X.A.units<cLine):i4 X (compareOp .NotEq) (IA X.K):=by
 intro i s G H x y v u Q I p l h
 obtain⟨a,b,k,rfl,rfl,ha,hb,q⟩:=h
 cases p
 cases l
 obtain⟨d,r,t,C⟩:=I.tuple ha
 obtain⟨c,B,g,m⟩:=I.tuple hb
 have f:=r.length
 have o:=B.length
 have z:c.toArray.size=0:=by simpa using o.symm
 refine SeqAt.RcNeAt.tuples (e:=λ_=>true) t g n (λj F w=>absurd w (by omega)) _ _ _ _ ⟨.bl _,H,I,rfl,?_⟩
 have e:(!((List.range (min d.toArray.size c.toArray.size)).all (λ_=>true)&&d.toArray.size==c.toArray.size))= !k.isEmpty:=by
  rw[z]
  cases k with
  |nil=>simp at f;simp[←f]
  |cons a b=>simp at f;simp[←f]
 rw[e]
 exact q
end
end L2
namespace DL
open PySem PySem.Spec L2
section
variable{X:Cx}{a b e:Expr}{pos:Pos}
def C9:sL:=λ_ x y=>match x,y with
 |.tup xs,.tup []=>some (.bl (!xs.isEmpty))
 |_,_=>none
def G8:ki (md X) (IA X.K) C9:=by
 intro s S H x y d u v Q r j p e q
 unfold C9 at e
 split at e
 ·cases e
  cases j with
  | tup k g=>
    cases p with
    | tup n i=>
      cases i
      refine⟨_,_,_,rfl,rfl,gJ.of k,gJ.of n,?_⟩
      have l:=g.length
      rename_i t
      have e:∀{m o:Type} (f:List m) (c:List o),f.length=c.length->(!f.isEmpty)= !c.isEmpty:=λf c h=>by
        cases f <;>cases c <;>simp at h⊢
      refine q _ _ bX.refl r ?_
      rw[e _ _ l]
      exact .bl _
 ·cases e
def JO{f g:bx}{k:Nat}(c:dY k X.A)(d:PE X a (tD (md X) f))(h:PE X b (tD (md X) g)):PT X (.Compare a [.NotEq] [b] pos) (tB (md X) (aF (aV C9 f g))):=kU (GI c.units0) G8 d h (eW _)
def J7{S:aC}{xs:List D}{Q:D->Prop}(q:Q (.bl (!xs.isEmpty))):Op (C9 S (.tup xs) (.tup [])) Q:=⟨_,rfl,q⟩
end
end DL
namespace L2
open PySem PySem.Spec PyProof.Rows
def Da{X:Cx}:Mk X "list.count" (λx vs H Q=>∃a xs y,x=.ref a/\vs= [y]/\g6 X.K H a xs/\fG y=true/\xs.all fG=true/\Q (.int ((xs.countP λz=>jz z y:Nat):Int)) H):=by
 intro g s L H x vs v M Q I o m h
 obtain⟨a,xs,y,rfl,rfl,hq,fy,fs,q⟩:=h
 cases o
 obtain⟨u,rfl,ru⟩:=m.one
 obtain⟨b,r,B,G⟩:=I.list hq
 obtain⟨⟨p,J,l,k⟩,n,e,j,c,i⟩:=B
 simp only at j c i
 subst j c i
 have d:∀{xs:List V} {b:List Value},bF xs b->xs.all fG=true->b.countP (yA y)=xs.countP λz=>jz z y:=by
  intro xs b r
  induction r with
  |nil=>intro _;rfl
  | cons h t C=>
    intro f
    simp only[List.all_cons,QCq] at f
    rw[List.countP_cons,List.countP_cons,C f.2,tw h f.1]
 refine call_meets PySem.F.slot_list_count ⟨_,e,rfl⟩ PySem.F.entry_list_count (PySem.F.args_list_count_2 _ _)
  (SeqAt.list_countAt a b.toArray n none k u (yA y))
  ⟨e,λw A=>ix ru fy r fs w (by simpa using A),⟨.int _,H,I.tok _,⟨_,rfl⟩,?_⟩⟩
 rw[d r fs]
 exact q
end L2
namespace DL
open PySem PySem.Spec L2
section
variable{X:Cx}{e:Expr}
open Classical in
def HG(f:dz)(g:bx):bx:=λb S=>(f b S).bind λ(p,c)=>if p.2.isL=true then(g b c).bind λ(y,a)=>if p.2.stays a p.1 then(uM y).bind λv=>(gB p.1).bind λd=>some (.int ((d.countP λz=>jz z v:Nat):Int),a) else none else none
def M6{f:dz}{g:bx}{o:Expr}{c b:Pos}(ho:PE X o (tQ (md X) f))(L:PE X e (tD (md X) g))(h:attributeBase o "count" X.env (eval o X.env)=eval o X.env:=by rfl) (k:((backTo b (starEach [e] X.env)).all (λx=> !x.1)&&(backToKw b (keywordEach [] X.env)).all (λx=>x.1.isSome)
   &&decide ([e].length+([]:List Keyword).length+(if ([]:List Keyword).isEmpty then 0 else 1)<30))=true:=by rfl)
  (i:(c.endLine==b.line)=true:=by rfl) (C:starEach [e] X.env= [(false,eval e X.env)]:=by rfl):PE X (.Call (.Attribute o "count" c) [e] [] b) (tD (md X) (HG f g)):=
 km (vX PySem.F.plainAttrs_list PySem.F.slot_list_count PySem.F.type_list_count Da ho (az L aW C) h k i C) λσ H Q J=>by
  obtain⟨G,B,S,d,S',ok,e,q⟩:=J
  obtain⟨⟨⟨R,t⟩,w⟩,N,e⟩:=ar e
  dsimp only at e
  split at e
  ·rename_i s
   obtain⟨⟨y,K⟩,P,e⟩:=ar e
   dsimp only at e
   split at e
   ·rename_i cS
    obtain⟨v,u,e⟩:=ar e
    obtain⟨vs,Z,e⟩:=ar e
    obtain⟨rfl,rfl⟩:=cc e
    refine⟨G,B,S,R,t,w,ok,N,λm a us H1 z n r I=>⟨.inl ⟨rfl,us,r.sqL s⟩,m,B,w,[y],K,ok.to z n,by simp only[aq,au,P,Qbq],λU ws H2 A j p=> ?_⟩⟩
    obtain⟨l,W,M⟩:=r.to I A j cS
    cases p with
    | cons p Y=>
      cases Y
      cases lJ p u
      obtain⟨rfl,f1⟩:=i8 M Z
      exact⟨a,l,_,rfl,rfl,W.sqL s,oT u,f1,q _ _ _ (z.trans A) j (.int _)⟩
   ·cases e
  ·cases e
def Kj{a:cv}{S:aC}{f:dz}{g:bx}{Q:D->aC->Prop}(h:E f a S λp b=>p.2.isL=true/\E g a b λy S2=>p.2.stays S2 p.1/\∃v vs,uM y=some v/\gB p.1=some vs/\Q (.int ((vs.countP λz=>jz z v:Nat):Int)) S2):E (HG f g) a S Q:=by
 obtain⟨p,b,i,k,y,S2,j,c,v,vs,d,l,q⟩:=h
 refine⟨_,S2,?_,q⟩
 unfold HG
 rw[i]
 simp only[Qbq]
 rw[Qhq k,j]
 simp only[Qbq]
 rw[Qhq c,d,l]
 rfl
end
def BL(S:aC):D->Option Nat
 |.str z=>if z.length<=sizeLine then some z.length else none
 |d=>(pZ S d).map (·.1.length)
def Eu(f:bx):bx:=λb S=>(f b S).bind λ(d,a)=>(BL a d).bind λn=>some (.int n,a)
section
variable{X:Cx}{a:Expr}{pos:Pos}
def MJ{f:bx}{p:Pos}(l:Gl X "len")(u:X.mg "len"=none)(w:PE X a (tD (md X) f))(k:starEach [a] X.env= [(false,eval a X.env)]:=by rfl):
  PE X (.Call (.Name "len" p) [a] [] pos) (tD (md X) (Eu f)):=
 km (ju (xv.or oD) l u PySem.boot_len (da w fJ k) (he:=k)) λJ H Q o=>by
  obtain⟨m,C,S,d,G,ok,e,q⟩:=o
  obtain⟨⟨b,j⟩,y,e⟩:=ar e
  obtain⟨n,g,e⟩:=ar e
  obtain⟨rfl,rfl⟩:=cc e
  refine⟨m,C,S,b,j,ok,y,λB v F x h r=> ?_⟩
  by_cases c:∃z,b=.str z
  ·obtain⟨z,rfl⟩:=c
   cases r
   simp only[BL] at g
   split at g <;>cases g
   exact .inl ⟨z,rfl,by assumption,q _ _ _ x h (.int _)⟩
  ·have A:(pZ j b).map (·.1.length)=some n:=by
    cases b with
    |str z=>exact absurd ⟨z,rfl⟩ c
    |_=>exact g
   obtain⟨⟨I,t⟩,s,rfl⟩:=oQm.mp A
   obtain⟨a,i,rfl,h2,h3⟩:=B0 h r s
   refine .inr ⟨a,i,rfl,h2.sq,?_⟩
   have:=q _ (.int i.length) _ x h (by rw[←h3.length];exact .int _)
   exact this
end
def IJ{b:cv}{S:aC}{f:bx}{Q:D->aC->Prop}(h:E f b S λd a=>Op (BL a d) λn=>Q (.int n) a):E (Eu f) b S Q:=by
 obtain⟨d,a,e,n,c,q⟩:=h
 exact⟨_,a,by unfold Eu;rw[e];simp only[Qbq];rw[c];rfl,q⟩
end DL
namespace L2
open PySem PySem.Spec PyProof.Rows
section
variable{X:Cx}{pos:Pos}
def Iy(i j l:Nat)(c:TA):TS:=λD a H=>c a H λb H1=>∃v w z,b= [v,w,z]/\D.nx (((a.set i (some v)).set j (some w)).set l (some z)) H1
def Ho{i j l:Nat}{x y z:Str}{a b c:Expr}{R:TA}{u L C G:Pos}{kt k2 pt2}(hc:X.calm=true)(r:X.N.Nodup)(hi:X.N[i]?=some x)(hj:X.N[j]?=some y)(hl:X.N[l]?=some z)(M:i≠j)(K:i≠l)(J:j≠l)
  (S:X.env.scope.names.lookup x=some .local) (P:X.env.scope.names.lookup y=some .local) (hz:X.env.scope.names.lookup z=some .local) (ha:PA X [a,b,c] R)
  (hw:swappedStores [.Tuple [.Name x u,.Name y L,.Name z C] kt G] (.Tuple [a,b,c] k2 pt2) X.env=pure (some [x,y,z]))
  (hs:swapsWithSole [.Tuple [.Name x u,.Name y L,.Name z C] kt G] (.Tuple [a,b,c] k2 pt2) pos.line X.env=pure false:=by rfl):
  PS X (.Assign [.Tuple [.Name x u,.Name y L,.Name z C] kt G] (.Tuple [a,b,c] k2 pt2) pos) (Iy i j l R):=by
 intro d s n H D I h
 rw[exec_Assign_arm]
 refine Qaq (wpAny_standAt ?_)
 rw[hs]
 refine Qaq (Qgq ?_)
 rw[Quq (by decide)]
 refine Qaq (Tuple_ (c9 (ha _ d s n H _ I h) λus f qr=> ?_))
 obtain⟨vs,H1,I1,W,B⟩:=qr
 obtain⟨v,w,t,e1,B⟩:=B
 subst e1
 obtain⟨g,m,k,rfl,rv,rw',rt⟩:∃g m k,us= [g,m,k]/\RelV v g/\RelV w m/\RelV t k:=by
  cases W with
  | cons p q=>
    cases q with
    | cons U Z=>
      cases Z with
      | cons Y q2=>
        cases q2
        exact⟨_,_,_,rfl,p,U,Y⟩
 refine QhQ ?_ (by show 3<=_;decide)
 have I2:Inv X d n H1 {f with heap:=f.heap.push {cls:=.type "tuple",data:=.seq [g,m,k].toArray}}:=I1.kept (t':=f.toks) λb o e=>Qcq _ e
 rw[hw]
 refine Qaq (Qgq ?_)
 show wpAny (model X.prog X.w) X.A (do rule "assign.swapped-stores";let items←unpackItems (.ref f.heap.objs.size) 3 none;assignInOrder [λv=>bindName X.env z v,λv=>bindName X.env y v,λv=>bindName X.env x v] items.reverse;pure Flow.next) _ _ _
 refine Qaq (wpAny_rule (Qaq (unpackItems_tuple (items:= #[g,m,k]) (I.ok.hd hc) (IsTup.new f.heap _) λh' F=> ?_)))
 have I3:=I2.kept (h':=h') (t':=f.toks) λb o e=>F b o (Qwq (Qiq e)) e
 show wpAny _ _ (assignInOrder [λv=>bindName X.env z v,λv=>bindName X.env y v,λv=>bindName X.env x v] [k,m,g] >>= λ_=>pure Flow.next) _ _ _
 refine Qaq (assignInOrder_cons (wpAny_bindName (iz I3 r hl (.inl hz) rt (λs2 I4=> ?_) (.inr hz))))
 refine assignInOrder_cons (wpAny_bindName (iz I4 r hj (.inl P) rw' (λs3 I5=> ?_) (.inr P)))
 refine assignInOrder_cons (wpAny_bindName (iz I5 r hi (.inl S) rv (λs4 Q=>assignInOrder_nil (Qgq ?_)) (.inr S)))
 have e:((n.set l (some t)).set j (some w)).set i (some v)=((n.set i (some v)).set j (some w)).set l (some t):=by
  rw[List.set_comm _ _ (Ne.symm M),List.set_comm _ _ (Ne.symm K),List.set_comm _ _ (Ne.symm J)]
 rw[e] at Q
 exact⟨_,H1,Q,B⟩
end
end L2
namespace DL
open PySem PySem.Spec L2
section
variable{X:Cx}{st:Stmt}
def Cp(i j l:Nat)(f:fN):cO:=λa S=>(f a S).bind λ(c,b)=>match c with
 | [v,w,z]=>some (.nx (((a.set i (some v)).set j (some w)).set l (some z)) b)
 |_=>none
def IM{i j l:Nat}{f:fN}(h:PS X st (Iy i j l (yC (md X) f))):PS X st (tS (md X) (Cp i j l f)):=Dm h λD v H c=>by
 obtain⟨b,p,S,o,ok,e,q⟩:=c
 obtain⟨⟨u,g⟩,d,e⟩:=ar e
 dsimp only at e
 split at e
 ·cases e
  refine⟨b,p,S,_,g,ok,d,λk t s x st r=> ?_⟩
  cases r with
  | cons r a=>
    cases a with
    | cons m a=>
      cases a with
      | cons n a=>
        cases a
        exact⟨_,_,_,rfl,q _ _ _ x ⟨(((ok.en.ext x).set r).set m).set n,st⟩⟩
 ·cases e
def IS{e:cv}{S:aC}{i j l:Nat}{f:fN}{Q:Out->Prop}(h:∃ds d,f e S=some (ds,d)/\∃a b c,ds= [a,b,c]/\Q (.nx (((e.set i (some a)).set j (some b)).set l (some c)) d)):∃o,Cp i j l f e S=some o/\Q o:=by
 obtain⟨ds,d,g,a,b,c,rfl,q⟩:=h
 exact⟨_,by unfold Cp;rw[g];rfl,q⟩
end
end DL
namespace W28
open PySem PySem.Spec L2 DL
abbrev cA:=aV kf
abbrev cD(v:Nat)(k:Int):=aV kf (av v) (cF (.int k))
abbrev gh(v:Nat)(k:Int):=aq (aV kf (av v) (cF (.int k)))
abbrev fc(x:Str):=aq (cF (.str x))
abbrev bN(k:Int):=cF (.int k)
abbrev aD(k:Nat):=aq (av k)
abbrev c7(k:Int):=aq (cF (.int k))
def nu:cO:=
 (aE (aX 2 (bN 0))
 (aE (eE (aF (aV DF (av 1) (gD (aQ (av 0))))) (aX 2 (cA (av 0) (av 1))) fL)
 (Gr (bg (aq (aV oO (av 2) (Au intOfD (aq (aV Nj (av 2) (aV E6 (bN 10) (bN 18))) au))) (aq (aV pw (aV bQ (aV bQ (aV pw (av 2) (bN 2305843009213693951)) (aV oO (bN 7919) (av 1))) (bN 3)) (bN 2305843009213693951)) (c7 0 au)))))))
def jP:dw:=eP 3 nu
def mN:cO:=
 (aE (eE (aF (aV Il (cD 0 0) (bN 0))) (aE (aX 2 (aV pw (cD 0 0) (av 1)))
 (aE (rV (aV wa (cD 0 0) (av 1)) (KD (av 0) (bN 0)))
 (cp (av 2)))) fL)
 (aE (rV (aV bQ (cD 0 2) (bN 1)) (KD (av 0) (bN 2)))
 (aE (aX 3 (aV pw (aV oO (aV bQ (aV bQ (cD 0 1) (aV oO (aV oO (bN 65537) (cD 0 2)) (cD 0 2))) (bN 11)) (bN 48271)) (bN 2305843009213693921)))
 (aE (aX 3 (aV pw (aV oO (av 3) (aV bQ (aV pw (av 3) (bN 1000003)) (aV oO (bN 99991) (cD 0 2)))) (bN 2305843009213693907)))
 (cp (aV pw (aV bQ (aV wa (av 3) (bN 97)) (aV wa (av 3) (bN 1000033))) (av 1)))))))
def aB:dw:=eP 4 mN
def qJ:cO:=
 (aE (aX 2 (cF (.str "abcdefghijklmnopqrstuvwxyz")))
 (aE (yO 3 4 (aq (ay aB (aD 0 (c7 26 au))) (aq (cA (bC (bg (c7 1 (c7 3 (c7 5 (c7 7 (c7 9 (c7 11 au)))))))) (ay aB (aD 0 (c7 6 au)))) au)))
 (aE (aX 5 (bC (bg au)))
 (aE (ib (nP (av 1)) (bL 6) (kn (nM eQ (av 5) (aq (aV bQ (cA (av 2) (aV pw (aV bQ (av 3) (aV oO (av 4) (av 6))) (bN 26))) (cA (bC (bg (fc "" (fc "zq" (fc "x" (fc "qqzzx" au)))))) (aV pw (aV bQ (av 3) (aV oO (av 6) (av 6))) (bN 4)))) au))))
 (Gr (Ce (aQ (av 5))))))))
def cf:dw:=eP 7 qJ
def jQ:cO:=
 (cp (cA (av 1) (ay aB (aD 0 (aq (gD (aQ (av 1))) au)))))
def bo:dw:=eP 2 jQ
def qp(self:dw):cO:=
 (aE (aX 4 (ay aB (aD 0 (c7 10 au))))
 (aE (eE (Ic (aF (aV (eI false) (av 3) (bN 0))) (Ic (aF (aV DF (av 4) (bN 4))) (aF (eqQ false (aQ (av 1)) (gP (bg au)))))) (aE (eE (gq (aF (cJ (aQ (av 1)))) (aF (aV Il (ay aB (aD 0 (c7 3 au))) (bN 0)))) (cp (ay bo (aD 0 (aD 1 au)))) fL)
 (cp (ay aB (aD 0 (aq (cA (bC (bg (c7 3 (c7 10 au)))) (Au intOfD (aq (aV (eI false) (ay aB (aD 0 (c7 4 au))) (bN 0)) au))) au))))) fL)
 (aE (eE (gq (aF (aV (eI false) (av 4) (bN 4))) (aF (cJ (aQ (av 2))))) (cp (aP (fc "waits" (aq (ay bo (aD 0 (aD 2 au))) au)))) fL)
 (aE (eE (aF (aV (eI false) (av 4) (bN 5))) (cp (aP (fc "not" (aq (ay self (aD 0 (aD 1 (aD 2 (aq (aV mU (av 3) (bN 1)) au))))) au)))) fL)
 (aE (aX 5 (cA (bC (bg (fc "plus" (fc "minus" (fc "less" (fc "same" (fc "both" au))))))) (ay aB (aD 0 (c7 5 au)))))
 (cp (aP (aD 5 (aq (ay self (aD 0 (aD 1 (aD 2 (aq (aV mU (av 3) (bN 1)) au))))) (aq (ay self (aD 0 (aD 1 (aD 2 (aq (aV mU (av 3) (bN 1)) au))))) au))))))))))
def bh:Nat->dw
 |0=>λ_ _=>none
 |n+1=>eP 6 (qp (bh n))
def nk:cO:=
 (aE (aX 4 (ay bo (aD 0 (aD 2 au))))
 (aE (aX 5 (cA (bC (bg (c7 0 (fc "given" (aq (ay (bh 4) (aD 0 (aD 1 (aD 2 (c7 1 au))))) au))))) (ay aB (aD 0 (c7 3 au)))))
 (aE (aX 6 (ay aB (aD 0 (c7 3 au))))
 (aE (eE (aF (aV (eI false) (av 6) (bN 0))) (Gr (bg (aq (aP (fc "wait" (aD 4 (aD 5 au)))) au))) fL)
 (aE (aX 7 (aP (fc "not" (aq (ay (bh 4) (aD 0 (aD 1 (aq (bC (bg au)) (c7 2 au))))) au))))
 (aE (aX 8 (bC (bg (aq (aP (fc "unless" (aD 7 (aq (aV bQ (av 3) (bN 3)) au)))) (aq (aP (fc "wait" (aD 4 (aD 5 au)))) (aq (aP (fc "go" (aq (cA (bC (bg (aD 3 (aq (aV bQ (av 3) (bN 3)) au)))) (Au intOfD (aq (aV (eI false) (av 6) (bN 1)) au))) au))) au))))))
 (cp (av 8))))))))
def jG:dw:=eP 9 nk
def m3:cO:=
 (aE (rV (av 1) (iV (nG 3 (aI (bL 4) (aI (bL 5) (aI (bL 6) dr))))))
 (aE (aX 7 (bC (Ak (aQ (av 5)) (gP (bg (fc "given" au))))))
 (aE (aX 8 (bC (bg au)))
 (aE (ib (nP (aV bQ (bN 1) (ay aB (aD 0 (aD 3 au))))) (bL 9) (aE (aX 10 (ay aB (aD 0 (c7 10 au))))
 (eE (gq (aF (aV DF (av 10) (bN 3))) (aF (cJ (aQ (av 6))))) (kn (zr (av 8) (gP (cV jG (aD 0 (aD 7 (aD 6 (aq (gD (aQ (av 8))) au)))))))) (eE (gq (aF (aV DF (av 10) (bN 5))) (aF (cJ (aQ (av 6))))) (aE (aX 11 (cA (bC (bg (fc "call" (fc "all" au)))) (Au intOfD (aq (C8 (aV (eI false) (av 4) (cF (.str "when free"))) (aV (eI false) (ay aB (aD 0 (c7 3 au))) (bN 0))) au))))
 (kn (nM eQ (av 8) (aq (aP (aD 11 (aq (ay bo (aD 0 (aD 6 au))) au))) au)))) (eE (gq (aF (aV (eI false) (av 10) (bN 5))) (aF (cJ (aQ (av 2))))) (aE (rV (ay bo (aD 0 (aD 2 au))) (iV (nG 2 (aI (bL 12) (aI (bL 13) dr)))))
 (aE (aX 14 (ay bo (aD 0 (aq (bC (Ak (gP (bg (aq (cF .non) au))) (aQ (av 5)))) au))))
 (kn (nM eQ (av 8) (aq (aP (fc "do" (aD 14 (aD 12 (aq (ay bo (aD 0 (aD 13 au))) (aq (ay (bh 4) (aD 0 (aD 7 (aq (bC (bg au)) (c7 1 au))))) au)))))) au))))) (eE (aF (aV (eI false) (av 10) (bN 6))) (kn (nM eQ (av 8) (aq (aP (fc "tell" (aq (ay (bh 4) (aD 0 (aD 7 (aD 6 (c7 1 au))))) au))) au))) (eE (aF (aV (eI false) (av 10) (bN 7))) (aE (kn (nM eQ (av 8) (aq (aP (fc "unless" (aq (ay (bh 4) (aD 0 (aD 7 (aD 6 (c7 2 au))))) (aq (aV bQ (gD (aQ (av 8))) (bN 2)) au)))) au)))
 (kn (nM eQ (av 8) (aq (aP (fc "tell" (aq (ay aB (aD 0 (c7 10 au))) au))) au)))) (eE (aF (cJ (aQ (av 5)))) (kn (nM eQ (av 8) (aq (aP (fc "put" (aq (ay bo (aD 0 (aD 5 au))) (aq (ay (bh 4) (aD 0 (aD 7 (aD 6 (c7 2 au))))) au)))) au))) (kn (nM eQ (av 8) (aq (aP (fc "tell" (aq (ay (bh 4) (aD 0 (aD 7 (aq (bC (bg au)) (c7 1 au))))) au))) au)))))))))))
 (cp (tupQ (f_ (aQ (av 8)))))))))
def jJ:dw:=eP 15 m3
def m4:cO:=
 (aE (aX 3 (cA (bC (bg (fc "at once" (fc "when free" au)))) (ay aB (aD 0 (c7 2 au)))))
 (aE (aX 4 (bC (cV cf (aD 0 (aq (cA (bC (bg (c7 1 (c7 1 (c7 2 (c7 0 au)))))) (ay aB (aD 0 (c7 4 au)))) au)))))
 (aE (aX 5 (bC (cV cf (aD 0 (aq (cA (bC (bg (c7 1 (c7 1 (c7 2 (c7 0 au)))))) (ay aB (aD 0 (c7 4 au)))) au)))))
 (aE (aX 6 (bC (bg au)))
 (aE (ib (jW (gP (cV cf (aD 0 (aq (cA (bC (bg (c7 1 (c7 2 (c7 2 (c7 3 au)))))) (ay aB (aD 0 (c7 4 au)))) au))))) (bL 7) (aE (aX 8 (bC (AO (gP (bg (aq (aP (aD 1 (aq (bC (bO [none] (jW (aQ (av 6))) (bL 0) cu (cD 0 0))) au))) au))) (Au intOfD (aq (cJ (aQ (av 6))) au)))))
 (kn (nM eQ (av 6) (aq (aP (aD 7 (aq (ay jJ (aD 0 (aq (aP (aD 3 (aD 4 (aD 5 au)))) (aq (bC (Ak (aQ (av 2)) (aQ (av 8)))) (c7 3 au))))) au))) au)))))
 (cp (aP (aD 1 (aD 3 (aq (tupQ (gP (bO [none,some 0] (jW (aQ (av 4))) (bL 0) cu (aP (aD 0 (aq (ay aB (aD 1 (c7 3 au))) au)))))) (aq (tupQ (gP (bO [none,some 0] (jW (aQ (av 5))) (bL 0) cu (aP (aD 0 (aq (cA (bC (bg (fc "row" (fc "turns" au)))) (ay aB (aD 1 (c7 2 au)))) au)))))) (aq (tupQ (f_ (aQ (av 6)))) au))))))))))))
def jR:dw:=eP 9 m4
def kS:cO:=
 (aE (aX 2 (bC (bg au)))
 (aE (ib (jW (gP (cV cf (aD 0 (aq (aV bQ (bN 1) (ay aB (aD 0 (aD 1 au)))) au))))) (bL 3) (aE (aX 4 (bC (bO [none] (jW (aQ (av 2))) (bL 0) cu (aP (gh 0 0 (aq (bC (bO [none] (jW (aQ (cD 0 4))) (bL 0) cu (cD 0 0))) au))))))
 (kn (nM eQ (av 2) (aq (ay jR (aD 0 (aD 3 (aD 4 au)))) au)))))
 (cp (tupQ (gP (yx (aQ (av 2))))))))
def iO:dw:=eP 5 kS
def mz:cO:=
 (aE (aX 5 (bC (bg au)))
 (aE (ib (nP (aV bQ (bN 1) (ay aB (aD 0 (aD 4 au))))) (bL 6) (aE (aX 7 (ay aB (aD 0 (c7 12 au))))
 (eE (gq (aF (aV DF (av 7) (bN 6))) (aF (aV C9 (av 1) (aP au)))) (aE (aX 8 (ay bo (aD 0 (aD 1 au))))
 (aE (aX 9 (bC (Ak (gP (bg (aq (cF .non) au))) (aQ (av 2)))))
 (aE (aX 10 (cA (ay bo (aD 0 (gh 8 4 au))) (bN 0)))
 (kn (nM eQ (av 5) (aq (aP (fc "do" (aq (ay bo (aD 0 (aD 9 au))) (gh 8 0 (aD 10 (aq (ay (bh 4) (aD 0 (aD 2 (aq (bC (bg au)) (c7 1 au))))) au)))))) au)))))) (eE (gq (aF (aV DF (av 7) (bN 8))) (aF (cJ (aQ (av 3))))) (kn (nM eQ (av 5) (aq (aP (aq (cA (bC (bg (fc "take" (fc "give" au)))) (ay aB (aD 0 (c7 2 au)))) (aq (ay bo (aD 0 (aD 3 au))) au))) au))) (eE (gq (aF (aV (eI false) (av 7) (bN 8))) (aF (cJ (aQ (av 2))))) (kn (nM eQ (av 5) (aq (aP (fc "put" (aq (ay bo (aD 0 (aD 2 au))) (aq (ay (bh 4) (aD 0 (aD 2 (aq (bC (bg au)) (c7 2 au))))) au)))) au))) (aE (eE (aF (aV (eI false) (av 7) (bN 9))) (kn (nM eQ (av 5) (aq (aP (fc "unless" (aq (ay (bh 4) (aD 0 (aD 2 (aq (bC (bg au)) (c7 2 au))))) (aq (aV bQ (gD (aQ (av 5))) (bN 2)) au)))) au))) fL)
 (aE (eE (aF (aV (eI false) (av 7) (bN 10))) (kn (nM eQ (av 5) (aq (aP (fc "go" (aq (aV bQ (gD (aQ (av 5))) (bN 2)) au))) au))) fL)
 (kn (nM eQ (av 5) (aq (aP (fc "say" (aq (ay (bh 4) (aD 0 (aD 2 (aq (bC (bg au)) (c7 1 au))))) au))) au))))))))))
 (aE (eE (gq (aF (cJ (aQ (av 2)))) (aF (aV (eI false) (ay aB (aD 0 (c7 4 au))) (bN 0)))) (aE (yO 11 12 (aq (ay bo (aD 0 (aD 2 au))) (aq (gD (aQ (av 5))) au)))
 (aE (kn (nM eQ (av 5) (aq (aP (fc "put" (aD 11 (aq (aP (fc "plus" (aD 11 (c7 1 au)))) au)))) au)))
 (kn (zr (av 5) (gP (bg (aq (aP (fc "unless" (aq (aP (fc "less" (aD 11 (c7 3 au)))) (aq (aV bQ (av 12) (bN 3)) au)))) (aq (aP (fc "go" (c7 0 au))) au)))))))) fL)
 (cp (tupQ (f_ (aQ (av 5))))))))
def gc:dw:=eP 13 mz
def lA:cO:=
 (aE (aX 3 (ay iO (aD 0 (aD 1 au))))
 (aE (aX 4 (bC (bO [none] (jW (gP (cV cf (aD 0 (aq (cA (bC (bg (c7 0 (c7 0 (c7 1 (c7 2 au)))))) (ay aB (aD 0 (c7 4 au)))) au))))) (bL 0) (aF (aV DF (Eu (av 0)) (bN 5))) (aV bQ (cF (.str "pass")) (av 0)))))
 (aE (aX 5 (bC (bO [none] (jW (gP (cV cf (aD 0 (aq (cA (bC (bg (c7 0 (c7 0 (c7 0 (c7 1 au)))))) (ay aB (aD 0 (c7 4 au)))) au))))) (bL 0) cu (aV bQ (cF (.str "o")) (av 0)))))
 (aE (aX 6 (bC (bg au)))
 (aE (ib (nP (av 2)) (bL 7) (aE (aX 8 (bC (bO [none] (jW (gP (cV cf (aD 0 (aq (cA (bC (bg (c7 0 (c7 1 (c7 1 (c7 2 au)))))) (ay aB (aD 0 (c7 4 au)))) au))))) (bL 0) cu (aV bQ (cF (.str "h")) (av 0)))))
 (aE (aX 9 (ay gc (aD 0 (aD 3 (aq (bC (Ak (aQ (av 8)) (aQ (av 5)))) (aD 4 (c7 3 au)))))))
 (kn (nM eQ (av 6) (aq (aP (aq (tupQ (gP (bO [none,some 0] (jW (aQ (av 8))) (bL 0) cu (aP (aD 0 (aq (ay aB (aD 1 (c7 3 au))) au)))))) (aD 9 au))) au))))))
 (cp (aP (aD 3 (aq (tupQ (gP (bO [none,some 0] (jW (aQ (av 4))) (bL 0) cu (aP (aD 0 (aq (ay aB (aD 1 (c7 3 au))) au)))))) (aq (tupQ (gP (bO [none,some 0] (jW (aQ (av 5))) (bL 0) cu (aP (aD 0 (aq (ay aB (aD 1 (c7 3 au))) au)))))) (aq (tupQ (f_ (aQ (av 6)))) au)))))))))))
def iS:dw:=eP 10 lA
def ni:cO:=
 (cp (tupQ (gP (bO [none,none] (jW (aQ (av 0))) (iV (nG 2 (aI (bL 0) (aI (bL 1) dr)))) cu (av 1)))))
def fY:dw:=eP 1 ni
def ko:cO:=
 (aE (rV (av 0) (iV (nG 5 (aI (bL 1) (aI (bL 2) (aI (bL 3) (aI (bL 4) (aI (bL 5) dr))))))))
 (cp (aP (aq (ay fY (aD 3 au)) (aq (cF (.int (-1))) (aq (aP au) (aq (aP au) (aq (tupQ (gP (bO [none] (jW (aQ (av 4))) (bL 0) cu (aP au)))) au))))))))
def iR:dw:=eP 6 ko
def Bz:cO:=
 (aE (rV (av 0) (iV (nG 4 (aI (bL 1) (aI (bL 2) (aI (bL 3) (aI (bL 4) dr)))))))
 (aE (aX 5 (aP (aq (cF (.int (-1))) (aq (cF (.int (-1))) (c7 0 (c7 0 (c7 0 au)))))))
 (cp (aP (aq (tupQ (gP (bO [none] (jW (aQ (av 1))) (bL 0) cu (ay iR (aD 0 au))))) (aq (tupQ (gP (bO [none,none] (jW (aQ (av 2))) (iV (nG 2 (aI (bL 0) (aI (bL 1) dr)))) cu (aP (aD 1 (aq (aP au) au)))))) (aq (ay fY (aD 3 au)) (aq (tupQ (gP (bO [none,none,some 5] (jW (aQ (av 4))) (iV (nG 2 (aI (bL 0) (aI (bL 1) dr)))) cu (aP (aq (ay fY (aD 0 au)) (aq (aP (aD 2 au)) au)))))) au))))))))
def uw:dw:=eP 6 Bz
def qh:cO:=
 (Gr (bO [none,none] (jW (aQ (av 0))) (iV (nG 2 (aI (bL 0) (aI (bL 1) dr)))) cu (av 1)))
def i7:dw:=eP 1 qh
def h_:cO:=
 (aE (aX 1 (bC (bg au)))
 (aE (ib (jW (aQ (cD 0 1))) (iV (nG 2 (aI (bL 2) (aI (bL 3) dr)))) (kn (vV (av 1) (aQ (av 3)))))
 (aE (ib (jW (aQ (cD 0 0))) (iV (nG 5 (aI (bL 4) (aI (bL 5) (aI (bL 3) (aI (bL 6) (aI (bL 7) dr))))))) (aE (kn (vV (av 1) (aQ (aV bQ (av 3) (av 6)))))
 (ib (jW (aQ (av 7))) (bL 8) (kn (zr (av 1) (gP (cV i7 (aD 8 au))))))))
 (cp (av 1)))))
def eg:dw:=eP 9 h_
def kK:cO:=
 (cp (cA (cA (cA (cD 0 3) (av 1)) (bN 1)) (rL (bN 1))))
def cz:dw:=eP 2 kK
def qF:cO:=
 (aE (yO 3 4 (gh 2 0 (gh 2 1 au)))
 (aE (eE (aF (aV (eI false) (av 3) (cF (.int (-1))))) (cp (cA (cA (cD 0 3) (av 1)) (bN 1))) fL)
 (cp (cA (cA (cA (cA (cD 0 0) (av 3)) (bN 4)) (av 4)) (bN 1)))))
def ee:dw:=eP 5 qF
def hX:cO:=
 (aE (aX 3 (ay cz (aD 1 (aD 2 au))))
 (cp (C8 (aV (eI false) (cD 3 0) (cF (.int (-1)))) (aV (eI false) (cD 3 2) (gD (aQ (ay ee (aD 0 (aD 2 (aD 3 au))))))))))
def fI:dw:=eP 4 hX
def pO:cO:=
 (aE (aX 2 (bC (cV eg (aD 1 au))))
 (Gr (bO [none,some 0,some 1,some 2] (nP (gD (aQ (cD 1 3)))) (bL 0) (gq (aF (Ds true (av 0) (aQ (av 3)))) (Dz (rK (ay fI (aD 1 (aD 2 (aD 0 au))))))) (av 0))))
def fV:dw:=eP 3 pO
def pE:cO:=
 (Gr (bO [none] (jW (aQ (av 0))) (bL 0) cu (cD 0 0)))
def dR:dw:=eP 1 pE
def pT:cO:=
 (cp (Ks (gP (cV dR (aD 0 au))) (av 1)))
def c8:dw:=eP 2 pT
def nJ:cO:=
 (cp (aV bQ (aV bQ (uq (av 0) uI (sF (av 1))) (aP (aD 2 au))) (uq (av 0) (sF (aV bQ (av 1) (bN 1))) uI)))
def du:dw:=eP 3 nJ
def mZ:cO:=
 (cp (aV bQ (uq (av 0) uI (sF (bN 3))) (aP (aq (ay du (gh 0 3 (aD 1 (aq (aP (aD 2 (aD 3 au))) au)))) au))))
def eU:dw:=eP 4 mZ
def nH:cO:=
 (cp (aV bQ (aP (aq (ay du (gh 0 0 (aD 1 (aD 2 au)))) au)) (uq (av 0) (sF (bN 1)) uI)))
def cR:dw:=eP 3 nH
def jN:cO:=
 (aE (aX 5 (cA (ay cz (aD 1 (aD 2 au))) (bN 0)))
 (aE (eE (aF (aV (eI true) (av 5) (cF (.int (-1))))) (aE (aX 6 (ay c8 (aq (cA (cA (cD 0 0) (av 5)) (bN 2)) (aD 3 au))))
 (aE (aX 7 (ay du (aq (cA (cA (cD 1 0) (av 5)) (bN 0)) (aD 6 (aD 4 au)))))
 (cp (ay cR (aD 1 (aD 5 (aq (aV bQ (aP (aD 7 au)) (uq (cA (cD 1 0) (av 5)) (sF (bN 1)) uI)) au))))))) fL)
 (aE (eE (aF (Ds false (av 3) (gP (cV dR (gh 0 2 au))))) (aE (aX 8 (ay du (gh 1 2 (aq (ay c8 (gh 0 2 (aD 3 au))) (aD 4 au)))))
 (cp (aP (gh 1 0 (gh 1 1 (aD 8 (gh 1 3 au))))))) fL)
 (aE (rV (cA (cD 1 3) (av 2)) (iV (nG 2 (aI (bL 7) (aI (bL 9) dr)))))
 (aE (aX 6 (ay c8 (aq (cA (cA (cD 0 3) (av 2)) (bN 0)) (aD 3 au))))
 (cp (ay eU (aD 1 (aD 2 (aq (ay du (aD 7 (aD 6 (aD 4 au)))) (aD 9 au)))))))))))
def eY:dw:=eP 10 jN
def iY:cO:=
 (aE (eE (aF (aV (eI false) (av 0) (cF (.str "plus")))) (cp (Au minD (aq (aV bQ (av 1) (av 2)) (aq (cF (.int (9))) au)))) fL)
 (aE (eE (aF (aV (eI false) (av 0) (cF (.str "minus")))) (cp (Au maxD (aq (aV mU (av 1) (av 2)) (c7 0 au)))) fL)
 (aE (eE (aF (aV (eI false) (av 0) (cF (.str "less")))) (cp (oh (aF (aV DF (av 1) (av 2))) (bN 1) (bN 0))) fL)
 (aE (eE (aF (aV (eI false) (av 0) (cF (.str "same")))) (cp (oh (aF (aV (eI false) (av 1) (av 2))) (bN 1) (bN 0))) fL)
 (cp (oh (gq (aF (aV (eI true) (av 1) (bN 0))) (aF (aV (eI true) (av 2) (bN 0)))) (bN 1) (bN 0)))))))
def fZ:dw:=eP 3 iY
def qk(self:dw):cO:=
 (aE (eE (rK (DZ "int" (av 0))) (cp (av 0)) fL)
 (aE (eE (rK (DZ "str" (av 0))) (cp (Lu (av 1) (av 0))) fL)
 (aE (eE (aF (aV (eI false) (cD 0 0) (cF (.str "waits")))) (cp (oh (aF (aV Il (Lu (av 2) (cD 0 1)) (bN 0))) (bN 1) (bN 0))) fL)
 (aE (aX 3 (ay self (gh 0 1 (aD 1 (aD 2 au)))))
 (aE (eE (aF (aV (eI false) (cD 0 0) (cF (.str "not")))) (cp (oh (aF (aV (eI false) (av 3) (bN 0))) (bN 1) (bN 0))) fL)
 (cp (ay fZ (gh 0 0 (aD 3 (aq (ay self (gh 0 2 (aD 1 (aD 2 au)))) au))))))))))
def fP:Nat->dw
 |0=>λ_ _=>none
 |n+1=>eP 4 (qk (fP n))
def lQ:cO:=
 (aE (aX 4 (ay cz (aD 1 (aD 2 au))))
 (aE (aX 5 (cD 4 0))
 (aE (eE (aF (aV (eI false) (av 5) (cF (.int (-1))))) (aE (aX 6 (KH (gP (cV dR (gh 0 2 au))) (aQ (cD 1 2))))
 (aE (kn (GY (av 6) (KH (gP (cV dR (aq (cA (cA (cD 0 3) (av 2)) (bN 0)) au))) (aQ (cA (cA (cD 1 3) (av 2)) (bN 0))))))
 (cp (ay (fP 6) (aD 3 (aD 6 (aq M0 au))))))) fL)
 (aE (aX 6 (KH (gP (cV dR (aq (cA (cA (cD 0 0) (av 5)) (bN 2)) au))) (aQ (cA (cA (cD 1 0) (av 5)) (bN 0)))))
 (aE (MB (av 6) (cF (.str "given")) (cD 4 3))
 (aE (LL 7 (pI [none,none] (uX (gP (cV dR (aq (cA (cA (cD 0 0) (av 5)) (bN 3)) au))) (aQ (cA (cA (cD 1 0) (av 5)) (bN 4)))) (iV (nG 2 (aI (bL 0) (aI (bL 1) dr)))) cu (av 0) (gD (aQ (av 1)))))
 (cp (ay (fP 6) (aD 3 (aD 6 (aD 7 au)))))))))))
def dB:dw:=eP 8 lQ
def xO:cO:=
 (cp (ay eY (aD 0 (aD 1 (aD 2 (gh 3 1 (aq (ay dB (aD 0 (aD 1 (aD 2 (gh 3 2 au))))) au)))))))
def rS:dw:=eP 4 xO
def fR:cO:=
 (aE (rV (cA (cD 0 3) (av 1)) (iV (nG 2 (aI (bL 3) (aI (bL 4) dr)))))
 (cp (ay eU (aD 0 (aD 1 (aD 3 (aq (aV bQ (uq (av 4) uI (sF (rL (bN 1)))) (aP (aD 2 au))) au)))))))
def dC:dw:=eP 5 fR
def wO:cO:=
 (aE (aX 3 (ay cz (aD 0 (aD 1 au))))
 (cp (ay dC (aD 0 (aD 1 (aq (aV bQ (aV bQ (uq (av 3) uI (sF (bN 2))) (aP (aD 2 au))) (uq (av 3) (sF (bN 3)) uI)) au))))))
def jB:dw:=eP 4 wO
def mP:cO:=
 (aE (eE (aF (aV (eI false) (ay dB (aD 0 (aD 1 (aD 2 (gh 3 1 au))))) (bN 0))) (cp (ay jB (aD 1 (aD 2 (gh 3 2 au))))) fL)
 (cp (av 1)))
def kb:dw:=eP 4 mP
def Ay:cO:=
 (cp (ay jB (aD 1 (aD 2 (gh 3 1 au)))))
def xP:dw:=eP 4 Ay
def sT:cO:=
 (aE (rV (cA (cD 0 0) (av 1)) (iV (nG 5 (aI (bL 3) (aI (bL 4) (aI (bL 5) (aI (bL 6) (aI (bL 7) dr))))))))
 (aE (eE (aF (aV (eI false) (av 4) (cF (.int (-1))))) (cp (ay cR (aD 0 (aD 1 (aq (aP (aD 3 (aD 2 (aD 5 (aD 6 (aD 7 au)))))) au))))) fL)
 (cp (ay cR (aD 0 (aD 1 (aq (aP (aD 3 (aD 4 (aq (aV bQ (av 5) (aP (aD 2 au))) (aD 6 (aD 7 au)))))) au)))))))
def kZ:dw:=eP 8 sT
def A8:cO:=
 (aE (aX 4 (ay c8 (gh 0 0 (gh 3 2 au))))
 (aE (aX 5 (ay c8 (aq (cA (cA (cD 0 0) (av 4)) (bN 4)) (gh 3 3 au))))
 (aE (aX 6 (aP (aD 4 (aD 5 (c7 0 (aq (ay dB (aD 0 (aD 1 (aD 2 (gh 3 4 au))))) (c7 0 au)))))))
 (aE (rV (cA (cD 1 3) (av 2)) (iV (nG 2 (aI (bL 7) (aI (bL 8) dr)))))
 (cp (ay kZ (aq (ay eU (aD 1 (aD 2 (aD 7 (aq (aV bQ (av 8) (aP (aD 6 au))) au))))) (aD 4 (aD 2 au)))))))))
def xa:dw:=eP 9 A8
def sC:cO:=
 (aE (aX 4 (cA (ay cz (aD 1 (aD 2 au))) (bN 0)))
 (cp (aP (aD 4 (aq (ay c8 (aq (cA (cA (cD 0 0) (av 4)) (bN 3)) (aD 3 au))) au)))))
def jn:dw:=eP 5 sC
def mV:cO:=
 (aE (aX 4 (cA (cD 0 0) (av 1)))
 (cp (ay cR (aD 0 (aD 1 (aq (aV bQ (uq (av 4) uI (sF (bN 4))) (aP (aq (ay du (gh 4 4 (aD 2 (aD 3 au)))) au))) au))))))
def eV:dw:=eP 5 mV
def A6:cO:=
 (aE (rV (cA (cD 0 0) (av 1)) (iV (nG 5 (aI (bL 2) (aI (bL 3) (aI (bL 4) (aI (bL 5) (aI (bL 6) dr))))))))
 (aE (eE (rK (av 5)) (cp (ay cR (aD 0 (aD 1 (aq (aP (aD 2 (gh 5 0 (aD 4 (aq (uq (av 5) (sF (bN 1)) uI) (aD 6 au)))))) au))))) fL)
 (aE (eE (rK (av 4)) (cp (ay cR (aD 0 (aD 1 (aq (aP (aD 2 (gh 4 0 (aq (uq (av 4) (sF (bN 1)) uI) (aD 5 (aD 6 au)))))) au))))) fL)
 (cp (ay cR (aD 0 (aD 1 (aq (aP (aD 2 (aq (cF (.int (-1))) (aD 4 (aD 5 (aD 6 au)))))) au))))))))
def qx:dw:=eP 7 A6
def sQ:cO:=
 (aE (rV (ay jn (aD 0 (aD 1 (aD 2 (gh 3 1 au))))) (iV (nG 2 (aI (bL 4) (aI (bL 5) dr)))))
 (aE (aX 6 (bN 0))
 (aE (eE (aF (aV (eI false) (cA (cA (cA (cA (cD 0 0) (av 4)) (bN 3)) (av 5)) (bN 1)) (cF (.str "turns")))) (aX 6 (ay dB (aD 0 (aD 1 (aD 2 (gh 3 2 au)))))) fL)
 (aE (aX 7 (cA (cA (cA (cD 1 0) (av 4)) (bN 4)) (av 5)))
 (aE (aX 8 (gD (gP (bO [none,none,some 6] (jW (aQ (av 7))) (iV (nG 2 (aI (bL 0) (aI (bL 1) dr)))) (aF (aV Ny (av 0) (av 2))) (av 0)))))
 (aE (aX 9 (ay eV (aD 1 (aD 4 (aD 5 (aq (aV bQ (aV bQ (uq (av 7) uI (sF (av 8))) (aP (aq (aP (aD 6 (aD 2 au))) au))) (uq (av 7) (sF (av 8)) uI)) au))))))
 (cp (ay qx (aD 9 (aD 4 au))))))))))
def oF:dw:=eP 10 sQ
def ue:cO:=
 (aE (rV (ay jn (aD 0 (aD 1 (aD 2 (gh 3 1 au))))) (iV (nG 2 (aI (bL 4) (aI (bL 5) dr)))))
 (aE (aX 6 (cA (cA (cA (cD 1 0) (av 4)) (bN 4)) (av 5)))
 (aE (eE (Dz (rK (av 6))) (cp (av 1)) fL)
 (aE (aX 7 (ay eV (aD 1 (aD 4 (aD 5 (aq (uq (av 6) (sF (bN 1)) uI) au))))))
 (aE (eE (aF (aV (eI false) (cA (cA (cD 0 0) (av 4)) (bN 1)) (cF (.str "when free")))) (cp (av 7)) fL)
 (aE (rV (cA (cD 7 0) (av 4)) (iV (nG 5 (aI (bL 8) (aI (bL 9) (aI (bL 10) (aI (bL 11) (aI (bL 12) dr))))))))
 (cp (ay cR (aD 7 (aD 4 (aq (aP (aD 8 (aq (cA (cD 6 0) (bN 1)) (aD 10 (aq (aV bQ (av 11) (aP (aD 2 au))) (aD 12 au)))))) au)))))))))))
def pj:dw:=eP 13 ue
def xw:cO:=
 (aE (rV (ay jn (aD 0 (aD 1 (aD 2 (gh 3 1 au))))) (iV (nG 2 (aI (bL 4) (aI (bL 5) dr)))))
 (cp (ay eV (aD 1 (aD 4 (aD 5 (aq (aP au) au)))))))
def sh:dw:=eP 6 xw
def sI:cO:=
 (aE (aX 4 (ay dB (aD 0 (aD 1 (aD 2 (gh 3 1 au))))))
 (cp (ay dC (aD 1 (aD 2 (aq (aV bQ (uq (ay cz (aD 1 (aD 2 au))) uI (sF (bN 4))) (aP (aD 4 au))) au))))))
def oK:dw:=eP 5 sI
def mS:cO:=
 (cp (aV bQ (aP (gh 0 0 (aq (ay du (gh 0 1 (aD 1 (aD 2 au)))) au))) (uq (av 0) (sF (bN 2)) uI)))
def eT:dw:=eP 3 mS
def Bf:cO:=
 (aE (aX 4 (ay c8 (gh 0 1 (aD 3 au))))
 (aE (rV (cA (cD 1 1) (av 4)) (iV (nG 2 (aI (bL 5) (aI (bL 6) dr)))))
 (aE (eE (aF (aV Il (av 5) (bN 0))) (cp (ay eT (aD 1 (aD 4 (aq (aP (aq (aV mU (av 5) (bN 1)) (aD 6 au))) au))))) fL)
 (cp (ay eT (aD 1 (aD 4 (aq (aP (aD 5 (aq (aV bQ (av 6) (aP (aD 2 au))) au))) au))))))))
def ud:dw:=eP 7 Bf
def su:cO:=
 (cp (ay ud (aD 0 (aD 1 (aD 2 (gh 3 1 au))))))
def pq:dw:=eP 4 su
def kI:cO:=
 (aE (aX 3 (ay c8 (gh 0 1 (aD 2 au))))
 (aE (rV (cA (cD 1 1) (av 3)) (iV (nG 2 (aI (bL 4) (aI (bL 5) dr)))))
 (aE (eE (rK (av 5)) (cp (ay eT (aD 1 (aD 3 (aq (aP (aD 4 (aq (uq (av 5) (sF (bN 1)) uI) au))) au))))) fL)
 (cp (ay eT (aD 1 (aD 3 (aq (aP (aq (Au minD (aq (aV bQ (av 4) (bN 1)) (aq (cF (.int (9))) au))) (aD 5 au))) au))))))))
def gA:dw:=eP 6 kI
def sD:cO:=
 (cp (ay gA (aD 0 (aD 1 (gh 3 1 au)))))
def nV:dw:=eP 4 sD
def ug:cO:=
 (cp (ay ud (aD 0 (aq (ay gA (aD 0 (aD 1 (gh 3 1 au)))) (aD 2 (gh 3 2 au))))))
def oA:dw:=eP 4 ug
def yl:cO:=
 (cp (av 1))
def rX:dw:=eP 4 yl
def lT:List (Str×Str):= [("put","by_put"),("unless","by_unless"),("go","by_go"),("do","by_do"),("wait","by_wait"),("call","by_call"),("all","by_all"),("tell","by_tell"),("take","by_take"),("give","by_give"),("pass","by_pass"),("say","by_say")]
def tq:List (Str×dw):= [("by_put",rS),("by_unless",kb),("by_go",xP),("by_do",xa),("by_wait",oF),("by_call",pj),("by_all",sh),("by_tell",oK),("by_take",pq),("by_give",nV),("by_pass",oA),("by_say",rX)]
def vD:cO:=
 (aE (aX 4 (Mq lT (cD 3 0)))
 (cp (sM 4 tq (aD 0 (aD 1 (aD 2 (aD 3 au)))))))
def jm:dw:=eP 5 vD
def pH:cO:=
 (aE (rV (cA (cD 1 3) (av 2)) (iV (nG 2 (aI (bL 3) (aI (bL 4) dr)))))
 (aE (rV (cA (av 4) (rL (bN 1))) (iV (nG 5 (aI (bL 5) (aI (bL 6) (aI (bL 7) (aI (bL 8) (aI (bL 9) dr))))))))
 (aE (aX 10 (ay eU (aq (ay qx (aD 1 (aD 5 au))) (aD 2 (aD 3 (aq (uq (av 4) uI (sF (rL (bN 1)))) au))))))
 (aE (aX 11 (cA (ay ee (aD 0 (aD 2 (aq (cA (av 4) (rL (bN 2))) au)))) (aV mU (cA (cA (av 4) (rL (bN 2))) (bN 2)) (bN 1))))
 (aE (eE (aF (aV (A4 false) (cD 11 1) (cF .non))) (cp (av 10)) fL)
 (cp (ay eY (aD 0 (aD 10 (aD 2 (gh 11 1 (aD 9 au))))))))))))
def jh:dw:=eP 12 pH
def kJ:cO:=
 (aE (aX 3 (ay cz (aD 1 (aD 2 au))))
 (aE (aX 4 (cD 3 0))
 (aE (eE (gq (aF (aV (eI true) (av 4) (cF (.int (-1))))) (aF (aV (eI true) (cA (cA (cD 1 0) (av 4)) (bN 1)) (av 2)))) (cp (aP (aq (ay kZ (aD 1 (aD 4 (aD 2 au)))) (aq (cF .non) au)))) fL)
 (aE (aX 5 (ay ee (aD 0 (aD 2 (aD 3 au)))))
 (aE (eE (aF (aV (eI false) (cD 3 2) (gD (aQ (av 5))))) (cp (aP (aq (ay jh (aD 0 (aD 1 (aD 2 au)))) (aq (cF .non) au)))) fL)
 (aE (aX 6 (cA (av 5) (cD 3 2)))
 (aE (aX 7 (cF .non))
 (aE (eE (aF (aV (eI false) (cD 6 0) (cF (.str "say")))) (aX 7 (aP (aD 2 (aq (ay dB (aD 0 (aD 1 (aD 2 (gh 6 1 au))))) au)))) fL)
 (cp (aP (aq (ay jm (aD 0 (aq (ay jB (aD 1 (aD 2 (aq (aV bQ (cD 3 2) (bN 1)) au)))) (aD 2 (aD 6 au))))) (aD 7 au))))))))))))
def oX:dw:=eP 8 kJ
def ur:cO:=
 (aE (eE (aF (Ds true (av 2) (gP (cV fV (aD 0 (aD 1 au)))))) never fL)
 (cp (ay oX (aD 0 (aD 1 (aD 2 au))))))
def oM:dw:=eP 3 ur
def qM:cO:=
 (aE (Cp 3 4 5 (aq (ay uw (aD 1 au)) (aq (bC (bg au)) (aq (bC (bg (aq (ay uw (aD 1 au)) au))) au))))
 (aE (ib (nP (aV bQ (bN 1) (ay aB (aD 0 (c7 24 au))))) (bL 6) (aE (aX 7 (bC (cV fV (aD 1 (aD 3 au)))))
 (eE (aF (cJ (aQ (av 7)))) (aE (aX 8 (ay bo (aD 0 (aD 7 au))))
 (ib (nP (aV bQ (bN 1) (ay aB (aD 0 (aq (cA (bC (bg (c7 2 (c7 6 au)))) (ay aB (aD 0 (c7 2 au)))) au))))) (bL 9) (eE (gq (aF (aV DF (gD (aQ (av 4))) (av 2))) (aF (Ds false (av 8) (gP (cV fV (aD 1 (aD 3 au))))))) (aE (aX 3 (cA (ay oM (aD 1 (aD 3 (aD 8 au)))) (bN 0)))
 (aE (kn (nM eQ (av 4) (aD 8 au)))
 (kn (nM eQ (av 5) (aD 3 au))))) fL))) fL)))
 (cp (aP (aq (tupQ (f_ (aQ (av 4)))) (aD 5 au))))))
def iU:dw:=Jw 10 qM
def tX:cO:=
 (aE (aX 2 (bC (bg au)))
 (aE (ib (uX (aQ (cD 0 0)) (aQ (cD 1 0))) (iV (nG 2 (aI (bL 3) (aI (bL 4) dr)))) (aE (kn (nM eQ (av 2) (aq (aP (aq (aP (fc "row" (gh 3 0 au))) (aq (bC (zU (aQ (cD 4 2)))) au))) au)))
 (aE (kn (nM eQ (av 2) (aq (aP (aq (aP (fc "late" (gh 3 0 au))) (aq (bC (zU (aQ (cD 4 3)))) au))) au)))
 (ib (uX (aQ (cD 3 3)) (aQ (cD 4 4))) (iV (nG 2 (aI (bL 5) (aI (bL 6) dr)))) (kn (nM eQ (av 2) (aq (aP (aq (aP (fc "bell" (gh 3 0 (gh 5 0 au)))) (aq (bC (bO [none] (jW (aQ (av 6))) (bL 0) cu (cD 0 1))) au))) au)))))))
 (aE (ib (uX (aQ (cD 0 1)) (aQ (cD 1 1))) (iV (nG 2 (aI (bL 3) (aI (bL 7) dr)))) (kn (nM eQ (av 2) (aq (aP (aq (aP (fc "pass" (gh 3 0 au))) (aq (bC (zU (aQ (cD 7 1)))) au))) au))))
 (cp (av 2)))))
def j0:dw:=Jw 8 tX
def kH:cO:=
 (aE (aX 3 (bC (bg au)))
 (aE (ib (jW (aQ (ay j0 (aD 0 (aD 1 au))))) (iV (nG 2 (aI (bL 4) (aI (bL 5) dr)))) (kn (zr (av 3) (gP (AO (gP (bg (aD 4 au))) (HG (aQ (av 5)) (av 2)))))))
 (aE (eE (aF (cJ (aQ (av 3)))) (cp (oh (aF (aV (eI false) (gD (aQ (av 3))) (bN 1))) (cD 3 0) (cF .non))) fL)
 (aE (aX 6 (cA (cA (cA (cD 1 3) (av 2)) (bN 1)) (rL (bN 1))))
 (aE (eE (aF (aV (eI false) (cD 6 0) (rL (bN 1)))) (cp (oh (aF (aV (eI false) (cD 6 2) (gD (aQ (cA (cA (cD 0 3) (av 2)) (bN 1)))))) (aP (fc "done" au)) (aP (fc "out" au)))) fL)
 (aE (aX 7 (cA (cA (cD 0 0) (cD 6 0)) (bN 0)))
 (cp (oh (aF (aV (eI false) (cA (cA (cD 1 0) (cD 6 0)) (bN 1)) (av 2))) (aP (fc "within" (aD 7 au))) (aP (fc "called" (aD 7 au)))))))))))
def iE:dw:=eP 8 kH
def gK:cO:=
 (aE (ib (uX (aQ (cD 0 1)) (aQ (cD 1 1))) (iV (nG 2 (aI (iV (nG 2 (aI (bL 3) (aI (bL 4) dr)))) (aI (iV (nG 2 (aI (bL 5) (aI (bL 6) dr)))) dr)))) (eE (aF (Ds false (av 2) (aQ (av 6)))) (cp (aP (fc "pass" (aD 3 au)))) fL))
 (aE (ib (uX (aQ (cD 0 0)) (aQ (cD 1 0))) (iV (nG 2 (aI (bL 7) (aI (bL 8) dr)))) (aE (eE (aF (Ds false (av 2) (aQ (cD 8 2)))) (cp (aP (fc "row" (gh 7 0 au)))) fL)
 (aE (eE (aF (Ds false (av 2) (aQ (cD 8 3)))) (cp (aP (fc "late" (gh 7 0 au)))) fL)
 (ib (uX (aQ (cD 7 3)) (aQ (cD 8 4))) (iV (nG 2 (aI (iV (nG 2 (aI (bL 9) (aI (bL 10) dr)))) (aI (bL 11) dr)))) (eE (aF (Ds false (av 2) (gP (cV i7 (aD 11 au))))) (cp (aP (fc "bell" (gh 7 0 (aD 9 au))))) fL)))))
 (cp (cF .non))))
def eN:dw:=eP 12 gK
def xI:cO:=
 (aE (aX 3 (ay eN (aD 0 (aD 1 (aD 2 au)))))
 (aE (eE (aF (aV (A4 true) (av 3) (cF .non))) (cp (av 3)) fL)
 (aE (aX 4 (ay cz (aD 1 (aD 2 au))))
 (aE (aX 5 (cD 4 0))
 (aE (eE (aF (aV (eI false) (av 5) (cF (.int (-1))))) (cp (oh (aF (aV (eI false) (cD 4 2) (gD (aQ (ay ee (aD 0 (aD 2 (aD 4 au)))))))) (aP (fc "done" au)) (aP (fc "out" au)))) fL)
 (aE (aX 6 (cA (cA (cD 0 0) (av 5)) (bN 0)))
 (cp (oh (aF (aV (eI false) (cA (cA (cD 1 0) (av 5)) (bN 1)) (av 2))) (aP (fc "within" (aD 6 au))) (aP (fc "called" (aD 6 au)))))))))))
def rT:dw:=eP 7 xI
def lF:cO:=
 (aE (aX 2 (bC (bO [none,some 0,some 1] (nP (gD (aQ (cD 0 3)))) (bL 0) cu (ay iE (aD 1 (aD 2 (aD 0 au)))))))
 (aE (eE (aF (z_ true (gP (bO [none,some 0,some 1] (nP (gD (aQ (cD 0 3)))) (bL 0) cu (ay rT (aD 1 (aD 2 (aD 0 au)))))) (aQ (av 2)))) (cp (cF (.bl false))) fL)
 (aE (aX 3 (bC (bO [none,none] (sV (aQ (av 2))) (iV (nG 2 (aI (bL 0) (aI (bL 1) dr)))) (aF (JJ false (cD 1 0) (aQ (aP (fc "out" (fc "within" (fc "called" au))))))) (av 0))))
 (aE (eE (aF (z_ true (gP (cV fV (aD 0 (aD 1 au)))) (aQ (av 3)))) (cp (cF (.bl false))) fL)
 (aE (ib (sV (aQ (cD 1 0))) (iV (nG 2 (aI (bL 4) (aI (bL 5) dr)))) (aE (eE (gq (aF (aV (Gu true) (cD 5 1) (rL (bN 1)))) (aF (JJ true (av 4) (gP (bO [none] (jW (aQ (cA (cA (cD 1 3) (cD 5 1)) (bN 1)))) (bL 0) cu (cD 0 0)))))) (cp (cF (.bl false))) fL)
 (aE (aX 6 (bC (bO [none,none,some 0,some 4] (sV (aQ (av 2))) (iV (nG 2 (aI (bL 0) (aI (bL 1) dr)))) (aF (aV (Gu false) (av 1) (aP (fc "within" (aq (cA (cA (cD 2 0) (av 3)) (bN 0)) au))))) (av 0))))
 (eE (Ic (aF (aV Il (gD (aQ (av 6))) (bN 1))) (gq (aF (cJ (aQ (av 6)))) (aF (z_ true (aQ (av 6)) (gP (bg (gh 5 1 au))))))) (cp (cF (.bl false))) fL))))
 (cp (cF (.bl true))))))))
def iT:dw:=eP 7 lF
def IZ:cO:=
 (aE (ib (nP (Au maxD (c7 1 (aq (Au minD (c7 4 (aq (gD (aQ (av 0))) au))) au)))) (bL 1) (aE (aX 2 (bC (cV jP (aD 0 (aD 1 au)))))
 (aE (aX 3 (ay iS (aD 2 (c7 3 (aq (aV bQ (bN 2) (ay aB (aD 2 (c7 3 au)))) au)))))
 (aE (rV (ay iU (aD 2 (aD 3 (c7 60 au)))) (iV (nG 2 (aI (bL 4) (aI (bL 5) dr)))))
 (eE (Dz (rK (HW (gP (bO [none,some 3] (jW (aQ (av 5))) (bL 0) cu (ay iT (aD 1 (aD 0 au)))))))) (cp (cF (.bl false))) fL)))))
 (cp (cF (.bl true))))
def HL:dw:=eP 6 IZ
def top(i:Nat):Stmt:=PySem.Challenge.pw_calledroom_k90_whole_each_in_one_place.main.body.getD i (.Pass ⟨0,0,0,0⟩)
abbrev lD:Stmt:=top 58
abbrev kC:Stmt:=top 59
abbrev j6:Stmt:=top 61
abbrev kX:Stmt:=top 60
abbrev mI:Stmt:=top 62
abbrev kY:Stmt:=top 63
abbrev lE:Stmt:=top 64
abbrev ku:Stmt:=top 65
abbrev jD:Stmt:=top 66
abbrev ig:Stmt:=top 67
abbrev j3:Stmt:=top 68
abbrev kW:Stmt:=top 7
abbrev jy:Stmt:=top 9
abbrev w5:Stmt:=top 8
abbrev nh:Stmt:=top 20
abbrev gI:Stmt:=top 53
abbrev j2:Stmt:=top 10
abbrev jS:Stmt:=top 11
abbrev gG:Stmt:=top 54
abbrev mW:Stmt:=top 52
abbrev m_:Stmt:=top 25
abbrev mY:Stmt:=top 27
abbrev kN:Stmt:=top 12
abbrev kL:Stmt:=top 15
abbrev kR:Stmt:=top 13
abbrev lB:Stmt:=top 29
abbrev ie:Stmt:=top 3
abbrev nc:Stmt:=top 2
abbrev mM:Stmt:=top 28
abbrev tZ:Stmt:=top 33
abbrev fA:Stmt:=top 16
abbrev tV:Stmt:=top 17
abbrev kP:Stmt:=top 34
abbrev w9:Stmt:=top 35
abbrev p_:Stmt:=top 30
abbrev wV:Stmt:=top 36
abbrev qf:Stmt:=top 37
abbrev k8:Stmt:=top 38
abbrev x9:Stmt:=top 31
abbrev pF:Stmt:=top 39
abbrev pR:Stmt:=top 40
abbrev tN:Stmt:=top 41
abbrev qt:Stmt:=top 42
abbrev lu:Stmt:=top 14
abbrev xM:Stmt:=top 44
abbrev pG:Stmt:=top 43
abbrev jT:Stmt:=top 46
abbrev qo:Stmt:=top 45
abbrev pL:Stmt:=top 47
abbrev sJ:Stmt:=top 48
abbrev mX:Stmt:=top 50
abbrev mL:Stmt:=top 32
abbrev p7:Stmt:=top 56
abbrev qe:Stmt:=top 55
abbrev jI:Stmt:=top 69
abbrev lj:Stmt:=top 70
abbrev jL:Stmt:=top 71
abbrev fT:Stmt:=top 19
abbrev sO:Stmt:=top 18
abbrev j9:Stmt:=top 72
abbrev oG:Stmt:=top 73
end W28
namespace W28
open PySem PySem.Spec L2 DL PyProof.Rows
abbrev yE:List Str:= ["_law_hand_here","_law_many"]
abbrev GJ:List Str:= ["_law_hand_here","_law_most","_law_hands"]
abbrev G9:List Str:= ["_law_hand_here","_law_most"]
abbrev BZ:List Str:= ["_law_hand_here","_law_name","_law_later"]
abbrev Cj:List Str:= ["_law_hand_here","_law_room_here","_law_later","_law_many"]
abbrev CI:List Str:= ["_law_hand_here","_law_rooms_here","_law_words","_law_passes","_law_many"]
abbrev yV:List Str:= ["_law_hand_here","_law_some"]
abbrev BV:List Str:= ["_law_hand_here","_law_words","_law_bells","_law_at"]
abbrev wz:List Str:= ["_law_hand_here","_law_words","_law_bells","_law_deep"]
abbrev Cf:List Str:= ["_law_hand_here","_law_world_here","_law_most"]
abbrev HZ:List Str:= ["_law_one","_law_hand_here"]
abbrev CL:List Str:= ["_law_one"]
abbrev Ir:List Str:= ["_law_own","_law_world_here","_law_scene"]
abbrev BM:List Str:= ["_law_script","_law_k"]
abbrev FX:List Str:= ["_law_script"]
abbrev CN:List Str:= ["_law_world_here","_law_scene","_law_own"]
abbrev q_:List Str:= ["_law_world_here","_law_scene"]
abbrev yM:List Str:= ["form","first","second"]
abbrev Ab:List Str:= ["line"]
abbrev yX:List Str:= ["parts","at","part"]
abbrev yH:List Str:= ["roll","name"]
abbrev zd:List Str:= ["roll"]
abbrev y9:List Str:= ["room"]
abbrev zF:List Str:= ["scene","at","room"]
abbrev ze:List Str:= ["scene","at","turnstile"]
abbrev Cw:List Str:= ["scene","hand","frame"]
abbrev Cb:List Str:= ["scene","hand","row"]
abbrev zB:List Str:= ["scene","hand","values","frames"]
abbrev An:List Str:= ["scene","hand"]
abbrev CD:List Str:= ["scene","room","bell","line"]
abbrev CB:List Str:= ["scene","room","hand"]
abbrev B9:List Str:= ["scene","room"]
abbrev Cc:List Str:= ["scene"]
abbrev z9:List Str:= ["things"]
abbrev wy:List Str:= ["tree","things","waiting"]
abbrev BO:List Str:= ["world","hand","frame"]
abbrev Cv:List Str:= ["world","scene","hand","name"]
abbrev bG:List Str:= ["world","scene","hand","row"]
abbrev BS:List Str:= ["world","scene","hand","tree"]
abbrev CJ:List Str:= ["world","scene","hand","word","value"]
abbrev B2:List Str:= ["world","scene","hand","word"]
abbrev cC:List Str:= ["world","scene","hand"]
abbrev wY:List Str:= ["world","scene","name"]
abbrev yk:List Str:= ["world","scene"]
abbrev wC:List Str:= ["world"]
section
variable(P:Program)(w:World)(K:PySem.W.Frag)(mg:Str->Option Value)(base:Heap)
abbrev zh:Prop:=eX P w K mg base 1 "_law_hand" BM jP
abbrev cx:Prop:=eX P w K mg base 1 "_law_take" yE aB
abbrev jH:Prop:=eX P w K mg base 2 "_law_names" yE cf
abbrev gC:Prop:=eX P w K mg base 2 "_law_pick" yV bo
abbrev nq:Prop:=eX P w K mg base 7 "_law_sum" wz (bh 4)
abbrev y0:Prop:=eX P w K mg base 8 "_law_wait" BV jG
abbrev zD:Prop:=eX P w K mg base 9 "_law_deed" Cj jJ
abbrev zL:Prop:=eX P w K mg base 10 "_law_room" BZ jR
abbrev wN:Prop:=eX P w K mg base 11 "_law_rooms" G9 iO
abbrev uB:Prop:=eX P w K mg base 8 "_law_program" CI gc
abbrev w_:Prop:=eX P w K mg base 12 "_law_world" GJ iS
abbrev qL:Prop:=eX P w K mg base 1 "values_of" z9 fY
abbrev wI:Prop:=eX P w K mg base 2 "begun_room" y9 iR
abbrev GM:Prop:=eX P w K mg base 3 "begun" wC uw
abbrev t8:Prop:=eX P w K mg base 1 "hands_at" Ab i7
abbrev rG:Prop:=eX P w K mg base 2 "hands_in_rows" Cc eg
abbrev dj:Prop:=eX P w K mg base 1 "last_frame" An cz
abbrev gR:Prop:=eX P w K mg base 1 "program_of" BO ee
abbrev rC:Prop:=eX P w K mg base 2 "is_behind_all" cC fI
abbrev nF:Prop:=eX P w K mg base 3 "may_step" yk fV
abbrev nE:Prop:=eX P w K mg base 1 "names_of" zd dR
abbrev hV:Prop:=eX P w K mg base 2 "place_of" yH c8
abbrev gd:Prop:=eX P w K mg base 1 "with_part" yX du
abbrev iM:Prop:=eX P w K mg base 2 "with_hand" zB eU
abbrev gu:Prop:=eX P w K mg base 2 "with_room" zF cR
abbrev qO:Prop:=eX P w K mg base 3 "put_thing" CJ eY
abbrev sS:Prop:=eX P w K mg base 1 "value_of_two" yM fZ
abbrev A7:Prop:=eX P w K mg base 8 "value_of" wy (fP 6)
abbrev fU:Prop:=eX P w K mg base 9 "reckoned" BS dB
abbrev iJ:Prop:=eX P w K mg base 3 "with_last_frame" Cw dC
abbrev uG:Prop:=eX P w K mg base 4 "at_row" Cb jB
abbrev vn:Prop:=eX P w K mg base 3 "come_in" CB kZ
abbrev p6:Prop:=eX P w K mg base 3 "bell_of" B2 jn
abbrev kT:Prop:=eX P w K mg base 3 "with_line" CD eV
abbrev Cq:Prop:=eX P w K mg base 3 "leave" B9 qx
abbrev qD:Prop:=eX P w K mg base 2 "with_pass" ze eT
abbrev BX:Prop:=eX P w K mg base 3 "taken" Cv ud
abbrev oU:Prop:=eX P w K mg base 3 "given_back" wY gA
abbrev AY:Prop:=eX P w K mg base 11 "row_done" bG jm
abbrev A3:Prop:=eX P w K mg base 4 "end_deed" cC jh
abbrev D1:Prop:=eX P w K mg base 12 "step_of" cC oX
abbrev C5:Prop:=eX P w K mg base 13 "stepped" cC oM
abbrev w4:Prop:=eX P w K mg base 14 "_law_weave" Cf iU
abbrev zy:Prop:=eX P w K mg base 1 "_law_rows" q_ j0
abbrev xJ:Prop:=eX P w K mg base 2 "_law_place" CN iE
abbrev qd:Prop:=eX P w K mg base 2 "place_in_a_row" cC eN
abbrev EW:Prop:=eX P w K mg base 3 "stands" cC rT
abbrev xW:Prop:=eX P w K mg base 4 "_law_right" q_ iT
end
def Nf{X:Cx}{a:Expr}{pos:Pos}{f:dz}{p:Pos}(b:Gl X "len")(c:X.mg "len"=none)(d:PE X a (tQ (md X) f))(e:starEach [a] X.env= [(false,eval a X.env)]):PE X (.Call (.Name "len" p) [a] [] pos) (tD (md X) (gD f)):=zJ b c d e
def cH{X:Cx}{pos:Pos}{N:List Str}{js:List (Option Nat)}{a:Scope}{c:List (Str×Addr)}{h b d:Expr}{e:List Expr}{i:uR}{g:me}{t:jA}{f:bx}(S:aM X N js a c)(l:X.calm=true)(hi:PI X h b (tI (md X) i))(j:∀C s H fp,PG (aL X N a c C s H fp) h (tG (md (aL X N a c C s H fp)) g))(ht:∀C s H fp,m6 (aL X N a c C s H fp) e (tB (md (aL X N a c C s H fp)) t))(he:∀C s H fp,PE (aL X N a c C s H fp) d (tD (md (aL X N a c C s H fp)) f))(k:∀x,foldedSetIterable b X.env x=pure x:=by intro _;rfl):PE X (.ListComp d [⟨h,b,e,0⟩] a pos) (tL (md X) (bO js i g t f)):=E_ S l hi j ht he k
def jx{X:Cx}{pos:Pos}{N:List Str}{js:List (Option Nat)}{a:Scope}{h:List (Str×Addr)}{k b e c:Expr}{j:List Expr}{i:uR}{g:me}{t:jA}{f:bx}{n:Nat}{d:Pos}(S:aM X N js a h)(r:X.calm=true)(hi:PI X k b (tI (md X) i))(o:∀C s H fp,PG (aL X N a h C s H fp) k (tG (md (aL X N a h C s H fp)) g))(ht:∀C s H fp,m6 (aL X N a h C s H fp) j (tB (md (aL X N a h C s H fp)) t))(he:∀C s H fp,PE (aL X N a h C s H fp) e (tD (md (aL X N a h C s H fp)) f))(m:PG X c (oY n))(p:∀x,foldedSetIterable b X.env x=pure x:=by intro _;rfl)(l:swapsWithSole [c] (.ListComp e [⟨k,b,j,0⟩] a pos) d.line X.env=pure true:=by rfl)(q:(assignEach [c] X.env).map (·.2)= [assign c X.env]:=by rfl):PS X (.Assign [c] (.ListComp e [⟨k,b,j,0⟩] a pos) d) (tS (md X) (aX n (bC (bO js i g t f)))):=IG S r hi o ht he m p l q
def EM{X:Cx}{pos:Pos}{N:List Str}{js:List (Option Nat)}{a:Scope}{d:List (Str×Addr)}{h b m l c:Expr}{f:List Expr}{i:uR}{g:me}{t:jA}{o p:bx}{n:Nat}{e:Pos}(S:aM X N js a d)(y:X.calm=true)(hi:PI X h b (tI (md X) i))(q:∀C s H fp,PG (aL X N a d C s H fp) h (tG (md (aL X N a d C s H fp)) g))(ht:∀C s H fp,m6 (aL X N a d C s H fp) f (tB (md (aL X N a d C s H fp)) t))(w:∀C s H fp,PE (aL X N a d C s H fp) m (tD (md (aL X N a d C s H fp)) o))(v:∀C s H fp,PE (aL X N a d C s H fp) l (tD (md (aL X N a d C s H fp)) p))(k:PG X c (oY n))(r:∀x,foldedSetIterable b X.env x=pure x:=by intro _;rfl)(j:swapsWithSole [c] (.DictComp m l [⟨h,b,f,0⟩] a pos) e.line X.env=pure true:=by rfl)(u:(assignEach [c] X.env).map (·.2)= [assign c X.env]:=by rfl):PS X (.Assign [c] (.DictComp m l [⟨h,b,f,0⟩] a pos) e) (tS (md X) (LL n (pI js i g t o p))):=G2 S y hi q ht w v k r j u
local macro_rules|`(tactic|ac_rfl)=>do
 let g (l:List (String×Nat)):Lean.MacroM (Array (Lean.TSyntax `Lean.Parser.Tactic.tacticSeq)):=l.toArray.mapM λ(s,k)=>do
  let ws:=((s.splitOn " ").map λn=>Lean.mkIdent n.toName).toArray
  let h←`(?_)
  let e:=Lean.Syntax.mkApp ⟨ws[0]!.raw⟩ ((ws.toList.tail!.map λw=>⟨w.raw⟩).toArray++Array.replicate k h)
  `(tacticSeq|refine $e)
 let a←g [("M_",5),("v_",5),("az",3),("bc",0),("aW",0),("er",3),("bZ",2),("lN",3),("wm",1),("eG",1),("uJ",1),("uV",5),("eK",0),("wF",3),("v8",0),("n_",2),("Ng",1),("Fs",4),("A5",0),("fD",1),("gM",1),("kU zG zx",3),("LF",1),("Lp",0),("N9",5),("MA",3),("Nq",0),("M4",1),("Nf",4),("eS",2),("uf",6),("Ct",5),("c_",6),("N7",3),("N_",1),("rY",2),("LC",0),("Oq",5),("Ia",2),("H_",2),("Ov",0),("kU Fg Fx",3),("N4 zG zx",3),("NV",2),("xt",4),("JF",1),("kU Oi NW",3),("kU NT Oh",3),("MF",3),("Me",2),("FS",6),("MU",2),("Ff",6),("Iw",1),("NS",1),("KC",10),("Nv",4),("N1",3),("N5",2),("NO",2),("KI",6),("Mz",3),("M9",4),("N4 Og Of",3),("Oc",2),("w_or",2),("N8",3),("Mn",2),("KG",4),("MJ",4),("Mm",6),("NQ",7),("L1",6),("M5",0),("MV",5),("kU NX NR",3),("kU MK NB",3),("Mw",0),("M6",6),("kU Mt MC",3),("NU",5),("dP",1),("NY",1),("NJ",1),("tj",1),("Om",2),("NK",1)]
 let b←g [("eW",1),("PassesOwn.never",0),("q5",0),("My",0),("Bl.all",1),("Bl.dict",1),("Bl.enum",1),("Bl.int",1),("Bl.isi",1),("Bl.len",1),("Bl.max",1),("Bl.min",1),("Bl.range",1),("Bl.sorted",1),("Bl.str",1),("Bl.tuple",1),("Bl.zip",1),("bZ",2),("dP",1)]
 let c←([("LI vB KL Bl.int",0),("M8 ju KA Bl.min",1),("MH ju KE Bl.max",1),("int",2),("str",2)]:List (String×Nat)).toArray.mapM λ(s,k)=>do
  let ws:=((s.splitOn " ").map λn=>Lean.mkIdent n.toName).toArray
  if k=2 then
   `(tacticSeq|refine Hu (v:=.ty $(Lean.quote s)) rfl ($(Lean.mkIdent (.str (.str .anonymous "Bl") s)) (by assumption)) $(Lean.mkIdent (.str `PyProof.Rows ("boot_" ++s))) rfl)
  else
   let e←if k=1 then `($(ws[2]!) rfl) else pure ⟨ws[2]!.raw⟩
   `(tacticSeq|((with_reducible refine M7 $(ws[0]!) ?_);refine $(ws[1]!) $e rfl ($(ws[3]!) (by assumption)) (by rfl) ?_))
 `(tactic|repeat (first
 |exact rfl
 |exact Or.inl rfl
 |(with_reducible first $[| $a]*)
 |(with_reducible first|refine PW.pt (w_and ?_ ?_)|refine PW.pt (w_or ?_ ?_))
 |refine gU (by assumption) (by assumption) ?_
 |refine pS _ (by assumption) ?_
 |refine JT (by assumption) (by assumption) ?_
 |refine ka (xx (v:=.int (-1)) rfl (by assumption) ⟨_,rfl⟩) λ_ _=>.int (-1)
 |refine Jq (by assumption) ?_ ?_
 |refine ka (xx (v:=.int (9)) rfl (by assumption) ⟨_,rfl⟩) λ_ _=>.int (9)
 |refine Lh (by assumption) ?_ ?_
 |refine Lc (by assumption) ?_ ?_
 |refine Fb (by assumption) ?_ ?_
 |refine Lv (by assumption) ?_ ?_
 |assumption
 |exact Or.inr rfl
 |exact Or.inr (Or.inl rfl)
 |exact Or.inr (Or.inr rfl)
 |decide
 |omega
 |(intro _ _;rfl)
 |(intro _;rfl)
 |(intro _ _ _;rfl)
 |exact⟨rfl,rfl,rfl,rfl,rfl,rfl,rfl⟩
 |exact λ_ _=>.int _
 |(first $[| $c]*)
 |(first $[| $b]*)))
section
variable{P:Program}{w:World}{K:PySem.W.Frag}{mg:Str->Option Value}{base:Heap}{f:Addr}{fd:FuncData}
def pB:aG ["_law_script","_law_k","_law_cell"] BM (aA lD):=fq
def yy(F:eA K "_law_hand" "_law_hand" lD f fd)(B:Bl mg):bu P w K mg base dJ 1 f fd BM (dZ ⟨K,mg⟩ 2 jP):=by
 have d:=pB.nd
 refine bq F pB λb A a s H E c=> ?_
 delta nu
 ac_rfl
def oa:aG ["_law_hand_here","_law_many","_law_digit","_law_mixed"] yE (aA kC):=fq
def wK(F:eA K "_law_take" "_law_take" kC f fd)(B:Bl mg):bu P w K mg base dJ 1 f fd yE (dZ ⟨K,mg⟩ 2 aB):=by
 have d:=oa.nd
 refine bq F oa λb A a s H E c=> ?_
 delta mN
 ac_rfl
def mv:aG ["_law_hand_here","_law_many","_law_letters","_law_first","_law_step","_law_found","_law_k"] yE (aA j6):=fq
def u6(F:eA K "_law_names" "_law_names" j6 f fd)(B:Bl mg)(d:cx P w K mg base):bu P w K mg base dJ 2 f fd yE (dZ ⟨K,mg⟩ 2 cf):=by
 have a:=mv.nd
 refine bq F mv λe A b s H E c=> ?_
 exact(bZ (pS 2 a eK)
  (bZ (E5 (Av (i:=3) (j:=4) rfl a rfl rfl (by decide) rfl rfl (az (gU d c (az (v_ 0) (az bc aW))) (az (er (fD (gM (az bc (az bc (az bc (az bc (az bc (az bc aW)))))))) (gU d c (az (v_ 0) (az bc aW)))) aW)) rfl))
  (bZ (pS 5 a (fD (gM aW)))
  (bZ (uf PassesOwn.never rfl (xt rfl B.range (v_ 1)) (uV 6 a) (dP (eS (c_ (v_ 5) (n_ (er (v_ 2) (H_ (n_ (v_ 3) (Ia (v_ 4) (v_ 6))) bc)) (er (fD (gM (az eK (az eK (az eK (az eK aW)))))) (H_ (n_ (v_ 3) (Ia (v_ 6) (v_ 6))) bc)))))))
  (dP (JF (FB rfl B.sorted (uJ (v_ 5)))))))))
def xA:aG yV yV (aA kX):=fq
def xh(F:eA K "_law_pick" "_law_pick" kX f fd)(B:Bl mg)(d:cx P w K mg base):bu P w K mg base dJ 2 f fd yV (dZ ⟨K,mg⟩ 2 bo):=by
 refine bq F xA λb A a s H E c=> ?_
 delta jQ
 ac_rfl
def qV:aG ["_law_hand_here","_law_words","_law_bells","_law_deep","_law_way","_law_word"] wz (aA mI):=fq
theorem rf(F:eA K "_law_sum" "_law_sum" mI f fd)(B:Bl mg)(d:cx P w K mg base)(h:gC P w K mg base)(b:Binds K fd wz [])(c:PySem.W.keepIn K (.ref f)=true)(m:mg "_law_sum"=some (.ref f)):∀n,bu P w K mg base dJ (3+n) f fd wz (dZ ⟨K,mg⟩ 4 (bh n))
 |0=>CA
 | n+1=>by
   have i:eX P w K mg base (3+n) "_law_sum" wz (bh n):=⟨f,fd,rf F B d h b c m n,b,c,m⟩
   have l:=qV.nd
   refine bq (k:=3+n) F qV λg A a s H E e=> ?_
   have j:=e.units0
   delta qp
   ac_rfl
def nR:aG ["_law_hand_here","_law_words","_law_bells","_law_at","_law_bell","_law_turn","_law_way","_law_test","_law_rows_here"] BV (aA kY):=fq
def xu(F:eA K "_law_wait" "_law_wait" kY f fd)(B:Bl mg)(e:gC P w K mg base)(c:nq P w K mg base)(h:cx P w K mg base):bu P w K mg base dJ 8 f fd BV (dZ ⟨K,mg⟩ 4 jG):=by
 have g:=nR.nd
 refine bq F nR λb A a s H E d=> ?_
 delta nk
 ac_rfl
def oo:aG ["_law_hand_here","_law_room_here","_law_later","_law_many","_law_manner","_law_things","_law_bells","_law_words","_law_rows_here","_law_k","_law_way","_law_word","_law_name","_law_deeds","_law_goal"] Cj (aA lE):=fq
def yd(F:eA K "_law_deed" "_law_deed" lE f fd)(B:Bl mg)(d:cx P w K mg base)(i:y0 P w K mg base)(j:gC P w K mg base)(e:nq P w K mg base):bu P w K mg base dJ 9 f fd Cj (dZ ⟨K,mg⟩ 4 jJ):=by
 have h:=oo.nd
 refine bq F oo λc A a s H E b=> ?_
 have g:=b.units0
 delta m3
 ac_rfl
def nQ:aG ["_law_hand_here","_law_name","_law_later","_law_manner","_law_things","_law_bells","_law_deeds","_law_word","_law_own"] BZ (aA ku):=fq
def wD(F:eA K "_law_room" "_law_room" ku f fd)(B:Bl mg)(i:cx P w K mg base)(h:jH P w K mg base)(d:zD P w K mg base):bu P w K mg base dJ 10 f fd BZ (dZ ⟨K,mg⟩ 3 jR):=by
 have g:=nQ.nd
 refine bq F nQ λc A a s H E b=> ?_
 have e:=b.units0
 delta m4
 ac_rfl
 refine cH (N:=CL) (js:= [none]) (aM.gen rfl rfl rfl rfl rfl rfl) rfl ?_ (λ_ _ _ _=> ?_) (λ_ _ _ _=> ?_) (λ_ _ _ _=> ?_)
 ac_rfl
 refine cH (N:= ["_law_thing","_law_hand_here"]) (js:= [none,some 0]) (aM.gen rfl rfl rfl rfl rfl rfl) rfl ?_ (λ_ _ _ _=> ?_) (λ_ _ _ _=> ?_) (λ_ _ _ _=> ?_)
 ac_rfl
 refine cH (N:= ["_law_bell","_law_hand_here"]) (js:= [none,some 0]) (aM.gen rfl rfl rfl rfl rfl rfl) rfl ?_ (λ_ _ _ _=> ?_) (λ_ _ _ _=> ?_) (λ_ _ _ _=> ?_)
 ac_rfl
end
section
variable{P:Program}{w:World}{K:PySem.W.Frag}{mg:Str->Option Value}{base:Heap}{f:Addr}{fd:FuncData}
def mi:aG ["_law_hand_here","_law_most","_law_rooms_here","_law_name","_law_later"] G9 (aA jD):=fq
def u0(F:eA K "_law_rooms" "_law_rooms" jD f fd)(B:Bl mg)(g:jH P w K mg base)(h:cx P w K mg base)(e:zL P w K mg base):bu P w K mg base dJ 11 f fd G9 (dZ ⟨K,mg⟩ 2 iO):=by
 have d:=mi.nd
 refine bq F mi λb A a s H E c=> ?_
 delta kS
 ac_rfl
 refine jx (n:=4) (N:= ["_law_room_here"]) (js:= [none]) (aM.gen rfl rfl rfl rfl rfl rfl) rfl ?_ (λ_ _ _ _=> ?_) (λ_ _ _ _=> ?_) (λ_ _ _ _=> ?_) ?_
 ac_rfl
 refine cH (N:= ["_law_deed_here"]) (js:= [none]) (aM.gen rfl rfl rfl rfl rfl rfl) rfl ?_ (λ_ _ _ _=> ?_) (λ_ _ _ _=> ?_) (λ_ _ _ _=> ?_)
 ac_rfl
def kd:aG ["_law_hand_here","_law_rooms_here","_law_words","_law_passes","_law_many","_law_rows_here","_law_k","_law_way","_law_room_here","_law_goal","_law_deed_here","_law_word","_law_at"] CI (aA ig):=fq
def rh(F:eA K "_law_program" "_law_program" ig f fd)(B:Bl mg)(e:cx P w K mg base)(c:gC P w K mg base)(d:nq P w K mg base):bu P w K mg base dJ 8 f fd CI (dZ ⟨K,mg⟩ 5 gc):=by
 have b:=kd.nd
 refine bq F kd λk A h s H E a=> ?_
 have g:=a.units0
 exact(bZ (pS 5 b (fD (gM aW)))
  (bZ (uf PassesOwn.never rfl (xt rfl B.range (n_ bc (gU e a (az (v_ 0) (az (v_ 4) aW))))) (uV 6 b) (bZ (pS 7 b (gU e a (az (v_ 0) (az bc aW))))
  (dP (wF (PW.pt (w_and (kU Fg Fx (v_ 7) bc (eW _)) (tj (JO a (v_ 1) (eG aW))))) (bZ (pS 8 b (gU c a (az (v_ 0) (az (v_ 1) aW))))
  (bZ (pS 9 b (fD (Me (Ng (gM (az LC aW))) (uJ (v_ 2)))))
  (bZ (pS 10 b (er (gU c a (az (v_ 0) (az (er (v_ 8) bc) aW))) bc))
  (dP (eS (c_ (v_ 5) (eG (az eK (az (gU c a (az (v_ 0) (az (v_ 9) aW))) (az (er (v_ 8) bc) (az (v_ 10) (az (gU d a (az (v_ 0) (az (v_ 2) (az (fD (gM aW)) (az bc aW))))) aW)))))))))))) (dP (wF (PW.pt (w_and (kU Fg Fx (v_ 7) bc (eW _)) (tj (rY g (uJ (v_ 3)))))) (dP (eS (c_ (v_ 5) (eG (az (er (fD (gM (az eK (az eK aW)))) (gU e a (az (v_ 0) (az bc aW)))) (az (gU c a (az (v_ 0) (az (v_ 3) aW))) aW)))))) (dP (wF (PW.pt (w_and (kU zG zx (v_ 7) bc (eW _)) (tj (rY g (uJ (v_ 2)))))) (dP (eS (c_ (v_ 5) (eG (az eK (az (gU c a (az (v_ 0) (az (v_ 2) aW))) (az (gU d a (az (v_ 0) (az (v_ 2) (az (fD (gM aW)) (az bc aW))))) aW))))))) (bZ (wF (kU zG zx (v_ 7) bc (eW _)) (dP (eS (c_ (v_ 5) (eG (az eK (az (gU d a (az (v_ 0) (az (v_ 2) (az (fD (gM aW)) (az bc aW))))) (az (n_ (zJ rfl B.len (uJ (v_ 5))) bc) aW))))))) v8)
  (bZ (wF (kU zG zx (v_ 7) bc (eW _)) (dP (eS (c_ (v_ 5) (eG (az eK (az (n_ (zJ rfl B.len (uJ (v_ 5))) bc) aW)))))) v8)
  (dP (eS (c_ (v_ 5) (eG (az eK (az (gU d a (az (v_ 0) (az (v_ 2) (az (fD (gM aW)) (az bc aW))))) aW))))))))))))))))
  (bZ (wF (PW.pt (w_and (rY g (uJ (v_ 2))) (tj (kU zG zx (gU e a (az (v_ 0) (az bc aW))) bc (eW _))))) (bZ (E5 (Av (i:=11) (j:=12) rfl b rfl rfl (by decide) rfl rfl (az (gU c a (az (v_ 0) (az (v_ 2) aW))) (az (zJ rfl B.len (uJ (v_ 5))) aW)) rfl))
  (bZ (eS (c_ (v_ 5) (eG (az eK (az (v_ 11) (az (eG (az eK (az (v_ 11) (az bc aW)))) aW))))))
  (dP (eS (Ff (v_ 5) (Ng (gM (az (eG (az eK (az (eG (az eK (az (v_ 11) (az bc aW)))) (az (n_ (v_ 12) bc) aW)))) (az (eG (az eK (az bc aW))) aW))))))))) v8)
  (dP (wm (Ct rfl B.tuple (Iw (uJ (v_ 5))) (ht:=q5)))))))
def mH:aG ["_law_hand_here","_law_most","_law_hands","_law_rooms_here","_law_passes","_law_opened","_law_made","_law_k","_law_own","_law_program_here"] GJ (aA j3):=fq
def u4(F:eA K "_law_world" "_law_world" j3 f fd)(B:Bl mg)(c:wN P w K mg base)(h:jH P w K mg base)(i:cx P w K mg base)(e:uB P w K mg base):bu P w K mg base dJ 12 f fd GJ (dZ ⟨K,mg⟩ 3 iS):=by
 have g:=mH.nd
 refine bq F mH λb A a s H E d=> ?_
 delta lA
 ac_rfl
 refine jx (n:=4) (N:=CL) (js:= [none]) (aM.gen rfl rfl rfl rfl rfl rfl) rfl ?_ (λ_ _ _ _=> ?_) (λ_ _ _ _=> ?_) (λ_ _ _ _=> ?_) ?_
 ac_rfl
 refine jx (n:=5) (N:=CL) (js:= [none]) (aM.gen rfl rfl rfl rfl rfl rfl) rfl ?_ (λ_ _ _ _=> ?_) (λ_ _ _ _=> ?_) (λ_ _ _ _=> ?_) ?_
 ac_rfl
 refine jx (n:=8) (N:=CL) (js:= [none]) (aM.gen rfl rfl rfl rfl rfl rfl) rfl ?_ (λ_ _ _ _=> ?_) (λ_ _ _ _=> ?_) (λ_ _ _ _=> ?_) ?_
 ac_rfl
 refine cH (N:= ["_law_word","_law_hand_here"]) (js:= [none,some 0]) (aM.gen rfl rfl rfl rfl rfl rfl) rfl ?_ (λ_ _ _ _=> ?_) (λ_ _ _ _=> ?_) (λ_ _ _ _=> ?_)
 ac_rfl
 refine cH (N:=HZ) (js:= [none,some 0]) (aM.gen rfl rfl rfl rfl rfl rfl) rfl ?_ (λ_ _ _ _=> ?_) (λ_ _ _ _=> ?_) (λ_ _ _ _=> ?_)
 ac_rfl
 refine cH (N:=HZ) (js:= [none,some 0]) (aM.gen rfl rfl rfl rfl rfl rfl) rfl ?_ (λ_ _ _ _=> ?_) (λ_ _ _ _=> ?_) (λ_ _ _ _=> ?_)
 ac_rfl
def ya:aG z9 z9 (aA kW):=fq
def wZ(F:eA K "values_of" "values_of" kW f fd)(B:Bl mg):bu P w K mg base dJ 1 f fd z9 (dZ ⟨K,mg⟩ 1 fY):=by
 refine bq F ya λb A a s H E c=> ?_
 delta ni
 ac_rfl
 refine cH (N:= ["word","value"]) (js:= [none,none]) (aM.gen rfl rfl rfl rfl rfl rfl) rfl ?_ (λ_ _ _ _=> ?_) (λ_ _ _ _=> ?_) (λ_ _ _ _=> ?_)
 ac_rfl
def mw:aG ["room","name","manner","things","bells","deeds"] y9 (aA jy):=fq
def uT(F:eA K "begun_room" "begun_room" jy f fd)(B:Bl mg)(g:qL P w K mg base){b:Tok}(d:mg "NOBODY"=some (.int (-1) b)):bu P w K mg base dJ 2 f fd y9 (dZ ⟨K,mg⟩ 1 iR):=by
 have h:=mw.nd
 refine bq F mw λc A a s H E e=> ?_
 delta ko
 ac_rfl
 refine cH (N:= ["bell"]) (js:= [none]) (aM.gen rfl rfl rfl rfl rfl rfl) rfl ?_ (λ_ _ _ _=> ?_) (λ_ _ _ _=> ?_) (λ_ _ _ _=> ?_)
 ac_rfl
def zc:aG ["world","rooms","passes","shared","hands","own"] wC (aA w5):=fq
def F3(F:eA K "begun" "begun" w5 f fd)(B:Bl mg)(e:qL P w K mg base)(h:wI P w K mg base){b:Tok}(i:mg "OWN"=some (.int (-1) b)):bu P w K mg base dJ 3 f fd wC (dZ ⟨K,mg⟩ 1 uw):=by
 have g:=zc.nd
 refine bq F zc λc A a s H E d=> ?_
 delta Bz
 ac_rfl
 refine cH (N:=y9) (js:= [none]) (aM.gen rfl rfl rfl rfl rfl rfl) rfl ?_ (λ_ _ _ _=> ?_) (λ_ _ _ _=> ?_) (λ_ _ _ _=> ?_)
 ac_rfl
 refine cH (N:= ["name","value"]) (js:= [none,none]) (aM.gen rfl rfl rfl rfl rfl rfl) rfl ?_ (λ_ _ _ _=> ?_) (λ_ _ _ _=> ?_) (λ_ _ _ _=> ?_)
 ac_rfl
 refine cH (N:= ["things","program","own"]) (js:= [none,none,some 5]) (aM.gen rfl rfl rfl rfl rfl rfl) rfl ?_ (λ_ _ _ _=> ?_) (λ_ _ _ _=> ?_) (λ_ _ _ _=> ?_)
 ac_rfl
def z4:aG Ab Ab (aA nh):=fq
def Ah(F:eA K "hands_at" "hands_at" nh f fd)(B:Bl mg):bu P w K mg base dJ 1 f fd Ab (dZ ⟨K,mg⟩ 1 i7):=by
 refine bq F z4 λb A a s H E c=> ?_
 delta qh
 ac_rfl
 refine cH (N:= ["turn","hand"]) (js:= [none,none]) (aM.gen rfl rfl rfl rfl rfl rfl) rfl ?_ (λ_ _ _ _=> ?_) (λ_ _ _ _=> ?_) (λ_ _ _ _=> ?_)
 ac_rfl
def jt:aG ["scene","hands","value","row","values","within","late","bells","line"] Cc (aA gI):=fq
def pK(F:eA K "hands_in_rows" "hands_in_rows" gI f fd)(B:Bl mg)(c:t8 P w K mg base):bu P w K mg base dJ 2 f fd Cc (dZ ⟨K,mg⟩ 1 eg):=by
 have e:=jt.nd
 refine bq F jt λb A a s H E d=> ?_
 delta h_
 ac_rfl
end
section
variable{P:Program}{w:World}{K:PySem.W.Frag}{mg:Str->Option Value}{base:Heap}{f:Addr}{fd:FuncData}
def uU:aG An An (aA j2):=fq
def uS(F:eA K "last_frame" "last_frame" j2 f fd)(B:Bl mg):bu P w K mg base dJ 1 f fd An (dZ ⟨K,mg⟩ 2 cz):=by
 refine bq F uU λb A a s H E c=> ?_
 delta kK
 ac_rfl
def mF:aG ["world","hand","frame","room","deed"] BO (aA jS):=fq
def uO(F:eA K "program_of" "program_of" jS f fd)(B:Bl mg){b:Tok}(e:mg "OWN"=some (.int (-1) b)):bu P w K mg base dJ 1 f fd BO (dZ ⟨K,mg⟩ 3 ee):=by
 have c:=mF.nd
 refine bq F mF λd A a s H E g=> ?_
 exact(bZ (E5 (Av (i:=3) (j:=4) rfl c rfl rfl (by decide) rfl rfl (az (er (v_ 2) bc) (az (er (v_ 2) bc) aW)) rfl))
  (bZ (wF (kU zG zx (v_ 3) (ka (xx (v:=.int (-1)) rfl e ⟨_,rfl⟩) λ_ _=>.int (-1)) (eW _)) (dP (wm (er (er (er (v_ 0) bc) (v_ 1)) bc))) v8)
  (dP (wm (er (er (er (er (er (v_ 0) bc) (v_ 3)) bc) (v_ 4)) bc)))))
def i_:aG ["world","scene","hand","frame"] cC (aA gG):=fq
def qv(F:eA K "is_behind_all" "is_behind_all" gG f fd)(B:Bl mg)(d:dj P w K mg base)(h:gR P w K mg base){b:Tok}(i:mg "OWN"=some (.int (-1) b)):bu P w K mg base dJ 2 f fd cC (dZ ⟨K,mg⟩ 3 fI):=by
 have g:=i_.nd
 refine bq F i_ λc A a s H E e=> ?_
 delta hX
 ac_rfl
def qN:aG ["world","scene","held_up"] yk (aA mW):=fq
def Aq(F:eA K "may_step" "may_step" mW f fd)(B:Bl mg)(d:rG P w K mg base)(g:rC P w K mg base):bu P w K mg base dJ 3 f fd yk (dZ ⟨K,mg⟩ 2 fV):=by
 have e:=qN.nd
 refine bq F qN λb A a s H E c=> ?_
 delta pO
 ac_rfl
 refine cH (N:= ["hand","world","scene","held_up"]) (js:= [none,some 0,some 1,some 2]) (aM.gen rfl rfl rfl rfl rfl rfl) rfl ?_ (λ_ _ _ _=> ?_) (λ_ _ _ _=> ?_) (λ_ _ _ _=> ?_)
 ac_rfl
def zI:aG zd zd (aA m_):=fq
def yG(F:eA K "names_of" "names_of" m_ f fd)(B:Bl mg):bu P w K mg base dJ 1 f fd zd (dZ ⟨K,mg⟩ 1 dR):=by
 refine bq F zI λb A a s H E c=> ?_
 delta pE
 ac_rfl
 refine cH (N:= ["row"]) (js:= [none]) (aM.gen rfl rfl rfl rfl rfl rfl) rfl ?_ (λ_ _ _ _=> ?_) (λ_ _ _ _=> ?_) (λ_ _ _ _=> ?_)
 ac_rfl
def y8:aG yH yH (aA mY):=fq
def zX(F:eA K "place_of" "place_of" mY f fd)(B:Bl mg)(c:nE P w K mg base):bu P w K mg base dJ 2 f fd yH (dZ ⟨K,mg⟩ 2 c8):=by
 refine bq F y8 λb A a s H E d=> ?_
 delta pT
 ac_rfl
def xK:aG yX yX (aA kN):=fq
def yo(F:eA K "with_part" "with_part" kN f fd)(B:Bl mg):bu P w K mg base dJ 1 f fd yX (dZ ⟨K,mg⟩ 3 du):=by
 refine bq F xK λb A a s H E c=> ?_
 delta nJ
 ac_rfl
def yb:aG zB zB (aA kL):=fq
def yg(F:eA K "with_hand" "with_hand" kL f fd)(B:Bl mg)(c:gd P w K mg base):bu P w K mg base dJ 2 f fd zB (dZ ⟨K,mg⟩ 4 eU):=by
 refine bq F yb λb A a s H E d=> ?_
 delta mZ
 ac_rfl
def xc:aG zF zF (aA kR):=fq
def xS(F:eA K "with_room" "with_room" kR f fd)(B:Bl mg)(c:gd P w K mg base):bu P w K mg base dJ 2 f fd zF (dZ ⟨K,mg⟩ 3 cR):=by
 refine bq F xc λb A a s H E d=> ?_
 delta nH
 ac_rfl
def pA:aG ["world","scene","hand","word","value","room","place","values","shared","frames"] CJ (aA lB):=fq
def xC(F:eA K "put_thing" "put_thing" lB f fd)(B:Bl mg)(g:dj P w K mg base)(i:hV P w K mg base)(e:gd P w K mg base)(l:gu P w K mg base)(d:nE P w K mg base)(h:iM P w K mg base){b:Tok}(m:mg "OWN"=some (.int (-1) b)):bu P w K mg base dJ 3 f fd CJ (dZ ⟨K,mg⟩ 5 eY):=by
 have k:=pA.nd
 refine bq F pA λc A a s H E j=> ?_
 delta jN
 ac_rfl
def rB:aG yM yM (aA ie):=fq
def rA(F:eA K "value_of_two" "value_of_two" ie f fd)(B:Bl mg){b:Tok}(d:mg "HIGHEST"=some (.int (9) b)):bu P w K mg base dJ 1 f fd yM (dZ ⟨K,mg⟩ 3 fZ):=by
 refine bq F rB λc A a s H E e=> ?_
 delta iY
 ac_rfl
def qT:aG ["tree","things","waiting","first"] wy (aA nc):=fq
theorem qU(F:eA K "value_of" "value_of" nc f fd)(B:Bl mg)(h:sS P w K mg base)(b:Binds K fd wy [])(c:PySem.W.keepIn K (.ref f)=true)(m:mg "value_of"=some (.ref f)):∀n,bu P w K mg base dJ (2+n) f fd wy (dZ ⟨K,mg⟩ 3 (fP n))
 |0=>CA
 | n+1=>by
   have i:eX P w K mg base (2+n) "value_of" wy (fP n):=⟨f,fd,qU F B h b c m n,b,c,m⟩
   have j:=qT.nd
   refine bq (k:=2+n) F qT λg A a s H E e=> ?_
   have d:=IC e
   delta qk
   ac_rfl
def qE:aG ["world","scene","hand","tree","frame","room","things","waiting"] BS (aA mM):=fq
def Ao(F:eA K "reckoned" "reckoned" mM f fd)(B:Bl mg)(h:dj P w K mg base)(g:nE P w K mg base)(i:A7 P w K mg base){d:Tok}(k:mg "OWN"=some (.int (-1) d)):bu P w K mg base dJ 9 f fd BS (dZ ⟨K,mg⟩ 4 dB):=by
 have j:=qE.nd
 refine bq F qE λe A a s H E c=> ?_
 have b:=IC c
 delta lQ
 ac_rfl
 refine EM (n:=7) (N:= ["bell","line"]) (js:= [none,none]) (aM.gen rfl rfl rfl rfl rfl rfl) rfl ?_ (λ_ _ _ _=> ?_) (λ_ _ _ _=> ?_) (λ_ _ _ _=> ?_) (λ_ _ _ _=> ?_) ?_
 ac_rfl
def DA:aG bG bG (aA tZ):=fq
def CU(F:eA K "by_put" "by_put" tZ f fd)(B:Bl mg)(c:qO P w K mg base)(e:fU P w K mg base):bu P w K mg base dJ 10 f fd bG (dZ ⟨K,mg⟩ 4 rS):=by
 refine bq F DA λb A a s H E d=> ?_
 delta xO
 ac_rfl
end
section
variable{P:Program}{w:World}{K:PySem.W.Frag}{mg:Str->Option Value}{base:Heap}{f:Addr}{fd:FuncData}
def ic:aG ["scene","hand","frame","values","frames"] Cw (aA fA):=fq
def mQ(F:eA K "with_last_frame" "with_last_frame" fA f fd)(B:Bl mg)(c:iM P w K mg base):bu P w K mg base dJ 3 f fd Cw (dZ ⟨K,mg⟩ 3 dC):=by
 have e:=ic.nd
 refine bq F ic λb A a s H E d=> ?_
 delta fR
 ac_rfl
def vJ:aG ["scene","hand","row","frame"] Cb (aA tV):=fq
def Dh(F:eA K "at_row" "at_row" tV f fd)(B:Bl mg)(d:dj P w K mg base)(c:iJ P w K mg base):bu P w K mg base dJ 4 f fd Cb (dZ ⟨K,mg⟩ 3 jB):=by
 have g:=vJ.nd
 refine bq F vJ λb A a s H E e=> ?_
 delta wO
 ac_rfl
def xR:aG bG bG (aA kP):=fq
def xU(F:eA K "by_unless" "by_unless" kP f fd)(B:Bl mg)(e:fU P w K mg base)(c:uG P w K mg base):bu P w K mg base dJ 10 f fd bG (dZ ⟨K,mg⟩ 4 kb):=by
 refine bq F xR λb A a s H E d=> ?_
 delta mP
 ac_rfl
def EN:aG bG bG (aA w9):=fq
def Er(F:eA K "by_go" "by_go" w9 f fd)(B:Bl mg)(c:uG P w K mg base):bu P w K mg base dJ 5 f fd bG (dZ ⟨K,mg⟩ 4 xP):=by
 refine bq F EN λb A a s H E d=> ?_
 delta Ay
 ac_rfl
def tU:aG ["scene","room","hand","values","within","row","late","bells"] CB (aA p_):=fq
def A1(F:eA K "come_in" "come_in" p_ f fd)(B:Bl mg)(h:gu P w K mg base){b:Tok}(d:mg "NOBODY"=some (.int (-1) b)):bu P w K mg base dJ 3 f fd CB (dZ ⟨K,mg⟩ 3 kZ):=by
 have g:=tU.nd
 refine bq F tU λc A a s H E e=> ?_
 delta sT
 ac_rfl
def zR:aG ["world","scene","hand","row","room","deed","frame","values","frames"] bG (aA wV):=fq
def EB(F:eA K "by_do" "by_do" wV f fd)(B:Bl mg)(e:hV P w K mg base)(i:fU P w K mg base)(c:vn P w K mg base)(d:iM P w K mg base):bu P w K mg base dJ 10 f fd bG (dZ ⟨K,mg⟩ 4 xa):=by
 have h:=zR.nd
 refine bq F zR λb A a s H E g=> ?_
 delta A8
 ac_rfl
def um:aG ["world","scene","hand","word","room"] B2 (aA qf):=fq
def Bk(F:eA K "bell_of" "bell_of" qf f fd)(B:Bl mg)(c:dj P w K mg base)(d:hV P w K mg base):bu P w K mg base dJ 3 f fd B2 (dZ ⟨K,mg⟩ 4 jn):=by
 have g:=um.nd
 refine bq F um λb A a s H E e=> ?_
 delta sC
 ac_rfl
def oN:aG ["scene","room","bell","line","state"] CD (aA k8):=fq
def wQ(F:eA K "with_line" "with_line" k8 f fd)(B:Bl mg)(g:gu P w K mg base)(c:gd P w K mg base):bu P w K mg base dJ 3 f fd CD (dZ ⟨K,mg⟩ 4 eV):=by
 have e:=oN.nd
 refine bq F oN λb A a s H E d=> ?_
 delta mV
 ac_rfl
def zH:aG ["scene","room","values","within","row","late","bells"] B9 (aA x9):=fq
def EI(F:eA K "leave" "leave" x9 f fd)(B:Bl mg)(h:gu P w K mg base){b:Tok}(d:mg "NOBODY"=some (.int (-1) b)):bu P w K mg base dJ 3 f fd B9 (dZ ⟨K,mg⟩ 2 qx):=by
 have g:=zH.nd
 refine bq F zH λc A a s H E e=> ?_
 delta A6
 ac_rfl
def uk:aG ["world","scene","hand","row","room","bell","turn","line","ahead","waiting"] bG (aA pF):=fq
def AV(F:eA K "by_wait" "by_wait" pF f fd)(B:Bl mg)(c:p6 P w K mg base)(i:fU P w K mg base)(h:kT P w K mg base)(e:Cq P w K mg base):bu P w K mg base dJ 10 f fd bG (dZ ⟨K,mg⟩ 4 oF):=by
 have g:=uk.nd
 refine bq F uk λb A a s H E d=> ?_
 delta sQ
 ac_rfl
 refine cH (N:= ["other","waiter","turn"]) (js:= [none,none,some 6]) (aM.gen rfl rfl rfl rfl rfl rfl) rfl ?_ (λ_ _ _ _=> ?_) (λ_ _ _ _=> ?_) (λ_ _ _ _=> ?_)
 ac_rfl
def tP:aG ["world","scene","hand","row","room","bell","line","called","values","within","queue","late","bells"] bG (aA pR):=fq
def A_(F:eA K "by_call" "by_call" pR f fd)(B:Bl mg)(c:p6 P w K mg base)(g:kT P w K mg base)(h:gu P w K mg base):bu P w K mg base dJ 4 f fd bG (dZ ⟨K,mg⟩ 4 pj):=by
 have e:=tP.nd
 refine bq F tP λb A a s H E d=> ?_
 delta ue
 ac_rfl
def wu:aG ["world","scene","hand","row","room","bell"] bG (aA tN):=fq
def DV(F:eA K "by_all" "by_all" tN f fd)(B:Bl mg)(c:p6 P w K mg base)(g:kT P w K mg base):bu P w K mg base dJ 4 f fd bG (dZ ⟨K,mg⟩ 4 sh):=by
 have e:=wu.nd
 refine bq F wu λb A a s H E d=> ?_
 delta xw
 ac_rfl
def sY:aG ["world","scene","hand","row","told"] bG (aA qt):=fq
def BH(F:eA K "by_tell" "by_tell" qt f fd)(B:Bl mg)(h:fU P w K mg base)(c:iJ P w K mg base)(d:dj P w K mg base):bu P w K mg base dJ 10 f fd bG (dZ ⟨K,mg⟩ 4 oK):=by
 have g:=sY.nd
 refine bq F sY λb A a s H E e=> ?_
 delta sI
 ac_rfl
def xG:aG ze ze (aA lu):=fq
def ye(F:eA K "with_pass" "with_pass" lu f fd)(B:Bl mg)(c:gd P w K mg base):bu P w K mg base dJ 2 f fd ze (dZ ⟨K,mg⟩ 3 eT):=by
 refine bq F xG λb A a s H E d=> ?_
 delta mS
 ac_rfl
end
section
variable{P:Program}{w:World}{K:PySem.W.Frag}{mg:Str->Option Value}{base:Heap}{f:Addr}{fd:FuncData}
def zP:aG ["world","scene","hand","name","place","value","row"] Cv (aA xM):=fq
def Ga(F:eA K "taken" "taken" xM f fd)(B:Bl mg)(c:hV P w K mg base)(e:qD P w K mg base):bu P w K mg base dJ 3 f fd Cv (dZ ⟨K,mg⟩ 4 ud):=by
 have g:=zP.nd
 refine bq F zP λb A a s H E d=> ?_
 delta Bf
 ac_rfl
def AA:aG bG bG (aA pG):=fq
def Bc(F:eA K "by_take" "by_take" pG f fd)(B:Bl mg)(c:BX P w K mg base):bu P w K mg base dJ 4 f fd bG (dZ ⟨K,mg⟩ 4 pq):=by
 refine bq F AA λb A a s H E d=> ?_
 delta su
 ac_rfl
def mG:aG ["world","scene","name","place","value","row"] wY (aA jT):=fq
def vg(F:eA K "given_back" "given_back" jT f fd)(B:Bl mg)(e:hV P w K mg base)(h:qD P w K mg base){b:Tok}(d:mg "HIGHEST"=some (.int (9) b)):bu P w K mg base dJ 3 f fd wY (dZ ⟨K,mg⟩ 3 gA):=by
 have i:=mG.nd
 refine bq F mG λc A a s H E g=> ?_
 delta kI
 ac_rfl
def AK:aG bG bG (aA qo):=fq
def Bd(F:eA K "by_give" "by_give" qo f fd)(B:Bl mg)(c:oU P w K mg base):bu P w K mg base dJ 4 f fd bG (dZ ⟨K,mg⟩ 4 nV):=by
 refine bq F AK λb A a s H E d=> ?_
 delta sD
 ac_rfl
def Bi:aG bG bG (aA pL):=fq
def AX(F:eA K "by_pass" "by_pass" pL f fd)(B:Bl mg)(d:BX P w K mg base)(c:oU P w K mg base):bu P w K mg base dJ 4 f fd bG (dZ ⟨K,mg⟩ 4 oA):=by
 refine bq F Bi λb A a s H E e=> ?_
 delta ug
 ac_rfl
def DH:aG bG bG (aA sJ):=fq
def D0(F:eA K "by_say" "by_say" sJ f fd)(B:Bl mg):bu P w K mg base dJ 1 f fd bG (dZ ⟨K,mg⟩ 4 rX):=by
 refine bq F DH λb A a s H E c=> ?_
 delta yl
 ac_rfl
def qQ:aG ["world","scene","hand","row","deed"] bG (aA mX):=fq
def zw(F:eA K "row_done" "row_done" mX f fd)(B:Bl mg)(e:∀x F,tq.lookup x=some F->eX P w K mg base 10 x bG F)(b:B5 P w K mg "DONE_BY" lT):bu P w K mg base dJ 11 f fd bG (dZ ⟨K,mg⟩ 4 jm):=by
 have d:=qQ.nd
 refine bq F qQ λg A a s H E c=> ?_
 exact(bZ (pS 4 d (Hh b rfl (er (v_ 3) bc) (λ_ _=>rfl)))
  (dP (wm (Hl e (c.mono (by decide)) rfl (by first|exact Or.inl rfl|exact Or.inr (Or.inl rfl)) (az (v_ 0) (az (v_ 1) (az (v_ 2) (az (v_ 3) aW)))) (lS (lS (lS (lS AG))))))))
def qG:aG ["world","scene","hand","values","frames","room","deed","row","given","told","outside","came_by"] cC (aA mL):=fq
def zW(F:eA K "end_deed" "end_deed" mL f fd)(B:Bl mg)(c:iM P w K mg base)(g:Cq P w K mg base)(i:gR P w K mg base)(d:qO P w K mg base):bu P w K mg base dJ 4 f fd cC (dZ ⟨K,mg⟩ 3 jh):=by
 have h:=qG.nd
 refine bq F qG λb A a s H E e=> ?_
 delta pH
 ac_rfl
def t6:aG ["world","scene","hand","frame","room","program","row","event"] cC (aA p7):=fq
def Ba(F:eA K "step_of" "step_of" p7 f fd)(B:Bl mg)(l:dj P w K mg base)(j:vn P w K mg base)(i:gR P w K mg base)(m:A3 P w K mg base)(n:fU P w K mg base)(g:AY P w K mg base)(k:uG P w K mg base){b:Tok}(h:mg "OWN"=some (.int (-1) b)):bu P w K mg base dJ 12 f fd cC (dZ ⟨K,mg⟩ 3 oX):=by
 have e:=t6.nd
 refine bq F t6 λc A a s H E d=> ?_
 delta kJ
 ac_rfl
def Bp:aG cC cC (aA qe):=fq
def AH(F:eA K "stepped" "stepped" qe f fd)(B:Bl mg)(c:nF P w K mg base)(e:D1 P w K mg base):bu P w K mg base dJ 13 f fd cC (dZ ⟨K,mg⟩ 3 oM):=by
 refine bq F Bp λb A a s H E d=> ?_
 delta ur
 ac_rfl
def mB:aG ["_law_hand_here","_law_world_here","_law_most","_law_scene","_law_weaving","_law_scenes","_law_stretch","_law_some","_law_own","_law_turn"] Cf (aA jI):=fq
def vh(F:eA K "_law_weave" "_law_weave" jI f fd)(B:Bl mg)(g:GM P w K mg base)(d:cx P w K mg base)(e:nF P w K mg base)(m:gC P w K mg base)(h:C5 P w K mg base):bu P w K mg base dJ 14 f fd Cf (dZ ⟨K,mg⟩ 3 iU):=by
 have b:=mB.nd
 refine FM F mB λn A c s H E a=> ?_
 have k:=a.units0
 exact(bZ (IM (Ho (i:=3) (j:=4) (l:=5) rfl b rfl rfl rfl (by decide) (by decide) (by decide) rfl rfl rfl (az (gU g a (az (v_ 1) aW)) (az (fD (gM aW)) (az (fD (gM (az (gU g a (az (v_ 1) aW)) aW))) aW))) rfl))
  (bZ (uf PassesOwn.never rfl (xt rfl B.range (n_ bc (gU d a (az (v_ 0) (az bc aW))))) (uV 6 b) (bZ (pS 7 b (fD (JT e a (az (v_ 1) (az (v_ 3) aW)))))
  (dP (wF (rY k (uJ (v_ 7))) (bZ (pS 8 b (gU m a (az (v_ 0) (az (v_ 7) aW))))
  (dP (uf PassesOwn.never rfl (xt rfl B.range (n_ bc (gU d a (az (v_ 0) (az (er (fD (gM (az bc (az bc aW)))) (gU d a (az (v_ 0) (az bc aW)))) aW))))) (uV 9 b) (dP (wF (PW.pt (w_and (kU Fg Fx (zJ rfl B.len (uJ (v_ 4))) (v_ 2) (eW _)) (tj (MF (v_ 8) (Ng (JT e a (az (v_ 1) (az (v_ 3) aW)))))))) (bZ (pS 3 b (er (gU h a (az (v_ 1) (az (v_ 3) (az (v_ 8) aW)))) bc))
  (bZ (eS (c_ (v_ 4) (v_ 8)))
  (dP (eS (c_ (v_ 5) (v_ 3)))))) v8))))) v8))))
  (dP (wm (eG (az (Ct rfl B.tuple (Iw (uJ (v_ 4))) (ht:=q5)) (az (v_ 5) aW)))))))
def oz:aG ["_law_world_here","_law_scene","_law_found","_law_one","_law_room_here","_law_bell","_law_row","_law_state"] q_ (aA lj):=fq
def yn(F:eA K "_law_rows" "_law_rows" lj f fd)(B:Bl mg):bu P w K mg base dJ 1 f fd q_ (dZ ⟨K,mg⟩ 2 j0):=by
 have a:=oz.nd
 refine FM F oz λc A b s H E d=> ?_
 exact(bZ (pS 2 a (fD (gM aW)))
  (bZ (uf PassesOwn.never rfl (FS rfl B.zip (uJ (er (v_ 0) bc)) (uJ (er (v_ 1) bc))) (Fs rfl (lN (uV 3 a) (lN (uV 4 a) A5))) (bZ (eS (c_ (v_ 2) (eG (az (eG (az eK (az (er (v_ 3) bc) aW))) (az (fD (Bu rfl B.list (uJ (er (v_ 4) bc)))) aW)))))
  (bZ (eS (c_ (v_ 2) (eG (az (eG (az eK (az (er (v_ 3) bc) aW))) (az (fD (Bu rfl B.list (uJ (er (v_ 4) bc)))) aW)))))
  (dP (uf PassesOwn.never rfl (FS rfl B.zip (uJ (er (v_ 3) bc)) (uJ (er (v_ 4) bc))) (Fs rfl (lN (uV 5 a) (lN (uV 6 a) A5))) (dP (eS (c_ (v_ 2) (eG (az (eG (az eK (az (er (v_ 3) bc) (az (er (v_ 5) bc) aW)))) (az (fD (E_ (N:= ["_law_pair"]) (js:= [none]) (aM.gen rfl rfl rfl rfl rfl rfl) rfl (LF (uJ (v_ 6))) (λ_ _ _ _=>(M_ 0)) (λ_ _ _ _=>Lp) (λ_ _ _ _=>(er (v_ 0) bc)))) aW)))))))))))
  (bZ (uf PassesOwn.never rfl (FS rfl B.zip (uJ (er (v_ 0) bc)) (uJ (er (v_ 1) bc))) (Fs rfl (lN (uV 3 a) (lN (uV 7 a) A5))) (dP (eS (c_ (v_ 2) (eG (az (eG (az eK (az (er (v_ 3) bc) aW))) (az (fD (Bu rfl B.list (uJ (er (v_ 7) bc)))) aW)))))))
  (dP (wm (v_ 2))))))
end
section
variable{P:Program}{w:World}{K:PySem.W.Frag}{mg:Str->Option Value}{base:Heap}{f:Addr}{fd:FuncData}
def mj:aG ["_law_world_here","_law_scene","_law_own","_law_there","_law_told","_law_row","_law_frame","_law_name"] CN (aA jL):=fq
def u7(F:eA K "_law_place" "_law_place" jL f fd)(B:Bl mg)(e:zy P w K mg base):bu P w K mg base dJ 2 f fd CN (dZ ⟨K,mg⟩ 3 iE):=by
 have g:=mj.nd
 refine bq F mj λc A a s H E b=> ?_
 have d:=b.units0
 delta kH
 ac_rfl
def iP:aG ["world","scene","hand","name","first","value","row","room","state","bell","sort","line"] cC (aA fT):=fq
def oV(F:eA K "place_in_a_row" "place_in_a_row" fT f fd)(B:Bl mg)(c:t8 P w K mg base):bu P w K mg base dJ 2 f fd cC (dZ ⟨K,mg⟩ 3 eN):=by
 have e:=iP.nd
 refine bq F iP λb A a s H E d=> ?_
 delta gK
 ac_rfl
def vM:aG ["world","scene","hand","waits","frame","room","name"] cC (aA sO):=fq
def De(F:eA K "stands" "stands" sO f fd)(B:Bl mg)(i:qd P w K mg base)(d:dj P w K mg base)(h:gR P w K mg base){b:Tok}(j:mg "OWN"=some (.int (-1) b)):bu P w K mg base dJ 3 f fd cC (dZ ⟨K,mg⟩ 3 rT):=by
 have g:=vM.nd
 refine bq F vM λc A a s H E e=> ?_
 delta xI
 ac_rfl
def mq:aG ["_law_world_here","_law_scene","_law_places","_law_can","_law_k","_law_room_here","_law_inside"] q_ (aA j9):=fq
def vi(F:eA K "_law_right" "_law_right" j9 f fd)(B:Bl mg)(e:xJ P w K mg base)(d:EW P w K mg base)(h:nF P w K mg base):bu P w K mg base dJ 4 f fd q_ (dZ ⟨K,mg⟩ 2 iT):=by
 have i:=mq.nd
 refine bq F mq λc A a s H E b=> ?_
 have g:=b.units0
 delta lF
 ac_rfl
 refine jx (n:=2) (N:=Ir) (js:= [none,some 0,some 1]) (aM.gen rfl rfl rfl rfl rfl rfl) rfl ?_ (λ_ _ _ _=> ?_) (λ_ _ _ _=> ?_) (λ_ _ _ _=> ?_) ?_
 ac_rfl
 refine cH (N:=Ir) (js:= [none,some 0,some 1]) (aM.gen rfl rfl rfl rfl rfl rfl) rfl ?_ (λ_ _ _ _=> ?_) (λ_ _ _ _=> ?_) (λ_ _ _ _=> ?_)
 ac_rfl
 refine jx (n:=3) (N:= ["_law_own","_law_place_here"]) (js:= [none,none]) (aM.gen rfl rfl rfl rfl rfl rfl) rfl ?_ (λ_ _ _ _=> ?_) (λ_ _ _ _=> ?_) (λ_ _ _ _=> ?_) ?_
 ac_rfl
 refine cH (N:= ["_law_frame"]) (js:= [none]) (aM.gen rfl rfl rfl rfl rfl rfl) rfl ?_ (λ_ _ _ _=> ?_) (λ_ _ _ _=> ?_) (λ_ _ _ _=> ?_)
 ac_rfl
 refine jx (n:=6) (N:= ["_law_own","_law_place_here","_law_world_here","_law_k"]) (js:= [none,none,some 0,some 4]) (aM.gen rfl rfl rfl rfl rfl rfl) rfl ?_ (λ_ _ _ _=> ?_) (λ_ _ _ _=> ?_) (λ_ _ _ _=> ?_) ?_
 ac_rfl
def FI:aG ["_law_script","_law_k","_law_hand_here","_law_world_here","_law_weaving","_law_scenes"] FX (aA oG):=fq
def JU(F:eA K "law" "law" oG f fd)(B:Bl mg)(g:zh P w K mg base)(e:w_ P w K mg base)(j:cx P w K mg base)(d:w4 P w K mg base)(c:xW P w K mg base):bu P w K mg base dJ 15 f fd FX (dZ ⟨K,mg⟩ 1 HL):=by
 have i:=FI.nd
 refine bq F FI λb A a s H E h=> ?_
 delta IZ
 ac_rfl
 refine cH (N:= ["_law_scene","_law_world_here"]) (js:= [none,some 3]) (aM.gen rfl rfl rfl rfl rfl rfl) rfl ?_ (λ_ _ _ _=> ?_) (λ_ _ _ _=> ?_) (λ_ _ _ _=> ?_)
 ac_rfl
end
def all_mk{l:PySem.W.OpenLaw}{w:World}{K:PySem.W.Frag}{h:Heap}{mg:Str->Option Value}{fa f1 f2 f3 f4 f5 f6 f7 f8 f9 p1 f0 s7 b5 k3 c4 h1 n9 c2 g4 q2 h2 n2 k9 q8 g1 s4 a5 d0 b8 Q h7 n8 L y l6 U q6 m0 q1 j R H N s1 b6 z b7 a0 r n l5 b2 e9 o9 o2 b9 i1 p3 u1 r7 g:Addr}(X:K.In h)(G:h.Ns mainGlobals mg)(l2:mg "law"=some (.ref fa))
  (d1:a9 K "_law_hand" lD f1)
  (d2:a9 K "_law_take" kC f2)
  (d3:a9 K "_law_names" j6 f3)
  (d4:a9 K "_law_pick" kX f4)
  (d5:a9 K "_law_sum" mI f5)
  (d6:a9 K "_law_wait" kY f6)
  (d7:a9 K "_law_deed" lE f7)
  (d8:a9 K "_law_room" ku f8)
  (d9:a9 K "_law_rooms" jD f9)
  (h5:a9 K "_law_program" ig p1)
  (h4:a9 K "_law_world" j3 f0)
  (s8:a9 K "values_of" kW s7)
  (j4:a9 K "begun_room" jy b5)
  (k7:a9 K "begun" w5 k3)
  (s6:a9 K "hands_at" nh c4)
  (h3:a9 K "hands_in_rows" gI h1)
  (p9:a9 K "last_frame" j2 n9)
  (t3:a9 K "program_of" jS c2)
  (s2:a9 K "is_behind_all" gG g4)
  (m2:a9 K "may_step" mW q2)
  (e3:a9 K "names_of" m_ h2)
  (r2:a9 K "place_of" mY n2)
  (n4:a9 K "with_part" kN k9)
  (t1:a9 K "with_hand" kL q8)
  (l4:a9 K "with_room" kR g1)
  (r3:a9 K "put_thing" lB s4)
  (g0:a9 K "value_of_two" ie a5)
  (r5:a9 K "value_of" nc d0)
  (o7:a9 K "reckoned" mM b8)
  (q0:a9 K "by_put" tZ Q)
  (p2:a9 K "with_last_frame" fA h7)
  (r1:a9 K "at_row" tV n8)
  (b1:a9 K "by_unless" kP L)
  (e4:a9 K "by_go" w9 y)
  (s0:a9 K "come_in" p_ l6)
  (j5:a9 K "by_do" wV U)
  (n0:a9 K "bell_of" qf q6)
  (e8:a9 K "with_line" k8 m0)
  (r4:a9 K "leave" x9 q1)
  (s5:a9 K "by_wait" pF j)
  (c3:a9 K "by_call" pR R)
  (o6:a9 K "by_all" tN H)
  (l1:a9 K "by_tell" qt N)
  (h6:a9 K "with_pass" lu s1)
  (j1:a9 K "taken" xM b6)
  (r9:a9 K "by_take" pG z)
  (o5:a9 K "given_back" jT b7)
  (h9:a9 K "by_give" qo a0)
  (r0:a9 K "by_pass" pL r)
  (l8:a9 K "by_say" sJ n)
  (h8:a9 K "row_done" mX l5)
  (o8:a9 K "end_deed" mL b2)
  (i5:a9 K "step_of" p7 e9)
  (b4:a9 K "stepped" qe o9)
  (q7:a9 K "_law_weave" jI o2)
  (k2:a9 K "_law_rows" lj b9)
  (p8:a9 K "_law_place" jL i1)
  (c5:a9 K "place_in_a_row" fT p3)
  (g3:a9 K "stands" sO u1)
  (a6:a9 K "_law_right" j9 r7)
  {oc kV dc pm cd ct:Value} {od an:Option Addr} {sl:Array (Option Value)} (m1:PySem.W.nsIn K mainGlobals "law"=some (some (.ref g))) (k0:K.lookup g=some ⟨oc,od,.func (PySem.W.fnOf "law" "law" (gV oG) (eO oG) (aA oG) .none kV dc pm an cd ct),sl⟩) (l7:PySem.W.codeIn K cd "law"=true) (l9:PySem.W.keepIn K (.ref g)=true)
  {iy:Tok} (Fl:PySem.W.nsIn K mainGlobals "NOBODY"=some (some (.int (-1) iy)))
  {hU:Tok} (Ln:PySem.W.nsIn K mainGlobals "OWN"=some (some (.int (-1) hU)))
  {je:Tok} (DC:PySem.W.nsIn K mainGlobals "HIGHEST"=some (some (.int (9) je)))
  {vK BF:Nat} {wJ wR yh wU wM xo w6 wA xQ xq vf uZ:Tok} (D6:PySem.W.nsIn K mainGlobals "DONE_BY"=some (some (.ref vK))) (A2:K.lookup vK=some ⟨.type "dict",none,.dict (List.toArray [⟨PyData.keyHash w.params "put",.str "put" wJ,.ref Q⟩,⟨PyData.keyHash w.params "unless",.str "unless" wR,.ref L⟩,⟨PyData.keyHash w.params "go",.str "go" yh,.ref y⟩,⟨PyData.keyHash w.params "do",.str "do" wU,.ref U⟩,⟨PyData.keyHash w.params "wait",.str "wait" wM,.ref j⟩,⟨PyData.keyHash w.params "call",.str "call" xo,.ref R⟩,⟨PyData.keyHash w.params "all",.str "all" w6,.ref H⟩,⟨PyData.keyHash w.params "tell",.str "tell" wA,.ref N⟩,⟨PyData.keyHash w.params "take",.str "take" xQ,.ref z⟩,⟨PyData.keyHash w.params "give",.str "give" xq,.ref a0⟩,⟨PyData.keyHash w.params "pass",.str "pass" vf,.ref r⟩,⟨PyData.keyHash w.params "say",.str "say" uZ,.ref n⟩]) BF,#[]⟩)
  (K6:PySem.W.nsIn K mainGlobals "len"=some none) (GT:PySem.W.nsIn K mainGlobals "tuple"=some none) (J_:PySem.W.nsIn K mainGlobals "list"=some none) (Jf:PySem.W.nsIn K mainGlobals "dict"=some none) (K0:PySem.W.nsIn K mainGlobals "set"=some none) (K1:PySem.W.nsIn K mainGlobals "int"=some none) (La:PySem.W.nsIn K mainGlobals "str"=some none) (Jg:PySem.W.nsIn K mainGlobals "bool"=some none) (L9:PySem.W.nsIn K mainGlobals "all"=some none) (L3:PySem.W.nsIn K mainGlobals "any"=some none) (HV:PySem.W.nsIn K mainGlobals "range"=some none) (LO:PySem.W.nsIn K mainGlobals "zip"=some none) (Es:PySem.W.nsIn K mainGlobals "sorted"=some none) (wG:PySem.W.nsIn K mainGlobals "isinstance"=some none) (LP:PySem.W.nsIn K mainGlobals "min"=some none) (L8:PySem.W.nsIn K mainGlobals "max"=some none) (Lk:PySem.W.nsIn K mainGlobals "abs"=some none) (zS:PySem.W.nsIn K mainGlobals "enumerate"=some none)
  (T:∀ns:List Int,ns.length<=63->∃S',HL [.ref 0] [.frz (ns.map D.int)]=some (.d (.bl true),S')):
  ∃fd:FuncData,(∀(s:Shared) (v:Value),BindsTo s fd ⟨[v],[]⟩ [("_law_script",v)])/\∀base:Heap,K.In base->base.Ns mainGlobals mg->bu l.prog w K mg base dJ 15 fa fd FX yU:=by
 have e:=l2.symm.trans (PySem.W.mg_of X G m1)
 cases e
 have e1:=BK (st:=oG) k0 l7 l9
 have O1:=d1.ok1 (ps:=BM) X G
 have O2:=d2.ok1 (ps:=yE) X G
 have O3:=d3.ok1 (ps:=yE) X G
 have O4:=d4.ok1 (ps:=yV) X G
 have O5:=d5.ok1 (ps:=wz) X G
 have O6:=d6.ok1 (ps:=BV) X G
 have O7:=d7.ok1 (ps:=Cj) X G
 have O8:=d8.ok1 (ps:=BZ) X G
 have O9:=d9.ok1 (ps:=G9) X G
 have t0:=h5.ok1 (ps:=CI) X G
 have o3:=h4.ok1 (ps:=GJ) X G
 have i2:=s8.ok1 (ps:=z9) X G
 have q9:=j4.ok1 (ps:=y9) X G
 have e5:=k7.ok1 (ps:=wC) X G
 have k4:=s6.ok1 (ps:=Ab) X G
 have t2:=h3.ok1 (ps:=Cc) X G
 have k5:=p9.ok1 (ps:=An) X G
 have t9:=t3.ok1 (ps:=BO) X G
 have b0:=s2.ok1 (ps:=cC) X G
 have c1:=m2.ok1 (ps:=yk) X G
 have c0:=e3.ok1 (ps:=zd) X G
 have n6:=r2.ok1 (ps:=yH) X G
 have g2:=n4.ok1 (ps:=yX) X G
 have s9:=t1.ok1 (ps:=zB) X G
 have o0:=l4.ok1 (ps:=zF) X G
 have n7:=r3.ok1 (ps:=CJ) X G
 have l3:=g0.ok1 (ps:=yM) X G
 have o4:=r5.ok1 (ps:=wy) X G
 have q3:=o7.ok1 (ps:=BS) X G
 have o:=q0.ok1 (ps:=bG) X G
 have l0:=p2.ok1 (ps:=Cw) X G
 have k6:=r1.ok1 (ps:=Cb) X G
 have q:=b1.ok1 (ps:=bG) X G
 have a3:=e4.ok1 (ps:=bG) X G
 have c6:=s0.ok1 (ps:=CB) X G
 have S:=j5.ok1 (ps:=bG) X G
 have e7:=n0.ok1 (ps:=B2) X G
 have b3:=e8.ok1 (ps:=CD) X G
 have e2:=r4.ok1 (ps:=B9) X G
 have I:=s5.ok1 (ps:=bG) X G
 have a1:=c3.ok1 (ps:=bG) X G
 have A:=o6.ok1 (ps:=bG) X G
 have J:=l1.ok1 (ps:=bG) X G
 have n5:=h6.ok1 (ps:=ze) X G
 have a4:=j1.ok1 (ps:=Cv) X G
 have a2:=r9.ok1 (ps:=bG) X G
 have e6:=o5.ok1 (ps:=wY) X G
 have C:=h9.ok1 (ps:=bG) X G
 have t:=r0.ok1 (ps:=bG) X G
 have Y:=l8.ok1 (ps:=bG) X G
 have e0:=h8.ok1 (ps:=bG) X G
 have p4:=o8.ok1 (ps:=cC) X G
 have s3:=i5.ok1 (ps:=cC) X G
 have h0:=b4.ok1 (ps:=cC) X G
 have r6:=q7.ok1 (ps:=Cf) X G
 have n1:=k2.ok1 (ps:=q_) X G
 have o1:=p8.ok1 (ps:=CN) X G
 have k1:=c5.ok1 (ps:=cC) X G
 have q4:=g3.ok1 (ps:=cC) X G
 have n3:=a6.ok1 (ps:=q_) X G
 have jo:=PySem.W.mg_of X G Fl
 have f:=PySem.W.mg_of X G Ln
 have lW:=PySem.W.mg_of X G DC
 have p5:B5 l.prog w K mg "DONE_BY" lT:=Fi (PySem.W.mg_of X G D6) A2 (.cons o.m (.cons q.m (.cons a3.m (.cons S.m (.cons I.m (.cons a1.m (.cons A.m (.cons J.m (.cons a2.m (.cons C.m (.cons t.m (.cons Y.m .nil)))))))))))) (by decide +kernel)
 have B:Bl mg:=⟨QFq X G K6,QFq X G GT,QFq X G J_,QFq X G Jf,QFq X G K0,QFq X G K1,QFq X G La,QFq X G Jg,QFq X G L9,QFq X G L3,QFq X G HV,QFq X G LO,QFq X G Es,QFq X G wG,QFq X G LP,QFq X G L8,QFq X G Lk,QFq X G zS⟩
 refine⟨PySem.W.fnOf "law" "law" (gV oG) (eO oG) (aA oG) .none kV dc pm an cd ct,λs v=>.of_eq rfl,λbase _ _=> ?_⟩
 have Z:Pk l.prog w base:=⟨⟩
 have qK:=O1.cal Z λ_ F _ _ _=>yy F B
 have a:=O2.cal Z λ_ F _ _ _=>wK F B
 have eC:=O3.cal Z λ_ F _ _ _=>u6 F B a
 have M:=O4.cal Z λ_ F _ _ _=>xh F B a
 have cQ:=O5.cal Z λ_ F b k m=>rf F B a M b k m 4
 have qA:=O6.cal Z λ_ F _ _ _=>xu F B M cQ a
 have qC:=O7.cal Z λ_ F _ _ _=>yd F B a qA M cQ
 have qz:=O8.cal Z λ_ F _ _ _=>wD F B a eC qC
 have oW:=O9.cal Z λ_ F _ _ _=>u0 F B eC a qz
 have lK:=t0.cal Z λ_ F _ _ _=>rh F B a M cQ
 have nZ:=o3.cal Z λ_ F _ _ _=>u4 F B oW eC a lK
 have iI:=i2.cal Z λ_ F _ _ _=>wZ F B
 have oE:=q9.cal Z λ_ F _ _ _=>uT F B iI jo
 have rZ:=e5.cal Z λ_ F _ _ _=>F3 F B iI oE f
 have jF:=k4.cal Z λ_ F _ _ _=>Ah F B
 have kh:=t2.cal Z λ_ F _ _ _=>pK F B jF
 have c:=k5.cal Z λ_ F _ _ _=>uS F B
 have dh:=t9.cal Z λ_ F _ _ _=>uO F B f
 have kc:=b0.cal Z λ_ F _ _ _=>qv F B c dh f
 have d_:=c1.cal Z λ_ F _ _ _=>Aq F B kh kc
 have fS:=c0.cal Z λ_ F _ _ _=>yG F B
 have u:=n6.cal Z λ_ F _ _ _=>zX F B fS
 have cK:=g2.cal Z λ_ F _ _ _=>yo F B
 have dE:=s9.cal Z λ_ F _ _ _=>yg F B cK
 have P:=o0.cal Z λ_ F _ _ _=>xS F B cK
 have iD:=n7.cal Z λ_ F _ _ _=>xC F B c u cK P fS dE f
 have hG:=l3.cal Z λ_ F _ _ _=>rA F B lW
 have nj:=o4.cal Z λ_ F b k m=>qU F B hG b k m 6
 have i:=q3.cal Z λ_ F _ _ _=>Ao F B c fS nj f
 have Em:=o.cal Z λ_ F _ _ _=>CU F B iD i
 have dW:=l0.cal Z λ_ F _ _ _=>mQ F B dE
 have i6:=k6.cal Z λ_ F _ _ _=>Dh F B c dW
 have y1:=q.cal Z λ_ F _ _ _=>xU F B i i6
 have Gv:=a3.cal Z λ_ F _ _ _=>Er F B i6
 have lU:=c6.cal Z λ_ F _ _ _=>A1 F B P jo
 have G1:=S.cal Z λ_ F _ _ _=>EB F B u i lU dE
 have g8:=e7.cal Z λ_ F _ _ _=>Bk F B c u
 have fj:=b3.cal Z λ_ F _ _ _=>wQ F B P cK
 have rO:=e2.cal Z λ_ F _ _ _=>EI F B P jo
 have Df:=I.cal Z λ_ F _ _ _=>AV F B g8 i fj rO
 have D4:=a1.cal Z λ_ F _ _ _=>A_ F B g8 fj P
 have Fe:=A.cal Z λ_ F _ _ _=>DV F B g8 fj
 have DY:=J.cal Z λ_ F _ _ _=>BH F B i dW c
 have iG:=n5.cal Z λ_ F _ _ _=>ye F B cK
 have rP:=a4.cal Z λ_ F _ _ _=>Ga F B u iG
 have CW:=a2.cal Z λ_ F _ _ _=>Bc F B rP
 have gZ:=e6.cal Z λ_ F _ _ _=>vg F B u iG lW
 have C7:=C.cal Z λ_ F _ _ _=>Bd F B gZ
 have DI:=t.cal Z λ_ F _ _ _=>AX F B rP gZ
 have Fv:=Y.cal Z λ_ F _ _ _=>D0 F B
 have uc:∀x F,tq.lookup x=some F->eX l.prog w K mg base 10 x bG F:=by
  refine Et λp hp=> ?_
  simp only[tq,Qsq,QXq,or_false] at hp
  rcases hp with rfl|rfl|rfl|rfl|rfl|rfl|rfl|rfl|rfl|rfl|rfl|rfl
  ·exact Em.mono (by decide)
  ·exact y1.mono (by decide)
  ·exact Gv.mono (by decide)
  ·exact G1.mono (by decide)
  ·exact Df.mono (by decide)
  ·exact D4.mono (by decide)
  ·exact Fe.mono (by decide)
  ·exact DY.mono (by decide)
  ·exact CW.mono (by decide)
  ·exact C7.mono (by decide)
  ·exact DI.mono (by decide)
  ·exact Fv.mono (by decide)
 have t5:=e0.cal Z λ_ F _ _ _=>zw F B uc p5
 have sH:=p4.cal Z λ_ F _ _ _=>zW F B dE rO dh iD
 have vH:=s3.cal Z λ_ F _ _ _=>Ba F B c lU dh sH i t5 i6 f
 have pY:=h0.cal Z λ_ F _ _ _=>AH F B d_ vH
 have nY:=r6.cal Z λ_ F _ _ _=>vh F B rZ a d_ M pY
 have qW:=n1.cal Z λ_ F _ _ _=>yn F B
 have nX:=o1.cal Z λ_ F _ _ _=>u7 F B qW
 have jg:=k1.cal Z λ_ F _ _ _=>oV F B jF
 have yQ:=q4.cal Z λ_ F _ _ _=>De F B jg c dh f
 have oZ:=n3.cal Z λ_ F _ _ _=>vi F B nX yQ d_
 exact He (JU e1 B qK nZ a nY oZ) T
end W28
namespace DL
open PySem PySem.Spec L2
def xF{a:cv}{S:aC}{Q:Bool->aC->Prop}(q:Q true S):E cu a S Q:=⟨_,_,rfl,q⟩
section
variable{S:aC}
def N6{i j:Int}{Q:D->Prop}(q:Q (.int (i+j))):Op (bQ S (.int i) (.int j)) Q:=⟨_,rfl,q⟩
def A0{i j:Str}{Q:D->Prop}(h:i.length+j.length<=sizeLine)(q:Q (.str (i++j))):Op (bQ S (.str i) (.str j)) Q:=⟨_,by simp only[bQ];rw[Qhq h],q⟩
def dU{i j:List D}{Q:D->Prop}(h:i.length+j.length<=sizeLine)(q:Q (.tup (i++j))):Op (bQ S (.tup i) (.tup j)) Q:=⟨_,by simp only[bQ];rw[Qhq h],q⟩
def ua{k:Int->Int->D}{i j:Int}{Q:D->Prop}(q:Q (k i j)):Op (intD (λ_ _=>True) k S (.int i) (.int j)) Q:=⟨_,by simp only[intD,if_true],q⟩
def pk{i j:Int}{Q:D->Prop}(h:0<j)(q:Q (.int (i%j))):Op (pw S (.int i) (.int j)) Q:=⟨_,by simp only[pw,intD];rw[Qhq h],q⟩
def Bv{i j:Int}{Q:D->Prop}(h:EK i j)(q:Q (.int (i/j))):Op (wa S (.int i) (.int j)) Q:=⟨_,by simp only[wa,intD];rw[Qhq h],q⟩
def oJ{i j:Int}{Q:D->Prop}(h:Ha i j)(q:Q (.int (i*j))):Op (oO S (.int i) (.int j)) Q:=⟨_,by simp only[oO,intD];rw[Qhq h.ok],q⟩
def aw{ds:List D}{i:Int}{d:D}{Q:D->Prop}(h:jw ds i=some d)(q:Q d):Op (kf S (.tup ds) (.int i)) Q:=⟨_,h,q⟩
def dN{k:Nat}{ds:List D}{i:Int}{d:D}{Q:D->Prop}(a:S[k]?=some (.lst ds))(h:jw ds i=some d)(q:Q d):Op (kf S (.ref k) (.int i)) Q:=⟨_,by simp only[kf,a];exact h,q⟩
def bH{ds:List D}{Q:List D×Tag->Prop}(q:Q (ds,.tu)):Op (pZ S (.tup ds)) Q:=⟨_,rfl,q⟩
def a_{k:Nat}{ds:List D}{Q:List D×Tag->Prop}(a:S[k]?=some (.lst ds))(q:Q (ds,.st k)):Op (pZ S (.ref k)) Q:=⟨_,by simp only[pZ,a],q⟩
end
def aN{b:Bool}{p q:Prop}(c:b=true->p)(a:b=false->q):if b=true then p else q:=by
 cases b with
 |true=>exact c rfl
 |false=>exact a rfl
end DL
local macro_rules|`(tactic|symm)=>do
 let mut a:Array (Lean.TSyntax `Lean.Parser.Tactic.tacticSeq):= #[]
 for s in (["bA","dX","vQ","MI","ou","Nu","fX","bW","t_auS","fK","mD","cE","ke","FO","Cy","sW","Np","fh","xg","EH","Jb","KB","o_","Bo","yu","bV","Im","Kf","jU","K4","Oj","xF","aS","Ot","Iv","uY","N6","ua","bH"]:List String) do a:=a.push (←`(tacticSeq|refine $(Lean.mkIdent (.str (.str .anonymous "DL") s)) ?_))
 `(tactic|repeat(first|(with_reducible first $[| $a]*)|((with_reducible refine DL.bp (d := ?_) ?_ ?_); rotate_left; rfl)|dsimp only))
local macro_rules|`(tactic|apply $e)=>`(tactic|(refine $e;symm))
namespace W28
open PySem PySem.Spec L2 DL
def rE(a b c:Int):O:=.lst [.int a,.int b,.int c]
def Dd{S:aC}{k:Nat}{a b i m:Int}{Q:Res->aC->Prop}(e:S[k]?=some (rE a b i))(q:0<=i)(t:i<1000000000)(f:0<m)(w:m<1000000)
  (h:∀(d p r l:Int),0<=d->d<m->0<=l->l<=i+1->Q (.d (.int d)) (S.set k (rE p r l))):Fn aB [.ref k,.int m] S Q:=by
 have s:k<S.length:=(gQs.mp e).1
 have n:∀(o:O),(S.set k o).take S.length=S.set k o:=λo=>by rw[List.take_of_length_le];simp
 refine bT ?_
 unfold mN
 symm
 refine dN e rfl ?_
 symm
 refine aN (λc=> ?_) (λc=> ?_)
 ·symm
  refine dN e rfl ?_
  symm
  refine pk f ?_
  symm
  refine dN e rfl ?_
  symm
  refine Bv ⟨f,by omega⟩ ?_
  symm
  refine⟨_,_,_,_,rfl,rfl,e,rfl,?_⟩
  symm
  refine fW (vN (by rfl)) (n _) (λ_ z=>by cases z) rfl ?_
  exact h _ _ _ _ (Int.emod_nonneg _ (by omega)) (Int.emod_lt_of_pos _ f) q (by omega)
 ·symm
  refine dN e rfl ?_
  symm
  refine⟨_,_,_,_,rfl,rfl,e,rfl,?_⟩
  have j:∀o:O,(S.set k o)[k]?=some o:=λo=>by rw[Qyq s]
  symm
  refine dN (j _) rfl ?_
  symm
  refine dN (j _) rfl ?_
  refine oJ (.inl ⟨by decide,by decide⟩) ?_
  symm
  refine dN (j _) rfl ?_
  refine oJ (.inr ⟨by omega,by omega⟩) ?_
  symm
  refine oJ (.inr ⟨by decide,by decide⟩) ?_
  symm
  refine pk (by decide) ?_
  generalize g:(_:Int)%2305843009213693921=mx
  have u:0<=mx:=by rw[←g];exact Int.emod_nonneg _ (by decide)
  have v:mx<2305843009213693921:=by rw[←g];exact Int.emod_lt_of_pos _ (by decide)
  symm
  refine pk (by decide) ?_
  symm
  refine dN (j _) rfl ?_
  refine oJ (.inl ⟨by decide,by decide⟩) ?_
  symm
  refine oJ (.inl ⟨by omega,by omega⟩) ?_
  symm
  refine pk (by decide) ?_
  symm
  refine Bv ⟨by decide,by decide⟩ ?_
  symm
  refine Bv ⟨by decide,by decide⟩ ?_
  symm
  refine pk f ?_
  symm
  refine fW (vN (by rfl)) (n _) (λ_ z=>by cases z) rfl ?_
  exact h _ _ _ _ (Int.emod_nonneg _ (by omega)) (Int.emod_lt_of_pos _ f) (by omega) (by omega)
structure Ex(k n:Nat)(S S':aC):Prop where
 len:S.length<=S'.length
 keep:∀(j:Nat) (o:O),j≠k->S[j]?=some o->S'[j]?=some o
 pot:∃a b c,S'[k]?=some (rE a b c)/\0<=c/\c<=n
def Ex.refl{k n:Nat}{S:aC}{a b c:Int}(h:S[k]?=some (rE a b c))(d:0<=c)(e:c<=n):Ex k n S S:=⟨Qmq _,λ_ _ _ h=>h,_,_,_,h,d,e⟩
def Ex.here{k n:Nat}{e S:aC}(x:Ex k n e S):Ex k n S S:=by obtain⟨a,b,c,h,d,f⟩:=x.pot;exact Ex.refl h d f
def Ex.mono{k n m:Nat}{S d:aC}(x:Ex k n S d)(h:n<=m):Ex k m S d:=⟨x.len,x.keep,by obtain⟨a,b,c,e,f,g⟩:=x.pot;exact⟨a,b,c,e,f,by omega⟩⟩
def Ex.trans{k n m:Nat}{S a S2:aC}(x:Ex k n S a)(y:Ex k m a S2):Ex k m S S2:=⟨QAq x.len y.len,λj o n h=>y.keep j o n (x.keep j o n h),y.pot⟩
def Ex.set{k n m:Nat}{S d:aC}{a b c:Int}(x:Ex k n S d)(e:0<=c)(f:c<=m):Ex k m S (d.set k (rE a b c)):=by
 obtain⟨_,_,_,h,_,_⟩:=x.pot
 refine⟨by simpa using x.len,λj o n h=> ?_,a,b,c,Qyq (gQs.mp h).1,e,f⟩
 rw[QKq (Ne.symm n)]
 exact x.keep j o n h
def Ex.app{k n:Nat}{S d G:aC}(x:Ex k n S d):Ex k n S (d++G):=by
 obtain⟨a,b,c,h,e,f⟩:=x.pot
 refine⟨by rw[lQa];have:=x.len;omega,λj o n h=> ?_,a,b,c,?_,e,f⟩
 ·have:=x.keep j o n h
  rw[QHq (gQs.mp this).1]
  exact this
 ·rw[QHq (gQs.mp h).1]
  exact h
def Ex.put{k n r:Nat}{S d:aC}{o:O}(x:Ex k n S d)(m:S.length<=r)(i:k<S.length):Ex k n S (d.set r o):=by
 obtain⟨a,b,c,h,f,g⟩:=x.pot
 refine⟨by simpa using x.len,λj e n h=> ?_,a,b,c,?_,f,g⟩
 ·have l:=(gQs.mp h).1
  rw[QKq (by omega)]
  exact x.keep j e n h
 ·rw[QKq (by omega)]
  exact h
def Ex.lt{k n:Nat}{S d:aC}(x:Ex k n S d):k<d.length:=by
 obtain⟨a,b,c,h,_⟩:=x.pot
 exact(gQs.mp h).1
def aH{S G:aC}{j:Nat}{o:O}(h:S[j]?=some o):(S++G)[j]?=some o:=by
 rw[QHq (gQs.mp h).1]
 exact h
def aJ{S:aC}{o:O}:(S++ [o])[S.length]?=some o:=by simp
def ft{S:aC}{k j:Nat}{o o':O}(n:j≠k)(h:S[j]?=some o):(S.set k o')[j]?=some o:=by
 rw[QKq (Ne.symm n)]
 exact h
def cj{S:aC}{j:Nat}{o o':O}(h:S[j]?=some o):(S.set j o')[j]?=some o':=Qyq (gQs.mp h).1
def Ex.clean{k n:Nat}{S f:aC}(x:Ex k n S f)(p:k<S.length):oS S f/\∃a b c:Int,0<=c/\c<=n/\f.take S.length=S.set k (rE a b c):=by
 obtain⟨a,b,c,h,l,m⟩:=x.pot
 have g:∀j,j<S.length->f[j]?=(S.set k (rE a b c))[j]? :=λj d=>by
  by_cases e:j=k
  ·subst e
   rw[h,Qyq d]
  ·rw[QKq (Ne.symm e),x.keep j _ e (gQe d),gQe d]
 refine⟨⟨x.len,λj o d e=> ?_⟩,a,b,c,l,m,?_⟩
 ·by_cases i:j=k
  ·subst i
   rw[h] at e
   cases e
   exact .inr rfl
  ·rw[x.keep j _ i (gQe d)] at e
   rw[gQe d]
   exact .inl e
 ·apply List.ext_getElem?
  intro j
  by_cases d:j<S.length
  ·rw[List.getElem?_take_of_lt d]
   exact g j d
  ·rw[List.getElem?_eq_none (by rw[Qxq];omega),List.getElem?_eq_none (by simp;omega)]
def qY{k n m:Nat}{S f h:aC}{d:D}{Q:Res->aC->Prop}(e:Ex k n S f)(x:Ex k m h S)(hd:∀k,d≠.ref k)(hl:bK S.length d=true)(q:∀S2,Ex k n h S2->Ex k n S S2->S2.length=S.length->Q (.d d) S2):Op (settle S d f) λp=>Q p.1 p.2:=by
 obtain⟨l,a,b,c,i,g,j⟩:=e.clean x.lt
 exact fW l j hd hl (q _ (x.set i g) (x.here.set i g) (by simp))
def Iz{k n m:Nat}{S d g:aC}{ds:List D}{Q:Res->aC->Prop}(e:Ex k n S d)(x:Ex k m g S)(hl:bD S.length ds=true)(q:∀S2,Ex k n g S2->Ex k n S S2->S2.length=S.length->Q (.l ds) S2):Op (eB S ds d) λp=>Q p.1 p.2:=by
 obtain⟨j,a,b,c,h,f,i⟩:=e.clean x.lt
 exact m9 j i hl (q _ (x.set h f) (x.here.set h f) (by simp))
def bB{S f:aC}{k n:Nat}{m:Int}{Q:Res->aC->Prop}(x:Ex k n f S)(y:n<1000000000)(l:0<m)(p:m<1000000)
  (h:∀(d:Nat) (e:aC),(d:Int)<m->Ex k (n+1) f e->Ex k (n+1) S e->e.length=S.length->Q (.d (.int d)) e):Fn aB [.ref k,.int m] S Q:=by
 obtain⟨a,b,c,i,o,s⟩:=x.pot
 refine Dd i o (by omega) l p λd r w u t q g v=> ?_
 obtain⟨j,rfl⟩:∃j:Nat,d=j:=⟨d.toNat,by omega⟩
 exact h j _ q (x.set g (by omega)) (x.here.set g (by omega)) (by simp)
def aR{α:Type}{xs:List α}{j:Nat}{x:α}(h:xs[j]?=some x):jw xs (j:Int)=some x:=by
 have a:=(gQs.mp h).1
 unfold jw Gs
 rw[Qhq (by omega),Qhq (by omega)]
 simpa using h
def eD{S m:aC}{k n i:Nat}{xs:List D}{Q:Res->aC->Prop}(x:Ex k n m S)(q:n<1000000000)(hi:i≠k)(l:S[i]?=some (.lst xs))(u:0<xs.length)(s:xs.length<1000)(hl:∀d∈xs,∀k,d≠.ref k)
  (f:∀d∈xs,bK S.length d=true)
  (h:∀(d:D) (e:aC),d∈xs->Ex k (n+1) m e->Ex k (n+1) S e->e.length=S.length->Q (.d d) e):Fn bo [.ref k,.ref i] S Q:=by
 refine bT ?_
 unfold jQ
 symm
 apply a_ l ?_
 refine bB x.here q (by show(0:Int)<xs.length;omega) (by show(xs.length:Int)<1000000;omega) λd e r o v p=> ?_
 dsimp only
 have g:d<xs.length:=by have:(d:Int)<(xs.length:Int):=r;omega
 refine dN (o.keep _ _ hi l) (aR (gQe g)) ?_
 have j:=List.getElem_mem g
 exact qY o x (hl _ j) (f _ j) λt a b c=>h _ _ j a b c
def y7{S j:aC}{k n:Nat}{xs:List D}{Q:Res->aC->Prop}(x:Ex k n j S)(p:n<1000000000)(s:0<xs.length)(q:xs.length<1000)(hl:∀d∈xs,∀k,d≠.ref k)
  (f:∀d∈xs,bK S.length d=true)
  (h:∀(d:D) (e:aC),d∈xs->Ex k (n+1) j e->Ex k (n+1) S e->e.length=S.length->Q (.d d) e):Fn bo [.ref k,.tup xs] S Q:=by
 refine bT ?_
 unfold jQ
 symm
 refine bB x.here p (by show(0:Int)<xs.length;omega) (by show(xs.length:Int)<1000000;omega) λd e o l t m=> ?_
 dsimp only
 have g:d<xs.length:=by have:(d:Int)<(xs.length:Int):=o;omega
 refine aw (aR (gQe g)) ?_
 have i:=List.getElem_mem g
 exact qY l x (hl _ i) (f _ i) λr a b c=>h _ _ i a b c
end W28
namespace DL
open PySem PySem.Spec L2
mutual
theorem cW{m:Nat}:∀{d:D},bK 0 d=true->bK m d=true
 |.non,_=>rfl
 |.bl _,_=>rfl
 |.int _,_=>rfl
 |.str _,_=>rfl
 |.tup ds,h=>by simp only[bK] at h⊢;exact jv h
 |.ref k,h=>by simp[bK] at h
 |.fn _,_=>rfl
theorem jv{m:Nat}:∀{ds:List D},bD 0 ds=true->bD m ds=true
 | [],_=>rfl
 | d::ds,h=>by
   simp only[bD,QCq] at h⊢
   exact⟨cW h.1,jv h.2⟩
end
theorem rN{m:Nat}:∀{ds:List D},(∀d∈ds,bK m d=true)->bD m ds=true
 | [],_=>rfl
 | d::ds,h=>by
   simp only[bD,QCq]
   exact⟨h d (QBq ..),rN λe a=>h e (Qpq _ a)⟩
def aY{α:Type}{m:Nat}{f:α->D}{l:List α}(h:∀a∈l,bK m (f a)=true):bD m (l.map f)=true:=rN λd c=>by
 obtain⟨a,b,rfl⟩:=Qkq.mp c
 exact h a b
theorem vt:∀ss:List Str,vk (ss.map D.str)=some ss
 | []=>rfl
 |s::ss=>by simp only[QDq,vk];rw[vt ss];rfl
def JC{b:cv}{S:aC}{f:dz}{Q:List D->aC->Prop}(h:E f b S λp a=>p.2.isL=true/\∃ss:List Str,p.1=ss.map D.str/\ss.length<64/\Q ((qi ss).map D.str) a):E (Ce f) b S Q:=by
 obtain⟨p,a,d,l,ss,e,c,q⟩:=h
 exact⟨_,a,by unfold Ce;rw[d];simp only[Qbq];rw[Qhq l,e,vt];simp only[Qbq];rw[Qhq c],q⟩
def cG{ds:List D}{y:D}{Q:List D×D->Prop}(h:ds.length<sizeLine)(q:Q (ds++ [y],.non)):Op (eQ ds [y]) Q:=⟨_,by simp only[eQ];rw[Qhq h],q⟩
end DL
namespace W28
open PySem PySem.Spec L2 DL
def Ih{c:cv}{S:aC}{i j:Nat}{f:fN}{Q:Out->Prop}(h:E f c S λds d=>∃a b,ds= [a,b]/\Q (.nx ((c.set i (some a)).set j (some b)) d)):T (yO i j f) c S Q:=by
 obtain⟨ds,d,e,a,b,rfl,q⟩:=h
 exact⟨_,by unfold yO;rw[e];rfl,q⟩
def lets:Str:="abcdefghijklmnopqrstuvwxyz"
def let1(i:Nat):Str:=⟨#[lets.cps.toList.getD i 0]⟩
def Kd:List Str:= ["","zq","x","qqzzx"]
def Ml(j:Nat):Str:=Kd.getD j ""
def nm(i j:Nat):Str:=let1 i++Ml j
def t4(x:Str):Prop:=∃i j,i<26/\j<4/\x=nm i j
def HB(f s a:Nat):List Str:=(List.range a).map λk=>nm ((f+s*k)%26) ((f+k*k)%4)
def oq:∀i,i<26->∀j,j<4->PyData.strOk (nm i j)=true/\PyData.strOk ("pass" ++nm i j)=true/\(nm i j).length<=6/\(let1 i).length=1:=by decide +kernel
def Fj:∀f,f<26->∀s∈([1,3,5,7,9,11]:List Nat),∀m,m<4->(HB f s m).Nodup:=by decide +kernel
def t4.ok{x:Str}(h:t4 x):PyData.strOk x=true:=by obtain⟨i,j,a,b,rfl⟩:=h;exact(oq i a j b).1
def t4.pass{x:Str}(h:t4 x):PyData.strOk ("pass" ++x)=true:=by obtain⟨i,j,a,b,rfl⟩:=h;exact(oq i a j b).2.1
def t4.len{x:Str}(h:t4 x):x.length<=6:=by obtain⟨i,j,a,b,rfl⟩:=h;exact(oq i a j b).2.2.1
def Jm{f s m:Nat}:∀x∈HB f s m,t4 x:=λx a=>by
 obtain⟨k,_,rfl⟩:=Qkq.mp a
 exact⟨_,_,Nat.mod_lt _ (by decide),Nat.mod_lt _ (by decide),rfl⟩
def JX:∀i:Nat,i<26->jw lets.cps.toList (i:Int)=some (lets.cps.toList.getD i 0):=by decide +kernel
def JI:∀j:Nat,j<4->jw (([.str "",.str "zq",.str "x",.str "qqzzx"]:List D)) (j:Int)=some (.str (Ml j)):=by
 intro j a
 rcases j with _|_|_|_|j
 ·rfl
 ·rfl
 ·rfl
 ·rfl
 ·omega
def HS:∀j,(Ml j).length<=5:=by
 intro j
 rcases j with _|_|_|_|j
 ·decide
 ·decide
 ·decide
 ·decide
 ·show(Str.length (Kd.getD (j+4) ""))<=5
  simp[Kd]
  decide
def Lx{S:aC}{z:Str}{i:Int}{c:Nat}{Q:D->Prop}(hl:z.length<=sizeLine)(h:jw z.cps.toList i=some c)(q:Q (.str ⟨#[c]⟩)):Op (kf S (.str z) (.int i)) Q:=⟨_,by simp only[kf];rw[Qhq hl,h];rfl,q⟩
def ja{S C:aC}{k n:Nat}{e:Nat}{Q:Res->aC->Prop}(x:Ex k n C S)(hn:n<999999990)(P:e<4)
  (h:∀(ws:List Str) (g:aC),ws.Nodup->ws.length=e->(∀z∈ws,t4 z)->Ex k (n+2) C g->Ex k (n+2) S g->g.length=S.length->Q (.l (ws.map D.str)) g):Fn cf [.ref k,.int e] S Q:=by
 have L:=x.lt
 refine bT ?_
 unfold qJ
 symm
 apply Ih ?_
 apply bB x.here (by omega) (by decide) (by decide) λf S1 hf F _ l1=> ?_
 apply⟨by decide,?_⟩
 refine bB (F.app (G:= [O.lst [.int 1,.int 3,.int 5,.int 7,.int 9,.int 11]])) (by omega) (by decide) (by decide) λv m hv H y l2=> ?_
 dsimp only
 obtain⟨s,J,R⟩:∃s:Nat,s∈([1,3,5,7,9,11]:List Nat)/\jw ([.int 1,.int 3,.int 5,.int 7,.int 9,.int 11]:List D) (v:Int)=some (.int s):=by
  rcases v with _|_|_|_|_|_|v
  ·exact⟨1,by decide,rfl⟩
  ·exact⟨3,by decide,rfl⟩
  ·exact⟨5,by decide,rfl⟩
  ·exact⟨7,by decide,rfl⟩
  ·exact⟨9,by decide,rfl⟩
  ·exact⟨11,by decide,rfl⟩
  ·omega
 have B:s<12:=by
  simp only[Qsq,QXq,or_false] at J
  omega
 refine dN (y.keep _ _ (by have:=F.lt;omega) aJ) R ?_
 symm
 apply⟨_,_,rfl,?_⟩
 apply⟨by decide,?_⟩
 have t:S.length<=m.length:=H.len
 have I:Ex k (n+2) S (m++ [O.lst []]):=H.app
 have w:(m++ [O.lst []])[m.length]?=some (.lst []):=aJ
 generalize (m++ [O.lst []])=S3 at I w⊢
 generalize hr:m.length=r at w t⊢
 apply fe ?_
 refine⟨_,rfl,⟨by omega,by omega⟩,?_⟩
 refine⟨λi p g=>∃o:Option D,p= [some (.ref k),some (.int e),some (.str "abcdefghijklmnopqrstuvwxyz"),some (.int f),some (.int s),some (.ref r),o]/\Ex k (n+2) S g/\g[r]?=some (.lst ((HB f s i).map D.str)),⟨none,rfl,I,w⟩,λ_ _ _ _=>trivial,?_,?_⟩
 ·rintro i d p g A ⟨o,rfl,e4,g4⟩
  have X:=(gQs.mp A).1
  simp only[gH,lQm,QVq] at X
  obtain rfl:d=.int i:=by
   simp only[gH,gQm] at A
   obtain⟨j,N,rfl⟩:=oQm.mp A
   have:=(gQs.mp N).2
   simp at this
   subst this
   simp
  refine aS ?_
  apply fX (gY ?_)
  apply⟨_,_,rfl,g4,?_⟩
  apply oJ (.inl ⟨by omega,by omega⟩) ?_
  refine pk (by decide) ?_
  have Z:((f:Int)+(s:Int)*(i:Int))%26=(((f+s*i)%26:Nat):Int):=by push_cast;rfl
  rw[Z]
  have q:(f+s*i)%26<26:=Nat.mod_lt _ (by decide)
  apply Lx (by decide) (JX _ q) ?_
  apply⟨by decide,?_⟩
  apply oJ (.inl ⟨by omega,by omega⟩) ?_
  refine pk (by decide) ?_
  have M:((f:Int)+(i:Int)*(i:Int))%4=(((f+i*i)%4:Nat):Int):=by push_cast;rfl
  rw[M]
  have Y:(f+i*i)%4<4:=Nat.mod_lt _ (by decide)
  refine dN aJ (JI _ Y) ?_
  refine A0 (QAq (show(let1 ((f+s*i)%26)).length+(Ml ((f+i*i)%4)).length<=6 by have:=(oq _ q 0 (by decide)).2.2.2;have:=HS ((f+i*i)%4);omega) (by decide)) ?_
  symm
  refine⟨_,aH g4,cG (by simp only[HB,lQm,QVq];exact Qqq (show i<4 by omega) (by decide)) ?_⟩
  have U:=(gQs.mp g4).1
  refine⟨_,rfl,(e4.app).put t L,?_⟩
  rw[cj (aH g4)]
  simp only[HB,List.range_succ,Qzq,QDq,List.map_nil]
  rfl
 ·rintro p g ⟨o,rfl,e4,g4⟩
  have W:(gH 0 (e:Int)).length=e:=by simp only[gH,lQm,QVq];omega
  rw[W] at g4
  symm
  apply JC ?_
  refine a_ g4 ?_
  refine⟨rfl,HB f s e,rfl,by simp only[HB,lQm,QVq];omega,?_⟩
  have u:=kO (HB f s e)
  refine Iz e4 x (aY λ_ _=>rfl) λm a b c=> ?_
  refine h _ _ (u.symm.nodup (Fj f (by omega) s J e P)) (by rw[u.length_eq];simp[HB]) (λz K=>Jm z (u.mem_iff.mp K)) a b c
end W28
namespace DL
open PySem PySem.Spec L2
def yF{a:cv}{S:aC}{f g:dz}{Q:List D->aC->Prop}(h:E f a S λp b=>E g a b λr S2=>(p.2.isM=true/\r.2.isM=true/\p.2.stays S2 p.1/\p.1.length+r.1.length<=sizeLine)/\Q (p.1++r.1) S2):E (Ak f g) a S Q:=by
 obtain⟨p,b,d,r,S2,c,l,q⟩:=h
 exact⟨_,S2,by unfold Ak;rw[d];simp only[Qbq];rw[c];simp only[Qbq];rw[Qhq l],q⟩
def df{S:aC}{i j:Int}{Q:D->Prop}(q:Q (.bl (decide (i=j)))):Op (eI false S (.int i) (.int j)) Q:=⟨_,by simp[eI,uM,AU],q⟩
def iK{S:aC}{i j:Str}{Q:D->Prop}(q:Q (.bl (decide (i=j)))):Op (eI false S (.str i) (.str j)) Q:=⟨_,by simp[eI,uM,AU],q⟩
def dG{b:cv}{S:aC}{n:Nat}{g:rq}{ds:List D}{Q:cv->aC->Prop}(c:ds.length=n)(h:Mi g ds b S Q):Tg (iV (nG n g)) (.tup ds) b S Q:=by
 obtain⟨a,d,e,q⟩:=h
 exact⟨a,d,by show nG n g ds b S=_;unfold nG;rw[Qhq c];exact e,q⟩
def a8{a:cv}{S:aC}{Q:cv->aC->Prop}(q:Q a S):Mi dr [] a S Q:=⟨_,_,rfl,q⟩
def ax{c:cv}{S:aC}{f:me}{g:rq}{d:D}{ds:List D}{Q:cv->aC->Prop}(h:Tg f d c S λa e=>Mi g ds a e Q):Mi (aI f g) (d::ds) c S Q:=by
 obtain⟨a,e,k,b,j,i,q⟩:=h
 exact⟨b,j,by show(f d c S).bind _=_;rw[k];exact i,q⟩
def KU{d:cv}{S:aC}{a:Bool}{f g:dz}{Q:D->aC->Prop}(h:E f d S λp e=>E g d e λr S2=>(p.2.isL=true/\r.2.isL=true/\p.2.stays S2 p.1)/\∃b vs,gB p.1=some b/\gB r.1=some vs/\Q (.bl (if a then !Ed b vs else Ed b vs)) S2):E (eqQ a f g) d S Q:=by
 obtain⟨p,e,i,r,S2,j,c,b,vs,k,l,q⟩:=h
 exact⟨_,S2,by unfold eqQ;rw[i];simp only[Qbq];rw[j];simp only[Qbq];rw[Qhq c,k];simp only[Qbq];rw[l];rfl,q⟩
end DL
namespace W28
open PySem PySem.Spec L2 DL
def ops:List Str:= ["plus","minus","less","same","both"]
inductive Tr where
 |num (n:Nat)|word (x:Str)|waits (b:Str)|no (t:Tr)|two (o:Str) (a b:Tr)
def Tr.d:Tr->D
 |.num n=>.int n
 |.word x=>.str x
 |.waits b=>.tup [.str "waits",.str b]
 |.no t=>.tup [.str "not",t.d]
 |.two o a b=>.tup [.str o,a.d,b.d]
def Tr.Ok(ws bs:List Str):Tr->Prop
 |.num n=>n<=9
 |.word x=>x∈ws
 |.waits b=>b∈bs
 |.no t=>t.Ok ws bs
 |.two o a b=>o∈ops/\a.Ok ws bs/\b.Ok ws bs
def Tr.dep:Tr->Nat
 |.num _=>1
 |.word _=>1
 |.waits _=>1
 |.no t=>t.dep+1
 |.two _ a b=>max a.dep b.dep+1
theorem Tr.low:∀t:Tr,bK 0 t.d=true
 |.num _=>rfl
 |.word _=>rfl
 |.waits _=>rfl
 |.no t=>by simp only[Tr.d,bK,bD];rw[t.low];rfl
 |.two _ a b=>by simp only[Tr.d,bK,bD];rw[a.low,b.low];rfl
def Tr.noref(t:Tr):∀k,t.d≠.ref k:=by
 intro k
 cases t <;>simp[Tr.d]
def dI{ws:List Str}:∀d∈ws.map D.str,∀k,d≠.ref k:=λd b=>by
 obtain⟨a,_,rfl⟩:=Qkq.mp b
 exact λk z=>(nomatch z)
def fB{ws:List Str}{m:Nat}:∀d∈ws.map D.str,bK m d=true:=λd b=>by
 obtain⟨a,_,rfl⟩:=Qkq.mp b
 rfl
def Kg{n:Nat}(h:(n:Int)<5):∃o,o∈ops/\jw ([.str "plus",.str "minus",.str "less",.str "same",.str "both"]:List D) (n:Int)=some (.str o):=by
 rcases n with _|_|_|_|_|n
 ·exact⟨"plus",by simp[ops],rfl⟩
 ·exact⟨"minus",by simp[ops],rfl⟩
 ·exact⟨"less",by simp[ops],rfl⟩
 ·exact⟨"same",by simp[ops],rfl⟩
 ·exact⟨"both",by simp[ops],rfl⟩
 ·omega
theorem EL:∀ss:List Str,gB (ss.map D.str)=some (ss.map V.str)
 | []=>rfl
 |s::ss=>by simp only[QDq,gB];rw[EL ss];rfl
def cs:Nat->Nat
 |0=>4
 |d+1=>2+2*cs d
theorem ME:∀d,4<=cs d
 |0=>Qmq _
 |d+1=>by have:=ME d;simp only[cs];omega
def LH{d:Nat}(h:1<=d):cs d=2+2*cs (d-1):=by
 obtain⟨e,rfl⟩:∃e,d=e+1:=⟨d-1,by omega⟩
 rfl
theorem gF:∀(m:Nat) {S S0:aC} {k n i j:Nat} {ws bs:List Str} {deep:Nat} {Q:Res->aC->Prop} (x:Ex k n S0 S) (hn:n+cs deep<1000000000) (hi:i≠k) (U:j≠k) (hw:S[i]?=some (.lst (ws.map D.str))) (hb:S[j]?=some (.lst (bs.map D.str))) (lw:ws.length<1000) (lb:bs.length<1000) (W:deep<m)
  (h:∀(t:Tr) (f:aC),t.Ok ws bs->t.dep<=deep+1->Ex k (n+cs deep) S0 f->Ex k (n+cs deep) S f->f.length=S.length->Q (.d t.d) f),Fn (bh m) [.ref k,.ref i,.ref j,.int deep] S Q
 |0,_,_,_,_,_,_,_,_,_,_,_,_,_,_,_,_,_,_,W,_=>absurd W (Nat.not_lt_zero _)
 | m+1,S,S0,k,n,i,j,ws,bs,deep,Q,x,hn,hi,U,hw,hb,lw,lb,W,h=>by
   have c4:=ME deep
   have B:∀{I:Nat} (t:Tr) (f:aC),t.Ok ws bs->t.dep<=deep+1->Ex k I S f->I<=n+cs deep->Op (settle S t.d f) λp=>Q p.1 p.2:=λt f L h2 e a1=>qY (e.mono a1) x t.noref (cW t.low) λg a b c=>h _ _ L h2 a b c
   refine bT ?_
   unfold qp
   symm
   apply bB x.here (by omega) (by decide) (by decide) λy S1 a3 X _ l1=> ?_
   have Y:=X.keep _ _ hi hw
   have a4:=X.keep _ _ U hb
   have A:∀g,Ex k (n+1) S g->T (aE (eE (gq (aF (cJ (aQ (av 1)))) (aF (aV Il (ay aB (aq (av 0) (aq (cF (.int 3)) au))) (cF (.int 0))))) (cp (ay bo (aq (av 0) (aq (av 1) au)))) fL)
     (cp (ay aB (aq (av 0) (aq (aV kf (bC (bg (aq (cF (.int 3)) (aq (cF (.int 10)) au)))) (Au intOfD (aq (aV (eI false) (ay aB (aq (av 0) (aq (cF (.int 4)) au))) (cF (.int 0))) au))) au)))))
     [some (.ref k),some (.ref i),some (.ref j),some (.int deep),some (.int y),none] g λo=>match o with|.rt d f=>Op (settle S d f) λp=>Q p.1 p.2|_=>False:=by
     intro g u
     have Z:=u.keep _ _ hi hw
     have w:∀P,Ex k (n+2) S P->T (cp (ay aB (aq (av 0) (aq (aV kf (bC (bg (aq (cF (.int 3)) (aq (cF (.int 10)) au)))) (Au intOfD (aq (aV (eI false) (ay aB (aq (av 0) (aq (cF (.int 4)) au))) (cF (.int 0))) au))) au))))
       [some (.ref k),some (.ref i),some (.ref j),some (.int deep),some (.int y),none] P λo=>match o with|.rt d f=>Op (settle S d f) λp=>Q p.1 p.2|_=>False:=by
       intro P N
       symm
       apply⟨by decide,?_⟩
       apply bB (N.app (G:= [O.lst [D.int 3,D.int 10]])) (by omega) (by decide) (by decide) λd S4 hd M F l4=> ?_
       apply df ?_
       have a0:S4[P.length]?=some (.lst [.int 3,.int 10]):=F.keep _ _ (by have:=N.lt;omega) aJ
       have W:∃m:Int,(m=3\/m=10)/\Op (intOfD [D.bl (decide ((d:Int)=0))]) (λz=>∃r,z=.int r/\jw ([.int 3,.int 10]:List D) r=some (.int m)):=by
         by_cases c:(d:Int)=0
         · exact⟨10,.inr rfl,_,rfl,1,by rw[Qeq c];rfl,rfl⟩
         · exact⟨3,.inl rfl,_,rfl,0,by rw[Qdq c];rfl,rfl⟩
       obtain⟨m,W,z,C,r,rfl,e6⟩:=W
       refine⟨_,C,?_⟩
       apply dN a0 e6 ?_
       refine bB M (by omega) (by omega) (by omega) λv S5 hv C _ l5=> ?_
       dsimp only
       exact B (.num v) _ (by show v<=9;omega) (by show 1<=deep+1;omega) C (by omega)
     symm
     refine a_ Z ?_
     refine⟨⟨rfl,Z⟩,?_⟩
     dsimp only
     refine aN (λc=> ?_) (λc=> ?_)
     · symm
       apply bB u (by omega) (by decide) (by decide) λd P hd N _ l3=> ?_
       refine aN (λc2=> ?_) (λc2=> ?_)
       · symm
         have J:0<(ws.map D.str).length:=by
           cases ws with
           |nil=>simp at c
           |cons a b=>simp
         refine eD N (by omega) hi (N.keep _ _ hi hw) J (by simpa using lw) dI fB λv S4 hv M _ l4=> ?_
         obtain⟨z,hz,rfl⟩:=Qkq.mp hv
         exact B (.word z) _ hz (by show 1<=deep+1;omega) M (by omega)
       · exact bW (w P N)
     · rw[Quq (by decide)]
       exact bW (w g (u.mono (by omega)))
   have go:∀{I:Nat} {R:Res->aC->Prop} {g:aC},Ex k I S g->I+cs (deep-1)<=n+cs deep->1<=deep->(∀(t:Tr) (f:aC),t.Ok ws bs->t.dep<=deep->Ex k (I+cs (deep-1)) S f->R (.d t.d) f)->Fn (bh m) [.ref k,.ref i,.ref j,.int ((deep:Int)-1)] g R:=by
     intro I R g u a1 hd hR
     have e:((deep:Int)-1)=((deep-1:Nat):Int):=by omega
     rw[e]
     exact gF m u (by omega) hi U (u.keep _ _ hi hw) (u.keep _ _ U hb) lw lb (by omega) λt f L h2 h3 _ _=>hR t f L (by omega) h3
   have a2:∀g,Ex k (n+1) S g->1<=deep->T (aE (eE (gq (aF (aV (eI false) (av 4) (cF (.int 4)))) (aF (cJ (aQ (av 2))))) (cp (aP (aq (cF (.str "waits")) (aq (ay bo (aq (av 0) (aq (av 2) au))) au)))) fL)
     (aE (eE (aF (aV (eI false) (av 4) (cF (.int 5)))) (cp (aP (aq (cF (.str "not")) (aq (ay (bh m) (aq (av 0) (aq (av 1) (aq (av 2) (aq (aV mU (av 3) (cF (.int 1))) au))))) au)))) fL)
     (aE (aX 5 (aV kf (bC (bg (aq (cF (.str "plus")) (aq (cF (.str "minus")) (aq (cF (.str "less")) (aq (cF (.str "same")) (aq (cF (.str "both")) au))))))) (ay aB (aq (av 0) (aq (cF (.int 5)) au)))))
     (cp (aP (aq (av 5) (aq (ay (bh m) (aq (av 0) (aq (av 1) (aq (av 2) (aq (aV mU (av 3) (cF (.int 1))) au))))) (aq (ay (bh m) (aq (av 0) (aq (av 1) (aq (av 2) (aq (aV mU (av 3) (cF (.int 1))) au))))) au))))))))
     [some (.ref k),some (.ref i),some (.ref j),some (.int deep),some (.int y),none] g λo=>match o with|.rt d f=>Op (settle S d f) λp=>Q p.1 p.2|_=>False:=by
     intro g u q
     have H:=u.keep _ _ U hb
     have ec:=LH q
     have a5:=ME (deep-1)
     have K:T (aE (aX 5 (aV kf (bC (bg (aq (cF (.str "plus")) (aq (cF (.str "minus")) (aq (cF (.str "less")) (aq (cF (.str "same")) (aq (cF (.str "both")) au))))))) (ay aB (aq (av 0) (aq (cF (.int 5)) au)))))
       (cp (aP (aq (av 5) (aq (ay (bh m) (aq (av 0) (aq (av 1) (aq (av 2) (aq (aV mU (av 3) (cF (.int 1))) au))))) (aq (ay (bh m) (aq (av 0) (aq (av 1) (aq (av 2) (aq (aV mU (av 3) (cF (.int 1))) au))))) au))))))
       [some (.ref k),some (.ref i),some (.ref j),some (.int deep),some (.int y),none] g λo=>match o with|.rt d f=>Op (settle S d f) λp=>Q p.1 p.2|_=>False:=by
       symm
       apply⟨by decide,?_⟩
       refine bB (u.app (G:= [O.lst [.str "plus",.str "minus",.str "less",.str "same",.str "both"]])) (by omega) (by decide) (by decide) λd S4 hd M F l4=> ?_
       dsimp only
       obtain⟨o,s,C⟩:=Kg hd
       refine dN (F.keep _ _ (by have:=u.lt;omega) aJ) C ?_
       symm
       apply go M (by omega) q λt1 S5 L h2 C=> ?_
       apply go C (by omega) q λt2 S6 h3 h4 e6=> ?_
       refine⟨by show 3<=_;decide,?_⟩
       exact B (.two o t1 t2) _ ⟨s,L,h3⟩ (by simp only[Tr.dep];omega) e6 (by omega)
     have l:T (aE (eE (aF (aV (eI false) (av 4) (cF (.int 5)))) (cp (aP (aq (cF (.str "not")) (aq (ay (bh m) (aq (av 0) (aq (av 1) (aq (av 2) (aq (aV mU (av 3) (cF (.int 1))) au))))) au)))) fL)
       (aE (aX 5 (aV kf (bC (bg (aq (cF (.str "plus")) (aq (cF (.str "minus")) (aq (cF (.str "less")) (aq (cF (.str "same")) (aq (cF (.str "both")) au))))))) (ay aB (aq (av 0) (aq (cF (.int 5)) au)))))
       (cp (aP (aq (av 5) (aq (ay (bh m) (aq (av 0) (aq (av 1) (aq (av 2) (aq (aV mU (av 3) (cF (.int 1))) au))))) (aq (ay (bh m) (aq (av 0) (aq (av 1) (aq (av 2) (aq (aV mU (av 3) (cF (.int 1))) au))))) au)))))))
       [some (.ref k),some (.ref i),some (.ref j),some (.int deep),some (.int y),none] g λo=>match o with|.rt d f=>Op (settle S d f) λp=>Q p.1 p.2|_=>False:=by
       symm
       refine df ?_
       dsimp only
       refine aN (λc=> ?_) (λc=> ?_)
       · symm
         apply go u (by omega) q λt S5 L h2 C=> ?_
         refine⟨by show 2<=_;decide,?_⟩
         exact B (.no t) _ L (by simp only[Tr.dep];omega) C (by omega)
       · exact bW K
     symm
     refine df ?_
     dsimp only
     refine aN (λc=> ?_) (λc=> ?_)
     · symm
       refine a_ H ?_
       refine⟨⟨rfl,H⟩,?_⟩
       dsimp only
       refine aN (λc=> ?_) (λc=> ?_)
       · symm
         have J:0<(bs.map D.str).length:=by
           cases bs with
           |nil=>simp at c
           |cons a b=>simp
         refine eD u (by omega) U H J (by simpa using lb) dI fB λv S4 hv M _ l4=> ?_
         obtain⟨z,hz,rfl⟩:=Qkq.mp hv
         symm
         refine⟨by show 2<=_;decide,?_⟩
         exact B (.waits z) _ hz (by show 1<=deep+1;omega) M (by omega)
       · exact bW l
     · rw[Quq (by decide)]
       exact bW l
   refine df ?_
   dsimp only
   refine aN (λc=> ?_) (λc=> ?_)
   · rw[Qhq rfl]
     exact(A S1 X).mono λo s=>by
       cases o with
       |rt d f=>exact s
       |_=>exact s.elim
   · have q:1<=deep:=by
       have:=QaQ c
       omega
     symm
     refine aN (λc2=> ?_) (λc2=> ?_)
     · exact(A S1 X).mono λo s=>by
         cases o with
         |rt d f=>exact s
         |_=>exact s.elim
     · apply bV (KU ?_)
       apply a_ Y ?_
       refine⟨by decide,?_⟩
       refine⟨⟨rfl,rfl,Y⟩,ws.map V.str,[],EL _,rfl,?_⟩
       refine aN (λc3=> ?_) (λc3=> ?_)
       · exact(A S1 X).mono λo s=>by
           cases o with
           |rt d f=>exact s
           |_=>exact s.elim
       · refine bW ?_
         exact(a2 S1 X q).mono λo s=>by
           cases o with
           |rt d f=>exact s
           |_=>exact s.elim
inductive Rw where
 |put (x:Str) (t:Tr)|unl (t:Tr) (n:Nat)|go (n:Nat)|do_ (g:Option Str) (r d:Str) (t:Tr)|wait (b:Str) (t:Tr)|call (b:Str)|all (b:Str)|tell (t:Tr)
 |take (p:Str)|give (p:Str)|pass (p q:Str)|say (t:Tr)
def GS:Option Str->D
 |none=>.non
 |some x=>.str x
def Rw.d:Rw->D
 |.put x t=>.tup [.str "put",.str x,t.d]
 |.unl t n=>.tup [.str "unless",t.d,.int n]
 |.go n=>.tup [.str "go",.int n]
 |.do_ g r d t=>.tup [.str "do",GS g,.str r,.str d,t.d]
 |.wait b t=>.tup [.str "wait",.str b,t.d]
 |.call b=>.tup [.str "call",.str b]
 |.all b=>.tup [.str "all",.str b]
 |.tell t=>.tup [.str "tell",t.d]
 |.take p=>.tup [.str "take",.str p]
 |.give p=>.tup [.str "give",.str p]
 |.pass p q=>.tup [.str "pass",.str p,.str q]
 |.say t=>.tup [.str "say",t.d]
structure Sc where
 own:Bool
 ws:List Str
 ps:List Str
 bs:List Str
 gs:List (Str×Str)
 ts:List Str
def Ey(sc:Sc)(t:Tr):Prop:=t.Ok sc.ws sc.bs/\t.dep<=4
def Rw.Ok(sc:Sc)(n:Nat):Rw->Prop
 |.put x t=>x∈sc.ps/\Ey sc t
 |.unl t m=>Ey sc t/\m<=n
 |.go m=>m<=n
 |.do_ g r d t=>(∀x,g=some x->x∈sc.ps)/\(r,d)∈sc.gs/\Ey sc t
 |.wait b t=>sc.own=false/\b∈sc.bs/\Ey sc t
 |.call b=>sc.own=false/\b∈sc.bs
 |.all b=>sc.own=false/\b∈sc.bs
 |.tell t=>sc.own=false/\Ey sc t
 |.take p=>sc.own=true/\p∈sc.ts
 |.give p=>sc.own=true/\p∈sc.ts
 |.pass p q=>sc.own=true/\p∈sc.ts/\q∈sc.ts
 |.say t=>sc.own=true/\Ey sc t
def Rw.Ok.mono{sc:Sc}{n m:Nat}{r:Rw}(h:r.Ok sc n)(l:n<=m):r.Ok sc m:=by
 cases r with
 |unl t k=>exact⟨h.1,QAq h.2 l⟩
 |go k=>exact QAq h l
 |_=>exact h
theorem Rw.low(r:Rw):bK 0 r.d=true:=by
 cases r with
 |do_ g r d t=>cases g <;>simp only[Rw.d,bK,bD,GS,t.low,Bool.and_true,Bool.true_and]
 |_=>simp only[Rw.d,bK,bD,Tr.low,Bool.and_true,Bool.true_and]
def uj(sc:Sc)(rs:List Rw):Prop:=∀r∈rs,r.Ok sc rs.length
def L4{k n m r:Nat}{S d g:aC}{ds:List D}{Q:Res->aC->Prop}(e:Ex k n S d)(x:Ex k m g S)(s:S.length<=r)(i:d[r]?=some (.lst ds))(hl:bD S.length ds=true)(q:∀S2,Ex k n g S2->Ex k n S S2->S2.length=S.length->Q (.l ds) S2):Op (settle S (.ref r) d) λp=>Q p.1 p.2:=by
 obtain⟨o,a,b,c,h,f,j⟩:=e.clean x.lt
 refine⟨(.l ds,d.take S.length),?_,?_⟩
 ·unfold DL.settle
  rw[Qhq o]
  show(if r<S.length then _ else _)=_
  rw[Quq (by omega),i]
  show(if bD S.length ds=true then _ else _)=_
  rw[Qhq hl]
 ·rw[j]
  exact q _ (x.set h f) (x.here.set h f) (by simp)
def xV{ws bs:List Str}:∀t:Tr,t.Ok ws []->t.Ok ws bs:=by
 intro t
 induction t with
 |num n=>exact id
 |word x=>exact id
 |waits b=>intro z;cases z
 |no t e=>exact e
 |two o a b d c=>exact λz=>⟨z.1,d z.2.1,c z.2.2⟩
def G6{S K:aC}{k n i j:Nat}{e:Nat}{sc:Sc}{Q:Res->aC->Prop}(x:Ex k n K S)(hn:n<999999000)(hi:i≠k)(A:j≠k)(P:S[i]?=some (.lst (sc.ws.map D.str)))(U:S[j]?=some (.lst (sc.bs.map D.str)))(N:sc.ws.length<1000)(H:sc.bs.length<1000)(Z:0<sc.bs.length)(X:(("given":Str))∈sc.ws)(W:sc.own=false)
  (h:∀(rs:List Rw) (s:aC),(∀r∈rs,r.Ok sc (e+rs.length))->1<=rs.length->rs.length<=3->Ex k (n+35) K s->Ex k (n+35) S s->s.length=S.length->Q (.l (rs.map Rw.d)) s):Fn jG [.ref k,.ref i,.ref j,.int e] S Q:=by
 have c1:cs 1=10:=rfl
 have c2:cs 2=22:=rfl
 refine bT ?_
 unfold nk
 symm
 refine eD x.here (by omega) A U (by simpa using Z) (by simpa using H) dI fB λv S1 hv C _ l1=> ?_
 obtain⟨z,I,rfl⟩:=Qkq.mp hv
 symm
 apply gF 4 (deep:=1) C (by omega) hi A (C.keep _ _ hi P) (C.keep _ _ A U) N H (by decide) λt J Y h2 M _ l2=> ?_
 refine⟨by show 3<=_;decide,?_⟩
 symm
 refine bB (M.app (G:= [O.lst [.int 0,.str "given",t.d]])) (by omega) (by decide) (by decide) λd S3 hd e3 F l3=> ?_
 dsimp only
 have ht:∃f:Tr,Ey sc f/\jw ([.int 0,.str "given",t.d]:List D) (d:Int)=some f.d:=by
  rcases d with _|_|_|d
  ·exact⟨.num 0,⟨by show 0<=9;omega,by show 1<=4;omega⟩,rfl⟩
  ·exact⟨.word "given",⟨X,by show 1<=4;omega⟩,rfl⟩
  ·exact⟨t,⟨Y,by omega⟩,rfl⟩
  ·omega
 obtain⟨f,o,ha⟩:=ht
 refine dN (F.keep _ _ (by have:=M.lt;omega) aJ) ha ?_
 symm
 apply bB e3 (by omega) (by decide) (by decide) λp S4 L w _ l4=> ?_
 refine df ?_
 dsimp only
 refine aN (λc=> ?_) (λc=> ?_)
 ·symm
  refine⟨by show 3<=_;decide,?_⟩
  symm
  refine⟨by show 1<=_;decide,?_⟩
  refine Iz (ds:= [Rw.d (.wait z f)]) (w.mono (m:=n+35) (by omega)) x (by simp only[bD,cW (Rw.low _),Bool.and_true]) λJ a b c=> ?_
  refine h [.wait z f] _ (λr q=> ?_) (by simp) (by simp) a b c
  rw[Qfq.mp q]
  exact⟨W,I,o⟩
 ·symm
  apply⟨by decide,?_⟩
  refine gF 4 (deep:=2) (bs:= []) (w.app (G:= [O.lst []])) (by omega) hi (j:=S4.length) (by have:=w.lt;omega) (aH (w.keep _ _ hi P)) aJ N (by decide) (by decide) λu S5 h3 h4 R _ l5=> ?_
  symm
  refine⟨by show 2<=_;decide,?_⟩
  symm
  refine⟨by show 3<=_;decide,?_⟩
  symm
  refine⟨by show 3<=_;decide,?_⟩
  symm
  refine⟨by show 2<=_;decide,?_⟩
  symm
  apply df ?_
  obtain⟨g,a0,v',B,y⟩:∃g:Nat,(g=e\/g=e+3)/\∃v:Int,intOfD [D.bl (decide ((p:Int)=1))]=some (.int v)/\jw ([.int e,.int ((e:Int)+3)]:List D) v=some (.int (g:Nat)):=by
   by_cases c:(p:Int)=1
   ·exact⟨e+3,.inr rfl,1,by rw[Qeq c];rfl,rfl⟩
   ·exact⟨e,.inl rfl,0,by rw[Qdq c];rfl,rfl⟩
  refine⟨_,B,?_⟩
  apply dN aJ y ?_
  refine⟨by show 2<=_;decide,?_⟩
  symm
  refine⟨by show 3<=_;decide,?_⟩
  symm
  refine L4 (ds:=([.unl (.no u) (e+3),.wait z f,.go g]:List Rw).map Rw.d) ((R.app.app).mono (m:=n+35) (by omega)) x (by have:=R.len;simp;omega) aJ (aY λr _=>cW r.low) λJ a b c=> ?_
  refine h [.unl (.no u) (e+3),.wait z f,.go g] _ (λr q=> ?_) (by simp) (by simp) a b c
  simp only[Qsq,QXq,or_false] at q
  have hl:([.unl (.no u) (e+3),.wait z f,.go g]:List Rw).length=3:=rfl
  rcases q with rfl|rfl|rfl
  ·exact⟨⟨xV _ h3,by show u.dep+1<=4;omega⟩,by rw[hl];exact Qmq _⟩
  ·exact⟨W,I,o⟩
  ·show g<=e+3
   omega
end W28
namespace DL
open PySem PySem.Spec L2
def B4{c:cv}{S:aC}{f:bx}{g:dz}{Q:D->aC->Prop}(h:E f c S λx b=>∃k a,x=.ref k/\b[k]?=some (.lst a)/\E g c b λp S2=>∃ds,S2[k]?=some (.lst ds)/\(p.2.isM=true/\ds.length+p.1.length<=sizeLine)/\Q .non (S2.set k (.lst (ds++p.1)))):E (zr f g) c S Q:=by
 obtain⟨x,b,d,k,a,rfl,h1,p,S2,e2,ds,h2,h3,q⟩:=h
 exact⟨_,_,by unfold zr;rw[d];simp only[Qbq,e2,h1,h2];rw[Qhq h3],q⟩
def Ft{b:cv}{S:aC}{f g:bx}{Q:D->aC->Prop}(h:E f b S λd a=>∃k,d=.bl k/\if k=true then E g b a Q else Q (.bl false) a):E (C8 f g) b S Q:=by
 obtain⟨d,a,c,k,rfl,q⟩:=h
 cases k with
 |true=>obtain⟨j,i,e,q⟩:=(q:E g b a Q);exact⟨j,i,by unfold C8;rw[c];exact e,q⟩
 |false=>exact⟨_,a,by unfold C8;rw[c];rfl,q⟩
end DL
namespace W28
open PySem PySem.Spec L2 DL
def fF:List Str:= ["given"]
def xE{d:cv}{S:aC}{i j l:Nat}{w m:Int}{ds:List D}{Q:Bool->aC->Prop}(hi:d[i]?=some (some (.int w)))(f:d[j]?=some (some (.ref l)))(e:S[l]?=some (.lst ds))(q:∀c,(c=true->0<ds.length)->Q c S):
  E (gq (aF (aV DF (av i) (cF (.int m)))) (aF (cJ (aQ (av j))))) d S Q:=by
 refine jU (bV (fK (bp hi (mD (ua ?_)))))
 refine aN (λc=> ?_) λc=>q false λz=>(nomatch z)
 refine bV (o_ (fh (bp f (a_ e ⟨⟨rfl,e⟩,q _ λz=> ?_⟩))))
 cases ds with
 |nil=>cases z
 |cons a b=>simp
def CF{d:cv}{S:aC}{i j l:Nat}{w m:Int}{ds:List D}{Q:Bool->aC->Prop}(hi:d[i]?=some (some (.int w)))(f:d[j]?=some (some (.ref l)))(e:S[l]?=some (.lst ds))(q:∀c,(c=true->0<ds.length)->Q c S):
  E (gq (aF (aV (eI false) (av i) (cF (.int m)))) (aF (cJ (aQ (av j))))) d S Q:=by
 refine jU (bV (fK (bp hi (mD (df ?_)))))
 refine aN (λc=> ?_) λc=>q false λz=>(nomatch z)
 refine bV (o_ (fh (bp f (a_ e ⟨⟨rfl,e⟩,q _ λz=> ?_⟩))))
 cases ds with
 |nil=>cases z
 |cons a b=>simp
def Eo{a:cv}{S:aC}{i:Nat}{w m:Int}{Q:Bool->aC->Prop}(hi:a[i]?=some (some (.int w)))(q:∀c,Q c S):E (aF (aV (eI false) (av i) (cF (.int m)))) a S Q:=bV (fK (bp hi (mD (df (q _)))))
def Ae{e:cv}{S:aC}{j l:Nat}{ds:List D}{Q:Bool->aC->Prop}(f:e[j]?=some (some (.ref l)))(d:S[l]?=some (.lst ds))(q:∀c,(c=true->0<ds.length)->Q c S):
  E (aF (cJ (aQ (av j)))) e S Q:=by
 refine bV (o_ (fh (bp f (a_ d ⟨⟨rfl,d⟩,q _ λz=> ?_⟩))))
 cases ds with
 |nil=>cases z
 |cons a b=>simp
abbrev Lt:=Str×Nat×List Str
def C6(p:Lt):D:=.tup [.str p.1,.ref p.2.1]
def Cz(L:List Lt):List (Str×Str):=L.flatMap λp=>p.2.2.map λd=>(p.1,d)
def sN(k:Nat)(S:aC)(p:Lt):Prop:=p.2.1≠k/\S[p.2.1]?=some (.lst (p.2.2.map D.str))/\0<p.2.2.length/\p.2.2.length<100
def sN.ex{k n:Nat}{S a:aC}{p:Lt}(h:sN k S p)(e:Ex k n S a):sN k a p:=⟨h.1,e.keep _ _ h.1 h.2.1,h.2.2⟩
def Kv{L:List Lt}{p:Lt}{d:Str}(h:p∈L)(hd:d∈p.2.2):(p.1,d)∈Cz L:=QOq.mpr ⟨p,h,Qkq.mpr ⟨d,hd,rfl⟩⟩
def Fy{L:List Lt}:∀d∈L.map C6,∀k,d≠.ref k:=λd b=>by
 obtain⟨a,_,rfl⟩:=Qkq.mp b
 exact λk z=>(nomatch z)
def JH{L:List Lt}{k:Nat}{S:aC}(h:∀p∈L,sN k S p):∀d∈L.map C6,bK S.length d=true:=λd c=>by
 obtain⟨a,b,rfl⟩:=Qkq.mp c
 simp only[C6,bK,bD,Bool.true_and,Bool.and_true]
 exact Qeq (gQs.mp (h a b).2.1).1
def xl{ws:List Str}:∀d∈([.non]++ws.map D.str:List D),∃o:Option Str,d=GS o/\∀z,o=some z->z∈ws:=λd b=>by
 rcases mQa.mp b with b|b
 ·rw[Qfq.mp b]
  exact⟨none,rfl,λz c=>by cases c⟩
 ·obtain⟨a,e,rfl⟩:=Qkq.mp b
  exact⟨some a,rfl,λz c=>by cases c;exact e⟩
def j_{ws:List Str}{m:Nat}:∀d∈([.non]++ws.map D.str:List D),(∀k,d≠.ref k)/\bK m d=true:=λd a=>by
 obtain⟨o,rfl,_⟩:=xl d a
 cases o <;>exact⟨λk z=>(nomatch z),rfl⟩
def HQ{S S0:aC}{k n t b g:Nat}{ah:Str}{ao aa:List Str}{L:List Lt}{Q:Res->aC->Prop}(x:Ex k n S0 S)(hn:n<999990000)(nt:t≠k)(nb:b≠k)(ng:g≠k)(gt:S[t]?=some (.lst (ao.map D.str)))(gb:S[b]?=some (.lst (aa.map D.str)))(gg:S[g]?=some (.lst (L.map C6)))
  (hL:∀p∈L,sN k S p) (lt:ao.length<500) (lb:aa.length<500) (lg:L.length<500)
  (h:∀(rs:List Rw) (S':aC),uj ⟨false,ao++fF,ao,aa,Cz L,[]⟩ rs->0<rs.length->rs.length<=12->Ex k (n+110) S0 S'->Ex k (n+110) S S'->S'.length=S.length->Q (.d (.tup (rs.map Rw.d))) S'):
  Fn jJ [.ref k,.tup [.str ah,.ref t,.ref b],.ref g,.int 3] S Q:=by
 have J:cs 1=10:=rfl
 have c2:cs 2=22:=rfl
 have kl:=x.lt
 have tl:=(gQs.mp gt).1
 have bl:=(gQs.mp gb).1
 have gl:=(gQs.mp gg).1
 generalize a4:(⟨false,ao++fF,ao,aa,Cz L,[]⟩:Sc)=sc at h
 have so:sc.own=false:=by rw[←a4]
 have sw:sc.ws=ao++fF:=by rw[←a4]
 have sp:sc.ps=ao:=by rw[←a4]
 have sb:sc.bs=aa:=by rw[←a4]
 have sg:sc.gs=Cz L:=by rw[←a4]
 refine bT ?_
 unfold m3
 symm
 apply dG rfl (ax (aS (ax (aS (ax (aS (a8 ?_)))))))
 apply yF ?_
 apply a_ gt ?_
 refine⟨by decide,?_⟩
 refine⟨⟨rfl,rfl,gt,by simp only[lQm,Qnq,QGq];exact QAq (show ao.length+(0+1)<=1000 by omega) (by decide)⟩,?_⟩
 symm
 refine⟨by decide,?_⟩
 have ew:ao.map D.str++ [D.str "given"]=sc.ws.map D.str:=by rw[sw];simp[fF]
 rw[ew]
 have e0:Ex k n S (S++ [O.lst (sc.ws.map D.str)]++ [O.lst []]):=x.here.app.app
 generalize hr:S.length+1=r
 have a0:(S++ [O.lst (sc.ws.map D.str)]).length=r:=by simp[hr]
 rw[a0]
 have iw:(S++ [O.lst (sc.ws.map D.str)]++ [O.lst []])[S.length]?=some (.lst (sc.ws.map D.str)):=aH aJ
 have ir:(S++ [O.lst (sc.ws.map D.str)]++ [O.lst []])[r]?=some (.lst []):=by rw[←a0];exact aJ
 have il:(S++ [O.lst (sc.ws.map D.str)]++ [O.lst []]).length=r+1:=by simp[←hr]
 generalize (S++ [O.lst (sc.ws.map D.str)]++ [O.lst []])=S1 at e0 iw ir il⊢
 apply bA (fe ?_)
 apply bB e0 (by omega) (by decide) (by decide) λb2 S2 f6 e2 d8 l2=> ?_
 refine⟨_,rfl,⟨by omega,by omega⟩,?_⟩
 have M:r≠k:=by omega
 have C:S.length≠k:=by omega
 let Inv:Nat->cv->aC->Prop:=λi b6 S'=>∃(o9 b7 b8 b1 a6 a5:Option D) (rs:List Rw),b6= [some (.ref k),some (.tup [.str ah,.ref t,.ref b]),some (.ref g),some (.int 3),some (.str ah),some (.ref t),some (.ref b),some (.ref S.length),some (.ref r),o9,b7,b8,b1,a6,a5]∧
  Ex k (n+1+36*i) S S'/\S'[S.length]?=some (.lst (sc.ws.map D.str))/\S'[r]?=some (.lst (rs.map Rw.d))/\rs.length<=3*i/\i<=rs.length/\i<=3/\∀q∈rs,q.Ok sc rs.length
 refine⟨Inv,⟨_,_,_,_,_,_,[],rfl,e2,d8.keep _ _ C iw,d8.keep _ _ M ir,by simp,by simp,by omega,by simp⟩,λ_ _ _ _=>trivial,?_,?_⟩
 ·rintro i d b6 S3 hd ⟨o9,b7,b8,b1,a6,a5,rs,rfl,e3,hw3,hr3,hl1,hl2,hn4,hok⟩
  have g0:i<3:=by
   have:=(gQs.mp hd).1
   simp only[gH,lQm,QVq] at this
   omega
  apply aS ?_
  refine bB e3 (by omega) (by decide) (by decide) λd0 S4 g1 R c0 l4=> ?_
  dsimp only
  have A:=c0.keep _ _ C hw3
  have y:=c0.keep _ _ M hr3
  have f5:=R.keep _ _ nt gt
  have N:=R.keep _ _ nb gb
  have b9:=R.keep _ _ ng gg
  have b3:S4[t]?=some (.lst (sc.ps.map D.str)):=by rw[sp];exact f5
  rw[←sb] at N
  have F:∀{n':Nat} (ms:List Rw) (c4 d3 d4 c6:Option D) (B:aC),Ex k n' S B->n'<=n+1+36*(i+1)->B[S.length]?=some (.lst (sc.ws.map D.str))->B[r]?=some (.lst (rs.map Rw.d++ms.map Rw.d))->1<=ms.length->ms.length<=3->(∀q∈ms,q.Ok sc (rs.length+ms.length))→
    Inv (i+1) [some (.ref k),some (.tup [.str ah,.ref t,.ref b]),some (.ref g),some (.int 3),some (.str ah),some (.ref t),some (.ref b),some (.ref S.length),some (.ref r),some d,some (.int d0),c4,d3,d4,c6] B:=by
   intro n' ms c4 d3 d4 c6 B K d5 h1 h2 h3 h4 h5
   refine⟨_,_,_,_,_,_,rs++ms,rfl,K.mono d5,h1,by rw[h2,Qzq],by rw[lQa];omega,by rw[lQa];omega,by omega,λq hq=> ?_⟩
   rw[lQa]
   rcases mQa.mp hq with hq|hq
   ·exact(hok q hq).mono (by omega)
   ·exact h5 q hq
  have w:∀m:Nat,m<=100->m<sizeLine:=λm hm=>Nat.lt_of_le_of_lt hm (by decide)
  have l9:rs.length<=9:=by omega
  have lr:(rs.map Rw.d).length=rs.length:=by simp
  have a3:∀{t':Tr},t'.Ok sc.ws sc.bs->t'.dep<=3->Ey sc t':=λh1 h2=>⟨h1,by omega⟩
  have U:sc.ws.length<1000:=by rw[sw];simp[fF];omega
  have b0:sc.bs.length<1000:=by rw[sb];omega
  refine dX (xE rfl rfl N λc hc=>aN (λJ=> ?_) (λJ=> ?_))
  ·
   apply fX (B4 ?_)
   apply⟨_,_,rfl,y,?_⟩
   apply a_ y ?_
   rw[lr]
   refine G6 (sc:=sc) R (by omega) C nb A N U b0 (by simpa using hc J) (by rw[sw];simp[fF]) so λms B h1 e9 h2 K l l5=> ?_
   dsimp only
   have H:=l.keep _ _ M y
   refine⟨_,H,⟨rfl,?_⟩,?_⟩
   ·simp only[lQm]
    exact nQl (w _ (by omega))
   ·exact F ms _ _ _ _ _ (K.put (by omega) kl) (by omega) (ft (by omega) (l.keep _ _ C A)) (cj H) e9 h2 h1
  refine dX (xE rfl rfl N λc hc=>aN (λJ=> ?_) (λJ=> ?_))
  ·apply bA (ou ?_)
   refine⟨by decide,?_⟩
   have d9:∀(v0:Bool) (n':Nat) (B:aC),Ex k n' S B->n'<=n+1+36*i+2->B[S.length]?=some (.lst (sc.ws.map D.str))->B[r]?=some (.lst (rs.map Rw.d))->B[S4.length]?=some (.lst [.str "call",.str "all"])→
     Op (intOfD [.bl v0]) λd1=>Op (kf B (.ref S4.length) d1) λX=>T (kn (nM eQ (av 8) (aq (aP (aq (av 11) (aq (ay bo (aq (av 0) (aq (av 6) au))) au))) au))) [some (.ref k),some (.tup [.str ah,.ref t,.ref b]),some (.ref g),some (.int 3),some (.str ah),some (.ref t),some (.ref b),some (.ref S.length),some (.ref r),some d,some (.int d0),some X,b1,a6,a5] B λo=>match o with|.nx W S3=>Inv (i+1) W S3|_=>False:=by
    intro v0 n' B K d5 f7 H f3
    obtain⟨v,hv,f1⟩:∃v:Nat,v<=1/\intOfD [.bl v0]=some (.int v):=by
     cases v0 with
     |true=>exact⟨1,by omega,rfl⟩
     |false=>exact⟨0,by omega,rfl⟩
    refine⟨_,f1,?_⟩
    have f9:∃(f:Str->Rw) (s:Str),(∀z,(f z).d=.tup [.str s,.str z])/\(∀z n,z∈sc.bs->(f z).Ok sc n)/\jw ([.str "call",.str "all"]:List D) (v:Int)=some (.str s):=by
     rcases v with _|_|v
     ·exact⟨.call,"call",λ_=>rfl,λz n hz=>⟨so,hz⟩,rfl⟩
     ·exact⟨.all,"all",λ_=>rfl,λz n hz=>⟨so,hz⟩,rfl⟩
     ·omega
    obtain⟨f,s,hf,f8,hs⟩:=f9
    refine dN f3 hs ?_
    apply fX (gY ?_)
    apply⟨_,_,rfl,H,?_⟩
    refine eD K (by omega) nb (K.keep _ _ nb (by rw[sb];exact gb)) (hc J) (by simp;omega) dI fB λv2 S6 b4 Y e l6=> ?_
    obtain⟨z,hz,rfl⟩:=Qkq.mp b4
    symm
    refine⟨by show 2<=_;decide,?_⟩
    symm
    have u:=e.keep _ _ M H
    refine⟨_,u,cG (w _ (by rw[lr];omega)) ?_⟩
    refine F [f z] _ _ _ _ _ (Y.put (by omega) kl) (by omega) (ft (by omega) (e.keep _ _ C f7)) ?_ (by simp) (by simp) λq' I=>by rw[Qfq.mp I];exact f8 _ _ hz
    rw[cj u]
    simp[hf]
   have up:∀{P Q:D->Prop} {v:Bool} {B:aC},(Op (intOfD [.bl v]) λX=>Op (kf B (.ref S4.length) X) P)->(∀X,P X->Q X)->Op (intOfD [.bl v]) λX=>Op (kf B (.ref S4.length) X) Q:=λ{P Q v B} hp hi=>by
    obtain⟨d1,a1,X,a2,p⟩:=hp
    exact⟨d1,a1,X,a2,hi _ p⟩
   have tm:∀{f:cO} {Γ:cv} {B:aC} {Q:Out->Prop},(T f Γ B λo=>match o with|.nx W S3=>Inv (i+1) W S3|_=>False)->(∀W S3,Inv (i+1) W S3->Q (.nx W S3))->T f Γ B Q:=λht hi=>ht.mono λo ho=>by
    cases o with
    |nx a b=>exact hi _ _ ho
    |_=>exact ho.elim
   refine Np (cE (Ft (fK (bp rfl (mD (iK ⟨_,rfl,?_⟩))))))
   refine aN (λc=> ?_) (λc=> ?_)
   ·symm
    apply bB (R.app (G:= [O.lst [.str "call",.str "all"]])) (by omega) (by decide) (by decide) λv B hv K l l5=> ?_
    apply df ?_
    refine up (d9 _ _ B K (by omega) (l.keep _ _ C (aH A)) (l.keep _ _ M (aH y)) (l.keep _ _ (by have:=R.lt;omega) aJ)) λX h2=> ?_
    exact tm h2 λ_ _ z=>z
   ·refine ke ?_
    refine up (d9 false _ _ (R.app (G:= [O.lst [.str "call",.str "all"]])) (by omega) (aH A) (aH y) aJ) λX h2=> ?_
    exact tm h2 λ_ _ z=>z
  refine dX (CF rfl rfl b9 λc hc=>aN (λJ=> ?_) (λJ=> ?_))
  ·have d6:∀p∈L,sN k S4 p:=λp hp=>(hL p hp).ex R
   apply bA (Nu ?_)
   refine eD R (by omega) ng b9 (hc J) (by simp;omega) Fy (JH d6) λv B hv K l l5=> ?_
   obtain⟨p,hp,rfl⟩:=Qkq.mp hv
   have Z:=(d6 p hp).ex l
   dsimp only
   apply dG rfl (ax (aS (ax (aS (a8 ?_)))))
   apply yF ?_
   apply⟨by decide,?_⟩
   refine a_ (K.keep _ _ nt (by rw[←sp] at gt;exact gt)) ?_
   refine⟨⟨rfl,rfl,trivial,by simp only[lQm,Qnq,QGq];exact QAq (show 0+1+sc.ps.length<=1000 by rw[sp];omega) (by decide)⟩,?_⟩
   symm
   refine eD (i:=B.length) (K.app (G:= [O.lst ([.non]++sc.ps.map D.str)])) (by omega) (by have:=K.lt;omega) aJ (by simp) (by rw[sp];simp;omega) (λd hd=>(j_ (m:=0) d hd).1) (λd hd=>(j_ d hd).2) λv2 S6 b4 Y e l6=> ?_
   obtain⟨o,rfl,ho⟩:=xl v2 b4
   have u:=e.keep _ _ M (aH (l.keep _ _ M y))
   have c5:=e.keep _ _ C (aH (l.keep _ _ C A))
   have f4:=e.keep _ _ Z.1 (aH Z.2.1)
   dsimp only
   apply fX (gY ?_)
   apply⟨_,_,rfl,u,?_⟩
   refine eD Y (by omega) Z.1 f4 (by simpa using Z.2.2.1) (by simp;have:=Z.2.2.2;omega) dI fB λv3 S7 f0 e7 b5 l7=> ?_
   obtain⟨dd,f2,rfl⟩:=Qkq.mp f0
   symm
   apply⟨by decide,?_⟩
   refine gF 4 (deep:=1) (bs:= []) (e7.app (G:= [O.lst []])) (by omega) C (j:=S7.length) (by have:=e7.lt;omega) (aH (b5.keep _ _ C c5)) aJ U (by decide) (by decide) λt3 S8 h3 h4 e8 d7 l8=> ?_
   symm
   refine⟨by show 5<=_;decide,?_⟩
   symm
   have c3:=d7.keep _ _ M (aH (b5.keep _ _ M u))
   refine⟨_,c3,cG (w _ (by rw[lr];omega)) ?_⟩
   exact F [.do_ o p.1 dd t3] _ _ _ _ _ (e8.put (by omega) kl) (by omega) (ft (by omega) (d7.keep _ _ C (aH (b5.keep _ _ C c5)))) (cj c3) (by simp) (by simp) λq' I=>by rw[Qfq.mp I];exact⟨ho,by rw[sg];exact Kv hp f2,a3 (xV _ h3) (by omega)⟩
  refine dX (Eo rfl λc=>aN (λJ=> ?_) (λJ=> ?_))
  ·apply fX (gY ?_)
   apply⟨_,_,rfl,y,?_⟩
   apply gF 4 (deep:=1) R (by omega) C nb A N U b0 (by decide) λt3 S6 h3 h4 Y e l6=> ?_
   refine⟨by show 2<=_;decide,?_⟩
   symm
   have u:=e.keep _ _ M y
   refine⟨_,u,cG (w _ (by rw[lr];omega)) ?_⟩
   exact F [.tell t3] _ _ _ _ _ (Y.put (by omega) kl) (by omega) (ft (by omega) (e.keep _ _ C A)) (cj u) (by simp) (by simp) λq' I=>by rw[Qfq.mp I];exact⟨so,a3 h3 (by omega)⟩
  refine dX (Eo rfl λc=>aN (λJ=> ?_) (λJ=> ?_))
  ·apply bA (fX (gY ?_))
   apply⟨_,_,rfl,y,?_⟩
   apply gF 4 (deep:=2) R (by omega) C nb A N U b0 (by decide) λt3 B h3 h4 K l l5=> ?_
   have H:=l.keep _ _ M y
   apply a_ H ?_
   refine⟨by show 3<=_;decide,?_⟩
   symm
   refine⟨_,H,cG (w _ (by rw[lr];omega)) ?_⟩
   dsimp only
   apply fX (gY ?_)
   apply⟨_,_,rfl,cj H,?_⟩
   apply bB (K.put (r:=r) (by omega) kl) (by omega) (by decide) (by decide) λv S6 hv Y e l6=> ?_
   refine⟨by show 2<=_;decide,?_⟩
   symm
   have u:=e.keep _ _ M (cj H)
   refine⟨_,u,cG (w _ (by simp;omega)) ?_⟩
   refine F [.unl t3 (rs.length+2),.tell (.num v)] _ _ _ _ _ (Y.put (by omega) kl) (by omega) (ft (by omega) (e.keep _ _ C (ft (by omega) (l.keep _ _ C A)))) ?_ (by simp) (by simp) λq hq=> ?_
   ·rw[cj u]
    simp[Rw.d,Tr.d]
   ·simp only[Qsq,QXq,or_false] at hq
    rcases hq with rfl|rfl
    ·exact⟨a3 h3 (by omega),by show rs.length+2<=rs.length+2;omega⟩
    ·exact⟨so,by show v<=9;omega,by show 1<=4;omega⟩
  refine dX (Ae rfl b3 λc hc=>aN (λJ=> ?_) (λJ=> ?_))
  ·apply fX (gY ?_)
   apply⟨_,_,rfl,y,?_⟩
   refine eD R (by omega) nt b3 (hc J) (by rw[sp];simp;omega) dI fB λv B hv K l l5=> ?_
   obtain⟨z,hz,rfl⟩:=Qkq.mp hv
   symm
   apply gF 4 (deep:=2) K (by omega) C nb (l.keep _ _ C A) (l.keep _ _ nb N) U b0 (by decide) λt3 S6 h3 h4 Y e l6=> ?_
   refine⟨by show 3<=_;decide,?_⟩
   symm
   have u:=e.keep _ _ M (l.keep _ _ M y)
   refine⟨_,u,cG (w _ (by rw[lr];omega)) ?_⟩
   exact F [.put z t3] _ _ _ _ _ (Y.put (by omega) kl) (by omega) (ft (by omega) (e.keep _ _ C (l.keep _ _ C A))) (cj u) (by simp) (by simp) λq' I=>by rw[Qfq.mp I];exact⟨hz,a3 h3 (by omega)⟩
  ·apply fX (gY ?_)
   apply⟨_,_,rfl,y,?_⟩
   apply⟨by decide,?_⟩
   refine gF 4 (deep:=1) (bs:= []) (R.app (G:= [O.lst []])) (by omega) C (j:=S4.length) (by have:=R.lt;omega) (aH A) aJ U (by decide) (by decide) λt3 S6 h3 h4 Y e l6=> ?_
   symm
   refine⟨by show 2<=_;decide,?_⟩
   symm
   have u:=e.keep _ _ M (aH y)
   refine⟨_,u,cG (w _ (by rw[lr];omega)) ?_⟩
   exact F [.tell t3] _ _ _ _ _ (Y.put (by omega) kl) (by omega) (ft (by omega) (e.keep _ _ C (aH A))) (cj u) (by simp) (by simp) λq' I=>by rw[Qfq.mp I];exact⟨so,a3 (xV _ h3) (by omega)⟩
 ·rintro b6 S3 ⟨o9,b7,b8,b1,a6,a5,rs,rfl,e3,hw3,hr3,hl1,hl2,hn4,hok⟩
  have e1:(gH 0 (1+(b2:Int))).length=b2+1:=by simp only[gH,lQm,QVq];omega
  rw[e1] at hl1 hl2 hn4 e3
  symm
  refine a_ hr3 ?_
  refine⟨rfl,?_⟩
  dsimp only
  refine qY (e3.mono (m:=n+110) (by omega)) x (λk z=>(nomatch z)) (by simp only[bK];exact aY λq _=>cW q.low) λS2 a b c=> ?_
  exact h rs _ hok (by omega) (by omega) a b c
end W28
namespace DL
open PySem PySem.Spec L2
def MR{b a:cv}{d:D}(h:b.set 0 none=a.set 0 none):b.set 0 (some d)=a.set 0 (some d):=by
 have:=congrArg (λc:cv=>c.set 0 (some d)) h
 simpa using this
def xT{i:cv}{S:aC}{js:List (Option Nat)}{f:dz}{e:bx}{Q:List D->aC->Prop}(F:D->D)(h:E f i S λp c=>p.2.stays c p.1/\p.1.length<=1000/\(∀d∈p.1,E e ((pe js i).set 0 (some d)) c λy S2=>y=F d/\S2=c)/\Q (p.1.map F) c):
  E (bO js (jW f) (bL 0) cu e) i S Q:=by
 refine lz (uY (h.mono λp c k=> ?_))
 obtain⟨s,hl,r,q⟩:=k
 refine⟨λn b g a=>g=c/\a=(p.1.take n).map F/\b.set 0 none=(pe js i).set 0 none,⟨rfl,rfl,rfl⟩,λn b g a h=>by rw[h.1];exact s,λn d b g a j h=> ?_,λb g a h=> ?_⟩
 ·obtain⟨rfl,rfl,h3⟩:=h
  refine aS (xF ?_)
  rw[Qhq rfl,MR h3]
  refine(r d (mQg j)).mono λy S2 o=> ?_
  obtain⟨l,m⟩:=o
  subst l m
  have t:=(gQs.mp j).1
  refine⟨?_,rfl,?_,by simp⟩
  ·rw[lQm,Qxq]
   exact aZ (by omega)
  ·rw[QYq,j]
   simp
 ·obtain⟨rfl,rfl,_⟩:=h
  rw[QEq]
  exact q
end DL
namespace W28
open PySem PySem.Spec L2 DL
def uK(p:Str×Nat):D:=.tup [.str p.1,.int p.2]
def Eb(p:Str×Str):D:=.tup [.str p.1,.str p.2]
def hZ(p:Str×List Rw):D:=.tup [.str p.1,.tup (p.2.map Rw.d)]
def CM{q:cv}{S r:aC}{k f j l:Nat}{m:Nat}{ws:List Str}{Q:List D->aC->Prop}(x:Ex k f r S)(F:f+ws.length<1000000000)(A:q.getD 0 none=some (.ref k))(w:q[j]?=some (some (.ref l)))(hl:S[l]?=some (.lst (ws.map D.str)))(nl:l≠k)(G:0<m)(L:m<1000)(J:ws.length<=1000)
  (h:∀(ps:List (Str×Nat)) (a:aC),ps.map (·.1)=ws->(∀p∈ps,p.2<m)->Ex k (f+ws.length) r a->Ex k (f+ws.length) S a->a.length=S.length->Q (ps.map uK) a):
  E (bO [none,some 0] (jW (aQ (av j))) (bL 0) cu (aP (aq (av 0) (aq (ay aB (aq (av 1) (aq (cF (.int m)) au))) au)))) q S Q:=by
 have y:=x.here
 refine lz (uY (fh (bp w (a_ hl ?_))))
 refine⟨λn c a b=>∃(o:Option D) (ps:List (Str×Nat)),c= [o,some (.ref k)]/\Ex k (f+n) r a/\Ex k (f+n) S a/\a.length=S.length/\ps.map (·.1)=ws.take n/\(∀p∈ps,p.2<m)/\b=ps.map uK,⟨none,[],by show [none,q.getD 0 none]=_;rw[A],x,y,rfl,rfl,by simp,rfl⟩,?_,?_,?_⟩
 ·rintro n c a b ⟨o,ps,_,_,e,_⟩
  exact e.keep _ _ nl hl
 ·rintro n d c a b u ⟨o,ps,rfl,e0,e1,el,h1,h2,rfl⟩
  obtain⟨z,i,rfl⟩:∃z,ws[n]?=some z/\d=.str z:=by
   rw[gQm] at u
   obtain⟨z,i,e⟩:=oQm.mp u
   exact⟨z,i,e.symm⟩
  symm
  rw[Qhq rfl]
  symm
  have C:=(gQs.mp i).1
  apply bB e0 (by omega) (by omega) (by omega) λv I K B s H=> ?_
  refine⟨by show 2<=_;decide,?_⟩
  have M:=(gQs.mp i).1
  have t:ps.length=n:=by
   have:=congrArg List.length h1
   rw[lQm,Qxq] at this
   omega
  refine⟨?_,_,ps++ [(z,v)],rfl,B,e1.trans s,by omega,?_,λp g=> ?_,by simp[uK]⟩
  ·rw[lQm]
   exact aZ (by omega)
  ·rw[Qzq,h1,QYq,i]
   rfl
  ·rcases mQa.mp g with g|g
   ·exact h2 p g
   ·rw[Qfq.mp g]
    show v<m
    omega
 ·rintro c a b ⟨o,ps,rfl,e0,e1,el,h1,h2,rfl⟩
  simp only[lQm] at e0 e1 h1
  exact h ps a (by rw[h1];simp) h2 e0 e1 el
def Je{q:cv}{S t:aC}{k f j l:Nat}{ws:List Str}{Q:List D->aC->Prop}(x:Ex k f t S)(I:f+ws.length<1000000000)(C:q.getD 0 none=some (.ref k))(A:q[j]?=some (some (.ref l)))(hl:S[l]?=some (.lst (ws.map D.str)))(nl:l≠k)(L:ws.length<=1000)
  (h:∀(ps:List (Str×Str)) (a:aC),ps.map (·.1)=ws->(∀p∈ps,p.2="row" \/p.2="turns")->Ex k (f+ws.length) t a->Ex k (f+ws.length) S a->Q (ps.map Eb) a):
  E (bO [none,some 0] (jW (aQ (av j))) (bL 0) cu (aP (aq (av 0) (aq (aV kf (bC (bg (aq (cF (.str "row")) (aq (cF (.str "turns")) au)))) (ay aB (aq (av 1) (aq (cF (.int 2)) au)))) au)))) q S Q:=by
 have y:=x.here
 refine lz (uY (fh (bp A (a_ hl ?_))))
 refine⟨λn c a b=>∃(o:Option D) (ps:List (Str×Str)),c= [o,some (.ref k)]/\Ex k (f+n) t a/\Ex k (f+n) S a/\ps.map (·.1)=ws.take n/\(∀p∈ps,p.2="row" \/p.2="turns")/\b=ps.map Eb,⟨none,[],by show [none,q.getD 0 none]=_;rw[C],x,y,rfl,by simp,rfl⟩,?_,?_,?_⟩
 ·rintro n c a b ⟨o,ps,_,_,e,_⟩
  exact e.keep _ _ nl hl
 ·rintro n d c a b w ⟨o,ps,rfl,e0,e1,h1,h2,rfl⟩
  obtain⟨z,i,rfl⟩:∃z,ws[n]?=some z/\d=.str z:=by
   rw[gQm] at w
   obtain⟨z,i,e⟩:=oQm.mp w
   exact⟨z,i,e.symm⟩
  symm
  rw[Qhq rfl]
  symm
  apply⟨by decide,?_⟩
  have H:=(gQs.mp i).1
  refine bB (e0.app (G:= [O.lst [.str "row",.str "turns"]])) (by omega) (by decide) (by decide) λv K M F m J=> ?_
  dsimp only
  have r:∃s:Str,(s="row" \/s="turns")/\jw ([.str "row",.str "turns"]:List D) (v:Int)=some (.str s):=by
   rcases v with _|_|v
   ·exact⟨"row",.inl rfl,rfl⟩
   ·exact⟨"turns",.inr rfl,rfl⟩
   ·omega
  obtain⟨s,r,B⟩:=r
  refine dN (m.keep _ _ (by have:=e0.lt;omega) aJ) B ?_
  symm
  refine⟨by show 2<=_;decide,?_⟩
  have N:=(gQs.mp i).1
  have u:ps.length=n:=by
   have:=congrArg List.length h1
   rw[lQm,Qxq] at this
   omega
  refine⟨?_,_,ps++ [(z,s)],rfl,F,(e1.app).trans m,?_,λp g=> ?_,by simp[Eb]⟩
  ·rw[lQm]
   exact aZ (by omega)
  ·rw[Qzq,h1,QYq,i]
   rfl
  ·rcases mQa.mp g with g|g
   ·exact h2 p g
   ·rw[Qfq.mp g]
    exact r
 ·rintro c a b ⟨o,ps,rfl,e0,e1,h1,h2,rfl⟩
  simp only[lQm] at e0 e1 h1
  exact h ps a (by rw[h1];simp) h2 e0 e1
def Rw.Ok.sub{a:Bool}{ws ps bs ts:List Str}{c b:List (Str×Str)}{n:Nat}{r:Rw}(h:r.Ok ⟨a,ws,ps,bs,c,ts⟩ n)(e:∀g∈c,g∈b):r.Ok ⟨a,ws,ps,bs,b,ts⟩ n:=by
 cases r with
 |do_ g r d t=>exact⟨h.1,e _ h.2.1,h.2.2⟩
 |_=>exact h
def uj.sub{a:Bool}{ws ps bs ts:List Str}{c b:List (Str×Str)}{rs:List Rw}(h:uj ⟨a,ws,ps,bs,c,ts⟩ rs)(e:∀g∈c,g∈b):uj ⟨a,ws,ps,bs,b,ts⟩ rs:=λr d=>(h r d).sub e
structure Rm where
 name:Str
 ah:Str
 ao:List (Str×Nat)
 aa:List (Str×Str)
 ae:List (Str×List Rw)
def Rm.d(r:Rm):D:=.tup [.str r.name,.str r.ah,.tup (r.ao.map uK),.tup (r.aa.map Eb),.tup (r.ae.map hZ)]
structure Ag(gs:List (Str×Str))(r:Rm):Prop where
 mn:r.ah="at once" \/r.ah="when free"
 tv:∀p∈r.ao,p.2<=9
 l1:r.ao.length<=6
 l2:r.aa.length<=6
 l3:r.ae.length<=6
 bv:∀p∈r.aa,p.2="row" \/p.2="turns"
 pr:∀p∈r.ae,uj ⟨false,r.ao.map (·.1)++fF,r.ao.map (·.1),r.aa.map (·.1),gs,[]⟩ p.2/\p.2.length<=12
def Aj(p:Str×List Rw):bK 0 (hZ p)=true:=by
 simp only[hZ,bK,bD,Bool.and_true,Bool.true_and]
 exact aY λr _=>r.low
def Rm.low(r:Rm):bK 0 r.d=true:=by
 simp only[Rm.d,bK,bD,Bool.and_true,Bool.true_and,QCq]
 exact⟨aY λ_ _=>rfl,aY λ_ _=>rfl,aY λp _=>Aj p⟩
end W28
namespace DL
open PySem PySem.Spec L2
def LV{a:cv}{S:aC}{f:dz}{g:bx}{Q:List D->aC->Prop}(h:E f a S λp b=>E g a b λr S2=>∃n:Nat,r=.int n/\(p.2.isM=true/\p.2.stays S2 p.1/\p.1.length*n<=1000/\n<=1)/\Q ((List.replicate n p.1).flatten) S2):E (AO f g) a S Q:=by
 obtain⟨p,b,d,r,S2,c,n,rfl,⟨h1,h2,h3,h4⟩,q⟩:=h
 refine⟨_,S2,?_,q⟩
 unfold AO
 rw[d]
 simp only[Qbq]
 rw[c]
 simp only[Qbq]
 rw[Qhq ⟨h1,h2,by omega,by omega,by simpa using QAq h3 (by decide)⟩]
 simp
end DL
namespace W28
open PySem PySem.Spec L2 DL
def HF{L M:List Lt}:Cz (L++M)=Cz L++Cz M:=by simp[Cz]
def sf{a b c d:Nat}{v:Nat}(o:(v:Int)<4){m:Nat}(f:a<=m)(g:b<=m)(j:c<=m)(hd:d<=m){l:Nat}(h:l<=a)(i:l<=b)(e:l<=c)(k:l<=d):∃n:Nat,n<=m/\l<=n/\jw ([.int a,.int b,.int c,.int d]:List D) (v:Int)=some (.int n):=by
 rcases v with _|_|_|_|v
 ·exact⟨a,f,h,rfl⟩
 ·exact⟨b,g,i,rfl⟩
 ·exact⟨c,j,e,rfl⟩
 ·exact⟨d,hd,k,rfl⟩
 ·omega
def HK(d:D):D:=match d with
 |.tup (a::_)=>a
 |d=>d
def Ki{a b:Str}{v:Nat}(c:(v:Int)<2):∃s:Str,(s=a\/s=b)/\jw ([.str a,.str b]:List D) (v:Int)=some (.str s):=by
 rcases v with _|_|v
 ·exact⟨_,.inl rfl,rfl⟩
 ·exact⟨_,.inr rfl,rfl⟩
 ·omega
def G5{S S0:aC}{k n g:Nat}{name:Str}{L:List Lt}{Q:Res->aC->Prop}(x:Ex k n S0 S)(hn:n<999980000)(ng:g≠k)(gg:S[g]?=some (.lst (L.map C6)))(hL:∀p∈L,sN k S p)(lg:L.length<=100)
  (h:∀(r:Rm) (N:aC),r.name=name->Ag (Cz L++r.ae.map λp=>(name,p.1)) r->0<r.ae.length->r.ae.length<=3->(∀p∈r.aa,t4 p.1)->Ex k (n+350) S0 N->Ex k (n+350) S N->N.length=S.length->Q (.d r.d) N):
  Fn jR [.ref k,.str name,.ref g] S Q:=by
 have kl:=x.lt
 refine bT ?_
 unfold m4
 symm
 apply⟨by decide,?_⟩
 refine bB (x.here.app (G:= [O.lst [.str "at once",.str "when free"]])) (by omega) (by decide) (by decide) λvm S1 c2 e1 b6 l1=> ?_
 dsimp only
 obtain⟨ah,b1,b4⟩:=Ki (a:="at once") (b:="when free") c2
 apply dN (b6.keep _ _ (by omega) aJ) b4 ?_
 apply⟨by decide,?_⟩
 refine bB (e1.app (G:= [O.lst [.int 1,.int 1,.int 2,.int 0]])) (by omega) (by decide) (by decide) λv S2 hv e2 d1 l2=> ?_
 dsimp only
 obtain⟨nt,f7,_,ha⟩:=sf (a:=1) (b:=1) (c:=2) (d:=0) hv (m:=2) (l:=0) (by omega) (by omega) (by omega) (by omega) (by omega) (by omega) (by omega) (by omega)
 refine dN (d1.keep _ _ (by have:=e1.lt;omega) aJ) ha ?_
 symm
 apply ja e2 (by omega) (by omega) λao B _ f1 ot e3 f6 l3=> ?_
 apply⟨by decide,?_⟩
 have U:B.length≠k:=by have:=e3.lt;omega
 have X:Ex k (n+1+1+2) S (B++ [O.lst (ao.map D.str)]):=e3.app
 have a4:(B++ [O.lst (ao.map D.str)])[B.length]?=some (.lst (ao.map D.str)):=aJ
 have d4:(B++ [O.lst (ao.map D.str)]).length=B.length+1:=by simp
 generalize (B++ [O.lst (ao.map D.str)])=T3 at X a4 d4⊢
 refine bB (X.app (G:= [O.lst [.int 1,.int 1,.int 2,.int 0]])) (by omega) (by decide) (by decide) λvb S4 d2 e4 W l4=> ?_
 dsimp only
 obtain⟨nb,d9,_,d3⟩:=sf (a:=1) (b:=1) (c:=2) (d:=0) d2 (m:=2) (l:=0) (by omega) (by omega) (by omega) (by omega) (by omega) (by omega) (by omega) (by omega)
 refine dN (W.keep _ _ (by have:=X.lt;omega) aJ) d3 ?_
 symm
 apply ja e4 (by omega) (by omega) λaa A _ f5 ob e5 a5 l5=> ?_
 refine⟨by decide,?_⟩
 have k5:A.length≠k:=by have:=e5.lt;omega
 have gt:(A++ [O.lst (aa.map D.str)]++ [O.lst []])[B.length]?=some (.lst (ao.map D.str)):=aH (aH (a5.keep _ _ U (W.keep _ _ U (aH a4))))
 have gb:(A++ [O.lst (aa.map D.str)]++ [O.lst []])[A.length]?=some (.lst (aa.map D.str)):=aH aJ
 have g0:S.length<=B.length:=e3.len
 have e0:S.length<=A.length:=e5.len
 have f3:B.length<A.length:=by
  have:=a5.len
  have:=W.len
  simp only[lQa,Qnq,QGq] at *
  omega
 have e6:=(e5.app (G:= [O.lst (aa.map D.str)])).app (G:= [O.lst []])
 generalize hr:A.length+1=r
 have F:(A++ [O.lst (aa.map D.str)]).length=r:=by simp[hr]
 rw[F]
 have gr:(A++ [O.lst (aa.map D.str)]++ [O.lst []])[r]?=some (.lst []):=by rw[←F];exact aJ
 have l6:(A++ [O.lst (aa.map D.str)]++ [O.lst []]).length=r+1:=by simp[←hr]
 generalize (A++ [O.lst (aa.map D.str)]++ [O.lst []])=S6 at e6 gt gb gr l6⊢
 have d6:ao.length=nt:=by omega
 have d7:aa.length=nb:=by omega
 apply bA (fe ?_)
 apply⟨by decide,?_⟩
 refine bB (e6.app (G:= [O.lst [.int 1,.int 2,.int 2,.int 3]])) (by omega) (by decide) (by decide) λvd S7 c5 e7 J l7=> ?_
 dsimp only
 obtain⟨nd,f4,d8,b7⟩:=sf (a:=1) (b:=2) (c:=2) (d:=3) c5 (m:=3) (l:=1) (by omega) (by omega) (by omega) (by omega) (by omega) (by omega) (by omega) (by omega)
 refine dN (J.keep _ _ (by have:=e6.lt;omega) aJ) b7 ?_
 symm
 apply ja e7 (by omega) (by omega) λd5 S8 _ f9 od e8 a0 l8=> ?_
 have kr:r≠k:=by omega
 let Inv:Nat->cv->aC->Prop:=λi Y N=>∃(o7 o8:Option D) (f:List (Str×List Rw)),Y= [some (.ref k),some (.str name),some (.ref g),some (.str ah),some (.ref B.length),some (.ref A.length),some (.ref r),o7,o8]∧
  Ex k (n+10+110*i) S N/\N[B.length]?=some (.lst (ao.map D.str))/\N[A.length]?=some (.lst (aa.map D.str))/\N[r]?=some (.lst (f.map hZ))/\f.length=i/\(∀p∈f,uj ⟨false,ao++fF,ao,aa,Cz L++f.map λp=>(name,p.1),[]⟩ p.2/\p.2.length<=12)
 refine⟨Inv,⟨none,none,[],rfl,e8.mono (by omega),a0.keep _ _ U (J.keep _ _ U (aH gt)),a0.keep _ _ k5 (J.keep _ _ k5 (aH gb)),a0.keep _ _ kr (J.keep _ _ kr (aH gr)),rfl,by simp⟩,λ_ _ _ _=>trivial,?_,?_⟩
 ·rintro i d Y y hd ⟨o7,o8,f,rfl,e9,gt9,gb9,gr9,hi,hpr⟩
  obtain⟨w,hw,rfl⟩:∃z,d5[i]?=some z/\d=.str z:=by
   rw[gQm] at hd
   obtain⟨z,hz,e⟩:=oQm.mp hd
   exact⟨z,hz,e.symm⟩
  have f8:i<3:=by
   have:=(gQs.mp hw).1
   omega
  apply aS ?_
  apply LV ?_
  apply xT HK ?_
  refine a_ gr9 ?_
  refine⟨gr9,by simp;omega,λd hd=> ?_,?_⟩
  ·obtain⟨p,_,rfl⟩:=Qkq.mp hd
   symm
   refine aw rfl ?_
   exact⟨rfl,rfl⟩
  have eh:(f.map hZ).map HK=(f.map (·.1)).map D.str:=by
   rw[QPq,QPq]
   rfl
  rw[eh]
  symm
  refine⟨by show 2<=_;decide,?_⟩
  symm
  refine⟨by show 1<=_;decide,?_⟩
  symm
  have K:Ex k (n+10+110*i) S (y++ [O.lst ((f.map (·.1)).map D.str)]):=e9.app
  have b0:(y++ [O.lst ((f.map (·.1)).map D.str)])[y.length]?=some (.lst ((f.map (·.1)).map D.str)):=aJ
  have u:(y++ [O.lst ((f.map (·.1)).map D.str)])[r]?=some (.lst (f.map hZ)):=aH gr9
  have I:(y++ [O.lst ((f.map (·.1)).map D.str)])[B.length]?=some (.lst (ao.map D.str)):=aH gt9
  have C:(y++ [O.lst ((f.map (·.1)).map D.str)])[A.length]?=some (.lst (aa.map D.str)):=aH gb9
  have k9:y.length≠k:=by have:=e9.lt;omega
  have r9:r<y.length:=(gQs.mp gr9).1
  have t9:B.length<y.length:=(gQs.mp gt9).1
  have b9:A.length<y.length:=(gQs.mp gb9).1
  have l9:(y++ [O.lst ((f.map (·.1)).map D.str)]).length=y.length+1:=by simp
  generalize (y++ [O.lst ((f.map (·.1)).map D.str)])=T9 at K b0 u I C l9⊢
  refine a_ u ?_
  apply⟨⟨rfl,u⟩,?_⟩
  obtain⟨q,hq,b8,b3⟩:∃q:Nat,q<=1/\intOfD [D.bl (!(f.map hZ).isEmpty)]=some (.int q)/\(q=0↔f= []):=by
   cases f with
   |nil=>exact⟨0,by omega,rfl,by simp⟩
   |cons a b=>exact⟨1,by omega,rfl,by simp⟩
  refine⟨_,b8,?_⟩
  refine⟨q,rfl,⟨rfl,trivial,by simp;omega,hq⟩,?_⟩
  generalize hM:(if f= [] then [] else [(name,y.length,f.map (·.1))]:List Lt)=M
  have eM:(List.replicate q [D.tup [D.str name,D.ref y.length]]).flatten=M.map C6:=by
   rw[←hM]
   by_cases c:f= []
   ·rw[Qhq c,b3.mpr c];rfl
   ·have:q=1:=by have:=mt b3.mp c;omega
    rw[Quq c,this];rfl
  have a1:∀p∈M,sN k T9 p:=by
   intro p s
   rw[←hM] at s
   by_cases c:f= []
   ·rw[Qhq c] at s;cases s
   ·rw[Quq c,Qfq] at s
    subst s
    refine⟨k9,b0,?_,?_⟩
    ·simp only[lQm];exact List.length_pos_iff.mpr c
    ·simp only[lQm];omega
  have d0:Cz M=f.map λp=>(name,p.1):=by
   rw[←hM]
   by_cases c:f= []
   ·rw[Qhq c,c];rfl
   ·rw[Quq c];simp[Cz]
  have lM:M.length<=1:=by
   rw[←hM]
   by_cases c:f= []
   ·rw[Qhq c];simp
   ·rw[Quq c];simp
  rw[eM]
  symm
  have a3:=K.keep _ _ ng gg
  apply gY ?_
  apply⟨_,_,rfl,aH u,?_⟩
  refine⟨by show 3<=_;decide,?_⟩
  symm
  apply yF ?_
  apply a_ (aH a3) ?_
  refine a_ aJ ?_
  refine⟨⟨rfl,rfl,aH a3,by simp only[lQm];exact nQl (aZ (by omega))⟩,?_⟩
  rw[←Qzq]
  symm
  have c3:∀p∈L++M,sN k (T9++ [O.lst (M.map C6)]++ [O.lst ((L++M).map C6)]) p:=by
   intro p s
   have:sN k T9 p:=by
    rcases mQa.mp s with s|s
    ·exact(hL p s).ex K
    ·exact a1 p s
   exact⟨this.1,aH (aH this.2.1),this.2.2⟩
  refine HQ (ao:=ao) (aa:=aa) (L:=L++M) ((K.app (G:= [O.lst (M.map C6)])).app (G:= [O.lst ((L++M).map C6)])) (by omega) U k5 (by simp;omega) (aH (aH I)) (aH (aH C)) aJ c3 (by omega) (by omega) (by rw[lQa];omega) λrs a2 h1 h2 h3 Z t c6=> ?_
  symm
  refine⟨by show 2<=_;decide,?_⟩
  symm
  have P:=t.keep _ _ kr (aH (aH u))
  refine⟨_,P,cG (aZ (by simp only[lQm];omega)) ?_⟩
  have kp:∀{j:Nat} {o:O},j≠k->j≠r->T9[j]?=some o->∀o',(a2.set r o')[j]?=some o:=λn n2 h o'=>ft n2 (t.keep _ _ n (aH (aH h)))
  refine⟨_,_,f++ [(w,rs)],rfl,(Z.put (by omega) kl).mono (by omega),kp U (by omega) I _,kp k5 (by omega) C _,?_,by simp[hi],λp s=> ?_⟩
  ·rw[cj P]
   simp[hZ]
  ·rw[HF,d0] at h1
   rcases mQa.mp s with s|s
   ·exact⟨(hpr p s).1.sub λg H=>by
     rcases mQa.mp H with H|H
     ·exact List.mem_append_left _ H
     ·rw[Qzq];exact Qoq _ (List.mem_append_left _ H),(hpr p s).2⟩
   ·rw[Qfq.mp s]
    exact⟨h1.sub λg H=>by
     rcases mQa.mp H with H|H
     ·exact List.mem_append_left _ H
     ·rw[Qzq];exact Qoq _ (List.mem_append_left _ H),h3⟩
 ·rintro Y y ⟨o7,o8,f,rfl,e9,gt9,gb9,gr9,hi,hpr⟩
  rw[lQm] at hi e9
  symm
  apply CM (m:=3) e9 (by omega) rfl rfl gt9 U (by decide) (by decide) (by omega) λts a2 a6 c1 Z t c6=> ?_
  apply Je Z (by omega) rfl rfl (t.keep _ _ k5 gb9) k5 (by omega) λbs g1 R b5 c0 b2=> ?_
  refine a_ (b2.keep _ _ kr (t.keep _ _ kr gr9)) ?_
  apply⟨rfl,?_⟩
  refine⟨by show 5<=_;decide,?_⟩
  have f2:ts.length=ao.length:=by rw[←a6];simp
  have f0:bs.length=aa.length:=by rw[←R];simp
  refine qY (d:=(Rm.mk name ah ts bs f).d) (c0.mono (m:=n+350) (by omega)) x (λk z=>(nomatch z)) (cW (Rm.low _)) λS2 a b c=> ?_
  refine h ⟨name,ah,ts,bs,f⟩ _ rfl ⟨b1,λp s=>by have:=c1 p s;omega,by show ts.length<=6;omega,by show bs.length<=6;omega,by show f.length<=6;omega,b5,?_⟩ (by show 0<f.length;omega) (by show f.length<=3;omega) (λp s=> ?_) a b c
  ·show∀p∈f,uj ⟨false,ts.map (·.1)++fF,ts.map (·.1),bs.map (·.1),_,[]⟩ p.2/\p.2.length<=12
   rw[a6,R]
   exact hpr
  ·have c4:p∈bs:=s
   have:p.1∈aa:=by rw[←R];exact Qkq.mpr ⟨p,c4,rfl⟩
   exact ob _ this
end W28
namespace DL
open PySem PySem.Spec L2
def Hy{b:cv}{S:aC}{f:dz}{Q:List D->aC->Prop}(h:E f b S λp a=>p.2.isL=true/\∃ss,qR p.1=some ss/\(p.1.length<=3/\ss.Nodup)/\Q (ui ss p.1) a):E (yx f) b S Q:=by
 obtain⟨p,a,d,l,ss,e,c,q⟩:=h
 exact⟨_,a,by unfold yx;rw[d];simp only[Qbq];rw[Qhq l,e];simp only[Qbq];rw[Qhq c],q⟩
def Dr{α:Type}{f:α->D}{ss:List Str}{xs:List α}(g:α)(b:xs.length<=3):∃ys:List α,ys.Perm xs/\ui ss (xs.map f)=ys.map f:=by
 refine⟨Zp.sortBy ss g xs,Zp.ed ss xs b,?_⟩
 have hl:(ui ss (xs.map f)).length=((Zp.sortBy ss g xs).map f).length:=by
  unfold ui
  rw[(Zp.ed ss (xs.map f) (by simpa using b)).length_eq,lQm,lQm,(Zp.ed ss xs b).length_eq]
 apply List.ext_getElem?
 intro i
 cases e:(ui ss (xs.map f))[i]? with
 | none=>
   rw[List.getElem?_eq_none_iff] at e
   rw[eq_comm,List.getElem?_eq_none_iff]
   omega
 | some d=>
   obtain⟨y,c,r⟩:=uz (R:=λ(d:D) (a:α)=>d=f a) (ss:=ss) (xs:=xs.map f) (ys:=xs) (d:=.non) (d':=g) (by simp) (by simpa using b) (λi d h=>by
     rw[gQm] at h
     obtain⟨y,c,e⟩:=oQm.mp h
     exact⟨y,c,e.symm⟩) i d e
   rw[gQm,c,r]
   rfl
end DL
namespace W28
open PySem PySem.Spec L2 DL
def bM(rs:List Rm):List (Str×Str):=rs.flatMap λr=>r.ae.map λp=>(r.name,p.1)
def Ag.sub{c a:List (Str×Str)}{r:Rm}(h:Ag c r)(d:∀g∈c,g∈a):Ag a r:={h with pr:=λp b=>⟨(h.pr p b).1.sub d,(h.pr p b).2⟩}
theorem Cg:∀rs:List Rm,qR (rs.map Rm.d)=some (rs.map (·.name))
 | []=>rfl
 | r::rs=>by
   show qR (Rm.d r::rs.map Rm.d)=_
   simp only[Rm.d,qR]
   rw[Cg rs]
   rfl
theorem EO:∀{L:List Lt} {rs:List Rm},L.map (λp=>(p.1,p.2.2))=rs.map (λr=>(r.name,r.ae.map (·.1)))->Cz L=bM rs
 | [],[],_=>rfl
 | [],r::rs,h=>by cases h
 |p::L,[],h=>by cases h
 | p::L,r::rs,h=>by
   simp only[QDq,List.cons.injEq,Prod.mk.injEq] at h
   obtain⟨⟨c,a⟩,b⟩:=h
   have:=EO b
   simp only[Cz,bM,QSq] at this⊢
   rw[this,c,a,QPq]
   rfl
structure GH(r:Rm):Prop where
 d0:0<r.ae.length
 d3:r.ae.length<=3
 nm:t4 r.name
 bl:∀p∈r.aa,t4 p.1
def Gh{S S0:aC}{k n most:Nat}{Q:Res->aC->Prop}(x:Ex k n S0 S)(hn:n<999970000)(a5:0<most)(hm:most<=3)
  (h:∀(rs:List Rm) (u:aC),(rs.map (·.name)).Nodup->0<rs.length->rs.length<=3->(∀r∈rs,Ag (bM rs) r)->(∀r∈rs,GH r)->Ex k (n+1100) S0 u->Ex k (n+1100) S u->u.length=S.length->Q (.d (.tup (rs.map Rm.d))) u):
  Fn iO [.ref k,.int most] S Q:=by
 have kl:=x.lt
 refine bT ?_
 unfold kS
 symm
 apply⟨by decide,?_⟩
 have e0:Ex k n S (S++ [O.lst []]):=x.here.app
 have C:(S++ [O.lst []])[S.length]?=some (.lst []):=aJ
 generalize (S++ [O.lst []])=S1 at e0 C⊢
 generalize hr:S.length=r at C⊢
 have X:r≠k:=by omega
 apply fe ?_
 apply bB e0 (by omega) (by omega) (by omega) λv S2 hv e2 a3 l2=> ?_
 rw[show(1:Int)+(v:Int)=((1+v:Nat):Int) by omega]
 apply ja e2 (by omega) (by omega) λt S3 nn a6 on e3 a1 P=> ?_
 refine⟨λi s u=>∃(o3 U:Option D) (rs:List Rm),s= [some (.ref k),some (.int most),some (.ref r),o3,U]/\Ex k (n+3+350*i) S u/\u[r]?=some (.lst (rs.map Rm.d))/\rs.map (·.name)=t.take i/\(∀x∈rs,Ag (bM rs) x)/\∀x∈rs,GH x,⟨none,none,[],rfl,e3.mono (by omega),a1.keep _ _ X (a3.keep _ _ X C),rfl,by simp,by simp⟩,λ_ _ _ _=>trivial,?_,?_⟩
 ·rintro i d s S4 F ⟨o3,U,rs,rfl,e4,gr4,hnm,hok,hmo⟩
  obtain⟨w,hw,rfl⟩:∃z,t[i]?=some z/\d=.str z:=by
   rw[gQm] at F
   obtain⟨z,J,e⟩:=oQm.mp F
   exact⟨z,J,e.symm⟩
  have hi:=(gQs.mp hw).1
  have Z:rs.length=i:=by
   have:=congrArg List.length hnm
   rw[lQm,Qxq] at this
   omega
  apply aS ?_
  refine lz (uY (fh (bp rfl (a_ gr4 ?_))))
  refine⟨λj s u A=>∃(o:Option D) (L:List Lt),s= [o]/\Ex k (n+3+350*i) S u/\u[r]?=some (.lst (rs.map Rm.d))/\L.map (λp=>(p.1,p.2.2))=(rs.take j).map (λr=>(r.name,r.ae.map (·.1)))/\(∀p∈L,sN k u p)/\A=L.map C6,⟨none,[],rfl,e4,gr4,rfl,by simp,rfl⟩,?_,?_,?_⟩
  ·rintro j s u A ⟨o,L,_,_,g,_⟩
   exact g
  ·rintro j d s Y A F ⟨o,L,rfl,e5,gr5,hL1,hL2,rfl⟩
   obtain⟨q,l,rfl⟩:∃q,rs[j]?=some q/\d=Rm.d q:=by
    rw[gQm] at F
    obtain⟨z,J,e⟩:=oQm.mp F
    exact⟨z,J,e.symm⟩
   have hj:=(gQs.mp l).1
   have K:=hmo q (mQg l)
   have q0:=K.d0
   have q3:=K.d3
   symm
   rw[Qhq rfl]
   symm
   apply aw rfl ?_
   apply xT HK ?_
   refine aw rfl ?_
   refine bH (ds:=q.ae.map hZ) ?_
   refine⟨trivial,by simp;omega,λd F=> ?_,?_⟩
   ·obtain⟨p,_,rfl⟩:=Qkq.mp F
    symm
    refine aw rfl ?_
    exact⟨rfl,rfl⟩
   have eh:(q.ae.map hZ).map HK=(q.ae.map (·.1)).map D.str:=by
    rw[QPq,QPq]
    rfl
   rw[eh]
   symm
   refine⟨by show 2<=_;decide,?_⟩
   have N:L.length=j:=by
    have:=congrArg List.length hL1
    rw[lQm,lQm,Qxq] at this
    omega
   refine⟨by rw[lQm];exact aZ (by omega),_,L++ [(q.name,Y.length,q.ae.map (·.1))],rfl,e5.app,aH gr5,?_,λp y=> ?_,by simp[C6]⟩
   ·rw[Qzq,hL1,QYq,l]
    simp
   ·rcases mQa.mp y with y|y
    ·exact⟨(hL2 p y).1,aH (hL2 p y).2.1,(hL2 p y).2.2⟩
    ·rw[Qfq.mp y]
     exact⟨by have:=e5.lt;show Y.length≠k;omega,aJ,by simp;omega,by simp;omega⟩
  ·rintro s Y A ⟨o,L,rfl,e5,gr5,hL1,hL2,rfl⟩
   simp only[lQm,QEq] at hL1
   have B:=EO hL1
   have N:L.length=rs.length:=by
    have:=congrArg List.length hL1
    simpa using this
   symm
   apply gY ?_
   apply⟨_,_,rfl,aH gr5,?_⟩
   refine G5 (L:=L) (e5.app (G:= [O.lst (L.map C6)])) (by omega) (by have:=e5.lt;omega) aJ (λp y=>⟨(hL2 p y).1,aH (hL2 p y).2.1,(hL2 p y).2.2⟩) (by omega) λR S6 H a2 h1 h3 a0 e6 W l6=> ?_
   symm
   have M:=W.keep _ _ X (aH gr5)
   refine⟨_,M,cG (aZ (by simp only[lQm];omega)) ?_⟩
   have a4:bM (rs++ [R])=bM rs++R.ae.map λp=>(R.name,p.1):=by simp[bM]
   refine⟨_,_,rs++ [R],rfl,(e6.put (by omega) kl).mono (by omega),?_,?_,λq l=> ?_,λq l=> ?_⟩
   ·rw[cj M]
    simp
   ·rw[Qzq,hnm,QYq,hw]
    simp[H]
   ·rw[a4]
    rcases mQa.mp l with l|l
    ·exact(hok q l).sub λg B=>List.mem_append_left _ B
    ·rw[Qfq.mp l,H,←B]
     exact a2
   ·rcases mQa.mp l with l|l
    ·exact hmo q l
    ·rw[Qfq.mp l]
     exact⟨h1,h3,by rw[H];exact on _ (mQg hw),a0⟩
 ·rintro s S4 ⟨o3,U,rs,rfl,e4,gr4,hnm,hok,hmo⟩
  rw[lQm] at hnm e4
  rw[QEq] at hnm
  have Z:rs.length=t.length:=by
   have:=congrArg List.length hnm
   simpa using this
  apply vQ (Jb (xg (Hy ?_)))
  refine a_ gr4 ?_
  have P:rs.length<=3:=by omega
  have nd:(rs.map (·.name)).Nodup:=by rw[hnm];exact nn
  refine⟨rfl,_,Cg rs,⟨by simpa using P,nd⟩,?_⟩
  obtain⟨ys,I,he⟩:=Dr (f:=Rm.d) (ss:=rs.map (·.name)) (xs:=rs) ⟨"","",[],[],[]⟩ P
  rw[he]
  refine qY (e4.mono (m:=n+1100) (by omega)) x (λk z=>(nomatch z)) (by simp only[bK];exact aY λq _=>cW q.low) λS2 a b c=> ?_
  refine h ys _ ((I.map _).nodup_iff.mpr nd) (by rw[I.length_eq];omega) (by rw[I.length_eq];exact P) (λq l=>(hok q (I.mem_iff.mp l)).sub λg B=> ?_) (λq l=>hmo q (I.mem_iff.mp l)) a b c
  simp only[bM,QOq] at B⊢
  obtain⟨z,J,B⟩:=B
  exact⟨z,I.mem_iff.mpr J,B⟩
def HC{d:cv}{S:aC}{i j:Nat}{w m:Int}{ds:List D}{Q:Bool->aC->Prop}(hi:d[i]?=some (some (.int w)))(e:d[j]?=some (some (.tup ds)))(q:∀c,(c=true->0<ds.length)->Q c S):
  E (gq (aF (aV DF (av i) (cF (.int m)))) (aF (aV C9 (av j) (aP au)))) d S Q:=by
 refine jU (bV (fK (bp hi (mD (ua ?_)))))
 refine aN (λc=> ?_) λc=>q false λz=>(nomatch z)
 refine bV (fK (bp e (FO (ke ⟨by decide,J7 (q _ λz=> ?_)⟩))))
 cases ds with
 |nil=>cases z
 |cons a b=>simp
def ET{a:cv}{S:aC}{i:Nat}{w m:Int}{Q:Bool->aC->Prop}(hi:a[i]?=some (some (.int w)))(q:∀c,(c=true->w=m)->Q c S):E (aF (aV (eI false) (av i) (cF (.int m)))) a S Q:=bV (fK (bp hi (mD (df (q _ λz=>QZq z)))))
def HA{rs:List Rm}{q:Rm}{p:Str×List Rw}(b:q∈rs)(a:p∈q.ae):(q.name,p.1)∈bM rs:=QOq.mpr ⟨q,b,Qkq.mpr ⟨p,a,rfl⟩⟩
def vG{rs:List Rm}{m:Nat}:∀d∈rs.map Rm.d,(∀k,d≠.ref k)/\bK m d=true:=λd a=>by
 obtain⟨q,_,rfl⟩:=Qkq.mp a
 exact⟨λk z=>(nomatch z),cW q.low⟩
def vC{rs:List (Str×List Rw)}{m:Nat}:∀d∈rs.map hZ,(∀k,d≠.ref k)/\bK m d=true:=λd a=>by
 obtain⟨q,_,rfl⟩:=Qkq.mp a
 exact⟨λk z=>(nomatch z),cW (Aj q)⟩
def I0{S S0:aC}{k n w p:Nat}{words ai:List Str}{rms:List Rm}{Q:Res->aC->Prop}(x:Ex k n S0 S)(hn:n<999960000)(M:w≠k)(np:p≠k)(gw:S[w]?=some (.lst (words.map D.str)))(gp:S[p]?=some (.lst (ai.map D.str)))
  (d7:∀r∈rms,GH r) (lg:rms.length<=3) (lw:words.length<500) (lp:ai.length<500)
  (h:∀(rs:List Rw) (W:aC),uj ⟨true,words,words,[],bM rms,ai⟩ rs->0<rs.length->rs.length<=9->Ex k (n+110) S0 W->Ex k (n+110) S W->W.length=S.length->Q (.d (.tup (rs.map Rw.d))) W):
  Fn gc [.ref k,.tup (rms.map Rm.d),.ref w,.ref p,.int 3] S Q:=by
 have I:cs 1=10:=rfl
 have c2:cs 2=22:=rfl
 have kl:=x.lt
 have wl:=(gQs.mp gw).1
 have pl:=(gQs.mp gp).1
 generalize Y:(⟨true,words,words,[],bM rms,ai⟩:Sc)=sc at h
 have so:sc.own=true:=by rw[←Y]
 have sw:sc.ws=words:=by rw[←Y]
 have sp:sc.ps=words:=by rw[←Y]
 have sb:sc.bs= []:=by rw[←Y]
 have sg:sc.gs=bM rms:=by rw[←Y]
 have st:sc.ts=ai:=by rw[←Y]
 refine bT ?_
 unfold mz
 symm
 refine⟨by decide,?_⟩
 generalize hr:S.length=r
 have ir:(S++ [O.lst []])[r]?=some (.lst []):=by rw[←hr];exact aJ
 have e0:Ex k n S (S++ [O.lst []]):=x.here.app
 generalize (S++ [O.lst []])=S1 at e0 ir⊢
 have N:r≠k:=by omega
 apply bA (fe ?_)
 apply bB e0 (by omega) (by decide) (by decide) λa5 S2 d8 e2 f2 l2=> ?_
 refine⟨_,rfl,⟨by omega,by omega⟩,?_⟩
 let Inv:Nat->cv->aC->Prop:=λi b0 W=>∃(o6 o7 o8 o9 a1:Option D) (rs:List Rw),b0= [some (.ref k),some (.tup (rms.map Rm.d)),some (.ref w),some (.ref p),some (.int 3),some (.ref r),o6,o7,o8,o9,a1,none,none]∧
  Ex k (n+1+33*i) S W/\W[r]?=some (.lst (rs.map Rw.d))/\rs.length<=2*i/\i<=rs.length/\i<=3/\∀q∈rs,q.Ok sc rs.length
 have e:∀m:Nat,m<=100->m<sizeLine:=λm hm=>Nat.lt_of_le_of_lt hm (by decide)
 have a2:sc.ws.length<1000:=by rw[sw];omega
 have up:∀{t':Tr} {d:Nat},t'.Ok sc.ws []->t'.dep<=d+1->d<=3->Ey sc t':=λh1 h2 h3=>⟨by rw[sb];exact h1,by omega⟩
 refine⟨Inv,⟨_,_,_,_,_,[],rfl,e2,f2.keep _ _ N ir,by simp,by simp,by omega,by simp⟩,λ_ _ _ _=>trivial,?_,?_⟩
 ·rintro i d b0 S3 U ⟨o6,o7,o8,o9,a1,rs,rfl,e3,hr3,hl1,hl2,hn4,J⟩
  have f6:i<3:=by
   have:=(gQs.mp U).1
   simp only[gH,lQm,QVq] at this
   omega
  apply aS ?_
  refine bB e3 (by omega) (by decide) (by decide) λc3 S4 f7 L a3 l4=> ?_
  dsimp only
  have g:=a3.keep _ _ N hr3
  have X:=L.keep _ _ M gw
  have c5:=L.keep _ _ np gp
  rw[←sw] at X
  have lr:(rs.map Rw.d).length=rs.length:=by simp
  have P:∀{n':Nat} (K:List Rw) (p8 p9 d4:Option D) (H:aC),Ex k n' S H->n'<=n+1+33*(i+1)->H[r]?=some (.lst (rs.map Rw.d++K.map Rw.d))->1<=K.length->K.length<=2->(∀q∈K,q.Ok sc (rs.length+K.length))→
    Inv (i+1) [some (.ref k),some (.tup (rms.map Rm.d)),some (.ref w),some (.ref p),some (.int 3),some (.ref r),some d,some (.int c3),p8,p9,d4,none,none] H:=by
   intro n' K p8 p9 d4 H F a4 h2 h3 h4 h5
   refine⟨_,_,_,_,_,rs++K,rfl,F.mono a4,by rw[h2,Qzq],by rw[lQa];omega,by rw[lQa];omega,by omega,λq B=> ?_⟩
   rw[lQa]
   rcases mQa.mp B with B|B
   ·exact(J q B).mono (by omega)
   ·exact h5 q B
  refine dX (HC rfl rfl λc hc=>aN (λI=> ?_) (λI=> ?_))
  ·
   apply bA (ou ?_)
   refine y7 L (by omega) (hc I) (by simp;omega) (λd U=>(vG (m:=0) d U).1) (λd U=>(vG d U).2) λv H hv F t l5=> ?_
   obtain⟨q,B,rfl⟩:=Qkq.mp hv
   have b9:=d7 q B
   symm
   apply yF ?_
   apply⟨by decide,?_⟩
   have b4:=t.keep _ _ M X
   refine a_ b4 ?_
   refine⟨⟨rfl,rfl,trivial,by simp only[lQm,Qnq,QGq];exact QAq (show 0+1+sc.ws.length<=1000 by rw[sw];omega) (by decide)⟩,?_⟩
   symm
   apply aw (d:=.tup (q.ae.map hZ)) rfl ?_
   refine y7 (F.app (G:= [O.lst ([.non]++sc.ws.map D.str)])) (by omega) (by simpa using b9.d0) (by have:=b9.d3;simp;omega) (λd U=>(vC (m:=0) d U).1) (λd U=>(vC d U).2) λv2 S6 a0 e6 C l6=> ?_
   obtain⟨dd,d6,rfl⟩:=Qkq.mp a0
   symm
   refine aw (ds:= [.str dd.1,.tup (dd.2.map Rw.d)]) (d:=.str dd.1) rfl ?_
   have e1:=C.keep _ _ (show H.length≠k by have:=F.lt;omega) aJ
   have A:=C.keep _ _ N (aH (t.keep _ _ N g))
   have d5:=C.keep _ _ M (aH b4)
   apply fX (gY ?_)
   apply⟨_,_,rfl,A,?_⟩
   refine eD e6 (by omega) (by have:=F.lt;omega) e1 (by simp) (by rw[sw];simp;omega) (λd U=>(j_ (m:=0) d U).1) (λd U=>(j_ d U).2) λv3 S7 f5 e7 b5 l7=> ?_
   obtain⟨o,rfl,ho⟩:=xl v3 f5
   symm
   apply aw (d:=.str q.name) rfl ?_
   apply⟨by decide,?_⟩
   refine gF 4 (deep:=1) (bs:= []) (e7.app (G:= [O.lst []])) (by omega) M (j:=S7.length) (by have:=e7.lt;omega) (aH (b5.keep _ _ M d5)) aJ a2 (by decide) (by decide) λt3 S8 h3 h4 e8 f0 l8=> ?_
   symm
   refine⟨by show 5<=_;decide,?_⟩
   symm
   have b3:=f0.keep _ _ N (aH (b5.keep _ _ N A))
   refine⟨_,b3,cG (e _ (by rw[lr];omega)) ?_⟩
   exact P [.do_ o q.name dd.1 t3] _ _ _ _ (e8.put (by omega) kl) (by omega) (cj b3) (by simp) (by simp) λq' y=>by rw[Qfq.mp y];exact⟨λz Z=>by rw[sp,←sw];exact ho z Z,by rw[sg];exact HA B d6,up h3 h4 (by omega)⟩
  refine dX (xE rfl rfl c5 λc hc=>aN (λI=> ?_) (λI=> ?_))
  ·apply fX (gY ?_)
   apply⟨_,_,rfl,g,?_⟩
   apply⟨by decide,?_⟩
   refine bB (L.app (G:= [O.lst [.str "take",.str "give"]])) (by omega) (by decide) (by decide) λv H hv F t l5=> ?_
   dsimp only
   have f1:∃(f:Str->Rw) (s:Str),(∀z,(f z).d=.tup [.str s,.str z])/\(∀z n,z∈sc.ts->(f z).Ok sc n)/\jw ([.str "take",.str "give"]:List D) (v:Int)=some (.str s):=by
    rcases v with _|_|v
    ·exact⟨.take,"take",λ_=>rfl,λz n Z=>⟨so,Z⟩,rfl⟩
    ·exact⟨.give,"give",λ_=>rfl,λz n Z=>⟨so,Z⟩,rfl⟩
    ·omega
   obtain⟨f,s,hf,e9,hs⟩:=f1
   refine dN (t.keep _ _ (by have:=L.lt;omega) aJ) hs ?_
   symm
   refine eD F (by omega) np (t.keep _ _ np (aH c5)) (hc I) (by simp;omega) dI fB λv2 S6 a0 e6 C l6=> ?_
   obtain⟨z,Z,rfl⟩:=Qkq.mp a0
   symm
   refine⟨by show 2<=_;decide,?_⟩
   symm
   have A:=C.keep _ _ N (t.keep _ _ N (aH g))
   refine⟨_,A,cG (e _ (by rw[lr];omega)) ?_⟩
   refine P [f z] _ _ _ _ (e6.put (by omega) kl) (by omega) ?_ (by simp) (by simp) λq' y=>by rw[Qfq.mp y];exact e9 _ _ (by rw[st];exact Z)
   rw[cj A]
   simp[hf]
  refine dX (CF rfl rfl X λc hc=>aN (λI=> ?_) (λI=> ?_))
  ·apply fX (gY ?_)
   apply⟨_,_,rfl,g,?_⟩
   refine eD L (by omega) M X (hc I) (by rw[sw];simp;omega) dI fB λv H hv F t l5=> ?_
   obtain⟨z,Z,rfl⟩:=Qkq.mp hv
   symm
   apply⟨by decide,?_⟩
   refine gF 4 (deep:=2) (bs:= []) (F.app (G:= [O.lst []])) (by omega) M (j:=H.length) (by have:=F.lt;omega) (aH (t.keep _ _ M X)) aJ a2 (by decide) (by decide) λt3 S6 h3 h4 e6 C l6=> ?_
   symm
   refine⟨by show 3<=_;decide,?_⟩
   symm
   have A:=C.keep _ _ N (aH (t.keep _ _ N g))
   refine⟨_,A,cG (e _ (by rw[lr];omega)) ?_⟩
   exact P [.put z t3] _ _ _ _ (e6.put (by omega) kl) (by omega) (cj A) (by simp) (by simp) λq' y=>by rw[Qfq.mp y];exact⟨by rw[sp,←sw];exact Z,up h3 h4 (by omega)⟩
  have a6:∀{n':Nat} (K:List Rw) (H:aC) {R:Out->Prop},Ex k n' S H->n'+10<=n+1+33*(i+1)->H[r]?=some (.lst (rs.map Rw.d++K.map Rw.d))->K.length<=1->(∀q∈K,q.Ok sc (rs.length+2))->(∀c6 S6,Inv (i+1) c6 S6->R (.nx c6 S6))→
    T (kn (nM eQ (av 5) (aq (aP (aq (cF (.str "say")) (aq (ay (bh 4) (aq (av 0) (aq (av 2) (aq (bC (bg au)) (aq (cF (.int 1)) au))))) au))) au))) [some (.ref k),some (.tup (rms.map Rm.d)),some (.ref w),some (.ref p),some (.int 3),some (.ref r),some d,some (.int c3),o8,o9,a1,none,none] H R:=by
   intro n' K H R F a4 u f4 f3 hR
   apply fX (gY ?_)
   apply⟨_,_,rfl,u,?_⟩
   apply⟨by decide,?_⟩
   refine gF 4 (deep:=1) (bs:= []) (F.app (G:= [O.lst []])) (by omega) M (j:=H.length) (by have:=F.lt;omega) (aH (F.keep _ _ M (by rw[sw];exact gw))) aJ a2 (by decide) (by decide) λt3 S6 h3 h4 e6 C l6=> ?_
   symm
   refine⟨by show 2<=_;decide,?_⟩
   symm
   have A:=C.keep _ _ N (aH u)
   refine⟨_,A,cG (e _ (by simp;omega)) ?_⟩
   refine hR _ _ (P (K++ [.say t3]) _ _ _ _ (e6.put (by omega) kl) (by omega) ?_ (by simp) (by simp;omega) λq' y=> ?_)
   ·rw[cj A]
    simp[Rw.d]
   ·rcases mQa.mp y with y|y
    ·rcases K with _|⟨a,_|⟨b,K⟩⟩
     ·cases y
     ·exact f3 _ y
     ·simp at f4
    ·rw[Qfq.mp y]
     exact⟨so,up h3 h4 (by omega)⟩
  refine bA (dX (ET rfl λc d9=>aN (λI=> ?_) (λI=> ?_)))
  ·apply fX (gY ?_)
   apply⟨_,_,rfl,g,?_⟩
   apply⟨by decide,?_⟩
   refine gF 4 (deep:=2) (bs:= []) (L.app (G:= [O.lst []])) (by omega) M (j:=S4.length) (by have:=L.lt;omega) (aH X) aJ a2 (by decide) (by decide) λt3 H h3 h4 F t l5=> ?_
   symm
   have u:=t.keep _ _ N (aH g)
   apply a_ u ?_
   refine⟨by show 3<=_;decide,?_⟩
   symm
   refine⟨_,u,cG (e _ (by rw[lr];omega)) ?_⟩
   dsimp only
   have b2:(Rw.unl t3 (rs.length+2)).Ok sc (rs.length+2):=⟨up h3 h4 (by omega),Qmq _⟩
   have b7:(H.set r (.lst (rs.map Rw.d++ [.tup [.str "unless",t3.d,.int (((rs.map Rw.d).length:Int)+2)]])))[r]?=some (.lst (rs.map Rw.d++ [Rw.unl t3 (rs.length+2)].map Rw.d)):=by
    rw[cj u]
    simp[Rw.d]
   refine bA (dX (ET rfl λc' d1=>aN (λc2=> ?_) (λc2=> ?_)))
   ·
    exact absurd ((d9 I).symm.trans (d1 c2)) (by decide)
   ·refine bW ?_
    exact a6 [.unl t3 (rs.length+2)] _ (F.put (by omega) kl) (by omega) b7 (by simp) (λq B=>by rw[Qfq.mp B];exact b2) λ_ _ z=>z
  ·refine bW ?_
   refine bA (dX (Eo rfl λc=>aN (λc2=> ?_) (λc2=> ?_)))
   ·apply fX (gY ?_)
    apply⟨_,_,rfl,g,?_⟩
    apply a_ g ?_
    refine⟨by show 2<=_;decide,?_⟩
    symm
    refine⟨_,g,cG (e _ (by rw[lr];omega)) ?_⟩
    dsimp only
    refine a6 [.go (rs.length+2)] _ (L.put (by omega) kl) (by omega) ?_ (by simp) (λq B=>by rw[Qfq.mp B];exact Qmq _) λ_ _ z=>z
    rw[cj g]
    simp[Rw.d]
   ·refine bW ?_
    exact a6 [] _ L (by omega) (by simpa using g) (by simp) (by simp) λ_ _ z=>z
 ·rintro b0 S3 ⟨o6,o7,o8,o9,a1,rs,rfl,e3,hr3,hl1,hl2,hn4,J⟩
  have d2:(gH 0 (1+(a5:Int))).length=a5+1:=by simp only[gH,lQm,QVq];omega
  rw[d2] at hl1 hl2 hn4 e3
  have b8:=e3.keep _ _ M gw
  have b1:∀{n':Nat} (c4 c0:Option D) (rs:List Rw) (S4:aC),Ex k n' S S4->n'<=n+110->S4[r]?=some (.lst (rs.map Rw.d))->(∀q∈rs,q.Ok sc rs.length)->0<rs.length->rs.length<=9->T (cp (tupQ (f_ (aQ (av 5))))) [some (.ref k),some (.tup (rms.map Rm.d)),some (.ref w),some (.ref p),some (.int 3),some (.ref r),o6,o7,o8,o9,a1,c4,c0] S4 λo=>match o with
    |.nx _ W=>Op (settle S .non W) λp=>Q p.1 p.2|.rt d W=>Op (settle S d W) λp=>Q p.1 p.2|.rl l W=>Op (eB S l W) λp=>Q p.1 p.2|_=>False:=by
   intro n' c4 c0 rs S4 L a4 g J h1 h2
   symm
   refine a_ g ?_
   refine⟨rfl,?_⟩
   dsimp only
   refine qY (L.mono a4) x (λk z=>(nomatch z)) (by simp only[bK];exact aY λq _=>cW q.low) λS2 a b c=> ?_
   exact h rs _ J h1 h2 a b c
  refine bA (dX (jU (Ae rfl b8 λc hc=>aN (λI=> ?_) (λI=> ?_))))
  ·symm
   apply bB e3 (by omega) (by decide) (by decide) λv S4 hv L a3 l4=> ?_
   refine df ?_
   dsimp only
   have g:=a3.keep _ _ N hr3
   refine aN (λc=> ?_) (λc=> ?_)
   ·apply bA (Ih ?_)
    refine eD L (by omega) M (a3.keep _ _ M b8) (hc I) (by simp;omega) dI fB λv2 H a0 F t l5=> ?_
    obtain⟨z,Z,rfl⟩:=Qkq.mp a0
    have u:=t.keep _ _ N g
    symm
    apply a_ u ?_
    refine⟨_,_,rfl,?_⟩
    apply bA (fX (gY ?_))
    apply⟨_,_,rfl,u,?_⟩
    refine⟨by show 3<=_;decide,?_⟩
    symm
    refine⟨by show 3<=_;decide,?_⟩
    symm
    refine⟨_,u,cG (e _ (by simp;omega)) ?_⟩
    dsimp only
    apply fX (B4 ?_)
    apply⟨_,_,rfl,cj u,?_⟩
    refine⟨by show 3<=_;decide,?_⟩
    symm
    refine⟨by show 3<=_;decide,?_⟩
    symm
    refine⟨by show 2<=_;decide,?_⟩
    symm
    refine⟨by show 2<=_;decide,?_⟩
    refine⟨_,cj u,⟨rfl,nQl (e _ (by simp;omega))⟩,?_⟩
    rw[List.set_set]
    have l3:(rs++ [Rw.put z (.two "plus" (.word z) (.num 1)),.unl (.two "less" (.word z) (.num 3)) (rs.length+3),.go 0]).length=rs.length+3:=by simp
    have b6:∀o∈ops,∀m:Nat,m<=9->Ey sc (.two o (.word z) (.num m)):=λo ho m hm=>⟨⟨ho,by show z∈sc.ws;rw[sw];exact Z,hm⟩,by show max 1 1+1<=4;decide⟩
    refine b1 _ _ (rs++ [Rw.put z (.two "plus" (.word z) (.num 1)),.unl (.two "less" (.word z) (.num 3)) (rs.length+3),.go 0]) _ (F.put (by omega) kl) (by omega) ?_ (λq B=> ?_) (by rw[l3];omega) (by rw[l3];omega)
    ·rw[cj u]
     simp[Rw.d,Tr.d]
    ·rw[l3]
     rcases mQa.mp B with B|B
     ·exact(J q B).mono (by omega)
     ·simp only[Qsq,QXq,or_false] at B
      rcases B with rfl|rfl|rfl
      ·exact⟨by rw[sp];exact Z,b6 _ (by decide) 1 (by omega)⟩
      ·exact⟨b6 _ (by decide) 3 (by omega),Qmq _⟩
      ·exact Nat.zero_le _
   ·exact bW (b1 _ _ rs S4 L (by omega) g J (by omega) (by omega))
  ·rw[Quq (by decide)]
   exact bW (b1 _ _ rs S3 e3 (by omega) hr3 J (by omega) (by omega))
def kQ(p:List (Str×Nat)×List Rw):D:=.tup [.tup (p.1.map uK),.tup (p.2.map Rw.d)]
structure cI where
 aj:List Rm
 ai:List (Str×Nat)
 ak:List (Str×Nat)
 af:List (List (Str×Nat)×List Rw)
def cI.d(w:cI):D:=.tup [.tup (w.aj.map Rm.d),.tup (w.ai.map uK),.tup (w.ak.map uK),.tup (w.af.map kQ)]
structure Bw(gs:List (Str×Str))(ak ai:List Str)(h:List (Str×Nat)×List Rw):Prop where
 tv:∀p∈h.1,p.2<=9
 l1:h.1.length<=6
 l2:h.2.length<=9
 l0:0<h.2.length
 pr:uj ⟨true,h.1.map (·.1)++ak,h.1.map (·.1)++ak,[],gs,ai⟩ h.2
structure fH(w:cI):Prop where
 nd:(w.aj.map (·.name)).Nodup
 l1:w.aj.length<=3
 l2:w.ai.length<=6
 l3:w.ak.length<=6
 l4:w.af.length<=4
 l0:0<w.af.length
 pv:∀p∈w.ai,p.2<=9
 sv:∀p∈w.ak,p.2<=9
 rm:∀r∈w.aj,Ag (bM w.aj) r
 hd:∀h∈w.af,Bw (bM w.aj) (w.ak.map (·.1)) (w.ai.map (·.1)) h
def Fp(p:List (Str×Nat)×List Rw):bK 0 (kQ p)=true:=by
 simp only[kQ,bK,bD,Bool.and_true,Bool.true_and,QCq]
 exact⟨aY λ_ _=>rfl,aY λr _=>r.low⟩
def cI.low(w:cI):bK 0 w.d=true:=by
 simp only[cI.d,bK,bD,Bool.and_true,Bool.true_and,QCq]
 exact⟨aY λr _=>r.low,aY λ_ _=>rfl,aY λ_ _=>rfl,aY λp _=>Fp p⟩
def DX{rs:List Rm}(hd:∀r∈rs,r.ae.length<=6):(bM rs).length<=6*rs.length:=by
 induction rs with
 |nil=>simp[bM]
 | cons a l b=>
   have:=b λr c=>hd r (Qpq _ c)
   have:=hd a (QBq ..)
   simp only[bM,QSq,lQa,lQm,Qnq] at *
   omega
def BN{o:cv}{S i:aC}{k n a b c d m:Nat}{Q:D->aC->Prop}(x:Ex k n i S)(A:n<999999990)(s:o[0]?=some (some (.ref k)))(r:a<=m)(w:b<=m)(y:c<=m)(hd:d<=m)
  (h:∀(j:Nat) (f:aC),j<=m->Ex k (n+1) i f->Ex k (n+1) S f->Q (.int j) f):
  E (aV kf (bC (bg (aq (cF (.int a)) (aq (cF (.int b)) (aq (cF (.int c)) (aq (cF (.int d)) au)))))) (ay aB (aq (av 0) (aq (cF (.int 4)) au)))) o S Q:=by
 refine fK (sW (Cy (cE (mD (cE (mD (cE (mD (cE (mD (ke ⟨by show 4<=_;decide,?_⟩)))))))))))
 refine Bo (cE (bp s (cE (mD (ke ?_)))))
 refine bB (x.app (G:= [O.lst [.int a,.int b,.int c,.int d]])) (by omega) (by decide) (by decide) λv p u t e z=> ?_
 dsimp only
 obtain⟨j,q,_,g⟩:=sf (a:=a) (b:=b) (c:=c) (d:=d) u (m:=m) (l:=0) r w y hd (by omega) (by omega) (by omega) (by omega)
 refine dN (e.keep _ _ (by have:=x.lt;omega) aJ) g ?_
 exact h j p q t ((x.here.app (G:= [O.lst [.int a,.int b,.int c,.int d]])).trans e)
def Ck{o:cv}{S l:aC}{k n a b c d:Nat}{stem:Str}{Q:List D->aC->Prop}(x:Ex k n l S)(F:n<999999900)(m:o[0]?=some (some (.ref k)))(r:a<=2)(u:b<=2)(v:c<=2)(hd:d<=2)(G:stem.length<=4)
  (h:∀(ws:List Str) (f:aC),ws.length<=2->Ex k (n+3) l f->Ex k (n+3) S f->Q (ws.map D.str) f):
  E (bO [none] (jW (gP (cV cf (aq (av 0) (aq (aV kf (bC (bg (aq (cF (.int a)) (aq (cF (.int b)) (aq (cF (.int c)) (aq (cF (.int d)) au)))))) (ay aB (aq (av 0) (aq (cF (.int 4)) au)))) au))))) (bL 0) cu (aV bQ (cF (.str stem)) (av 0))) o S Q:=by
 refine xT (λd=>match d with|.str z=>.str (stem++z)|d=>d) ?_
 refine xg (yu (cE (bp m (cE ?_))))
 refine BN x (by omega) m r u v hd λj C B s i=>ke ?_
 refine ja s (by omega) (by omega) λws A _ hl q t g y=> ?_
 dsimp only
 refine⟨trivial,by simp;omega,λd hd=> ?_,?_⟩
 ·obtain⟨z,p,rfl⟩:=Qkq.mp hd
  have w:=(q z p).len
  refine fK (mD (bp rfl (A0 (QAq (show stem.length+z.length<=10 by omega) (by decide)) ⟨rfl,rfl⟩)))
 ·have e:(ws.map D.str).map (λd=>match d with|.str z=>.str (stem++z)|d=>d)=(ws.map (stem++·)).map D.str:=by
   rw[QPq,QPq]
   rfl
  rw[e]
  exact h _ _ (by simp;omega) t (i.trans g)
def CZ{A:cv}{S v:aC}{k n a b c d:Nat}{Q:List D->aC->Prop}(x:Ex k n v S)(P:n<999999900)(w:A[0]?=some (some (.ref k)))(F:a<=2)(I:b<=2)(J:c<=2)(hd:d<=2)
  (h:∀(ws:List Str) (g:aC),ws.length<=2->(∀z∈ws,PyData.strOk z=true)->Ex k (n+3) v g->Ex k (n+3) S g->Q (ws.map D.str) g):
  E (bO [none] (jW (gP (cV cf (aq (av 0) (aq (aV kf (bC (bg (aq (cF (.int a)) (aq (cF (.int b)) (aq (cF (.int c)) (aq (cF (.int d)) au)))))) (ay aB (aq (av 0) (aq (cF (.int 4)) au)))) au))))) (bL 0) (aF (aV DF (Eu (av 0)) (cF (.int 5)))) (aV bQ (cF (.str "pass")) (av 0))) A S Q:=by
 refine lz (uY (xg (yu (cE (bp w (cE ?_))))))
 refine BN x (by omega) w F I J hd λj N L G t=>ke ?_
 refine ja G (by omega) (by omega) λws C _ hl B H s K=> ?_
 dsimp only
 refine⟨λi m g l=>∃(o:Option D) (f:List Str),m= [o]/\g=C/\f.length<=i/\(∀z∈f,PyData.strOk z=true)/\l=f.map D.str,⟨none,[],rfl,rfl,by simp,by simp,rfl⟩,λ_ _ _ _ _=>trivial,?_,?_⟩
 ·rintro i d m g l hd ⟨o,f,rfl,rfl,hpl,hpo,rfl⟩
  obtain⟨z,r,rfl⟩:∃z,ws[i]?=some z/\d=.str z:=by
   rw[gQm] at hd
   obtain⟨z,r,e⟩:=oQm.mp hd
   exact⟨z,r,e.symm⟩
  have M:=(gQs.mp r).1
  have y:=B z (mQg r)
  have u:=y.len
  refine aS (bV (fK (IJ (bp rfl ⟨z.length,by unfold BL;exact Qhq (QAq u (by decide)),?_⟩))))
  refine mD (ua ?_)
  dsimp only
  refine aN (λc=> ?_) (λc=> ?_)
  ·refine fK (mD (bp rfl (A0 (QAq (show Str.length "pass" +z.length<=10 from Nat.add_le_add (show Str.length "pass" <=4 by decide) u) (by decide)) ?_)))
   refine⟨by rw[lQm];exact aZ (by omega),_,f++ ["pass" ++z],rfl,rfl,by simp;omega,λq p=> ?_,by simp⟩
   rcases mQa.mp p with p|p
   ·exact hpo q p
   ·rw[Qfq.mp p];exact y.pass
  ·exact⟨_,f,rfl,rfl,by omega,hpo,rfl⟩
 ·rintro m g l ⟨o,f,rfl,rfl,hpl,hpo,rfl⟩
  rw[lQm] at hpl
  exact h f _ (by omega) hpo H (t.trans s)
structure EU(w:cI):Prop where
 rm:∀r∈w.aj,GH r
 ps:∀p∈w.ai,PyData.strOk p.1=true
def FP{S S0:aC}{k n most af:Nat}{Q:Res->aC->Prop}(x:Ex k n S0 S)(hn:n<999900000)(b2:0<most)(b5:most<=3)(h0:0<af)(h4:af<=4)
  (h:∀(w:cI) (y:aC),fH w->EU w->w.af.length=af->Ex k (n+1600) S0 y->Ex k (n+1600) S y->y.length=S.length->Q (.d w.d) y):
  Fn iS [.ref k,.int most,.int af] S Q:=by
 have kl:=x.lt
 refine bT ?_
 unfold lA
 symm
 refine Gh x.here (by omega) b2 b5 λM S1 nd b7 hl X W e1 _ l1=> ?_
 have c0:=DX λr hr=>(X r hr).l3
 dsimp only
 refine bA (ou (sW (CZ (a:=0) (b:=0) (c:=1) (d:=2) e1 (by omega) rfl (by omega) (by omega) (by omega) (by omega) λai N c5 a5 e3 c6=> ?_)))
 have P:N.length≠k:=by have:=e3.lt;omega
 dsimp only
 apply bA (ou (sW (Ck (stem:="o") (a:=0) (b:=0) (c:=0) (d:=1) (e3.app (G:= [O.lst (ai.map D.str)])) (by omega) rfl (by omega) (by omega) (by omega) (by omega) (by decide) λg s c1 e5 a1=> ?_)))
 refine⟨by decide,?_⟩
 have k5:s.length≠k:=by have:=e5.lt;omega
 have a0:(s++ [O.lst (g.map D.str)]++ [O.lst []])[N.length]?=some (.lst (ai.map D.str)):=aH (aH (a1.keep _ _ P aJ))
 have a4:(s++ [O.lst (g.map D.str)]++ [O.lst []])[s.length]?=some (.lst (g.map D.str)):=aH aJ
 have d3:S.length<=N.length:=e3.len
 have c4:N.length<s.length:=by
  have:=a1.len
  simp only[lQa,Qnq,QGq] at *
  omega
 have e6:=(e5.app (G:= [O.lst (g.map D.str)])).app (G:= [O.lst []])
 generalize hr:s.length+1=r
 have q:(s++ [O.lst (g.map D.str)]).length=r:=by simp[hr]
 rw[q]
 have gr:(s++ [O.lst (g.map D.str)]++ [O.lst []])[r]?=some (.lst []):=by rw[←q];exact aJ
 generalize (s++ [O.lst (g.map D.str)]++ [O.lst []])=S6 at e6 a0 a4 gr⊢
 have Z:r≠k:=by have:=e5.lt;omega
 apply bA (fe ?_)
 refine⟨_,rfl,⟨by omega,by omega⟩,?_⟩
 let Inv:Nat->cv->aC->Prop:=λi I y=>∃(o7 o8 o9:Option D) (t:List (List (Str×Nat)×List Rw)),I= [some (.ref k),some (.int most),some (.int af),some (.tup (M.map Rm.d)),some (.ref N.length),some (.ref s.length),some (.ref r),o7,o8,o9]∧
  Ex k (n+1106+115*i) S y/\y[N.length]?=some (.lst (ai.map D.str))/\y[s.length]?=some (.lst (g.map D.str))/\y[r]?=some (.lst (t.map kQ))/\t.length=i/\(∀p∈t,Bw (bM M) g ai p)
 refine⟨Inv,⟨none,none,none,[],rfl,e6.mono (by omega),a0,a4,gr,rfl,by simp⟩,λ_ _ _ _=>trivial,?_,?_⟩
 ·rintro i d I S7 hd ⟨o7,o8,o9,t,rfl,e7,gp7,gs7,gr7,hi,hpr⟩
  have d4:i<4:=by
   have:=(gQs.mp hd).1
   simp only[gH,lQm,QVq] at this
   omega
  refine aS ?_
  refine bA (ou (sW (Ck (stem:="h") (a:=0) (b:=1) (c:=1) (d:=2) e7 (by omega) rfl (by omega) (by omega) (by omega) (by omega) (by decide) λe B d1 e9 u=> ?_)))
  have k9:B.length≠k:=by have:=e9.lt;omega
  have f:∀{i:Nat} {o:O},i≠k->S7[i]?=some o->(B++ [O.lst (e.map D.str)])[i]?=some o:=λn h=>aH (u.keep _ _ n h)
  have v:(B++ [O.lst (e.map D.str)])[B.length]?=some (.lst (e.map D.str)):=aJ
  have L:Ex k (n+1106+115*i+3) S (B++ [O.lst (e.map D.str)]):=e9.app
  have H:=f P gp7
  have K:=f k5 gs7
  have U:=f Z gr7
  have r9:r<B.length:=by
   have:=(gQs.mp gr7).1
   have:=u.len
   omega
  generalize (B++ [O.lst (e.map D.str)])=T9 at v L H K U⊢
  symm
  apply yF ?_
  apply a_ v ?_
  refine a_ K ?_
  refine⟨⟨rfl,rfl,v,by simp only[lQm];exact nQl (aZ (by omega))⟩,?_⟩
  rw[←Qzq]
  symm
  refine I0 (words:=e++g) (ai:=ai) (rms:=M) (L.app (G:= [O.lst ((e++g).map D.str)])) (by omega) (by have:=L.lt;omega) P aJ (aH H) W hl (by rw[lQa];omega) (by omega) λpr b9 h1 h2 h3 b3 l d2=> ?_
  symm
  apply gY ?_
  have F:=l.keep _ _ Z (aH U)
  apply⟨_,_,rfl,F,?_⟩
  apply CM (m:=3) b3 (by omega) rfl rfl (l.keep _ _ k9 (aH v)) k9 (by decide) (by decide) (by omega) λR b6 a2 b1 b0 C d0=> ?_
  refine⟨by show 2<=_;decide,?_⟩
  symm
  have A:=C.keep _ _ Z F
  refine⟨_,A,cG (aZ (by simp only[lQm];omega)) ?_⟩
  have kp:∀{i:Nat} {o:O},i≠k->i≠r->T9[i]?=some o->∀o',(b6.set r o')[i]?=some o:=λn n2 h o'=>ft n2 (C.keep _ _ n (l.keep _ _ n (aH h)))
  have c3:R.length=e.length:=by rw[←a2];simp
  refine⟨_,_,_,t++ [(R,pr)],rfl,(b0.put (by omega) kl).mono (by omega),kp P (by omega) H _,kp k5 (by omega) K _,?_,by simp[hi],λp j=> ?_⟩
  ·rw[cj A]
   simp[kQ]
  ·rcases mQa.mp j with j|j
   ·exact hpr p j
   ·rw[Qfq.mp j]
    refine⟨λp j=>by have:=b1 p j;omega,by show R.length<=6;omega,h3,h2,?_⟩
    show uj ⟨true,R.map (·.1)++g,R.map (·.1)++g,[],_,_⟩ pr
    rw[a2]
    exact h1
 ·rintro I S7 ⟨o7,o8,o9,t,rfl,e7,gp7,gs7,gr7,hi,hpr⟩
  have el:(gH 0 (af:Int)).length=af:=by simp only[gH,lQm,QVq];omega
  rw[el] at hi e7
  symm
  apply CM (m:=3) e7 (by omega) rfl rfl gp7 P (by decide) (by decide) (by omega) λps S8 J b4 e8 a3 l8=> ?_
  apply CM (m:=3) e8 (by omega) rfl rfl (a3.keep _ _ k5 gs7) k5 (by decide) (by decide) (by omega) λss B Y a6 e9 u l9=> ?_
  refine a_ (u.keep _ _ Z (a3.keep _ _ Z gr7)) ?_
  apply⟨rfl,?_⟩
  refine⟨by show 4<=_;decide,?_⟩
  have b8:ps.length=ai.length:=by rw[←J];simp
  have c2:ss.length=g.length:=by rw[←Y];simp
  refine qY (d:=(cI.mk M ps ss t).d) (e9.mono (m:=n+1600) (by omega)) x (λk z=>(nomatch z)) (cW (cI.low _)) λS2 a b c=> ?_
  refine h ⟨M,ps,ss,t⟩ _ ⟨nd,hl,by show ps.length<=6;omega,by show ss.length<=6;omega,by show t.length<=4;omega,by show 0<t.length;omega,λp j=>by have:=b4 p j;omega,λp j=>by have:=a6 p j;omega,X,?_⟩ ⟨W,λp j=>a5 _ (by rw[←J];exact Qkq.mpr ⟨p,j,rfl⟩)⟩ hi a b c
  show∀h∈t,Bw (bM M) (ss.map (·.1)) (ps.map (·.1)) h
  rw[Y,J]
  exact hpr
end W28
namespace DL
open PySem PySem.Spec L2
def IH{l:cv}{S:aC}{js:List (Option Nat)}{f:dz}{g:me}{i:bx}{Q:List D->aC->Prop}(P:cv->Prop)(F:D->D)(t:P (pe js l)) (h:E f l S λp e=>p.2.stays e p.1/\p.1.length<=1000∧
   (∀d∈p.1,∀a,P a->Tg g d a e λc S2=>S2=e/\P c/\E i c e λy m=>y=F d/\m=e)/\Q (p.1.map F) e):E (bO js (jW f) g cu i) l S Q:=by
 refine lz (uY (h.mono λp e r=> ?_))
 obtain⟨o,hl,x,q⟩:=r
 refine⟨λn a j b=>j=e/\b=(p.1.take n).map F/\P a,⟨rfl,rfl,t⟩,λn a j b h=>by rw[h.1];exact o,λn d a j b k h=> ?_,λa j b h=> ?_⟩
 ·obtain⟨rfl,rfl,h3⟩:=h
  obtain⟨c,S2,s,rfl,h4,h5⟩:=x d (mQg k) a h3
  refine⟨c,S2,s,xF ?_⟩
  rw[Qhq rfl]
  refine h5.mono λy m w=> ?_
  obtain⟨u,v⟩:=w
  subst u v
  have z:=(gQs.mp k).1
  refine⟨?_,rfl,?_,h4⟩
  ·rw[lQm,Qxq]
   exact aZ (by omega)
  ·rw[QYq,k]
   simp
 ·obtain⟨rfl,rfl,_⟩:=h
  rw[QEq]
  exact q
def kA{α:Type}{o:cv}{S:aC}{js:List (Option Nat)}{f:dz}{g:me}{k:bx}{Q:List D->aC->Prop}(P:cv->Prop)(enc G:α->D)(w:P (pe js o)) (h:E f o S λp i=>∃xs:List α,p.1=xs.map enc/\p.2.stays i p.1/\xs.length<=1000∧
   (∀x∈xs,∀a,P a->Tg g (enc x) a i λc S2=>S2=i/\P c/\E k c i λy r=>y=G x/\r=i)/\Q (xs.map G) i):E (bO js (jW f) g cu k) o S Q:=by
 refine lz (uY (h.mono λp i u=> ?_))
 obtain⟨xs,s,t,hl,C,q⟩:=u
 refine⟨λn a l b=>l=i/\b=(xs.take n).map G/\P a,⟨rfl,rfl,w⟩,λn a l b h=>by rw[h.1];exact t,λn d a l b m h=> ?_,λa l b h=> ?_⟩
 ·obtain⟨rfl,rfl,h3⟩:=h
  have m:p.1[n]?=some d:=m
  rw[s,gQm] at m
  obtain⟨x,j,rfl⟩:=oQm.mp m
  obtain⟨c,S2,v,rfl,h4,h5⟩:=C x (mQg j) a h3
  refine⟨c,S2,v,xF ?_⟩
  rw[Qhq rfl]
  refine h5.mono λy r B=> ?_
  obtain⟨z,A⟩:=B
  subst z A
  have F:=(gQs.mp j).1
  refine⟨?_,rfl,?_,h4⟩
  ·rw[lQm,Qxq]
   exact aZ (by omega)
  ·rw[QYq,j]
   simp
 ·obtain⟨rfl,rfl,_⟩:=h
  have e:p.1.length=xs.length:=by rw[s,lQm]
  show Q ((xs.take p.1.length).map G) _
  rw[e,QEq]
  exact q
def cq{S:aC}{d:D}{Q:Res->aC->Prop}(hd:∀k,d≠.ref k)(hl:bK 0 d=true)(q:Q (.d d) S):Op (settle S d S) λp=>Q p.1 p.2:=fW uv (QEq) hd (cW hl) q
def Ej{S:aC}{ds:List D}{Q:Res->aC->Prop}(hl:bD 0 ds=true)(q:Q (.l ds) S):Op (eB S ds S) λp=>Q p.1 p.2:=m9 uv (QEq) (jv hl) q
end DL
namespace W28
open PySem PySem.Spec L2 DL
structure bU where
 room:Int
 deed:Int
 row:Int
 given:Int
 told:Int
structure cU where
 vals:List Int
 within:Int
 row:List Int
 ag:List Int
 aa:List (List (Int×Int))
structure bj where
 aj:List cU
 ai:List (Int×List Int)
 ak:List Int
 af:List (List Int×List bU)
def cM(l:List Int):D:=.tup (l.map D.int)
def bU.d(f:bU):D:=.tup [.int f.room,.int f.deed,.int f.row,.int f.given,.int f.told]
def pairD(p:Int×Int):D:=.tup [.int p.1,.int p.2]
def dQ(l:List (Int×Int)):D:=.tup (l.map pairD)
def cU.d(r:cU):D:=.tup [cM r.vals,.int r.within,cM r.row,cM r.ag,.tup (r.aa.map dQ)]
def Ar(p:Int×List Int):D:=.tup [.int p.1,cM p.2]
def AI(h:List Int×List bU):D:=.tup [cM h.1,.tup (h.2.map bU.d)]
def bj.d(s:bj):D:=.tup [.tup (s.aj.map cU.d),.tup (s.ai.map Ar),cM s.ak,.tup (s.af.map AI)]
def kB(l:List Int):bK 0 (cM l)=true:=by simp only[cM,bK];exact aY λ_ _=>rfl
def sP(l:List (Int×Int)):bK 0 (dQ l)=true:=by simp only[dQ,bK];exact aY λ_ _=>rfl
def cU.low(r:cU):bK 0 r.d=true:=by
 simp only[cU.d,bK,bD,kB,Bool.and_true,Bool.true_and]
 exact aY λl _=>sP l
def AJ(p:Int×List Int):bK 0 (Ar p)=true:=by simp only[Ar,bK,bD,kB,Bool.and_true]
def AB(h:List Int×List bU):bK 0 (AI h)=true:=by
 simp only[AI,bK,bD,kB,Bool.and_true,Bool.true_and]
 exact aY λ_ _=>rfl
def bj.low(s:bj):bK 0 s.d=true:=by
 simp only[bj.d,bK,bD,kB,Bool.and_true,Bool.true_and,QCq]
 exact⟨aY λr _=>r.low,aY λp _=>AJ p,aY λh _=>AB h⟩
def e_(ts:List (Str×Nat)):List Int:=ts.map λp=>(p.2:Int)
def cZ(r:Rm):cU:=⟨e_ r.ao,-1,[],[],r.aa.map λ_=> []⟩
def E1:bU:=⟨-1,-1,0,0,0⟩
def bE(w:cI):bj:=⟨w.aj.map cZ,w.ai.map λp=>((p.2:Int),[]),e_ w.ak,w.af.map λh=>(e_ h.1,[E1])⟩
section
variable{S:aC}{Q:Res->aC->Prop}
def jM{ts:List (Str×Nat)}(l:ts.length<=1000)(h:Q (.d (cM (e_ ts))) S):Fn fY [.tup (ts.map uK)] S Q:=by
 refine bT ?_
 unfold ni
 symm
 apply IH (λc=>∃a b,c= [a,b]) (λd=>match d with|.tup [_,v]=>v|d=>d) ⟨none,none,rfl⟩ ?_
 refine⟨trivial,by simpa using l,λd g c f=> ?_,?_⟩
 ·obtain⟨p,_,rfl⟩:=Qkq.mp g
  obtain⟨a,b,rfl⟩:=f
  refine dG rfl (ax (aS (ax (aS (a8 ?_)))))
  apply⟨rfl,⟨_,_,rfl⟩,?_⟩
  exact⟨rfl,rfl⟩
 ·have e:(ts.map uK).map (λd=>match d with|.tup [_,v]=>v|d=>d)=(e_ ts).map D.int:=by
   simp only[e_,QPq]
   rfl
  rw[e]
  exact cq (d:=cM (e_ ts)) (λk z=>(nomatch z)) (kB _) h
def u9{r:Rm}(a:r.ao.length<=6)(b:r.aa.length<=6)(h:Q (.d (cZ r).d) S):Fn iR [r.d] S Q:=by
 refine bT ?_
 unfold ko
 symm
 apply dG rfl (ax (aS (ax (aS (ax (aS (ax (aS (ax (aS (a8 ?_)))))))))))
 apply jM (by omega) ?_
 apply⟨by decide,?_⟩
 apply⟨by decide,?_⟩
 apply xT (λ_=>.tup []) ?_
 refine⟨trivial,by simp;omega,λd c=> ?_,?_⟩
 ·symm
  exact⟨by decide,rfl,rfl⟩
 ·symm
  refine⟨by show 5<=_;decide,?_⟩
  have e:D.tup ((r.aa.map Eb).map λ_=>D.tup [])=D.tup ((cZ r).aa.map dQ):=by
   simp only[cZ,QPq]
   rfl
  rw[e]
  exact cq (d:=(cZ r).d) (λk z=>(nomatch z)) (cU.low _) h
def yK{w:cI}(o:fH w)(h:Q (.d (bE w).d) S):Fn uw [w.d] S Q:=by
 refine bT ?_
 unfold Bz
 symm
 apply dG rfl (ax (aS (ax (aS (ax (aS (ax (aS (a8 ?_)))))))))
 apply⟨by decide,?_⟩
 have m:=o.l1
 have l:=o.l2
 have q:=o.l3
 have n:=o.l4
 apply kA (α:=Rm) (λc=>∃a,c= [a]) Rm.d (λr=>(cZ r).d) ⟨none,rfl⟩ ?_
 refine⟨w.aj,rfl,trivial,by omega,λr f c e=> ?_,?_⟩
 ·obtain⟨a,rfl⟩:=e
  apply aS ⟨rfl,⟨_,rfl⟩,?_⟩
  exact u9 (o.rm r f).l1 (o.rm r f).l2 ⟨rfl,rfl⟩
 symm
 apply kA (α:=Str×Nat) (λc=>∃a b,c= [a,b]) uK (λp=>Ar ((p.2:Int),[])) ⟨none,none,rfl⟩ ?_
 refine⟨w.ai,rfl,trivial,by omega,λr f c e=> ?_,?_⟩
 ·obtain⟨a,b,rfl⟩:=e
  refine dG rfl (ax (aS (ax (aS (a8 ?_)))))
  apply⟨rfl,⟨_,_,rfl⟩,?_⟩
  apply⟨by decide,?_⟩
  exact⟨by show 2<=_;decide,rfl,rfl⟩
 symm
 apply jM (by omega) ?_
 apply kA (α:=List (Str×Nat)×List Rw) (λc=>∃a b,c= [a,b,some E1.d]) kQ (λh=>AI (e_ h.1,[E1])) ⟨none,none,rfl⟩ ?_
 refine⟨w.af,rfl,trivial,by omega,λr f c e=> ?_,?_⟩
 ·obtain⟨a,b,rfl⟩:=e
  refine dG rfl (ax (aS (ax (aS (a8 ?_)))))
  apply⟨rfl,⟨_,_,rfl⟩,?_⟩
  refine jM (by have:=(o.hd r f).l1;omega) ?_
  symm
  refine⟨by show 1<=_;decide,?_⟩
  symm
  exact⟨by show 2<=_;decide,rfl,rfl⟩
 symm
 refine⟨by show 4<=_;decide,?_⟩
 have g:w.aj.map (λr=>(cZ r).d)=(bE w).aj.map cU.d:=by simp only[bE,QPq];rfl
 have i:w.ai.map (λp=>Ar ((p.2:Int),[]))=(bE w).ai.map Ar:=by simp only[bE,QPq];rfl
 have j:w.af.map (λh=>AI (e_ h.1,[E1]))=(bE w).af.map AI:=by simp only[bE,QPq];rfl
 rw[g,i,j]
 exact cq (d:=(bE w).d) (λk z=>(nomatch z)) (bj.low _) h
end
end W28
namespace DL
open PySem PySem.Spec L2
section
variable{Γ:cv}{S:aC}
def nW{f:bx}{Q:D->aC->Prop}(h:E f Γ S λd a=>∃i,d=.int i/\Q (.int (-i)) a):E (rL f) Γ S Q:=by
 obtain⟨d,a,b,i,rfl,q⟩:=h
 exact⟨_,a,by unfold rL;rw[b];rfl,q⟩
def cY{Q:Option Int->aC->Prop}(q:Q none S):E uI Γ S Q:=⟨_,_,rfl,q⟩
def cX{f:bx}{Q:Option Int->aC->Prop}(h:E f Γ S λd a=>∃i,d=.int i/\Q (some i) a):E (sF f) Γ S Q:=by
 obtain⟨d,a,b,i,rfl,q⟩:=h
 exact⟨_,a,by unfold sF;rw[b];rfl,q⟩
def kj{f:bx}{lo hi:KM}{Q:D->aC->Prop}(h:E f Γ S λd b=>E lo Γ b λl S2=>E hi Γ S2 λu a=>∃ds,d=.tup ds/\Q (.tup (jZ ds l u)) a):E (uq f lo hi) Γ S Q:=by
 obtain⟨d,b,g,l,S2,c,u,a,e,ds,rfl,q⟩:=h
 exact⟨_,a,by unfold uq;rw[g];simp only[Qbq];rw[c];simp only[Qbq];rw[e];rfl,q⟩
def K9{i j:Nat}{f:fN}{Q:Out->Prop}(h:E f Γ S λds c=>∃a b,ds= [a,b]/\Q (.nx ((Γ.set i (some a)).set j (some b)) c)):T (yO i j f) Γ S Q:=by
 obtain⟨ds,c,d,a,b,rfl,q⟩:=h
 exact⟨_,by unfold yO;rw[d];rfl,q⟩
end
def EV{α:Type}{xs:List α}{i:Nat}(h:i<=xs.length):jZ xs none (some (i:Int))=xs.take i:=by
 unfold jZ
 rw[HT.tM,HT.Cr,Nat.min_eq_left h]
 simp
def jr{α:Type}{xs:List α}{i:Nat}(h:i<=xs.length):jZ xs (some (i:Int)) none=xs.drop i:=by
 unfold jZ
 rw[HT.tM,HT.Cr,Nat.min_eq_left h]
 rw[List.take_of_length_le]
 simp
def zj{α:Type}{xs:List α}(h:0<xs.length):jZ xs none (some (-1))=xs.dropLast:=by
 unfold jZ
 rw[HT.tM]
 show(xs.drop 0).take (HT.eR xs.length xs.length (some (-1))-0)=_
 rw[show HT.eR xs.length xs.length (some (-1))=xs.length-1 by simp only[HT.eR];rw[Qhq (by omega)];omega]
 simp[List.dropLast_eq_take]
def tY{α:Type}{xs:List α}{x:α}(h:xs.getLast? =some x):jw xs (-1)=some x:=by
 have c:0<xs.length:=by
  cases xs with
  |nil=>cases h
  |cons a b=>simp
 unfold jw Gs
 rw[Quq (by omega),Qhq (by omega)]
 rw[List.getLast?_eq_getElem?] at h
 simp only[Qbq]
 rw[show((-1:Int)+(xs.length:Int)).toNat=xs.length-1 by omega]
 exact h
end DL
namespace W28
open PySem PySem.Spec L2 DL
section
variable{S:aC}{Q:Res->aC->Prop}
def bJ{s:bj}{h:Nat}{vs:List Int}{fs:List bU}{f:bU}(b:s.af[h]?=some (vs,fs))(a:fs.getLast? =some f)(q:Q (.d f.d) S):Fn cz [s.d,.int h] S Q:=by
 refine bT ?_
 unfold kK
 symm
 apply aw rfl ?_
 refine aw (d:=AI (vs,fs)) (aR (by rw[gQm,b];rfl)) ?_
 symm
 refine aw rfl ?_
 apply nW ?_
 refine⟨1,rfl,?_⟩
 refine aw (d:=f.d) (tY (by rw[QfQ,a];rfl)) ?_
 exact cq (λk z=>(nomatch z)) rfl q
def progOf(w:cI)(h:Nat)(f:bU):Option (List Rw):=
 if f.room= -1 then(w.af[h]?).map (·.2) else if 0<=f.room/\0<=f.deed then(w.aj[f.room.toNat]?).bind λr=>(r.ae[f.deed.toNat]?).map (·.2) else none
def lL{α:Type}{xs:List α}{i:Int}{x:α}(a:0<=i)(h:xs[i.toNat]?=some x):jw xs i=some x:=by
 obtain⟨n,rfl⟩:∃n:Nat,i=n:=⟨i.toNat,by omega⟩
 exact aR (by simpa using h)
def yP(rs:List Rw):bK 0 (.tup (rs.map Rw.d))=true:=by simp only[bK];exact aY λr _=>r.low
def eJ{w:cI}{h:Nat}{f:bU}{pr:List Rw}(a:progOf w h f=some pr)(q:Q (.d (.tup (pr.map Rw.d))) S):Fn ee [w.d,.int h,f.d] S Q:=by
 refine bT ?_
 unfold qF
 apply bA (K9 ?_)
 apply aw rfl ?_
 apply aw rfl ?_
 apply⟨_,_,rfl,?_⟩
 refine df ?_
 dsimp only
 unfold progOf at a
 by_cases c:f.room= -1
 ·rw[Qhq c] at a
  obtain⟨i,b,rfl⟩:=oQm.mp a
  rw[Qeq c,Qhq rfl]
  symm
  apply aw rfl ?_
  refine aw (d:=kQ i) (aR (by rw[gQm,b];rfl)) ?_
  symm
  refine aw rfl ?_
  exact cq (λk z=>(nomatch z)) (yP _) q
 ·rw[Quq c] at a
  split at a
  ·rename_i e
   obtain⟨r,b,a⟩:=ar a
   obtain⟨j,g,rfl⟩:=oQm.mp a
   rw[Qdq c,Quq (by decide)]
   symm
   apply aw rfl ?_
   refine aw (d:=r.d) (lL e.1 (by rw[gQm,b];rfl)) ?_
   symm
   apply aw rfl ?_
   refine aw (d:=hZ j) (lL e.2 (by rw[gQm,g];rfl)) ?_
   symm
   refine aw rfl ?_
   exact cq (λk z=>(nomatch z)) (yP _) q
  ·cases a
def dF{xs:List D}{i:Nat}{d:D}(hi:i<xs.length)(hl:xs.length<=900)(j:bD 0 xs=true)(f:bK 0 d=true)(q:Q (.d (.tup (xs.set i d))) S):Fn du [.tup xs,.int i,d] S Q:=by
 refine bT ?_
 unfold nJ
 symm
 apply kj ?_
 apply cY (cX ?_)
 apply⟨_,rfl,_,rfl,?_⟩
 refine⟨by show 1<=_;decide,?_⟩
 rw[EV (by omega)]
 refine dU (by simp only[Qxq,Qnq,QGq];exact nQl (aZ (by omega))) ?_
 apply kj ?_
 apply cX ?_
 refine⟨_,rfl,cY ⟨_,rfl,?_⟩⟩
 rw[show((i:Int)+1)=((i+1:Nat):Int) by omega,jr (by omega)]
 refine dU (by simp only[lQa,Qxq,List.length_drop,Qnq,QGq];exact nQl (aZ (by omega))) ?_
 have e:xs.take i++ [d]++xs.drop (i+1)=xs.set i d:=by
  rw[List.set_eq_take_append_cons_drop,Qhq hi]
  simp
 rw[e]
 refine cq (λk z=>(nomatch z)) ?_ q
 simp only[bK]
 refine rN λz b=> ?_
 rcases QTq b with b|rfl
 ·have c:∀l:List D,bD 0 l=true->∀z∈l,bK 0 z=true:=by
   intro l
   induction l with
   |nil=>intro _ z b;cases b
   | cons a l g=>
     intro h z b
     simp only[bD,QCq] at h
     rcases Qsq.mp b with rfl|b
     · exact h.1
     · exact g h.2 z b
  exact c xs j z b
 ·exact f
end
section
variable{S:aC}{Q:Res->aC->Prop}
def map_set{α b:Type}(f:α->b)(l:List α)(i:Nat)(a:α):(l.set i a).map f=(l.map f).set i (f a):=by
 rw[List.map_set]
def aU(s:bj):∀k,s.d≠.ref k:=λk z=>(nomatch z)
def dk{s:bj}{i:Nat}{r:cU}(hi:i<s.aj.length)(hl:s.aj.length<=900)(q:Q (.d ({s with aj:=s.aj.set i r}:bj).d) S):Fn cR [s.d,.int i,r.d] S Q:=by
 refine bT ?_
 unfold nH
 symm
 apply aw rfl ?_
 apply dF (by simpa using hi) (by simpa using hl) (aY λr _=>r.low) r.low ?_
 refine⟨by show 1<=_;decide,?_⟩
 apply kj ?_
 apply cX ?_
 refine⟨_,rfl,cY ⟨_,rfl,?_⟩⟩
 refine dU (by show 4<=_;decide) ?_
 refine cq (d:=({s with aj:=s.aj.set i r}:bj).d) (aU _) (bj.low _) q|>λz=> ?_
 rw[←map_set]
 exact z
def gQ{s:bj}{i:Nat}{p:Int×List Int}(hi:i<s.ai.length)(hl:s.ai.length<=900)(q:Q (.d ({s with ai:=s.ai.set i p}:bj).d) S):Fn eT [s.d,.int i,Ar p] S Q:=by
 refine bT ?_
 unfold mS
 symm
 apply aw rfl ?_
 apply aw rfl ?_
 apply dF (by simpa using hi) (by simpa using hl) (aY λr _=>AJ r) (AJ p) ?_
 refine⟨by show 2<=_;decide,?_⟩
 apply kj ?_
 apply cX ?_
 refine⟨_,rfl,cY ⟨_,rfl,?_⟩⟩
 refine dU (by show 4<=_;decide) ?_
 refine cq (d:=({s with ai:=s.ai.set i p}:bj).d) (aU _) (bj.low _) q|>λz=> ?_
 rw[←map_set]
 exact z
def gS{s:bj}{i:Nat}{vs:List Int}{fs:List bU}(hi:i<s.af.length)(hl:s.af.length<=900)(q:Q (.d ({s with af:=s.af.set i (vs,fs)}:bj).d) S):Fn eU [s.d,.int i,cM vs,.tup (fs.map bU.d)] S Q:=by
 refine bT ?_
 unfold mZ
 apply vQ (fK (kj ?_))
 apply cY (cX ?_)
 apply⟨_,rfl,_,rfl,?_⟩
 apply aw rfl ?_
 refine⟨by show 2<=_;decide,?_⟩
 symm
 apply dF (d:=AI (vs,fs)) (by simpa using hi) (by simpa using hl) (aY λr _=>AB r) (AB (vs,fs)) ?_
 refine⟨by show 1<=_;decide,?_⟩
 refine dU (by show 4<=_;decide) ?_
 refine cq (d:=({s with af:=s.af.set i (vs,fs)}:bj).d) (aU _) (bj.low _) q|>λz=> ?_
 rw[←map_set]
 exact z
def ij{s:bj}{h:Nat}{vs:List Int}{fs:List bU}{f:bU}(a:s.af[h]?=some (vs,fs))(b:0<fs.length)(c:fs.length<=900)(hl:s.af.length<=900)(q:Q (.d ({s with af:=s.af.set h (vs,fs.dropLast++ [f])}:bj).d) S):Fn dC [s.d,.int h,f.d] S Q:=by
 refine bT ?_
 unfold fR
 symm
 apply aw rfl ?_
 refine aw (d:=AI (vs,fs)) (aR (by rw[gQm,a];rfl)) ?_
 apply dG rfl (ax (aS (ax (aS (a8 ?_)))))
 apply kj ?_
 apply cY (cX (nW ?_))
 apply⟨1,rfl,_,rfl,_,rfl,?_⟩
 refine⟨by show 1<=_;decide,?_⟩
 rw[zj (by simpa using b)]
 refine dU (by simp only[List.length_dropLast,lQm,Qnq,QGq];exact nQl (aZ (by omega))) ?_
 symm
 have e:(fs.map bU.d).dropLast++ [f.d]=(fs.dropLast++ [f]).map bU.d:=by rw[Qzq,List.map_dropLast];rfl
 rw[e]
 refine gS (gQs.mp a).1 hl ?_
 exact cq (aU _) (bj.low _) q
def qw{s:bj}{h:Nat}{vs:List Int}{fs:List bU}{f:bU}{n:Int}(e:s.af[h]?=some (vs,fs))(c:fs.getLast? =some f)(i:fs.length<=900)(hl:s.af.length<=900)(q:Q (.d ({s with af:=s.af.set h (vs,fs.dropLast++ [{f with row:=n}])}:bj).d) S):Fn jB [s.d,.int h,.int n] S Q:=by
 refine bT ?_
 unfold wO
 symm
 apply bJ e c ?_
 apply kj ?_
 apply cY (cX ?_)
 apply⟨_,rfl,_,rfl,?_⟩
 refine⟨by show 1<=_;decide,?_⟩
 refine dU (by show 3<=_;decide) ?_
 apply kj ?_
 apply cX ?_
 refine⟨_,rfl,cY ⟨_,rfl,?_⟩⟩
 refine dU (by show 5<=_;decide) ?_
 symm
 have g:0<fs.length:=by
  cases fs with
  |nil=>cases c
  |cons a b=>simp
 refine ij (f:={f with row:=n}) e g i hl ?_
 exact cq (aU _) (bj.low _) q
def iC(r:cU)(h:Int):cU:=if r.within= -1 then{r with within:=h} else{r with row:=r.row++ [h]}
def cy(r:cU):cU:=match r.ag,r.row with
 |a::l,_=>{r with within:=a,ag:=l}
 | [],a::l=>{r with within:=a,row:=l}
 | [],[]=>{r with within:= -1}
def sZ{s:bj}{i:Nat}{h:Int}{r:cU}(b:s.aj[i]?=some r)(hl:s.aj.length<=900)(lr:r.row.length<=900)(q:Q (.d ({s with aj:=s.aj.set i (iC r h)}:bj).d) S):Fn kZ [s.d,.int i,.int h] S Q:=by
 have a:=(gQs.mp b).1
 refine bT ?_
 unfold sT
 symm
 apply aw rfl ?_
 refine aw (d:=r.d) (aR (by rw[gQm,b];rfl)) ?_
 apply dG rfl (ax (aS (ax (aS (ax (aS (ax (aS (ax (aS (a8 ?_)))))))))))
 refine df ?_
 dsimp only
 unfold iC at q
 by_cases c:r.within= -1
 ·rw[Qhq c] at q
  rw[Qeq c,Qhq rfl]
  symm
  refine⟨by show 5<=_;decide,?_⟩
  symm
  refine dk (r:={r with within:=h}) a hl ?_
  exact cq (aU _) (bj.low _) q
 ·rw[Quq c] at q
  rw[Qdq c,Quq (by decide)]
  symm
  refine⟨by show 1<=_;decide,?_⟩
  refine dU (by simp only[lQm,Qnq,QGq];exact nQl (aZ (by omega))) ?_
  symm
  refine⟨by show 5<=_;decide,?_⟩
  symm
  have e:D.tup (r.row.map D.int++ [D.int h])=cM (r.row++ [h]):=by simp[cM]
  rw[e]
  refine dk (r:={r with row:=r.row++ [h]}) a hl ?_
  exact cq (aU _) (bj.low _) q
end
section
variable{S:aC}{Q:Res->aC->Prop}
def Dj{α:Type}{a:α}{l:List α}:jw (a::l) 0=some a:=aR (j:=0) rfl
def xn{S:aC}{ds:List D}{Q:Bool->Prop}(q:Q (!ds.isEmpty)):Op (BD S (.tup ds)) Q:=⟨_,rfl,q⟩
def zY{s:bj}{i:Nat}{r:cU}(k:s.aj[i]?=some r)(hl:s.aj.length<=900)(q:Q (.d ({s with aj:=s.aj.set i (cy r)}:bj).d) S):Fn qx [s.d,.int i] S Q:=by
 have j:=(gQs.mp k).1
 refine bT ?_
 unfold A6
 symm
 apply aw rfl ?_
 refine aw (d:=r.d) (aR (by rw[gQm,k];rfl)) ?_
 refine dG rfl (ax (aS (ax (aS (ax (aS (ax (aS (ax (aS (a8 ?_)))))))))))
 obtain⟨b,g,f,m,h⟩:=r
 symm
 refine xn ?_
 cases m with
 | cons a l=>
   apply aN (λ_=> ?_) (λc=>by cases c)
   apply aw (d:=.int a) Dj ?_
   apply kj ?_
   apply cX ?_
   apply⟨_,rfl,cY ⟨_,rfl,?_⟩⟩
   refine⟨by show 5<=_;decide,?_⟩
   symm
   have e:D.tup (jZ ((a::l).map D.int) (some 1) none)=cM l:=by
     rw[show(some (1:Int))=some ((1:Nat):Int) from rfl,jr (by simp)]
     rfl
   rw[e]
   refine dk (r:=⟨b,a,f,l,h⟩) j hl ?_
   exact cq (aU _) (bj.low _) q
 | nil=>
   refine aN (λc=>by cases c) (λ_=> ?_)
   apply bW ?_
   refine xn ?_
   cases f with
   | cons a l=>
     apply aN (λ_=> ?_) (λc=>by cases c)
     apply aw (d:=.int a) Dj ?_
     apply kj ?_
     apply cX ?_
     apply⟨_,rfl,cY ⟨_,rfl,?_⟩⟩
     refine⟨by show 5<=_;decide,?_⟩
     symm
     have e:D.tup (jZ ((a::l).map D.int) (some 1) none)=cM l:=by
       rw[show(some (1:Int))=some ((1:Nat):Int) from rfl,jr (by simp)]
       rfl
     rw[e]
     refine dk (r:=⟨b,a,l,[],h⟩) j hl ?_
     exact cq (aU _) (bj.low _) q
   | nil=>
     refine aN (λc=>by cases c) (λ_=> ?_)
     apply bW ?_
     refine⟨by show 5<=_;decide,?_⟩
     symm
     refine dk (r:=⟨b,-1,[],[],h⟩) j hl ?_
     exact cq (aU _) (bj.low _) q
def fm{α:Type}{enc:α->D}{nm:α->Str}{xs:List α}(he:∀a,∃r,enc a=.tup (.str (nm a)::r))(hl:xs.length<=1000)(q:Q (.l ((xs.map nm).map D.str)) S):Fn dR [.tup (xs.map enc)] S Q:=by
 refine bT ?_
 unfold pE
 symm
 apply kA (α:=α) (λb=>∃a,b= [a]) enc (λa=>.str (nm a)) ⟨none,rfl⟩ ?_
 refine⟨xs,rfl,trivial,hl,λr f b c=> ?_,?_⟩
 ·obtain⟨a,rfl⟩:=c
  refine aS ⟨rfl,⟨_,rfl⟩,?_⟩
  obtain⟨d,e⟩:=he r
  rw[e]
  symm
  exact aw Dj ⟨rfl,rfl⟩
 ·have e:xs.map (λa=>D.str (nm a))=(xs.map nm).map D.str:=by rw[QPq];rfl
  rw[e]
  exact Ej (aY λ_ _=>rfl) q
theorem m7:∀ss:List Str,gB (ss.map D.str)=some (ss.map V.str)
 | []=>rfl
 |s::ss=>by simp only[QDq,gB,uM,Qbq];rw[m7 ss];rfl
theorem wL{x:Str}:∀{ns:List Str},x∈ns->∃j,oH (.str x) (ns.map V.str)=some j/\ns[j]?=some x
 | [],h=>by cases h
 | n::ns,h=>by
   by_cases c:n=x
   · subst c
     exact⟨0,by simp[oH,jz],rfl⟩
   · obtain⟨j,b,a⟩:=wL (ns:=ns) ((Qsq.mp h).resolve_left (Ne.symm c))
     exact⟨j+1,by simp only[QDq,oH];rw[b];simp[jz,c],by simpa using a⟩
end
end W28
namespace DL
open PySem PySem.Spec L2
section
variable{Γ:cv}{S:aC}
def LM{T:String}{f:bx}{Q:D->aC->Prop}(h:E f Γ S λd a=>Op (Hs a T d) λk=>Q (.bl k) a):E (DZ T f) Γ S Q:=by
 obtain⟨d,a,c,k,b,q⟩:=h
 exact⟨_,a,by unfold DZ;rw[c];simp only[Qbq];rw[b];rfl,q⟩
def Bq{b:Bool}{Q:Bool->Prop}(q:Q b):Op (BD S (.bl b)) Q:=⟨_,rfl,q⟩
def LD{f g:bx}{Q:D->aC->Prop}(h:E f Γ S λx a=>E g Γ a λy S2=>∃k kvs z v,x=.ref k/\y=.str z/\S2[k]?=some (.dct kvs)/\ub kvs (.inr z)=some v/\Q v S2):E (Lu f g) Γ S Q:=by
 obtain⟨x,a,c,y,S2,b,k,kvs,z,v,rfl,rfl,h1,h2,q⟩:=h
 exact⟨v,S2,by unfold Lu;rw[c];simp only[Qbq];rw[b];simp only[Qbq,h1,uQ,h2],q⟩
def nT{i j:Int}{Q:D->Prop}(q:Q (.bl (!decide (i=j)))):Op (eI true S (.int i) (.int j)) Q:=⟨_,by simp[eI,uM,AU],q⟩
def Gk{i j:Int}{Q:D->Prop}(q:Q (.int (if j<i then j else i))):Op (minD [.int i,.int j]) Q:=⟨_,rfl,q⟩
def IE{i j:Int}{Q:D->Prop}(q:Q (.int (if j>i then j else i))):Op (maxD [.int i,.int j]) Q:=⟨_,rfl,q⟩
end
end DL
namespace W28
open PySem PySem.Spec L2 DL
def KF(o:Str)(a b:Int):Int:=
 if o="plus" then(if 9<a+b then 9 else a+b) else if o="minus" then(if 0>a-b then 0 else a-b) else if o="less" then(if a<b then 1 else 0)
 else if o="same" then(if a=b then 1 else 0) else(if a≠0/\b≠0 then 1 else 0)
def As(th wt:Str->Int):Tr->Int
 |.num n=>n
 |.word x=>th x
 |.waits b=>if 0<wt b then 1 else 0
 |.no t=>if As th wt t=0 then 1 else 0
 |.two o a b=>KF o (As th wt a) (As th wt b)
def DN{o:Str}{a b:Int}(c:0<=a/\a<=9)(d:0<=b/\b<=9):0<=KF o a b/\KF o a b<=9:=by
 unfold KF
 repeat' split
 all_goals omega
theorem lV{th wt:Str->Int}{ws bs:List Str}(h:∀x∈ws,0<=th x/\th x<=9):∀{t:Tr},t.Ok ws bs->0<=As th wt t/\As th wt t<=9
 |.num n,ho=>by have:n<=9:=ho;simp only[As];omega
 |.word x,ho=>h x ho
 |.waits b,_=>by simp only[As];split <;>omega
 |.no t,_=>by simp only[As];split <;>omega
 |.two o a b,ho=>DN (lV h ho.2.1) (lV h ho.2.2)
section
variable{S:aC}{Q:Res->aC->Prop}
def dA{S:aC}{i:Int}{Q:Res->aC->Prop}(q:Q (.d (.int i)) S):Op (settle S (.int i) S) λp=>Q p.1 p.2:=cq (λk z=>(nomatch z)) rfl q
def rJ{o:Str}{a b:Int}(q:Q (.d (.int (KF o a b))) S):Fn fZ [.str o,.int a,.int b] S Q:=by
 refine bT ?_
 unfold iY
 unfold KF at q
 symm
 refine iK ?_
 dsimp only
 by_cases i:o="plus"
 ·rw[Qhq i] at q
  rw[Qeq i,Qhq rfl]
  symm
  refine Gk ?_
  exact dA q
 rw[Quq i] at q
 rw[Qdq i,Quq (by decide)]
 apply bW ?_
 refine iK ?_
 dsimp only
 by_cases f:o="minus"
 ·rw[Qhq f] at q
  rw[Qeq f,Qhq rfl]
  symm
  refine IE ?_
  exact dA q
 rw[Quq f] at q
 rw[Qdq f,Quq (by decide)]
 apply bW ?_
 refine iK ?_
 dsimp only
 by_cases h:o="less"
 ·rw[Qhq h] at q
  rw[Qeq h,Qhq rfl]
  symm
  by_cases c:a<b
  ·rw[Qhq c] at q
   rw[Qeq c,Qhq rfl]
   symm
   exact dA q
  ·rw[Quq c] at q
   rw[Qdq c,Quq (by decide)]
   symm
   exact dA q
 rw[Quq h] at q
 rw[Qdq h,Quq (by decide)]
 apply bW ?_
 refine iK ?_
 dsimp only
 by_cases j:o="same"
 ·rw[Qhq j] at q
  rw[Qeq j,Qhq rfl]
  symm
  refine df ?_
  dsimp only
  by_cases c:a=b
  ·rw[Qhq c] at q
   rw[Qeq c,Qhq rfl]
   symm
   exact dA q
  ·rw[Quq c] at q
   rw[Qdq c,Quq (by decide)]
   symm
   exact dA q
 rw[Quq j] at q
 rw[Qdq j,Quq (by decide)]
 apply bW ?_
 refine nT ?_
 dsimp only
 by_cases g:a=0
 ·rw[Quq (λz=>z.1 g)] at q
  rw[Qeq g]
  show if (false=true) then _ else _
  rw[Quq (by decide)]
  show if (false=true) then _ else _
  rw[Quq (by decide)]
  symm
  exact dA q
 ·rw[Qdq g]
  show if (true=true) then _ else _
  rw[Qhq rfl]
  symm
  refine nT ?_
  dsimp only
  by_cases e:b=0
  ·rw[Quq (λz=>z.2 e)] at q
   rw[Qeq e]
   show if (false=true) then _ else _
   rw[Quq (by decide)]
   symm
   exact dA q
  ·rw[Qhq ⟨g,e⟩] at q
   rw[Qdq e]
   show if (true=true) then _ else _
   rw[Qhq rfl]
   symm
   exact dA q
end
def gW{c:cv}{S:aC}{T:String}{f:bx}{d:D}{b:Bool}{Q:Bool->aC->Prop}(h:E f c S λx a=>x=d/\a=S)(hd:Hs S T d=some b)(q:Q b S):E (rK (DZ T f)) c S Q:=by
 refine Im (LM (h.mono λx a g=> ?_))
 obtain⟨i,e⟩:=g
 subst i e
 exact⟨b,hd,Bq q⟩
def Hc{o:Str}(h:o∈ops):o≠"waits" /\o≠"not":=by
 simp only[ops,Qsq,QXq,or_false] at h
 rcases h with rfl|rfl|rfl|rfl|rfl <;>exact⟨by decide +kernel,by decide +kernel⟩
theorem gn{th wt:Str->Int}{ws bs:List Str}{i j:Nat}{kvs kws:List (Key×D)}{S:aC}(hi:S[i]?=some (.dct kvs))(f:S[j]?=some (.dct kws))(e:∀x∈ws,ub kvs (.inr x)=some (.int (th x)))(g:∀b∈bs,ub kws (.inr b)=some (.int (wt b))):
  ∀(n:Nat) (t:Tr) {Q:Res->aC->Prop},t.Ok ws bs->t.dep<=n->Q (.d (.int (As th wt t))) S->Fn (fP n) [t.d,.ref i,.ref j] S Q
 |0,t,Q,_,hd,_=>by cases t <;>simp[Tr.dep] at hd
 | n+1,t,Q,ho,hd,q=>by
   refine bT ?_
   unfold qk
   cases t with
   | num v=>
     refine bA (dX (gW (d:=.int v) (bp rfl ⟨rfl,rfl⟩) rfl ?_))
     apply aN (λ_=> ?_) (λc=>by cases c)
     exact dA q
   | word x=>
     refine bA (dX (gW (d:=.str x) (bp rfl ⟨rfl,rfl⟩) rfl ?_))
     refine aN (λc=>by cases c) (λ_=>bW ?_)
     refine bA (dX (gW (d:=.str x) (bp rfl ⟨rfl,rfl⟩) rfl ?_))
     refine aN (λ_=> ?_) (λc=>by cases c)
     apply vQ (LD ?_)
     refine⟨_,_,_,_,rfl,rfl,hi,e x ho,?_⟩
     exact dA q
   | waits b=>
     refine bA (dX (gW (d:=.tup [.str "waits",.str b]) (bp rfl ⟨rfl,rfl⟩) rfl ?_))
     refine aN (λc=>by cases c) (λ_=>bW ?_)
     refine bA (dX (gW (d:=.tup [.str "waits",.str b]) (bp rfl ⟨rfl,rfl⟩) rfl ?_))
     apply aN (λc=>by cases c) (λ_=>bW ?_)
     apply aw rfl ?_
     refine iK ?_
     dsimp only
     rw[Qeq rfl,Qhq rfl]
     symm
     apply LD ?_
     refine aw rfl ?_
     apply⟨_,_,_,_,rfl,rfl,f,g b ho,?_⟩
     simp only[As] at q
     by_cases c:0<wt b
     · rw[Qhq c] at q
       rw[Qeq c,Qhq rfl]
       symm
       exact dA q
     · rw[Quq c] at q
       rw[Qdq c,Quq (by decide)]
       symm
       exact dA q
   | no t=>
     have l:t.dep<=n:=by simp only[Tr.dep] at hd;omega
     refine bA (dX (gW (d:=.tup [.str "not",t.d]) (bp rfl ⟨rfl,rfl⟩) rfl ?_))
     refine aN (λc=>by cases c) (λ_=>bW ?_)
     refine bA (dX (gW (d:=.tup [.str "not",t.d]) (bp rfl ⟨rfl,rfl⟩) rfl ?_))
     apply aN (λc=>by cases c) (λ_=>bW ?_)
     apply aw rfl ?_
     refine iK ?_
     dsimp only
     rw[Qdq (show¬(("not":Str)="waits") by decide +kernel),Quq (by decide)]
     apply bW ?_
     apply aw rfl ?_
     apply gn hi f e g n t ho l ?_
     apply aw rfl ?_
     refine iK ?_
     dsimp only
     rw[Qeq rfl,Qhq rfl]
     symm
     refine df ?_
     dsimp only
     simp only[As] at q
     by_cases c:As th wt t=0
     · rw[Qhq c] at q
       rw[Qeq c,Qhq rfl]
       symm
       exact dA q
     · rw[Quq c] at q
       rw[Qdq c,Quq (by decide)]
       symm
       exact dA q
   | two o a b=>
     have k:a.dep<=n:=by simp only[Tr.dep] at hd;omega
     have h:b.dep<=n:=by simp only[Tr.dep] at hd;omega
     obtain⟨p,m⟩:=Hc ho.1
     refine bA (dX (gW (d:=.tup [.str o,a.d,b.d]) (bp rfl ⟨rfl,rfl⟩) rfl ?_))
     refine aN (λc=>by cases c) (λ_=>bW ?_)
     refine bA (dX (gW (d:=.tup [.str o,a.d,b.d]) (bp rfl ⟨rfl,rfl⟩) rfl ?_))
     apply aN (λc=>by cases c) (λ_=>bW ?_)
     apply aw rfl ?_
     refine iK ?_
     dsimp only
     rw[Qdq p,Quq (by decide)]
     apply bW ?_
     apply aw rfl ?_
     apply gn hi f e g n a ho.2.1 k ?_
     apply aw rfl ?_
     refine iK ?_
     dsimp only
     rw[Qdq m,Quq (by decide)]
     apply bW ?_
     apply aw rfl ?_
     apply aw rfl ?_
     apply gn hi f e g n b ho.2.2 h ?_
     refine rJ ?_
     exact dA q
end W28
namespace DL
open PySem PySem.Spec L2
def vR{l:List (Key×D)}{k:Key}(h:k∈l.map (·.1)):∃d,ub l k=some d/\(k,d)∈l:=by
 unfold ub
 cases e:l.find? λb=>decide (b.1=k) with
 | none=>
   obtain⟨p,c,rfl⟩:=Qkq.mp h
   have:=List.find?_eq_none.mp e p c
   simp at this
 | some p=>
   have g:=List.find?_some e
   have a:=List.mem_of_find?_eq_some e
   have f:p.1=k:=by simpa using g
   exact⟨p.2,rfl,by rw[←f];exact a⟩
def yZ{l:List (Key×D)}{k:Key}{v:D}{p:Key×D}(h:p∈putD l k v):p∈l\/p=(k,v):=by
 unfold putD at h
 split at h
 ·obtain⟨q,a,e⟩:=Qkq.mp h
  split at e
  ·rename_i c
   rw[←e,c]
   exact .inr rfl
  ·rw[←e]
   exact .inl a
 ·rcases mQa.mp h with h|h
  ·exact .inl h
  ·exact .inr (Qfq.mp h)
def lO{l:List (Key×D)}{k x:Key}{v:D}(h:x=k\/x∈l.map (·.1)):x∈(putD l k v).map (·.1):=by
 unfold putD
 split
 ·rename_i c
  have a:∀p∈l,(if p.1=k then(p.1,v) else p).1=p.1:=λp _=>by split <;>rfl
  have e:(l.map λp=>if p.1=k then(p.1,v) else p).map (·.1)=l.map (·.1):=by
   rw[QPq]
   exact List.map_congr_left a
  rw[e]
  rcases h with rfl|h
  ·obtain⟨p,b,d⟩:=List.any_eq_true.mp c
   exact Qkq.mpr ⟨p,b,by simpa using d⟩
  ·exact h
 ·rw[Qzq]
  rcases h with rfl|h
  ·exact Qoq _ (by simp)
  ·exact List.mem_append_left _ h
theorem nI:∀{more l:List (Key×D)} {p:Key×D},p∈cP l more->p∈l\/p∈more
 | [],l,p,h=>.inl h
 | q::more,l,p,h=>by
   rcases nI (more:=more) (l:=putD l q.1 q.2) h with h|h
   · rcases yZ h with h|rfl
     · exact .inl h
     · exact .inr (QBq ..)
   · exact .inr (Qpq _ h)
theorem gf:∀{more l:List (Key×D)} {x:Key},x∈l.map (·.1)\/x∈more.map (·.1)->x∈(cP l more).map (·.1)
 | [],l,x,h=>h.elim id λz=>by cases z
 | q::more,l,x,h=>by
   refine gf (more:=more) (l:=putD l q.1 q.2) ?_
   rcases h with h|h
   · exact .inl (lO (.inr h))
   · rcases Qsq.mp h with rfl|h
     · exact .inl (lO (.inl rfl))
     · exact .inr h
theorem tF:∀ss:List Str,zO (ss.map D.str)=some (ss.map Sum.inr)
 | []=>rfl
 |s::ss=>by simp only[QDq,zO,uQ,Qbq];rw[tF ss];rfl
section
variable{Γ:cv}{S:aC}
def Nd{Q:D->aC->Prop}(q:Q (.ref S.length) (S++ [.dct []])):E M0 Γ S Q:=⟨_,_,rfl,q⟩
def J0{f g:dz}{Q:D->aC->Prop}(h:E f Γ S λp a=>E g Γ a λr S2=>∃ss:List Str,p.1=ss.map D.str/\(p.2.stays S2 p.1/\p.1.length=r.1.length)/\Q (.ref S2.length) (S2++ [.dct (cP [] ((ss.map Sum.inr).zip r.1))])):E (KH f g) Γ S Q:=by
 obtain⟨p,a,d,r,S2,b,ss,e,c,q⟩:=h
 refine⟨_,_,?_,q⟩
 unfold KH
 rw[d]
 simp only[Qbq]
 rw[b]
 simp only[Qbq]
 rw[Qhq c,e,tF]
 rfl
def LQ{f g:bx}{Q:D->aC->Prop}(h:E f Γ S λx a=>E g Γ a λy S2=>∃k j b l m,x=.ref k/\y=.ref j/\k≠j/\a[k]?=some (.dct b)/\S2[k]?=some (.dct l)/\S2[j]?=some (.dct m)/\l.length+m.length<=sizeLine/\Q .non (S2.set k (.dct (cP l m)))):E (GY f g) Γ S Q:=by
 obtain⟨x,a,d,y,S2,c,k,j,b,l,m,rfl,rfl,hn,h0,h1,h2,h3,q⟩:=h
 exact⟨_,_,by unfold GY;rw[d];simp only[Qbq];rw[c];simp only[Qbq];rw[Qhq hn];simp only[h0,h1,h2];rw[Qhq h3],q⟩
def Na{f g h:bx}{Q:Out->Prop}(w:E h Γ S λd b=>E f Γ b λx S2=>E g Γ S2 λy a=>∃k l z,x=.ref k/\y=.str z/\a[k]?=some (.dct l)/\l.length<sizeLine/\Q (.nx Γ (a.set k (.dct (putD l (.inr z) d))))):T (MB f g h) Γ S Q:=by
 obtain⟨d,b,i,x,S2,c,y,a,e,k,l,z,rfl,rfl,h1,h2,q⟩:=w
 exact⟨_,by unfold MB;rw[i];simp only[Qbq];rw[c];simp only[Qbq];rw[e];simp only[Qbq,h1,uQ];rw[Qhq h2],q⟩
def Nr{α:Type}{n:Nat}{js:List (Option Nat)}{i:uR}{g:me}{s w:bx}{Q:Out->Prop}(P:cv->Prop)(enc:α->D)(e:α->Str)(f:α->D)(K:P (pe js Γ)) (h:E i Γ S λp d=>∃xs:List α,p.1=xs.map enc/\p.2 d/\xs.length<=1000∧
   (∀x∈xs,∀c,P c->Tg g (enc x) c d λj S2=>S2=d/\P j/\E s j d λy A=>y=.str (e x)/\A=d/\E w j d λz C=>z=f x/\C=d)∧
   Q (.nx (Γ.set n (some (.ref d.length))) (d++ [.dct (cP [] (xs.map λx=>(Sum.inr (e x),f x)))]))):T (LL n (pI js i g cu s w)) Γ S Q:=by
 obtain⟨⟨R,W⟩,d,J,xs,rfl,hW,hl,hs,q⟩:=h
 have G:∀(l:List (Key×D)) (k:Key) (v:D),(putD l k v).length<=l.length+1:=λl k v=>by
  unfold putD
  split <;>simp
 have N:∀(m:List α) (c:cv) (b:List (Key×D)),(∀y∈m,y∈xs)->P c->b.length+m.length<=1000->∃r,iZ g cu s w W (m.map enc) c d b=some (r,d)/\r=cP b (m.map λx=>(Sum.inr (e x),f x)):=by
  intro m
  induction m with
  |nil=>intro c b _ _ _;exact⟨b,by simp only[List.map_nil,iZ];rw[Qhq hW],rfl⟩
  | cons a m M=>
    intro c b B I o
    obtain⟨j,S2,t,rfl,hp1,y,A,e3,rfl,rfl,z,C,e4,rfl,rfl⟩:=hs a (B a (QBq ..)) c I
    have u:=G b (Sum.inr (e a)) (f a)
    simp only[Qnq] at o
    obtain⟨r,L,H⟩:=M j (putD b (Sum.inr (e a)) (f a)) (λy F=>B y (Qpq _ F)) hp1 (by omega)
    refine⟨r,?_,H⟩
    simp only[QDq,iZ]
    rw[Qhq hW,t]
    simp only[Qbq,cu,if_true]
    rw[e3]
    simp only[Qbq]
    rw[e4]
    simp only[Qbq,uQ]
    rw[Qhq (aZ (by omega))]
    exact L
 obtain⟨r,t,rfl⟩:=N xs _ [] (λ_ h=>h) K (by simpa using hl)
 exact⟨_,by unfold LL pI;rw[J];simp only[Qbq];rw[t];rfl,q⟩
end
def m5{a:cv}{S:aC}{f g:dz}{Q:(List D×(aC->Prop))->aC->Prop}(h:E f a S λp b=>E g a b λr S2=>(p.2.stays S2 p.1/\p.1.length<=r.1.length)/\Q (zf p.1 r.1,λS=>p.2.stays S p.1/\r.2.stays S r.1) S2):E (uX f g) a S Q:=by
 obtain⟨p,b,e,r,S2,c,d,q⟩:=h
 exact⟨_,S2,by unfold uX;rw[e];simp only[Qbq];rw[c];simp only[Qbq];rw[Qhq d],q⟩
def kM(l:List (Key×D)):Prop:=∀p∈l,∃v:Int,p.2=.int v/\0<=v/\v<=9
def kM.merge{l m:List (Key×D)}(c:kM l)(a:kM m):kM (cP l m):=λp b=>(nI b).elim (c p) (a p)
def kM.put{l:List (Key×D)}{k:Key}{v:Int}(h:kM l)(b:0<=v)(c:v<=9):kM (putD l k (.int v)):=λp a=>by
 rcases yZ a with a|rfl
 ·exact h p a
 ·exact⟨v,rfl,b,c⟩
def numAt(l:List (Key×D))(x:Str):Int:=match ub l (.inr x) with|some (.int v)=>v|_=>0
def oP{l:List (Key×D)}(h:kM l){x:Str}(i:(Sum.inr x:Key)∈l.map (·.1)):ub l (.inr x)=some (.int (numAt l x))/\0<=numAt l x/\numAt l x<=9:=by
 obtain⟨d,b,c⟩:=vR i
 obtain⟨v,a,g,f⟩:=h _ c
 have a:d=.int v:=a
 subst a
 have e:numAt l x=v:=by unfold numAt;rw[b]
 rw[e]
 exact⟨b,g,f⟩
def F1{ss:List Str}{vs:List Int}(h:∀v∈vs,0<=v/\v<=9):kM ((ss.map (Sum.inr:Str->Key)).zip (vs.map D.int)):=λp c=>by
 have a:p.2∈vs.map D.int:=(QeQ (show(p.1,p.2)∈_ from c)).2
 obtain⟨v,b,e⟩:=Qkq.mp a
 exact⟨v,e.symm,h v b⟩
def F_{ss:List Str}{ds:List D}(h:ss.length=ds.length):((ss.map (Sum.inr:Str->Key)).zip ds).map (·.1)=ss.map Sum.inr:=by
 rw[List.map_fst_zip]
 simpa using Nat.le_of_eq h
end DL
namespace W28
open PySem PySem.Spec L2 DL
def dM(ts:List (Str×Nat))(vs:List Int):List (Key×D):=cP [] (((ts.map (·.1)).map Sum.inr).zip (vs.map D.int))
def C4(w:cI)(s:bj)(ts:List (Str×Nat))(vs:List Int):List (Key×D):=cP (dM w.ak s.ak) (dM ts vs)
def vI(r:Rm)(rs:cU)(a:Int):List (Key×D):=putD (dM r.ao rs.vals) (.inr "given") (.int a)
def BQ(r:Rm)(rs:cU):List (Key×D):=cP [] ((r.aa.zip rs.aa).map λp=>(Sum.inr p.1.1,D.int (p.2.length:Nat)))
def g5{ts:List (Str×Nat)}{vs:List Int}(h:∀v∈vs,0<=v/\v<=9):kM (dM ts vs):=kM.merge (λp a=>by cases a) (F1 h)
def g9{ts:List (Str×Nat)}{vs:List Int}(hl:ts.length=vs.length){x:Str}(h:x∈ts.map (·.1)):(Sum.inr x:Key)∈(dM ts vs).map (·.1):=by
 refine gf (.inr ?_)
 rw[F_ (by simpa using hl)]
 exact Qkq.mpr ⟨x,h,rfl⟩
structure uN(S S':aC):Prop where
 len:S.length<=S'.length
 eq:∀j,j<S.length->S'[j]?=S[j]?
def uN.refl{S:aC}:uN S S:=⟨Qmq _,λ_ _=>rfl⟩
def uN.app{S a G:aC}(x:uN S a):uN S (a++G):=⟨by rw[lQa];have:=x.len;omega,λj b=>by rw[QHq (by have:=x.len;omega)];exact x.eq j b⟩
def uN.put{S a:aC}{r:Nat}{o:O}(x:uN S a)(c:S.length<=r):uN S (a.set r o):=⟨by simpa using x.len,λj b=>by rw[QKq (by omega)];exact x.eq j b⟩
def Iq{S b:aC}{d:D}{Q:Res->aC->Prop}(x:uN S b)(hd:∀k,d≠.ref k)(hl:bK 0 d=true)(q:Q (.d d) S):Op (settle S d b) λp=>Q p.1 p.2:=by
 refine fW ⟨x.len,λk o c e=>.inl (by rw[←x.eq k c];exact e)⟩ ?_ hd (cW hl) q
 apply List.ext_getElem?
 intro j
 by_cases a:j<S.length
 ·rw[List.getElem?_take_of_lt a]
  exact x.eq j a
 ·rw[List.getElem?_eq_none (by rw[Qxq];omega),List.getElem?_eq_none (by omega)]
def gX:∀a:Str×Nat,∃r,uK a=.tup (.str a.1::r):=λa=>⟨_,rfl⟩
def CH:∀a:Str×Str,∃r,Eb a=.tup (.str a.1::r):=λa=>⟨_,rfl⟩
section
variable{S:aC}{Q:Res->aC->Prop}
theorem uh:∀{m l:List (Key×D)},(cP l m).length<=l.length+m.length
 | [],l=>Qmq _
 | q::m,l=>by
   have b:(cP (putD l q.1 q.2) m).length<=(putD l q.1 q.2).length+m.length:=uh
   have a:(putD l q.1 q.2).length<=l.length+1:=by unfold putD;split <;>simp
   show(cP (putD l q.1 q.2) m).length<=_
   simp only[Qnq]
   omega
def sx{ts:List (Str×Nat)}{vs:List Int}:(dM ts vs).length<=ts.length:=by
 refine QAq uh ?_
 simp only[QGq,List.length_zip,lQm]
 omega
def wB{w:cI}{s:bj}{h:Nat}{ts:List (Str×Nat)}{pr:List Rw}{vs:List Int}{fs:List bU}{f:bU}{t:Tr}(C:w.af[h]?=some (ts,pr))(r:s.af[h]?=some (vs,fs))(A:fs.getLast? =some f)(u:f.room= -1)
  (i:w.ak.length=s.ak.length) (g:ts.length=vs.length) (K:w.ak.length<=100) (L:ts.length<=100) (G:∀v∈s.ak,0<=v/\v<=9) (y:∀v∈vs,0<=v/\v<=9)
  (H:t.Ok (ts.map (·.1)++w.ak.map (·.1)) []) (hd:t.dep<=6) (q:Q (.d (.int (As (numAt (C4 w s ts vs)) (λ_=>0) t))) S):Fn dB [w.d,s.d,.int h,t.d] S Q:=by
 have c:kM (C4 w s ts vs):=kM.merge (g5 G) (g5 y)
 refine bT ?_
 unfold lQ
 symm
 apply bJ r A ?_
 apply aw (d:=.int f.room) rfl ?_
 refine df ?_
 dsimp only
 rw[Qeq u,Qhq rfl]
 symm
 apply J0 ?_
 apply aw rfl ?_
 apply fm (enc:=uK) (nm:=(·.1)) gX (by omega) ?_
 refine aw rfl ?_
 refine bH (ds:=s.ak.map D.int) ?_
 refine⟨_,rfl,⟨trivial,by simp only[lQm];exact i⟩,?_⟩
 dsimp only
 rw[show cP [] (((w.ak.map (·.1)).map (Sum.inr:Str->Key)).zip (s.ak.map D.int))=dM w.ak s.ak from rfl]
 apply bA (fX (LQ ?_))
 apply J0 ?_
 apply aw rfl ?_
 refine aw (d:=kQ (ts,pr)) (aR (by rw[gQm,C];rfl)) ?_
 symm
 apply aw rfl ?_
 apply fm (enc:=uK) (nm:=(·.1)) gX (by omega) ?_
 apply aw rfl ?_
 refine aw (d:=AI (vs,fs)) (aR (by rw[gQm,r];rfl)) ?_
 symm
 refine aw rfl ?_
 refine bH (ds:=vs.map D.int) ?_
 refine⟨_,rfl,⟨trivial,by simp only[lQm];exact g⟩,?_⟩
 dsimp only
 rw[show cP [] (((ts.map (·.1)).map (Sum.inr:Str->Key)).zip (vs.map D.int))=dM ts vs from rfl]
 have e:(S++ [O.dct (dM w.ak s.ak)])[S.length]?=some (.dct (dM w.ak s.ak)):=aJ
 have p:(S++ [O.dct (dM w.ak s.ak)]).length=S.length+1:=by simp
 have F:uN S (S++ [O.dct (dM w.ak s.ak)]):=uN.refl.app
 show∃k j B l m,D.ref S.length=.ref k/\D.ref (S++ [O.dct (dM w.ak s.ak)]).length=.ref j/\k≠j/\(S++ [O.dct (dM w.ak s.ak)])[k]?=some (.dct B)/\(S++ [O.dct (dM w.ak s.ak)]++ [O.dct (dM ts vs)])[k]?=some (.dct l)/\(S++ [O.dct (dM w.ak s.ak)]++ [O.dct (dM ts vs)])[j]?=some (.dct m)/\_
 refine⟨_,_,_,_,_,rfl,rfl,by omega,e,aH e,aJ,?_,?_⟩
 ·have J:=sx (ts:=w.ak) (vs:=s.ak)
  have M:=sx (ts:=ts) (vs:=vs)
  exact nQl (aZ (by omega))
 have n:((S++ [O.dct (dM w.ak s.ak)]++ [O.dct (dM ts vs)]).set S.length (.dct (cP (dM w.ak s.ak) (dM ts vs))))[S.length]?=some (.dct (C4 w s ts vs)):=cj (aH e)
 have o:uN S ((S++ [O.dct (dM w.ak s.ak)]++ [O.dct (dM ts vs)]).set S.length (.dct (cP (dM w.ak s.ak) (dM ts vs)))):=F.app.put (Qmq _)
 generalize ((S++ [O.dct (dM w.ak s.ak)]++ [O.dct (dM ts vs)]).set S.length (.dct (cP (dM w.ak s.ak) (dM ts vs))))=S2 at n o⊢
 symm
 apply Nd ?_
 refine gn (th:=numAt (C4 w s ts vs)) (wt:=λ_=>0) (ws:=ts.map (·.1)++w.ak.map (·.1)) (bs:= []) (aH n) aJ (λx a=> ?_) (λb I=>by cases I) 6 t H hd ?_
 ·refine(oP c ?_).1
  refine gf ?_
  rcases mQa.mp a with a|a
  ·exact .inr (g9 g a)
  ·exact .inl (g9 i a)
 ·exact Iq o.app (λk z=>(nomatch z)) rfl q
end
section
variable{S:aC}{Q:Res->aC->Prop}
theorem zi:∀(bs:List (Str×Str)) (ls:List (List (Int×Int))),zf ((bs.map (·.1)).map D.str) (ls.map dQ)=(bs.zip ls).map λp=>D.tup [.str p.1.1,dQ p.2]
 | [],_=>rfl
 |_::_,[]=>rfl
 | b::bs,l::ls=>by
   have:=zi bs ls
   simp only[zf,QDq,List.zipWith_cons_cons,List.zip_cons_cons] at this⊢
   rw[this]
def Ad(r:Rm)(rs:cU)(x:Str):Int:=numAt (BQ r rs) x
def Ew{r:Rm}{rs:cU}(hl:r.aa.length=rs.aa.length){x:Str}(h:x∈r.aa.map (·.1)):ub (BQ r rs) (.inr x)=some (.int (Ad r rs x)):=by
 have f:(Sum.inr x:Key)∈(BQ r rs).map (·.1):=by
  refine gf (.inr ?_)
  rw[QPq]
  obtain⟨b,g,rfl⟩:=Qkq.mp h
  obtain⟨i,c,e⟩:=QbQ g
  refine Qkq.mpr ⟨(b,rs.aa[i]'(by omega)),?_,rfl⟩
  rw[←e]
  have:(r.aa.zip rs.aa)[i]?=some (r.aa[i],rs.aa[i]'(by omega)):=by
   rw[List.getElem?_zip_eq_some]
   exact⟨gQe c,gQe (by omega)⟩
  exact mQg this
 obtain⟨d,j,a⟩:=vR f
 have c:∃v:Int,d=.int v:=by
  rcases nI a with a|a
  ·cases a
  ·obtain⟨p,_,e⟩:=Qkq.mp a
   exact⟨_,(congrArg (·.2) e).symm⟩
 obtain⟨v,rfl⟩:=c
 unfold Ad DL.numAt
 rw[j]
def uW{w:cI}{s:bj}{h i:Nat}{vs:List Int}{fs:List bU}{f:bU}{r:Rm}{rs:cU}{t:Tr}(J:s.af[h]?=some (vs,fs))(C:fs.getLast? =some f)(A:f.room=i)(o:w.aj[i]?=some r)(c:s.aj[i]?=some rs)
  (n:r.ao.length=rs.vals.length) (B:r.aa.length=rs.aa.length) (L:r.ao.length<=100) (M:r.aa.length<=100) (G:∀v∈rs.vals,0<=v/\v<=9) (m:0<=f.given/\f.given<=9)
  (H:t.Ok (r.ao.map (·.1)++fF) (r.aa.map (·.1))) (hd:t.dep<=6) (q:Q (.d (.int (As (numAt (vI r rs f.given)) (Ad r rs) t))) S):Fn dB [w.d,s.d,.int h,t.d] S Q:=by
 have j:kM (vI r rs f.given):=(g5 G).put m.1 m.2
 refine bT ?_
 unfold lQ
 symm
 apply bJ J C ?_
 apply aw (d:=.int f.room) rfl ?_
 refine df ?_
 dsimp only
 rw[Qdq (show¬f.room= -1 by omega),Quq (by decide),A]
 apply bW ?_
 apply J0 ?_
 apply aw rfl ?_
 refine aw (d:=r.d) (aR (by rw[gQm,o];rfl)) ?_
 symm
 apply aw rfl ?_
 apply fm (enc:=uK) (nm:=(·.1)) gX (by omega) ?_
 apply aw rfl ?_
 refine aw (d:=rs.d) (aR (by rw[gQm,c];rfl)) ?_
 symm
 refine aw rfl ?_
 refine bH (ds:=rs.vals.map D.int) ?_
 refine⟨_,rfl,⟨trivial,by simp only[lQm];exact n⟩,?_⟩
 dsimp only
 rw[show cP [] (((r.ao.map (·.1)).map (Sum.inr:Str->Key)).zip (rs.vals.map D.int))=dM r.ao rs.vals from rfl]
 have F:uN S (S++ [O.dct (dM r.ao rs.vals)]):=uN.refl.app
 apply bA (Na ?_)
 apply aw (d:=.int f.given) rfl ?_
 refine⟨_,_,_,rfl,rfl,aJ,aZ (by have:=sx (ts:=r.ao) (vs:=rs.vals);omega),?_⟩
 have u:((S++ [O.dct (dM r.ao rs.vals)]).set S.length (.dct (putD (dM r.ao rs.vals) (.inr "given") (.int f.given))))[S.length]?=some (.dct (vI r rs f.given)):=cj aJ
 have y:uN S ((S++ [O.dct (dM r.ao rs.vals)]).set S.length (.dct (putD (dM r.ao rs.vals) (.inr "given") (.int f.given)))):=F.put (Qmq _)
 generalize ((S++ [O.dct (dM r.ao rs.vals)]).set S.length (.dct (putD (dM r.ao rs.vals) (.inr "given") (.int f.given))))=S2 at u y⊢
 apply bA (Nr (α:=(Str×Str)×List (Int×Int)) (λg=>∃a b,g= [a,b]) (λp=>D.tup [.str p.1.1,dQ p.2]) (λp=>p.1.1) (λp=>.int (p.2.length:Nat)) ⟨none,none,rfl⟩ (m5 ?_))
 apply aw rfl ?_
 refine aw (d:=r.d) (aR (by rw[gQm,o];rfl)) ?_
 symm
 apply aw rfl ?_
 apply fm (enc:=Eb) (nm:=(·.1)) CH (by omega) ?_
 apply aw rfl ?_
 refine aw (d:=rs.d) (aR (by rw[gQm,c];rfl)) ?_
 symm
 refine aw rfl ?_
 refine bH (ds:=rs.aa.map dQ) ?_
 refine⟨⟨trivial,by simp only[lQm];omega⟩,r.aa.zip rs.aa,zi _ _,⟨trivial,trivial⟩,by rw[List.length_zip];omega,λp K g l=> ?_,?_⟩
 ·obtain⟨a,b,rfl⟩:=l
  refine dG rfl (ax (aS (ax (aS (a8 ?_)))))
  apply⟨rfl,⟨_,_,rfl⟩,?_⟩
  apply⟨rfl,rfl,?_⟩
  refine bH (ds:=p.2.map pairD) ?_
  exact⟨by simp,rfl⟩
 symm
 refine gn (th:=numAt (vI r rs f.given)) (wt:=Ad r rs) (ws:=r.ao.map (·.1)++fF) (bs:=r.aa.map (·.1)) (kws:=BQ r rs) (aH u) aJ (λx e=> ?_) (λb I=>Ew B I) 6 t H hd ?_
 ·refine(oP j ?_).1
  refine lO ?_
  rcases mQa.mp e with e|e
  ·exact .inr (g9 n e)
  ·left
   rw[Qfq.mp e]
 ·exact Iq y.app (λk z=>(nomatch z)) rfl q
end
end W28
namespace DL
open PySem PySem.Spec L2
def zC{b:cv}{S:aC}{a:Bool}{f:bx}{g:dz}{Q:D->aC->Prop}(h:E f b S λx c=>E g b c λp S2=>∃v vs,uM x=some v/\gB p.1=some vs/\Q (.bl (if a then !FH v vs else FH v vs)) S2):E (Ds a f g) b S Q:=by
 obtain⟨x,c,i,p,S2,d,v,vs,j,e,q⟩:=h
 exact⟨_,S2,by unfold Ds;rw[i];simp only[Qbq];rw[d];simp only[Qbq];rw[j,e];rfl,q⟩
def HI{x:Str}{ss:List Str}:FH (.str x) (ss.map V.str)=decide (x∈ss):=by
 induction ss with
 |nil=>rfl
 | cons a ss d=>
   show(jz (.str a) (.str x)||FH (.str x) (ss.map V.str))=_
   rw[d]
   simp only[jz,Qsq]
   by_cases c:a=x
   · subst c;simp
   · have b:¬x=a:=λz=>c z.symm
     simp[c,b]
end DL
namespace W28
open PySem PySem.Spec L2 DL
section
variable{S:aC}{Q:Res->aC->Prop}
def eL(ns:List Str)(vs:List Int)(x:Str)(v:Int):List Int:=vs.set ((oH (.str x) (ns.map V.str)).getD 0) v
def om{α:Type}{enc:α->D}{nm:α->Str}{xs:List α}{x:Str}(he:∀a,∃r,enc a=.tup (.str (nm a)::r))(hl:xs.length<=1000)(g:x∈xs.map nm)(q:((oH (.str x) ((xs.map nm).map V.str)).getD 0)<xs.length->Q (.d (.int ((oH (.str x) ((xs.map nm).map V.str)).getD 0:Nat))) S):Fn c8 [.tup (xs.map enc),.str x] S Q:=by
 refine bT ?_
 unfold pT
 obtain⟨j,e,i⟩:=wL g
 have f:j<xs.length:=by have:=(gQs.mp i).1;simpa using this
 rw[e] at q
 refine vQ ?_
 have c:E (gP (cV dR (aq (av 0) au))) ([D.tup (xs.map enc),D.str x].map some++List.replicate (2- [D.tup (xs.map enc),D.str x].length) none) S λp b=>p=((xs.map nm).map D.str,.fr)/\b=S:=by
  symm
  exact fm he hl ⟨rfl,rfl⟩
 obtain⟨p,b,h,rfl,rfl⟩:=c
 refine⟨.int j,b,?_,cq (λk z=>(nomatch z)) rfl (q f)⟩
 unfold Ks
 rw[h]
 simp only[Qbq]
 rw[Qhq (show Tag.fr.isL=true from rfl)]
 show((av 1 _ b).bind _)=_
 rw[show av 1 ([D.tup (xs.map enc),D.str x].map some++List.replicate (2- [D.tup (xs.map enc),D.str x].length) none) b=some (.str x,b) from rfl]
 simp only[Qbq]
 rw[Qhq (show Tag.stays b _ .fr from trivial)]
 show(uM (.str x)).bind _=_
 simp only[uM,Qbq]
 rw[m7]
 simp only[Qbq]
 rw[e]
 rfl
def F0{w:cI}{s:bj}{h i:Nat}{vs:List Int}{fs:List bU}{f:bU}{r:Rm}{rs:cU}{x:Str}{v:Int}(k:s.af[h]?=some (vs,fs))(g:fs.getLast? =some f)(b:f.room=i)(j:w.aj[i]?=some r)(a:s.aj[i]?=some rs)
  (m:r.ao.length=rs.vals.length) (n:r.ao.length<=100) (o:s.aj.length<=100) (c:x∈r.ao.map (·.1))
  (q:Q (.d ({s with aj:=s.aj.set i {rs with vals:=eL (r.ao.map (·.1)) rs.vals x v}}:bj).d) S):Fn eY [w.d,s.d,.int h,.str x,.int v] S Q:=by
 refine bT ?_
 unfold jN
 symm
 apply bJ k g ?_
 apply aw (d:=.int f.room) rfl ?_
 refine nT ?_
 dsimp only
 rw[Qdq (show¬f.room= -1 by omega),b]
 show if (true=true) then _ else _
 rw[Qhq rfl]
 symm
 apply aw rfl ?_
 refine aw (d:=r.d) (aR (by rw[gQm,j];rfl)) ?_
 symm
 apply aw rfl ?_
 apply om (enc:=uK) (nm:=(·.1)) gX (by omega) c λl=> ?_
 apply aw rfl ?_
 refine aw (d:=rs.d) (aR (by rw[gQm,a];rfl)) ?_
 symm
 apply aw rfl ?_
 refine dF (xs:=rs.vals.map D.int) (by rw[lQm];omega) (by rw[lQm];omega) (aY λ_ _=>rfl) rfl ?_
 symm
 refine⟨by show 1<=_;decide,?_⟩
 apply kj ?_
 apply aw rfl ?_
 refine aw (d:=rs.d) (aR (by rw[gQm,a];rfl)) ?_
 apply cX ?_
 refine⟨_,rfl,cY ⟨_,rfl,?_⟩⟩
 refine dU (by show 5<=_;decide) ?_
 symm
 have e:({rs with vals:=eL (r.ao.map (·.1)) rs.vals x v}:cU).d=.tup ([.tup ((rs.vals.map D.int).set ((oH (.str x) ((r.ao.map (·.1)).map V.str)).getD 0) (.int v))]++jZ [cM rs.vals,.int rs.within,cM rs.row,cM rs.ag,.tup (rs.aa.map dQ)] (some 1) none):=by
  show D.tup [cM (eL _ _ _ _),_,_,_,_]=_
  unfold eL cM
  rw[map_set]
  rfl
 rw[←e]
 refine dk (gQs.mp a).1 (by omega) ?_
 exact cq (aU _) (bj.low _) q
end
section
variable{S:aC}{Q:Res->aC->Prop}
def xN(w:cI)(s:bj)(h:Nat)(ts:List (Str×Nat))(vs:List Int)(fs:List bU)(x:Str)(v:Int):bj:=
 if x∈w.ak.map (·.1) then{s with ak:=eL (w.ak.map (·.1)) s.ak x v} else{s with af:=s.af.set h (eL (ts.map (·.1)) vs x v,fs)}
def Hb{w:cI}{s:bj}{h:Nat}{ts:List (Str×Nat)}{pr:List Rw}{vs:List Int}{fs:List bU}{f:bU}{x:Str}{v:Int}(l:w.af[h]?=some (ts,pr))(b:s.af[h]?=some (vs,fs))(k:fs.getLast? =some f)(e:f.room= -1)
  (r:w.ak.length=s.ak.length) (o:ts.length=vs.length) (t:w.ak.length<=100) (u:ts.length<=100) (y:s.af.length<=100) (i:x∈ts.map (·.1)++w.ak.map (·.1))
  (q:Q (.d (xN w s h ts vs fs x v).d) S):Fn eY [w.d,s.d,.int h,.str x,.int v] S Q:=by
 refine bT ?_
 unfold jN
 symm
 apply bJ b k ?_
 apply aw (d:=.int f.room) rfl ?_
 refine nT ?_
 dsimp only
 rw[Qeq e]
 refine aN (λc=>by cases c) (λ_=>bW ?_)
 apply bA (dX (bV (zC ?_)))
 apply aw rfl ?_
 apply fm (enc:=uK) (nm:=(·.1)) gX (by omega) ?_
 refine⟨_,_,rfl,m7 _,?_⟩
 unfold xN at q
 show if FH (.str x) ((w.ak.map (·.1)).map V.str)=true then _ else _
 rw[HI]
 by_cases c:x∈w.ak.map (·.1)
 ·rw[Qhq c] at q
  rw[Qeq c,Qhq rfl]
  symm
  apply aw rfl ?_
  apply aw rfl ?_
  apply om (enc:=uK) (nm:=(·.1)) gX (by omega) c λg=> ?_
  refine dF (xs:=s.ak.map D.int) (by rw[lQm];omega) (by rw[lQm];omega) (aY λ_ _=>rfl) rfl ?_
  symm
  apply aw rfl ?_
  apply aw rfl ?_
  apply aw rfl ?_
  refine⟨by show 4<=_;decide,?_⟩
  rw[←map_set]
  exact cq (d:=({s with ak:=eL (w.ak.map (·.1)) s.ak x v}:bj).d) (aU _) (bj.low _) q
 ·rw[Quq c] at q
  rw[Qdq c,Quq (by decide)]
  refine bW ?_
  have a:x∈ts.map (·.1):=(mQa.mp i).resolve_right c
  symm
  apply aw rfl ?_
  refine aw (d:=AI (vs,fs)) (aR (by rw[gQm,b];rfl)) ?_
  apply dG rfl (ax (aS (ax (aS (a8 ?_)))))
  apply aw rfl ?_
  refine aw (d:=kQ (ts,pr)) (aR (by rw[gQm,l];rfl)) ?_
  symm
  apply aw rfl ?_
  apply om (enc:=uK) (nm:=(·.1)) gX (by omega) a λg=> ?_
  refine dF (xs:=vs.map D.int) (by rw[lQm];omega) (by rw[lQm];omega) (aY λ_ _=>rfl) rfl ?_
  symm
  rw[←map_set]
  rw[show D.tup ((vs.set ((oH (.str x) ((ts.map (·.1)).map V.str)).getD 0) v).map D.int)=cM (eL (ts.map (·.1)) vs x v) from rfl]
  generalize eL (ts.map (·.1)) vs x v=nv at q⊢
  have j:h<s.af.length:=(gQs.mp b).1
  have n:s.af.length<=900:=by omega
  have m:Op (settle S ({s with af:=s.af.set h (nv,fs)}:bj).d S) λp=>Q p.1 p.2:=cq (aU _) (bj.low _) q
  exact gS j n m
end
section
variable{S:aC}{Q:Res->aC->Prop}
def fQ(ns:List Str)(x:Str):Nat:=(oH (.str x) (ns.map V.str)).getD 0
def jC{ns:List Str}{x:Str}(h:x∈ns):fQ ns x<ns.length/\ns[fQ ns x]?=some x:=by
 obtain⟨j,b,a⟩:=wL h
 unfold fQ
 rw[b]
 exact⟨(gQs.mp a).1,a⟩
def jk{α:Type}{enc:α->D}{nm:α->Str}{xs:List α}{x:Str}(he:∀a,∃r,enc a=.tup (.str (nm a)::r))(hl:xs.length<=1000)(b:x∈xs.map nm)(q:Q (.d (.int (fQ (xs.map nm) x:Nat))) S):Fn c8 [.tup (xs.map enc),.str x] S Q:=om he hl b λ_=>q
def m8{w:cI}{s:bj}{h i:Nat}{vs:List Int}{fs:List bU}{f:bU}{r:Rm}{x:Str}(a:s.af[h]?=some (vs,fs))(g:fs.getLast? =some f)(b:f.room=i)(c:w.aj[i]?=some r)(j:r.aa.length<=100)(e:x∈r.aa.map (·.1))
  (q:Q (.d (.tup [.int i,.int (fQ (r.aa.map (·.1)) x:Nat)])) S):Fn jn [w.d,s.d,.int h,.str x] S Q:=by
 refine bT ?_
 unfold sC
 symm
 apply bJ a g ?_
 refine aw (d:=.int f.room) rfl ?_
 rw[b]
 symm
 apply aw rfl ?_
 refine aw (d:=r.d) (aR (by rw[gQm,c];rfl)) ?_
 symm
 apply aw rfl ?_
 apply jk (enc:=Eb) (nm:=(·.1)) CH (by omega) e ?_
 refine⟨by show 2<=_;decide,?_⟩
 exact cq (λk z=>(nomatch z)) rfl q
def jX{s:bj}{i b:Nat}{rs:cU}{l:List (Int×Int)}(a:s.aj[i]?=some rs)(k:b<rs.aa.length)(h:rs.aa.length<=100)(j:s.aj.length<=100)
  (q:Q (.d ({s with aj:=s.aj.set i {rs with aa:=rs.aa.set b l}}:bj).d) S):Fn eV [s.d,.int i,.int b,dQ l] S Q:=by
 refine bT ?_
 unfold mV
 symm
 apply aw rfl ?_
 refine aw (d:=rs.d) (aR (by rw[gQm,a];rfl)) ?_
 symm
 apply kj ?_
 apply cY (cX ?_)
 apply⟨_,rfl,_,rfl,?_⟩
 apply aw rfl ?_
 refine dF (xs:=rs.aa.map dQ) (by rw[lQm];omega) (by rw[lQm];omega) (aY λl _=>sP l) (sP l) ?_
 symm
 refine⟨by show 1<=_;decide,?_⟩
 refine dU (by show 5<=_;decide) ?_
 symm
 rw[←map_set]
 generalize c:rs.aa.set b l=nb at q⊢
 have e:({rs with aa:=nb}:cU).d=.tup (jZ [cM rs.vals,.int rs.within,cM rs.row,cM rs.ag,.tup (rs.aa.map dQ)] none (some 4)++ [.tup (nb.map dQ)]):=rfl
 rw[←e]
 have g:i<s.aj.length:=(gQs.mp a).1
 have hl:s.aj.length<=900:=by omega
 have f:Op (settle S ({s with aj:=s.aj.set i {rs with aa:=nb}}:bj).d S) λp=>Q p.1 p.2:=cq (aU _) (bj.low _) q
 exact dk g hl f
def gN(p:Int×List Int)(h:Int):Int×List Int:=if 0<p.1 then(p.1-1,p.2) else(p.1,p.2++ [h])
def fE(p:Int×List Int):Int×List Int:=match p.2 with
 |_::l=>(p.1,l)
 | []=>(if 9<p.1+1 then 9 else p.1+1,[])
def zu{w:cI}{s:bj}{h:Int}{x:Str}{p:Int×List Int}(g:x∈w.ai.map (·.1))(b:s.ai[fQ (w.ai.map (·.1)) x]?=some p)(i:w.ai.length<=100)(l:s.ai.length<=100)(k:p.2.length<=900)
  (q:Q (.d ({s with ai:=s.ai.set (fQ (w.ai.map (·.1)) x) (gN p h)}:bj).d) S):Fn ud [w.d,s.d,.int h,.str x] S Q:=by
 refine bT ?_
 unfold Bf
 symm
 apply aw rfl ?_
 refine jk (enc:=uK) (nm:=(·.1)) gX (by omega) g ?_
 generalize fQ (w.ai.map (·.1)) x=j at b q⊢
 have f:j<s.ai.length:=(gQs.mp b).1
 have hl:s.ai.length<=900:=by omega
 symm
 apply aw rfl ?_
 refine aw (d:=Ar p) (aR (by rw[gQm,b];rfl)) ?_
 refine dG rfl (ax (aS (ax (aS (a8 ?_)))))
 have a:Op (settle S ({s with ai:=s.ai.set j (gN p h)}:bj).d S) λp=>Q p.1 p.2:=cq (aU _) (bj.low _) q
 unfold gN at a
 symm
 by_cases c:0<p.1
 ·rw[Qhq c] at a
  rw[Qeq c,Qhq rfl]
  symm
  refine⟨by show 2<=_;decide,?_⟩
  symm
  exact gQ (p:=(p.1-1,p.2)) f hl a
 ·rw[Quq c] at a
  rw[Qdq c,Quq (by decide)]
  apply bW ?_
  refine⟨by show 1<=_;decide,?_⟩
  refine dU (by simp only[lQm,Qnq,QGq];exact nQl (aZ (by omega))) ?_
  symm
  refine⟨by show 2<=_;decide,?_⟩
  symm
  have e:D.tup [.int p.1,.tup (p.2.map D.int++ [.int h])]=Ar (p.1,p.2++ [h]):=by simp[Ar,cM]
  rw[e]
  exact gQ f hl a
end
section
variable{S:aC}{Q:Res->aC->Prop}
def mC{w:cI}{s:bj}{x:Str}{p:Int×List Int}(i:x∈w.ai.map (·.1))(b:s.ai[fQ (w.ai.map (·.1)) x]?=some p)(k:w.ai.length<=100)(m:s.ai.length<=100)
  (q:Q (.d ({s with ai:=s.ai.set (fQ (w.ai.map (·.1)) x) (fE p)}:bj).d) S):Fn gA [w.d,s.d,.str x] S Q:=by
 refine bT ?_
 unfold kI
 symm
 apply aw rfl ?_
 refine jk (enc:=uK) (nm:=(·.1)) gX (by omega) i ?_
 generalize fQ (w.ai.map (·.1)) x=j at b q⊢
 have g:j<s.ai.length:=(gQs.mp b).1
 have hl:s.ai.length<=900:=by omega
 symm
 apply aw rfl ?_
 refine aw (d:=Ar p) (aR (by rw[gQm,b];rfl)) ?_
 refine dG rfl (ax (aS (ax (aS (a8 ?_)))))
 have h:Op (settle S ({s with ai:=s.ai.set j (fE p)}:bj).d S) λp=>Q p.1 p.2:=cq (aU _) (bj.low _) q
 obtain⟨v,f⟩:=p
 symm
 refine xn ?_
 cases f with
 | cons a l=>
   apply aN (λ_=> ?_) (λc=>by cases c)
   apply kj ?_
   apply cX ?_
   apply⟨_,rfl,cY ⟨_,rfl,?_⟩⟩
   refine⟨by show 2<=_;decide,?_⟩
   symm
   have e:D.tup (jZ ((a::l).map D.int) (some 1) none)=cM l:=by
     rw[show(some (1:Int))=some ((1:Nat):Int) from rfl,jr (by simp)]
     rfl
   rw[e]
   exact gQ (p:=(v,l)) g hl h
 | nil=>
   apply aN (λc=>by cases c) (λ_=>bW ?_)
   apply Gk ?_
   refine⟨by show 2<=_;decide,?_⟩
   symm
   exact gQ (p:=(if 9<v+1 then 9 else v+1,[])) g hl h
def CQ{a sd hd b:D}{s:bj}(q:Q (.d s.d) S):Fn rX [a,s.d,hd,b] S Q:=by
 refine bT ?_
 unfold yl
 symm
 exact cq (aU _) (bj.low _) q
def FW{a:D}{s:bj}{h n:Nat}{vs:List Int}{fs:List bU}{f:bU}(g:s.af[h]?=some (vs,fs))(b:fs.getLast? =some f)(e:fs.length<=900)(hl:s.af.length<=900)(q:Q (.d ({s with af:=s.af.set h (vs,fs.dropLast++ [{f with row:=n}])}:bj).d) S):Fn xP [a,s.d,.int h,(Rw.go n).d] S Q:=by
 refine bT ?_
 unfold Ay
 symm
 apply aw (d:=.int n) rfl ?_
 have c:Op (settle S ({s with af:=s.af.set h (vs,fs.dropLast++ [{f with row:=n}])}:bj).d S) λp=>Q p.1 p.2:=cq (aU _) (bj.low _) q
 exact qw g b e hl c
end
section
variable{S:aC}{Q:Res->aC->Prop}
def Bb{w:cI}{s:bj}{h:Int}{x:Str}{p:Int×List Int}(e:x∈w.ai.map (·.1))(f:s.ai[fQ (w.ai.map (·.1)) x]?=some p)(b:w.ai.length<=100)(g:s.ai.length<=100)(c:p.2.length<=900)
  (q:Q (.d ({s with ai:=s.ai.set (fQ (w.ai.map (·.1)) x) (gN p h)}:bj).d) S):Fn pq [w.d,s.d,.int h,(Rw.take x).d] S Q:=by
 refine bT ?_
 unfold su
 symm
 apply aw (d:=.str x) rfl ?_
 have a:Op (settle S ({s with ai:=s.ai.set (fQ (w.ai.map (·.1)) x) (gN p h)}:bj).d S) λp=>Q p.1 p.2:=cq (aU _) (bj.low _) q
 exact zu e f b g c a
def Ax{w:cI}{s:bj}{hd:D}{x:Str}{p:Int×List Int}(c:x∈w.ai.map (·.1))(e:s.ai[fQ (w.ai.map (·.1)) x]?=some p)(b:w.ai.length<=100)(f:s.ai.length<=100)
  (q:Q (.d ({s with ai:=s.ai.set (fQ (w.ai.map (·.1)) x) (fE p)}:bj).d) S):Fn nV [w.d,s.d,hd,(Rw.give x).d] S Q:=by
 refine bT ?_
 unfold sD
 symm
 apply aw (d:=.str x) rfl ?_
 have a:Op (settle S ({s with ai:=s.ai.set (fQ (w.ai.map (·.1)) x) (fE p)}:bj).d S) λp=>Q p.1 p.2:=cq (aU _) (bj.low _) q
 exact mC c e b f a
end
section
variable{S:aC}{Q:Res->aC->Prop}
def Bt(w:cI)(s:bj)(h:Nat)(t:Tr)(v:Int):Prop:=∀(S:aC) (Q:Res->aC->Prop),Q (.d (.int v)) S->Fn dB [w.d,s.d,.int h,t.d] S Q
def Puts(w:cI)(s:bj)(h:Nat)(x:Str)(v:Int)(a:bj):Prop:=∀(S:aC) (Q:Res->aC->Prop),Q (.d a.d) S->Fn eY [w.d,s.d,.int h,.str x,.int v] S Q
def Bg{w:cI}{s:bj}{h:Int}{x y:Str}{p a:Int×List Int}(j:x∈w.ai.map (·.1))(f:y∈w.ai.map (·.1))(k:s.ai[fQ (w.ai.map (·.1)) x]?=some p)(c:w.ai.length<=100)(e:s.ai.length<=100)(i:a.2.length<=900)
  (b:(s.ai.set (fQ (w.ai.map (·.1)) x) (fE p))[fQ (w.ai.map (·.1)) y]?=some a)
  (q:Q (.d ({s with ai:=(s.ai.set (fQ (w.ai.map (·.1)) x) (fE p)).set (fQ (w.ai.map (·.1)) y) (gN a h)}:bj).d) S):Fn oA [w.d,s.d,.int h,(Rw.pass x y).d] S Q:=by
 refine bT ?_
 unfold ug
 symm
 apply aw (d:=.str x) rfl ?_
 apply mC j k c e ?_
 apply aw (d:=.str y) rfl ?_
 have g:Op (settle S ({s with ai:=(s.ai.set (fQ (w.ai.map (·.1)) x) (fE p)).set (fQ (w.ai.map (·.1)) y) (gN a h)}:bj).d S) λp=>Q p.1 p.2:=cq (aU _) (bj.low _) q
 exact zu (s:={s with ai:=s.ai.set (fQ (w.ai.map (·.1)) x) (fE p)}) f b c (by simpa using e) i g
def DP{w:cI}{s a:bj}{h:Nat}{x:Str}{t:Tr}{v:Int}(b:Bt w s h t v)(c:Puts w s h x v a)(q:Q (.d a.d) S):Fn rS [w.d,s.d,.int h,(Rw.put x t).d] S Q:=by
 refine bT ?_
 unfold xO
 symm
 apply aw (d:=.str x) rfl ?_
 apply aw (d:=t.d) rfl ?_
 apply b _ _ ?_
 refine c _ _ ?_
 exact cq (aU _) (bj.low _) q
def x_{w:cI}{s:bj}{h n:Nat}{t:Tr}{v:Int}{vs:List Int}{fs:List bU}{f:bU}(a:Bt w s h t v)(b:s.af[h]?=some (vs,fs))(g:fs.getLast? =some f)(i:fs.length<=900)(hl:s.af.length<=900)
  (q:Q (.d (if v=0 then({s with af:=s.af.set h (vs,fs.dropLast++ [{f with row:=n}])}:bj) else s).d) S):Fn kb [w.d,s.d,.int h,(Rw.unl t n).d] S Q:=by
 refine bT ?_
 unfold mP
 symm
 apply aw (d:=t.d) rfl ?_
 apply a _ _ ?_
 refine df ?_
 dsimp only
 by_cases c:v=0
 ·rw[Qhq c] at q
  rw[Qeq c,Qhq rfl]
  symm
  apply aw (d:=.int n) rfl ?_
  have e:Op (settle S ({s with af:=s.af.set h (vs,fs.dropLast++ [{f with row:=n}])}:bj).d S) λp=>Q p.1 p.2:=cq (aU _) (bj.low _) q
  exact qw b g i hl e
 ·rw[Quq c] at q
  rw[Qdq c,Quq (by decide)]
  apply bW ?_
  exact cq (aU _) (bj.low _) q
end
section
variable{S:aC}{Q:Res->aC->Prop}
def BG{w:cI}{s:bj}{h:Nat}{t:Tr}{v:Int}{vs:List Int}{fs:List bU}{f:bU}(g:Bt w s h t v)(c:s.af[h]?=some (vs,fs))(e:fs.getLast? =some f)(k:fs.length<=900)(hl:s.af.length<=900)
  (q:Q (.d ({s with af:=s.af.set h (vs,fs.dropLast++ [{f with told:=v}])}:bj).d) S):Fn oK [w.d,s.d,.int h,(Rw.tell t).d] S Q:=by
 refine bT ?_
 unfold sI
 symm
 apply aw (d:=t.d) rfl ?_
 apply g _ _ ?_
 apply kj ?_
 refine bJ c e ?_
 apply cY (cX ?_)
 apply⟨_,rfl,_,rfl,?_⟩
 refine⟨by show 1<=_;decide,?_⟩
 refine dU (by show 5<=_;decide) ?_
 symm
 have i:0<fs.length:=by
  cases fs with
  |nil=>cases e
  |cons a b=>simp
 have j:Op (settle S ({s with af:=s.af.set h (vs,fs.dropLast++ [{f with told:=v}])}:bj).d S) λp=>Q p.1 p.2:=cq (aU _) (bj.low _) q
 exact ij (f:={f with told:=v}) c i k hl j
def D5{w:cI}{s:bj}{h i:Nat}{vs:List Int}{fs:List bU}{f:bU}{r:Rm}{rs:cU}{x:Str}(t:s.af[h]?=some (vs,fs))(j:fs.getLast? =some f)(g:f.room=i)(k:w.aj[i]?=some r)(a:s.aj[i]?=some rs)(m:r.aa.length<=100)(u:r.aa.length=rs.aa.length)(o:s.aj.length<=100)(e:x∈r.aa.map (·.1))
  (q:Q (.d ({s with aj:=s.aj.set i {rs with aa:=rs.aa.set (fQ (r.aa.map (·.1)) x) []}}:bj).d) S):Fn sh [w.d,s.d,.int h,(Rw.all x).d] S Q:=by
 have c:=(jC e).1
 rw[lQm] at c
 refine bT ?_
 unfold xw
 symm
 apply aw (d:=.str x) rfl ?_
 refine m8 t j g k m e ?_
 refine dG rfl (ax (aS (ax (aS (a8 ?_)))))
 generalize fQ (r.aa.map (·.1)) x=b at c q⊢
 symm
 apply⟨by decide,?_⟩
 have n:Op (settle S ({s with aj:=s.aj.set i {rs with aa:=rs.aa.set b []}}:bj).d S) λp=>Q p.1 p.2:=cq (aU _) (bj.low _) q
 exact jX (l:= []) a (by omega) (by omega) o n
end
section
variable{S:aC}{Q:Res->aC->Prop}
def J6:∀a:Rm,∃r,a.d=.tup (.str a.name::r):=λa=>⟨_,rfl⟩
def F8:∀a:Str×List Rw,∃r,hZ a=.tup (.str a.1::r):=λa=>⟨_,rfl⟩
def Fo{w:cI}{s:bj}{h:Nat}{g:Option Str}{a c:Str}{t:Tr}{v:Int}{vs:List Int}{fs:List bU}{r:Rm}{rs:cU}(m:Bt w s h t v)(l:s.af[h]?=some (vs,fs))(f:a∈w.aj.map (·.name))(k:w.aj[fQ (w.aj.map (·.name)) a]?=some r)(b:s.aj[fQ (w.aj.map (·.name)) a]?=some rs)(j:c∈r.ae.map (·.1))
  (A:w.aj.length<=100) (B:r.ae.length<=100) (C:s.aj.length<=100) (o:rs.row.length<=900) (z:fs.length<=900) (y:s.af.length<=100)
  (q:Q (.d ({s with af:=s.af.set h (vs,fs++ [⟨(fQ (w.aj.map (·.name)) a:Nat),(fQ (r.ae.map (·.1)) c:Nat),0,v,0⟩]),aj:=s.aj.set (fQ (w.aj.map (·.name)) a) (iC rs h)}:bj).d) S):Fn xa [w.d,s.d,.int h,(Rw.do_ g a c t).d] S Q:=by
 refine bT ?_
 unfold A8
 symm
 apply aw rfl ?_
 apply aw (d:=.str a) rfl ?_
 refine jk (enc:=Rm.d) (nm:=(·.name)) J6 (by omega) f ?_
 generalize fQ (w.aj.map (·.name)) a=i at k b q⊢
 symm
 apply aw rfl ?_
 refine aw (d:=r.d) (aR (by rw[gQm,k];rfl)) ?_
 symm
 apply aw rfl ?_
 apply aw (d:=.str c) rfl ?_
 refine jk (enc:=hZ) (nm:=(·.1)) F8 (by omega) j ?_
 generalize fQ (r.ae.map (·.1)) c=dd at q⊢
 symm
 apply aw (d:=t.d) rfl ?_
 apply m _ _ ?_
 refine⟨by show 5<=_;decide,?_⟩
 symm
 apply aw rfl ?_
 refine aw (d:=AI (vs,fs)) (aR (by rw[gQm,l];rfl)) ?_
 apply dG rfl (ax (aS (ax (aS (a8 ?_)))))
 refine⟨by show 1<=_;decide,?_⟩
 refine dU (by simp only[lQm,Qnq,QGq];exact nQl (aZ (by omega))) ?_
 symm
 have e:fs.map bU.d++ [D.tup [.int i,.int dd,.int 0,.int v,.int 0]]=(fs++ [(⟨i,dd,0,v,0⟩:bU)]).map bU.d:=by rw[Qzq];rfl
 rw[e]
 generalize n:fs++ [(⟨i,dd,0,v,0⟩:bU)]=nf at q⊢
 have u:h<s.af.length:=(gQs.mp l).1
 apply gS (vs:=vs) (fs:=nf) u (by omega) ?_
 have x:Op (settle S ({s with af:=s.af.set h (vs,nf),aj:=s.aj.set i (iC rs h)}:bj).d S) λp=>Q p.1 p.2:=cq (aU _) (bj.low _) q
 exact sZ (s:={s with af:=s.af.set h (vs,nf)}) b (by show s.aj.length<=900;omega) o x
end
section
variable{S:aC}{Q:Res->aC->Prop}
def uo(free:Bool)(rs:cU)(b:Nat)(h:Int):cU:=match rs.aa[b]? with
 |some (p::l)=>if free then{rs with aa:=rs.aa.set b l} else{rs with aa:=rs.aa.set b l,within:=p.2,ag:=rs.ag++ [h]}
 |_=>rs
def AM{w:cI}{s:bj}{h i:Nat}{vs:List Int}{fs:List bU}{f:bU}{r:Rm}{rs:cU}{x:Str}(J:s.af[h]?=some (vs,fs))(A:fs.getLast? =some f)(z:f.room=i)(v:w.aj[i]?=some r)(k:s.aj[i]?=some rs)(G:r.aa.length<=100)(K:r.aa.length=rs.aa.length)(H:s.aj.length<=100)(L:rs.ag.length<=900)(u:x∈r.aa.map (·.1))
  (q:Q (.d ({s with aj:=s.aj.set i (uo (decide (r.ah="when free")) rs (fQ (r.aa.map (·.1)) x) h)}:bj).d) S):Fn pj [w.d,s.d,.int h,(Rw.call x).d] S Q:=by
 have t:=(jC u).1
 rw[lQm] at t
 have o:i<s.aj.length:=(gQs.mp k).1
 refine bT ?_
 unfold ue
 symm
 apply aw (d:=.str x) rfl ?_
 refine m8 J A z v G u ?_
 refine dG rfl (ax (aS (ax (aS (a8 ?_)))))
 generalize fQ (r.aa.map (·.1)) x=b at t q⊢
 have y:b<rs.aa.length:=by omega
 obtain⟨m,a⟩:∃l,rs.aa[b]?=some l:=⟨_,gQe y⟩
 have g:Op (settle S ({s with aj:=s.aj.set i (uo (decide (r.ah="when free")) rs b h)}:bj).d S) λp=>Q p.1 p.2:=cq (aU _) (bj.low _) q
 unfold uo at g
 rw[a] at g
 symm
 apply aw rfl ?_
 refine aw (d:=rs.d) (aR (by rw[gQm,k];rfl)) ?_
 symm
 apply aw rfl ?_
 refine aw (d:=dQ m) (aR (by rw[gQm,a];rfl)) ?_
 symm
 refine xn ?_
 cases m with
 | nil=>
   apply aN (λ_=> ?_) (λc=>by cases c)
   have e:s.aj.set i rs=s.aj:=by
     apply List.ext_getElem?
     intro j
     rw[List.getElem?_set]
     split
     · rename_i c
       subst c
       rw[k]
       first|done|simp[o]
     · rfl
   have B:({s with aj:=s.aj.set i rs}:bj)=s:=by rw[e]
   have n:Op (settle S ({s with aj:=s.aj.set i rs}:bj).d S) λp=>Q p.1 p.2:=g
   rw[B] at n
   exact n
 | cons p l=>
   apply aN (λc=>by cases c) (λ_=>bW ?_)
   apply kj ?_
   apply cX ?_
   apply⟨_,rfl,cY ⟨_,rfl,?_⟩⟩
   have e:D.tup (jZ ((p::l).map pairD) (some 1) none)=dQ l:=by
     rw[show(some (1:Int))=some ((1:Nat):Int) from rfl,jr (by simp)]
     rfl
   rw[e]
   refine jX k y (by omega) H ?_
   dsimp only at g
   generalize F:rs.aa.set b l=nb at g⊢
   symm
   apply aw rfl ?_
   refine aw (d:=r.d) (aR (by rw[gQm,v];rfl)) ?_
   symm
   apply aw (d:=.str r.ah) rfl ?_
   refine iK ?_
   dsimp only
   by_cases c:r.ah="when free"
   · rw[Qeq c] at g⊢
     rw[Qhq rfl] at g
     rw[Qhq rfl]
     symm
     exact g
   · rw[Qdq c] at g⊢
     rw[Quq (by decide)] at g
     rw[Quq (by decide)]
     apply bW ?_
     refine aw rfl ?_
     have I:((s.aj.set i {rs with aa:=nb}).map cU.d)[i]?=some ({rs with aa:=nb}:cU).d:=by rw[gQm,Qyq o];rfl
     symm
     refine aw (d:=({rs with aa:=nb}:cU).d) (aR I) ?_
     apply dG rfl (ax (aS (ax (aS (ax (aS (ax (aS (ax (aS (a8 ?_)))))))))))
     apply aw (d:=pairD p) Dj ?_
     apply aw (d:=.int p.2) rfl ?_
     refine⟨by show 1<=_;decide,?_⟩
     refine dU (by simp only[lQm,Qnq,QGq];exact nQl (aZ (by omega))) ?_
     symm
     refine⟨by show 5<=_;decide,?_⟩
     symm
     have C:D.tup [cM rs.vals,.int p.2,cM rs.row,.tup (rs.ag.map D.int++ [.int h]),.tup (nb.map dQ)]=({rs with aa:=nb,within:=p.2,ag:=rs.ag++ [(h:Int)]}:cU).d:=by simp[cU.d,cM]
     rw[C]
     have n:Op (settle S ({s with aj:=(s.aj.set i {rs with aa:=nb}).set i {rs with aa:=nb,within:=p.2,ag:=rs.ag++ [(h:Int)]}}:bj).d S) λp=>Q p.1 p.2:=by rw[List.set_set];exact g
     exact dk (s:={s with aj:=s.aj.set i {rs with aa:=nb}}) (by simpa using o) (by simp;omega) n
end
end W28
namespace DL
open PySem PySem.Spec L2
def oQ{α:Type}{v:cv}{S:aC}{js:List (Option Nat)}{i:uR}{g:me}{t:jA}{o:bx}{Q:List D->aC->Prop}(P:cv->Prop)(enc G:α->D)(c:α->Bool)(J:P (pe js v)) (h:E i v S λp f=>∃xs:List α,p.1=xs.map enc/\p.2 f/\xs.length<=1000∧
   (∀x∈xs,∀a,P a->Tg g (enc x) a f λb S2=>S2=f/\P b/\E t b f λk w=>w=f/\k=c x/\(c x=true->E o b f λy B=>y=G x/\B=f))/\Q ((xs.filter c).map G) f):E (bO js i g t o) v S Q:=by
 refine lz (h.mono λp f F=> ?_)
 obtain⟨xs,z,C,hl,M,q⟩:=F
 refine⟨λn a r j=>r=f/\j=((xs.take n).filter c).map G/\P a,⟨rfl,rfl,J⟩,λn a r j h=>by rw[h.1];exact C,λn d a r j s h=> ?_,λa r j h=> ?_⟩
 ·obtain⟨rfl,rfl,h3⟩:=h
  have s:p.1[n]?=some d:=s
  rw[z,gQm] at s
  obtain⟨x,l,rfl⟩:=oQm.mp s
  obtain⟨b,S2,I,rfl,h4,h5⟩:=M x (mQg l) a h3
  refine⟨b,S2,I,?_⟩
  refine h5.mono λk w u=> ?_
  obtain⟨K,L,H⟩:=u
  subst K L
  have U:=(gQs.mp l).1
  have A:((xs.take (n+1)).filter c).map G=((xs.take n).filter c).map G++if c x=true then [G x] else []:=by
   rw[QYq,l]
   cases m:c x <;>simp[m]
  by_cases m:c x=true
  ·rw[Qhq m]
   refine(H m).mono λy B u=> ?_
   obtain⟨R,N⟩:=u
   subst R N
   refine⟨?_,rfl,?_,h4⟩
   ·rw[lQm]
    have:=List.length_filter_le c (xs.take n)
    rw[Qxq] at this
    exact aZ (by omega)
   ·rw[A,Qhq m]
  ·rw[Quq m]
   refine⟨rfl,?_,h4⟩
   rw[A,Quq m,List.append_nil]
 ·obtain⟨rfl,rfl,_⟩:=h
  have e:p.1.length=xs.length:=by rw[z,lQm]
  show Q (((xs.take p.1.length).filter c).map G) _
  rw[e,QEq]
  exact q
end DL
namespace W28
open PySem PySem.Spec L2 DL
section
variable{S:aC}{Q:Res->aC->Prop}
def nz(l:List (Int×Int))(t h:Int):List (Int×Int):=l.take (l.filter λp=>decide (p.1<=t)).length++ [(t,h)]++l.drop (l.filter λp=>decide (p.1<=t)).length
def Bn{w:cI}{s:bj}{h i:Nat}{vs:List Int}{fs:List bU}{f:bU}{r:Rm}{rs:cU}{x u:Str}{t:Tr}{v:Int}{g:List (Int×Int)}(Z:s.af[h]?=some (vs,fs))(N:fs.getLast? =some f)(M:f.room=i)(K:w.aj[i]?=some r)(m:s.aj[i]?=some rs)(U:r.aa.length<=100)(l2:r.aa.length=rs.aa.length)(W:s.aj.length<=100)(J:x∈r.aa.map (·.1))
  (B:r.aa[fQ (r.aa.map (·.1)) x]?=some (x,u)) (k:rs.aa[fQ (r.aa.map (·.1)) x]?=some g) (b4:g.length<=900) (C:Bt w s h t v)
  (q:Q (.d ({s with aj:=s.aj.set i (cy {rs with aa:=rs.aa.set (fQ (r.aa.map (·.1)) x) (nz g (if u="turns" then v else 0) h)})}:bj).d) S):Fn oF [w.d,s.d,.int h,(Rw.wait x t).d] S Q:=by
 have G:=(jC J).1
 rw[lQm] at G
 have Y:i<s.aj.length:=(gQs.mp m).1
 refine bT ?_
 unfold sQ
 symm
 apply aw (d:=.str x) rfl ?_
 refine m8 Z N M K U J ?_
 refine dG rfl (ax (aS (ax (aS (a8 ?_)))))
 generalize fQ (r.aa.map (·.1)) x=b at G q B k⊢
 have X:b<rs.aa.length:=by omega
 symm
 apply aw rfl ?_
 refine aw (d:=r.d) (aR (by rw[gQm,K];rfl)) ?_
 symm
 apply aw rfl ?_
 refine aw (d:=Eb (x,u)) (aR (by rw[gQm,B];rfl)) ?_
 symm
 apply aw (d:=.str u) rfl ?_
 refine iK ?_
 dsimp only
 have A:∀j:Int,j=(if u="turns" then v else 0)->T (aE (aX 7 (aV kf (aV kf (aV kf (aV kf (av 1) (cF (.int 0))) (av 4)) (cF (.int 4))) (av 5)))
   (aE (aX 8 (gD (gP (bO [none,none,some 6] (jW (aQ (av 7))) (iV (nG 2 (aI (bL 0) (aI (bL 1) dr)))) (aF (aV Ny (av 0) (av 2))) (av 0)))))
   (aE (aX 9 (ay eV (aq (av 1) (aq (av 4) (aq (av 5) (aq (aV bQ (aV bQ (uq (av 7) uI (sF (av 8))) (aP (aq (aP (aq (av 6) (aq (av 2) au))) au))) (uq (av 7) (sF (av 8)) uI)) au))))))
   (cp (ay qx (aq (av 9) (aq (av 4) au)))))))
   [some w.d,some s.d,some (.int h),some (Rw.wait x t).d,some (.int i),some (.int b),some (.int j),none,none,none] S (λo=>match o with
   |.nx _ y=>Op (settle S .non y) λp=>Q p.1 p.2|.rt d y=>Op (settle S d y) λp=>Q p.1 p.2|.rl l y=>Op (eB S l y) λp=>Q p.1 p.2|_=>False):=by
  intro j I
  rw[←I] at q
  symm
  apply aw rfl ?_
  refine aw (d:=rs.d) (aR (by rw[gQm,m];rfl)) ?_
  symm
  apply aw rfl ?_
  refine aw (d:=dQ g) (aR (by rw[gQm,k];rfl)) ?_
  symm
  apply oQ (α:=Int×Int) (λz=>∃a b,z= [a,b,some (.int j)]) pairD (λp=>.int p.1) (λp=>decide (p.1<=j)) ⟨none,none,rfl⟩ ?_
  refine bH (ds:=g.map pairD) ?_
  refine⟨g,rfl,trivial,by omega,λp G z H=> ?_,?_⟩
  ·obtain⟨a,b,rfl⟩:=H
   refine dG rfl (ax (aS (ax (aS (a8 ?_)))))
   apply⟨rfl,⟨_,_,rfl⟩,?_⟩
   apply⟨rfl,rfl,λ_=> ?_⟩
   exact⟨rfl,rfl⟩
  have P:((g.filter λp=>decide (p.1<=j)).map λp=>D.int p.1).length=(g.filter λp=>decide (p.1<=j)).length:=lQm ..
  have F:=List.length_filter_le (λp=>decide (p.1<=j)) g
  unfold nz at q
  symm
  rw[P]
  generalize (g.filter λp=>decide (p.1<=j)).length=n at q F⊢
  apply kj ?_
  apply cY (cX ?_)
  refine⟨_,rfl,g.map pairD,rfl,?_⟩
  rw[EV (by rw[lQm];exact F)]
  symm
  refine⟨by show 2<=_;decide,?_⟩
  symm
  refine⟨by show 1<=_;decide,?_⟩
  refine dU (by simp only[lQm,Qxq,Qnq,QGq];exact nQl (aZ (by omega))) ?_
  apply kj ?_
  apply cX ?_
  refine⟨_,rfl,cY ⟨g.map pairD,rfl,?_⟩⟩
  rw[jr (by rw[lQm];exact F)]
  refine dU (by simp only[lQa,lQm,Qxq,List.length_drop,Qnq,QGq];exact nQl (aZ (by omega))) ?_
  symm
  have e:D.tup ((g.map pairD).take n++ [D.tup [.int j,.int h]]++(g.map pairD).drop n)=dQ (g.take n++ [(j,(h:Int))]++g.drop n):=by
   simp only[dQ,Qzq,List.map_take,List.map_drop]
   rfl
  rw[e]
  generalize g.take n++ [(j,(h:Int))]++g.drop n=nl at q⊢
  apply jX m X (by omega) W ?_
  have L:Op (settle S ({s with aj:=s.aj.set i (cy {rs with aa:=rs.aa.set b nl})}:bj).d S) λp=>Q p.1 p.2:=cq (aU _) (bj.low _) q
  generalize R:({rs with aa:=rs.aa.set b nl}:cU)=nr at L⊢
  have q3:Op (settle S ({s with aj:=(s.aj.set i nr).set i (cy nr)}:bj).d S) λp=>Q p.1 p.2:=by rw[List.set_set];exact L
  exact zY (s:={s with aj:=s.aj.set i nr}) (Qyq Y) (by simp;omega) q3
 by_cases c:u="turns"
 ·rw[Qeq c,Qhq rfl]
  symm
  apply aw (d:=t.d) rfl ?_
  refine C _ _ ?_
  exact A v (by rw[Qhq c])
 ·rw[Qdq c,Quq (by decide)]
  refine bW ?_
  exact A 0 (by rw[Quq c])
end
end W28
namespace DL
open PySem PySem.Spec L2
section
variable{Γ:cv}{S:aC}
def MP{a:List (Str×Str)}{g:bx}{Q:D->aC->Prop}(h:E g Γ S λy b=>∃x nm,y=.str x/\a.lookup x=some nm/\Q (.fn nm) b):E (Mq a g) Γ S Q:=by
 obtain⟨y,b,c,x,nm,rfl,e2,q⟩:=h
 exact⟨_,b,by unfold Mq;rw[c];simp only[Qbq];rw[e2];rfl,q⟩
def Hx{i:Nat}{T:List (Str×dw)}{g:fN}{x:Str}{F:dw}{Q:D->aC->Prop}(d:Γ[i]?=some (some (.fn x)))(a:T.lookup x=some F)(h:E (ay F g) Γ S Q):E (sM i T g) Γ S Q:=by
 obtain⟨y,b,c,q⟩:=h
 exact⟨_,b,by unfold sM;rw[d];show(T.lookup x).bind _=_;rw[a];exact c,q⟩
def Iu{a:Bool}{x:D}{Q:D->Prop}(q:Q (.bl (if a then !isNone x else isNone x))):Op (A4 a S x .non) Q:=⟨_,rfl,q⟩
end
def wg{α:Type}{xs:List α}{a b:α}:jw (xs++ [a,b]) (-2)=some a:=by
 unfold jw Gs
 rw[Quq (by omega),Qhq (by simp;omega)]
 simp only[Qbq]
 rw[show((-2:Int)+((xs++ [a,b]).length:Int)).toNat=xs.length by simp;omega]
 simp
end DL
namespace W28
open PySem PySem.Spec L2 DL
section
variable{S:aC}{Q:Res->aC->Prop}
def NI:Rw->dw
 |.put _ _=>rS
 |.unl _ _=>kb
 |.go _=>xP
 |.do_ _ _ _ _=>xa
 |.wait _ _=>oF
 |.call _=>pj
 |.all _=>sh
 |.tell _=>oK
 |.take _=>pq
 |.give _=>nV
 |.pass _ _=>oA
 |.say _=>rX
def Rw.kind:Rw->Str
 |.put _ _=>"put"
 |.unl _ _=>"unless"
 |.go _=>"go"
 |.do_ _ _ _ _=>"do"
 |.wait _ _=>"wait"
 |.call _=>"call"
 |.all _=>"all"
 |.tell _=>"tell"
 |.take _=>"take"
 |.give _=>"give"
 |.pass _ _=>"pass"
 |.say _=>"say"
def Rw.d_kind(r:Rw):∃l,r.d=.tup (.str r.kind::l):=by cases r <;>exact⟨_,rfl⟩
def Ht(r:Rw):∃nm,lT.lookup r.kind=some nm/\tq.lookup nm=some (NI r):=by
 cases r
 ·exact⟨"by_put",rfl,rfl⟩
 ·exact⟨"by_unless",rfl,rfl⟩
 ·exact⟨"by_go",rfl,rfl⟩
 ·exact⟨"by_do",rfl,rfl⟩
 ·exact⟨"by_wait",rfl,rfl⟩
 ·exact⟨"by_call",rfl,rfl⟩
 ·exact⟨"by_all",rfl,rfl⟩
 ·exact⟨"by_tell",rfl,rfl⟩
 ·exact⟨"by_take",rfl,rfl⟩
 ·exact⟨"by_give",rfl,rfl⟩
 ·exact⟨"by_pass",rfl,rfl⟩
 ·exact⟨"by_say",rfl,rfl⟩
def Kc(w:cI)(s:bj)(h:Nat)(r:Rw)(a:bj):Prop:=∀(S:aC) (Q:Res->aC->Prop),Q (.d a.d) S->Fn (NI r) [w.d,s.d,.int h,r.d] S Q
def yR{w:cI}{s a:bj}{h:Nat}{r:Rw}(hd:Kc w s h r a)(q:Q (.d a.d) S):Fn jm [w.d,s.d,.int h,r.d] S Q:=by
 obtain⟨nm,b,c⟩:=Ht r
 obtain⟨l,hl⟩:=r.d_kind
 refine bT ?_
 unfold vD
 apply bA (ou (MP ?_))
 rw[hl]
 refine aw (d:=.str r.kind) Dj ?_
 rw[←hl]
 refine⟨_,nm,rfl,b,?_⟩
 apply vQ (Hx (x:=nm) rfl c ?_)
 refine hd _ _ ?_
 exact cq (aU _) (bj.low _) q
def qB{w:cI}{s m:bj}{h i:Nat}{vs:List Int}{e:List bU}{b f:bU}{rs:cU}{pr:List Rw}{g:Option Str}{r p:Str}{t:Tr}(u:s.af[h]?=some (vs,e++ [b,f]))(v:f.room=i)(l:s.aj[i]?=some rs)(B:s.aj.length<=900)(z:s.af.length<=900)
  (y:progOf w h b=some pr) (C:1<=b.row) (k:pr[(b.row-1).toNat]?=some (.do_ g r p t))
  (j:∀a:bj,a={s with aj:=s.aj.set i (cy rs),af:=s.af.set h (vs,e++ [b])}->match g with|none=>m=a|some x=>Puts w a h x f.told m)
  (q:Q (.d m.d) S):Fn jh [w.d,s.d,.int h] S Q:=by
 have A:h<s.af.length:=(gQs.mp u).1
 refine bT ?_
 unfold pH
 symm
 apply aw rfl ?_
 refine aw (d:=AI (vs,e++ [b,f])) (aR (by rw[gQm,u];rfl)) ?_
 refine dG rfl (ax (aS (ax (aS (a8 ?_)))))
 have n:(e++ [b,f]).map bU.d=e.map bU.d++ [b.d,f.d]:=by simp
 dsimp only
 rw[n]
 symm
 apply nW ?_
 refine⟨1,rfl,?_⟩
 refine aw (d:=f.d) (tY (by simp)) ?_
 refine dG rfl (ax (aS (ax (aS (ax (aS (ax (aS (ax (aS (a8 ?_)))))))))))
 rw[v]
 symm
 apply zY l B ?_
 apply kj ?_
 apply cY (cX (nW ?_))
 refine⟨1,rfl,_,rfl,_,rfl,?_⟩
 rw[zj (by simp)]
 have o:D.tup ((e.map bU.d++ [b.d,f.d]).dropLast)=.tup ((e++ [b]).map bU.d):=by
  rw[show e.map bU.d++ [b.d,f.d]=(e.map bU.d++ [b.d])++ [f.d] by simp,List.dropLast_concat]
  simp
 rw[o]
 symm
 refine gS (s:={s with aj:=s.aj.set i (cy rs)}) A z ?_
 have j:=j _ rfl
 dsimp only at j⊢
 generalize ({s with aj:=s.aj.set i (cy rs),af:=s.af.set h (vs,e++ [b])}:bj)=a at j⊢
 symm
 apply nW ?_
 refine⟨2,rfl,?_⟩
 apply aw (d:=b.d) wg ?_
 apply eJ y ?_
 apply nW ?_
 refine⟨2,rfl,?_⟩
 apply aw (d:=b.d) wg ?_
 apply aw (d:=.int b.row) rfl ?_
 refine aw (d:=(Rw.do_ g r p t).d) (lL (by omega) (by rw[gQm,k];rfl)) ?_
 symm
 apply aw (d:=GS g) rfl ?_
 refine Iu ?_
 cases g with
 | none=>
   dsimp only at j
   subst j
   apply aN (λ_=> ?_) (λc=>by cases c)
   exact cq (aU _) (bj.low _) q
 | some x=>
   apply aN (λc=>by cases c) (λ_=>bW ?_)
   apply aw (d:=.str x) rfl ?_
   refine j _ _ ?_
   exact cq (aU _) (bj.low _) q
end
section
variable{S:aC}{Q:Res->aC->Prop}
def MS(h:Nat):Option Int->D
 |none=>.non
 |some v=>.tup [.int h,.int v]
def HM(h:Nat)(e:Option Int):bK 0 (MS h e)=true:=by cases e <;>rfl
def Kt(s:bj)(h:Nat)(e:Option Int):D:=.tup [s.d,MS h e]
def si(s:bj)(h:Nat)(e:Option Int):bK 0 (Kt s h e)=true:=by
 simp only[Kt,bK,bD,HM,bj.low,Bool.and_true]
def wx(w:cI)(s:bj)(h:Nat)(a:bj)(e:Option Int):Prop:=∀(S:aC) (Q:Res->aC->Prop),Q (.d (Kt a h e)) S->Fn oX [w.d,s.d,.int h] S Q
def CS{w:cI}{s:bj}{h i:Nat}{vs:List Int}{fs:List bU}{f:bU}{rs:cU}(b:s.af[h]?=some (vs,fs))(g:fs.getLast? =some f)(c:f.room=i)(a:s.aj[i]?=some rs)(l:rs.within≠h)(j:s.aj.length<=900)(e:rs.row.length<=900):
  wx w s h {s with aj:=s.aj.set i (iC rs h)} none:=by
 intro S Q q
 refine bT ?_
 unfold kJ
 symm
 apply bJ b g ?_
 apply aw (d:=.int f.room) rfl ?_
 refine nT ?_
 dsimp only
 rw[Qdq (show¬f.room= -1 by omega),c]
 show if (true=true) then _ else _
 rw[Qhq rfl]
 symm
 apply aw rfl ?_
 refine aw (d:=rs.d) (aR (by rw[gQm,a];rfl)) ?_
 symm
 apply aw (d:=.int rs.within) rfl ?_
 refine nT ?_
 dsimp only
 rw[Qdq l]
 show if (true=true) then _ else _
 rw[Qhq rfl]
 symm
 apply sZ a j e ?_
 refine⟨by show 2<=_;decide,?_⟩
 exact cq (d:=Kt _ h none) (λk z=>(nomatch z)) (si _ _ _) q
def Here(s:bj)(h:Nat)(f:bU):Prop:=f.room= -1\/∃(i:Nat) (a:cU),f.room=i/\s.aj[i]?=some a/\a.within=h
def vU{w:cI}{s:bj}{h:Nat}{f:bU}{a b c d:Option D}{Q:Bool->aC->Prop}(k:Here s h f)(q:Q false S):E (gq (aF (aV (eI true) (av 4) (cF (.int (-1))))) (aF (aV (eI true) (aV kf (aV kf (aV kf (av 1) (cF (.int 0))) (av 4)) (cF (.int 1))) (av 2)))) [some w.d,some s.d,some (.int h),some f.d,some (.int f.room),a,b,c] S Q:=by
 rcases k with g|⟨i,j,g,e,l⟩
 ·symm
  refine nT ?_
  dsimp only
  rw[Qeq g]
  show if (false=true) then _ else _
  rw[Quq (by decide)]
  exact q
 ·symm
  refine nT ?_
  dsimp only
  rw[Qdq (show¬f.room= -1 by omega),g]
  show if (true=true) then _ else _
  rw[Qhq rfl]
  symm
  apply aw rfl ?_
  refine aw (d:=j.d) (aR (by rw[gQm,e];rfl)) ?_
  symm
  apply aw (d:=.int j.within) rfl ?_
  refine nT ?_
  dsimp only
  rw[Qeq l]
  exact q
def yD{w:cI}{s b:bj}{h:Nat}{vs:List Int}{fs:List bU}{f:bU}{pr:List Rw}(e:s.af[h]?=some (vs,fs))(j:fs.getLast? =some f)(i:Here s h f)(g:progOf w h f=some pr)(a:f.row=pr.length)
  (he:∀(S:aC) (Q:Res->aC->Prop),Q (.d b.d) S->Fn jh [w.d,s.d,.int h] S Q):wx w s h b none:=by
 intro S Q q
 refine bT ?_
 unfold kJ
 symm
 apply bJ e j ?_
 refine aw (d:=.int f.room) rfl ?_
 refine bA (dX (vU (d:=none) i ?_))
 apply aN (λc=>by cases c) (λ_=>bW ?_)
 apply eJ g ?_
 apply aw (d:=.int f.row) rfl ?_
 refine df ?_
 dsimp only
 rw[lQm,Qeq a,Qhq rfl]
 symm
 apply he _ _ ?_
 refine⟨by show 2<=_;decide,?_⟩
 exact cq (d:=Kt _ h none) (λk z=>(nomatch z)) (si _ _ _) q
def Ka(w:cI)(s:bj)(h:Nat)(r:Rw)(e:Option Int):Prop:=match r with
 |.say t=>∃v,e=some v/\Bt w s h t v
 |_=>e=none
def El{w:cI}{s n:bj}{h:Nat}{vs:List Int}{fs:List bU}{f:bU}{pr:List Rw}{r:Rw}{e:Option Int}(j:s.af[h]?=some (vs,fs))(m:fs.getLast? =some f)(y:Here s h f)(x:progOf w h f=some pr)(A:0<=f.row)(b:pr[f.row.toNat]?=some r)(B:fs.length<=900)(C:s.af.length<=900)
  (a:Ka w s h r e) (hd:Kc w {s with af:=s.af.set h (vs,fs.dropLast++ [{f with row:=f.row+1}])} h r n):wx w s h n e:=by
 intro S Q q
 have u:=(gQs.mp b).1
 refine bT ?_
 unfold kJ
 symm
 apply bJ j m ?_
 refine aw (d:=.int f.room) rfl ?_
 refine bA (dX (vU (d:=none) y ?_))
 apply aN (λc=>by cases c) (λ_=>bW ?_)
 apply eJ x ?_
 apply aw (d:=.int f.row) rfl ?_
 refine df ?_
 dsimp only
 rw[lQm,Qdq (show¬f.row=(pr.length:Int) by omega),Quq (by decide)]
 apply bW ?_
 refine aw (d:=.int f.row) rfl ?_
 refine aw (d:=r.d) (lL A (by rw[gQm,b];rfl)) ?_
 symm
 obtain⟨l,hl⟩:=r.d_kind
 have i:T (cp (aP (aq (ay jm (aq (av 0) (aq (ay jB (aq (av 1) (aq (av 2) (aq (aV bQ (aV kf (av 3) (cF (.int 2))) (cF (.int 1))) au)))) (aq (av 2) (aq (av 6) au))))) (aq (av 7) au))))
   [some w.d,some s.d,some (.int h),some f.d,some (.int f.room),some (.tup (pr.map Rw.d)),some r.d,some (MS h e)] S (λo=>match o with
   |.nx _ g=>Op (settle S .non g) λp=>Q p.1 p.2|.rt d g=>Op (settle S d g) λp=>Q p.1 p.2|.rl l g=>Op (eB S l g) λp=>Q p.1 p.2|_=>False):=by
  symm
  apply aw (d:=.int f.row) rfl ?_
  apply qw j m B C ?_
  apply yR hd ?_
  refine⟨by show 2<=_;decide,?_⟩
  exact cq (d:=Kt _ h e) (λk z=>(nomatch z)) (si _ _ _) q
 cases r with
 | say t=>
   obtain⟨v,rfl,hv⟩:=a
   apply aw (d:=.str "say") rfl ?_
   refine iK ?_
   dsimp only
   rw[Qeq rfl,Qhq rfl]
   symm
   apply aw (d:=t.d) rfl ?_
   apply hv _ _ ?_
   refine⟨by show 2<=_;decide,?_⟩
   exact i
 | _=>
   have a:e=none:=a
   subst a
   apply aw rfl ?_
   refine iK ?_
   dsimp only
   refine aN (λc=>absurd (QZq c) (by decide +kernel)) (λ_=>bW ?_)
   exact i
end
end W28
namespace DL
open PySem PySem.Spec L2
section
variable{Γ:cv}{S:aC}
def FY{f:bx}{g:dz}{Q:D->aC->Prop}(h:E f Γ S λx b=>∃k a,x=.ref k/\b[k]?=some (.lst a)/\E g Γ b λp S2=>∃ds,S2[k]?=some (.lst ds)/\(p.2.isL=false/\ds.length+p.1.length<=sizeLine)/\Q .non (S2.set k (.lst (ds++p.1)))):E (vV f g) Γ S Q:=by
 obtain⟨x,b,c,k,a,rfl,h1,p,S2,e2,ds,h2,h3,q⟩:=h
 exact⟨_,_,by unfold vV;rw[c];simp only[Qbq,e2,h1,h2];rw[Qhq h3],q⟩
end
def AW{S a:aC}{k:Nat}{ds:List D}{Q:Res×aC->Prop}(c:oS S a)(d:S.length<=k)(b:a[k]?=some (.lst ds))(hl:bD S.length ds=true)(q:Q (.l ds,a.take S.length)):Op (settle S (.ref k) a) Q:=by
 refine⟨_,?_,q⟩
 unfold settle
 rw[Qhq c]
 show(if k<S.length then _ else _)=_
 rw[Quq (by omega),b]
 show(if bD S.length ds=true then _ else _)=_
 rw[Qhq hl]
def yc{n:Nat}(h:n<=100000):n<=sizeLine:=QAq h (by decide)
theorem dH:∀ss:List Int,gB (ss.map D.int)=some (ss.map V.int)
 | []=>rfl
 |s::ss=>by simp only[QDq,gB,uM,Qbq];rw[dH ss];rfl
def jO{x:Int}{ss:List Int}:FH (.int x) (ss.map V.int)=decide (x∈ss):=by
 induction ss with
 |nil=>rfl
 | cons a ss d=>
   show(jz (.int a) (.int x)||FH (.int x) (ss.map V.int))=_
   rw[d]
   simp only[jz,Qsq]
   by_cases c:a=x
   · subst c;simp
   · have b:¬x=a:=λz=>c z.symm
     simp[c,b]
end DL
namespace W28
open PySem PySem.Spec L2 DL
section
variable{S:aC}{Q:Res->aC->Prop}
def yS{S b:aC}(x:uN S b):b.take S.length=S:=by
 apply List.ext_getElem?
 intro j
 by_cases a:j<S.length
 ·rw[List.getElem?_take_of_lt a]
  exact x.eq j a
 ·rw[List.getElem?_eq_none (by rw[Qxq];omega),List.getElem?_eq_none (by omega)]
def Kl{S a:aC}{ds:List D}{Q:Res->aC->Prop}(x:uN S a)(hl:bD 0 ds=true)(q:Q (.l ds) S):Op (eB S ds a) λp=>Q p.1 p.2:=
 m9 ⟨x.len,λk o b e=>.inl (by rw[←x.eq k b];exact e)⟩ (yS x) (jv hl) q
def Jc{S b:aC}{k:Nat}{ds:List D}{Q:Res->aC->Prop}(x:uN S b)(a:S.length<=k)(c:b[k]?=some (.lst ds))(hl:bD 0 ds=true)(q:Q (.l ds) S):Op (settle S (.ref k) b) λp=>Q p.1 p.2:=
 AW ⟨x.len,λk o a e=>.inl (by rw[←x.eq k a];exact e)⟩ a c (jv hl) (by rw[yS x];exact q)
def rg{l:List (Int×Int)}(hl:l.length<=1000)(q:Q (.l ((l.map (·.2)).map D.int)) S):Fn i7 [dQ l] S Q:=by
 refine bT ?_
 unfold qh
 symm
 apply kA (α:=Int×Int) (λc=>∃a b,c= [a,b]) pairD (λp=>.int p.2) ⟨none,none,rfl⟩ ?_
 refine bH (ds:=l.map pairD) ?_
 refine⟨l,rfl,trivial,hl,λp f c d=> ?_,?_⟩
 ·obtain⟨a,b,rfl⟩:=d
  refine dG rfl (ax (aS (ax (aS (a8 ?_)))))
  apply⟨rfl,⟨_,_,rfl⟩,?_⟩
  exact⟨rfl,rfl⟩
 ·have e:l.map (λp=>D.int p.2)=(l.map (·.2)).map D.int:=by rw[QPq];rfl
  rw[e]
  exact Ej (aY λ_ _=>rfl) q
def aO(r:cU):List Int:=r.row++r.ag++r.aa.flatMap λl=>l.map (·.2)
def held(s:bj):List Int:=s.ai.flatMap (·.2)++s.aj.flatMap aO
theorem nO{α d:Type}{f:α->List d}{n:Nat}:∀{l:List α},(∀a∈l,(f a).length<=n)->(l.flatMap f).length<=n*l.length
 | [],_=>by simp
 | a::l,h=>by
   have g:=h a (QBq ..)
   have e:=nO (f:=f) (l:=l) λb c=>h b (Qpq _ c)
   rw[QSq,lQa,Qnq,Nat.mul_add]
   omega
def g7{α b:Type}{f:α->List b}{l:List α}{n:Nat}{a:α}(h:l[n]?=some a):(l.take (n+1)).flatMap f=(l.take n).flatMap f++f a:=by
 rw[QYq,h]
 simp
def qu{s:bj}{n:Nat}(R:n<=100)(b1:s.ai.length<=100)(b2:s.aj.length<=20)(L:∀p∈s.ai,p.2.length<=n)(H:∀r∈s.aj,r.row.length<=n/\r.ag.length<=n/\r.aa.length<=10/\∀l∈r.aa,l.length<=n)
  (q:Q (.l ((held s).map D.int)) S):Fn eg [s.d] S Q:=by
 have Z:∀o:List D,uN S (S++ [.lst o]):=λo=>uN.refl.app
 have B:∀r∈s.aj,∀j:Nat,((r.aa.take j).flatMap λl=>l.map (·.2)).length<=1000:=λr B j=>by
  obtain⟨_,_,P,N⟩:=H r B
  have F:=nO (f:=λl:List (Int×Int)=>l.map (·.2)) (n:=n) (l:=r.aa.take j) λl hl=>by rw[lQm];exact N l (List.mem_of_mem_take hl)
  have C:(r.aa.take j).length<=10:=by rw[Qxq];omega
  have X:n*(r.aa.take j).length<=100*10:=Nat.mul_le_mul R C
  omega
 have K:∀r∈s.aj,(aO r).length<=1200:=λr h=>by
  have I:=B r h r.aa.length
  obtain⟨Y,P,_⟩:=H r h
  rw[QEq] at I
  simp only[aO,lQa]
  omega
 have z:∀j:Nat,((s.ai.take j).flatMap (·.2)).length<=10000:=λj=>by
  have F:=nO (f:=λp:Int×List Int=>p.2) (n:=n) (l:=s.ai.take j) λl hl=>L l (List.mem_of_mem_take hl)
  have C:(s.ai.take j).length<=100:=by rw[Qxq];omega
  have X:n*(s.ai.take j).length<=100*100:=Nat.mul_le_mul R C
  omega
 have J:∀j:Nat,((s.aj.take j).flatMap aO).length<=24000:=λj=>by
  have F:=nO (f:=aO) (n:=1200) (l:=s.aj.take j) λl hl=>K l (List.mem_of_mem_take hl)
  have C:(s.aj.take j).length<=20:=by rw[Qxq];omega
  omega
 refine bT ?_
 unfold h_
 symm
 refine⟨by decide,?_⟩
 apply bA (fe (uY ?_))
 refine aw rfl ?_
 refine bH (ds:=s.ai.map Ar) ?_
 refine⟨λj k u=>(∃a b c d e f g,k= [some s.d,some (.ref S.length),a,b,c,d,e,f,g])/\u=S++ [.lst (((s.ai.take j).flatMap (·.2)).map D.int)],⟨⟨_,_,_,_,_,_,_,rfl⟩,rfl⟩,λ_ _ _ _=>trivial,?_,?_⟩
 ·rintro j d k u t ⟨⟨a,b,c,G,e,f,g,rfl⟩,rfl⟩
  have t:(s.ai.map Ar)[j]?=some d:=t
  rw[gQm] at t
  obtain⟨p,M,rfl⟩:=oQm.mp t
  refine dG rfl (ax (aS (ax (aS (a8 ?_)))))
  apply fX (FY ?_)
  apply⟨_,_,rfl,aJ,?_⟩
  refine bH (ds:=p.2.map D.int) ?_
  refine⟨_,aJ,⟨rfl,?_⟩,⟨_,_,_,_,_,_,_,rfl⟩,?_⟩
  ·have:=z j
   have:=L p (mQg M)
   simp only[lQm]
   exact yc (by omega)
  ·rw[g7 M,Qzq]
   simp
 rintro k u ⟨⟨a,b,c,G,e,f,g,rfl⟩,rfl⟩
 have hl:(s.ai.map Ar).length=s.ai.length:=lQm ..
 rw[hl,QEq]
 apply bA (fe (uY ?_))
 refine aw rfl ?_
 refine bH (ds:=s.aj.map cU.d) ?_
 refine⟨λj k u=>(∃a b c d e f g,k= [some s.d,some (.ref S.length),a,b,c,d,e,f,g])/\u=S++ [.lst ((s.ai.flatMap (·.2)++(s.aj.take j).flatMap aO).map D.int)],⟨⟨_,_,_,_,_,_,_,rfl⟩,by simp⟩,λ_ _ _ _=>trivial,?_,?_⟩
 ·rintro j d k u t ⟨⟨a,b,c,G,e,f,g,rfl⟩,rfl⟩
  have t:(s.aj.map cU.d)[j]?=some d:=t
  rw[gQm] at t
  obtain⟨r,y,rfl⟩:=oQm.mp t
  have v:=mQg y
  obtain⟨Y,P,N,F⟩:=H r v
  have A:(s.ai.flatMap (·.2)++(s.aj.take j).flatMap aO).length<=34000:=by
   have:=z s.ai.length
   rw[QEq] at this
   have:=J j
   rw[lQa]
   omega
  generalize x:s.ai.flatMap (·.2)++(s.aj.take j).flatMap aO=o at A⊢
  refine dG rfl (ax (aS (ax (aS (ax (aS (ax (aS (ax (aS (a8 ?_)))))))))))
  apply bA (fX (FY ?_))
  apply⟨_,_,rfl,aJ,?_⟩
  refine dU (i:=r.row.map D.int) (j:=r.ag.map D.int) (by simp only[lQm];exact yc (by omega)) ?_
  refine bH ?_
  refine⟨_,aJ,⟨rfl,?_⟩,?_⟩
  ·simp only[lQa,lQm]
   exact yc (by omega)
  dsimp only
  have W:(S++ [O.lst (o.map D.int)]).set S.length (.lst (o.map D.int++(r.row.map D.int++r.ag.map D.int)))=S++ [.lst ((o++(r.row++r.ag)).map D.int)]:=by simp
  rw[W]
  apply fe (uY ?_)
  refine⟨λj k u=>(∃a b c d e f g,k= [some s.d,some (.ref S.length),a,b,c,d,e,f,g])/\u=S++ [.lst ((o++(r.row++r.ag)++(r.aa.take j).flatMap λl=>l.map (·.2)).map D.int)],⟨⟨_,_,_,_,_,_,_,rfl⟩,by simp⟩,λ_ _ _ _=>trivial,?_,?_⟩
  ·rintro m d k u t ⟨⟨a,b,c,G,e,f,g,rfl⟩,rfl⟩
   have t:(r.aa.map dQ)[m]?=some d:=t
   rw[gQm] at t
   obtain⟨l,w,rfl⟩:=oQm.mp t
   have U:=F l (mQg w)
   refine aS ?_
   apply fX (B4 ?_)
   apply⟨_,_,rfl,aJ,?_⟩
   apply rg (by omega) ?_
   refine⟨_,aJ,⟨rfl,?_⟩,⟨_,_,_,_,_,_,_,rfl⟩,?_⟩
   ·have:=B r v m
    simp only[lQa,lQm]
    exact yc (by omega)
   ·rw[g7 w,←Qvq,Qzq]
    simp
  ·rintro k u ⟨I,rfl⟩
   refine⟨I,?_⟩
   have hl:(r.aa.map dQ).length=r.aa.length:=lQm ..
   rw[hl,QEq,g7 y]
   subst x
   simp only[aO,Qvq]
 ·rintro k u ⟨⟨a,b,c,G,e,f,g,rfl⟩,rfl⟩
  have hl:(s.aj.map cU.d).length=s.aj.length:=lQm ..
  rw[hl,QEq]
  symm
  exact Jc (Z _) (Qmq _) aJ (aY λ_ _=>rfl) q
end
section
variable{S:aC}{Q:Res->aC->Prop}
def vT(s:bj)(h:Nat):Option bU:=(s.af[h]?).bind λp=>p.2.getLast?
def p0(w:cI)(s:bj)(h:Nat):Bool:=match vT s h with
 |some f=>decide (f.room= -1)&&decide (f.row=(((progOf w h f).getD []).length:Int))
 |none=>false
def qj{w:cI}{s:bj}{h:Nat}{vs:List Int}{fs:List bU}{f:bU}{pr:List Rw}(b:s.af[h]?=some (vs,fs))(e:fs.getLast? =some f)(a:progOf w h f=some pr)(q:Q (.d (.bl (p0 w s h))) S):Fn fI [w.d,s.d,.int h] S Q:=by
 have g:p0 w s h=(decide (f.room= -1)&&decide (f.row=(pr.length:Int))):=by
  unfold p0 vT
  rw[b]
  show(match fs.getLast? with|some f=>_|none=>_)=_
  rw[e]
  simp only[a,Option.getD_some]
 rw[g] at q
 refine bT ?_
 unfold hX
 symm
 apply bJ b e ?_
 apply Ft ?_
 apply aw (d:=.int f.room) rfl ?_
 refine df ?_
 refine⟨_,rfl,?_⟩
 by_cases c:f.room= -1
 ·rw[Qeq c] at q⊢
  rw[Qhq rfl]
  symm
  apply aw (d:=.int f.row) rfl ?_
  apply eJ a ?_
  refine df ?_
  rw[lQm]
  exact cq (λk z=>(nomatch z)) rfl q
 ·rw[Qdq c] at q⊢
  rw[Quq (by decide)]
  exact cq (λk z=>(nomatch z)) rfl q
def i0(w:cI)(s:bj):List Nat:=(List.range s.af.length).filter λh=> !decide ((h:Int)∈held s)&& !p0 w s h
def iu(h:Nat):D:=.int h
def J2(w:cI)(s:bj):Prop:=∀(S:aC) (Q:Res->aC->Prop),Q (.l ((i0 w s).map iu)) S->Fn fV [w.d,s.d] S Q
def y3{w:cI}{s:bj}(m:∀(S:aC) (Q:Res->aC->Prop),Q (.l ((held s).map D.int)) S->Fn eg [s.d] S Q)(g:∀h<s.af.length,∃vs fs f pr,s.af[h]?=some (vs,fs)/\fs.getLast? =some f/\progOf w h f=some pr)(p:s.af.length<=100):J2 w s:=by
 intro S Q q
 refine bT ?_
 unfold pO
 symm
 apply m _ _ ?_
 apply oQ (α:=Nat) (λb=>∃a,b= [a,some w.d,some s.d,some (.ref S.length)]) (λ(i:Nat)=>D.int (0+(i:Int))) iu (λh=> !decide ((h:Int)∈held s)&& !p0 w s h) ⟨none,rfl⟩ ?_
 apply aw rfl ?_
 refine⟨_,rfl,?_,?_⟩
 ·simp only[lQm]
  omega
 refine⟨List.range s.af.length,?_,trivial,by simp;omega,λh k b e=> ?_,?_⟩
 ·simp only[gH,lQm]
  rfl
 ·obtain⟨a,rfl⟩:=e
  obtain⟨vs,fs,f,pr,j,n,o⟩:=g h (List.mem_range.mp k)
  refine aS ⟨rfl,⟨_,rfl⟩,?_⟩
  rw[Int.zero_add]
  apply jU (bV (zC ?_))
  refine a_ (ds:=(held s).map D.int) aJ ?_
  refine⟨_,_,rfl,dH _,?_⟩
  rw[jO]
  by_cases c:(h:Int)∈held s
  ·rw[Qeq c]
   refine aN (λc=>by cases c) (λ_=> ?_)
   exact⟨rfl,rfl,λc=>by cases c⟩
  ·rw[Qdq c]
   apply aN (λ_=> ?_) (λc=>by cases c)
   refine qj j n o ?_
   dsimp only
   refine Bq ?_
   apply⟨rfl,rfl,λ_=> ?_⟩
   exact⟨rfl,rfl⟩
 ·refine Kl (uN.refl.app) (aY λ_ _=>rfl) q
def Bm{w:cI}{s b:bj}{h:Nat}{e:Option Int}(f:J2 w s)(g:h∈i0 w s)(a:wx w s h b e)(q:Q (.d (Kt b h e)) S):Fn oM [w.d,s.d,.int h] S Q:=by
 refine bT ?_
 unfold ur
 apply bA (dX (bV (zC ?_)))
 refine f _ _ ?_
 dsimp only
 have i:(i0 w s).map iu=((i0 w s).map λh:Nat=>(h:Int)).map D.int:=by rw[QPq];rfl
 refine⟨_,_,rfl,by rw[i];exact dH _,?_⟩
 rw[jO,Qeq (Qkq.mpr ⟨h,g,rfl⟩)]
 apply aN (λc=>by cases c) (λ_=>bW ?_)
 refine a _ _ ?_
 exact cq (λk z=>(nomatch z)) (si _ _ _) q
end
structure iW(n:Nat)(r:Rm)(rs:cU):Prop where
 lv:r.ao.length=rs.vals.length
 lb:r.aa.length=rs.aa.length
 vv:∀v∈rs.vals,0<=v/\v<=9
 br:rs.row.length<=n
 bl:rs.ag.length<=n
 bb:∀l∈rs.aa,l.length<=n
structure FU(w:cI)(h:Nat)(f:bU):Prop where
 pr:∃pr,progOf w h f=some pr/\0<=f.row/\f.row<=pr.length
 gv:0<=f.given/\f.given<=9
 tv:0<=f.told/\f.told<=9
def Nn(w:cI)(h:Nat)(f:bU):Prop:=∃a g c b t,progOf w h f=some a/\1<=f.row/\a[(f.row-1).toNat]?=some (.do_ g c b t)
def iL:List bU->Prop
 | []=>False
 |f0::tl=>f0.room= -1/\∀f∈tl,f.room≠-1
structure jq(w:cI)(n h:Nat)(ts:List (Str×Nat))(vs:List Int)(fs:List bU):Prop where
 lv:ts.length=vs.length
 vv:∀v∈vs,0<=v/\v<=9
 lf:fs.length<=n
 fr:∀f∈fs,FU w h f
 hd:iL fs
 ch:∀f∈fs.dropLast,Nn w h f
structure cg(w:cI)(n:Nat)(s:bj):Prop where
 lr:w.aj.length=s.aj.length
 rm:∀(i:Nat) (r:Rm) (rs:cU),w.aj[i]?=some r->s.aj[i]?=some rs->iW n r rs
 lp:w.ai.length=s.ai.length
 ps:∀p∈s.ai,p.2.length<=n
 ls:w.ak.length=s.ak.length
 sv:∀v∈s.ak,0<=v/\v<=9
 lh:w.af.length=s.af.length
 hd:∀(h:Nat) (ts:List (Str×Nat)) (pr:List Rw) (vs:List Int) (fs:List bU),w.af[h]?=some (ts,pr)->s.af[h]?=some (vs,fs)->jq w n h ts vs fs
def iW.mono{n m:Nat}{r:Rm}{rs:cU}(h:iW n r rs)(l:n<=m):iW m r rs:=⟨h.lv,h.lb,h.vv,QAq h.br l,QAq h.bl l,λx a=>QAq (h.bb x a) l⟩
def jq.mono{w:cI}{n m h:Nat}{ts:List (Str×Nat)}{vs:List Int}{fs:List bU}(x:jq w n h ts vs fs)(l:n<=m):jq w m h ts vs fs:=⟨x.lv,x.vv,QAq x.lf l,x.fr,x.hd,x.ch⟩
def cg.mono{w:cI}{n m:Nat}{s:bj}(x:cg w n s)(l:n<=m):cg w m s:=⟨x.lr,λi r d b a=>(x.rm i r d b a).mono l,x.lp,λp g=>QAq (x.ps p g) l,x.ls,x.sv,x.lh,λh c j e f b a=>(x.hd h c j e f b a).mono l⟩
def get_set{α:Type}{l:List α}{i j:Nat}{a b:α}(h:(l.set i a)[j]?=some b):(j=i/\b=a)\/(j≠i/\l[j]?=some b):=by
 rw[List.getElem?_set] at h
 split at h
 ·rename_i c
  split at h
  ·cases h;exact .inl ⟨c.symm,rfl⟩
  ·cases h
 ·rename_i c
  exact .inr ⟨λz=>c z.symm,h⟩
def cg.room{w:cI}{n i:Nat}{s:bj}{r:Rm}{nr:cU}(x:cg w n s)(e:w.aj[i]?=some r)(d:iW n r nr):cg w n {s with aj:=s.aj.set i nr} where
 lr:=by simpa using x.lr
 rm:=λj f b c a=>by
  rcases get_set a with⟨rfl,rfl⟩|⟨_,a⟩
  ·rw[e] at c;cases c;exact d
  ·exact x.rm j f b c a
 lp:=x.lp
 ps:=x.ps
 ls:=x.ls
 sv:=x.sv
 lh:=x.lh
 hd:=x.hd
def cg.pass{w:cI}{n i:Nat}{s:bj}{p:Int×List Int}(x:cg w n s)(b:p.2.length<=n):cg w n {s with ai:=s.ai.set i p} where
 lr:=x.lr
 rm:=x.rm
 lp:=by simpa using x.lp
 ps:=λq a=>by
  rcases QTq a with a|rfl
  ·exact x.ps q a
  ·exact b
 ls:=x.ls
 sv:=x.sv
 lh:=x.lh
 hd:=x.hd
def cg.share{w:cI}{n:Nat}{s:bj}{vs:List Int}(x:cg w n s)(hl:vs.length=s.ak.length)(a:∀v∈vs,0<=v/\v<=9):cg w n {s with ak:=vs}:=⟨x.lr,x.rm,x.lp,x.ps,by rw[x.ls,←hl],a,x.lh,x.hd⟩
def cg.hand{w:cI}{n h:Nat}{s:bj}{ts:List (Str×Nat)}{pr:List Rw}{vs:List Int}{fs:List bU}(x:cg w n s)(k:w.af[h]?=some (ts,pr))(i:jq w n h ts vs fs):cg w n {s with af:=s.af.set h (vs,fs)} where
 lr:=x.lr
 rm:=x.rm
 lp:=x.lp
 ps:=x.ps
 ls:=x.ls
 sv:=x.sv
 lh:=by simpa using x.lh
 hd:=λj a g c f b d=>by
  rcases get_set d with⟨rfl,e⟩|⟨_,d⟩
  ·rw[k] at b;cases b;cases e;exact i
  ·exact x.hd j a g c f b d
def iq{α:Type}{l:List α}{a:α}(h:l.getLast? =some a):l=l.dropLast++ [a]:=by
 cases l with
 |nil=>cases h
 | cons x y=>
   have b:x::y≠[]:=by simp
   rw[List.getLast?_eq_some_getLast b] at h
   cases h
   exact(List.dropLast_concat_getLast b).symm
def iL.last{fs:List bU}{f f':bU}:∀{b:List bU},iL (b++ [f])->f'.room=f.room->iL (b++ [f'])
 | [],h,e=>⟨by rw[e];exact h.1,λ_ z=>by cases z⟩
 | a::l,h,e=>⟨h.1,λx c=>by
   rcases mQa.mp c with c|c
   · exact h.2 x (mQa.mpr (.inl c))
   · rw[Qfq.mp c,e];exact h.2 f (mQa.mpr (.inr (Qfq.mpr rfl)))⟩
def iL.push{f':bU}:∀{fs:List bU},iL fs->f'.room≠-1->iL (fs++ [f'])
 | [],h,_=>h.elim
 | a::l,h,e=>⟨h.1,λx b=>by
   rcases mQa.mp b with b|b
   · exact h.2 x b
   · rw[Qfq.mp b];exact e⟩
def iL.pop{d f:bU}:∀{c:List bU},iL (c++ [d,f])->iL (c++ [d])
 | [],h=>⟨h.1,λ_ z=>by cases z⟩
 | a::l,h=>⟨h.1,λx b=>h.2 x (by
   rcases mQa.mp b with b|b
   · exact mQa.mpr (.inl b)
   · exact mQa.mpr (.inr (by rw[Qfq.mp b];simp)))⟩
def iL.two{f:bU}:∀{b:List bU},iL (b++ [f])->f.room≠-1->∃c d,b=c++ [d]
 | [],h,e=>absurd h.1 e
 |a::l,h,e=>⟨(a::l).dropLast,(a::l).getLast (by simp),(List.dropLast_concat_getLast (by simp)).symm⟩
section
variable{w:cI}{n h:Nat}{ts:List (Str×Nat)}{vs:List Int}{fs:List bU}{f f' f2:bU}
def jq.setLast(x:jq w n h ts vs fs)(d:fs.getLast? =some f)(e:f'.room=f.room)(i:FU w h f'):jq w n h ts vs (fs.dropLast++ [f']):=by
 have c:=iq d
 have b:=x.hd
 rw[c] at b
 refine⟨x.lv,x.vv,?_,λg a=> ?_,iL.last (fs:=fs) b e,λg a=> ?_⟩
 ·have:=congrArg List.length c
  have:=x.lf
  simp only[lQa,Qnq,QGq] at *
  omega
 ·rcases mQa.mp a with a|a
  ·exact x.fr g (List.dropLast_subset _ a)
  ·rw[Qfq.mp a];exact i
 ·rw[List.dropLast_concat] at a
  exact x.ch g a
def jq.push(x:jq w n h ts vs fs)(b:fs.getLast? =some f)(d:Nn w h f)(e:f'.room≠-1)(i:FU w h f'):jq w (n+1) h ts vs (fs++ [f']):=by
 refine⟨x.lv,x.vv,?_,λg a=> ?_,x.hd.push e,λg a=> ?_⟩
 ·have:=x.lf
  simp only[lQa,Qnq,QGq]
  omega
 ·rcases mQa.mp a with a|a
  ·exact x.fr g a
  ·rw[Qfq.mp a];exact i
 ·rw[List.dropLast_concat,iq b] at a
  rcases mQa.mp a with a|a
  ·exact x.ch g a
  ·rw[Qfq.mp a];exact d
def jq.pop{b:List bU}(x:jq w n h ts vs (b++ [f2,f])):jq w n h ts vs (b++ [f2])/\Nn w h f2:=by
 have e:(b++ [f2,f]).dropLast=b++ [f2]:=by rw[show b++ [f2,f]=(b++ [f2])++ [f] by simp,List.dropLast_concat]
 have c:=x.ch
 rw[e] at c
 refine⟨⟨x.lv,x.vv,?_,λg a=>x.fr g ?_,x.hd.pop,λg a=>c g ?_⟩,c f2 (by simp)⟩
 ·have:=x.lf
  simp only[lQa,Qnq,QGq] at *
  omega
 ·rcases mQa.mp a with a|a
  ·exact mQa.mpr (.inl a)
  ·exact mQa.mpr (.inr (by rw[Qfq.mp a];simp))
 ·rw[List.dropLast_concat] at a
  exact mQa.mpr (.inl a)
def jq.vals{a:List Int}(x:jq w n h ts vs fs)(hl:a.length=vs.length)(b:∀v∈a,0<=v/\v<=9):jq w n h ts a fs:=⟨by rw[x.lv,hl],b,x.lf,x.fr,x.hd,x.ch⟩
def jq.last(x:jq w n h ts vs fs):∃f,fs.getLast? =some f/\FU w h f:=by
 have:=x.hd
 cases fs with
 |nil=>exact this.elim
 | cons a l=>
   refine⟨_,List.getLast?_eq_some_getLast (by simp),x.fr _ (List.getLast_mem (by simp))⟩
end
def jY{w:cI}{h:Nat}{f:bU}{pr:List Rw}(a:progOf w h f=some pr):(f.room= -1/\∃ts,w.af[h]?=some (ts,pr))\/∃(i j:Nat) (r:Rm) (b:Str),f.room=i/\f.deed=j/\w.aj[i]?=some r/\r.ae[j]?=some (b,pr):=by
 unfold progOf at a
 split at a
 ·rename_i c
  obtain⟨⟨ts,g⟩,e,d⟩:=oQm.mp a
  cases d
  exact .inl ⟨c,ts,e⟩
 ·split at a
  ·rename_i c
   obtain⟨r,e,d⟩:=ar a
   obtain⟨⟨b,g⟩,l,k⟩:=oQm.mp d
   cases k
   exact .inr ⟨f.room.toNat,f.deed.toNat,r,b,by omega,by omega,e,l⟩
  ·cases a
def D9{w:cI}{h i j:Nat}{f:bU}{r:Rm}{a:Str}{pr:List Rw}(e:f.room=i)(b:f.deed=j)(d:w.aj[i]?=some r)(c:r.ae[j]?=some (a,pr)):progOf w h f=some pr:=by
 unfold progOf
 rw[Quq (by omega),Qhq ⟨by omega,by omega⟩,e,b]
 show(w.aj[i]?).bind _=_
 rw[d]
 show(r.ae[j]?).map _=_
 rw[c]
 rfl
def DE(w:cI)(h:Nat)(f:bU):Option Sc:=if f.room= -1 then(w.af[h]?).map λp=>⟨true,p.1.map (·.1)++w.ak.map (·.1),p.1.map (·.1)++w.ak.map (·.1),[],bM w.aj,w.ai.map (·.1)⟩
 else(w.aj[f.room.toNat]?).map λr=>⟨false,r.ao.map (·.1)++fF,r.ao.map (·.1),r.aa.map (·.1),bM w.aj,[]⟩
def EY{w:cI}{h:Nat}{f:bU}{pr:List Rw}(o:fH w)(e:progOf w h f=some pr):∃sc,DE w h f=some sc/\uj sc pr:=by
 unfold DE
 rcases jY e with⟨c,l,a⟩|⟨i,j,r,g,a,k,b,d⟩
 ·rw[Qhq c,a]
  exact⟨_,rfl,(o.hd _ (mQg a)).pr⟩
 ·rw[Quq (by omega),a]
  refine⟨_,by rw[show((i:Int)).toNat=i by omega,b];rfl,((o.rm _ (mQg b)).pr _ (mQg d)).1⟩
def vS{w:cI}(o:fH w):cg w 1 (bE w) where
 lr:=by simp[bE]
 rm:=λi r q c d=>by
  simp only[bE,gQm,c,Option.map_some,Option.some.injEq] at d
  subst d
  have e:=o.rm r (mQg c)
  refine⟨by simp[cZ,e_],by simp[cZ],λv b=> ?_,by simp[cZ],by simp[cZ],λl hl=> ?_⟩
  ·simp only[cZ,e_,Qkq] at b
   obtain⟨p,a,rfl⟩:=b
   have:=e.tv p a
   omega
  ·simp only[cZ,Qkq] at hl
   obtain⟨p,a,rfl⟩:=hl
   simp
 lp:=by simp[bE]
 ps:=λp a=>by
  simp only[bE,Qkq] at a
  obtain⟨p,a,rfl⟩:=a
  simp
 ls:=by simp[bE,e_]
 sv:=λv b=>by
  simp only[bE,e_,Qkq] at b
  obtain⟨p,a,rfl⟩:=b
  have:=o.sv p a
  omega
 lh:=by simp[bE]
 hd:=λh k j m n c d=>by
  simp only[bE,gQm,c,Option.map_some,Option.some.injEq] at d
  cases d
  have e:=o.hd _ (mQg c)
  refine⟨by simp[e_],λv b=> ?_,by simp,λf g=> ?_,⟨rfl,λ_ z=>by cases z⟩,λf g=>by cases g⟩
  ·simp only[e_,Qkq] at b
   obtain⟨p,a,rfl⟩:=b
   have:=e.tv p a
   omega
  ·rw[Qfq.mp g]
   refine⟨⟨j,?_,by decide,?_⟩,by decide,by decide⟩
   ·unfold progOf
    rw[Qhq (show E1.room= -1 from rfl),c]
    rfl
   ·show(0:Int)<=_
    omega
section
variable{w:cI}{n h:Nat}{s:bj}{vs:List Int}{fs:List bU}{f:bU}{sc:Sc}
def cg.whand(x:cg w n s)(a:s.af[h]?=some (vs,fs)):∃ts pr,w.af[h]?=some (ts,pr)/\jq w n h ts vs fs:=by
 have hl:h<w.af.length:=by rw[x.lh];exact(gQs.mp a).1
 exact⟨_,_,gQe hl,x.hd h _ _ vs fs (gQe hl) a⟩
def cg.wroom{i:Nat}{r:Rm}(x:cg w n s)(a:w.aj[i]?=some r):∃rs,s.aj[i]?=some rs/\iW n r rs:=by
 have hl:i<s.aj.length:=by rw[←x.lr];exact(gQs.mp a).1
 exact⟨_,gQe hl,x.rm i r _ a (gQe hl)⟩
def lC{t:Sc}(a:DE w h f=some t):(f.room= -1/\∃ts pr,w.af[h]?=some (ts,pr)/\t=⟨true,ts.map (·.1)++w.ak.map (·.1),ts.map (·.1)++w.ak.map (·.1),[],bM w.aj,w.ai.map (·.1)⟩)∨
  (f.room≠-1/\∃r,w.aj[f.room.toNat]?=some r/\t=⟨false,r.ao.map (·.1)++fF,r.ao.map (·.1),r.aa.map (·.1),bM w.aj,[]⟩):=by
 unfold DE at a
 split at a
 ·rename_i c
  obtain⟨⟨ts,pr⟩,d,b⟩:=oQm.mp a
  exact .inl ⟨c,ts,pr,d,b.symm⟩
 ·rename_i c
  obtain⟨r,d,b⟩:=oQm.mp a
  exact .inr ⟨c,r,d,b.symm⟩
def pW(x:FU w h f)(c:f.room≠-1):f.room=(f.room.toNat:Int):=by
 obtain⟨d,b,_⟩:=x.pr
 rcases jY b with⟨a,_⟩|⟨i,_,_,_,e,_⟩
 ·exact absurd a c
 ·omega
def lX{t:Tr}(o:fH w)(x:cg w n s)(z:s.af[h]?=some (vs,fs))(m:fs.getLast? =some f)(A:DE w h f=some sc)(ht:Ey sc t):∃v,(0<=v/\v<=9)/\Bt w s h t v:=by
 obtain⟨k,K,p,i⟩:=x.whand z
 have G:=o.hd _ (mQg p)
 have j:=i.fr f (QcQ m)
 have L:=o.l3
 have F:=G.l1
 have B:=x.ls
 rcases lC A with⟨c,C,H,g,rfl⟩|⟨c,r,hr,rfl⟩
 ·rw[p] at g
  cases g
  have b:kM (C4 w s k vs):=kM.merge (g5 x.sv) (g5 i.vv)
  refine⟨As (numAt (C4 w s k vs)) (λ_=>0) t,?_,λS Q q=>wB p z m c B i.lv (by omega) (by dsimp only at F;omega) x.sv i.vv ht.1 (by have:=ht.2;omega) q⟩
  refine lV (ws:=k.map (·.1)++w.ak.map (·.1)) (bs:= []) (λy a=> ?_) ht.1
  refine(oP b (gf ?_)).2
  rcases mQa.mp a with a|a
  ·exact .inr (g9 i.lv a)
  ·exact .inl (g9 B a)
 ·obtain⟨u,l,e⟩:=x.wroom hr
  have d:=o.rm r (mQg hr)
  have J:=d.l1
  have I:=d.l2
  have b:kM (vI r u f.given):=(g5 e.vv).put j.gv.1 j.gv.2
  refine⟨As (numAt (vI r u f.given)) (Ad r u) t,?_,λS Q q=>uW z m (pW j c) hr l e.lv e.lb (by omega) (by omega) e.vv j.gv ht.1 (by have:=ht.2;omega) q⟩
  refine lV (ws:=r.ao.map (·.1)++fF) (bs:=r.aa.map (·.1)) (λy a=> ?_) ht.1
  refine(oP b (lO ?_)).2
  rcases mQa.mp a with a|a
  ·exact .inr (g9 e.lv a)
  ·left
   rw[Qfq.mp a]
def nB{ns:List Str}{y:Str}{v:Int}{a:List Int}(d:∀v∈a,0<=v/\v<=9)(c:0<=v/\v<=9):(eL ns a y v).length=a.length/\∀u∈eL ns a y v,0<=u/\u<=9:=by
 unfold eL
 refine⟨by simp,λz b=> ?_⟩
 rcases QTq b with b|rfl
 ·exact d z b
 ·exact c
def cg.goes{m:Int}{pr:List Rw}(x:cg w n s)(j:s.af[h]?=some (vs,fs))(c:fs.getLast? =some f)(i:progOf w h f=some pr)(d:0<=m)(k:m<=pr.length):cg w n {s with af:=s.af.set h (vs,fs.dropLast++ [{f with row:=m}])}:=by
 obtain⟨l,e,g,b⟩:=x.whand j
 have a:=b.fr f (QcQ c)
 exact x.hand g (b.setLast c rfl ⟨⟨pr,i,d,k⟩,a.gv,a.tv⟩)
def cg.tells{v:Int}(x:cg w n s)(g:s.af[h]?=some (vs,fs))(c:fs.getLast? =some f)(d:0<=v/\v<=9):cg w n {s with af:=s.af.set h (vs,fs.dropLast++ [{f with told:=v}])}:=by
 obtain⟨j,i,e,b⟩:=x.whand g
 have a:=b.fr f (QcQ c)
 exact x.hand e (b.setLast c rfl ⟨a.pr,a.gv,d⟩)
def iW.come{r:Rm}{rs:cU}{k:Int}(x:iW n r rs):iW (n+1) r (iC rs k):=by
 unfold iC
 have:=x.br
 split
 ·exact⟨x.lv,x.lb,x.vv,by show rs.row.length<=_;omega,Nat.le_succ_of_le x.bl,λl hl=>Nat.le_succ_of_le (x.bb l hl)⟩
 ·exact⟨x.lv,x.lb,x.vv,by simp;omega,Nat.le_succ_of_le x.bl,λl hl=>Nat.le_succ_of_le (x.bb l hl)⟩
def iW.leave{r:Rm}{rs:cU}(x:iW n r rs):iW n r (cy rs):=by
 obtain⟨e,b,c,i,j⟩:=rs
 have g:=x.br
 have d:=x.bl
 unfold cy
 dsimp only at g d⊢
 cases i with
 |cons a l=>exact⟨x.lv,x.lb,x.vv,x.br,by simp at d;show l.length<=n;omega,x.bb⟩
 | nil=>
   cases c with
   |cons a l=>exact⟨x.lv,x.lb,x.vv,by simp at g;show l.length<=n;omega,x.bl,x.bb⟩
   |nil=>exact⟨x.lv,x.lb,x.vv,x.br,x.bl,x.bb⟩
def iW.line{r:Rm}{rs:cU}{b:Nat}{l:List (Int×Int)}(x:iW n r rs)(hl:l.length<=n):iW n r {rs with aa:=rs.aa.set b l}:=⟨x.lv,by simp;exact x.lb,x.vv,x.br,x.bl,λk a=>by
 rcases QTq a with a|rfl
 ·exact x.bb k a
 ·exact hl⟩
def iW.call{r:Rm}{rs:cU}{b:Nat}{k:Int}{fr:Bool}(x:iW n r rs):iW (n+1) r (uo fr rs b k):=by
 unfold uo
 split
 ·rename_i p l e
  have hl:=x.bb _ (mQg e)
  have y:=(x.mono (Nat.le_succ n)).line (b:=b) (l:=l) (by simp at hl;omega)
  have z:=x.bl
  split
  ·exact y
  ·exact⟨y.lv,y.lb,y.vv,y.br,by simp;omega,y.bb⟩
 ·exact x.mono (Nat.le_succ n)
def ES{l:List (Int×Int)}{a b:Int}:(nz l a b).length=l.length+1:=by
 unfold nz
 have:=List.length_filter_le (λp:Int×Int=>decide (p.1<=a)) l
 simp only[lQa,Qxq,List.length_drop,Qnq,QGq]
 omega
def G_{a b:Str}(o:fH w)(c:(a,b)∈bM w.aj):a∈w.aj.map (·.name)/\∃r,w.aj[fQ (w.aj.map (·.name)) a]?=some r/\b∈r.ae.map (·.1):=by
 unfold bM at c
 obtain⟨r,d,q⟩:=QOq.mp c
 obtain⟨p,m,e⟩:=Qkq.mp q
 cases e
 have g:r.name∈w.aj.map (·.name):=Qkq.mpr ⟨r,d,rfl⟩
 refine⟨g,r,?_,Qkq.mpr ⟨p,m,rfl⟩⟩
 obtain⟨t,k⟩:=jC g
 obtain⟨i,j,e⟩:=QbQ d
 have l:(w.aj.map (·.name))[i]?=some r.name:=by rw[gQm,gQe j,e];rfl
 rw[jd o.nd k l,gQe j,e]
end
section
variable{w:cI}{n h:Nat}{s:bj}{vs:List Int}{fs:List bU}{f:bU}{sc:Sc}
def cg.mays(o:fH w)(x:cg w n s)(u:n<=100):J2 w s:=by
 have A:=o.l1
 have F:=o.l2
 have z:=o.l4
 have B:=x.lr
 have v:=x.lp
 have G:=x.lh
 refine y3 (λS Q q=>qu u (by omega) (by omega) x.ps (λk c=> ?_) q) (λh r=> ?_) (by omega)
 ·obtain⟨i,j,e⟩:=QbQ c
  have b:s.aj[i]?=some k:=by rw[gQe j,e]
  have d:w.aj[i]?=some (w.aj[i]'(by omega)):=gQe (by omega)
  have a:=x.rm i _ k d b
  have:=(o.rm _ (mQg d)).l2
  have:=a.lb
  exact⟨a.br,a.bl,by omega,a.bb⟩
 ·obtain⟨⟨vs,fs⟩,b⟩:∃p,s.af[h]?=some p:=⟨_,gQe r⟩
  obtain⟨y,C,d,j⟩:=x.whand b
  obtain⟨f,t,m⟩:=j.last
  obtain⟨g,l,_⟩:=m.pr
  exact⟨vs,fs,f,g,b,t,l⟩
end
theorem jf{α c:Type}{f:α->List c}:∀{l:List α} {i:Nat} {a:α},l[i]?=some a->(l.flatMap f).Perm (f a++(l.eraseIdx i).flatMap f)
 | [],_,_,h=>by simp at h
 | x::l,0,a,h=>by
   simp at h
   subst h
   exact List.Perm.refl _
 | x::l,i+1,a,h=>by
   have b:=jf (f:=f) (l:=l) (i:=i) (by simpa using h)
   rw[QSq,List.eraseIdx_cons_succ,QSq]
   exact(List.Perm.append_left (f x) b).trans (by
     rw[←Qvq,←Qvq]
     exact QJq _ List.perm_append_comm)
theorem wb{α:Type}{b:α}:∀{l:List α} {i:Nat},(l.set i b).eraseIdx i=l.eraseIdx i
 | [],_=>rfl
 |_::_,0=>rfl
 | x::l,i+1=>by
   simp only[List.set_cons_succ,List.eraseIdx_cons_succ]
   rw[wb]
def iX{α c:Type}{f:α->List c}{l:List α}{i:Nat}{a b:α}(h:l[i]?=some a):((l.set i b).flatMap f).Perm (f b++(l.eraseIdx i).flatMap f):=by
 have:=jf (f:=f) (l:=l.set i b) (i:=i) (Qyq (gQs.mp h).1)
 rw[wb] at this
 exact this
structure Q2(w:cI)(N:Nat)(ps:List (Int×List Int))(rs:List cU)(fr:Nat->List Int):Prop where
 fo:∀g,g<N->(fr g).head? =some (-1)
 nd:(ps.flatMap (·.2)++rs.flatMap aO).Nodup
 hv:∀x∈ps.flatMap (·.2)++rs.flatMap aO,∃g:Nat,x=g/\g<N
 pv:∀p∈ps,(0<=p.1/\p.1<=9)/\(p.1=0\/p.2= [])
 pl:∀p∈ps,∀g:Nat,(g:Int)∈p.2->fr g= [-1]
 rl:∀(i:Nat) (r:cU),rs[i]?=some r->∀g:Nat,(g:Int)∈aO r->(fr g).getLast? =some (i:Int)
 r1:∀(i:Nat) (r:cU),rs[i]?=some r->r.within= -1->r.row= []/\r.ag= []
 r2:∀(i:Nat) (r:cU),rs[i]?=some r->r.within= -1\/∃g:Nat,r.within=g/\g<N/\(i:Int)∈fr g
 r3:∀(i:Nat) (r:cU) (rm:Rm),rs[i]?=some r->w.aj[i]?=some rm->rm.ah="when free" ->r.ag= []
 r4:∀(i:Nat) (r:cU) (rm:Rm),rs[i]?=some r->w.aj[i]?=some rm->∀(b:Nat) (l:List (Int×Int)) (nm so:Str),r.aa[b]?=some l->rm.aa[b]?=some (nm,so)->(l.map (·.1)).Pairwise (·<=·)/\(so="row" ->∀p∈l,p.1=0)
def hl(ps:List (Int×List Int))(rs:List cU):List Int:=ps.flatMap (·.2)++rs.flatMap aO
section
variable{w:cI}{N:Nat}{ps:List (Int×List Int)}{rs:List cU}{fr fr':Nat->List Int}{h:Nat}
def x8{i:Nat}{r nr:cU}(b:rs[i]?=some r):∃a,(hl ps rs).Perm (aO r++a)/\(hl ps (rs.set i nr)).Perm (aO nr++a):=by
 refine⟨ps.flatMap (·.2)++(rs.eraseIdx i).flatMap aO,?_,?_⟩
 ·exact(List.Perm.append_left _ (jf b)).trans (by rw[←Qvq,←Qvq];exact QJq _ List.perm_append_comm)
 ·exact(List.Perm.append_left _ (iX b)).trans (by rw[←Qvq,←Qvq];exact QJq _ List.perm_append_comm)
def xk{i:Nat}{p np:Int×List Int}(b:ps[i]?=some p):∃a,(hl ps rs).Perm (p.2++a)/\(hl (ps.set i np) rs).Perm (np.2++a):=by
 refine⟨(ps.eraseIdx i).flatMap (·.2)++rs.flatMap aO,?_,?_⟩
 ·rw[←Qvq];exact QJq _ (jf (f:=λp:Int×List Int=>p.2) b)
 ·rw[←Qvq];exact QJq _ (iX (f:=λp:Int×List Int=>p.2) b)
structure R2(w:cI)(N i:Nat)(fr:Nat->List Int)(r:cU):Prop where
 rl:∀g:Nat,(g:Int)∈aO r->(fr g).getLast? =some (i:Int)
 r1:r.within= -1->r.row= []/\r.ag= []
 r2:r.within= -1\/∃g:Nat,r.within=g/\g<N/\(i:Int)∈fr g
 r3:∀rm:Rm,w.aj[i]?=some rm->rm.ah="when free" ->r.ag= []
 r4:∀rm:Rm,w.aj[i]?=some rm->∀(b:Nat) (l:List (Int×Int)) (nm so:Str),r.aa[b]?=some l->rm.aa[b]?=some (nm,so)->(l.map (·.1)).Pairwise (·<=·)/\(so="row" ->∀p∈l,p.1=0)
def Q2.at(x:Q2 w N ps rs fr){i:Nat}{r:cU}(a:rs[i]?=some r):R2 w N i fr r:=⟨x.rl i r a,x.r1 i r a,x.r2 i r a,λb=>x.r3 i r b a,λb=>x.r4 i r b a⟩
def Q2.room(x:Q2 w N ps rs fr){i:Nat}{r nr:cU}(o:rs[i]?=some r)(g:R2 w N i fr nr)(l:∀a:List Int,(aO r++a).Nodup->(h:Int)∉aO r++a->(aO nr++a).Nodup)(e:∀y∈aO nr,y∈aO r\/y=(h:Int))(n:h<N)(p:(h:Int)∉hl ps rs):Q2 w N ps (rs.set i nr) fr:=by
 obtain⟨a,k,m⟩:=x8 (ps:=ps) (nr:=nr) o
 refine⟨x.fo,m.nodup_iff.mpr (l a (k.nodup_iff.mp x.nd) λz=>p (k.mem_iff.mpr z)),λy d=> ?_,x.pv,x.pl,λj c b=> ?_,λj c b=> ?_,λj c b=> ?_,λj c f b=> ?_,λj c f b=> ?_⟩
 ·rcases mQa.mp (m.mem_iff.mp d) with d|d
  ·rcases e y d with d|rfl
   ·exact x.hv y (k.mem_iff.mpr (mQa.mpr (.inl d)))
   ·exact⟨h,rfl,n⟩
  ·exact x.hv y (k.mem_iff.mpr (mQa.mpr (.inr d)))
 all_goals rcases get_set b with⟨rfl,rfl⟩|⟨_,b⟩
 ·exact g.rl
 ·exact x.rl j c b
 ·exact g.r1
 ·exact x.r1 j c b
 ·exact g.r2
 ·exact x.r2 j c b
 ·exact g.r3 f
 ·exact x.r3 j c f b
 ·exact g.r4 f
 ·exact x.r4 j c f b
end
section
variable{w:cI}{N:Nat}{ps:List (Int×List Int)}{rs:List cU}{fr fr':Nat->List Int}{h:Nat}
def Q2.room0(x:Q2 w N ps rs fr){i:Nat}{r nr:cU}(n:rs[i]?=some r)(e:R2 w N i fr nr)(l:∀a:List Int,(aO r++a).Nodup->(aO nr++a).Nodup)(g:∀y∈aO nr,y∈aO r):Q2 w N ps (rs.set i nr) fr:=by
 obtain⟨a,k,m⟩:=x8 (ps:=ps) (nr:=nr) n
 refine⟨x.fo,m.nodup_iff.mpr (l a (k.nodup_iff.mp x.nd)),λy d=> ?_,x.pv,x.pl,λj c b=> ?_,λj c b=> ?_,λj c b=> ?_,λj c f b=> ?_,λj c f b=> ?_⟩
 ·rcases mQa.mp (m.mem_iff.mp d) with d|d
  ·exact x.hv y (k.mem_iff.mpr (mQa.mpr (.inl (g y d))))
  ·exact x.hv y (k.mem_iff.mpr (mQa.mpr (.inr d)))
 all_goals rcases get_set b with⟨rfl,rfl⟩|⟨_,b⟩
 ·exact e.rl
 ·exact x.rl j c b
 ·exact e.r1
 ·exact x.r1 j c b
 ·exact e.r2
 ·exact x.r2 j c b
 ·exact e.r3 f
 ·exact x.r3 j c f b
 ·exact e.r4 f
 ·exact x.r4 j c f b
def yp{a b c:List Int}{k:Int}(p:b.Perm (k::a))(n:(a++c).Nodup)(d:k∉a++c):(b++c).Nodup:=by
 refine(QJq c p).nodup_iff.mpr ?_
 rw[List.cons_append]
 exact List.nodup_cons.mpr ⟨d,n⟩
def xY{a b c:List Int}{k:Int}(p:a.Perm (k::b))(n:(a++c).Nodup):(b++c).Nodup:=by
 have:=(QJq c p).nodup_iff.mp n
 rw[List.cons_append] at this
 exact(List.nodup_cons.mp this).2
def sj(x:Q2 w N ps rs fr){i:Nat}{r:cU}(b:rs[i]?=some r){y:Int}(a:y∈aO r):y∈hl ps rs:=mQa.mpr (.inr (QOq.mpr ⟨r,mQg b,a⟩))
def leave_held(r:cU):(∃a,(aO r).Perm (a::aO (cy r))/\(cy r).within=a)\/(aO (cy r)=aO r/\(cy r).within= -1/\r.row= []/\r.ag= []):=by
 obtain⟨d,c,b,e,f⟩:=r
 cases e with
 | cons a l=>
   refine .inl ⟨a,?_,rfl⟩
   show(b++(a::l)++_).Perm (a::(b++l++_))
   rw[Qvq,Qvq]
   exact List.perm_middle
 | nil=>
   cases b with
   |cons a l=>exact .inl ⟨a,List.Perm.refl _,rfl⟩
   |nil=>exact .inr ⟨rfl,rfl,rfl,rfl⟩
def tJ{r:cU}(h:r.ag= []):(cy r).ag= []:=by
 obtain⟨c,a,b,d,e⟩:=r
 cases h
 cases b <;>rfl
def qy(r:cU):(cy r).aa=r.aa:=by
 obtain⟨d,b,c,e,f⟩:=r
 cases e with
 |cons a l=>rfl
 |nil=>cases c <;>rfl
def Q2.leave(x:Q2 w N ps rs fr){i:Nat}{r:cU}(o:rs[i]?=some r):Q2 w N ps (rs.set i (cy r)) fr:=by
 have j:=x.at o
 rcases leave_held r with⟨a,t,q⟩|⟨v,q,c,m⟩
 ·have F:a∈aO r:=t.mem_iff.mpr (QBq ..)
  have d:∀y∈aO (cy r),y∈aO r:=λy s=>t.mem_iff.mpr (Qpq _ s)
  obtain⟨g,rfl,hg⟩:=x.hv a (sj x o F)
  refine x.room0 o ⟨λu f=>j.rl u (d _ f),λz=>by rw[q] at z;omega,.inr ⟨g,q,hg,QcQ (j.rl g F)⟩,λe c m=>tJ (j.r3 e c m),λe c b l nm A B C=>j.r4 e c b l nm A (by rw[←qy];exact B) C⟩ (λk n=>xY t n) d
 ·refine x.room0 o ⟨λu f=>j.rl u (by rw[←v];exact f),λ_=> ?_,.inl q,λe c m=>tJ (j.r3 e c m),λe c b l nm A B C=>j.r4 e c b l nm A (by rw[←qy];exact B) C⟩ (λk n=>by rw[v];exact n) (λy s=>by rw[←v];exact s)
  obtain⟨G,p,H,J,I⟩:=r
  cases c
  cases m
  exact⟨rfl,rfl⟩
def Q2.come(x:Q2 w N ps rs fr){i:Nat}{r:cU}(j:rs[i]?=some r)(k:h<N)(o:(h:Int)∉hl ps rs)(m:(fr h).getLast? =some (i:Int)):Q2 w N ps (rs.set i (iC r h)) fr:=by
 have b:=x.at j
 unfold iC
 by_cases c:r.within= -1
 ·rw[Qhq c]
  refine x.room0 j ⟨b.rl,λz=>by have z:(h:Int)= -1:=z;omega,.inr ⟨h,rfl,k,QcQ m⟩,b.r3,b.r4⟩ (λe n=>n) (λy d=>d)
 ·rw[Quq c]
  have l:(aO {r with row:=r.row++ [(h:Int)]}).Perm ((h:Int)::aO r):=by
   show((r.row++ [(h:Int)])++r.ag++_).Perm ((h:Int)::(r.row++r.ag++_))
   rw[Qvq,Qvq,Qvq]
   exact List.perm_middle
  have a:∀y∈aO {r with row:=r.row++ [(h:Int)]},y∈aO r\/y=(h:Int):=λy d=>by
   rcases Qsq.mp (l.mem_iff.mp d) with rfl|d
   ·exact .inr rfl
   ·exact .inl d
  refine x.room j ⟨λg f=> ?_,λz=>absurd z c,b.r2,b.r3,b.r4⟩ (λe n p=>yp l n p) a k o
  rcases a _ f with f|f
  ·exact b.rl g f
  ·have:g=h:=by omega
   subst this
   exact m
def sE{α:Type}{A B C:List α}:(A++(B++C)).Perm (B++(A++C)):=by
 rw[←Qvq,←Qvq]
 exact QJq _ List.perm_append_comm
def mJ{r:cU}{b:Nat}{l nl:List (Int×Int)}(c:r.aa[b]?=some l):∃a,(aO r).Perm (l.map (·.2)++a)/\(aO {r with aa:=r.aa.set b nl}).Perm (nl.map (·.2)++a):=by
 refine⟨(r.row++r.ag)++(r.aa.eraseIdx b).flatMap λl=>l.map (·.2),?_,?_⟩
 ·exact(List.Perm.append_left (r.row++r.ag) (jf (f:=λl:List (Int×Int)=>l.map (·.2)) c)).trans sE
 ·exact(List.Perm.append_left (r.row++r.ag) (iX (f:=λl:List (Int×Int)=>l.map (·.2)) (b:=nl) c)).trans sE
def DW{l:List (Int×Int)}{t k:Int}:((nz l t k).map (·.2)).Perm (k::l.map (·.2)):=by
 unfold nz
 generalize (l.filter λp=>decide (p.1<=t)).length=n
 have e:l.map (·.2)=(l.take n).map (·.2)++(l.drop n).map (·.2):=by rw[←Qzq,List.take_append_drop]
 rw[e,Qvq,Qzq]
 exact List.perm_middle
theorem s_{t:Int}:∀{l:List (Int×Int)},(l.map (·.1)).Pairwise (·<=·)->(∀p∈l.take (l.filter λp=>decide (p.1<=t)).length,p.1<=t)/\∀p∈l.drop (l.filter λp=>decide (p.1<=t)).length,t<p.1
 | [],_=>⟨λp b=>by simp at b,λp b=>by simp at b⟩
 | a::l,hs=>by
   rw[QDq,List.pairwise_cons] at hs
   by_cases c:a.1<=t
   · rw[List.filter_cons_of_pos (by simpa using c),Qnq,List.take_succ_cons,List.drop_succ_cons]
     obtain⟨g,f⟩:=s_ (t:=t) hs.2
     refine⟨λp b=> ?_,f⟩
     rcases Qsq.mp b with rfl|b
     · exact c
     · exact g p b
   · have e:∀p∈a::l,t<p.1:=λp b=>by
       rcases Qsq.mp b with rfl|b
       · omega
       · have:=hs.1 p.1 (Qkq.mpr ⟨p,b,rfl⟩)
         omega
     have d:((a::l).filter λp=>decide (p.1<=t))= []:=List.filter_eq_nil_iff.mpr λp b=>by
       have:=e p b
       simpa using this
     rw[d]
     exact⟨λp b=>by simp at b,λp b=>e p (by simpa using b)⟩
def y2{l:List (Int×Int)}{t k:Int}(f:(l.map (·.1)).Pairwise (·<=·)):((nz l t k).map (·.1)).Pairwise (·<=·):=by
 obtain⟨g,d⟩:=s_ (t:=t) f
 unfold nz
 generalize (l.filter λp=>decide (p.1<=t)).length=n at g d⊢
 rw[Qvq,Qzq,Qzq,List.pairwise_append]
 have i:((l.take n).map (·.1)).Pairwise (·<=·):=by rw[List.map_take];exact f.sublist (List.take_sublist ..)
 have m:((l.drop n).map (·.1)).Pairwise (·<=·):=by rw[List.map_drop];exact f.sublist (List.drop_sublist ..)
 refine⟨i,?_,λa j b c=> ?_⟩
 ·show(t::(l.drop n).map (·.1)).Pairwise (·<=·)
  rw[List.pairwise_cons]
  refine⟨λb c=> ?_,m⟩
  obtain⟨p,e,rfl⟩:=Qkq.mp c
  have:=d p e
  omega
 ·obtain⟨p,e,rfl⟩:=Qkq.mp j
  have r:=g p e
  rcases Qsq.mp (show b∈t::(l.drop n).map (·.1) from c) with rfl|c
  ·exact r
  ·obtain⟨q,o,rfl⟩:=Qkq.mp c
   have:=d q o
   omega
def F5{l:List (Int×Int)}{t k:Int}{p:Int×Int}(h:p∈nz l t k):p∈l\/p=(t,k):=by
 unfold nz at h
 rcases mQa.mp h with h|h
 ·rcases mQa.mp h with h|h
  ·exact .inl (List.mem_of_mem_take h)
  ·exact .inr (Qfq.mp h)
 ·exact .inl (List.mem_of_mem_drop h)
def Q2.wait(x:Q2 w N ps rs fr){i b:Nat}{r:cU}{rm:Rm}{l:List (Int×Int)}{t:Int}{nm v:Str}(q:rs[i]?=some r)(B:w.aj[i]?=some rm)(F:r.aa[b]?=some l)(G:rm.aa[b]?=some (nm,v))(ht:v="row" ->t=0)(H:h<N)(K:(h:Int)∉hl ps rs)(L:(fr h).getLast? =some (i:Int)):
  Q2 w N ps (rs.set i (cy {r with aa:=r.aa.set b (nz l t h)})) fr:=by
 have k:=x.at q
 obtain⟨c,I,J⟩:=mJ (nl:=nz l t h) F
 have j:(aO {r with aa:=r.aa.set b (nz l t h)}).Perm ((h:Int)::aO r):=by
  refine J.trans ((QJq c DW).trans ?_)
  rw[List.cons_append]
  exact List.Perm.cons _ I.symm
 have a:∀y∈aO {r with aa:=r.aa.set b (nz l t h)},y∈aO r\/y=(h:Int):=λy o=>by
  rcases Qsq.mp (j.mem_iff.mp o) with rfl|o
  ·exact .inr rfl
  ·exact .inl o
 have R:Q2 w N ps (rs.set i {r with aa:=r.aa.set b (nz l t h)}) fr:=by
  refine x.room q ⟨λg m=> ?_,k.r1,k.r2,k.r3,λs e C Q A u f d=> ?_⟩ (λc n S=>yp j n S) a H K
  ·rcases a _ m with m|m
   ·exact k.rl g m
   ·have:g=h:=by omega
    subst this
    exact L
  ·rcases get_set f with⟨rfl,rfl⟩|⟨_,f⟩
   ·rw[B] at e
    cases e
    rw[G] at d
    cases d
    obtain⟨M,P⟩:=k.r4 rm B C l nm v F G
    refine⟨y2 M,λz p j=> ?_⟩
    rcases F5 j with j|rfl
    ·exact P z p j
    ·exact ht z
   ·exact k.r4 s e C Q A u f d
 have:=R.leave (i:=i) (Qyq (gQs.mp q).1)
 rw[List.set_set] at this
 exact this
def Q2.all(x:Q2 w N ps rs fr){i b:Nat}{r:cU}{l:List (Int×Int)}(s:rs[i]?=some r)(G:r.aa[b]?=some l):Q2 w N ps (rs.set i {r with aa:=r.aa.set b []}) fr:=by
 have e:=x.at s
 obtain⟨u,q,t⟩:=mJ (nl:= []) G
 have c:∀y∈aO {r with aa:=r.aa.set b []},y∈aO r:=λy z=>q.mem_iff.mpr (mQa.mpr (.inr (by simpa using t.mem_iff.mp z)))
 refine x.room0 s ⟨λg A=>e.rl g (c _ A),e.r1,e.r2,e.r3,λf k F C o m d j=> ?_⟩ (λa n=> ?_) c
 ·rcases get_set d with⟨rfl,rfl⟩|⟨_,d⟩
  ·exact⟨.nil,λ_ p B=>by cases B⟩
  ·exact e.r4 f k F C o m d j
 ·have v:=(QJq a q).nodup_iff.mp n
  refine(QJq a t).nodup_iff.mpr ?_
  rw[Qvq] at v
  exact(List.nodup_append.mp v).2.1
def Q2.call(x:Q2 w N ps rs fr){i b:Nat}{r:cU}{rm:Rm}{l:List (Int×Int)}(A:rs[i]?=some r)(X:w.aj[i]?=some rm)(M:r.aa[b]?=some l)(S:h<N)(Y:(h:Int)∉hl ps rs)(Z:(fr h).getLast? =some (i:Int)):
  Q2 w N ps (rs.set i (uo (decide (rm.ah="when free")) r b h)) fr:=by
 have u:=x.at A
 unfold uo
 rw[M]
 cases l with
 | nil=>
   have e:rs.set i r=rs:=by
     apply List.ext_getElem?
     intro j
     rw[List.getElem?_set]
     split
     · rename_i c
       subst c
       rw[A]
       have:=(gQs.mp A).1
       simp[this]
     · rfl
   rw[e]
   exact x
 | cons p l=>
   obtain⟨t,U,W⟩:=mJ (nl:=l) M
   have L:(aO r).Perm (p.2::aO {r with aa:=r.aa.set b l}):=by
     refine U.trans ?_
     rw[QDq,List.cons_append]
     exact List.Perm.cons _ W.symm
   have K:p.2∈aO r:=L.mem_iff.mpr (QBq ..)
   have a:∀y∈aO {r with aa:=r.aa.set b l},y∈aO r:=λy C=>L.mem_iff.mpr (Qpq _ C)
   have Q:∀d:Rm,w.aj[i]?=some d->∀(I:Nat) (H:List (Int×Int)) (s m:Str),(r.aa.set b l)[I]?=some H->d.aa[I]?=some (s,m)->(H.map (·.1)).Pairwise (·<=·)/\(m="row" ->∀p∈H,p.1=0):=λd f I H s m v G=>by
     rcases get_set v with⟨rfl,rfl⟩|⟨_,v⟩
     · obtain⟨R,e2⟩:=u.r4 d f I _ s m M G
       rw[QDq,List.pairwise_cons] at R
       exact⟨R.2,λz q hq=>e2 z q (Qpq _ hq)⟩
     · exact u.r4 d f I H s m v G
   dsimp only
   by_cases c:rm.ah="when free"
   · rw[Qeq c,Qhq rfl]
     exact x.room0 A ⟨λg K=>u.rl g (a _ K),u.r1,u.r2,u.r3,Q⟩ (λt n=>xY L n) a
   · rw[Qdq c,Quq (by decide)]
     have F:(aO {r with aa:=r.aa.set b l,within:=p.2,ag:=r.ag++ [(h:Int)]}).Perm ((h:Int)::aO {r with aa:=r.aa.set b l}):=by
       show(r.row++(r.ag++ [(h:Int)])++_).Perm ((h:Int)::(r.row++r.ag++_))
       rw[←Qvq,Qvq]
       exact List.perm_middle
     have o:∀y∈aO {r with aa:=r.aa.set b l,within:=p.2,ag:=r.ag++ [(h:Int)]},y∈aO r\/y=(h:Int):=λy C=>by
       rcases Qsq.mp (F.mem_iff.mp C) with rfl|C
       · exact .inr rfl
       · exact .inl (a y C)
     obtain⟨g,J,P⟩:=x.hv p.2 (sj x A K)
     refine x.room A ⟨λk B=> ?_,λz=> ?_,.inr ⟨g,J,P,QcQ (u.rl g (by rw[←J];exact K))⟩,λd f z=> ?_,Q⟩ (λt n B=> ?_) o S Y
     · rcases o _ B with B|B
       · exact u.rl k B
       · have:k=h:=by omega
         subst this
         exact Z
     · have z:p.2= -1:=z
       omega
     · rw[X] at f
       cases f
       exact absurd z c
     · refine yp F (xY L n) λz=>B ?_
       rcases mQa.mp z with z|z
       · exact mQa.mpr (.inl (a _ z))
       · exact mQa.mpr (.inr z)
end
section
variable{w:cI}{N:Nat}{ps:List (Int×List Int)}{rs:List cU}{fr fr':Nat->List Int}{h:Nat}
def Q2.take(x:Q2 w N ps rs fr){j:Nat}{p:Int×List Int}(r:ps[j]?=some p)(u:h<N)(A:(h:Int)∉hl ps rs)(B:fr h= [-1]):Q2 w N (ps.set j (gN p h)) rs fr:=by
 obtain⟨⟨C,v⟩,o⟩:=x.pv p (mQg r)
 obtain⟨t,m,s⟩:=xk (rs:=rs) (np:=gN p h) r
 have l:(gN p h).2=p.2\/(gN p h).2=p.2++ [(h:Int)]:=by
  unfold gN
  split
  ·exact .inl rfl
  ·exact .inr rfl
 have d:∀y∈(gN p h).2,y∈p.2\/y=(h:Int):=λy b=>by
  rcases l with e|e
  ·rw[e] at b;exact .inl b
  ·rw[e] at b
   rcases mQa.mp b with b|b
   ·exact .inl b
   ·exact .inr (Qfq.mp b)
 refine⟨x.fo,s.nodup_iff.mpr ?_,λy b=> ?_,λq f=> ?_,λq f g i=> ?_,x.rl,x.r1,x.r2,x.r3,x.r4⟩
 ·have n:=m.nodup_iff.mp x.nd
  rcases l with e|e
  ·rw[e];exact n
  ·rw[e]
   exact yp (a:=p.2) (k:=(h:Int)) (by rw[←List.append_nil p.2];simpa using List.perm_middle (l₁:=p.2) (a:=(h:Int)) (l₂:= [])) n λz=>A (m.mem_iff.mpr z)
 ·rcases mQa.mp (s.mem_iff.mp b) with b|b
  ·rcases d y b with b|rfl
   ·exact x.hv y (m.mem_iff.mpr (mQa.mpr (.inl b)))
   ·exact⟨h,rfl,u⟩
  ·exact x.hv y (m.mem_iff.mpr (mQa.mpr (.inr b)))
 ·rcases QTq f with f|rfl
  ·exact x.pv q f
  ·unfold gN
   split
   ·rename_i c
    refine⟨⟨by show 0<=p.1-1;omega,by show p.1-1<=9;omega⟩,.inr ?_⟩
    rcases o with o|o
    ·omega
    ·exact o
   ·rename_i c
    exact⟨⟨C,v⟩,.inl (by show p.1=0;omega)⟩
 ·rcases QTq f with f|rfl
  ·exact x.pl q f g i
  ·rcases d _ i with i|i
   ·exact x.pl p (mQg r) g i
   ·have:g=h:=by omega
    subst this
    exact B
def Q2.give(x:Q2 w N ps rs fr){j:Nat}{p:Int×List Int}(i:ps[j]?=some p):Q2 w N (ps.set j (fE p)) rs fr:=by
 obtain⟨⟨o,u⟩,e⟩:=x.pv p (mQg i)
 obtain⟨t,f,s⟩:=xk (rs:=rs) (np:=fE p) i
 have m:=x.pl p (mQg i)
 obtain⟨v,l⟩:=p
 have c:∀y∈(fE (v,l)).2,y∈l:=λy b=>by
  unfold fE at b
  cases l with
  |nil=>cases b
  |cons a l=>exact Qpq _ b
 refine⟨x.fo,s.nodup_iff.mpr ?_,λy b=> ?_,λq d=> ?_,λq d g r=> ?_,x.rl,x.r1,x.r2,x.r3,x.r4⟩
 ·have n:=f.nodup_iff.mp x.nd
  unfold fE
  cases l with
  |nil=>exact n
  |cons a l=>exact xY (k:=a) (List.Perm.refl _) n
 ·rcases mQa.mp (s.mem_iff.mp b) with b|b
  ·exact x.hv y (f.mem_iff.mpr (mQa.mpr (.inl (c y b))))
  ·exact x.hv y (f.mem_iff.mpr (mQa.mpr (.inr b)))
 ·rcases QTq d with d|rfl
  ·exact x.pv q d
  ·unfold fE
   cases l with
   | nil=>
     refine⟨?_,.inr rfl⟩
     show 0<=(if 9<v+1 then 9 else v+1)/\(if 9<v+1 then 9 else v+1)<=9
     have o:0<=v:=o
     split <;>omega
   | cons a l=>
     refine⟨⟨o,u⟩,.inl ?_⟩
     rcases e with e|e
     · exact e
     · cases e
 ·rcases QTq d with d|rfl
  ·exact x.pl q d g r
  ·exact m g (c _ r)
def Q2.frames(x:Q2 w N ps rs fr)(b:∀g,g≠h->fr' g=fr g)(n:(h:Int)∉hl ps rs)(m:∀(i:Nat) (r:cU),rs[i]?=some r->r.within=(h:Int)->(i:Int)∈fr' h)(l:(fr' h).head? =some (-1)):Q2 w N ps rs fr':=by
 have f:∀g:Nat,(g:Int)∈hl ps rs->fr' g=fr g:=λg a=>b g λz=>n (by rw[←z];exact a)
 refine⟨λg a=> ?_,x.nd,x.hv,x.pv,λp j g a=> ?_,λi r d g a=> ?_,x.r1,λi r d=> ?_,x.r3,x.r4⟩
 ·by_cases c:g=h
  ·subst c
   exact l
  ·rw[b g c]
   exact x.fo g a
 ·rw[f g (mQa.mpr (.inl (QOq.mpr ⟨p,j,a⟩)))]
  exact x.pl p j g a
 ·rw[f g (sj x d a)]
  exact x.rl i r d g a
 ·rcases x.r2 i r d with z|⟨g,e,a,k⟩
  ·exact .inl z
  ·refine .inr ⟨g,e,a,?_⟩
   by_cases c:g=h
   ·subst c
    exact m i r d e
   ·rw[b g c]
    exact k
end
def rc(f:bU):Int:=if f.room= -1 then(if f.deed= -1/\f.given=0/\f.told=0 then -1 else -2) else f.room
def jK{f:bU}(h:f.room≠-1):rc f=f.room:=Quq h
def ym(s:bj)(g:Nat):List Int:=((s.af[g]?).map λp=>p.2.map rc).getD []
def nL(w:cI)(s:bj):Prop:=Q2 w s.af.length s.ai s.aj (ym s)
section
variable{w:cI}{n h:Nat}{s:bj}{vs:List Int}{fs:List bU}{f:bU}
def j7(a:s.af[h]?=some (vs,fs)):ym s h=fs.map rc:=by
 unfold ym
 rw[a]
 rfl
def wX{p:List Int×List bU}{g:Nat}(a:g≠h):ym {s with af:=s.af.set h p} g=ym s g:=by
 unfold ym
 rw[QKq (Ne.symm a)]
def yz{p:List Int×List bU}(hl:h<s.af.length):ym {s with af:=s.af.set h p} h=p.2.map rc:=by
 unfold ym
 rw[Qyq hl]
 rfl
def nL.quiet(x:nL w s){b:List Int}{a:List bU}(d:s.af[h]?=some (vs,fs))(e:a.map rc=fs.map rc):nL w {s with af:=s.af.set h (b,a)}:=by
 have hl:=(gQs.mp d).1
 have i:ym {s with af:=s.af.set h (b,a)}=ym s:=by
  funext g
  by_cases c:g=h
  ·subst c
   rw[yz hl,j7 d]
   exact e
  ·exact wX c
 unfold nL
 rw[i]
 show Q2 w (s.af.set h (b,a)).length s.ai s.aj (ym s)
 rw[List.length_set]
 exact x
def nL.share(x:nL w s){a:List Int}:nL w {s with ak:=a}:=x
def nL.vals(x:nL w s){i:Nat}{r:cU}{e:List Int}(b:s.aj[i]?=some r):nL w {s with aj:=s.aj.set i {r with vals:=e}}:=by
 have a:=Q2.at x b
 exact Q2.room0 x b ⟨a.rl,a.r1,a.r2,a.r3,a.r4⟩ (λc n=>n) (λy d=>d)
def nL.begun(o:fH w):nL w (bE w):=by
 have j:∀(i:Nat) (r:cU),(bE w).aj[i]?=some r->∃c,w.aj[i]?=some c/\r=cZ c:=λi r j=>by
  simp only[bE,gQm] at j
  obtain⟨c,z,C⟩:=oQm.mp j
  exact⟨c,z,C.symm⟩
 have y:∀c:Rm,∀l∈(cZ c).aa,l= []:=λc l hl=>by
  simp only[cZ,Qkq] at hl
  obtain⟨_,_,e⟩:=hl
  exact e.symm
 have u:∀c:Rm,aO (cZ c)= []:=λc=>by
  unfold aO
  have:(cZ c).aa.flatMap (λl=>l.map (·.2))= []:=List.flatMap_eq_nil_iff.mpr λl hl=>by rw[y c l hl];rfl
  rw[this]
  rfl
 have B:hl (bE w).ai (bE w).aj= []:=by
  unfold hl
  rw[List.append_eq_nil_iff,List.flatMap_eq_nil_iff,List.flatMap_eq_nil_iff]
  refine⟨λp d=> ?_,λr a=> ?_⟩
  ·simp only[bE,Qkq] at d
   obtain⟨q,_,rfl⟩:=d
   rfl
  ·simp only[bE,Qkq] at a
   obtain⟨q,_,rfl⟩:=a
   exact u q
 have v:(bE w).ai.flatMap (·.2)++(bE w).aj.flatMap aO= []:=B
 refine⟨λg k=> ?_,by rw[v];exact .nil,(λx t=>by rw[v] at t;cases t),?_,λp d g k=> ?_,λi r a g k=> ?_,λi r a _=> ?_,λi r a=> ?_,λi r c a _ _=> ?_,λi r c a _ b l nm G F _=> ?_⟩
 ·have m:g<w.af.length:=by simpa [bE] using k
  unfold ym
  simp only[bE,gQm,gQe m,Option.map_some,Option.getD_some]
  rfl
 ·intro p d
  simp only[bE,Qkq] at d
  obtain⟨q,A,rfl⟩:=d
  have:=o.pv q A
  exact⟨⟨by show(0:Int)<=(q.2:Int);omega,by show(q.2:Int)<=9;omega⟩,.inr rfl⟩
 ·simp only[bE,Qkq] at d
  obtain⟨q,_,rfl⟩:=d
  cases k
 ·obtain⟨c,_,rfl⟩:=j i r a
  rw[u] at k
  cases k
 ·obtain⟨c,_,rfl⟩:=j i r a
  exact⟨rfl,rfl⟩
 ·obtain⟨c,_,rfl⟩:=j i r a
  exact .inl rfl
 ·obtain⟨c,_,rfl⟩:=j i r a
  rfl
 ·obtain⟨c,_,rfl⟩:=j i r a
  rw[y c l (mQg F)]
  exact⟨.nil,λ_ p d=>by cases d⟩
end
section
variable{w:cI}{n h:Nat}{s:bj}{vs:List Int}{fs:List bU}{f:bU}{sc:Sc}
def lY{f':bU}(a:fs.getLast? =some f)(e:rc f'=rc f):(fs.dropLast++ [f']).map rc=fs.map rc:=by
 conv=>rhs;rw[iq a]
 rw[Qzq,Qzq]
 show _++ [rc f']=_++ [rc f]
 rw[e]
def Cs{y:Str}{v:Int}(o:fH w)(x:cg w n s)(q:nL w s)(k:s.af[h]?=some (vs,fs))(l:fs.getLast? =some f)(u:DE w h f=some sc)(z:y∈sc.ps)(m:0<=v/\v<=9):∃p,Puts w s h y v p/\cg w n p/\nL w p:=by
 obtain⟨A,M,i,j⟩:=x.whand k
 have G:=o.hd _ (mQg i)
 have B:=j.fr f (QcQ l)
 have K:=o.l1
 have P:=o.l3
 have F:=G.l1
 have I:=o.l4
 have L:=x.lr
 have N:=x.lh
 rcases lC u with⟨c,C,H,g,rfl⟩|⟨c,r,hr,rfl⟩
 ·rw[i] at g
  cases g
  refine⟨xN w s h A vs fs y v,λS Q q=>Hb i k l c x.ls j.lv (by omega) (by dsimp only at F;omega) (by omega) z q,?_⟩
  unfold xN
  split
  ·obtain⟨e,d⟩:=nB (ns:=w.ak.map (·.1)) (y:=y) x.sv m
   exact⟨x.share e d,q.share⟩
  ·obtain⟨e,d⟩:=nB (ns:=A.map (·.1)) (y:=y) j.vv m
   exact⟨x.hand i (j.vals e d),q.quiet k rfl⟩
 ·obtain⟨R,b,a⟩:=x.wroom hr
  have t:=o.rm r (mQg hr)
  have J:=t.l1
  refine⟨_,λS Q q=>F0 k l (pW B c) hr b a.lv (by omega) (by omega) z q,?_⟩
  obtain⟨e,d⟩:=nB (ns:=r.ao.map (·.1)) (y:=y) a.vv m
  exact⟨x.room hr ⟨by rw[a.lv,←e],a.lb,d,a.br,a.bl,a.bb⟩,q.vals b⟩
def Dp(hi:iL fs)(g:fs.getLast? =some f)(c:f.room= -1)(b:(fs.map rc).head? =some (-1)):fs.map rc= [-1]:=by
 have e:=iq g
 rw[e] at hi b⊢
 cases d:fs.dropLast with
 | nil=>
   rw[d] at b
   rw[List.nil_append]
   have b:some (rc f)=some (-1):=b
   show [rc f]= [-1]
   rw[QdQ b]
 | cons a l=>
   rw[d] at hi
   exact absurd c (hi.2 f (mQa.mpr (.inr (Qfq.mpr rfl))))
def Hf{r:Rw}{pr:List Rw}(o:fH w)(x:cg w n s)(P:nL w s)(I:(h:Int)∉held s)(hn:n<=100)(B:s.af[h]?=some (vs,fs))(H:fs.getLast? =some f)(hp:progOf w h f=some pr)(h1:1<=f.row)(a2:pr[(f.row-1).toNat]?=some r):∃s',Kc w s h r s'/\cg w (n+1) s'/\nL w s':=by
 obtain⟨sc,J,c4⟩:=EY o hp
 have b:=c4 r (mQg a2)
 obtain⟨ts,a3,hw,hi⟩:=x.whand B
 have fi:=hi.fr f (QcQ H)
 have hl:h<s.af.length:=(gQs.mp B).1
 have b1:=o.l1
 have b2:=o.l2
 have b3:=o.l3
 have b4:=o.l4
 have lr:=x.lr
 have lp:=x.lp
 have lh:=x.lh
 have lf:=hi.lf
 have W:=x.mono (Nat.le_succ n)
 have a0:f.room≠-1->(ym s h).getLast? =some f.room:=λc=>by rw[j7 B,QfQ,H];exact congrArg some (jK c)
 have f0:=P.fo h hl
 have C:sc.own=false->∃(i:Nat) (r:Rm) (rs:cU),f.room=i/\w.aj[i]?=some r/\s.aj[i]?=some rs/\iW n r rs/\Ag (bM w.aj) r/\sc.bs=r.aa.map (·.1):=λho=>by
  rcases lC J with⟨c,b9,a3,a6,rfl⟩|⟨c,r,N,rfl⟩
  ·cases ho
  ·obtain⟨rs,k,K⟩:=x.wroom N
   exact⟨_,r,rs,pW fi c,N,k,K,o.rm r (mQg N),rfl⟩
 have G:sc.own=true->sc.ts=w.ai.map (·.1)/\ym s h= [-1]:=λho=>by
  rcases lC J with⟨c,b9,a3,a6,rfl⟩|⟨c,r,N,rfl⟩
  ·exact⟨rfl,by rw[j7 B] at f0⊢;exact Dp hi.hd H c f0⟩
  ·cases ho
 have F:∀y,y∈w.ai.map (·.1)->∀ps:List (Int×List Int),w.ai.length=ps.length->∃p,ps[fQ (w.ai.map (·.1)) y]?=some p:=λy A ps hl=>by
  have:=(jC A).1
  rw[lQm] at this
  exact⟨_,gQe (by omega)⟩
 have Y:∀p:Int×List Int,p.2.length<=n->(gN p h).2.length<=n+1:=λp hp=>by
  unfold gN
  split
  ·show p.2.length<=_;omega
  ·simp;omega
 have X:∀p:Int×List Int,p.2.length<=n->(fE p).2.length<=n:=λp hp=>by
  obtain⟨v,l⟩:=p
  unfold fE
  cases l with
  |nil=>simp
  |cons a l=>simp at hp;show l.length<=n;omega
 cases r with
 | put y t=>
   obtain⟨v,hv,N⟩:=lX o x B H J b.2
   obtain⟨s',u,c5,c6⟩:=Cs o x P B H J b.1 hv
   exact⟨s',λS Q q=>DP N u q,c5.mono (Nat.le_succ n),c6⟩
 | unl t m=>
   obtain⟨v,hv,N⟩:=lX o x B H J b.1
   refine⟨_,λS Q q=>x_ N B H (by omega) (by omega) q,?_⟩
   split
   · exact⟨W.goes B H hp (by omega) (by have:=b.2;omega),P.quiet B (lY H rfl)⟩
   · exact⟨W,P⟩
 |go m=>exact⟨_,λS Q q=>FW B H (by omega) (by omega) q,W.goes B H hp (by omega) (by have:m<=pr.length:=b;omega),P.quiet B (lY H rfl)⟩
 | do_ g rn dn t=>
   obtain⟨v,hv,N⟩:=lX o x B H J b.2.2
   have c3:sc.gs=bM w.aj:=by
     rcases lC J with⟨c,b9,a3,a6,rfl⟩|⟨c,r,N,rfl⟩ <;>rfl
   have c0:=b.2.1
   rw[c3] at c0
   obtain⟨a1,r,d,c1⟩:=G_ o c0
   obtain⟨rs,k,K⟩:=x.wroom d
   have R:=o.rm r (mQg d)
   have b5:=R.l3
   have b6:=K.br
   refine⟨_,λS Q q=>Fo N B a1 d k c1 (by omega) (by omega) (by omega) (by omega) (by omega) (by omega) q,?_⟩
   have c2:=jC c1
   have a5:=c2.1
   rw[lQm] at a5
   obtain⟨⟨d3,b8⟩,d0⟩:∃p,r.ae[fQ (r.ae.map (·.1)) dn]?=some p:=⟨_,gQe a5⟩
   have pf:progOf w h ⟨(fQ (w.aj.map (·.name)) rn:Nat),(fQ (r.ae.map (·.1)) dn:Nat),0,v,0⟩=some b8:=D9 rfl rfl d d0
   have hh:=hi.push (f':=⟨(fQ (w.aj.map (·.name)) rn:Nat),(fQ (r.ae.map (·.1)) dn:Nat),0,v,0⟩) H ⟨pr,g,rn,dn,t,hp,h1,a2⟩ (by show((fQ (w.aj.map (·.name)) rn:Nat):Int)≠-1;omega) ⟨⟨b8,pf,by show(0:Int)<=0;omega,by show(0:Int)<=_;omega⟩,hv,by show(0:Int)<=0/\(0:Int)<=9;omega⟩
   refine⟨(W.hand hw hh).room d K.come,?_⟩
   generalize fQ (r.ae.map (·.1)) dn=dd
   generalize fQ (w.aj.map (·.name)) rn=i at k
   have eo:ym {s with af:=s.af.set h (vs,fs++ [(⟨i,dd,0,v,0⟩:bU)]),aj:=s.aj.set i (iC rs h)} h=fs.map rc++ [(i:Int)]:=by
     have:=yz (s:={s with aj:=s.aj.set i (iC rs h)}) (h:=h) (p:=(vs,fs++ [(⟨i,dd,0,v,0⟩:bU)])) hl
     rw[Qzq] at this
     rw[show [(i:Int)]= [(⟨i,dd,0,v,0⟩:bU)].map rc by show _= [rc _];rw[jK (by show(i:Int)≠-1;omega)]]
     exact this
   have q3:Q2 w s.af.length s.ai s.aj (ym {s with af:=s.af.set h (vs,fs++ [(⟨i,dd,0,v,0⟩:bU)]),aj:=s.aj.set i (iC rs h)}):=by
     refine Q2.frames P (h:=h) (λg hg=> ?_) I (λj r' hj e=> ?_) ?_
     · exact wX (s:={s with aj:=s.aj.set i (iC rs h)}) hg
     · rw[eo]
       rcases P.r2 j r' hj with z|⟨g,e',_,hm⟩
       · omega
       · have:g=h:=by omega
         subst this
         rw[j7 B] at hm
         exact mQa.mpr (.inl hm)
     · rw[eo]
       rw[j7 B] at f0
       cases b0:fs.map rc with
       |nil=>rw[b0] at f0;cases f0
       |cons a l=>rw[b0] at f0;exact f0
   have q4:=q3.come (h:=h) k hl I (by rw[eo];simp)
   unfold nL
   show Q2 w (s.af.set h _).length s.ai (s.aj.set i (iC rs h)) _
   rw[List.length_set]
   exact q4
 | wait y t=>
   obtain⟨i,r,rs,L,d,k,K,R,U⟩:=C b.1
   obtain⟨v,hv,N⟩:=lX o x B H J b.2.2
   have A:=b.2.1
   rw[U] at A
   have b6:=R.l2
   have lb:=K.lb
   obtain⟨k1,k2⟩:=jC A
   rw[lQm] at k1
   rw[gQm] at k2
   obtain⟨⟨y',so⟩,k3,k4⟩:=oQm.mp k2
   have k4:y'=y:=k4
   subst k4
   obtain⟨Z,M⟩:∃l,rs.aa[fQ (r.aa.map (·.1)) y']?=some l:=⟨_,gQe (by omega)⟩
   have ll:=K.bb Z (mQg M)
   refine⟨_,λS Q q=>Bn B H L d k (by omega) lb (by omega) A k3 M (by omega) N q,?_⟩
   refine⟨W.room d (((K.mono (Nat.le_succ n)).line (by rw[ES];omega)).leave),?_⟩
   exact Q2.wait P (h:=h) k d M k3 (λz=>by rw[z,Quq (by decide +kernel)]) hl I (by rw[a0 (by omega),L])
 | call y=>
   obtain⟨i,r,rs,L,d,k,K,R,U⟩:=C b.1
   have A:=b.2
   rw[U] at A
   have b6:=R.l2
   have b7:=K.bl
   have lb:=K.lb
   have k1:=(jC A).1
   rw[lQm] at k1
   obtain⟨Z,M⟩:∃l,rs.aa[fQ (r.aa.map (·.1)) y]?=some l:=⟨_,gQe (by omega)⟩
   refine⟨_,λS Q q=>AM B H L d k (by omega) K.lb (by omega) (by omega) A q,?_⟩
   exact⟨W.room d K.call,Q2.call P (h:=h) k d M hl I (by rw[a0 (by omega),L])⟩
 | all y=>
   obtain⟨i,r,rs,L,d,k,K,R,U⟩:=C b.1
   have A:=b.2
   rw[U] at A
   have b6:=R.l2
   have lb:=K.lb
   have k1:=(jC A).1
   rw[lQm] at k1
   obtain⟨Z,M⟩:∃l,rs.aa[fQ (r.aa.map (·.1)) y]?=some l:=⟨_,gQe (by omega)⟩
   refine⟨_,λS Q q=>D5 B H L d k (by omega) K.lb (by omega) A q,?_⟩
   exact⟨W.room d ((K.mono (Nat.le_succ n)).line (by simp)),Q2.all P k M⟩
 | tell t=>
   obtain⟨v,hv,N⟩:=lX o x B H J b.2
   exact⟨_,λS Q q=>BG N B H (by omega) (by omega) q,W.tells B H hv,P.quiet B (lY H (by
     have a1:f.room≠-1:=by obtain⟨i,r,rs,L,_⟩:=C b.1;omega
     rw[jK a1];exact jK (f:={f with told:=v}) a1))⟩
 | take y=>
   have A:=b.2
   rw[(G b.1).1] at A
   obtain⟨p,u⟩:=F y A s.ai lp
   have pl:=x.ps p (mQg u)
   exact⟨_,λS Q q=>Bb A u (by omega) (by omega) (by omega) q,W.pass (Y p pl),Q2.take P u hl I (G b.1).2⟩
 | give y=>
   have A:=b.2
   rw[(G b.1).1] at A
   obtain⟨p,u⟩:=F y A s.ai lp
   have pl:=x.ps p (mQg u)
   exact⟨_,λS Q q=>Ax A u (by omega) (by omega) q,W.pass (Nat.le_succ_of_le (X p pl)),Q2.give P u⟩
 | pass y z=>
   have A:=b.2.1
   have hz:=b.2.2
   rw[(G b.1).1] at A hz
   obtain⟨p,u⟩:=F y A s.ai lp
   have pl:=x.ps p (mQg u)
   have x2:cg w n _:=x.pass (i:=fQ (w.ai.map (·.1)) y) (X p pl)
   obtain⟨p2,a4⟩:=F z hz (s.ai.set (fQ (w.ai.map (·.1)) y) (fE p)) (by simpa using lp)
   have d1:=x2.ps p2 (mQg a4)
   have q3:=Q2.give P u
   refine⟨_,λS Q q=>Bg A hz u (by omega) (by omega) (by omega) a4 q,(x2.mono (Nat.le_succ n)).pass (Y p2 d1),Q2.take q3 a4 hl ?_ (G b.1).2⟩
   intro zz
   obtain⟨d2,e1,e2⟩:=xk (rs:=s.aj) (np:=fE p) u
   refine I (e1.mem_iff.mpr ?_)
   rcases mQa.mp (e2.mem_iff.mp zz) with zz|zz
   · refine mQa.mpr (.inl ?_)
     obtain⟨v,l⟩:=p
     unfold fE at zz
     cases l with
     |nil=>cases zz
     |cons a l=>exact Qpq _ zz
   · exact mQa.mpr (.inr zz)
 |say t=>exact⟨s,λS Q q=>CQ (sd:=.non) q,W,P⟩
def Hv(o:fH w)(x:cg w n s)(Y:nL w s)(hn:n<=100)(hm:h∈i0 w s)(u:s.af[h]?=some (vs,fs))(C:fs.getLast? =some f):∃F e,wx w s h F e/\cg w (n+1) F/\nL w F:=by
 obtain⟨ts,c0,hw,hi⟩:=x.whand u
 have fi:=hi.fr f (QcQ C)
 obtain⟨pr,I,a3,b7⟩:=fi.pr
 have hl:h<s.af.length:=(gQs.mp u).1
 have b1:=o.l1
 have b4:=o.l4
 have lr:=x.lr
 have lh:=x.lh
 have lf:=hi.lf
 have mm:=(List.mem_filter.mp hm).2
 rw[QCq] at mm
 have A:(h:Int)∉held s:=by
  intro z
  have:=mm.1
  rw[Qeq z] at this
  cases this
 have nb:¬(f.room= -1/\f.row=pr.length):=by
  rintro⟨c1,c2⟩
  have hb:p0 w s h=true:=by
   unfold p0 vT
   rw[u]
   show(match fs.getLast? with|some f=>_|none=>_)=_
   rw[C]
   simp only[I,Option.getD_some,c1,c2,decide_true,Bool.and_true]
  rw[hb] at mm
  exact absurd mm.2 (by decide)
 have row:∀(r:Rw) (e:Option Int),Here s h f->pr[f.row.toNat]?=some r->Ka w s h r e->∃F e,wx w s h F e/\cg w (n+1) F/\nL w F:=λr e p b R=>by
  have G:=(gQs.mp b).1
  have x2:=x.goes u C I (m:=f.row+1) (by omega) (by omega)
  have q3:nL w {s with af:=s.af.set h (vs,fs.dropLast++ [{f with row:=f.row+1}])}:=Y.quiet u (lY C rfl)
  obtain⟨F,hd,N,P⟩:=Hf (f:={f with row:=f.row+1}) (r:=r) (pr:=pr) o x2 q3 A hn (Qyq hl) (by simp) I (by show 1<=f.row+1;omega) (by show pr[(f.row+1-1).toNat]?=_;rw[show f.row+1-1=f.row by omega];exact b)
  exact⟨F,e,El u C p I a3 b (by omega) (by omega) R hd,N,P⟩
 obtain⟨sc,b3,a6⟩:=EY o I
 have H:∀r,pr[f.row.toNat]?=some r->∃e,Ka w s h r e:=λr b=>by
  have X:=a6 r (mQg b)
  cases r with
  | say t=>
    obtain⟨v,hv,hr⟩:=lX o x u C b3 X.2
    exact⟨some v,v,rfl,hr⟩
  |_=>exact⟨none,rfl⟩
 by_cases c:f.room= -1
 ·have G:f.row.toNat<pr.length:=by
   have:f.row≠pr.length:=λz=>nb ⟨c,z⟩
   omega
  have b:pr[f.row.toNat]?=some (pr[f.row.toNat]):=gQe G
  obtain⟨e,R⟩:=H _ b
  exact row _ e (.inl c) b R
 ·rcases jY I with⟨c',_⟩|⟨i,j,r,dn,Z,h2,h3,h4⟩
  ·exact absurd c' c
  obtain⟨B,k,ri⟩:=x.wroom h3
  have br:=ri.br
  have W:(ym s h).getLast? =some (i:Int):=by rw[j7 u,QfQ,C,←Z];exact congrArg some (jK c)
  by_cases cw:B.within=h
  ·have p:Here s h f:=.inr ⟨i,B,Z,k,cw⟩
   by_cases ce:f.row=pr.length
   ·have a2:=iq C
    have hd:=hi.hd
    rw[a2] at hd
    obtain⟨J,U,hg⟩:=hd.two c
    have a4:fs=J++ [U,f]:=by rw[a2,hg];simp
    subst a4
    obtain⟨b2,b0⟩:=hi.pop
    obtain⟨b8,g,rn,b9,t,p1,p2,p3⟩:=b0
    have x2:cg w n {s with aj:=s.aj.set i (cy B),af:=s.af.set h (vs,J++ [U])}:=(x.hand hw b2).room h3 ri.leave
    have ql:=Q2.leave Y k
    have M:(h:Int)∉W28.hl s.ai (s.aj.set i (cy B)):=by
     intro z
     obtain⟨b5,e1,e2⟩:=x8 (ps:=s.ai) (nr:=cy B) k
     refine A (e1.mem_iff.mpr ?_)
     rcases mQa.mp (e2.mem_iff.mp z) with z|z
     ·refine mQa.mpr (.inl ?_)
      rcases leave_held B with⟨a,K,_⟩|⟨R,_⟩
      ·exact K.mem_iff.mpr (Qpq _ z)
      ·rw[←R];exact z
     ·exact mQa.mpr (.inr z)
    have q3:nL w {s with aj:=s.aj.set i (cy B),af:=s.af.set h (vs,J++ [U])}:=by
     have eo:ym {s with aj:=s.aj.set i (cy B),af:=s.af.set h (vs,J++ [U])} h=(J++ [U]).map rc:=yz (s:={s with aj:=s.aj.set i (cy B)}) hl
     unfold nL
     show Q2 w (s.af.set h _).length s.ai (s.aj.set i (cy B)) _
     rw[List.length_set]
     refine Q2.frames ql (h:=h) (λg hg=>wX (s:={s with aj:=s.aj.set i (cy B)}) hg) M (λj r' hj e=> ?_) ?_
     ·rw[eo]
      rcases get_set hj with⟨rfl,rfl⟩|⟨hne,hj⟩
      ·exfalso
       rcases leave_held B with⟨a,K,L⟩|⟨_,L,_⟩
       ·rw[L] at e
        refine A (sj (fr:=ym s) Y k ?_)
        rw[←e]
        exact K.mem_iff.mpr (QBq ..)
       ·rw[L] at e
        omega
      ·rcases Y.r2 j r' hj with z|⟨g',e',_,d⟩
       ·omega
       ·have:g'=h:=by omega
        subst this
        rw[j7 u,show J++ [U,f]=(J++ [U])++ [f] by simp,Qzq] at d
        rcases mQa.mp d with d|d
        ·exact d
        ·have d:=Qfq.mp (show(j:Int)∈[rc f] from d)
         rw[jK c,Z] at d
         exact absurd (by omega:j=i) hne
     ·rw[eo]
      have f0:=Y.fo h hl
      rw[j7 u] at f0
      cases J with
      |nil=>exact f0
      |cons a l=>exact f0
    obtain⟨b6,a1,a0⟩:=EY o p1
    have X:=a0 _ (mQg p3)
    cases g with
    | none=>
      exact⟨_,none,yD u C p I ce λS Q q=>qB u Z k (by omega) (by omega) p1 p2 p3 (λ_ e=>e.symm) q,x2.mono (Nat.le_succ n),q3⟩
    | some y=>
      obtain⟨F,a5,N,P⟩:=Cs (y:=y) (v:=f.told) o x2 q3 (Qyq hl) (by simp) a1 (X.1 y rfl) fi.tv
      exact⟨F,none,yD u C p I ce λS Q q=>qB u Z k (by omega) (by omega) p1 p2 p3 (λ_ e=>by rw[e];exact a5) q,N.mono (Nat.le_succ n),P⟩
   ·have G:f.row.toNat<pr.length:=by omega
    have b:pr[f.row.toNat]?=some (pr[f.row.toNat]):=gQe G
    obtain⟨e,R⟩:=H _ b
    exact row _ e p b R
  ·exact⟨_,none,CS u C Z k cw (by omega) (by omega),(x.mono (Nat.le_succ n)).room h3 ri.come,Q2.come Y (h:=h) k hl A W⟩
end
end W28
namespace DL
open PySem PySem.Spec L2
section
variable{Γ:cv}{S:aC}
def yf{f:dz}{Q:(List D×(aC->Prop))->aC->Prop}(h:E f Γ S λp a=>Q (ji 0 p.1,λb=>p.2.stays b p.1) a):E (sV f) Γ S Q:=by
 obtain⟨p,a,c,q⟩:=h
 exact⟨_,a,by unfold sV;rw[c];rfl,q⟩
def Ld{f:dz}{Q:D->aC->Prop}(h:E f Γ S λp a=>p.2.isL=true/\∃bs,IW p.1=some bs/\Q (.bl (bs.all id)) a):E (HW f) Γ S Q:=by
 obtain⟨p,a,c,l,bs,b,q⟩:=h
 exact⟨_,a,by unfold HW;rw[c];simp only[Qbq];rw[Qhq l,b];rfl,q⟩
def LW{i j:Int}{Q:D->Prop}(h:F4 i j)(q:Q (.int (i^j.toNat))):Op (E6 S (.int i) (.int j)) Q:=⟨_,by simp only[E6,intD];rw[Qhq h],q⟩
end
theorem y6:∀n:Nat,IW (List.replicate n (.bl true))=some (List.replicate n true)
 |0=>rfl
 |n+1=>by simp only[QNq,IW];rw[y6 n];rfl
end DL
namespace W28
open PySem PySem.Spec L2 DL
section
variable{S S0:aC}{Q:Res->aC->Prop}
def pJ(l:List Nat):l.map iu=(l.map λh:Nat=>(h:Int)).map D.int:=by rw[QPq];rfl
def sX{l:List Nat}:∀d∈l.map iu,(∀k,d≠.ref k)/\bK 0 d=true:=λd b=>by
 obtain⟨a,_,rfl⟩:=Qkq.mp b
 exact⟨λk z=>(nomatch z),rfl⟩
end
end W28
namespace DL
open PySem PySem.Spec L2
theorem CK{α:Type}(d:α):∀n:Nat,(List.replicate n [d]).flatten=List.replicate n d
 |0=>rfl
 |n+1=>by rw[QNq,QNq,List.flatten_cons,CK d n];rfl
def JV{a:cv}{S:aC}{f:dz}{g:bx}{Q:List D->aC->Prop}(h:E f a S λp b=>E g a b λr S2=>∃(n:Nat) (d:D),r=.int n/\p.1= [d]/\(p.2.isM=true/\p.2.stays S2 p.1/\n<=1000)/\Q (List.replicate n d) S2):E (AO f g) a S Q:=by
 obtain⟨p,b,e,r,S2,c,n,d,rfl,h0,⟨h1,h2,h3⟩,q⟩:=h
 refine⟨_,S2,?_,q⟩
 unfold AO
 rw[e]
 simp only[Qbq]
 rw[c]
 simp only[Qbq]
 rw[Qhq ⟨h1,h2,by omega,by omega,by rw[h0];simp only[Qnq,QGq,Int.toNat_natCast];exact nQl (aZ (by omega))⟩]
 rw[h0,show((n:Int)).toNat=n by omega,CK]
theorem zip_map{α a:Type}(f:α->D)(g:a->D):∀(xs:List α) (ys:List a),zf (xs.map f) (ys.map g)=(xs.zip ys).map λp=>D.tup [f p.1,g p.2]
 | [],_=>rfl
 |_::_,[]=>rfl
 | x::xs,y::ys=>by
   have:=zip_map f g xs ys
   simp only[zf,QDq,List.zipWith_cons_cons,List.zip_cons_cons] at this⊢
   rw[this]
end DL
namespace W28
open PySem PySem.Spec L2 DL
def eF(l:List Int)(h:Int):Nat:=(l.map V.int).countP λz=>jz z (.int h)
def dD{l:List Int}{h:Int}:eF l h=0↔h∉l:=by
 induction l with
 |nil=>simp[eF]
 | cons a l b=>
   unfold eF at b⊢
   rw[QDq,List.countP_cons]
   by_cases c:a=h
   · subst c
     simp[jz]
   · have d:¬h=a:=λz=>c z.symm
     have e:jz (.int a) (.int h)=false:=by simp[jz,c]
     rw[e]
     simp only[Qsq,not_or,d,not_false_eq_true,true_and]
     simpa using b
def qS(h:Nat)(p:(Str×Nat)×(Int×List Int)):List D:=List.replicate (eF p.2.2 h) (.tup [.str "pass",.str p.1.1])
def mh(h:Nat)(nm:Str)(p:(Str×Str)×List (Int×Int)):List D:=List.replicate (p.2.filter λq=>decide (q.2=(h:Int))).length (.tup [.str "bell",.str nm,.str p.1.1])
def kF(h:Nat)(p:Rm×cU):List D:=List.replicate (eF p.2.row h) (.tup [.str "row",.str p.1.name])++List.replicate (eF p.2.ag h) (.tup [.str "late",.str p.1.name])
def fO(h:Nat)(p:Rm×cU):List D:=kF h p++(p.1.aa.zip p.2.aa).flatMap (mh h p.1.name)
def bS(w:cI)(s:bj)(h:Nat):List D:=(w.ai.zip s.ai).flatMap (qS h)++(w.aj.zip s.aj).flatMap (fO h)
def rQ{n:Nat}{d:D}(h:bK 0 d=true):∀x∈List.replicate n d,bK 0 x=true:=λx a=>by rw[QkQ a];exact h
def wo(w:cI)(s:bj)(h:Nat):bD 0 (bS w s h)=true:=by
 refine rN λd b=> ?_
 unfold bS at b
 rcases mQa.mp b with b|b
 ·obtain⟨p,_,a⟩:=QOq.mp b
  exact rQ rfl d a
 ·obtain⟨p,_,a⟩:=QOq.mp b
  unfold fO kF at a
  rcases mQa.mp a with a|a
  ·rcases mQa.mp a with a|a
   ·exact rQ rfl d a
   ·exact rQ rfl d a
  ·obtain⟨q,_,c⟩:=QOq.mp a
   exact rQ rfl d c
section
variable{w:cI}{n:Nat}{s:bj}{S:aC}{Q:Res->aC->Prop}
def cg.zroom(x:cg w n s){j:Nat}{p:Rm×cU}(h:(w.aj.zip s.aj)[j]?=some p):w.aj[j]?=some p.1/\s.aj[j]?=some p.2/\iW n p.1 p.2:=by
 rw[List.getElem?_zip_eq_some] at h
 exact⟨h.1,h.2,x.rm j _ _ h.1 h.2⟩
end
def mO(w:cI)(h:Nat):Nat:=((w.af[h]?).map λp=>p.2.length).getD 0
def Nm(w:cI)(i:Int):Str:=((w.aj[i.toNat]?).map (·.name)).getD ""
def wit(s:bj)(i:Int):Int:=((s.aj[i.toNat]?).map (·.within)).getD (-1)
def mE(w:cI)(s:bj)(h:Nat)(f:bU):Str:=if f.room= -1 then(if f.row=(mO w h:Int) then "done" else "out") else(if wit s f.room=(h:Int) then "within" else "called")
def kE(w:cI)(s:bj)(h:Nat)(f:bU):D:=if f.room= -1 then .tup [.str (mE w s h f)] else .tup [.str (mE w s h f),.str (Nm w f.room)]
def gE(w:cI)(s:bj)(h:Nat)(f:bU):D:=match bS w s h with
 |d::_=>d
 | []=>kE w s h f
section
variable{w:cI}{n h:Nat}{s:bj}{S:aC}{Q:Res->aC->Prop}{vs:List Int}{fs:List bU}{f:bU}
def cg.at(x:cg w n s)(o:s.af[h]?=some (vs,fs))(k:fs.getLast? =some f):f.room= -1\/∃(i:Nat) (r:Rm) (rs:cU),f.room=i/\w.aj[i]?=some r/\s.aj[i]?=some rs/\Nm w f.room=r.name/\wit s f.room=rs.within:=by
 obtain⟨p,u,t,m⟩:=x.whand o
 have g:=m.fr f (QcQ k)
 obtain⟨l,e,_⟩:=g.pr
 rcases jY e with⟨c,_⟩|⟨i,j,r,v,b,y,d,q⟩
 ·exact .inl c
 ·obtain⟨rs,a,z⟩:=x.wroom d
  refine .inr ⟨i,r,rs,b,d,a,?_,?_⟩
  ·unfold Nm
   rw[b,show((i:Int)).toNat=i by omega,d]
   rfl
  ·unfold wit
   rw[b,show((i:Int)).toNat=i by omega,a]
   rfl
def lZ{d:D}(e:d∈bS w s h):∃(a:Str) (ss:List Str),d=.tup ((a::ss).map D.str)/\a∈(["pass","row","late","bell"]:List Str)/\ss.length<=2:=by
 unfold bS at e
 rcases mQa.mp e with c|c
 ·obtain⟨p,_,b⟩:=QOq.mp c
  exact⟨"pass",[p.1.1],QkQ b,by simp,by simp⟩
 ·obtain⟨p,_,b⟩:=QOq.mp c
  unfold fO kF at b
  rcases mQa.mp b with b|b
  ·rcases mQa.mp b with b|b
   ·exact⟨"row",[p.1.name],QkQ b,by simp,by simp⟩
   ·exact⟨"late",[p.1.name],QkQ b,by simp,by simp⟩
  ·obtain⟨q,_,g⟩:=QOq.mp b
   exact⟨"bell",[p.1.name,q.1.1],QkQ g,by simp,by simp⟩
end
def headD(l:List D):D:=match l with
 |d::_=>d
 | []=>.non
def jl{α:Type}{f:α->List D}{l:List α}{n:Nat}{a:α}{d:D}{r:List D}(g:(l.take n).flatMap f= [])(b:l[n]?=some a)(hd:f a=d::r):∃t,l.flatMap f=d::t:=by
 have e:l=l.take n++a::l.drop (n+1):=by
  have c:=(gQs.mp b).1
  rw[gQe c] at b
  cases b
  rw[←QWq c,List.take_append_drop]
 rw[e,List.flatMap_append,g,QSq,hd]
 exact⟨_,rfl⟩
def r8{α:Type}{n:Nat}{d:α}(h:n≠0):∃t,List.replicate n d=d::t:=by
 cases n with
 |zero=>exact absurd rfl h
 |succ n=>exact⟨_,QNq⟩
def wj{h:Nat}{l:List (Int×Int)}:(l.filter λq=>decide (q.2=(h:Int))).length=0↔(h:Int)∉l.map (·.2):=by
 rw[List.length_eq_zero_iff,List.filter_eq_nil_iff]
 constructor
 ·intro g z
  obtain⟨q,a,e⟩:=Qkq.mp z
  exact g q a (Qeq e)
 ·intro g q a z
  exact g (Qkq.mpr ⟨q,a,QZq z⟩)
section
variable{w:cI}{n h:Nat}{s:bj}{S:aC}{Q:Res->aC->Prop}{vs:List Int}{fs:List bU}{f:bU}
def F9(o:fH w)(x:cg w n s)(hn:n<=100)(q:Q (.d (headD (bS w s h))) S):Fn eN [w.d,s.d,.int h] S Q:=by
 have lr:=x.lr
 have lp:=x.lp
 have r:∀{d:D} {t:List D} {R:Res->aC->Prop},bS w s h=d::t->(∀k,d≠.ref k)->bK 0 d=true->Op (settle S d S) λp=>Q p.1 p.2:=λ{d t R} e h1 h2=>by
  rw[e] at q
  exact cq h1 h2 q
 refine bT ?_
 unfold gK
 apply bA (fe (m5 ?_))
 refine aw rfl ?_
 apply bH (ds:=w.ai.map uK) ?_
 refine aw rfl ?_
 refine bH (ds:=s.ai.map Ar) ?_
 refine⟨⟨trivial,by simp only[lQm];omega⟩,?_⟩
 rw[zip_map]
 refine⟨λj l J=>(∃a b c d e f g i k,l= [some w.d,some s.d,some (.int h),a,b,c,d,e,f,g,i,k])/\J=S/\((w.ai.zip s.ai).take j).flatMap (qS h)= [],⟨⟨_,_,_,_,_,_,_,_,_,rfl⟩,rfl,rfl⟩,λ_ _ _ _=>⟨trivial,trivial⟩,?_,?_⟩
 ·rintro j d l J B ⟨⟨a,b,c,G,e,P,g,i,k,rfl⟩,rfl,h0⟩
  rw[gQm] at B
  obtain⟨p,y,rfl⟩:=oQm.mp B
  refine dG rfl (ax (dG rfl (ax (aS (ax (aS (a8 ?_)))))))
  refine ax (dG rfl (ax (aS (ax (aS (a8 ?_))))))
  refine a8 ?_
  apply dX (bV (zC ?_))
  refine bH (ds:=p.2.2.map D.int) ?_
  refine⟨_,_,rfl,dH _,?_⟩
  rw[jO]
  show if decide ((h:Int)∈p.2.2)=true then _ else _
  by_cases v:(h:Int)∈p.2.2
  ·rw[Qeq v,Qhq rfl]
   symm
   refine⟨by show 2<=_;decide,?_⟩
   obtain⟨t,C⟩:=r8 (n:=eF p.2.2 h) (d:=D.tup [.str "pass",.str p.1.1]) λz=>dD.mp z v
   obtain⟨H,u⟩:=jl h0 y (show qS h p=_::_ from C)
   exact r (R:=Q) (show bS w s h=_::(H++_) by unfold bS;rw[u];rfl) (λk z=>(nomatch z)) rfl
  ·rw[Qdq v,Quq (by decide)]
   refine bW ?_
   refine⟨⟨_,_,_,_,_,_,_,_,_,rfl⟩,rfl,?_⟩
   rw[g7 y,h0]
   unfold qS
   rw[dD.mpr v]
   rfl
 rintro l J ⟨⟨a,b,c,G,e,P,g,i,k,rfl⟩,rfl,h0⟩
 rw[lQm,QEq] at h0
 have M:bS w s h=(w.aj.zip s.aj).flatMap (fO h):=by unfold bS;rw[h0];rfl
 apply bA (fe (m5 ?_))
 refine aw rfl ?_
 apply bH (ds:=w.aj.map Rm.d) ?_
 refine aw rfl ?_
 refine bH (ds:=s.aj.map cU.d) ?_
 refine⟨⟨trivial,by simp only[lQm];omega⟩,?_⟩
 rw[zip_map]
 refine⟨λj l K=>(∃a b c d e f g i k,l= [some w.d,some s.d,some (.int h),a,b,c,d,e,f,g,i,k])/\K=J/\((w.aj.zip s.aj).take j).flatMap (fO h)= [],⟨⟨_,_,_,_,_,_,_,_,_,rfl⟩,rfl,rfl⟩,λ_ _ _ _=>⟨trivial,trivial⟩,?_,?_⟩
 ·rintro j d l K B ⟨⟨a,b,c,G,e,P,g,i,k,rfl⟩,rfl,h1⟩
  rw[gQm] at B
  obtain⟨p,y,rfl⟩:=oQm.mp B
  obtain⟨a0,Z,Y⟩:=x.zroom y
  have lb:=Y.lb
  refine dG rfl (ax (aS (ax (aS (a8 ?_)))))
  apply bA (dX (bV (zC ?_)))
  refine aw rfl ?_
  refine bH (ds:=p.2.row.map D.int) ?_
  refine⟨_,_,rfl,dH _,?_⟩
  rw[jO]
  show if decide ((h:Int)∈p.2.row)=true then _ else _
  by_cases v:(h:Int)∈p.2.row
  ·rw[Qeq v,Qhq rfl]
   symm
   apply aw (d:=.str p.1.name) rfl ?_
   refine⟨by show 2<=_;decide,?_⟩
   obtain⟨t,C⟩:=r8 (n:=eF p.2.row h) (d:=D.tup [.str "row",.str p.1.name]) λz=>dD.mp z v
   obtain⟨H,u⟩:=jl h1 y (show fO h p=_::_ by unfold fO kF;rw[C];rfl)
   exact r (R:=Q) (M.trans u) (λk z=>(nomatch z)) rfl
  rw[Qdq v,Quq (by decide)]
  refine bW ?_
  have X:List.replicate (eF p.2.row h) (D.tup [.str "row",.str p.1.name])= []:=by rw[dD.mpr v];rfl
  apply bA (dX (bV (zC ?_)))
  refine aw rfl ?_
  refine bH (ds:=p.2.ag.map D.int) ?_
  refine⟨_,_,rfl,dH _,?_⟩
  rw[jO]
  show if decide ((h:Int)∈p.2.ag)=true then _ else _
  by_cases L:(h:Int)∈p.2.ag
  ·rw[Qeq L,Qhq rfl]
   symm
   apply aw (d:=.str p.1.name) rfl ?_
   refine⟨by show 2<=_;decide,?_⟩
   obtain⟨t,C⟩:=r8 (n:=eF p.2.ag h) (d:=D.tup [.str "late",.str p.1.name]) λz=>dD.mp z L
   obtain⟨H,u⟩:=jl h1 y (show fO h p=_::_ by unfold fO kF;rw[X,C];rfl)
   exact r (R:=Q) (M.trans u) (λk z=>(nomatch z)) rfl
  rw[Qdq L,Quq (by decide)]
  refine bW ?_
  have z2:kF h p= []:=by unfold kF;rw[X,dD.mpr L];rfl
  have F:fO h p=(p.1.aa.zip p.2.aa).flatMap (mh h p.1.name):=by unfold fO;rw[z2];rfl
  apply fe (m5 ?_)
  refine aw rfl ?_
  apply bH (ds:=p.1.aa.map Eb) ?_
  refine aw rfl ?_
  refine bH (ds:=p.2.aa.map dQ) ?_
  refine⟨⟨trivial,by simp only[lQm];omega⟩,?_⟩
  rw[zip_map]
  refine⟨λm l N=>(∃a b c d g i k,l= [some w.d,some s.d,some (.int h),a,b,c,d,some p.1.d,some p.2.d,g,i,k])/\N=K/\((p.1.aa.zip p.2.aa).take m).flatMap (mh h p.1.name)= [],⟨⟨_,_,_,_,_,_,_,rfl⟩,rfl,rfl⟩,λ_ _ _ _=>⟨trivial,trivial⟩,?_,?_⟩
  ·rintro m d l N B ⟨⟨a,b,c,G,g,i,k,rfl⟩,rfl,h2⟩
   rw[gQm] at B
   obtain⟨A,U,rfl⟩:=oQm.mp B
   have a1:=Y.bb A.2 (QeQ (show(A.1,A.2)∈_ from mQg U)).2
   refine dG rfl (ax (dG rfl (ax (aS (ax (aS (a8 ?_)))))))
   refine ax (aS (a8 ?_))
   apply dX (bV (zC ?_))
   refine rg (by omega) ?_
   dsimp only
   refine⟨_,_,rfl,dH _,?_⟩
   rw[jO]
   show if decide ((h:Int)∈A.2.map (·.2))=true then _ else _
   by_cases I:(h:Int)∈A.2.map (·.2)
   ·rw[Qeq I,Qhq rfl]
    symm
    apply aw (d:=.str p.1.name) rfl ?_
    refine⟨by show 3<=_;decide,?_⟩
    obtain⟨t,C⟩:=r8 (n:=(A.2.filter λq=>decide (q.2=(h:Int))).length) (d:=D.tup [.str "bell",.str p.1.name,.str A.1.1]) λz=>wj.mp z I
    obtain⟨t3,W⟩:=jl h2 U (show mh h p.1.name A=_::_ from C)
    obtain⟨H,u⟩:=jl h1 y (F.trans W)
    exact r (R:=Q) (M.trans u) (λk z=>(nomatch z)) rfl
   ·rw[Qdq I,Quq (by decide)]
    refine bW ?_
    refine⟨⟨_,_,_,_,_,_,_,rfl⟩,rfl,?_⟩
    rw[g7 U,h2]
    unfold mh
    rw[wj.mpr I]
    rfl
  ·rintro l N ⟨⟨a,b,c,G,g,i,k,rfl⟩,rfl,h2⟩
   rw[lQm,QEq] at h2
   refine⟨⟨_,_,_,_,_,_,_,_,_,rfl⟩,rfl,?_⟩
   rw[g7 y,h1,F,h2]
   rfl
 ·rintro l K ⟨⟨a,b,c,G,e,P,g,i,k,rfl⟩,rfl,h1⟩
  rw[lQm,QEq] at h1
  rw[M,h1] at q
  symm
  exact cq (λk z=>(nomatch z)) rfl q
def Dl(o:fH w)(x:cg w n s)(J:n<=100)(u:s.af[h]?=some (vs,fs))(v:fs.getLast? =some f)(q:Q (.d (gE w s h f)) S):Fn rT [w.d,s.d,.int h] S Q:=by
 have p:=wo w s h
 have A:∀d∈bS w s h,_:=λd K=>lZ K
 obtain⟨L,j,y,N⟩:=x.whand u
 have m:mO w h=j.length:=by unfold mO;rw[y];rfl
 refine bT ?_
 unfold xI
 symm
 apply F9 o x J ?_
 refine Iu ?_
 unfold gE at q
 cases B:bS w s h with
 | cons d l=>
   rw[B] at q p A
   obtain⟨a,M,rfl,_⟩:=A d (QBq ..)
   apply aN (λ_=> ?_) (λc=>by cases c)
   exact cq (λk z=>(nomatch z)) (by simp only[bD,QCq] at p;exact p.1) q
 | nil=>
   rw[B] at q
   refine aN (λc=>by cases c) (λ_=>bW ?_)
   have q:Q (.d (kE w s h f)) S:=q
   unfold kE mE at q
   symm
   apply bJ u v ?_
   apply aw (d:=.int f.room) rfl ?_
   refine df ?_
   rcases x.at u v with c|⟨i,r,t,F,I,g,G,H⟩
   · rw[Qhq c,Qhq c,m] at q
     rw[Qeq c]
     refine aN (λ_=> ?_) (λc=>by cases c)
     have C:progOf w h f=some j:=by unfold progOf;rw[Qhq c,y];rfl
     symm
     apply aw (d:=.int f.row) rfl ?_
     apply eJ C ?_
     refine df ?_
     rw[lQm]
     by_cases b:f.row=(j.length:Int)
     · rw[Qhq b] at q
       rw[Qeq b]
       apply aN (λ_=> ?_) (λc=>by cases c)
       refine⟨by show 1<=_;decide,?_⟩
       exact cq (λk z=>(nomatch z)) rfl q
     · rw[Quq b] at q
       rw[Qdq b]
       apply aN (λc=>by cases c) (λ_=> ?_)
       refine⟨by show 1<=_;decide,?_⟩
       exact cq (λk z=>(nomatch z)) rfl q
   · have e:¬f.room= -1:=by omega
     rw[Quq e,Quq e,G,H] at q
     rw[Qdq e,F]
     apply aN (λc=>by cases c) (λ_=>bW ?_)
     apply aw rfl ?_
     refine aw (d:=r.d) (aR (by rw[gQm,I];rfl)) ?_
     symm
     apply aw (d:=.str r.name) rfl ?_
     apply aw rfl ?_
     refine aw (d:=t.d) (aR (by rw[gQm,g];rfl)) ?_
     symm
     apply aw (d:=.int t.within) rfl ?_
     refine df ?_
     by_cases b:t.within=(h:Int)
     · rw[Qhq b] at q
       rw[Qeq b]
       apply aN (λ_=> ?_) (λc=>by cases c)
       refine⟨by show 2<=_;decide,?_⟩
       exact cq (λk z=>(nomatch z)) rfl q
     · rw[Quq b] at q
       rw[Qdq b]
       apply aN (λc=>by cases c) (λ_=> ?_)
       refine⟨by show 2<=_;decide,?_⟩
       exact cq (λk z=>(nomatch z)) rfl q
end
end W28
namespace DL
open PySem PySem.Spec L2
def Gb{S:aC}{k:Nat}{ds:List D}{Q:List D×Tag->Prop}(a:S[k]?=some (.frz ds))(q:Q (ds,.fz k)):Op (pZ S (.ref k)) Q:=⟨_,by simp only[pZ,a],q⟩
def Lj{S:aC}{k:Nat}{ds:List D}{i:Int}{d:D}{Q:D->Prop}(a:S[k]?=some (.frz ds))(h:jw ds i=some d)(q:Q d):Op (kf S (.ref k) (.int i)) Q:=⟨_,by simp only[kf,a];exact h,q⟩
def Eg{b:Bool}{Q:D->Prop}(q:Q (.int (if b then 1 else 0))):Op (intOfD [.bl b]) Q:=⟨_,rfl,q⟩
def Gn{j:Nat}{n:Nat}{d:D}(h:(gH 0 (j:Int))[n]?=some d):d=.int n/\n<j:=by
 have hl:n<j:=by
  have:=(gQs.mp h).1
  unfold gH at this
  simpa using this
 unfold gH at h
 rw[gQm,List.getElem?_range (by simpa using hl)] at h
 cases h
 exact⟨by simp,hl⟩
end DL
namespace W28
open PySem PySem.Spec L2 DL
end W28
namespace DL
open PySem PySem.Spec L2
def K2{n:Nat}{b:cO}{ds:List D}{S:aC}{Q:Res->aC->Prop} (h:T b (ds.map some++List.replicate (n-ds.length) none) S λo=>match o with
   |.nx _ a=>Q (.d .non) a|.rt d a=>Q (.d d) a|.rl l a=>Q (.l l) a|_=>False):Fn (Jw n b) ds S Q:=by
 obtain⟨o,c,q⟩:=h
 cases o with
 |nx e a=>exact⟨_,_,by unfold Jw;rw[c];rfl,q⟩
 |rt d a=>exact⟨_,_,by unfold Jw;rw[c];rfl,q⟩
 |rl d a=>exact⟨_,_,by unfold Jw;rw[c];rfl,q⟩
 |_=>exact q.elim
end DL
namespace W28
open PySem PySem.Spec L2 DL
section
variable{S S0:aC}{Q:Res->aC->Prop}
def HN{ns:List Int}{k:Nat}(h:S[0]?=some (.frz (ns.map D.int)))(q:∀a b:Int,Q (.l [.int a,.int b,.int 0]) S):Fn jP [.ref 0,.int k] S Q:=by
 refine bT ?_
 unfold nu
 have g:∀e:Int,T (Gr (bg (aq (aV oO (av 2) (Au intOfD (aq (aV Nj (av 2) (aV E6 (cF (.int 10)) (cF (.int 18)))) au))) (aq (aV pw (aV bQ (aV bQ (aV pw (av 2) (cF (.int 2305843009213693951))) (aV oO (cF (.int 7919)) (av 1))) (cF (.int 3))) (cF (.int 2305843009213693951))) (aq (cF (.int 0)) au)))))
   [some (.ref 0),some (.int k),some (.int e)] S (λo=>match o with
   |.nx _ f=>Op (settle S .non f) λp=>Q p.1 p.2|.rt d f=>Op (settle S d f) λp=>Q p.1 p.2|.rl l f=>Op (eB S l f) λp=>Q p.1 p.2|_=>False):=by
  intro e
  symm
  refine LW ⟨by decide,by decide,by decide⟩ ?_
  generalize (10:Int)^(18:Int).toNat=c2
  symm
  refine Eg ?_
  have i:Ha e (if decide (c2<=e)=true then 1 else 0):=by
   right
   split <;>decide
  generalize (if decide (c2<=e)=true then(1:Int) else 0)=c3 at i⊢
  apply oJ i ?_
  apply pk (by decide) ?_
  apply oJ (.inl ⟨by decide,by decide⟩) ?_
  apply pk (by decide) ?_
  refine⟨by show 3<=_;decide,?_⟩
  exact Ej rfl (q _ _)
 symm
 apply Gb h ?_
 rw[lQm]
 by_cases c:(k:Int)<ns.length
 ·rw[Qeq c,Qhq rfl]
  have j:k<ns.length:=by omega
  symm
  refine Lj h (aR (x:=.int ns[k]) (by rw[gQm,gQe j];rfl)) ?_
  exact g _
 ·rw[Qdq c,Quq (by decide)]
  refine bW ?_
  exact g 0
def Good(w:cI)(s:bj):Prop:=∃m,m<=61/\cg w m s/\nL w s
def B_{w:cI}{s:bj}{n:Nat}(o:fH w)(x:cg w n s):(i0 w s).length<=4:=by
 have a:=List.length_filter_le (λh:Nat=> !decide ((h:Int)∈held s)&& !p0 w s h) (List.range s.af.length)
 have b:=x.lh
 have c:=o.l4
 rw[QVq] at a
 unfold i0
 omega
structure Wv(w:cI)(a b:Nat)(S':aC)(s:bj)(hs:List Nat)(ss:List bj):Prop where
 ha:S'[a]?=some (.lst (hs.map iu))
 hb:S'[b]?=some (.lst (ss.map bj.d))
 l1:hs.length<=60
 l2:ss.length=hs.length+1
 iv:cg w (1+hs.length) s
 q2:nL w s
 ok:∀s∈ss,Good w s
def Fd{w:cI}{k n:Nat}(o:fH w)(x:Ex k n S0 S)(hn:n<999000000)
  (h:∀(t:List Nat) (ss:List bj) (r:Nat) (C:aC),Ex k (n+100) S C->C[r]?=some (.lst (ss.map bj.d))->ss.length<=61->(∀s∈ss,Good w s)->Q (.d (.tup [.tup (t.map iu),.ref r])) C):Fn iU [.ref k,w.d,.int 60] S Q:=by
 have kl:=x.lt
 refine K2 ?_
 unfold qM
 refine bA (IS ?_)
 show E _ _ _ _
 symm
 apply yK o ?_
 apply⟨by decide,?_⟩
 apply yK o ?_
 refine⟨by show 1<=_;decide,?_⟩
 symm
 refine⟨_,_,_,rfl,?_⟩
 have e0:Ex k n S (S++ [O.lst []]++ [O.lst [(bE w).d]]):=x.here.app.app
 have b1:(S++ [O.lst []]).length=S.length+1:=by simp
 rw[b1]
 have w0:Wv w S.length (S.length+1) (S++ [O.lst []]++ [O.lst [(bE w).d]]) (bE w) [] [bE w]:=⟨aH aJ,by rw[←b1];exact aJ,by simp,rfl,vS o,nL.begun o,λs t=>by rw[Qfq.mp t];exact⟨1,by omega,vS o,nL.begun o⟩⟩
 have na:S.length≠k:=by omega
 have nb:S.length+1≠k:=by omega
 generalize (S++ [O.lst []]++ [O.lst [(bE w).d]])=S1 at e0 w0⊢
 generalize ea:S.length=a at w0 na⊢
 rw[ea] at nb
 apply bA (fe ?_)
 apply bB e0 (by omega) (by decide) (by decide) λv S2 hv e2 a5 l2=> ?_
 refine⟨_,rfl,⟨by omega,by omega⟩,?_⟩
 have F:∀{n':Nat} {B S4:aC} {s t ss},Wv w a (a+1) B s t ss->Ex k n' B S4->Wv w a (a+1) S4 s t ss:=λl e=>⟨e.keep _ _ na l.ha,e.keep _ _ nb l.hb,l.l1,l.l2,l.iv,l.q2,l.ok⟩
 have J:∀{B G:aC} {s t ss},Wv w a (a+1) B s t ss->Wv w a (a+1) (B++G) s t ss:=λl=>⟨aH l.ha,aH l.hb,l.l1,l.l2,l.iv,l.q2,l.ok⟩
 refine⟨λj u C=>∃(o6 o7 X o9:Option D) (s:bj) (t:List Nat) (ss:List bj),u= [some (.ref k),some w.d,some (.int 60),some s.d,some (.ref a),some (.ref (a+1)),o6,o7,X,o9]/\j<=24/\Ex k (n+1+3*j) S C/\Wv w a (a+1) C s t ss,⟨_,_,_,_,bE w,[],[bE w],rfl,by omega,e2,F w0 a5⟩,λ_ _ _ _=>trivial,?_,?_⟩
 ·rintro j d u B K ⟨o6,o7,X,o9,s,t,ss,rfl,hj24,e3,l⟩
  have hj:j<24:=by
   have:=(gQs.mp K).1
   simp only[gH,lQm,QVq] at this
   omega
  have b0:=l.l1
  have hm:=l.iv.mays o (by omega)
  have ml:=B_ o l.iv
  apply aS ?_
  apply hm _ _ ?_
  refine a_ aJ ?_
  refine⟨⟨rfl,aJ⟩,?_⟩
  dsimp only
  refine aN (λc=> ?_) (λc=> ?_)
  ·have P:0<((i0 w s).map iu).length:=by
    cases hc:(i0 w s).map iu with
    |nil=>rw[hc] at c;cases c
    |cons a b=>simp
   symm
   refine eD (e3.app (G:= [O.lst ((i0 w s).map iu)])) (by omega) (by have:=e3.lt;omega) aJ P (by simp;omega) (λd K=>(sX d K).1) (λd K=>cW (sX d K).2) λv3 S4 a6 e4 Y l4=> ?_
   obtain⟨g,hg,rfl⟩:=Qkq.mp a6
   have W:=F (J (G:= [O.lst ((i0 w s).map iu)]) l) Y
   symm
   apply fe ?_
   apply⟨by decide,?_⟩
   refine bB (e4.app (G:= [O.lst [.int 2,.int 6]])) (by omega) (by decide) (by decide) λv5 S5 b7 e5 N l5=> ?_
   dsimp only
   obtain⟨m,b6,b4,a4⟩:∃m:Nat,m<=6/\0<m/\jw ([.int 2,.int 6]:List D) (v5:Int)=some (.int m):=by
    rcases v5 with _|_|v
    ·exact⟨2,by omega,by omega,rfl⟩
    ·exact⟨6,by omega,by omega,rfl⟩
    ·omega
   refine dN (N.keep _ _ (by have:=e4.lt;omega) aJ) a4 ?_
   symm
   have a3:=F (J (G:= [O.lst [.int 2,.int 6]]) W) N
   apply bB e5 (by omega) (by omega) (by omega) λv6 S6 b3 e6 a2 l6=> ?_
   have a0:=F a3 a2
   refine⟨_,rfl,⟨by omega,by omega⟩,?_⟩
   refine⟨λi u C=>∃(p9:Option D) (s:bj) (t:List Nat) (ss:List bj),u= [some (.ref k),some w.d,some (.int 60),some s.d,some (.ref a),some (.ref (a+1)),some d,some (.ref B.length),some (iu g),p9]/\Ex k (n+1+3*(j+1)) S C/\Wv w a (a+1) C s t ss,⟨_,s,t,ss,rfl,e6.mono (by omega),a0⟩,λ_ _ _ _=>trivial,?_,?_⟩
   ·rintro i d2 u S7 b8 ⟨p9,H,y,A,rfl,e7,wv7⟩
    have b5:=wv7.l1
    have R:=wv7.iv.mays o (by omega)
    refine aS ?_
    refine dX (jU (bV (fK (EH (fh (bp rfl (a_ wv7.ha ?_)))))))
    refine bp rfl (ua ?_)
    dsimp only
    refine aN (λc1=> ?_) (λc1=> ?_)
    ·have b2:y.length<60:=by
      have:=QZq c1
      simp only[lQm] at this
      omega
     apply bV (zC ?_)
     apply R _ _ ?_
     refine⟨_,_,rfl,by rw[pJ];exact dH _,?_⟩
     rw[jO]
     show if decide ((g:Int)∈(i0 w H).map λh:Nat=>(h:Int))=true then _ else _
     refine aN (λc2=> ?_) (λc2=> ?_)
     ·have hh:g∈i0 w H:=by
       obtain⟨q,hq,e⟩:=Qkq.mp (QZq c2)
       have:q=g:=by omega
       rw[←this]
       exact hq
      have a1:g<H.af.length:=List.mem_range.mp (List.mem_filter.mp hh).1
      obtain⟨⟨vs,fs⟩,U⟩:∃p,H.af[g]?=some p:=⟨_,gQe a1⟩
      obtain⟨ts,pr,hw,hi⟩:=wv7.iv.whand U
      obtain⟨f,hf,fi⟩:=hi.last
      obtain⟨s',e,Z,L,M⟩:=Hv o wv7.iv wv7.q2 (by omega) hh U hf
      symm
      apply Bm R hh Z ?_
      apply aw (d:=s'.d) rfl ?_
      apply gY ?_
      apply⟨_,_,rfl,wv7.ha,?_⟩
      refine⟨_,wv7.ha,cG (aZ (by simp only[lQm];omega)) ?_⟩
      dsimp only
      apply fX (gY ?_)
      have I:=ft (k:=a) (o':=.lst (y.map iu++ [iu g])) (show a+1≠a by omega) wv7.hb
      apply⟨_,_,rfl,I,?_⟩
      have l2:=wv7.l2
      refine⟨_,I,cG (aZ (by simp only[lQm];omega)) ?_⟩
      refine⟨_,s',y++ [g],A++ [s'],rfl,(e7.put (by omega) kl).put (by omega) kl,?_⟩
      refine⟨?_,?_,by simp;omega,by simp;omega,?_,M,λs2 z=> ?_⟩
      ·rw[ft (show a≠a+1 by omega) (cj wv7.ha)]
       simp
      ·rw[cj I]
       simp
      ·rw[lQa]
       exact L.mono (by simp;omega)
      ·rcases mQa.mp z with z|z
       ·exact wv7.ok s2 z
       ·rw[Qfq.mp z]
        exact⟨_,by omega,L,M⟩
     ·refine bW ?_
      exact⟨_,H,y,A,rfl,e7,wv7⟩
    ·rw[Quq (by decide)]
     refine bW ?_
     exact⟨_,H,y,A,rfl,e7,wv7⟩
   ·rintro u S7 ⟨p9,H,y,A,rfl,e7,wv7⟩
    exact⟨_,_,_,_,H,y,A,rfl,by omega,e7,wv7⟩
  ·refine bW ?_
   exact⟨_,_,_,_,s,t,ss,rfl,by omega,e3.app.mono (by omega),J l⟩
 ·rintro u B ⟨o6,o7,X,o9,s,t,ss,rfl,hj24,e3,l⟩
  symm
  refine a_ l.ha ?_
  apply⟨rfl,?_⟩
  refine⟨by show 2<=_;decide,?_⟩
  have hj:(gH 0 (1+(v:Int))).length<=24:=by simp only[gH,lQm,QVq];omega
  have l1:=l.l1
  have l2:=l.l2
  exact h t ss (a+1) B (e3.mono (by omega)) l.hb (by omega) l.ok
end
end W28
namespace DL
open PySem PySem.Spec L2
def xi{b:cv}{S:aC}{f:dz}{Q:List D->aC->Prop}(h:E f b S λp a=>Q p.1 a):E (zU f) b S Q:=by
 obtain⟨p,a,c,q⟩:=h
 exact⟨_,a,by unfold zU;rw[c];rfl,q⟩
end DL
namespace W28
open PySem PySem.Spec L2 DL
def kq{l m:List Int}{h:Int}:eF (l++m) h=eF l h+eF m h:=by
 unfold eF
 rw[Qzq,List.countP_append]
theorem tH{h:Int}:∀{l:List Int},l.Nodup->eF l h<=1
 | [],_=>Nat.zero_le _
 | a::l,n=>by
   rw[List.nodup_cons] at n
   have b:=tH (h:=h) n.2
   have e:eF (a::l) h=eF l h+if jz (.int a) (.int h)=true then 1 else 0:=by
     unfold eF
     rw[QDq,List.countP_cons]
   rw[e]
   by_cases c:a=h
   · subst c
     have:eF l a=0:=dD.mpr n.1
     rw[this]
     split <;>omega
   · have:jz (.int a) (.int h)=false:=by simp[jz,c]
     rw[this]
     simpa using b
def Ai{l:List (Int×Int)}{h:Nat}:(l.filter λq=>decide (q.2=(h:Int))).length=eF (l.map (·.2)) h:=by
 induction l with
 |nil=>rfl
 | cons a l b=>
   have e:eF ((a::l).map (·.2)) h=eF (l.map (·.2)) h+if jz (.int a.2) (.int h)=true then 1 else 0:=by
     unfold eF
     rw[QDq,QDq,List.countP_cons]
   rw[e,←b]
   by_cases c:a.2=(h:Int)
   · rw[List.filter_cons_of_pos (by simpa using c)]
     simp[jz,c]
   · rw[List.filter_cons_of_neg (by simpa using c)]
     simp[jz,c]
theorem uH{α b γ:Type}{f:α×b->List D}{g:b->List Int}{h:Int}(a:∀p,(f p).length=eF (g p.2) h):∀{xs:List α} {ys:List b},xs.length=ys.length->((xs.zip ys).flatMap f).length=eF (ys.flatMap g) h
 | [],[],_=>rfl
 | x::xs,y::ys,hl=>by
   rw[List.zip_cons_cons,QSq,QSq,lQa,kq,a (x,y),uH (γ:=γ) a (by simpa using hl)]
def CY{w:cI}{n h:Nat}{s:bj}(x:cg w n s):(bS w s h).length=eF (held s) h:=by
 unfold bS held
 rw[lQa,kq]
 have j:((w.ai.zip s.ai).flatMap (qS h)).length=eF (s.ai.flatMap (·.2)) h:=uH (γ:=Unit) (g:=λp:Int×List Int=>p.2) (λp=>by unfold qS;rw[QIq]) x.lp
 have k:∀(d:List Rm) (c:List cU),d.length=c.length->(∀(i:Nat) (r:Rm) (e:cU),d[i]?=some r->c[i]?=some e->r.aa.length=e.aa.length)->((d.zip c).flatMap (fO h)).length=eF (c.flatMap aO) h:=by
  intro d
  induction d with
  |nil=>intro c hl _;cases c with|nil=>rfl|cons _ _=>cases hl
  | cons r d o=>
    intro c hl m
    cases c with
    |nil=>cases hl
    | cons e c=>
      rw[List.zip_cons_cons,QSq,QSq,lQa,kq,o c (by simpa using hl) λi a b j k=>m (i+1) a b (by simpa using j) (by simpa using k)]
      congr 1
      unfold fO kF aO
      rw[lQa,lQa,QIq,QIq,kq,kq]
      congr 1
      exact uH (γ:=Unit) (f:=mh h r.name) (g:=λl:List (Int×Int)=>l.map (·.2)) (λp=>by unfold mh;rw[QIq,Ai]) (m 0 r e rfl rfl)
 rw[j,k w.aj s.aj x.lr λi r e j k=>(x.rm i r e j k).lb]
abbrev Rz:=List Str×Nat×List Int
def G7(p:Rz):D:=.tup [.tup (p.1.map D.str),.ref p.2.1]
def Cn(p:Rz):List Str×List Int:=(p.1,p.2.2)
structure Ap(S:aC)(r:Nat)(S':aC)(z:List Rz):Prop where
 len:S.length<=S'.length
 keep:∀j,j<S.length->S'[j]?=S[j]?
 at_:S'[r]?=some (.lst (z.map G7))
 ok:∀p∈z,(p.2.1≠r/\S.length<=p.2.1)/\S'[p.2.1]?=some (.lst (p.2.2.map D.int))
def Ap.add{S c:aC}{r:Nat}{z:List Rz}{t:List Str}{l:List Int}(a:Ap S r c z)(e:S.length<=r):Ap S r ((c++ [O.lst (l.map D.int)]).set r (.lst (z.map G7++ [.tup [.tup (t.map D.str),.ref c.length]]))) (z++ [(t,c.length,l)]):=by
 have f:=(gQs.mp a.at_).1
 refine⟨by rw[List.length_set,lQa];have:=a.len;omega,λj d=> ?_,?_,λp b=> ?_⟩
 ·rw[QKq (by omega),QHq (by have:=a.len;omega)]
  exact a.keep j d
 ·rw[cj (aH a.at_)]
  simp[G7]
 ·rcases mQa.mp b with b|b
  ·exact⟨(a.ok p b).1,ft (a.ok p b).1.1 (aH (a.ok p b).2)⟩
  ·rw[Qfq.mp b]
   exact⟨⟨by show c.length≠r;omega,a.len⟩,ft (by show c.length≠r;omega) aJ⟩
def Bh(x:Str):List Str:= ["row",x]
def vZ(x:Str):List Str:= ["late",x]
def yW(x y:Str):List Str:= ["bell",x,y]
def BU(x:Str):List Str:= ["pass",x]
def iA(p:Rm×cU):List (List Str×List Int):= [(Bh p.1.name,p.2.row),(vZ p.1.name,p.2.ag)]++(p.1.aa.zip p.2.aa).map λq=>(yW p.1.name q.1.1,q.2.map (·.2))
def tK(p:(Str×Nat)×(Int×List Int)):List Str×List Int:=(BU p.1.1,p.2.2)
def FE(w:cI)(s:bj):List (List Str×List Int):=(w.aj.zip s.aj).flatMap iA++(w.ai.zip s.ai).map tK
section
variable{w:cI}{n h:Nat}{s:bj}{S:aC}{Q:Res->aC->Prop}{vs:List Int}{fs:List bU}{f:bU}
def Hg(o:fH w)(x:cg w n s)(hn:n<=100)(q:∀(z:List Rz) (A:aC) (r:Nat),Ap S r A z->S.length<=r->z.map Cn=FE w s->z.length<=40->Q (.d (.ref r)) A):Fn j0 [w.d,s.d] S Q:=by
 have lr:=x.lr
 have lp:=x.lp
 have b1:=o.l1
 have b2:=o.l2
 refine K2 ?_
 unfold tX
 symm
 apply⟨by decide,?_⟩
 have R:Ap S S.length (S++ [O.lst []]) []:=⟨by simp,λj M=>by rw[QHq M],aJ,by simp⟩
 generalize hr:S.length=r at R⊢
 have u:S.length<=r:=by omega
 generalize (S++ [O.lst []])=S1 at R⊢
 have K:∀{m:Nat},m<=100->m<sizeLine:=λhm=>aZ (by omega)
 apply fe (m5 ?_)
 refine aw rfl ?_
 apply bH (ds:=w.aj.map Rm.d) ?_
 refine aw rfl ?_
 refine bH (ds:=s.aj.map cU.d) ?_
 refine⟨⟨trivial,by simp only[lQm];omega⟩,?_⟩
 rw[zip_map]
 refine⟨λj g A=>∃(a b c d e:Option D) (z:List Rz),g= [some w.d,some s.d,some (.ref r),a,b,c,d,e]/\Ap S r A z/\z.map Cn=((w.aj.zip s.aj).take j).flatMap iA/\z.length<=8*j,⟨_,_,_,_,_,[],rfl,R,rfl,by simp⟩,λ_ _ _ _=>⟨trivial,trivial⟩,?_,?_⟩
 ·rintro j d g B F ⟨a,b,c,J,e,z,rfl,ap,hz,hl⟩
  rw[gQm] at F
  obtain⟨p,G,rfl⟩:=oQm.mp F
  have M:j<3:=by
   have:=(gQs.mp G).1
   rw[List.length_zip] at this
   omega
  obtain⟨X,h2,W⟩:=x.zroom G
  have b6:=(o.rm p.1 (mQg X)).l2
  have lb:=W.lb
  refine dG rfl (ax (aS (ax (aS (a8 ?_)))))
  apply bA (fX (gY ?_))
  apply⟨_,_,rfl,ap.at_,?_⟩
  apply aw (d:=.str p.1.name) rfl ?_
  refine⟨by show 2<=_;decide,?_⟩
  symm
  apply xi ?_
  refine aw (d:=cM p.2.row) rfl ?_
  apply bH (ds:=p.2.row.map D.int) ?_
  refine⟨by show 2<=_;decide,?_⟩
  symm
  refine⟨_,aH ap.at_,cG (K (by simp only[lQm];omega)) ?_⟩
  have k:=ap.add (t:=Bh p.1.name) (l:=p.2.row) u
  dsimp only
  have L:((B++ [O.lst (p.2.row.map D.int)]).set r (.lst (z.map G7++ [.tup [.tup ((Bh p.1.name).map D.str),.ref B.length]])))=((B++ [O.lst (p.2.row.map D.int)]).set r (.lst (z.map G7++ [.tup [.tup [.str "row",.str p.1.name],.ref B.length]]))):=rfl
  rw[L] at k
  generalize ((B++ [O.lst (p.2.row.map D.int)]).set r (.lst (z.map G7++ [.tup [.tup [.str "row",.str p.1.name],.ref B.length]])))=v at k⊢
  apply bA (fX (gY ?_))
  apply⟨_,_,rfl,k.at_,?_⟩
  apply aw (d:=.str p.1.name) rfl ?_
  refine⟨by show 2<=_;decide,?_⟩
  symm
  apply xi ?_
  refine aw (d:=cM p.2.ag) rfl ?_
  apply bH (ds:=p.2.ag.map D.int) ?_
  refine⟨by show 2<=_;decide,?_⟩
  symm
  refine⟨_,aH k.at_,cG (K (by simp only[lQm,lQa,Qnq,QGq];omega)) ?_⟩
  have y:=k.add (t:=vZ p.1.name) (l:=p.2.ag) u
  dsimp only
  generalize I:z++ [(Bh p.1.name,B.length,p.2.row)]=z3 at k y⊢
  have P:((v++ [O.lst (p.2.ag.map D.int)]).set r (.lst (z3.map G7++ [.tup [.tup ((vZ p.1.name).map D.str),.ref v.length]])))=((v++ [O.lst (p.2.ag.map D.int)]).set r (.lst (z3.map G7++ [.tup [.tup [.str "late",.str p.1.name],.ref v.length]]))):=rfl
  rw[P] at y
  generalize ((v++ [O.lst (p.2.ag.map D.int)]).set r (.lst (z3.map G7++ [.tup [.tup [.str "late",.str p.1.name],.ref v.length]])))=S4 at y⊢
  apply fe (m5 ?_)
  refine aw (d:=.tup (p.1.aa.map Eb)) rfl ?_
  apply bH (ds:=p.1.aa.map Eb) ?_
  refine aw (d:=.tup (p.2.aa.map dQ)) rfl ?_
  refine bH (ds:=p.2.aa.map dQ) ?_
  refine⟨⟨trivial,by simp only[lQm];omega⟩,?_⟩
  rw[zip_map]
  refine⟨λi g A=>∃(c d e:Option D) (z:List Rz),g= [some w.d,some s.d,some (.ref r),some p.1.d,some p.2.d,c,d,e]/\Ap S r A z/\z.map Cn=((w.aj.zip s.aj).take j).flatMap iA++ [(Bh p.1.name,p.2.row),(vZ p.1.name,p.2.ag)]++((p.1.aa.zip p.2.aa).take i).map (λq=>(yW p.1.name q.1.1,q.2.map (·.2)))/\z.length<=8*j+2+i,⟨_,_,_,_,rfl,y,by rw[←I,Qzq,Qzq,hz];simp[Cn],by rw[←I];simp;omega⟩,λ_ _ _ _=>⟨trivial,trivial⟩,?_,?_⟩
  ·rintro i d g Y F ⟨c,J,e,z,rfl,ap5,hz5,hl5⟩
   rw[gQm] at F
   obtain⟨C,H,rfl⟩:=oQm.mp F
   have hi:i<6:=by
    have:=(gQs.mp H).1
    rw[List.length_zip] at this
    omega
   have U:C.2.length<=n:=W.bb _ (QeQ (mQg H)).2
   refine dG rfl (ax (aS (ax (aS (a8 ?_)))))
   apply fX (gY ?_)
   apply⟨_,_,rfl,ap5.at_,?_⟩
   apply aw (d:=.str p.1.name) rfl ?_
   apply aw (d:=.str C.1.1) rfl ?_
   refine⟨by show 3<=_;decide,?_⟩
   symm
   apply kA (α:=Int×Int) (λg=>∃a,g= [a]) pairD (λp=>.int p.2) ⟨none,rfl⟩ ?_
   refine bH (ds:=C.2.map pairD) ?_
   refine⟨C.2,rfl,trivial,by omega,λp G g N=> ?_,?_⟩
   ·obtain⟨a,rfl⟩:=N
    apply aS ⟨rfl,⟨_,rfl⟩,?_⟩
    exact aw (d:=.int p.2) rfl ⟨rfl,rfl⟩
   have Z:C.2.map (λp=>D.int p.2)=(C.2.map (·.2)).map D.int:=by rw[QPq];rfl
   rw[Z]
   symm
   refine⟨by show 2<=_;decide,?_⟩
   symm
   refine⟨_,aH ap5.at_,cG (K (by simp only[lQm];omega)) ?_⟩
   refine⟨_,_,_,_,rfl,ap5.add (t:=yW p.1.name C.1.1) (l:=C.2.map (·.2)) u,?_,by simp;omega⟩
   rw[Qzq,hz5,QYq,H]
   simp[Cn]
  ·rintro g Y ⟨c,J,e,z,rfl,ap5,hz5,hl5⟩
   refine⟨_,_,_,_,_,z,rfl,ap5,?_,?_⟩
   ·rw[lQm,QEq] at hz5
    rw[hz5,QYq,G]
    simp[iA]
   ·rw[lQm,List.length_zip] at hl5
    omega
 ·rintro g B ⟨a,b,c,J,e,z,rfl,ap,hz,hl⟩
  rw[lQm,QEq] at hz
  rw[lQm,List.length_zip] at hl
  apply bA (fe (m5 ?_))
  refine aw rfl ?_
  apply bH (ds:=w.ai.map uK) ?_
  refine aw rfl ?_
  refine bH (ds:=s.ai.map Ar) ?_
  refine⟨⟨trivial,by simp only[lQm];omega⟩,?_⟩
  rw[zip_map]
  refine⟨λj g A=>∃(a b c d e:Option D) (z:List Rz),g= [some w.d,some s.d,some (.ref r),a,b,c,d,e]/\Ap S r A z/\z.map Cn=(w.aj.zip s.aj).flatMap iA++((w.ai.zip s.ai).take j).map tK/\z.length<=24+j,⟨_,_,_,_,_,z,rfl,ap,by simpa using hz,by omega⟩,λ_ _ _ _=>⟨trivial,trivial⟩,?_,?_⟩
  ·rintro j d g v F ⟨a,b,c,J,e,z,rfl,ap,hz,hl⟩
   rw[gQm] at F
   obtain⟨p,G,rfl⟩:=oQm.mp F
   have M:j<6:=by
    have:=(gQs.mp G).1
    rw[List.length_zip] at this
    omega
   refine dG rfl (ax (aS (ax (aS (a8 ?_)))))
   apply fX (gY ?_)
   apply⟨_,_,rfl,ap.at_,?_⟩
   apply aw (d:=.str p.1.1) rfl ?_
   refine⟨by show 2<=_;decide,?_⟩
   symm
   apply xi ?_
   refine aw (d:=cM p.2.2) rfl ?_
   apply bH (ds:=p.2.2.map D.int) ?_
   refine⟨by show 2<=_;decide,?_⟩
   symm
   refine⟨_,aH ap.at_,cG (K (by simp only[lQm];omega)) ?_⟩
   refine⟨_,_,_,_,_,_,rfl,ap.add (t:=BU p.1.1) (l:=p.2.2) u,?_,by simp;omega⟩
   rw[Qzq,hz,QYq,G]
   simp[Cn,tK]
  ·rintro g v ⟨a,b,c,J,e,z,rfl,ap,hz,hl⟩
   rw[lQm,QEq] at hz
   rw[lQm,List.length_zip] at hl
   symm
   exact q z v r ap u hz (by omega)
end
end W28
namespace DL
open PySem PySem.Spec L2
def Mf{S c:aC}{d:D}{Q:Res->aC->Prop}(hl:S.length<=c.length)(f:∀j,j<S.length->c[j]?=S[j]?)(hd:∀k,d≠.ref k)(a:bK 0 d=true)(q:Q (.d d) S):Op (settle S d c) λp=>Q p.1 p.2:=by
 refine fW (S2:=S) ⟨hl,λk o b e=>.inl (by rw[←f k b];exact e)⟩ ?_ hd (cW a) q
 apply List.ext_getElem?
 intro j
 by_cases g:j<S.length
 ·rw[List.getElem?_take_of_lt g]
  exact f j g
 ·rw[List.getElem?_eq_none (by rw[Qxq];omega),List.getElem?_eq_none (by omega)]
end DL
namespace W28
open PySem PySem.Spec L2 DL
def vc(h:Nat)(p:List Str×List Int):List D:=List.replicate (eF p.2 h) (.tup (p.1.map D.str))
def Be{h:Nat}(p:Rm×cU):(iA p).flatMap (vc h)=fO h p:=by
 unfold iA fO kF
 rw[List.flatMap_append]
 congr 1
 ·simp only[QSq,List.flatMap_nil,List.append_nil]
  rfl
 ·rw[List.flatMap_map]
  congr 1
  funext q
  unfold vc mh
  rw[Ai]
  rfl
def Gp{α:Type}{a b:List α}(h:(a++b).length<=1):a++b=b++a:=by
 rw[lQa] at h
 rcases a with _|⟨x,a⟩
 ·simp
 ·have:b= []:=List.length_eq_zero_iff.mp (by simp at h;omega)
  subst this
  simp
def FR{w:cI}{n h:Nat}{s:bj}(x:cg w n s)(b:nL w s):(FE w s).flatMap (vc h)=bS w s h/\(bS w s h).length<=1:=by
 have a:(bS w s h).length<=1:=by rw[CY x];exact tH b.nd
 refine⟨?_,a⟩
 unfold FE
 unfold bS at a⊢
 rw[Gp a,List.flatMap_append,List.flatMap_assoc,List.flatMap_map]
 congr 1
 congr 1
 funext p
 exact Be p
def GL{α a:Type}{f:α->List a}{l:List α}{n:Nat}:((l.take n).flatMap f).length<=(l.flatMap f).length:=by
 conv=>rhs;rw[←List.take_append_drop n l]
 rw[List.flatMap_append,lQa]
 omega
section
variable{w:cI}{n h:Nat}{s:bj}{S:aC}{Q:Res->aC->Prop}{vs:List Int}{fs:List bU}{f:bU}
def D7(o:fH w)(x:cg w n s)(q2:nL w s)(hn:n<=100)(Z:s.af[h]?=some (vs,fs))(hf:fs.getLast? =some f)(q:Q (.d (gE w s h f)) S):Fn iE [w.d,s.d,.int h] S Q:=by
 have W:=wo w s h
 have bm:∀d∈bS w s h,_:=λd I=>lZ I
 obtain⟨ts,H,hw,Y⟩:=x.whand Z
 have U:mO w h=H.length:=by unfold mO;rw[hw];rfl
 obtain⟨te,F⟩:=FR (h:=h) x q2
 refine bT ?_
 unfold kH
 symm
 apply⟨by decide,?_⟩
 apply fe ?_
 apply Hg o x hn λz B r v hr hz hl=> ?_
 refine a_ v.at_ ?_
 rw[lQa] at hr
 have M:S.length≠r:=by simp at hr;omega
 have l2:S.length<B.length:=by have:=v.len;simp at this;omega
 have u:∀j,j<S.length->B[j]?=S[j]? :=λj P=>by rw[v.keep j (by simp;omega),QHq P]
 have N:B[S.length]?=some (.lst []):=by rw[v.keep _ (by simp)];exact aJ
 have tz:z.flatMap (λp=>vc h (Cn p))=bS w s h:=by rw[←te,←hz,List.flatMap_map]
 refine⟨λj t m=>(∃a b,t= [some w.d,some s.d,some (.int h),some (.ref S.length),a,b,none,none])/\m.length=B.length/\(∀i,i≠S.length->m[i]?=B[i]?)/\m[S.length]?=some (.lst ((z.take j).flatMap λp=>vc h (Cn p))),⟨⟨none,none,rfl⟩,rfl,λ_ _=>rfl,N⟩,?_,?_,?_⟩
 ·rintro j t m ⟨_,_,y,_⟩
  show m[r]?=some (.lst _)
  rw[y r (Ne.symm M)]
  exact v.at_
 ·rintro j d t m I ⟨⟨a,b,rfl⟩,k0,y,k2⟩
  rw[gQm] at I
  obtain⟨p,hp,rfl⟩:=oQm.mp I
  have A:=v.ok p (mQg hp)
  have K:p.2.1≠S.length:=by
   have:=A.1.2
   simp at this
   omega
  have C:m[p.2.1]?=some (.lst (p.2.2.map D.int)):=by rw[y _ K];exact A.2
  have tk:(z.take (j+1)).flatMap (λp=>vc h (Cn p))=(z.take j).flatMap (λp=>vc h (Cn p))++List.replicate (eF p.2.2 h) (.tup (p.1.map D.str)):=by
   rw[QYq,hp,List.flatMap_append]
   simp[vc,Cn]
  have tl:((z.take j).flatMap (λp=>vc h (Cn p))).length+eF p.2.2 h<=1:=by
   have:=GL (f:=λp=>vc h (Cn p)) (l:=z) (n:=j+1)
   rw[tk,lQa,QIq,tz] at this
   omega
  refine dG rfl (ax (aS (ax (aS (a8 ?_)))))
  apply fX (B4 ?_)
  refine⟨_,_,rfl,k2,?_⟩
  apply xg (JV ?_)
  refine⟨by show 1<=_;decide,?_⟩
  apply Kj ?_
  refine a_ C ?_
  apply⟨rfl,?_⟩
  refine⟨C,_,_,rfl,dH _,?_⟩
  refine⟨eF p.2.2 h,.tup (p.1.map D.str),rfl,rfl,⟨rfl,trivial,by omega⟩,?_⟩
  refine⟨_,k2,⟨rfl,by rw[QIq];exact QAq tl (by decide)⟩,?_⟩
  refine⟨⟨_,_,rfl⟩,by rw[List.length_set];exact k0,λi Y=>by rw[QKq (Ne.symm Y)];exact y i Y,?_⟩
  rw[cj k2,tk]
 ·rintro t m ⟨⟨a,b,rfl⟩,k0,y,k2⟩
  rw[lQm,QEq,tz] at k2
  have e:∀{d:D},(∀k,d≠.ref k)->bK 0 d=true->Q (.d d) S->Op (settle S d m) λp=>Q p.1 p.2:=λG h2 R=>Mf (by omega) (λj P=>by rw[y j (by omega)];exact u j P) G h2 R
  symm
  refine a_ k2 ?_
  refine⟨⟨rfl,k2⟩,?_⟩
  dsimp only
  unfold gE at q
  cases hb:bS w s h with
  | cons d l=>
    rw[hb] at q W bm F k2
    have l0:l= []:=by
      cases l with
      |nil=>rfl
      |cons a b=>simp at F
    subst l0
    obtain⟨a,ss,rfl,_⟩:=bm d (QBq ..)
    apply aN (λ_=> ?_) (λc=>by cases c)
    apply a_ k2 ?_
    refine df ?_
    dsimp only
    rw[Qeq (by rfl),Qhq rfl]
    symm
    refine dN k2 (d:=.tup ((a::ss).map D.str)) rfl ?_
    exact e (λk z=>(nomatch z)) (by simp only[bD,QCq] at W;exact W.1) q
  | nil=>
    rw[hb] at q k2
    refine aN (λc=>by cases c) (λ_=>bW ?_)
    have q:Q (.d (kE w s h f)) S:=q
    unfold kE mE at q
    symm
    apply aw rfl ?_
    refine aw (d:=AI (vs,fs)) (aR (by rw[gQm,Z];rfl)) ?_
    symm
    refine aw rfl ?_
    apply nW ?_
    refine⟨1,rfl,?_⟩
    refine aw (d:=f.d) (tY (by rw[QfQ,hf];rfl)) ?_
    symm
    refine aw (d:=.int f.room) rfl ?_
    apply nW ?_
    refine⟨1,rfl,?_⟩
    refine df ?_
    dsimp only
    rcases x.at Z hf with c|⟨i,r,X,G,R,L,e1,e2⟩
    · rw[Qhq c,Qhq c,U] at q
      rw[Qeq c]
      apply aN (λ_=> ?_) (λc=>by cases c)
      apply aw (d:=.int f.row) rfl ?_
      apply aw rfl ?_
      refine aw (d:=kQ (ts,H)) (aR (by rw[gQm,hw];rfl)) ?_
      symm
      apply aw (d:=.tup (H.map Rw.d)) rfl ?_
      refine df ?_
      rw[lQm]
      by_cases g:f.row=(H.length:Int)
      · rw[Qhq g] at q
        rw[Qeq g]
        apply aN (λ_=> ?_) (λc=>by cases c)
        refine⟨by show 1<=_;decide,?_⟩
        exact e (λk z=>(nomatch z)) rfl q
      · rw[Quq g] at q
        rw[Qdq g]
        apply aN (λc=>by cases c) (λ_=> ?_)
        refine⟨by show 1<=_;decide,?_⟩
        exact e (λk z=>(nomatch z)) rfl q
    · have J:¬f.room= -1:=by omega
      rw[Quq J,Quq J,e1,e2] at q
      rw[Qdq J]
      apply aN (λc=>by cases c) (λ_=>bW ?_)
      apply aw rfl ?_
      apply aw (d:=.int f.room) rfl ?_
      rw[G]
      refine aw (d:=r.d) (aR (by rw[gQm,R];rfl)) ?_
      symm
      apply aw (d:=.str r.name) rfl ?_
      apply aw rfl ?_
      apply aw (d:=.int f.room) rfl ?_
      rw[G]
      refine aw (d:=X.d) (aR (by rw[gQm,L];rfl)) ?_
      symm
      apply aw (d:=.int X.within) rfl ?_
      refine df ?_
      by_cases g:X.within=(h:Int)
      · rw[Qhq g] at q
        rw[Qeq g]
        apply aN (λ_=> ?_) (λc=>by cases c)
        refine⟨by show 2<=_;decide,?_⟩
        exact e (λk z=>(nomatch z)) rfl q
      · rw[Quq g] at q
        rw[Qdq g]
        apply aN (λc=>by cases c) (λ_=> ?_)
        refine⟨by show 2<=_;decide,?_⟩
        exact e (λk z=>(nomatch z)) rfl q
end
end W28
namespace DL
open PySem PySem.Spec L2
section
variable{Γ:cv}{S:aC}
def Ik{a:Bool}{f:bx}{g:dz}{Q:D->aC->Prop}(h:E f Γ S λx b=>E g Γ b λp S2=>∃v vs,iB x=some v/\fu p.1=some vs/\v.depth<=60/\Q (.bl (if a then !vs.any (PyData.eqv · v) else vs.any (PyData.eqv · v))) S2):E (JJ a f g) Γ S Q:=by
 obtain⟨x,b,i,p,S2,c,v,vs,j,d,e,q⟩:=h
 exact⟨_,S2,by unfold JJ;rw[i];simp only[Qbq];rw[c];simp only[Qbq];rw[j,d];simp only[Qbq];rw[Qhq e],q⟩
def Ig{a:Bool}{x y:D}{p r:PyData}{Q:D->Prop}(d:iB x=some p)(b:iB y=some r)(c:p.depth<=60)(q:Q (.bl (if a then !PyData.eqv p r else PyData.eqv p r))):Op (Gu a S x y) Q:=⟨_,by unfold Gu;rw[d,b];simp only[Qbq];rw[Qhq c],q⟩
def Jo{a:Bool}{i j:Int}{Q:D->Prop}(q:Q (.bl (if a then !decide (i=j) else decide (i=j)))):Op (Gu a S (.int i) (.int j)) Q:=Ig (p:=.int i) (r:=.int j) rfl rfl (by simp[PyData.depth]) (by
 have:PyData.eqv (.int i) (.int j)=decide (i=j):=by simp[PyData.eqv,BEq.beq]
 rw[this];exact q)
def Aw{a:Bool}{f g:dz}{Q:D->aC->Prop}(h:E f Γ S λp c=>E g Γ c λr S2=>(p.2.isL=true/\r.2.isL=true/\p.2.stays S2 p.1)/\∃b vs,fu p.1=some b/\fu r.1=some vs/\(PyData.list b).depth<=60/\Q (.bl (if a then !PyData.eqvAll b vs else PyData.eqvAll b vs)) S2):E (z_ a f g) Γ S Q:=by
 obtain⟨p,c,k,r,S2,d,i,b,vs,l,e,j,q⟩:=h
 exact⟨_,S2,by unfold z_;rw[k];simp only[Qbq];rw[d];simp only[Qbq];rw[Qhq i,l,e];simp only[Qbq];rw[Qhq j],q⟩
end
def KZ(n:Nat)(d:D):Prop:=∃p,iB d=some p/\p.depth<=n
theorem Gj{n:Nat}:∀{ds:List D},(∀d∈ds,KZ n d)->∃ps,fu ds=some ps/\PyData.depthAll ps<=n
 | [],_=>⟨[],rfl,Nat.zero_le _⟩
 | d::ds,h=>by
   obtain⟨p,c,f⟩:=h d (QBq ..)
   obtain⟨ps,a,e⟩:=Gj (ds:=ds) λx b=>h x (Qpq _ b)
   exact⟨p::ps,by simp only[fu];rw[c,a];rfl,by simp only[PyData.depthAll];omega⟩
theorem lP{α a:Type}:∀{xs:List α} {ys:List a} {y:a},xs.length=ys.length->y∈ys->∃x,(x,y)∈xs.zip ys
 | [],[],_,_,h=>by cases h
 | x::xs,z::ys,y,hl,h=>by
   rcases Qsq.mp h with rfl|h
   · exact⟨x,by simp⟩
   · obtain⟨c,b⟩:=lP (xs:=xs) (ys:=ys) (by simpa using hl) h
     exact⟨c,Qpq _ b⟩
theorem y4:∀{ds:List D} {k i:Nat},(ji k ds)[i]?=(ds[i]?).map λd=>.tup [.int ((k+i:Nat):Int),d]
 | [],_,_=>by simp[ji]
 |d::ds,k,0=>by simp[ji]
 | d::ds,k,i+1=>by
   simp only[ji,List.getElem?_cons_succ]
   rw[y4]
   congr 1
   funext d
   rw[show k+1+i=k+(i+1) by omega]
def qX{N:Nat}{f:Nat->D}:ji 0 ((List.range N).map f)=(List.range N).map λi=>.tup [.int (i:Int),f i]:=by
 apply List.ext_getElem?
 intro i
 rw[y4,gQm,gQm]
 by_cases h:i<N
 ·rw[List.getElem?_range h]
  simp
 ·rw[List.getElem?_eq_none (by simp;omega)]
  rfl
def Gm{x:Str}(h:PyData.strOk x=true):iB (.str x)=some (.str x):=by unfold iB;rw[Qhq h]
theorem kD:∀{l:List Str},(∀z∈l,PyData.strOk z=true)->fu (l.map D.str)=some (l.map PyData.str)
 | [],_=>rfl
 | x::l,h=>by
   simp only[QDq,fu]
   rw[Gm (h x (QBq ..)),kD λz a=>h z (Qpq _ a)]
   rfl
theorem lH:∀l:List Int,fu (l.map D.int)=some (l.map PyData.int)
 | []=>rfl
 | x::l=>by
   simp only[QDq,fu]
   rw[lH l]
   rfl
theorem zg:∀{a b:List Str},PyData.eqvAll (a.map PyData.str) (b.map PyData.str)=decide (a=b)
 | [],[]=>by simp[PyData.eqvAll]
 | [],_::_=>by simp[PyData.eqvAll]
 |_::_,[]=>by simp[PyData.eqvAll]
 | x::a,y::b=>by
   have:=zg (a:=a) (b:=b)
   simp only[QDq,PyData.eqvAll,this]
   by_cases c:x=y
   · subst c;simp[PyData.eqv]
   · simp[PyData.eqv,c]
theorem sU:∀l:List Str,PyData.depthAll (l.map PyData.str)=0
 | []=>rfl
 |x::l=>by simp[PyData.depthAll,PyData.depth,sU l]
theorem zA:∀l:List Int,PyData.depthAll (l.map PyData.int)=0
 | []=>rfl
 |x::l=>by simp[PyData.depthAll,PyData.depth,zA l]
theorem zt{x:Str}:∀{l:List Str},(l.map PyData.str).any (PyData.eqv · (.str x))=decide (x∈l)
 | []=>by simp
 | y::l=>by
   have:=zt (x:=x) (l:=l)
   rw[QDq,List.any_cons,this]
   by_cases c:x=y
   · subst c;simp[PyData.eqv]
   · simp[PyData.eqv,c,Ne.symm c]
theorem any_ints{x:Int}:∀{l:List Int},(l.map PyData.int).any (PyData.eqv · (.int x))=decide (x∈l)
 | []=>by simp
 | y::l=>by
   have:=any_ints (x:=x) (l:=l)
   rw[QDq,List.any_cons,this]
   by_cases c:x=y
   · subst c;simp[PyData.eqv,BEq.beq]
   · simp[PyData.eqv,c,Ne.symm c,BEq.beq]
def kz{ds:List D}{a:List PyData}(h:fu ds=some a):PyData.eqvAll a a=true:=by
 have b:iB (.tup ds)=some (.tuple a):=by simp only[iB];rw[h];rfl
 exact SeqAt.eqv_refl (.tuple a) (lG b)
end DL
namespace W28
open PySem PySem.Spec L2 DL
def vE{h:Nat}{l:List (Int×Int)}:(l.filter λq=>decide (q.2=(h:Int))).length=0↔(h:Int)∉l.map (·.2):=by
 rw[List.length_eq_zero_iff,List.filter_eq_nil_iff]
 constructor
 ·intro g z
  obtain⟨q,a,e⟩:=Qkq.mp z
  exact g q a (Qeq e)
 ·intro g q a z
  exact g (Qkq.mpr ⟨q,a,QZq z⟩)
section
variable{w:cI}{n h:Nat}{s:bj}{S:aC}{Q:Res->aC->Prop}{vs:List Int}{fs:List bU}{f:bU}
def lR{α:Type}{n:Nat}{d:α}:List.replicate n d= []↔n=0:=by
 cases n with
 |zero=>simp
 |succ n=>simp[QNq]
def vz{p:Rm×cU}(c:iW n p.1 p.2):fO h p= []↔(h:Int)∉aO p.2:=by
 unfold fO kF aO
 rw[List.append_eq_nil_iff,List.append_eq_nil_iff,lR,lR,dD,dD,List.flatMap_eq_nil_iff]
 constructor
 ·rintro⟨⟨j,a⟩,e⟩ z
  rcases mQa.mp z with z|z
  ·rcases mQa.mp z with z|z
   ·exact j z
   ·exact a z
  ·obtain⟨l,hl,z⟩:=QOq.mp z
   obtain⟨b,d⟩:=lP c.lb hl
   have:=e _ d
   unfold mh at this
   rw[lR] at this
   exact vE.mp this z
 ·intro g
  refine⟨⟨λz=>g (by simp[z]),λz=>g (by simp[z])⟩,λq i=> ?_⟩
  unfold mh
  rw[lR,vE]
  intro z
  exact g (mQa.mpr (.inr (QOq.mpr ⟨q.2,(QeQ (show(q.1,q.2)∈_ from i)).2,z⟩)))
def wq(x:cg w n s):bS w s h= []↔(h:Int)∉held s:=by
 unfold bS held
 rw[List.append_eq_nil_iff,List.flatMap_eq_nil_iff,List.flatMap_eq_nil_iff]
 constructor
 ·rintro⟨m,i⟩ z
  rcases mQa.mp z with z|z
  ·obtain⟨p,b,z⟩:=QOq.mp z
   obtain⟨t,c⟩:=lP x.lp b
   have:=m _ c
   unfold qS at this
   rw[lR] at this
   exact dD.mp this z
  ·obtain⟨k,l,z⟩:=QOq.mp z
   obtain⟨r,c⟩:=lP x.lr l
   obtain⟨j,d,e⟩:=QbQ c
   have a:(w.aj.zip s.aj)[j]?=some (r,k):=by rw[gQe d,e]
   exact(vz (x.zroom a).2.2).mp (i _ c) z
 ·intro g
  refine⟨λp b=> ?_,λp b=> ?_⟩
  ·unfold qS
   rw[lR,dD]
   intro z
   exact g (mQa.mpr (.inl (QOq.mpr ⟨p.2,(QeQ (show(p.1,p.2)∈_ from b)).2,z⟩)))
  ·obtain⟨j,d,e⟩:=QbQ b
   have a:(w.aj.zip s.aj)[j]?=some p:=by rw[gQe d,e]
   rw[vz (x.zroom a).2.2]
   intro z
   exact g (mQa.mpr (.inr (QOq.mpr ⟨p.2,(QeQ (show(p.1,p.2)∈_ from b)).2,z⟩)))
def Ee:List Str:= ["out","within","called"]
def Br(x:cg w n s)(o:s.af[h]?=some (vs,fs))(r:fs.getLast? =some f):∃a l,gE w s h f=.tup (.str a::l)/\decide (a∈Ee)=(!decide ((h:Int)∈held s)&& !p0 w s h):=by
 obtain⟨t,e,m,u⟩:=x.whand o
 have j:mO w h=e.length:=by unfold mO;rw[m];rfl
 have k:p0 w s h=(decide (f.room= -1)&&decide (f.row=(((progOf w h f).getD []).length:Int))):=by
  unfold p0 vT
  rw[o]
  show(match fs.getLast? with|some f=>_|none=>_)=_
  rw[r]
 unfold gE
 cases g:bS w s h with
 | cons d l=>
   obtain⟨a,q,rfl,ha,_⟩:=lZ (show d∈bS w s h by rw[g];exact QBq ..)
   refine⟨a,q.map D.str,rfl,?_⟩
   have i:(h:Int)∈held s:=by
     by_cases c:(h:Int)∈held s
     · exact c
     · rw[(wq x).mpr c] at g;cases g
   rw[Qeq i]
   have:¬a∈Ee:=by
     simp only[Qsq,QXq,or_false] at ha
     rcases ha with rfl|rfl|rfl|rfl <;>decide +kernel
   rw[Qdq this]
   rfl
 | nil=>
   have i:¬(h:Int)∈held s:=(wq x).mp g
   rw[Qdq i,k]
   show∃a l,kE w s h f=_/\_
   unfold kE mE
   by_cases c:f.room= -1
   · have p:progOf w h f=some e:=by unfold progOf;rw[Qhq c,m];rfl
     rw[Qhq c,Qhq c,Qeq c,p,j]
     refine⟨_,_,rfl,?_⟩
     show _=(!false&& !(true&&decide (f.row=(e.length:Int))))
     by_cases b:f.row=(e.length:Int)
     · rw[Qhq b,Qeq b]
       exact Qdq (by decide +kernel)
     · rw[Quq b,Qdq b]
       exact Qeq (by decide +kernel)
   · rw[Quq c,Quq c,Qdq c]
     refine⟨_,_,rfl,?_⟩
     show _=true
     split
     · exact Qeq (by decide +kernel)
     · exact Qeq (by decide +kernel)
def yB(w:cI)(s:bj)(h:Nat):D:=match vT s h with
 |some f=>gE w s h f
 |none=>.non
def strsOf(d:D):List Str:=match d with
 |.tup a=>a.filterMap λd=>match d with|.str x=>some x|_=>none
 |_=> []
def Ec(w:cI)(s:bj)(h:Nat):List Str:=strsOf (yB w s h)
def BE(l:List Str):strsOf (.tup (l.map D.str))=l:=by
 unfold strsOf
 induction l with
 |nil=>rfl
 |cons a l b=>simpa using b
def mR(a:s.af[h]?=some (vs,fs))(b:fs.getLast? =some f):yB w s h=gE w s h f:=by
 unfold yB vT
 rw[a]
 show(match fs.getLast? with|some f=>_|none=>_)=_
 rw[b]
def FQ(i:EU w){d:D}(hd:d∈bS w s h):∃l:List Str,d=.tup (l.map D.str)/\∀z∈l,PyData.strOk z=true:=by
 have b:∀{n:Nat} {l:List Str},d∈List.replicate n (D.tup (l.map D.str))->(∀z∈l,PyData.strOk z=true)->∃l:List Str,d=.tup (l.map D.str)/\∀z∈l,PyData.strOk z=true:=λk j=>⟨_,QkQ k,j⟩
 unfold bS at hd
 rcases mQa.mp hd with hd|hd
 ·obtain⟨p,e,hd⟩:=QOq.mp hd
  refine b (l:=BU p.1.1) hd λz a=> ?_
  simp only[BU,Qsq,QXq,or_false] at a
  rcases a with rfl|rfl
  ·decide +kernel
  ·exact i.ps _ (QeQ (show(p.1,p.2)∈_ from e)).1
 ·obtain⟨p,e,hd⟩:=QOq.mp hd
  have g:=i.rm _ (QeQ (show(p.1,p.2)∈_ from e)).1
  have c:=g.nm.ok
  unfold fO kF at hd
  rcases mQa.mp hd with hd|hd
  ·rcases mQa.mp hd with hd|hd
   ·refine b (l:=Bh p.1.name) hd λz a=> ?_
    simp only[Bh,Qsq,QXq,or_false] at a
    rcases a with rfl|rfl
    ·decide +kernel
    ·exact c
   ·refine b (l:=vZ p.1.name) hd λz a=> ?_
    simp only[vZ,Qsq,QXq,or_false] at a
    rcases a with rfl|rfl
    ·decide +kernel
    ·exact c
  ·obtain⟨q,m,hd⟩:=QOq.mp hd
   refine b (l:=yW p.1.name q.1.1) hd λz a=> ?_
   simp only[yW,Qsq,QXq,or_false] at a
   rcases a with rfl|rfl|rfl
   ·decide +kernel
   ·exact c
   ·exact(g.bl _ (QeQ (show(q.1,q.2)∈_ from m)).1).ok
def Fu(e:EU w)(x:cg w n s)(p:s.af[h]?=some (vs,fs))(j:fs.getLast? =some f):∃l:List Str,gE w s h f=.tup (l.map D.str)/\∀z∈l,PyData.strOk z=true:=by
 unfold gE
 cases m:bS w s h with
 |cons d l=>exact FQ e (show d∈bS w s h by rw[m];exact QBq ..)
 | nil=>
   show∃l:List Str,kE w s h f=_/\_
   have b:PyData.strOk (mE w s h f)=true:=by
     unfold mE
     repeat' split
     all_goals decide +kernel
   unfold kE
   rcases x.at p j with c|⟨i,r,u,q,o,g,k,t⟩
   · rw[Qhq c]
     exact⟨[mE w s h f],rfl,λz a=>by rw[Qfq.mp a];exact b⟩
   · rw[Quq (show¬f.room= -1 by omega),k]
     refine⟨[mE w s h f,r.name],rfl,λz a=> ?_⟩
     simp only[Qsq,QXq,or_false] at a
     rcases a with rfl|rfl
     · exact b
     · exact(e.rm r (mQg o)).nm.ok
def Ke(c:EU w)(x:cg w n s)(a:s.af[h]?=some (vs,fs))(b:fs.getLast? =some f):yB w s h=.tup ((Ec w s h).map D.str)/\∀z∈Ec w s h,PyData.strOk z=true:=by
 obtain⟨l,e,hl⟩:=Fu c x a b
 have:Ec w s h=l:=by unfold Ec;rw[mR a b,e,BE]
 rw[this,mR a b,e]
 exact⟨rfl,hl⟩
def Ca(x:Str):List Str:= ["within",x]
def DQ{k:Nat}{r:Rm}{rs:cU}(o:fH w)(x:cg w n s)(G:s.af[h]?=some (vs,fs))(y:fs.getLast? =some f)(q:w.aj[k]?=some r)(g:s.aj[k]?=some rs)(e:gE w s h f=.tup ((Ca r.name).map D.str)):rs.within=(h:Int):=by
 unfold gE at e
 cases j:bS w s h with
 | cons d l=>
   rw[j] at e
   obtain⟨a,v,rfl,ha,_⟩:=lZ (show d∈bS w s h by rw[j];exact QBq ..)
   have e:D.tup ((a::v).map D.str)=.tup ((Ca r.name).map D.str):=e
   have:a="within":=by
     simp only[Ca,QDq,D.tup.injEq,List.cons.injEq,D.str.injEq] at e
     exact e.1
   subst this
   exact absurd ha (by decide +kernel)
 | nil=>
   rw[j] at e
   have e:kE w s h f=.tup ((Ca r.name).map D.str):=e
   unfold kE mE at e
   rcases x.at G y with c|⟨i,C,t,H,F,b,z,A⟩
   · rw[Qhq c] at e
     simp[Ca] at e
   · have p:¬f.room= -1:=by omega
     rw[Quq p,Quq p,z,A] at e
     have B:C.name=r.name:=by
       simp only[Ca,QDq,List.map_nil,D.tup.injEq,List.cons.injEq,D.str.injEq] at e
       exact e.2.1
     have u:i=k:=by
       refine jd o.nd (a:=r.name) ?_ ?_
       · rw[gQm,F];exact congrArg some B
       · rw[gQm,q];rfl
     subst u
     rw[g] at b
     cases b
     by_cases m:rs.within=(h:Int)
     · exact m
     · rw[Quq m] at e
       simp only[Ca,QDq,List.map_nil,D.tup.injEq,List.cons.injEq,D.str.injEq] at e
       exact absurd e.1 (by decide +kernel)
end
end W28
namespace DL
open PySem PySem.Spec L2
def Eh{p:Nat->Bool}{v:Int}{N:Nat}(h:∀i,i<N->p i=true->v=(i:Int)):(List.range N).filter p= []\/∃g:Nat,v=g/\(List.range N).filter p= [g]:=by
 have c:((List.range N).filter p).Nodup:=List.nodup_range.filter _
 cases e:(List.range N).filter p with
 |nil=>exact .inl rfl
 | cons a l=>
   have d:∀b∈a::l,v=(b:Int):=λb f=>by
     rw[←e] at f
     obtain⟨k,j⟩:=List.mem_filter.mp f
     exact h b (List.mem_range.mp k) j
   have m:=d a (QBq ..)
   refine .inr ⟨a,m,?_⟩
   cases l with
   |nil=>rfl
   | cons b l=>
     have n:=d b (Qpq _ (QBq ..))
     have:a=b:=by omega
     subst this
     rw[e] at c
     simp at c
end DL
namespace W28
open PySem PySem.Spec L2 DL
section
variable{w:cI}{n h:Nat}{s:bj}{S:aC}{Q:Res->aC->Prop}{vs:List Int}{fs:List bU}{f:bU}
def E9(o:fH w)(mo:EU w)(x:cg w n s)(q2:nL w s)(hn:n<=100)(q:Q (.d (.bl true)) S):Fn iT [w.d,s.d] S Q:=by
 have b4:=o.l4
 have b1:=o.l1
 have lh:=x.lh
 have lr:=x.lr
 have A:∀i,i<w.af.length->∃vs fs f,s.af[i]?=some (vs,fs)/\fs.getLast? =some f:=λi t=>by
  obtain⟨⟨vs,fs⟩,u⟩:∃p,s.af[i]?=some p:=⟨_,gQe (by omega)⟩
  obtain⟨ts,pr,hw,t⟩:=x.whand u
  obtain⟨f,B,fi⟩:=t.last
  exact⟨vs,fs,f,u,B⟩
 have Z:∀{F:dw} {R:List D->aC->Prop} {Γ:cv} {S1:aC},Γ.getD 0 none=some w.d->Γ.getD 1 none=some s.d->Γ[0]?=some (some w.d)->(∀i,i<w.af.length->∀(P:Res->aC->Prop),P (.d (yB w s i)) S1->Fn F [w.d,s.d,.int i] S1 P)->R ((List.range w.af.length).map (yB w s)) S1→
   E (bO [none,some 0,some 1] (nP (gD (aQ (aV kf (av 0) (cF (.int 3)))))) (bL 0) cu (ay F (aq (av 1) (aq (av 2) (aq (av 0) au))))) Γ S1 R:=by
  intro F R Γ S1 g0 g1 g2 hF hR
  refine oQ (α:=Nat) (λm=>∃a,m= [a,some w.d,some s.d]) (λ(i:Nat)=>D.int (0+(i:Int))) (yB w s) (λ_=>true) ⟨none,by show [none,Γ.getD 0 none,Γ.getD 1 none]=_;rw[g0,g1]⟩ ?_
  refine Iv (EH (fh (fK (bp g2 (mD (aw rfl (bH (ds:=w.af.map kQ) ?_)))))))
  refine⟨(w.af.length:Nat),by rw[lQm],by omega,?_⟩
  refine⟨List.range w.af.length,by simp only[gH];rfl,trivial,by simp;omega,λi t m G=> ?_,?_⟩
  ·obtain⟨a,rfl⟩:=G
   refine aS ⟨rfl,⟨_,rfl⟩,xF ⟨rfl,rfl,λ_=> ?_⟩⟩
   rw[Int.zero_add]
   refine Bo (cE (bp rfl (cE (bp rfl (cE (bp rfl (ke ?_)))))))
   exact hF i (List.mem_range.mp t) _ ⟨rfl,rfl⟩
  ·rw[List.filter_eq_self.mpr (λ_ _=>rfl)]
   exact hR
 have L:∀i,i<w.af.length->yB w s i=.tup ((Ec w s i).map D.str)/\∀z∈Ec w s i,PyData.strOk z=true:=λi t=>by
  obtain⟨vs,fs,f,u,B⟩:=A i t
  exact Ke mo x u B
 have b6:∀d∈(List.range w.af.length).map (yB w s),KZ 1 d:=λd hd=>by
  obtain⟨i,t,rfl⟩:=Qkq.mp hd
  obtain⟨e,W⟩:=L i (List.mem_range.mp t)
  rw[e]
  exact⟨.tuple ((Ec w s i).map PyData.str),by simp only[iB];rw[kD W];rfl,by simp only[PyData.depth];rw[sU];omega⟩
 obtain⟨us,a0,b9⟩:=Gj b6
 have hm:=x.mays o hn
 have c2:=B_ o x
 refine bT ?_
 unfold lF
 refine bA (ou (sW (Z rfl rfl rfl (λi t P hP=> ?_) ?_)))
 ·obtain⟨vs,fs,f,u,B⟩:=A i t
  rw[mR u B] at hP
  exact D7 o x q2 hn u B hP
 have J:(S++ [O.lst ((List.range w.af.length).map (yB w s))])[S.length]?=some (.lst ((List.range w.af.length).map (yB w s))):=aJ
 have k2:∀j,j<S.length->(S++ [O.lst ((List.range w.af.length).map (yB w s))])[j]?=S[j]? :=λj hj=>by rw[QHq hj]
 have l2:(S++ [O.lst ((List.range w.af.length).map (yB w s))]).length=S.length+1:=by simp
 generalize (S++ [O.lst ((List.range w.af.length).map (yB w s))])=S2 at J k2 l2⊢
 refine bA (dX (bV (Aw (xg (Z rfl rfl rfl (λi t P hP=> ?_) ?_)))))
 ·obtain⟨vs,fs,f,u,B⟩:=A i t
  rw[mR u B] at hP
  exact Dl o x hn u B hP
 refine fh (bp rfl (a_ J ?_))
 refine⟨⟨rfl,rfl,trivial⟩,us,us,a0,a0,by simp only[PyData.depth];omega,?_⟩
 rw[kz a0]
 refine aN (λc=>by cases c) (λ_=>bW ?_)
 refine bA (ou (sW ?_))
 refine oQ (α:=Nat) (λm=>∃a b,m= [a,b]) (λ(i:Nat)=>D.tup [.int (i:Int),yB w s i]) iu (λh:Nat=> !decide ((h:Int)∈held s)&& !p0 w s h) ⟨none,none,rfl⟩ ?_
 refine yf (fh (bp rfl (a_ J ?_)))
 refine⟨List.range w.af.length,qX,J,by simp;omega,λi t m G=> ?_,?_⟩
 ·obtain⟨a,b,rfl⟩:=G
  obtain⟨vs,fs,f,u,B⟩:=A i (List.mem_range.mp t)
  obtain⟨a1,l1,e1,e2⟩:=Br x u B
  obtain⟨I,W⟩:=L i (List.mem_range.mp t)
  refine dG rfl (ax (aS (ax (aS (a8 ⟨rfl,⟨_,_,rfl⟩,?_⟩)))))
  have b2:PyData.strOk a1=true:=by
   rw[mR u B,e1] at I
   cases hl:Ec w s i with
   |nil=>rw[hl] at I;simp at I
   | cons b l=>
     rw[hl] at I
     simp only[QDq,D.tup.injEq,List.cons.injEq,D.str.injEq] at I
     rw[I.1]
     exact W b (by rw[hl];exact QBq ..)
  refine bV (Ik ?_)
  rw[mR u B,e1]
  refine fK (bp rfl (mD (aw (d:=.str a1) Dj ?_)))
  refine fh (FO (cE (mD (cE (mD (cE (mD (ke ⟨by show 3<=_;decide,bH ?_⟩))))))))
  refine⟨_,_,Gm b2,kD (l:=Ee) (by decide +kernel),by simp[PyData.depth],?_⟩
  show _/\_/\_
  rw[zt]
  refine⟨rfl,e2,λ_=>bp rfl ⟨rfl,rfl⟩⟩
 have ef:(List.range w.af.length).filter (λh:Nat=> !decide ((h:Int)∈held s)&& !p0 w s h)=i0 w s:=by unfold i0;rw[lh]
 rw[ef]
 have a4:(S2++ [O.lst ((i0 w s).map iu)])[S2.length]?=some (.lst ((i0 w s).map iu)):=aJ
 have Y:(S2++ [O.lst ((i0 w s).map iu)])[S.length]?=some (.lst ((List.range w.af.length).map (yB w s))):=aH J
 have k3:∀j,j<S.length->(S2++ [O.lst ((i0 w s).map iu)])[j]?=S[j]? :=λj hj=>by rw[QHq (by omega)];exact k2 j hj
 have l3:(S2++ [O.lst ((i0 w s).map iu)]).length=S.length+2:=by simp[l2]
 generalize (S2++ [O.lst ((i0 w s).map iu)])=S3 at a4 Y k3 l3⊢
 refine bA (dX (bV (Aw (xg (yu (cE (bp rfl (cE (bp rfl (ke ?_))))))))))
 refine hm _ _ ?_
 refine fh (bp rfl (a_ a4 ?_))
 refine⟨⟨rfl,rfl,trivial⟩,_,_,by rw[pJ];exact lH _,by rw[pJ];exact lH _,by simp only[PyData.depth];rw[zA];omega,?_⟩
 rw[kz (lH _)]
 refine aN (λc=>by cases c) (λ_=>bW ?_)
 refine bA (fe (yf (fh (fK (bp rfl (mD (aw rfl (bH (ds:=s.aj.map cU.d) ?_))))))))
 refine⟨λj m S'=>(∃a b c,m= [some w.d,some s.d,some (.ref S.length),some (.ref S2.length),a,b,c])/\S.length+2<=S'.length/\(∀i,i<S.length+2->S'[i]?=S3[i]?),⟨⟨_,_,_,rfl⟩,by omega,λ_ _=>rfl⟩,λ_ _ _ _=>trivial,?_,?_⟩
 ·rintro k d m S4 hd ⟨⟨a,b,c,rfl⟩,hl4,hk4⟩
  obtain⟨d',b0,rfl⟩:=pM hd
  rw[gQm] at b0
  obtain⟨M,a2,rfl⟩:=oQm.mp b0
  have hk:k<s.aj.length:=(gQs.mp a2).1
  obtain⟨r,hr⟩:∃r,w.aj[k]?=some r:=⟨_,gQe (by omega)⟩
  have X:S4[S.length]?=some (.lst ((List.range w.af.length).map (yB w s))):=by rw[hk4 _ (by omega)];exact Y
  rw[Nat.zero_add]
  refine dG rfl (ax (aS (ax (aS (a8 ?_)))))
  have a5:T (aE (aX 6 (bC (bO [none,none,some 0,some 4] (sV (aQ (av 2))) (iV (nG 2 (aI (bL 0) (aI (bL 1) dr)))) (aF (aV (Gu false) (av 1) (aP (aq (cF (.str "within")) (aq (aV kf (aV kf (aV kf (av 2) (cF (.int 0))) (av 3)) (cF (.int 0))) au))))) (av 0))))
    (eE (Ic (aF (aV Il (gD (aQ (av 6))) (cF (.int 1)))) (gq (aF (cJ (aQ (av 6)))) (aF (z_ true (aQ (av 6)) (gP (bg (aq (aV kf (av 5) (cF (.int 1))) au))))))) (cp (cF (.bl false))) fL))
    [some w.d,some s.d,some (.ref S.length),some (.ref S2.length),some (.int (k:Int)),some M.d,c] S4 λo=>∃y H,o=.nx y H/\(∃a b c,y= [some w.d,some s.d,some (.ref S.length),some (.ref S2.length),a,b,c])/\S.length+2<=H.length/\(∀i,i<S.length+2->H[i]?=S3[i]?):=by
   have b5:PyData.strOk r.name=true:=(mo.rm r (mQg hr)).nm.ok
   refine bA (ou (sW ?_))
   refine oQ (α:=Nat) (λm=>∃a b,m= [a,b,some w.d,some (.int (k:Int))]) (λ(i:Nat)=>D.tup [.int (i:Int),yB w s i]) iu (λi=>decide (Ec w s i=Ca r.name)) ⟨none,none,rfl⟩ ?_
   refine yf (fh (bp rfl (a_ X ?_)))
   refine⟨List.range w.af.length,qX,X,by simp;omega,λi t m G=> ?_,?_⟩
   ·obtain⟨a,b,rfl⟩:=G
    obtain⟨I,W⟩:=L i (List.mem_range.mp t)
    refine dG rfl (ax (aS (ax (aS (a8 ⟨rfl,⟨_,_,rfl⟩,?_⟩)))))
    refine bV (fK (bp rfl (FO (cE (mD (cE (fK (fK (fK (bp rfl (mD (aw rfl (bp rfl ?_)))))))))))))
    refine aw (d:=r.d) (aR (by rw[gQm,hr];rfl)) (mD (aw (d:=.str r.name) rfl (ke ⟨by show 2<=_;decide,?_⟩)))
    refine Ig (p:=.tuple ((Ec w s i).map PyData.str)) (r:=.tuple ((Ca r.name).map PyData.str)) ?_ ?_ (by simp only[PyData.depth];rw[sU];omega) ?_
    ·rw[I];simp only[iB];rw[kD W];rfl
    ·have b8:∀z∈Ca r.name,PyData.strOk z=true:=λz W=>by
      simp only[Ca,Qsq,QXq,or_false] at W
      rcases W with rfl|rfl
      ·decide +kernel
      ·exact b5
     show iB (.tup ((Ca r.name).map D.str))=_
     simp only[iB];rw[kD b8];rfl
    ·refine⟨rfl,?_,λ_=>bp rfl ⟨rfl,rfl⟩⟩
     show PyData.eqvAll _ _=_
     exact zg
   have C:=Eh (p:=λi=>decide (Ec w s i=Ca r.name)) (v:=M.within) (N:=w.af.length) λi t hp=>by
    obtain⟨vs,fs,f,u,B⟩:=A i t
    obtain⟨I,_⟩:=L i t
    rw[QZq hp,mR u B] at I
    exact DQ o x u B hr a2 I
   have U:∀{c:Option D} {H:aC},H=S4++ [O.lst (((List.range w.af.length).filter λi=>decide (Ec w s i=Ca r.name)).map iu)]->∃y S6,Out.nx [some w.d,some s.d,some (.ref S.length),some (.ref S2.length),some (.int (k:Int)),some M.d,c] H=.nx y S6/\(∃a b c,y= [some w.d,some s.d,some (.ref S.length),some (.ref S2.length),a,b,c])/\S.length+2<=S6.length/\(∀i,i<S.length+2->S6[i]?=S3[i]?):=λ{c H} e=>⟨_,_,rfl,⟨_,_,_,rfl⟩,by rw[e,lQa];omega,λi t=>by rw[e,QHq (by omega)];exact hk4 i t⟩
   refine dX (K4 (bV (fK (EH (fh (bp rfl (a_ aJ (mD (ua ?_)))))))))
   rcases C with C|⟨g,hg,C⟩
   ·rw[C]
    refine aN (λc=>by simp at c) (λ_=> ?_)
    refine jU (bV (o_ (fh (bp rfl (a_ aJ ⟨⟨rfl,aJ⟩,?_⟩)))))
    refine aN (λc=>by cases c) (λ_=> ?_)
    refine aN (λc=>by cases c) (λ_=>bW (U (by rw[C])))
   ·rw[C]
    refine aN (λc=>by simp at c) (λ_=> ?_)
    refine jU (bV (o_ (fh (bp rfl (a_ aJ ⟨⟨rfl,aJ⟩,?_⟩)))))
    refine aN (λ_=> ?_) (λc=>by cases c)
    refine bV (Aw (fh (bp rfl (a_ aJ (xg (Cy (cE (fK (bp rfl (mD (aw (d:=.int M.within) rfl (ke ⟨by show 1<=_;decide,?_⟩))))))))))))
    refine⟨⟨rfl,rfl,aJ⟩,[.int g],[.int M.within],rfl,rfl,by simp[PyData.depth,PyData.depthAll],?_⟩
    rw[hg]
    have:PyData.eqvAll [.int (g:Int)] [.int (g:Int)]=true:=kz (ds:= [.int (g:Int)]) rfl
    rw[this]
    refine aN (λc=>by cases c) (λ_=>bW (U (by rw[C])))
  refine bA (dX (jU (bV (fK (fK (bp rfl (mD (aw (d:=.int M.within) rfl (nW (mD ⟨1,rfl,Jo ?_⟩))))))))))
  have go:∀{Q':Out->Prop},(∀y H,(∃a b c,y= [some w.d,some s.d,some (.ref S.length),some (.ref S2.length),a,b,c])/\S.length+2<=H.length/\(∀i,i<S.length+2->H[i]?=S3[i]?)->Q' (.nx y H))->T _ _ S4 Q':=λhQ=>a5.mono λo ho=>by
   obtain⟨y,H,rfl,h⟩:=ho
   exact hQ _ _ h
  rcases q2.r2 k M a2 with c0|⟨g,hg,b7,a6⟩
  ·rw[c0]
   refine aN (λc=>by cases c) (λ_=> ?_)
   refine aN (λc=>by cases c) (λ_=>bW ?_)
   exact go λ_ _ z=>z
  ·obtain⟨⟨vs,fs⟩,u⟩:∃p,s.af[g]?=some p:=⟨_,gQe b7⟩
   rw[j7 u] at a6
   obtain⟨ff,b3,K⟩:=Qkq.mp a6
   have a3:ff.room=(k:Int):=by
    by_cases c1:ff.room= -1
    ·unfold rc at K
     rw[Qhq c1] at K
     split at K <;>omega
    ·rw[jK c1] at K
     exact K
   rw[hg]
   refine aN (λ_=> ?_) (λc=>by simp at c)
   refine bV (Ik (bp rfl (xg ?_)))
   refine kA (α:=bU) (λm=>∃a,m= [a]) bU.d (λf=>.int f.room) ⟨none,rfl⟩ ?_
   refine fh (fK (fK (fK (bp rfl (mD (aw rfl (fK (bp rfl (mD (aw (d:=.int M.within) rfl ?_))))))))))
   rw[hg]
   refine aw (d:=AI (vs,fs)) (aR (by rw[gQm,u];rfl)) ?_
   refine mD (aw (d:=.tup (fs.map bU.d)) rfl (bH ?_))
   obtain⟨ts,pr,hw,t⟩:=x.whand u
   have lf:=t.lf
   refine⟨fs,rfl,trivial,by omega,λp hp m G=> ?_,?_⟩
   ·obtain⟨a,rfl⟩:=G
    refine aS ⟨rfl,⟨_,rfl⟩,?_⟩
    exact fK (bp rfl (mD (aw (d:=.int p.room) rfl ⟨rfl,rfl⟩)))
   have em:fs.map (λf=>D.int f.room)=(fs.map (·.room)).map D.int:=by rw[QPq];rfl
   rw[em]
   refine⟨.int k,_,rfl,lH _,by simp[PyData.depth],?_⟩
   rw[DL.any_ints,Qeq (Qkq.mpr ⟨ff,b3,a3⟩)]
   refine aN (λc=>by cases c) (λ_=>bW ?_)
   exact go λ_ _ z=>z
 ·rintro m S4 ⟨⟨a,b,c,rfl⟩,hl4,hk4⟩
  refine vQ (mD ?_)
  exact Mf (by omega) (λj hj=>by rw[hk4 j (by omega)];exact k3 j hj) (λk z=>(nomatch z)) rfl q
end
def FF:∀ns:List Int,ns.length<=63->∃g,HL [.ref 0] [.frz (ns.map D.int)]=some (.d (.bl true),g):=by
 intro ns R
 suffices h:Fn HL [.ref 0] [.frz (ns.map D.int)] λr _=>r=.d (.bl true) by
  obtain⟨r,g,e,rfl⟩:=h
  exact⟨g,e⟩
 refine bT ?_
 unfold IZ
 refine bA (fe ?_)
 apply Iv ?_
 apply Gb rfl ?_
 apply Gk ?_
 refine IE ?_
 obtain⟨m,N,W⟩:∃m:Nat,(if (if ((ns.map D.int).length:Nat)<(4:Int) then(((ns.map D.int).length:Nat):Int) else 4)>(1:Int) then(if ((ns.map D.int).length:Nat)<(4:Int) then(((ns.map D.int).length:Nat):Int) else 4) else 1)=(m:Int)/\m<=4:=by
  refine⟨(if (if ((ns.map D.int).length:Nat)<(4:Int) then(((ns.map D.int).length:Nat):Int) else 4)>(1:Int) then(if ((ns.map D.int).length:Nat)<(4:Int) then(((ns.map D.int).length:Nat):Int) else 4) else 1).toNat,?_,?_⟩ <;>(repeat' split) <;>omega
 refine⟨m,congrArg D.int N,by omega,?_⟩
 refine⟨λn b g=>(∃t G u A y,b= [some (.ref 0),t,G,u,A,y])/\g[0]?=some (.frz (ns.map D.int)),⟨⟨_,_,_,_,_,rfl⟩,rfl⟩,λ_ _ _ _=>trivial,?_,?_⟩
 ·rintro n d b S X ⟨⟨t,G,u,A,y,rfl⟩,hS⟩
  obtain⟨rfl,_⟩:=Gn X
  apply aS ?_
  apply HN hS λj p=> ?_
  have f:Ex S.length 0 (S++ [rE j p 0]) (S++ [rE j p 0]):=Ex.refl aJ (by omega) (by omega)
  have q:(S++ [rE j p 0])[0]?=some (.frz (ns.map D.int)):=aH hS
  have B:0≠S.length:=by
   have:=(gQs.mp hS).1
   omega
  show Fn aB [.ref S.length,.int 3] (S++ [rE j p 0]) _
  generalize S.length=kp at f B⊢
  generalize S++ [rE j p 0]=S1 at f q⊢
  apply bB f (by omega) (by decide) (by decide) λv S2 hv P Q Z=> ?_
  rw[show(2:Int)+(v:Int)=((2+v:Nat):Int) by omega]
  apply FP (most:=3) P (by omega) (by omega) (by omega) (by omega) (by omega) λw Y ok mo hwl e3 _ _=> ?_
  refine Fd ok e3 (by omega) λL M r S4 U I hl F=> ?_
  dsimp only
  refine dG rfl (ax (aS (ax (aS (a8 ?_)))))
  have H:=U.keep _ _ B (e3.keep _ _ B q)
  refine dX (Kf (Im (Ld (xg ?_))))
  refine kA (α:=bj) (λb=>∃a,b= [a,some w.d]) bj.d (λ_=>.bl true) ⟨none,rfl⟩ ?_
  refine fh (bp rfl (a_ I ?_))
  refine⟨M,rfl,I,by omega,λs L b x=> ?_,?_⟩
  ·obtain⟨a,rfl⟩:=x
   refine aS ⟨rfl,⟨_,rfl⟩,?_⟩
   refine Bo (cE (bp rfl (cE (bp rfl (ke ?_)))))
   obtain⟨m,J,i,C⟩:=F s L
   exact E9 ok mo i C (by omega) ⟨rfl,rfl⟩
  refine⟨rfl,_,by rw[List.map_const'];exact y6 _,?_⟩
  refine Bq ?_
  refine aN (λc=>by simp at c) (λ_=>bW ?_)
  exact⟨⟨_,_,_,_,_,rfl⟩,H⟩
 ·rintro b g ⟨⟨t,G,u,A,y,rfl⟩,hS⟩
  symm
  have hl:=(gQs.mp hS).1
  refine fW (S2:= [.frz (ns.map D.int)]) ⟨by show 1<=g.length;omega,λk o K e=> ?_⟩ ?_ (λk z=>(nomatch z)) rfl rfl
  ·have K:k<1:=K
   have:k=0:=by omega
   subst this
   rw[hS] at e
   exact .inl e
  ·cases g with
   |nil=>simp at hl
   | cons a l=>
     simp at hS
     subst hS
     rfl
end W28
open PySem PySem.W PyProof.Rows L2 DL
theorem PySem.Challenge.cw_calledroom_k90_whole_each_in_one_place_holds : PySem.Challenge.rw_calledroom_k90_whole_each_in_one_place.Holds := by
  w_on; o_law; k_head; (case hw => w_witness2)
  k_fill
  refine DL.K5 (l := PySem.Challenge.rw_calledroom_k90_whole_each_in_one_place) (k := 15) rfl rfl ⟨rfl, by decide, by decide⟩ (λw h Y => PySem.W.kIn_of Y) (λw => ?nl) ?F
  case nl => rfl
  case F =>
    intro w mg fa h KX G hmg
    refine' W28.all_mk KX G hmg ?_ ?_ ?_ ?_ ?_ ?_ ?_ ?_ ?_ ?_ ?_ ?_ ?_ ?_ ?_ ?_ ?_ ?_ ?_ ?_ ?_ ?_ ?_ ?_ ?_ ?_ ?_ ?_ ?_ ?_ ?_ ?_ ?_ ?_ ?_ ?_ ?_ ?_ ?_ ?_ ?_ ?_ ?_ ?_ ?_ ?_ ?_ ?_ ?_ ?_ ?_ ?_ ?_ ?_ ?_ ?_ ?_ ?_ ?_ ?_ ?_ ?_ ?_ ?_ ?_ ?_ ?_ ?_ ?_ ?_ ?_ ?_ ?_ ?_ ?_ ?_ ?_ ?_ ?_ ?_ ?_ ?_ ?_ ?_ ?_ ?_ ?_ W28.FF
    any_goals first | exact DL.a9.of (by k_is) (by k_is) (by k_is) (by k_is) | k_is
