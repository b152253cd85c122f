import PyProof.Rows.All
import Wide.All
import OpenK.AllK
import Wide.FinOn
import Lean
import PyProof.EqAt
import PyProof.EqKinds
import PyProof.TupleCall
import PyProof.NeKinds
import PyProof.ListRange
import PyProof.ConsumeWalk
import PyProof.StrWalks
import PyProof.Rows.StrJoin2
import PyProof.Rows.SetFrom
import PyProof.SetNew
import PyProof.DictUpdate
import PyProof.FactsAll.dict_0
import PyProof.FactsAll.dict_1
import PyProof.FactsAll.dict_2
import PyProof.FactsAll.dict_3
import PyProof.FactsAll.dict_4
import PyProof.AttrMissSeq
import PyProof.AttrMissHeap
import KE.KEqDict
import PyProof.TupleKey
import PyProof.SetRoads
import PyProof.SetScanFacts
import PyProof.ForWalkI
import PyProof.FactsAll.set_0
import PyProof.FactsAll.set_1
import PyProof.FactsAll.set_2
import PyProof.CollectWalk
import PyProof.Rows.SortStr
import PyProof.Rows.SortShellK
import PyProof.ZipIter
import KE.KSortTup
import PyProof.ReprRoads
import PyProof.StrLawsRepr
import PyProof.CallFns
import PyProof.FactsAll.zip
import PyProof.DictCompW
import PyProof.EnumFor
import PyProof.EnumStmt
import PyProof.Draws
import PySem.Challenge.RW_calledroom_k19_who_may_step
set_option Elab.async false
set_option linter.all false
set_option maxRecDepth 100000
namespace PySem.W.Fast
def tw2041885286462108574:=()
def tw2387291926799176439:=()
def tw9503827931032031154:=()
def tw12260546696721971131:=()
def tw10819820624441185155:=()
def tw12955212892766593534:=()
def tw4473540840728168327:=()
def tw9989025668656582115:=()
def tw9184720487613679710:=()
def tw3730219855539910317:=()
def tw10035049165538563757:=()
def tw1462009157506918368:=()
def tw1138524805250581878:=()
def tw15279679615255643250:=()
def tw5705951602360614754:=()
def tw13630959971768703613:=()
def tw16579728243146462958:=()
def tw4344449981722982347:=()
def tw5904331928630294366:=()
def tw16534563436698969702:=()
def tw5592480873757337313:=()
def tw11461178649224015676:=()
def tw4916305972542224343:=()
def tw12636102051878733012:=()
def tw1256696522676494471:=()
def tw5486248757709056513:=()
def tw7983294100548898158:=()
def tw16746840994499036227:=()
def tw16810479542266587569:=()
def tw6722460233274188550:=()
def tw8650249716505762092:=()
def tw14829461111453021166:=()
def tw3739289095731682967:=()
def tw16063855267790513882:=()
def tw6270945523226387587:=()
def tw13200083543696936443:=()
def tw12281216578426651288:=()
def tw5735150301730988687:=()
def tw4581629879585327127:=()
def tw9523710355338067861:=()
def tw8521743813205617058:=()
def tw13271702273241523575:=()
def tw5271442246392166250:=()
def tw12967482356563277048:=()
def tw9787625308420882538:=()
def tw2111111172487670417:=()
def tw13846811082767098915:=()
def tw4444264405285544636:=()
def tw7200822269480870209:=()
def tw12992215535919777749:=()
def tw2710232878112173720:=()
def tw12075180123038022976:=()
def tw4749673194368238426:=()
def tw17168591665201131307:=()
def tw15814816750054962594:=()
def tw1012638195446223330:=()
def tw4261261033901842679:=()
def tw15137440434843088282:=()
def tw15468341644661406807:=()
def tw7343917625023475441:=()
def tw200448276464330793:=()
def tw3742086072519831953:=()
def tw4709898161347515849:=()
def tw2125888817588858114:=()
def tw13622073004628536804:=()
def tw3801291766405058074:=()
def tw13649999878502735617:=()
def tw13646058658454879573:=()
def tw12062040773625081986:=()
def tw3777673251831069692:=()
def tw13401829822858004676:=()
def tw6294329681622931747:=()
def tw17701451774591642912:=()
def tw7090780020810099207:=()
def tw18120397523127069479:=()
def tw18017759255273394775:=()
def tw40139653619441786:=()
def tw15819046548946595447:=()
def tw12468769883494673020:=()
def tw16746139468600214379:=()
def tw14439509602291573170:=()
def tw9234911218240422954:=()
def tw1420008368235920252:=()
def tw1240450342887775387:=()
def tw5877376472114110427:=()
def tw17801023718133789287:=()
def tw15977571568028501887:=()
def tw10043473417325833531:=()
def tw18184541172666837103:=()
def tw10333781275706528892:=()
def tw17857494828420936252:=()
def tw5917531629711937730:=()
def tw16138478984870020361:=()
def tw1666477199675111800:=()
def tw7026975368294018956:=()
def tw15756930182843795197:=()
def tw13272123683142764214:=()
def tw15403522788207620372:=()
def tw6778697087697910827:=()
def tw16605060796898735606:=()
def tw4284829754592571909:=()
def tw7783217066961691970:=()
def tw4433573739380803554:=()
def tw9033884930870591769:=()
def tw1447105808468115073:=()
def tw9575553215746537116:=()
def tw6389170767045911325:=()
def tw11342181315529946937:=()
def tw9774752820639475833:=()
def tw15153223277826534825:=()
def tw1049941579186881907:=()
def tw11112247523863177971:=()
def tw4534990049430328150:=()
def tw18141085193336878981:=()
def tw14809054870725975739:=()
def tw17051959522543776801:=()
def tw4483419040485857361:=()
def tw8085177813599554321:=()
def tw17731178405144202855:=()
def tw11068354776621978339:=()
def tw4618896917250131573:=()
def tw9862738599048687995:=()
def tw11802140252005202293:=()
def tw17191651179725586356:=()
def tw8598182453328041333:=()
def tw13820087810269287346:=()
def tw12441173556508768607:=()
def tw10229556206022370876:=()
def tw11746807738213707336:=()
def tw18071178069545553342:=()
def tw14681130646354980362:=()
def tw17221117691841928096:=()
def tw2595127504309684599:=()
def tw3774293801390585619:=()
def tw6973097822650246007:=()
def tw5709208098879034597:=()
def tw10736224977696319939:=()
def tw14354771092931898864:=()
def tw15055971661834806471:=()
def tw8912271788251749866:=()
def tw16264607249878049280:=()
def tw11745107633755761983:=()
def tw16375638901113721627:=()
def tw3159994657328518369:=()
def tw11900651183555129108:=()
def tw6734152954160455440:=()
def tw16751187457080246241:=()
end PySem.W.Fast
set_option maxHeartbeats 8000000
abbrev gQm:=@List.getElem?_map
abbrev lQm:=@List.length_map
abbrev mQg:=@List.mem_of_getElem?
abbrev oQm:=@Option.map_eq_some_iff
abbrev gQe:=@List.getElem?_eq_getElem
abbrev gQs:=@List.getElem?_eq_some_iff
abbrev lQa:=@List.length_append
abbrev nQl:=@Nat.le_of_lt
abbrev mQa:=@List.mem_append
namespace L2
open PySem PySem.Spec PyProof.Rows
abbrev Key:=Sum Int Str
def m8:Key->Value->Bool
 |.inl k,v=>Value.isInt k v
 |.inr x,v=>Value.isStrOf x v
def Hk(w:World):Key->Int
 |.inl k=>hashInt k
 |.inr x=>hashStr w x
theorem cP:∀{k:Key} {v:Value},m8 k v=true->(∃i t,k=Sum.inl i/\v=Value.int i t)\/(∃x t,k=Sum.inr x/\v=Value.str x t)
 | .inl i,v,h=>by
   obtain⟨t,e⟩:=Value.isInt_shape (k:=i) (v:=v) h
   exact .inl ⟨i,t,rfl,e⟩
 | .inr x,v,h=>by
   obtain⟨t,e⟩:=Value.isStrOf_shape (x:=x) (v:=v) h
   exact .inr ⟨x,t,rfl,e⟩
theorem zj(i:Int)(t:Tok):m8 (.inl i) (.int i t)=true:=by simp[m8,Value.isInt]
theorem mC(x:Str)(t:Tok):m8 (.inr x) (.str x t)=true:=by simp[m8,Value.isStrOf]
theorem DH(a b:Int):decide ((Sum.inl a:Key)=Sum.inl b)=(a==b):=by
 by_cases e:a=b
 ·subst e;simp
 ·have h:¬(Sum.inl a:Key)=Sum.inl b:=fun q=>e (Sum.inl.inj q)
  rw[decide_eq_false h]
  exact(beq_eq_false_iff_ne.mpr e).symm
theorem Ey(a b:Str):decide ((Sum.inr a:Key)=Sum.inr b)=decide (a=b):=by
 by_cases e:a=b
 ·subst e;simp
 ·have h:¬(Sum.inr a:Key)=Sum.inr b:=fun q=>e (Sum.inr.inj q)
  rw[decide_eq_false h,decide_eq_false e]
theorem El(a:Int)(b:Str):decide ((Sum.inl a:Key)=Sum.inr b)=false:=decide_eq_false (fun q=>nomatch q)
theorem D1(a:Str)(b:Int):decide ((Sum.inr a:Key)=Sum.inl b)=false:=decide_eq_false (fun q=>nomatch q)
def bF(prog:Program)(w:World):PySem.KeyKind prog w Key where
 is:=m8
 hash:=Hk w
 inj:=fun v a b ha hb=>by
  rcases cP ha with⟨i,t,rfl,rfl⟩|⟨x,t,rfl,rfl⟩
  ·rcases cP hb with⟨j,u,rfl,e⟩|⟨y,u,rfl,e⟩
   ·injection e with e1 _;rw[e1]
   ·exact nomatch e
  ·rcases cP hb with⟨j,u,rfl,e⟩|⟨y,u,rfl,e⟩
   ·exact nomatch e
   ·injection e with e1 _;rw[e1]
 byValue:=fun k v h=>by
  rcases cP h with⟨i,t,rfl,rfl⟩|⟨x,t,rfl,rfl⟩ <;>rfl
 pyHash:=fun hv h=>by
  rcases cP hv with⟨i,t,rfl,rfl⟩|⟨x,t,rfl,rfl⟩
  ·exact wpAny_pyHash_int h
  ·exact wpAny_pyHash_str h
 eqBool:=fun hu hv h=>by
  rcases cP hu with⟨i,t,rfl,rfl⟩|⟨x,t,rfl,rfl⟩
  ·rcases cP hv with⟨j,u,rfl,rfl⟩|⟨y,u,rfl,rfl⟩
   ·rw[DH] at h;exact wpAny_eqBool_int h
   ·rw[El] at h;exact SeqAt.EqAt.int_str i t y u _ _ _ _ h
  ·rcases cP hv with⟨j,u,rfl,rfl⟩|⟨y,u,rfl,rfl⟩
   ·rw[D1] at h;exact SeqAt.EqAt.str_int x t j u _ _ _ _ h
   ·rw[Ey] at h;exact wpAny_eqBool_str h
 «strs»:=fun k x t v h=>by
  rcases cP h with⟨i,u,rfl,e⟩|⟨y,u,rfl,e⟩
  ·exact nomatch e
  ·injection e with e1 _
   subst e1
   cases v <;>rfl
theorem vH(prog:Program)(w:World)(i:Int)(t:Tok):(bF prog w).is (.inl i) (.int i t)=true:=zj i t
theorem u6(prog:Program)(w:World)(x:Str)(t:Tok):(bF prog w).is (.inr x) (.str x t)=true:=mC x t
inductive V where
 |non|bl (b:Bool)|int (i:Int)|str (x:Str)|byt (b:Array UInt8)|flt (b:UInt64)|ref (a:Addr)|ty (n:String)
 deriving DecidableEq
def RelV:V->Value->Prop
 |.non,u=>u=Value.none
 |.bl b,u=>u=Value.bool b
 |.int i,u=>∃t,u=Value.int i t
 |.str x,u=>∃t,u=Value.str x t
 |.byt b,u=>∃t,u=Value.bytes b t
 |.flt b,u=>∃t,u=Value.float b t
 |.ref a,u=>u=Value.ref a
 |.ty n,u=>u=Value.type n
abbrev bt:List V->List Value->Prop:=Paired RelV
theorem bt.length{xs:List V}{us:List Value}(r:bt xs us):xs.length=us.length:=Paired.length r
theorem bt.get:∀{xs:List V} {us:List Value} {i:Nat} {x:V},bt xs us->xs[i]?=some x->∃u,us[i]?=some u/\RelV x u
 |_,_,_,_,.nil,e=>by simp at e
 |_,_,0,_,.cons r _,e=>by simp at e;subst e;exact⟨_,rfl,r⟩
 | _,_,i+1,x,.cons _ t,e=>by
   obtain⟨u,h1,h2⟩:=bt.get (i:=i) (x:=x) t (by simpa using e)
   exact⟨u,by simpa using h1,h2⟩
theorem bt.set{x:V}{u:Value}(r:RelV x u):∀{xs:List V} {us:List Value} (i:Nat),bt xs us->bt (xs.set i x) (us.set i u)
 |_,_,_,.nil=>.nil
 |_,_,0,.cons _ t=>.cons r t
 |_,_,i+1,.cons q t=>.cons q (bt.set r i t)
theorem bt.append:∀{xs ys:List V} {us ws:List Value},bt xs us->bt ys ws->bt (xs++ys) (us++ws)
 |_,_,_,_,.nil,s=>s
 |_,_,_,_,.cons r t,s=>.cons r (bt.append t s)
theorem bt.take:∀{xs:List V} {us:List Value} (n:Nat),bt xs us->bt (xs.take n) (us.take n)
 |_,_,0,_=>.nil
 |_,_,_+1,.nil=>.nil
 |_,_,n+1,.cons r t=>.cons r (bt.take n t)
theorem bt.drop:∀{xs:List V} {us:List Value} (n:Nat),bt xs us->bt (xs.drop n) (us.drop n)
 |_,_,0,r=>r
 |_,_,_+1,.nil=>.nil
 |_,_,n+1,.cons _ t=>bt.drop n t
def oX:Option V->Option Value->Prop
 |some v,some u=>RelV v u
 |none,none=>True
 |_,_=>False
def KV{κ:Type}:List (κ×V)->List (κ×Value)->Prop:=Paired fun(p:κ×V) (q:κ×Value)=>p.1=q.1/\RelV p.2 q.2
def kV:Key->V
 |.inl i=>.int i
 |.inr x=>.str x
inductive HO where
 |lst (xs:List V)
 |tup (xs:List V)
 |dK (kvs:List (Key×V))|dT (kvs:List (List Key×V))
 |set (S:Int->Bool) (n:Nat)
 |ins (C dx:Addr) (fs:List (Str×V))
 |own (x:Addr)
 |xd (fs:List (Str×V))
 |met (f x:Addr)
 |rng (lo hi:Int)
 |frz (o:Obj) (u:HO)
 |tbl (ps:Array Value)
 |ext (φ:Heap->Prop)
abbrev Hp:=Addr->Option HO
def upd(H:Hp)(a:Addr)(o:HO):Hp:=fun b=>if b=a then some o else H b
theorem bJ{H:Hp}{a:Addr}{o:HO}:upd H a o a=some o:=by unfold upd;rw[if_pos rfl]
theorem a_{H:Hp}{a b:Addr}{o:HO}(h:b≠a):upd H a o b=H b:=by unfold upd;rw[if_neg h]
theorem Ai{H:Hp}{a b:Addr}{o u:HO}(h:H a=some o)(h':H b=some u)(d:o≠u):a≠b:=by
 intro e;subst e;rw[h] at h';exact d (Option.some.inj h')
theorem et{H:Hp}{a b:Addr}{o:HO}(h:H a=some o)(h':H b=none):a≠b:=by
 intro e;subst e;rw[h] at h';cases h'
def uO(h:Heap)(a:Addr)(items:Array Value):Prop:=∃o,h.get? a=some o/\o.cls=.type "tuple" /\o.dict=none/\∃n,o.data=.seq items n
theorem uO.it{h:Heap}{a:Addr}{items:Array Value}(x:uO h a items):IsTup h a items:=by
 obtain⟨o,e,c,_,d⟩:=x
 exact⟨o,e,c,d⟩
theorem uO.new(h:Heap)(items:Array Value):uO (h.push {cls:=.type "tuple",data:=.seq items}) h.objs.size items:=⟨_,Heap.get?_push_size _ rfl,rfl,rfl,_,rfl⟩
section
variable(P:Program)(w:World)
def cG(H:Hp)(h:Heap)(a:Addr):HO->Prop
 |.lst xs=>xs.length<=sizeLine/\∃(its:List Value) (n:Nat),bt xs its/\h.get? a=some {cls:=.type "list",data:=.seq its.toArray n}
 |.tup xs=>xs.length<=sizeLine/\∃its:List Value,bt xs its/\uO h a its.toArray
 |.dK kvs=>kvs.length<=sizeLine/\(a==sysModules)=false/\∃vs,KV kvs vs/\h.DictOf (bF P w) a vs
 |.dT kvs=>kvs.length<=sizeLine/\(a==sysModules)=false/\∃xs:List (List Key×Addr×Value),
   Paired (fun(p:List Key×V) (q:List Key×Addr×Value)=>p.1=q.1/\H q.2.1=some (.tup (p.1.map kV))/\RelV p.2 q.2.2) kvs xs∧
   ∃o es ep,h.get? a=some o/\o.ExactDict/\o.data=.dict es ep/\es.toList=xs.map (entryOfKey (tupleKind (bF P w)))/\(xs.map (·.1)).Nodup
 |.set S n=>h.SetOf (intKind P w) a S n
 |.ins C dx fs=>H dx=some (.own a)/\fs.length<=1000/\dx≠a/\h.get? a=some (PySem.W.instObj C dx)∧
   ∃mA,h.Ns1 dx mA/\(∀f,oX (fs.lookup f) (mA f))/\PySem.Within mA (fs.map (·.1))
 |.own _=>∃o,h.get? a=some o
 |.xd fs=>∃mA,h.Ns1 a mA/\∀f,oX (fs.lookup f) (mA f)
 |.rng lo hi=>∃t u v,h.get? a=some {cls:=.type "range",data:=.fields #[.int lo t,.int hi u,.int 1 v]}
 |.frz o u=>h.get? a=some o/\cG H h a u
 |.tbl ps=>h.get? a=some {cls:=.none,data:=.fields ps}
 |.met f x=>h.get? a=some (PySem.W.methodObj (.ref f) (.ref x))
 |.ext φ=>φ h/\(∃o,h.get? a=some o)/\∀h1 h2:Heap,φ h1->(∀o,h1.get? a=some o->h2.get? a=some o)->φ h2
def kU(H:Hp)(h:Heap):Prop:=∀a o,H a=some o->cG P w H h a o
end
section
variable{P:Program}{w:World}{H H':Hp}{h h':Heap}{a:Addr}{o:HO}
theorem cG.lt(x:cG P w H h a o):a<h.objs.size:=by
 cases o with
 |lst xs=>obtain⟨_,_,_,_,e⟩:=x;exact Heap.lt_size e
 |tup xs=>obtain⟨_,_,_,p⟩:=x;exact p.it.lt
 |dK kvs=>obtain⟨_,_,_,_,o,_,_,e,_⟩:=x;exact Heap.lt_size e
 |dT kvs=>obtain⟨_,_,_,_,o,_,_,e,_⟩:=x;exact Heap.lt_size e
 |set S n=>obtain⟨o,_,_,_,e,_⟩:=x;exact Heap.lt_size e
 |ins C dx fs=>obtain⟨_,_,_,e,_⟩:=x;exact Heap.lt_size e
 |own y=>obtain⟨_,e⟩:=x;exact Heap.lt_size e
 |xd fs=>obtain⟨_,⟨_,_,_,e,_⟩,_⟩:=x;exact Heap.lt_size e
 |rng lo hi=>obtain⟨_,_,_,e⟩:=x;exact Heap.lt_size e
 |frz ob u=>obtain⟨e,_⟩:=x;exact Heap.lt_size e
 |tbl ps=>exact Heap.lt_size (show h.get? a=some _ from x)
 |met f y=>exact Heap.lt_size (show h.get? a=some _ from x)
 |ext φ=>obtain⟨_,⟨_,e⟩,_⟩:=x;exact Heap.lt_size e
theorem Paired.mapP{α β:Type}{F G:α->β->Prop}:∀{l₁:List α} {l₂:List β},Paired F l₁ l₂->(∀a b,F a b->G a b)->Paired G l₁ l₂
 |_,_,.nil,_=>.nil
 |_,_,.cons r t,f=>.cons (f _ _ r) (Paired.mapP t f)
theorem cG.stay(x:cG P w H h a o)(k:∀b u,(b=a\/H b=some (.own a))->h.get? b=some u->h'.get? b=some u)
  (ho:∀b,H b=some (.own a)->H' b=some (.own a)) (ht:∀b xs,H b=some (.tup xs)->H' b=some (.tup xs)):cG P w H' h' a o:=by
 induction o with
 |lst xs=>obtain⟨z,its,n,r,e⟩:=x;exact⟨z,its,n,r,k _ _ (.inl rfl) e⟩
 |tup xs=>obtain⟨z,its,r,ob,e,c⟩:=x;exact⟨z,its,r,ob,k _ _ (.inl rfl) e,c⟩
 |dK kvs=>obtain⟨z,y,vs,r,ob,es,ep,e,c⟩:=x;exact⟨z,y,vs,r,ob,es,ep,k _ _ (.inl rfl) e,c⟩
 | dT kvs=>
   obtain⟨z,y,xs,r,ob,es,ep,e,c⟩:=x
   exact⟨z,y,xs,Paired.mapP r fun p q z=>⟨z.1,ht _ _ z.2.1,z.2.2⟩,ob,es,ep,k _ _ (.inl rfl) e,c⟩
 |set S n=>obtain⟨ob,es,ep,t,e,c⟩:=x;exact⟨ob,es,ep,t,k _ _ (.inl rfl) e,c⟩
 | ins C dx fs=>
   obtain⟨d,z,ne,e,mA,⟨od,es,ep,e2,c⟩,r⟩:=x
   exact⟨ho _ d,z,ne,k _ _ (.inl rfl) e,mA,⟨od,es,ep,k _ _ (.inr d) e2,c⟩,r⟩
 |own y=>obtain⟨ob,e⟩:=x;exact⟨ob,k _ _ (.inl rfl) e⟩
 |xd fs=>obtain⟨mA,⟨od,es,ep,e,c⟩,r⟩:=x;exact⟨mA,⟨od,es,ep,k _ _ (.inl rfl) e,c⟩,r⟩
 |rng lo hi=>obtain⟨t,u,v,e⟩:=x;exact⟨t,u,v,k _ _ (.inl rfl) e⟩
 |frz ob u ih=>obtain⟨e,q⟩:=x;exact⟨k _ _ (.inl rfl) e,ih q⟩
 | tbl ps=>
   have e:h.get? a=some {cls:=.none,data:=.fields ps}:=x
   show h'.get? a=some {cls:=.none,data:=.fields ps}
   exact k a _ (.inl rfl) e
 | met f y=>
   have e:h.get? a=some (PySem.W.methodObj (.ref f) (.ref y)):=x
   show h'.get? a=some (PySem.W.methodObj (.ref f) (.ref y))
   exact k a _ (.inl rfl) e
 |ext φ=>obtain⟨p,⟨o,e⟩,st⟩:=x;exact⟨st _ _ p fun o q=>k _ _ (.inl rfl) q,⟨o,k _ _ (.inl rfl) e⟩,st⟩
theorem kU.lt(x:kU P w H h)(e:H a=some o):a<h.objs.size:=(x a o e).lt
theorem kU.fresh(x:kU P w H h)(e:h.objs.size<=a):H a=none:=by
 cases q:H a with
 |none=>rfl
 |some u=>exact absurd (Nat.lt_of_lt_of_le (x.lt q) e) (Nat.lt_irrefl _)
theorem kU.kept(x:kU P w H h)(k:∀b u,h.get? b=some u->h'.get? b=some u):kU P w H h':=fun a o e=>
 (x a o e).stay (fun b u _ q=>k b u q) (fun _ q=>q) fun _ _ q=>q
theorem kU.laid(x:kU P w H h)(k:∀b u,h.get? b=some u->h'.get? b=some u)(hp:h.objs.size<=a)(new:cG P w (upd H a o) h' a o):kU P w (upd H a o) h':=fun b u e=>by
 have hn:=x.fresh hp
 by_cases hb:b=a
 ·subst hb;rw[bJ] at e;cases e;exact new
 ·rw[a_ hb] at e
  exact(x b u e).stay (fun c v _ q=>k c v q) (fun c q=>by rw[a_ (et q hn)];exact q) fun c xs q=>by rw[a_ (et q hn)];exact q
end
def Rd(H:Hp)(a:Addr)(u:HO):Prop:=H a=some u\/∃o,H a=some (.frz o u)
theorem Rd.ok{P:Program}{w:World}{H:Hp}{h:Heap}{a:Addr}{u:HO}(r:Rd H a u)(x:kU P w H h):cG P w H h a u:=by
 rcases r with r|⟨o,r⟩
 ·exact x a u r
 ·obtain⟨_,q⟩:=x a _ r
  exact q
def Fj:Option HO->Prop
 |some (.lst _)=>True
 |some (.dK _)=>True
 |some (.dT _)=>True
 |some (.set _ _)=>True
 |some (.ins _ _ _)=>True
 |some (.ext _)=>True
 |_=>False
section
variable{P:Program}{w:World}{H:Hp}{h h':Heap}{x e:Addr}{o':HO}
theorem kU.write(ok:kU P w H h)(mu:Fj (H x))(he:e=x\/H e=some (.own x))(k:∀b u,b≠e->h.get? b=some u->h'.get? b=some u)(heo:∃u,h'.get? e=some u)
  (new:cG P w (upd H x o') h' x o'):kU P w (upd H x o') h':=fun b u q=>by
 have nown:∀c y,H c=some (.own y)->c≠x:=fun c y r z=>by subst z;rw[r] at mu;exact mu
 have ntup:∀c xs,H c=some (.tup xs)->c≠x:=fun c xs r z=>by subst z;rw[r] at mu;exact mu
 by_cases hb:b=x
 ·subst hb;rw[bJ] at q;cases q;exact new
 ·rw[a_ hb] at q
  by_cases hbe:b=e
  ·have q':H b=some (.own x):=by
    rcases he with z|z
    ·exact absurd (hbe.trans z) hb
    ·rw[hbe];exact z
   rw[q] at q';cases q'
   obtain⟨v,hv⟩:=heo
   exact⟨v,by rw[hbe];exact hv⟩
  ·refine(ok b u q).stay (fun c v hc r=>k c v ?_ r) (fun c r=>by rw[a_ (nown c b r)];exact r) fun c xs r=>by rw[a_ (ntup c xs r)];exact r
   rcases hc with rfl|hc
   ·exact hbe
   ·rintro rfl
    rcases he with z|z
    ·exact nown c b hc z
    ·rw[hc] at z;cases z;exact hb rfl
end
structure Un(fs ex:List Addr)(H H':Hp)(h h':Heap):Prop where
 keep:∀b o,h.get? b=some o->H b=none->b∉fs->b∉ex->h'.get? b=some o
 slot:∀b o,h.get? b=some o->H b=none->b∈fs->b∉ex->∃sl,h'.get? b=some {o with slots:=sl}
 free:∀b o,h.get? b=some o->H b=none->b∉ex->H' b=none
 there:∀b o,h.get? b=some o->b∉ex->∃o',h'.get? b=some o'
 tups:∀b xs,H b=some (.tup xs)->H' b=some (.tup xs)
 frzs:∀b o u,H b=some (.frz o u)->H' b=some (.frz o u)
 tbls:∀b ps,H b=some (.tbl ps)->∃more,H' b=some (.tbl (ps++more))
section
variable{fs fs' ex ex':List Addr}{H H1 H2:Hp}{h h1 h2 h':Heap}{a x e:Addr}{o:HO}
theorem Un.any(u:Un fs ex H H1 h h1){b:Addr}{ob:Obj}(q:h.get? b=some ob)(n:H b=none)(hx:b∉ex):∃sl,h1.get? b=some {ob with slots:=sl}:=by
 by_cases hb:b∈fs
 ·exact u.slot b ob q n hb hx
 ·exact⟨ob.slots,u.keep b ob q n hb hx⟩
theorem Un.kept(k:∀b u,h.get? b=some u->h'.get? b=some u):Un fs ex H H h h':=
 ⟨fun b ob q _ _ _=>k b ob q,fun b ob q _ _ _=>⟨ob.slots,k b ob q⟩,fun _ _ _ n _=>n,fun b ob q _=>⟨ob,k b ob q⟩,fun _ _ q=>q,fun _ _ _ q=>q,fun _ ps q=>⟨#[],by rw[q];simp⟩⟩
theorem Un.refl:Un fs ex H H h h:=Un.kept fun _ _ q=>q
theorem Un.laid(k:∀b u,h.get? b=some u->h'.get? b=some u)(hp:h.objs.size<=a)(hn:H a=none):Un fs ex H (upd H a o) h h' where
 keep:=fun b u q _ _ _=>k b u q
 slot:=fun b u q _ _ _=>⟨u.slots,k b u q⟩
 free:=fun b u q n _=>by rw[a_ (Nat.ne_of_lt (Nat.lt_of_lt_of_le (Heap.lt_size q) hp))];exact n
 there:=fun b u q _=>⟨u,k b u q⟩
 tups:=fun b xs q=>by rw[a_ (et q hn)];exact q
 frzs:=fun b u xs q=>by rw[a_ (et q hn)];exact q
 tbls:=fun b ps q=>⟨#[],by rw[a_ (et q hn),q];simp⟩
theorem Un.write(mu:Fj (H x))(he:e=x\/H e=some (.own x))(k:∀b u,b≠e->h.get? b=some u->h'.get? b=some u)(heo:∃u,h'.get? e=some u):Un fs ex H (upd H x o) h h':=by
 have hx:∀b,H b=none->b≠x:=fun b n z=>by subst z;rw[n] at mu;exact mu
 have hb:∀b,H b=none->b≠e:=fun b n z=>by
  subst z
  rcases he with r|r
  ·exact hx b n r
  ·rw[n] at r;cases r
 have hm:∀b u,H b=some u->¬Fj (some u)->b≠x:=fun b u q nm z=>by subst z;rw[q] at mu;exact nm mu
 refine⟨fun b u q n _ _=>k b u (hb b n) q,fun b u q n _ _=>⟨u.slots,k b u (hb b n) q⟩,fun b u q n _=>by rw[a_ (hx b n)];exact n,fun b u q _=> ?_,
  fun b xs q=>by rw[a_ (hm b _ q fun z=>z)];exact q,fun b u xs q=>by rw[a_ (hm b _ q fun z=>z)];exact q,fun b ps q=>⟨#[],by rw[a_ (hm b _ q fun z=>z),q];simp⟩⟩
 by_cases hbe:b=e
 ·subst hbe;exact heo
 ·exact⟨u,k b u hbe q⟩
end
def Gq(h:Heap)(H:Hp):List Addr:=(List.range h.objs.size).filter fun a=>(H a).isSome
def tK(h:Heap)(H:Hp):Heap:=PySem.W.hideAll h (Gq h H)
theorem zu(h:Heap)(H:Hp):(tK h H).objs.size=h.objs.size:=PySem.W.hideAll_size _ _
theorem Bj{h:Heap}{H:Hp}{b:Addr}{o:Obj}(e:h.get? b=some o)(n:H b=none):(tK h H).get? b=some o:=
 PySem.W.hideAll_get _ e fun hm=>by
  have q:(H b).isSome=true:=(List.mem_filter.mp hm).2
  rw[n] at q;simp at q
theorem CK{h:Heap}{H:Hp}{b:Addr}{o:Obj}(e:(tK h H).get? b=some o):h.get? b=some o/\H b=none:=by
 have e':h.get? b=some o:=PySem.W.of_hideAll (Gq h H) e
 refine⟨e',?_⟩
 cases q:H b with
 |none=>rfl
 | some x=>
   have hm:b∈Gq h H:=List.mem_filter.mpr ⟨List.mem_range.mpr (Heap.lt_size e'),by simp[q]⟩
   have z:(tK h H).get? b=none:=PySem.W.hideAll_none (Gq h H) hm
   rw[z] at e;cases e
structure Mod(K:PySem.W.Frag)(mg:Str->Option Value)(base:Heap):Prop where
 kin:K.In base
 glob:base.Ns mainGlobals mg
 blt:∃mb,base.Ns builtinsNs mb/\∀x:Str,x≠"__name__" ->mb x=bootBuiltins x
 nolimit:base.NoLimit
structure Cx where
 prog:Program
 w:World
 K:PySem.W.Frag
 mg:Str->Option Value
 base:Heap
 A:Around
 N:List Str
 s₀:Shared
 H₀:Hp
 env:Env
 outer:List Env
 stack:List Env
 ex:List Addr
 fn:Str->Bool
 calm:Bool
 pn:List (Addr×Obj)
 xe:Value->Shared->Prop
def Aw(l:List Env):List Addr:=l.filterMap (·.frame)
abbrev Cx.fs(X:Cx):List Addr:=Aw X.outer
def Dm(sc:Scope)(x:Str):Prop:=sc.names.lookup x=some .local\/sc.names.lookup x=some .cell\/sc.names.lookup x=some .free
def Loc(sc:Scope)(x:Str):Prop:=sc.names.lookup x=some .local\/sc.names.lookup x=some .cell
def Look(env:Env)(h:Heap)(m:Str->Option Value)(x:Str)(u:Value):Prop:=
 (env.kindOf x=some .local/\m x=some u)\/((env.kindOf x=some .cell\/env.kindOf x=some .free)/\∃c,env.cells.lookup x=some c/\h.IsCell c (some u))
structure Cx.Ok(X:Cx):Prop where
 mod:Mod X.K X.mg X.base
 kind:X.env.scope.kind=.function
 glob:X.env.globals=mainGlobals
 blt:X.env.builtins=builtinsNs
 above:X.s₀.heap.objs.size<=X.env.locals
 inj:∀x y c,X.env.cells.lookup x=some c->X.env.cells.lookup y=some c->x=y
 has:∀x,(X.env.kindOf x=some .cell\/X.env.kindOf x=some .free)->∃c,X.env.cells.lookup x=some c
 cab:∀x c,X.fn x=true->X.env.cells.lookup x=some c->X.s₀.heap.objs.size<=c
 hd:X.calm=true->X.A.handled=none
 frames:X.A.frames=some X.stack
 stk:X.stack=X.outer\/(X.stack=X.env::X.outer/\X.env.frame=some X.env.locals)
 exf:∀b∈X.ex,b≠X.env.locals/\∀x c,X.env.cells.lookup x=some c->c≠b
 bs:∀b o,X.base.get? b=some o->X.s₀.heap.get? b=some o/\X.H₀ b=none
 bsz:X.base.objs.size<=X.s₀.heap.objs.size
 noex:∀b o,X.base.get? b=some o->b∉X.ex
 exfs:∀b∈X.ex,b∉X.fs
 funs:X.s₀.heap.FunFrames X.base X.outer
 frf:∀b∈X.fs,X.H₀ b=none
structure Inv(X:Cx)(pins:List (Addr×Obj))(σ:List (Option V))(H:Hp)(s:Shared):Prop where
 ok:X.Ok
 os:s.os=X.s₀.os
 bare:AllBare s.gens
 base:Un X.fs X.ex X.H₀ H X.s₀.heap s.heap
 loc:∃m,s.heap.Ns X.env.locals m/\∀(i:Nat) (x:Str) (v:V),X.N[i]?=some x->σ[i]?=some (some v)->Dm X.env.scope x->∃u,RelV v u/\Look X.env s.heap m x u
 cell:∀x c,X.env.cells.lookup x=some c->∃v,s.heap.IsCell c v
 free:H X.env.locals=none
 freeC:∀x c,X.env.cells.lookup x=some c->H c=none
 pin:∀p∈X.pn++pins,s.heap.get? p.1=some p.2/\H p.1=none/\p.1≠X.env.locals/\p.1∉X.fs/\∀v,p.2.data≠.cell v
 hok:kU X.prog X.w H s.heap
 len:σ.length=X.N.length
section
variable{X:Cx}{pins:List (Addr×Obj)}{σ:List (Option V)}{H H':Hp}{s:Shared}{h':Heap}
theorem Cx.Ok.nofr(ok:X.Ok){b:Addr}{o:Obj}(e:X.base.get? b=some o):b∉X.fs:=fun hb=>by
 have:=(ok.funs.mem hb).1
 rw[e] at this;cases this
theorem Inv.bs(I:Inv X pins σ H s):∀b o,X.base.get? b=some o->s.heap.get? b=some o/\H b=none:=fun b o e=>
 ⟨I.base.keep b o (I.ok.bs b o e).1 (I.ok.bs b o e).2 (I.ok.nofr e) (I.ok.noex b o e),I.base.free b o (I.ok.bs b o e).1 (I.ok.bs b o e).2 (I.ok.noex b o e)⟩
theorem Inv.bk(I:Inv X pins σ H s):∀b o,X.base.get? b=some o->s.heap.get? b=some o:=fun b o e=>(I.bs b o e).1
theorem Inv.mod(I:Inv X pins σ H s):Mod X.K X.mg X.base:=I.ok.mod
theorem Inv.kIn(I:Inv X pins σ H s):X.K.In s.heap:=I.ok.mod.kin.keeps I.bk
theorem Inv.lt(I:Inv X pins σ H s):X.env.locals<s.heap.objs.size:=let ⟨_,hn,_⟩:=I.loc;hn.lt
theorem Inv.sz(I:Inv X pins σ H s):X.s₀.heap.objs.size<=s.heap.objs.size:=Nat.le_trans I.ok.above (nQl I.lt)
theorem Inv.nofs(I:Inv X pins σ H s){a:Addr}(h:s.heap.objs.size<=a):a∉X.fs:=fun hb=>by
 obtain⟨_,o,ho,_⟩:=I.ok.funs.mem hb
 exact absurd (Nat.lt_of_lt_of_le (Heap.lt_size ho) (Nat.le_trans I.sz h)) (Nat.lt_irrefl _)
theorem Inv.cne(I:Inv X pins σ H s):∀x c,X.env.cells.lookup x=some c->c≠X.env.locals:=fun x c e z=>by
 obtain⟨v,o,ho,hd⟩:=I.cell x c e
 obtain⟨m,⟨o',es,ep,ho',hd',_⟩,_⟩:=I.loc
 rw[z,ho'] at ho;cases ho;rw[hd'] at hd;cases hd
theorem Inv.funs(I:Inv X pins σ H s):s.heap.FunFrames X.base X.outer:=by
 have all:∀(l:List Env),(∀b∈Aw l,b∈X.fs)->X.s₀.heap.FunFrames X.base l->s.heap.FunFrames X.base l:=by
  intro l
  induction l with
  |nil=>intro _ _;trivial
  | cons env r ih=>
    intro hs hl
    obtain⟨hk,⟨L,o,hf,hn,ho,hd⟩,hr⟩:=hl
    have hL:L∈X.fs:=hs L (by unfold Aw;rw[List.filterMap_cons,hf];exact List.mem_cons_self)
    obtain⟨sl,e⟩:=I.base.slot L o ho (I.ok.frf L hL) hL fun z=>I.ok.exfs L z hL
    exact⟨hk,⟨L,_,hf,hn,e,hd⟩,ih (fun b hb=>hs b (by unfold Aw;rw[List.filterMap_cons,hf];exact List.mem_cons_of_mem _ hb)) hr⟩
 exact all X.outer (fun _ hb=>hb) I.ok.funs
theorem Inv.stack(I:Inv X pins σ H s):s.heap.FunFrames X.base X.stack:=by
 rcases I.ok.stk with e|⟨e,hf⟩
 ·rw[e];exact I.funs
 ·rw[e]
  obtain⟨m,hn,_⟩:=I.loc
  refine .cons (by rw[I.ok.kind];decide) hf hn ?_ I.funs
  exact Heap.get?_none_of_le (Nat.le_trans I.ok.bsz I.ok.above)
theorem Inv.stkSub(I:Inv X pins σ H s):∀b∈Aw X.stack,b∈X.env.locals::X.fs:=fun b hb=>by
 rcases I.ok.stk with e|⟨e,hf⟩
 ·rw[e] at hb;exact List.mem_cons_of_mem _ hb
 ·rw[e] at hb
  unfold Aw at hb
  rw[List.filterMap_cons,hf] at hb
  exact hb
theorem Inv.stkFree(I:Inv X pins σ H s):∀b∈Aw X.stack,H b=none:=fun b hb=>by
 rcases List.mem_cons.mp (I.stkSub b hb) with e|hb
 ·rw[e];exact I.free
 ·obtain⟨_,o,ho,_⟩:=I.ok.funs.mem hb
  exact I.base.free b o ho (I.ok.frf b hb) fun z=>I.ok.exfs b z hb
theorem Inv.step{g':Array GenState}{t':Nat}{d':Drawn}{ch:List Addr}(I:Inv X pins σ H s)
  (hch:∀b∈ch,(b∈X.ex\/X.s₀.heap.objs.size<=b)/\b≠X.env.locals/\(∀x c,X.env.cells.lookup x=some c->c≠b)/\∀p∈X.pn++pins,p.1≠b)
  (keep:∀b o,b≠X.env.locals->b∉X.fs->b∉ch->s.heap.get? b=some o->H b=none->h'.get? b=some o)
  (slot:∀b o,b≠X.env.locals->b∈X.fs->b∉ch->s.heap.get? b=some o->H b=none->∃sl,h'.get? b=some {o with slots:=sl}) (free:∀b o,b∉ch->s.heap.get? b=some o->H b=none->H' b=none)
  (there:∀b o,b∉ch->s.heap.get? b=some o->∃o',h'.get? b=some o')
  (tups:∀b xs,H b=some (.tup xs)->H' b=some (.tup xs)) (frzs:∀b o u,H b=some (.frz o u)->H' b=some (.frz o u)) (tbls:∀b ps,H b=some (.tbl ps)->∃more,H' b=some (.tbl (ps++more)))
  (ns:∀m,s.heap.Ns X.env.locals m->h'.Ns X.env.locals m) (hok:kU X.prog X.w H' h') (hg:AllBare g'):
  Inv X pins σ H' {s with heap:=h',gens:=g',drawn:=d',toks:=t'}:=by
 have neL:∀b o,X.s₀.heap.get? b=some o->b≠X.env.locals:=fun b o e=>Nat.ne_of_lt (Nat.lt_of_lt_of_le (Heap.lt_size e) I.ok.above)
 have neC:∀b o,X.s₀.heap.get? b=some o->b∉X.ex->b∉ch:=fun b o e hx hb=>by
  rcases(hch b hb).1 with z|z
  ·exact hx z
  ·exact absurd (Nat.lt_of_lt_of_le (Heap.lt_size e) z) (Nat.lt_irrefl _)
 have cellK:∀x c,X.env.cells.lookup x=some c->∀v,s.heap.IsCell c v->h'.IsCell c v:=fun x c e v qq=>by
  obtain⟨o,ho,hd⟩:=qq
  have nch:c∉ch:=fun z=>(hch c z).2.2.1 x c e rfl
  by_cases hc:c∈X.fs
  ·obtain⟨sl,q⟩:=slot c o (I.cne x c e) hc nch ho (I.freeC x c e)
   exact⟨_,q,hd⟩
  ·exact⟨o,keep c o (I.cne x c e) hc nch ho (I.freeC x c e),hd⟩
 refine⟨I.ok,I.os,hg,⟨fun b o e n hb hx=> ?_,fun b o e n hb hx=> ?_,fun b o e n hx=> ?_,fun b o e hx=> ?_,fun b xs e=>tups b xs (I.base.tups b xs e),fun b o xs e=>frzs b o xs (I.base.frzs b o xs e),fun b ps e=> ?_⟩,?_,fun x c e=> ?_,?_,fun x c e=> ?_,fun p hp=> ?_,hok,I.len⟩
 ·exact keep b o (neL b o e) hb (neC b o e hx) (I.base.keep b o e n hb hx) (I.base.free b o e n hx)
 ·obtain⟨sl,e1⟩:=I.base.slot b o e n hb hx
  obtain⟨sl',e2⟩:=slot b _ (neL b o e) hb (neC b o e hx) e1 (I.base.free b o e n hx)
  exact⟨sl',e2⟩
 ·obtain⟨o',e1⟩:=I.base.there b o e hx
  exact free b o' (neC b o e hx) e1 (I.base.free b o e n hx)
 ·obtain⟨o',e1⟩:=I.base.there b o e hx
  exact there b o' (neC b o e hx) e1
 ·obtain⟨m1,e1⟩:=I.base.tbls b ps e
  obtain⟨m2,e2⟩:=tbls b _ e1
  exact⟨m1++m2,by rw[e2,Array.append_assoc]⟩
 ·obtain⟨m,hn,hl⟩:=I.loc
  refine⟨m,ns m hn,fun i x v e1 e2 e3=> ?_⟩
  obtain⟨u,r,l⟩:=hl i x v e1 e2 e3
  refine⟨u,r,?_⟩
  rcases l with l|⟨k,c,e,z⟩
  ·exact .inl l
  ·exact .inr ⟨k,c,e,cellK x c e _ z⟩
 ·obtain⟨v,z⟩:=I.cell x c e
  exact⟨v,cellK x c e v z⟩
 ·obtain⟨m,⟨o,_,_,ho,_⟩,_⟩:=I.loc
  exact free _ o (fun z=>(hch _ z).2.1 rfl) ho I.free
 ·obtain⟨v,o,ho,hd⟩:=I.cell x c e
  exact free c o (fun z=>(hch c z).2.2.1 x c e rfl) ho (I.freeC x c e)
 ·obtain⟨e,n,ne,nf,d⟩:=I.pin p hp
  have nch:p.1∉ch:=fun z=>(hch p.1 z).2.2.2 p hp rfl
  exact⟨keep p.1 p.2 ne nf nch e n,free p.1 p.2 nch e n,ne,nf,d⟩
theorem Inv.un{t':Nat}(I:Inv X pins σ H s)(u:Un X.fs [] H H' s.heap h')(hok:kU X.prog X.w H' h'):Inv X pins σ H' {s with heap:=h',toks:=t'}:=by
 obtain⟨m,⟨o,es,ep,ho,r⟩,_⟩:=id I.loc
 obtain⟨sl,hL⟩:=u.any ho I.free (by simp)
 exact I.step (g':=s.gens) (d':=s.drawn) (ch:= []) (fun _ z=>nomatch z) (fun b o _ hb _ e n=>u.keep b o e n hb (by simp)) (fun b o _ hb _ e n=>u.slot b o e n hb (by simp)) (fun b o _ e n=>u.free b o e n (by simp)) (fun b o _ e=>u.there b o e (by simp)) u.tups u.frzs u.tbls (fun m' hm=>by
  obtain⟨o',es',ep',ho',r'⟩:=hm
  rw[ho] at ho';cases ho'
  exact⟨_,es',ep',hL,r'⟩) hok I.bare
theorem Inv.call{g':Array GenState}{t':Nat}{d':Drawn}{ch:List Addr}(I:Inv X pins σ H s)(u:Un (Aw X.stack) ch H H' s.heap h')(hok:kU X.prog X.w H' h')(hg:AllBare g')
  (hch:∀b∈ch,(b∈X.ex\/X.s₀.heap.objs.size<=b)/\b≠X.env.locals/\(∀x c,X.env.cells.lookup x=some c->c≠b)/\∀p∈X.pn++pins,p.1≠b):
  Inv X pins σ H' {s with heap:=h',gens:=g',drawn:=d',toks:=t'}:=by
 obtain⟨m,⟨o,es,ep,ho,r⟩,_⟩:=id I.loc
 obtain⟨sl,hL⟩:=u.any ho I.free fun z=>(hch _ z).2.1 rfl
 exact I.step (ch:=ch) hch (fun b o hL hb hc e n=>u.keep b o e n (fun z=>(List.mem_cons.mp (I.stkSub b z)).elim hL hb) hc) (fun b o _ _ hc e n=>u.any e n hc) (fun b o hc e n=>u.free b o e n hc) (fun b o hc e=>u.there b o e hc) u.tups u.frzs u.tbls (fun m' hm=>by
  obtain⟨o',es',ep',ho',r'⟩:=hm
  rw[ho] at ho';cases ho'
  exact⟨_,es',ep',hL,r'⟩) hok hg
theorem Inv.turned{t':Nat}{it:Addr}(I:Inv X pins σ H s)(k:∀b o,b≠it->s.heap.get? b=some o->h'.get? b=some o)(hn:H it=none)(hL:it≠X.env.locals)
  (h1:it∈X.ex\/X.s₀.heap.objs.size<=it) (h2:∀x c,X.env.cells.lookup x=some c->c≠it) (h3:∀p∈X.pn++pins,p.1≠it):Inv X pins σ H {s with heap:=h',toks:=t'}:=by
 have nit:∀b u,H b=some u->b≠it:=fun b u e z=>by rw[z,hn] at e;cases e
 refine I.step (g':=s.gens) (d':=s.drawn) (ch:= [it]) (fun b hb=> ?_) (fun b o _ _ hc e _=>k b o (fun z=>hc (by simp[z])) e) (fun b o _ _ hc e _=>⟨o.slots,k b o (fun z=>hc (by simp[z])) e⟩) (fun _ _ _ _ n=>n)
  (fun b o hc e=>⟨o,k b o (fun z=>hc (by simp[z])) e⟩) (fun _ _ e=>e) (fun _ _ _ e=>e) (fun b ps e=>⟨#[],by rw[e];simp⟩) (fun m hm=> ?_) (fun b u e=> ?_) I.bare
 ·have e:b=it:=by simpa using hb
  subst e
  exact⟨h1,hL,h2,h3⟩
 ·obtain⟨o,es,ep,ho,r⟩:=hm
  exact⟨o,es,ep,k _ o (Ne.symm hL) ho,r⟩
 ·refine(I.hok b u e).stay (fun c v hc q=>k c v ?_ q) (fun _ q=>q) fun _ _ q=>q
  rcases hc with z|z
  ·rw[z];exact nit b u e
  ·exact nit c _ z
theorem Inv.tok(I:Inv X pins σ H s)(t:Nat):Inv X pins σ H {s with toks:=t}:=I.un (h':=s.heap) (t':=t) Un.refl I.hok
theorem Inv.kept{t':Nat}(I:Inv X pins σ H s)(k:∀b u,s.heap.get? b=some u->h'.get? b=some u):Inv X pins σ H {s with heap:=h',toks:=t'}:=I.un (Un.kept k) (I.hok.kept k)
theorem Inv.laid{a:Addr}{o:HO}{t':Nat}(I:Inv X pins σ H s)(k:∀b u,s.heap.get? b=some u->h'.get? b=some u)(hp:s.heap.objs.size<=a)(new:cG X.prog X.w (upd H a o) h' a o):
  Inv X pins σ (upd H a o) {s with heap:=h',toks:=t'}:=I.un (Un.laid k hp (I.hok.fresh hp)) (I.hok.laid k hp new)
theorem Inv.write{x e:Addr}{o:HO}{t':Nat}(I:Inv X pins σ H s)(mu:Fj (H x))(he:e=x\/H e=some (.own x))(k:∀b u,b≠e->s.heap.get? b=some u->h'.get? b=some u)(heo:∃u,h'.get? e=some u)
  (new:cG X.prog X.w (upd H x o) h' x o):Inv X pins σ (upd H x o) {s with heap:=h',toks:=t'}:=I.un (Un.write mu he k heo) (I.hok.write mu he k heo new)
theorem Inv.pins_of{pins':List (Addr×Obj)}(I:Inv X pins σ H s)(h:∀p∈pins',s.heap.get? p.1=some p.2/\H p.1=none/\p.1≠X.env.locals/\p.1∉X.fs/\∀v,p.2.data≠.cell v):Inv X pins' σ H s:=
 ⟨I.ok,I.os,I.bare,I.base,I.loc,I.cell,I.free,I.freeC,fun p hp=>(mQa.mp hp).elim (fun z=>I.pin p (List.mem_append_left _ z)) (h p),I.hok,I.len⟩
theorem vc{N:List Str}(hN:N.Nodup){i j:Nat}{x:Str}(a:N[i]?=some x)(b:N[j]?=some x):i=j:=by
 obtain⟨h1,e1⟩:=gQs.mp a
 obtain⟨h2,e2⟩:=gQs.mp b
 exact(List.getElem_inj hN).mp (e1.trans e2.symm)
theorem yF{M:Model}{A:Around}{E:Value->Shared->Prop}{i:Nat}{x:Str}{v:V}{u:Value}{Q:Unit->Shared->Prop}(I:Inv X pins σ H s)(hN:X.N.Nodup)(hi:X.N[i]?=some x)(hx:Loc X.env.scope x)(r:RelV v u)
  (h:∀s',Inv X pins (σ.set i (some v)) H s'->(∃a,Heap.SameBut a s.heap s'.heap/\(a=X.env.locals\/X.env.cells.lookup x=some a))->Q () s') (hf:X.fn x=true\/X.env.scope.names.lookup x=some .local:=by first|exact .inl rfl|exact .inr rfl|assumption):wpAny M A (storeName X.env x u) Q E s:=by
 obtain⟨m,hn,hl⟩:=id I.loc
 have hcls:(X.env.scope.kind==.class||(X.env.scope.kind==.module&&X.env.locals !=X.env.globals))=false:=by rw[I.ok.kind];rfl
 have hiσ:i<σ.length:=by rw[I.len];exact(gQs.mp hi).1
 have cne:=I.cne
 have tracked:∀{a:Addr} {h':Heap},(∃o,s.heap.get? a=some o/\H a=none)->Heap.SameBut a s.heap h'->kU X.prog X.w H h':=fun{a h'} ha hs b ob e=>by
  obtain⟨_,_,hfree⟩:=ha
  refine(I.hok b ob e).stay (fun c w' hc q=>(hs.2 c ?_).trans q) (fun _ q=>q) fun _ _ q=>q
  rintro rfl
  rcases hc with rfl|hc
  ·rw[hfree] at e;cases e
  ·rw[hfree] at hc;cases hc
 rcases hx with hk|hk
 ·refine wpAny_storeName_local hk hn (fun h' hn' hs=> ?_) hcls
  obtain⟨oL,_,_,hoL,_⟩:=id hn
  refine h _ ⟨I.ok,I.os,I.bare,⟨fun b o e n hb hx=> ?_,fun b o e n hb hx=> ?_,I.base.free,fun b o e hx=> ?_,I.base.tups,I.base.frzs,I.base.tbls⟩,⟨_,hn',fun j y v' e1 e2 e3=> ?_⟩,fun y c e=> ?_,I.free,I.freeC,fun p hp=> ?_,tracked ⟨oL,hoL,I.free⟩ hs,by simpa using I.len⟩ ⟨_,hs,.inl rfl⟩
  ·exact(hs.2 b (Nat.ne_of_lt (Nat.lt_of_lt_of_le (Heap.lt_size e) I.ok.above))).trans (I.base.keep b o e n hb hx)
  ·obtain⟨sl,e1⟩:=I.base.slot b o e n hb hx
   exact⟨sl,(hs.2 b (Nat.ne_of_lt (Nat.lt_of_lt_of_le (Heap.lt_size e) I.ok.above))).trans e1⟩
  ·obtain⟨o',e1⟩:=I.base.there b o e hx
   exact⟨o',(hs.2 b (Nat.ne_of_lt (Nat.lt_of_lt_of_le (Heap.lt_size e) I.ok.above))).trans e1⟩
  ·by_cases hj:j=i
   ·subst hj
    rw[hi] at e1;cases e1
    rw[List.getElem?_set_self hiσ] at e2
    cases e2
    exact⟨u,r,.inl ⟨hk,by simp⟩⟩
   ·rw[List.getElem?_set_ne (Ne.symm hj)] at e2
    obtain⟨u',r',q⟩:=hl j y v' e1 e2 e3
    refine⟨u',r',?_⟩
    rcases q with⟨k,e⟩|⟨k,c,e,z⟩
    ·refine .inl ⟨k,?_⟩
     have:y≠x:=fun e=>hj (vc hN e1 (e▸hi))
     simp[this,e]
    ·exact .inr ⟨k,c,e,z.sameBut hs (cne y c e)⟩
  ·obtain⟨w',z⟩:=I.cell y c e
   exact⟨w',z.sameBut hs (cne y c e)⟩
  ·obtain⟨e,n,ne,nf,d⟩:=I.pin p hp
   exact⟨(hs.2 p.1 ne).trans e,n,ne,nf,d⟩
 ·have hfn:X.fn x=true:=by
   rcases hf with z|z
   ·exact z
   ·rw[z] at hk;cases hk
  obtain⟨c,hc⟩:=I.ok.has x (.inl hk)
  obtain⟨w',z⟩:=I.cell x c hc
  refine wpAny_storeName_cell I.ok.kind hk hc z (fun h' hc' hs=> ?_)
  obtain⟨oc,hoc,hocd⟩:=id z
  refine h {s with heap:=h'} ⟨I.ok,I.os,I.bare,⟨fun b o e n hb hx=> ?_,fun b o e n hb hx=> ?_,I.base.free,fun b o e hx=> ?_,I.base.tups,I.base.frzs,I.base.tbls⟩,⟨m,hn.sameBut hs (Ne.symm (cne x c hc)),fun j y v' e1 e2 e3=> ?_⟩,fun y c' e=> ?_,I.free,I.freeC,fun p hp=> ?_,tracked ⟨oc,hoc,I.freeC x c hc⟩ hs,by simpa using I.len⟩ ⟨c,hs,.inr hc⟩
  ·exact(hs.2 b (Nat.ne_of_lt (Nat.lt_of_lt_of_le (Heap.lt_size e) (I.ok.cab x c hfn hc)))).trans (I.base.keep b o e n hb hx)
  ·obtain⟨sl,e1⟩:=I.base.slot b o e n hb hx
   exact⟨sl,(hs.2 b (Nat.ne_of_lt (Nat.lt_of_lt_of_le (Heap.lt_size e) (I.ok.cab x c hfn hc)))).trans e1⟩
  ·obtain⟨o',e1⟩:=I.base.there b o e hx
   exact⟨o',(hs.2 b (Nat.ne_of_lt (Nat.lt_of_lt_of_le (Heap.lt_size e) (I.ok.cab x c hfn hc)))).trans e1⟩
  ·by_cases hj:j=i
   ·subst hj
    rw[hi] at e1;cases e1
    rw[List.getElem?_set_self hiσ] at e2
    cases e2
    exact⟨u,r,.inr ⟨.inl hk,c,hc,hc'⟩⟩
   ·rw[List.getElem?_set_ne (Ne.symm hj)] at e2
    obtain⟨u',r',q⟩:=hl j y v' e1 e2 e3
    refine⟨u',r',?_⟩
    rcases q with q|⟨k,c',e,z'⟩
    ·exact .inl q
    ·refine .inr ⟨k,c',e,z'.sameBut hs ?_⟩
     rintro rfl
     exact hj (vc hN e1 (I.ok.inj _ _ _ e hc▸hi))
  ·by_cases hcc:c'=c
   ·subst hcc;exact⟨_,hc'⟩
   ·obtain⟨w2,z2⟩:=I.cell y c' e
    exact⟨w2,z2.sameBut hs hcc⟩
  ·obtain⟨e,n,ne,nf,d⟩:=I.pin p hp
   refine⟨(hs.2 p.1 ?_).trans e,n,ne,nf,d⟩
   intro q
   rw[q,hoc] at e
   have q':oc=p.2:=Option.some.inj e
   exact d w' (by rw[←q'];exact hocd)
theorem lY{M:Model}{A:Around}{E:Value->Shared->Prop}{i:Nat}{x:Str}{v:V}{u:Value}{Q:Unit->Shared->Prop}(I:Inv X pins σ H s)(hN:X.N.Nodup)(hi:X.N[i]?=some x)(hx:Loc X.env.scope x)(r:RelV v u)
  (h:∀s',Inv X pins (σ.set i (some v)) H s'->Q () s') (hf:X.fn x=true\/X.env.scope.names.lookup x=some .local:=by first|exact .inl rfl|exact .inr rfl|assumption):wpAny M A (storeName X.env x u) Q E s:=
 yF I hN hi hx r (fun s' I' _=>h s' I') hf
theorem Inv.call'{s':Shared}{ch:List Addr}(I:Inv X pins σ H s)(ho:s'.os=s.os)(u:Un (Aw X.stack) ch H H' s.heap s'.heap)(hok:kU X.prog X.w H' s'.heap)(hg:AllBare s'.gens)
  (hch:∀b∈ch,(b∈X.ex\/X.s₀.heap.objs.size<=b)/\b≠X.env.locals/\(∀x c,X.env.cells.lookup x=some c->c≠b)/\∀p∈X.pn++pins,p.1≠b):Inv X pins σ H' s':=by
 obtain⟨h',g',d',t',o'⟩:=s'
 have e:o'=s.os:=ho
 subst e
 exact I.call (g':=g') (t':=t') (d':=d') u hok hg hch
end
abbrev XK:=Value->Option Addr->Hp->Prop
abbrev St:=List (Option V)
abbrev VK:=V->Hp->Prop
abbrev TE:=St->Hp->VK->Prop
abbrev TT:=St->Hp->(Bool->Hp->Prop)->Prop
abbrev TA:=St->Hp->(List V->Hp->Prop)->Prop
structure Ends where
 nx:St->Hp->Prop
 rt:VK
 bk:St->Hp->Prop:=fun _ _=>False
 ct:St->Hp->Prop:=fun _ _=>False
abbrev TS:=Ends->St->Hp->Prop
def EP(X:Cx)(pins:List (Addr×Obj))(σ:St)(Q:VK)(u:Value)(s':Shared):Prop:=∃v H',Inv X pins σ H' s'/\RelV v u/\Q v H'
def TP(X:Cx)(pins:List (Addr×Obj))(σ:St)(Q:Bool->Hp->Prop)(b:Bool)(s':Shared):Prop:=∃H',Inv X pins σ H' s'/\Q b H'
def AP(X:Cx)(pins:List (Addr×Obj))(σ:St)(Q:List V->Hp->Prop)(us:List Value)(s':Shared):Prop:=∃vs H',Inv X pins σ H' s'/\bt vs us/\Q vs H'
def SP(X:Cx)(pins:List (Addr×Obj))(D:Ends)(f:Flow)(s':Shared):Prop:=
 match f with
 |.next=>∃σ' H',Inv X pins σ' H' s'/\D.nx σ' H'
 |.brk=>∃σ' H',Inv X pins σ' H' s'/\D.bk σ' H'
 |.cont=>∃σ' H',Inv X pins σ' H' s'/\D.ct σ' H'
 |.ret u=>∃v σ' H',Inv X pins σ' H' s'/\RelV v u/\D.rt v H'
def PE(X:Cx)(e:Expr)(t:TE):Prop:=
 ∀(pins:List (Addr×Obj)) (s:Shared) (σ:St) (H:Hp) (Q:VK),Inv X pins σ H s->t σ H Q->wpAny (model X.prog X.w) X.A (eval e X.env) (EP X pins σ Q) X.xe s
def PT(X:Cx)(e:Expr)(t:TT):Prop:=
 ∀(pins:List (Addr×Obj)) (s:Shared) (σ:St) (H:Hp) (Q:Bool->Hp->Prop),Inv X pins σ H s->t σ H Q->wpAny (model X.prog X.w) X.A (isTrue e X.env (eval e X.env)) (TP X pins σ Q) X.xe s
def PW(X:Cx)(e:Expr)(t:TT):Prop:=
 ∀(whole:Sem Value) (pins:List (Addr×Obj)) (s:Shared) (σ:St) (H:Hp) (Q:Bool->Hp->Prop),Inv X pins σ H s->t σ H Q->wpAny (model X.prog X.w) X.A (isTrue e X.env whole) (TP X pins σ Q) X.xe s
theorem PW.pt{X:Cx}{e:Expr}{t:TT}(h:PW X e t):PT X e t:=h _
def PA(X:Cx)(es:List Expr)(t:TA):Prop:=
 ∀(pos:Pos) (pins:List (Addr×Obj)) (s:Shared) (σ:St) (H:Hp) (Q:List V->Hp->Prop),Inv X pins σ H s->t σ H Q->wpAny (model X.prog X.w) X.A (spliced (backTo pos (starEach es X.env))) (AP X pins σ Q) X.xe s
def PS(X:Cx)(st:Stmt)(t:TS):Prop:=
 ∀(pins:List (Addr×Obj)) (s:Shared) (σ:St) (H:Hp) (D:Ends),Inv X pins σ H s->t D σ H->wpAny (model X.prog X.w) X.A (exec st X.env) (SP X pins D) X.xe s
def oB(X:Cx)(st:List Stmt)(t:TS):Prop:=
 ∀(pins:List (Addr×Obj)) (s:Shared) (σ:St) (H:Hp) (D:Ends),Inv X pins σ H s->t D σ H->wpAny (model X.prog X.w) X.A (execs st X.env) (SP X pins D) X.xe s
theorem cz{α:Type}{t:Sem α}{Q Q':α->Shared->Prop}{M:Model}{A:Around}{E:Value->Shared->Prop}{s:Shared}(h:wpAny M A t Q E s)(hQ:∀a s,Q a s->Q' a s):wpAny M A t Q' E s:=wpAny_mono h hQ fun _ _ x=>x
section
variable{X:Cx}
def ER(i:Nat):TE:=fun σ H Q=>∃v,σ[i]?=some (some v)/\Q v H
def tC(v:V):TE:=fun _ H Q=>Q v H
theorem z4{i:Nat}{x:Str}{pos:Pos}(hN:X.N[i]?=some x)(hv:Dm X.env.scope x)(hd:(x==("__debug__":Str))=false:=by decide)(hcd:(x==("__classdict__":Str))=false:=by decide):PE X (.Name x pos) (ER i):=by
 intro pins s σ H Q I h
 obtain⟨v,e,h⟩:=h
 obtain⟨m,hn,hl⟩:=I.loc
 obtain⟨u,r,l⟩:=hl i x v hN e hv
 have fin:EP X pins σ Q u s:=⟨v,H,I,r,h⟩
 rcases l with⟨hk,hm⟩|⟨hk,c,hc,hcell⟩
 ·exact wpAny_Name (wpAny_loadName_local I.ok.kind hk hn hm fin) hd
 ·rcases hk with hk|hk
  ·exact wpAny_Name (wpAny_loadName_cell I.ok.kind hk hc hcell fin) hd
  ·exact wpAny_Name (wpAny_loadName_free I.ok.kind hk hc hcell fin hcd) hd
theorem DZ{i j pos}:PE X (.Constant (.int i) j pos) (tC (.int i)):=fun _ _ _ H _ I h=>wpAny_Constant_int ⟨.int i,H,I.tok _,⟨_,rfl⟩,h⟩
theorem FS{b j pos}:PE X (.Constant (.bool b) j pos) (tC (.bl b)):=fun _ _ _ H _ I h=>Constant_bool ⟨.bl b,H,I,rfl,h⟩
theorem Ep{j pos}:PE X (.Constant .none j pos) (tC .non):=fun _ _ _ H _ I h=>Constant_none ⟨.non,H,I,rfl,h⟩
theorem Eb{x j pos}:PE X (.Constant (.str x) j pos) (tC (.str x)):=fun _ _ _ H _ I h=>Calls.Constant_str ⟨.str x,H,I.tok _,⟨_,rfl⟩,h⟩
def Gl(X:Cx)(x:Str):Prop:=X.env.kindOf x=some .globalImplicit
theorem sR{E:Value->Shared->Prop}{pins:List (Addr×Obj)}{s:Shared}{σ:St}{H:Hp}{x:Str}{u:Value}{pos:Pos}{Q:Value->Shared->Prop}(I:Inv X pins σ H s)(hg:Gl X x)(hm:X.mg x=some u)(h:Q u s)
  (hd:(x==("__debug__":Str))=false:=by decide):wpAny (model X.prog X.w) X.A (eval (.Name x pos) X.env) Q E s:=
 Calls.Name_function_global I.ok.kind hg (Calls.loadGlobal_global (by rw[I.ok.glob];exact I.mod.glob.keeps I.bk) hm h) hd
theorem kO{E:Value->Shared->Prop}{pins:List (Addr×Obj)}{s:Shared}{σ:St}{H:Hp}{x:Str}{u:Value}{pos:Pos}{Q:Value->Shared->Prop}(I:Inv X pins σ H s)(hg:Gl X x)(hm:X.mg x=none)(hv:bootBuiltins x=some u)(h:Q u s)
  (hn:x≠"__name__":=by decide) (hd:(x==("__debug__":Str))=false:=by decide):wpAny (model X.prog X.w) X.A (eval (.Name x pos) X.env) Q E s:=by
 obtain⟨mb,h1,h2⟩:=I.mod.blt
 exact Calls.Name_function_global I.ok.kind hg (Calls.loadGlobal_builtin (by rw[I.ok.glob];exact I.mod.glob.keeps I.bk) hm (by rw[I.ok.blt];exact h1.keeps I.bk) ((h2 x hn).trans hv) h) hd
theorem eg{x:Str}{v:V}{u:Value}{pos:Pos}(hg:Gl X x)(hm:X.mg x=some u)(r:RelV v u)(hd:(x==("__debug__":Str))=false:=by decide):PE X (.Name x pos) (tC v):=
 fun _ _ _ H _ I h=>sR I hg hm ⟨v,H,I,r,h⟩ hd
theorem oK{x:Str}{v:V}{u:Value}{pos:Pos}(hg:Gl X x)(hm:X.mg x=none)(hv:bootBuiltins x=some u)(r:RelV v u)(hn:x≠"__name__":=by decide)(hd:(x==("__debug__":Str))=false:=by decide):PE X (.Name x pos) (tC v):=
 fun _ _ _ H _ I h=>kO I hg hm hv ⟨v,H,I,r,h⟩ hn hd
variable{a b:Expr}{ta tb:TE}{pos:Pos}
variable{tA tB':TT}{rest:List Expr}
def G9(t u:TT):TT:=fun σ H Q=>t σ H fun c H1=>if c=true then u σ H1 Q else Q false H1
def HP(t u:TT):TT:=fun σ H Q=>t σ H fun c H1=>if c=true then Q true H1 else u σ H1 Q
def GG(t:TT):TT:=fun σ H Q=>t σ H fun c H1=>Q (!c) H1
theorem CZ(ha:PT X a tA):PW X (.BoolOp .And [a] pos) tA:=by
 intro wh pins s σ H Q I h
 refine isTrue_and (cz (ha pins s σ H Q I h) fun c s1 e=> ?_)
 cases c with
 |true=>exact isTrue_and_nil e
 |false=>exact e
theorem DS(ha:PT X a tA):PW X (.BoolOp .Or [a] pos) tA:=by
 intro wh pins s σ H Q I h
 refine isTrue_or (cz (ha pins s σ H Q I h) fun c s1 e=> ?_)
 cases c with
 |false=>exact isTrue_or_nil e
 |true=>exact e
theorem EX(ha:PT X a tA)(hb:PW X (.BoolOp .And (b::rest) pos) tB'):PW X (.BoolOp .And (a::b::rest) pos) (G9 tA tB'):=by
 intro wh pins s σ H Q I h
 refine isTrue_and (cz (ha pins s σ H _ I h) fun c s1 qr=> ?_)
 obtain⟨H1,I1,q1⟩:=qr
 cases c with
 |true=>exact hb wh pins s1 σ H1 Q I1 q1
 |false=>exact⟨H1,I1,q1⟩
theorem FD(ha:PT X a tA)(hb:PW X (.BoolOp .Or (b::rest) pos) tB'):PW X (.BoolOp .Or (a::b::rest) pos) (HP tA tB'):=by
 intro wh pins s σ H Q I h
 refine isTrue_or (cz (ha pins s σ H _ I h) fun c s1 qr=> ?_)
 obtain⟨H1,I1,q1⟩:=qr
 cases c with
 |true=>exact⟨H1,I1,q1⟩
 |false=>exact hb wh pins s1 σ H1 Q I1 q1
theorem Dt(ha:PT X a tA):PT X (.UnaryOp .Not a pos) (GG tA):=by
 intro pins s σ H Q I h
 exact isTrue_not (ha pins s σ H (fun c H1=>Q (!c) H1) I h)
def Fb(ta tb:TE):TE:=fun σ H Q=>ta σ H fun x H1=>∃c,x=.bl c/\if c=true then tb σ H1 Q else Q (.bl false) H1
theorem Er{op}{t:TE}(h:PE X a t):PE X (.BoolOp op [a] pos) t:=fun pins s σ H Q I hw=>BoolOp_one (h pins s σ H Q I hw)
theorem D7(ha:PE X a ta)(hb:PE X (.BoolOp .And (b::rest) pos) tb):PE X (.BoolOp .And (a::b::rest) pos) (Fb ta tb):=by
 intro pins s σ H Q I h
 refine BoolOp_and (cz (ha pins s σ H _ I h) fun v s1 qr=> ?_)
 obtain⟨x,H1,I1,r1,q1⟩:=qr
 obtain⟨c,rfl,q1⟩:=q1
 cases r1
 refine wpAny_truthy_bool ?_
 cases c with
 |true=>exact hb pins s1 σ H1 Q I1 q1
 |false=>exact⟨.bl false,H1,I1,rfl,q1⟩
def HM(t:TT)(ta tb:TE):TE:=fun σ H Q=>t σ H fun c H1=>if c=true then ta σ H1 Q else tb σ H1 Q
theorem Bu{c:Expr}(hc:PT X c tA)(ha:PE X a ta)(hb:PE X b tb):PE X (.IfExp c a b pos) (HM tA ta tb):=by
 intro pins s σ H Q I h
 refine wpAny_IfExp (cz (hc pins s σ H _ I h) fun d s1 qr=> ?_)
 obtain⟨H1,I1,q1⟩:=qr
 cases d with
 |true=>exact ha pins s1 σ H1 Q I1 q1
 |false=>exact hb pins s1 σ H1 Q I1 q1
end
def gX(K:PySem.W.Frag)(H:Hp)(a:Addr)(xs:List V):Prop:=
 Rd H a (.lst xs)∨
  ∃(o:Obj) (its:Array Value) (n:Nat),K.lookup a=some o/\o.cls=.type "list" /\o.dict=none/\o.data=.seq its n/\its.size<=sizeLine/\bt xs its.toList
def gD(K:PySem.W.Frag)(H:Hp)(a:Addr)(xs:List V):Prop:=
 Rd H a (.tup xs)∨
  ∃(o:Obj) (its:Array Value) (n:Nat),K.lookup a=some o/\o.cls=.type "tuple" /\o.data=.seq its n/\its.size<=sizeLine/\bt xs its.toList
def G7:Value->Option V
 |.none=>some .non
 |.bool b=>some (.bl b)
 |.int i _=>some (.int i)
 |.str x _=>some (.str x)
 |.bytes b _=>some (.byt b)
 |.float b _=>some (.flt b)
 |.ref a=>some (.ref a)
 |.type n=>some (.ty n)
 |_=>none
theorem RelV.abs{x:V}{u:Value}(r:RelV x u):G7 u=some x:=by
 cases x with
 |non=>cases r;rfl
 |bl _=>cases r;rfl
 |int _=>obtain⟨t,rfl⟩:=r;rfl
 |str _=>obtain⟨t,rfl⟩:=r;rfl
 |byt _=>obtain⟨t,rfl⟩:=r;rfl
 |flt _=>obtain⟨t,rfl⟩:=r;rfl
 |ref _=>cases r;rfl
 |ty _=>cases r;rfl
theorem RelV.inj{x y:V}{u:Value}(r:RelV x u)(q:RelV y u):x=y:=Option.some.inj (r.abs.symm.trans q.abs)
theorem bt.inj:∀{xs ys:List V} {us:List Value},bt xs us->bt ys us->xs=ys
 |_,_,_,.nil,.nil=>rfl
 |_,_,_,.cons r t,.cons r' t'=>by rw[r.inj r',bt.inj t t']
section
variable{X:Cx}{pins:List (Addr×Obj)}{σ:St}{H:Hp}{s:Shared}{a:Addr}{xs ys:List V}
theorem gX.of{K:PySem.W.Frag}(h:H a=some (.lst xs)):gX K H a xs:=.inl (.inl h)
theorem gD.of{K:PySem.W.Frag}(h:H a=some (.tup xs)):gD K H a xs:=.inl (.inl h)
theorem Inv.list(I:Inv X pins σ H s)(h:gX X.K H a xs):∃its:List Value,bt xs its/\PlainL s.heap a its.toArray/\xs.length<=sizeLine:=by
 rcases h with h|⟨o,its,n,hk,hc,hd,hs,hz,r⟩
 ·obtain⟨z,its,n,r,e⟩:=h.ok I.hok
  exact⟨its,r,⟨_,n,e,rfl,rfl,rfl⟩,z⟩
 ·refine⟨its.toList,r,⟨o,n,I.kIn a o hk,hc,hd,by simpa using hs⟩,?_⟩
  have e:=r.length
  simp only[Array.length_toList] at e
  omega
theorem Inv.tuple(I:Inv X pins σ H s)(h:gD X.K H a xs):∃its:List Value,bt xs its/\IsTup s.heap a its.toArray/\xs.length<=sizeLine:=by
 rcases h with h|⟨o,its,n,hk,hc,hs,hz,r⟩
 ·obtain⟨z,its,r,p⟩:=h.ok I.hok
  exact⟨its,r,p.it,z⟩
 ·refine⟨its.toList,r,⟨o,I.kIn a o hk,hc,n,by simpa using hs⟩,?_⟩
  have e:=r.length
  simp only[Array.length_toList] at e
  omega
theorem Inv.list_inj(I:Inv X pins σ H s)(h:gX X.K H a xs)(h':gX X.K H a ys):xs=ys:=by
 obtain⟨its,r,⟨o,n,e,_,_,d⟩,_⟩:=I.list h
 obtain⟨its',r',⟨o',n',e',_,_,d'⟩,_⟩:=I.list h'
 rw[e] at e';cases e'
 rw[d] at d'
 injection d' with d1 _
 have:its=its':=by simpa using congrArg Array.toList d1
 subst this
 exact r.inj r'
theorem Inv.tuple_inj(I:Inv X pins σ H s)(h:gD X.K H a xs)(h':gD X.K H a ys):xs=ys:=by
 obtain⟨its,r,⟨o,e,_,n,d⟩,_⟩:=I.tuple h
 obtain⟨its',r',⟨o',e',_,n',d'⟩,_⟩:=I.tuple h'
 rw[e] at e';cases e'
 rw[d] at d'
 injection d' with d1 _
 have:its=its':=by simpa using congrArg Array.toList d1
 subst this
 exact r.inj r'
end
abbrev Cx.wish(X:Cx)(E:Value->Shared->Prop):Cx:={X with xe:=E}
abbrev Cx.nox(X:Cx):Cx:=X.wish fun _ _=>False
theorem Cx.Ok.wish{X:Cx}(ok:X.Ok)(E:Value->Shared->Prop):(X.wish E).Ok:=
 ⟨ok.mod,ok.kind,ok.glob,ok.blt,ok.above,ok.inj,ok.has,ok.cab,ok.hd,ok.frames,ok.stk,ok.exf,ok.bs,ok.bsz,ok.noex,ok.exfs,ok.funs,ok.frf⟩
theorem Cx.Ok.unwish{X:Cx}{E:Value->Shared->Prop}(ok:(X.wish E).Ok):X.Ok:=
 ⟨ok.mod,ok.kind,ok.glob,ok.blt,ok.above,ok.inj,ok.has,ok.cab,ok.hd,ok.frames,ok.stk,ok.exf,ok.bs,ok.bsz,ok.noex,ok.exfs,ok.funs,ok.frf⟩
section
variable{X:Cx}{pins:List (Addr×Obj)}{σ:St}{H:Hp}{s:Shared}{E:Value->Shared->Prop}
theorem Inv.wish(I:Inv X pins σ H s)(E:Value->Shared->Prop):Inv (X.wish E) pins σ H s:=⟨I.ok.wish E,I.os,I.bare,I.base,I.loc,I.cell,I.free,I.freeC,I.pin,I.hok,I.len⟩
theorem Inv.unwish(I:Inv (X.wish E) pins σ H s):Inv X pins σ H s:=⟨I.ok.unwish,I.os,I.bare,I.base,I.loc,I.cell,I.free,I.freeC,I.pin,I.hok,I.len⟩
theorem SP.unwish{D:Ends}{f:Flow}{s':Shared}(h:SP (X.wish E) pins D f s'):SP X pins D f s':=by
 cases f with
 |next=>obtain⟨σ',H',I,q⟩:=h;exact⟨σ',H',I.unwish,q⟩
 |brk=>obtain⟨σ',H',I,q⟩:=h;exact⟨σ',H',I.unwish,q⟩
 |cont=>obtain⟨σ',H',I,q⟩:=h;exact⟨σ',H',I.unwish,q⟩
 |ret u=>obtain⟨v,σ',H',I,r,q⟩:=h;exact⟨v,σ',H',I.unwish,r,q⟩
theorem oB.nox{st:List Stmt}{t:TS}(h:oB X.nox st t):oB X st t:=fun pins s σ H D I hw=>
 wpAny_mono (h pins s σ H D (I.wish _) hw) (fun _ _ q=>q.unwish) fun _ _ z=>False.elim z
end
section
variable{X:Cx}{st:Stmt}{rest:List Stmt}{t u:TS}{e:Expr}{te:TE}{pos:Pos}
def FN:TS:=fun D σ H=>D.nx σ H
def G5(t u:TS):TS:=fun D σ H=>t {D with nx:=u D} σ H
theorem CO:oB X [] FN:=fun _ _ σ H _ I h=>wpAny_execs_nil ⟨σ,H,I,h⟩
theorem A0(h1:PS X st t)(h2:oB X rest u):oB X (st::rest) (G5 t u):=by
 intro pins s σ H D I h
 refine wpAny_execs_cons (cz (h1 pins s σ H {D with nx:=u D} I h) fun f s1 q=> ?_)
 cases f with
 | next=>
   obtain⟨σ',H',I',q⟩:=q
   exact h2 pins s1 σ' H' D I' q
 |ret v=>exact q
 |brk=>exact q
 |cont=>exact q
theorem Cj(h1:PS X st t):oB X [st] t:=by
 intro pins s σ H D I h
 refine wpAny_execs_cons (cz (h1 pins s σ H D I h) fun f s1 q=> ?_)
 cases f with
 |next=>exact wpAny_execs_nil q
 |ret v=>exact q
 |brk=>exact q
 |cont=>exact q
theorem Inv.quiet{pins:List (Addr×Obj)}{σ:St}{H:Hp}{s:Shared}(I:Inv X pins σ H s):interactive X.env=false:=by simp[interactive,I.ok.kind]
def F0(te:TE):TS:=fun D σ H=>te σ H fun _ H1=>D.nx σ H1
theorem Cm(he:PE X e te)(hs:swapsWith e none pos.line X.env=pure false:=by rfl):PS X (.Expr e pos) (F0 te):=by
 intro pins s σ H D I h
 exact wpAny_Expr_any (cz (he pins s σ H _ I h) fun v s1 ⟨x,H1,I1,r1,q1⟩=>⟨σ,H1,I1,q1⟩) I.quiet hs
def GV(te:TE):TS:=fun D σ H=>te σ H D.rt
theorem Bc(he:PE X e te):PS X (.Return (some e) pos) (GV te):=by
 intro pins s σ H D I h
 exact wpAny_Return_some (cz (he pins s σ H _ I h) fun v s1 ⟨x,H1,I1,r1,q1⟩=>⟨x,σ,H1,I1,r1,q1⟩)
def G2(c:TT)(t u:TS):TS:=fun D σ H=>c σ H fun b H1=>if b=true then t D σ H1 else u D σ H1
theorem Fk{c:Expr}{a b:List Stmt}{tc:TT}(hc:PT X c tc)(ha:oB X a t)(hb:oB X b u):PS X (.If c a b pos) (G2 tc t u):=by
 intro pins s σ H D I h
 refine wpAny_If (cz (hc pins s σ H _ I h) fun d s1 qr=> ?_)
 obtain⟨H1,I1,q1⟩:=qr
 cases d with
 |true=>exact ha pins s1 σ H1 D I1 q1
 |false=>exact hb pins s1 σ H1 D I1 q1
def EC:TS:=fun _ _ _=>False
theorem AQ:PS X st EC:=fun _ _ _ _ _ _ h=>h.elim
end
abbrev TG:=V->St->Hp->(St->Hp->Prop)->Prop
abbrev Cf:=List V->St->Hp->(St->Hp->Prop)->Prop
def PG(X:Cx)(target:Expr)(t:TG):Prop:=
 ∀ (pins:List (Addr×Obj)) (s:Shared) (σ:St) (H:Hp) (v:V) (u:Value) (Q:St->Hp->Prop),Inv X pins σ H s->RelV v u->t v σ H Q→
   wpAny (model X.prog X.w) X.A (assign target X.env u) (fun _ s'=>∃σ' H',Inv X pins σ' H' s'/\Q σ' H') X.xe s
def BH(X:Cx)(ts:List Expr)(t:Cf):Prop:=
 ∀ (pins:List (Addr×Obj)) (s:Shared) (σ:St) (H:Hp) (vs:List V) (us:List Value) (Q:St->Hp->Prop),Inv X pins σ H s->bt vs us->t vs σ H Q→
   wpAny (model X.prog X.w) X.A (assignInOrder ((assignEach ts X.env).map (·.2)) us) (fun _ s'=>∃σ' H',Inv X pins σ' H' s'/\Q σ' H') X.xe s
abbrev z9:=V->V->V->Hp->(Hp->Prop)->Prop
def EU(X:Cx)(t:z9):Prop:=
 ∀ (pins:List (Addr×Obj)) (s:Shared) (σ:St) (H:Hp) (o i v:V) (ov iv u:Value) (Q:Hp->Prop),Inv X pins σ H s->RelV o ov->RelV i iv->RelV v u->t o i v H Q→
   wpAny (model X.prog X.w) X.A (setItem ov iv u) (fun _ s'=>∃H',Inv X pins σ H' s'/\Q H') X.xe s
abbrev Gz:=V->V->Hp->VK->Prop
def HA(X:Cx)(op:Operator)(t:Gz):Prop:=
 ∀ (pins:List (Addr×Obj)) (s:Shared) (σ:St) (H:Hp) (x y:V) (v u:Value) (Q:VK),Inv X pins σ H s->RelV x v->RelV y u->t x y H Q→
   wpAny (model X.prog X.w) X.A (inplaceOp op v u) (EP X pins σ Q) X.xe s
section
variable{X:Cx}{pos:Pos}
def pM(i:Nat):TG:=fun v σ H Q=>Q (σ.set i (some v)) H
theorem uf{i:Nat}{x:Str}(hN:X.N.Nodup)(hi:X.N[i]?=some x)(hx:Loc X.env.scope x)(hf:X.fn x=true\/X.env.scope.names.lookup x=some .local:=by first|exact .inl rfl|exact .inr rfl|assumption):PG X (.Name x pos) (pM i):=by
 intro pins s σ H v u Q I r h
 exact wpAny_assign_Name (lY I hN hi hx r (fun s' I'=>⟨_,H,I',h⟩) hf)
def Hb:Cf:=fun vs σ H Q=>vs= []/\Q σ H
def Fw(t:TG)(u:Cf):Cf:=fun vs σ H Q=>∃v r,vs=v::r/\t v σ H fun σ' H'=>u r σ' H' Q
theorem CW:BH X [] Hb:=by
 intro pins s σ H vs us Q I r h
 obtain⟨e,h⟩:=h
 subst e
 cases r
 exact assignInOrder_nil ⟨σ,H,I,h⟩
theorem Bv{e:Expr}{es:List Expr}{t:TG}{u:Cf}(h1:PG X e t)(h2:BH X es u)
  (hs:(assignEach (e::es) X.env).map (·.2)=assign e X.env::(assignEach es X.env).map (·.2):=by rfl):BH X (e::es) (Fw t u):=by
 intro pins s σ H vs us Q I r h
 obtain⟨v,vr,e1,h⟩:=h
 subst e1
 cases r with
 | cons r rr=>
   rw[hs]
   refine assignInOrder_cons (cz (h1 pins s σ H _ _ _ I r h) fun _ s1 qr=> ?_)
   obtain⟨σ1,H1,I1,q1⟩:=qr
   exact h2 pins s1 σ1 H1 _ _ Q I1 rr q1
def GO(K:PySem.W.Frag)(n:Nat)(t:Cf):TG:=fun v σ H Q=>∃a xs,v=.ref a/\gD K H a xs/\xs.length=n/\t xs σ H Q
theorem Ed{es:List Expr}{k:Nat}{t:Cf}{n:Nat}(hc:X.calm=true)(h:BH X es t)
  (hn:(assignEach es X.env).length=n:=by rfl) (hst:(assignEach es X.env).findIdx? (·.1)=none:=by rfl):PG X (.Tuple es k pos) (GO X.K n t):=by
 intro pins s σ H v u Q I r hw
 obtain⟨a,xs,e1,hq,hl,hw⟩:=hw
 subst e1
 cases r
 obtain⟨its,rv,ht,hz⟩:=I.tuple hq
 refine assign_Tuple_tuple (I.ok.hd hc) ht (by simp[hn,←hl,rv.length]) hst fun h' hx=> ?_
 have I1:Inv X pins σ H {s with heap:=h'}:=I.kept (t':=s.toks) fun b o e=>hx b o (Nat.ne_of_lt (Heap.lt_size e)) e
 exact h pins _ σ H xs _ Q I1 (by simpa using rv) hw
def FW(to ti:TE)(t:z9):TG:=fun v σ H Q=>to σ H fun o H1=>ti σ H1 fun i H2=>t o i v H2 fun H3=>Q σ H3
theorem DX{o i:Expr}{to ti:TE}{t:z9}(ho:PE X o to)(hi:PE X i ti)(hs:EU X t)
  (ha:∀v,assign (.Subscript o i pos) X.env v=(do
   let ov←holding [v] (eval o X.env)
   let iv←holding [v,ov] (eval i X.env)
   standAt pos
   holding [v,ov,iv] (setItem ov iv v)
   release [v,ov,iv] []):=by intro _;rfl):PG X (.Subscript o i pos) (FW to ti t):=by
 intro pins s σ H v u Q I r h
 rw[ha]
 refine wpAny_bind (wpAny_holding (cz (ho pins s σ H _ I h) fun ov s1 qr=> ?_))
 obtain⟨x,H1,I1,r1,q1⟩:=qr
 refine wpAny_bind (wpAny_holding (cz (hi pins s1 σ H1 _ I1 q1) fun iv s2 qr=> ?_))
 obtain⟨y,H2,I2,r2,q2⟩:=qr
 refine wpAny_bind (wpAny_standAt (wpAny_bind (wpAny_holding (cz (hs pins s2 σ H2 x y v ov iv u _ I2 r1 r2 r q2) fun _ s3 qr=> ?_))))
 obtain⟨H3,I3,q3⟩:=qr
 exact wpAny_release ⟨σ,H3,I3,q3⟩
def yG(te:TE)(g:TG):TS:=fun D σ H=>te σ H fun x H1=>g x σ H1 D.nx
theorem EO{tg e:Expr}{te:TE}{g:TG}(he:PE X e te)(hg:PG X tg g)(hs:swapsWithSole [tg] e pos.line X.env=pure false:=by rfl)(hw:swappedStores [tg] e X.env=pure none:=by rfl)
  (h1:(assignEach [tg] X.env).map (·.2)= [assign tg X.env]:=by rfl):PS X (.Assign [tg] e pos) (yG te g):=by
 intro pins s σ H D I h
 refine wpAny_Assign_stores (cz (he pins s σ H _ I h) fun v s1 ⟨x,H1,I1,r1,q1⟩=> ?_) hs hw
 rw[h1]
 exact cz (hg pins s1 σ H1 x v _ I1 r1 q1) fun _ s2 q=>q
theorem EA{i:Nat}{x:Str}{e:Expr}{te:TE}{pos':Pos}(hN:X.N.Nodup)(hi:X.N[i]?=some x)(hx:Loc X.env.scope x)(he:PE X e te)(hs:swapsWith e (some (.Name x pos')) pos.line X.env=pure false:=by rfl)(hf:X.fn x=true\/X.env.scope.names.lookup x=some .local:=by first|exact .inl rfl|exact .inr rfl|assumption):
  PS X (.Assign [.Name x pos'] e pos) (yG te (pM i)):=by
 intro pins s σ H D I h
 refine wpAny_Assign_Name (cz (he pins s σ H _ I h) fun v s1 ⟨y,H1,I1,r1,q1⟩=> ?_) hs
 exact lY I1 hN hi hx r1 (fun s2 I2=>⟨_,H1,I2,q1⟩) hf
def FE(i j:Nat)(ta:TA):TS:=fun D σ H=>ta σ H fun vs H1=>∃v w,vs= [v,w]/\D.nx ((σ.set i (some v)).set j (some w)) H1
theorem D5{i j:Nat}{x y:Str}{a b:Expr}{ta:TA}{px py pt:Pos}{kt k2 pt2}(hc:X.calm=true)(hN:X.N.Nodup)(hi:X.N[i]?=some x)(hj:X.N[j]?=some y)(hij:i≠j)
  (hx:X.env.scope.names.lookup x=some .local) (hy:X.env.scope.names.lookup y=some .local) (ha:PA X [a,b] ta)
  (hw:swappedStores [.Tuple [.Name x px,.Name y py] kt pt] (.Tuple [a,b] k2 pt2) X.env=pure (some [x,y]))
  (hs:swapsWithSole [.Tuple [.Name x px,.Name y py] kt pt] (.Tuple [a,b] k2 pt2) pos.line X.env=pure false:=by rfl):
  PS X (.Assign [.Tuple [.Name x px,.Name y py] kt pt] (.Tuple [a,b] k2 pt2) pos) (FE i j ta):=by
 intro pins s σ H D I h
 rw[exec_Assign_arm]
 refine wpAny_bind (wpAny_standAt ?_)
 rw[hs]
 refine wpAny_bind (wpAny_pure ?_)
 rw[if_neg (by decide)]
 refine wpAny_bind (Tuple_ (cz (ha _ pins s σ H _ I h) fun us s1 qr=> ?_))
 obtain⟨vs,H1,I1,r1,q1⟩:=qr
 obtain⟨v,w,e1,q1⟩:=q1
 subst e1
 obtain⟨u1,u2,rfl,rv,rw'⟩:∃u1 u2,us= [u1,u2]/\RelV v u1/\RelV w u2:=by
  cases r1 with
  | cons p q=>
    cases q with
    | cons p' q'=>
      cases q'
      exact⟨_,_,rfl,p,p'⟩
 refine wpAny_newObj_type ?_ (by show 2<=sizeLine;decide)
 have I2:Inv X pins σ H1 {s1 with heap:=s1.heap.push {cls:=.type "tuple",data:=.seq [u1,u2].toArray}}:=I1.kept (t':=s1.toks) fun b o e=>Heap.get?_push_of_some _ e
 rw[hw]
 refine wpAny_bind (wpAny_pure ?_)
 show wpAny (model X.prog X.w) X.A (do rule "assign.swapped-stores";let items←unpackItems (.ref s1.heap.objs.size) 2 none;assignInOrder [fun v=>bindName X.env y v,fun v=>bindName X.env x v] items.reverse;pure Flow.next) _ _ _
 refine wpAny_bind (wpAny_rule (wpAny_bind (unpackItems_tuple (items:= #[u1,u2]) (I.ok.hd hc) (IsTup.new s1.heap _) fun h' hx'=> ?_)))
 have I3:=I2.kept (h':=h') (t':=s1.toks) fun b o e=>hx' b o (Nat.ne_of_lt (Heap.lt_size e)) e
 show wpAny _ _ (assignInOrder [fun v=>bindName X.env y v,fun v=>bindName X.env x v] [u2,u1] >>= fun _=>pure Flow.next) _ _ _
 refine wpAny_bind (assignInOrder_cons (wpAny_bindName (lY I3 hN hj (.inl hy) rw' (fun s2 I4=> ?_) (.inr hy))))
 refine assignInOrder_cons (wpAny_bindName (lY I4 hN hi (.inl hx) rv (fun s3 I5=>assignInOrder_nil (wpAny_pure ?_)) (.inr hx)))
 rw[List.set_comm _ _ (Ne.symm hij)] at I5
 exact⟨_,H1,I5,q1⟩
def Fz(to ti te:TE)(tget:V->V->Hp->VK->Prop)(tip:Gz)(tset:z9):TS:=fun D σ H=>to σ H fun o H1=>ti σ H1 fun i H2=>tget o i H2 fun x H3=>te σ H3 fun y H4=>tip x y H4 fun z H5=>tset o i z H5 fun H6=>D.nx σ H6
def FU(X:Cx)(t:V->V->Hp->VK->Prop):Prop:=
 ∀ (pins:List (Addr×Obj)) (s:Shared) (σ:St) (H:Hp) (o i:V) (ov iv:Value) (Q:VK),Inv X pins σ H s->RelV o ov->RelV i iv->t o i H Q→
   wpAny (model X.prog X.w) X.A (getItem ov iv) (EP X pins σ Q) X.xe s
theorem Cz{o i e:Expr}{to ti te:TE}{tget:V->V->Hp->VK->Prop}{tip:Gz}{tset:z9}{op:Operator}{tpos:Pos}(ho:PE X o to)(hi:PE X i ti)(hg:FU X tget)(he:PE X e te)(hp:HA X op tip)(hs:EU X tset)
  (ha:∀ov iv new,augStore i ov iv new=(do holding [new,ov,iv] (setItem ov iv new);release [new,ov,iv] [];pure .next):=by intros;rfl):PS X (.AugAssign (.Subscript o i tpos) op e pos) (Fz to ti te tget tip tset):=by
 intro pins s σ H D I h
 refine wpAny_AugAssign_SubscriptAny (cz (ho pins s σ H _ I h) fun ov s1 ⟨x1,H1,I1,r1,q1⟩=> ?_) ha
 refine cz (hi pins s1 σ H1 _ I1 q1) fun iv s2 qr=> ?_
 obtain⟨x2,H2,I2,r2,q2⟩:=qr
 refine cz (hg pins s2 σ H2 x1 x2 ov iv _ I2 r1 r2 q2) fun old s3 qr=> ?_
 obtain⟨x3,H3,I3,r3,q3⟩:=qr
 refine cz (he pins s3 σ H3 _ I3 q3) fun v s4 qr=> ?_
 obtain⟨x4,H4,I4,r4,q4⟩:=qr
 refine cz (hp pins s4 σ H4 x3 x4 old v _ I4 r3 r4 q4) fun new s5 qr=> ?_
 obtain⟨x5,H5,I5,r5,q5⟩:=qr
 exact cz (hs pins s5 σ H5 x1 x2 x5 ov iv new _ I5 r1 r2 r5 q5) fun _ s6 ⟨H6,I6,q6⟩=>⟨σ,H6,I6,q6⟩
def HF(f:Int->Int->Int):Gz:=fun x y H Q=>∃i j,x=.int i/\y=.int j/\Q (.int (f i j)) H
theorem Es:HA X .Add (HF fun i j=>i+j):=by
 intro pins s σ H x y v u Q I r1 r2 h
 obtain⟨i,j,e1,e2,q⟩:=h
 subst e1;subst e2
 obtain⟨t,rfl⟩:=r1
 obtain⟨t',rfl⟩:=r2
 exact iadd_int ⟨.int _,H,I.tok _,⟨_,rfl⟩,q⟩
end
section
variable{X:Cx}{pos:Pos}
def Ee(c:TT)(tb:TS):TS:=fun D σ H=>∃W:Nat->St->Hp->Prop,(∃m,W m σ H)/\∀m σ H,W m σ H→
 c σ H fun b H1=>if b=true then∃N:St->Hp->Prop,(∀σ' H',N σ' H'->∃m',m'<m/\W m' σ' H')/\tb {D with nx:=N,ct:=N,bk:=D.nx} σ H1 else D.nx σ H1
theorem A_{c:Expr}{body:List Stmt}{tc:TT}{tb:TS}(hp:PassesOwn (model X.prog X.w) X.A X.env X.xe)(hc:PT X c tc)(hb:oB X body tb):PS X (.While c body [] pos) (Ee tc tb):=by
 intro pins s σ H D I h
 obtain⟨W,⟨m0,w0⟩,turn⟩:=h
 refine wpAny_While (codeAny_whileLoop (fun n s'=>∃σ' H',Inv X pins σ' H' s'/\W n σ' H') ?_ m0 ⟨σ,H,I,w0⟩)
 rintro n s1 ⟨σ1,H1,I1,w1⟩
 refine wpAny_passesOwn hp (cz (hc pins s1 σ1 H1 _ I1 (turn n σ1 H1 w1)) fun b s2 qr=> ?_)
 obtain⟨H2,I2,q2⟩:=qr
 cases b with
 | true=>
   obtain⟨N,hN,q2⟩:=q2
   rw[if_pos rfl]
   refine wpAny_passesOwn hp (cz (hb pins s2 σ1 H2 _ I2 q2) fun f s3 q3=> ?_)
   cases f with
   | next=>
     obtain⟨σ3,H3,I3,n3⟩:=q3
     obtain⟨m',hm,w3⟩:=hN σ3 H3 n3
     exact⟨m',hm,σ3,H3,I3,w3⟩
   | cont=>
     obtain⟨σ3,H3,I3,n3⟩:=q3
     obtain⟨m',hm,w3⟩:=hN σ3 H3 n3
     exact⟨m',hm,σ3,H3,I3,w3⟩
   |brk=>exact q3
   |ret v=>exact q3
 | false=>
   rw[if_neg Bool.false_ne_true]
   exact wpAny_execs_nil ⟨σ1,H2,I2,q2⟩
end
structure It where
 go:Nat->Hp->Prop
 yld:Nat->Hp->V->Hp->Prop
 stop:Nat->Hp->Prop
def mU(X:Cx)(pins:List (Addr×Obj))(H:Hp)(b:Addr):Prop:=
 H b=none/\b≠X.env.locals/\b∉X.fs/\(b∈X.ex\/X.s₀.heap.objs.size<=b)/\(∀x c,X.env.cells.lookup x=some c->c≠b)/\∀p∈X.pn++pins,p.1≠b
theorem Inv.fpOk{X:Cx}{pins:List (Addr×Obj)}{σ:St}{H H':Hp}{s:Shared}{b:Addr}(I:Inv X pins σ H s)(hb:s.heap.objs.size<=b)(hn:H' b=none):mU X pins H' b:=by
 refine⟨hn,Nat.ne_of_gt (Nat.lt_of_lt_of_le I.lt hb),I.nofs hb,.inr (Nat.le_trans I.sz hb),fun x c e z=> ?_,fun p hp z=> ?_⟩
 ·obtain⟨v,q⟩:=I.cell x c e
  exact absurd (Nat.lt_of_lt_of_le q.lt (by rw[z];exact hb)) (Nat.lt_irrefl _)
 ·exact absurd (Nat.lt_of_lt_of_le (Heap.lt_size (I.pin p hp).1) (by rw[z];exact hb)) (Nat.lt_irrefl _)
structure Turn(P:Program)(w:World)(K:PySem.W.Frag)(tg:Expr)(J:It)(fp:List Addr)(it:Addr)(tn:Nat->Heap->Prop):Prop where
 mem:it∈fp
 obj:∀i h,tn i h->∀b∈fp,∃o,h.get? b=some o/\∀v,o.data≠.cell v
 keep:∀i h h',tn i h->(∀b∈fp,∀o,h.get? b=some o->h'.get? b=some o)->tn i h'
 item:∀(X:Cx),X.prog=P->X.w=w->X.K=K->X.calm=true->∀(i:Nat) (pins:List (Addr×Obj)) (s:Shared) (σ:St) (H:Hp) (E:Value->Shared->Prop),Inv X pins σ H s->(∀b∈fp,mU X pins H b)->tn i s.heap->J.go i H→
  wpAny (model P w) X.A (pyNext (.ref it)) (fun r s1=>∃u,r=some u∧
   wpAny (model P w) X.A (letOwnedTupleGo tg (.ref it) u) (fun _ s2=>∃x H',Inv X pins σ H' s2/\RelV x u/\J.yld i H x H'/\tn (i+1) s2.heap/\∀b∈fp,H' b=none) E s1) E s
 done:∀(X:Cx),X.prog=P->X.w=w->X.K=K->X.calm=true->∀(i:Nat) (pins:List (Addr×Obj)) (s:Shared) (σ:St) (H:Hp) (E:Value->Shared->Prop),Inv X pins σ H s->(∀b∈fp,mU X pins H b)->tn i s.heap->J.stop i H→
  wpAny (model P w) X.A (pyNext (.ref it)) (fun r s1=>r=none/\Inv X pins σ H s1) E s
 self:∀(A:Around) (i:Nat) (s:Shared) (Q:Value->Shared->Prop) (E:Value->Shared->Prop),tn i s.heap->Q (.ref it) s->wpAny (model P w) A (pyIter (.ref it)) Q E s
abbrev TI:=St->Hp->(It->Hp->Prop)->Prop
def Hw(X:Cx)(pins:List (Addr×Obj))(σ:St)(tg:Expr)(R:It->Hp->Prop)(itv:Value)(s2:Shared):Prop:=
 ∃(it:Addr) (fp:List Addr) (tn:Nat->Heap->Prop) (J:It) (H':Hp),itv=.ref it/\Inv X pins σ H' s2/\Turn X.prog X.w X.K tg J fp it tn/\tn 0 s2.heap/\(∀b∈fp,mU X pins H' b)/\R J H'
def PI(X:Cx)(tg iter:Expr)(wi:TI):Prop:=
 ∀ (pins:List (Addr×Obj)) (s:Shared) (σ:St) (H:Hp) (R:It->Hp->Prop),Inv X pins σ H s->wi σ H R→
   wpAny (model X.prog X.w) X.A (eval iter X.env) (fun v s1=>wpAny (model X.prog X.w) X.A (pyIter v) (Hw X pins σ tg R) X.xe s1) X.xe s
theorem Bw{M:Model}{A:Around}{E:Value->Shared->Prop}{s:Shared}{tg:Expr}{it:Addr}{u:Value}{o:Obj}{n:String}{vs:Array Value}{Q:Unit->Shared->Prop}(ho:s.heap.get? it=some o)(hc:o.cls=.type n)(hd:o.data=.fields vs)
    (hn: ["enumerate","zip","dict_itemiterator","dict_reverseitemiterator","odict_iterator","itertools.zip_longest","itertools.pairwise"].contains n=false) (hQ:Q () s):wpAny M A (letOwnedTupleGo tg (.ref it) u) Q E s:=by
  unfold letOwnedTupleGo
  cases tg <;>first
    |exact wpAny_pure hQ
    |(cases u <;>first
        |exact wpAny_pure hQ
        |(refine wpAny_bind (wpAny_load ho ?_)
          rw[hc,hd]
          show wpAny M A (if (["enumerate","zip","dict_itemiterator","dict_reverseitemiterator","odict_iterator","itertools.zip_longest","itertools.pairwise"].contains n&&vs[0]? ==some (rawInt _))=true then _ else _) Q E s
          rw[if_neg (by intro h;rw[hn,Bool.false_and] at h;cases h)]
          exact wpAny_pure hQ))
def Hx(K:PySem.W.Frag)(a:Addr):It:=
 ⟨fun i H=>∃xs x,gX K H a xs/\xs[i]?=some x,fun i H x H'=>H'=H/\∀xs,gX K H a xs->xs[i]?=some x,fun i H=>∃xs,gX K H a xs/\xs.length<=i⟩
def Hm(K:PySem.W.Frag)(a:Addr):It:=
 ⟨fun i H=>∃xs x,gD K H a xs/\xs[i]?=some x,fun i H x H'=>H'=H/\∀xs,gD K H a xs->xs[i]?=some x,fun i H=>∃xs,gD K H a xs/\xs.length<=i⟩
def Gr(lo:Int)(n:Nat):It:=⟨fun i _=>i<n,fun i H x H'=>H'=H/\x=.int (lo+i),fun i _=>n<=i⟩
theorem y6{P:Program}{w:World}{K:PySem.W.Frag}{tg:Expr}(a it:Addr):Turn P w K tg (Hx K a) [it] it (fun i h=>h.IsListIter it a i) where
 mem:=by simp
 obj:=fun i h st b hb=>by
  have e:b=it:=by simpa using hb
  subst e
  obtain⟨o,e,c,d⟩:=st
  exact⟨o,e,fun v z=>by rw[d] at z;cases z⟩
 keep:=fun i h h' st k=>st.at fun o e=>k it (by simp) o e
 item:=by
  intro X hP hw hK hc i pins s σ H E I hf st hg
  subst hP hw hK
  obtain⟨xs,x,hq,hx⟩:=hg
  obtain⟨its,rv,p,hz⟩:=I.list hq
  obtain⟨u,hu,ru⟩:=rv.get hx
  obtain⟨f0,f1,f2,f3,f4,f5⟩:=hf it (by simp)
  refine wpAny_pyNext_list_item st p.isList (x:=u) (by simpa using hu) fun h' st' sb=> ?_
  have I1:Inv X pins σ H {s with heap:=h'}:=I.turned (t':=s.toks) (fun b o hb e=>(sb.2 b hb).trans e) f0 f1 f3 f4 f5
  obtain⟨o,e,c,d⟩:=id st'
  exact⟨u,rfl,Bw (s:={s with heap:=h'}) e c d (by decide) ⟨x,H,I1,ru,⟨rfl,fun ys hy=>by rw[I.list_inj hy hq];exact hx⟩,st',fun b hb=>(hf b hb).1⟩⟩
 done:=by
  intro X hP hw hK hc i pins s σ H E I hf st hg
  subst hP hw hK
  obtain⟨xs,hq,hx⟩:=hg
  obtain⟨its,rv,p,hz⟩:=I.list hq
  obtain⟨f0,f1,f2,f3,f4,f5⟩:=hf it (by simp)
  have hl:=rv.length
  exact wpAny_pyNext_list_end (I.ok.hd hc) st p.isList (by simp;omega) fun h' eb=>⟨rfl,I.turned (t':=s.toks) (fun b o hb e=>eb b o hb e) f0 f1 f3 f4 f5⟩
 self:=fun _ _ _ _ _ st h=>wpAny_pyIter_listiter st h
theorem xD{P:Program}{w:World}{K:PySem.W.Frag}{tg:Expr}(a it:Addr):Turn P w K tg (Hm K a) [it] it (fun i h=>h.IsTupleIter it a i) where
 mem:=by simp
 obj:=fun i h st b hb=>by
  have e:b=it:=by simpa using hb
  subst e
  obtain⟨o,e,c,d⟩:=st
  exact⟨o,e,fun v z=>by rw[d] at z;cases z⟩
 keep:=fun i h h' st k=>st.at fun o e=>k it (by simp) o e
 item:=by
  intro X hP hw hK hc i pins s σ H E I hf st hg
  subst hP hw hK
  obtain⟨xs,x,hq,hx⟩:=hg
  obtain⟨its,rv,p,hz⟩:=I.tuple hq
  obtain⟨u,hu,ru⟩:=rv.get hx
  obtain⟨f0,f1,f2,f3,f4,f5⟩:=hf it (by simp)
  refine wpAny_pyNext_tuple_item st (show s.heap.IsTuple a its.toArray from p) (x:=u) (by simpa using hu) fun h' st' sb=> ?_
  have I1:Inv X pins σ H {s with heap:=h'}:=I.turned (t':=s.toks) (fun b o hb e=>(sb.2 b hb).trans e) f0 f1 f3 f4 f5
  obtain⟨o,e,c,d⟩:=id st'
  exact⟨u,rfl,Bw (s:={s with heap:=h'}) e c d (by decide) ⟨x,H,I1,ru,⟨rfl,fun ys hy=>by rw[I.tuple_inj hy hq];exact hx⟩,st',fun b hb=>(hf b hb).1⟩⟩
 done:=by
  intro X hP hw hK hc i pins s σ H E I hf st hg
  subst hP hw hK
  obtain⟨xs,hq,hx⟩:=hg
  obtain⟨its,rv,p,hz⟩:=I.tuple hq
  obtain⟨f0,f1,f2,f3,f4,f5⟩:=hf it (by simp)
  have hl:=rv.length
  exact wpAny_pyNext_tuple_end (I.ok.hd hc) st (show s.heap.IsTuple a its.toArray from p) (by simp;omega) fun h' eb=>⟨rfl,I.turned (t':=s.toks) (fun b o hb e=>eb b o hb e) f0 f1 f3 f4 f5⟩
 self:=fun _ _ _ _ _ st h=>wpAny_pyIter_tupleiter st h
theorem xx{P:Program}{w:World}{K:PySem.W.Frag}{tg:Expr}(it:Addr)(lo:Int)(n:Nat):Turn P w K tg (Gr lo n) [it] it (fun i h=>IsRangeIter h it (lo+(i:Nat)*1) ((n:Int)-(i:Nat)) 1) where
 mem:=by simp
 obj:=fun i h st b hb=>by
  have e:b=it:=by simpa using hb
  subst e
  exact⟨_,st,fun v z=>by
   have z':Data.fields _=Data.cell v:=z
   cases z'⟩
 keep:=fun i h h' st k=>k it (by simp) _ st
 item:=by
  intro X hP hw hK hc i pins s σ H E I hf st hg
  subst hP hw hK
  obtain⟨f0,f1,f2,f3,f4,f5⟩:=hf it (by simp)
  have W:=Walks.range (prog:=X.prog) (w:=X.w) (I.ok.hd hc) it lo 1 n
  refine W.item i s _ _ hg st fun v h' tk hv st' kk=> ?_
  obtain⟨t,rfl⟩:=hv
  have I1:Inv X pins σ H {s with heap:=h',toks:=tk}:=I.turned (fun b o hb e=>kk b o (by simpa using hb) e) f0 f1 f3 f4 f5
  refine⟨_,rfl,Bw (s:={s with heap:=h',toks:=tk}) (n:="range_iterator") st' rfl rfl (by decide) ⟨.int (lo+i),H,I1,⟨t,?_⟩,⟨rfl,rfl⟩,st',fun b hb=>(hf b hb).1⟩⟩
  rw[Int.mul_one]
 done:=by
  intro X hP hw hK hc i pins s σ H E I hf st hg
  subst hP hw hK
  obtain⟨f0,f1,f2,f3,f4,f5⟩:=hf it (by simp)
  exact wpAny_pyNext_range_end (I.ok.hd hc) st (by have:n<=i:=hg;omega) fun h' eb=>⟨rfl,I.turned (t':=s.toks) (fun b o hb e=>eb b o hb e) f0 f1 f3 f4 f5⟩
 self:=fun _ _ _ _ _ st h=>wpAny_pyIter_rangeiter st h
section
variable{X:Cx}{tg:Expr}
theorem AY{pins:List (Addr×Obj)}{σ:St}{H:Hp}{s:Shared}{R:It->Hp->Prop}{E:Value->Shared->Prop}{lo hi:Int}{t u v:Tok}{tk:Nat}(I:Inv X pins σ H s)(h1: -(2^62)<=lo)(h2:lo<2^62)(h3: -(2^62)<=hi)(h4:hi<2^62)
  (q:R (Gr lo (hi-lo).toNat) H):wpAny (model X.prog X.w) X.A (pyIter (.ref s.heap.objs.size)) (Hw X pins σ tg R) E {s with heap:=s.heap.push {cls:=.type "range",data:=.fields #[.int lo t,.int hi u,.int 1 v]},toks:=tk}:=by
 refine wpAny_pyIter_range (IsRange.new ..) (small_one h1 h2 h3 h4) ?_
 have I1:Inv X pins σ H {s with heap:=s.heap.push {cls:=.type "range",data:=.fields #[.int lo t,.int hi u,.int 1 v]},toks:=tk}:=I.kept fun b o e=>Heap.get?_push_of_some _ e
 refine⟨(s.heap.push {cls:=.type "range",data:=.fields #[.int lo t,.int hi u,.int 1 v]}).objs.size,[(s.heap.push {cls:=.type "range",data:=.fields #[.int lo t,.int hi u,.int 1 v]}).objs.size],_,_,H,rfl,
  I1.kept (t':=tk) fun b o e=>Heap.get?_push_of_some _ e,xx _ lo (hi-lo).toNat,?_,fun b hb=> ?_,q⟩
 ·have e1:lo+((0:Nat):Int)*1=lo:=by simp
  have e2:(((hi-lo).toNat:Nat):Int)-((0:Nat):Int)=Builtin.Range.rangeSize lo hi 1:=by rw[rangeSize_one];split <;>omega
  show IsRangeIter _ _ (lo+((0:Nat):Int)*1) ((((hi-lo).toNat:Nat):Int)-((0:Nat):Int)) 1
  rw[e1,e2]
  exact Heap.get?_push_size _ rfl
 ·have e:b=(s.heap.push {cls:=.type "range",data:=.fields #[.int lo t,.int hi u,.int 1 v]}).objs.size:=by simpa using hb
  subst e
  exact I1.fpOk (Nat.le_refl _) (I1.hok.fresh (Nat.le_refl _))
def F4(ta:TA):TI:=fun σ H R=>ta σ H fun vs H1=>∃j:Int,vs= [.int j]/\ -(2^62)<=j/\j<2^62/\R (Gr 0 j.toNat) H1
theorem yV{a:Expr}{ta:TA}{p pos:Pos}(hg:Gl X "range")(hm:X.mg "range"=none)(ha:PA X [a] ta)(hs:starEach [a] X.env= [(false,eval a X.env)]:=by rfl):PI X tg (.Call (.Name "range" p) [a] [] pos) (F4 ta):=by
 intro pins s σ H R I h
 refine Call_ (kO I hg hm boot_range (PyProof.Rows.callWith_type1 (cz (ha pos pins s σ H _ I h) fun us s1 ⟨vs,H1,I1,r1,q1⟩=> ?_) hs rfl))
 obtain⟨j,e,q1,q2,q⟩:=q1
 subst e
 cases r1 with
 | cons r rr=>
   cases rr
   obtain⟨t,rfl⟩:=r
   exact call_range_1 (AY I1 (by omega) (by omega) q1 q2 (by simpa using q))
def GK(wi:TI)(g:TG)(tb:TS):TS:=fun D σ H=>wi σ H fun J H1=>∃W:Nat->Nat->St->Hp->Prop,(∃m,W 0 m σ H1)/\∀i m σ H,W i m σ H→
 (J.stop i H/\D.nx σ H)\/(J.go i H/\∃N:St->Hp->Prop,(∀σ' H',N σ' H'->∃m',m'<m/\W (i+1) m' σ' H')/\∀x H',J.yld i H x H'->g x σ H' fun σ2 H2=>tb {D with nx:=N,ct:=N,bk:=D.nx} σ2 H2)
def kM(fp:List Addr)(h:Heap):List (Addr×Obj):=fp.filterMap fun b=>(h.get? b).map fun o=>(b,o)
theorem cY{fp:List Addr}{h:Heap}{b:Addr}{o:Obj}(hb:b∈fp)(e:h.get? b=some o):(b,o)∈kM fp h:=List.mem_filterMap.mpr ⟨b,hb,by rw[e];rfl⟩
theorem yM{fp:List Addr}{h:Heap}{p:Addr×Obj}(hp:p∈kM fp h):p.1∈fp/\h.get? p.1=some p.2:=by
 obtain⟨b,hb,e⟩:=List.mem_filterMap.mp hp
 cases q:h.get? b with
 |none=>rw[q] at e;cases e
 | some o=>
   rw[q] at e
   have e':(b,o)=p:=Option.some.inj e
   subst e'
   exact⟨hb,q⟩
theorem Inv.pinned{pins:List (Addr×Obj)}{σ:St}{H:Hp}{s:Shared}{fp:List Addr}(I:Inv X pins σ H s)(hf:∀b∈fp,mU X pins H b)(ho:∀b∈fp,∃o,s.heap.get? b=some o/\∀v,o.data≠.cell v):Inv X (pins++kM fp s.heap) σ H s:=
 I.pins_of fun p hp=>(mQa.mp hp).elim (fun z=>I.pin p (List.mem_append_right _ z)) fun z=>by
  obtain⟨hb,e⟩:=yM z
  obtain⟨f0,f1,f2,_⟩:=hf p.1 hb
  obtain⟨o,e',d⟩:=ho p.1 hb
  rw[e] at e';cases e'
  exact⟨e,f0,f1,f2,d⟩
theorem Inv.unpinned{pins pl:List (Addr×Obj)}{σ:St}{H:Hp}{s:Shared}(I:Inv X (pins++pl) σ H s):Inv X pins σ H s:=I.pins_of fun p hp=>I.pin p (List.mem_append_right _ (List.mem_append_left _ hp))
theorem DR{iter:Expr}{body:List Stmt}{wi:TI}{g:TG}{tb:TS}{pos:Pos}(hp:PassesOwn (model X.prog X.w) X.A X.env X.xe)(hc:X.calm=true)(hi:PI X tg iter wi)(hg:PG X tg g)(hb:oB X body tb)
  (hs:∀x,foldedSetIterable iter X.env x=pure x:=by intro _;rfl):PS X (.For tg iter body [] pos) (GK wi g tb):=by
 intro pins s σ H D I h
 refine wpAny_For (cz (hi pins s σ H _ I h) fun v s1 h1=>cz h1 fun itv s2 h2=> ?_) hs
 obtain⟨it,fp,tn,J,H2,e,I2,T,st2,f2,W,⟨m0,w0⟩,turn⟩:=h2
 subst e
 have stat:∀{H':Hp},(∀b∈fp,H' b=none)->∀b∈fp,mU X pins H' b:=fun hn b hb=>⟨hn b hb,(f2 b hb).2⟩
 refine codeAny_forLoop_any (fun n s'=>∃i σ' H',Inv X pins σ' H' s'/\tn i s'.heap/\(∀b∈fp,H' b=none)/\W i n σ' H') ?_ m0 ⟨0,σ,H2,I2,st2,fun b hb=>(f2 b hb).1,w0⟩
 rintro n s3 ⟨i,σ3,H3,I3,st3,fr3,w3⟩
 rcases turn i n σ3 H3 w3 with⟨stop,qn⟩|⟨go,N,hN,step⟩
 ·refine wpAny_passesOwn hp (cz (T.done X rfl rfl rfl hc i pins s3 σ3 H3 X.xe I3 (stat fr3) st3 stop) fun r s4 qr=> ?_)
  obtain⟨hr,I4⟩:=qr
  subst hr
  exact wpAny_execs_nil ⟨σ3,H3,I4,qn⟩
 ·refine wpAny_passesOwn hp (cz (T.item X rfl rfl rfl hc i pins s3 σ3 H3 X.xe I3 (stat fr3) st3 go) fun r s4 qr=> ?_)
  obtain⟨u,hr,h4⟩:=qr
  subst hr
  refine wpAny_passesOwn hp (cz h4 fun _ s5 qr=> ?_)
  obtain⟨x,H5,I5,r5,y5,st5,fr5⟩:=qr
  have I5':=I5.pinned (stat fr5) (T.obj _ _ st5)
  refine wpAny_passesOwn hp (cz (hg _ s5 σ3 H5 x u _ I5' r5 (step x H5 y5)) fun _ s6 qr=> ?_)
  obtain⟨σ6,H6,I6,q6⟩:=qr
  refine wpAny_passesOwn hp (cz (hb _ s6 σ6 H6 _ I6 q6) fun f s7 q7=> ?_)
  have again:∀{σ7:St} {H7:Hp},Inv X (pins++kM fp s5.heap) σ7 H7 s7->N σ7 H7->∃m,m<n/\∃i σ' H',Inv X pins σ' H' s7/\tn i s7.heap/\(∀b∈fp,H' b=none)/\W i m σ' H':=fun{σ7 H7} I7 n7=>by
   obtain⟨m',hm,w7⟩:=hN σ7 H7 n7
   refine⟨m',hm,i+1,σ7,H7,I7.unpinned,T.keep _ _ _ st5 fun b hb o e=>(I7.pin (b,o) (List.mem_append_right _ (List.mem_append_right _ (cY hb e)))).1,fun b hb=> ?_,w7⟩
   obtain⟨o,e,d⟩:=T.obj _ _ st5 b hb
   exact(I7.pin (b,o) (List.mem_append_right _ (List.mem_append_right _ (cY hb e)))).2.1
  cases f with
  |next=>obtain⟨σ7,H7,I7,n7⟩:=q7;exact again I7 n7
  |cont=>obtain⟨σ7,H7,I7,n7⟩:=q7;exact again I7 n7
  |brk=>obtain⟨σ7,H7,I7,q7⟩:=q7;exact⟨σ7,H7,I7.unpinned,q7⟩
  |ret v=>obtain⟨x7,σ7,H7,I7,r7,q7⟩:=q7;exact⟨x7,σ7,H7,I7.unpinned,r7,q7⟩
end
abbrev R2:=V->V->Hp->VK->Prop
def jh(X:Cx)(f:Value->Value->Sem Value)(r:R2):Prop:=
 ∀ (pins:List (Addr×Obj)) (s:Shared) (σ:St) (H:Hp) (x y:V) (v u:Value) (Q:VK),Inv X pins σ H s->RelV x v->RelV y u->r x y H Q→
   wpAny (model X.prog X.w) X.A (f v u) (EP X pins σ Q) X.xe s
def G8(X:Cx)(f:Value->Sem Value)(r:V->Hp->VK->Prop):Prop:=
 ∀ (pins:List (Addr×Obj)) (s:Shared) (σ:St) (H:Hp) (x:V) (v:Value) (Q:VK),Inv X pins σ H s->RelV x v->r x H Q→
   wpAny (model X.prog X.w) X.A (f v) (EP X pins σ Q) X.xe s
def i0(X:Cx)(f:Value)(r:List V->Hp->VK->Prop):Prop:=
 ∀ (pins:List (Addr×Obj)) (s:Shared) (σ:St) (H:Hp) (xs:List V) (us:List Value) (Q:VK),Inv X pins σ H s->bt xs us->r xs H Q→
   wpAny (model X.prog X.w) X.A (call f us) (EP X pins σ Q) X.xe s
def Hh(X:Cx)(r:V->Hp->(Bool->Hp->Prop)->Prop):Prop:=
 ∀ (pins:List (Addr×Obj)) (s:Shared) (σ:St) (H:Hp) (x:V) (v:Value) (Q:Bool->Hp->Prop),Inv X pins σ H s->RelV x v->r x H Q→
   wpAny (model X.prog X.w) X.A (truthy v) (TP X pins σ Q) X.xe s
def Co(r:R2)(ta tb:TE):TE:=fun σ H Q=>ta σ H fun x H1=>tb σ H1 fun y H2=>r x y H2 Q
def HL(r:V->Hp->VK->Prop)(ta:TE):TE:=fun σ H Q=>ta σ H fun x H1=>r x H1 Q
def rI(C:Int->Int->Prop)(g:Int->Int->V):R2:=fun x y H Q=>∃i j,x=.int i/\y=.int j/\C i j/\Q (g i j) H
def zC(g:Int->Int->V):R2:=fun x y H Q=>∃i j,x=.int i/\y=.int j/\Q (g i j) H
def rU(g:Int->V):V->Hp->VK->Prop:=fun x H Q=>∃i,x=.int i/\Q (g i) H
section
variable{X:Cx}{a b c:Expr}{ta tb tc:TE}{pos:Pos}
theorem Dy(ha:PE X a ta)(hb:PE X b tb){pins:List (Addr×Obj)}{s:Shared}{σ:St}{H:Hp}{R:V->V->Hp->Prop}(I:Inv X pins σ H s)
  (h:ta σ H fun x H1=>tb σ H1 fun y H2=>R x y H2) {Q:Value->Shared->Prop} {f:Value->Value->Sem Value}
  (hf:∀v u s2 x y H2,Inv X pins σ H2 s2->RelV x v->RelV y u->R x y H2->wpAny (model X.prog X.w) X.A (f v u) Q X.xe s2):
  wpAny (model X.prog X.w) X.A (eval a X.env) (fun v s₁=>wpAny (model X.prog X.w) X.A (eval b X.env) (fun u s₂=>wpAny (model X.prog X.w) X.A (f v u) Q X.xe s₂) X.xe s₁) X.xe s:=by
 refine cz (ha pins s σ H _ I h) fun v s1 qr=> ?_
 obtain⟨x,H1,I1,r1,q1⟩:=qr
 refine cz (hb pins s1 σ H1 _ I1 q1) fun u s2 qr=> ?_
 obtain⟨y,H2,I2,r2,q2⟩:=qr
 exact hf v u s2 x y H2 I2 r1 r2 q2
theorem nO{op:Operator}{r:R2}(ho:jh X (binaryOp op) r)(ha:PE X a ta)(hb:PE X b tb):PE X (.BinOp a op b pos) (Co r ta tb):=by
 intro pins s σ H Q I h
 exact wpAny_BinOp (Dy ha hb I h fun v u s2 x y H2 I2 rx ry q=>ho pins s2 σ H2 x y v u Q I2 rx ry q)
theorem Gj{op:UnaryOp}{r:V->Hp->VK->Prop}(ho:G8 X (unaryOp op) r)(ha:PE X a ta):PE X (.UnaryOp op a pos) (HL r ta):=by
 intro pins s σ H Q I h
 exact UnaryOp_ (cz (ha pins s σ H _ I h) fun v s1 ⟨x,H1,I1,r1,q1⟩=>ho pins s1 σ H1 x v Q I1 r1 q1)
theorem Gs{f:Value->Value->Sem Value}{C:Int->Int->Prop}{g:Int->Int->Int}
  (rule:∀(i j:Int) (t u:Tok) (s:Shared) (Q:Value->Shared->Prop) (E:Value->Shared->Prop),C i j->Q (.int (g i j) s.toks) {s with toks:=s.toks+1}->wpAny (model X.prog X.w) X.A (f (.int i t) (.int j u)) Q E s):
  jh X f (rI C fun i j=>.int (g i j)):=by
 intro pins s σ H x y v u Q I rx ry h
 obtain⟨i,j,rfl,rfl,hc,q⟩:=h
 obtain⟨t,rfl⟩:=rx
 obtain⟨t',rfl⟩:=ry
 exact rule i j t t' s _ _ hc ⟨.int (g i j),H,I.tok _,⟨_,rfl⟩,q⟩
theorem Fp{f:Value->Value->Sem Value}{g:Int->Int->Int}
  (rule:∀(i j:Int) (t u:Tok) (s:Shared) (Q:Value->Shared->Prop) (E:Value->Shared->Prop),Q (.int (g i j) s.toks) {s with toks:=s.toks+1}->wpAny (model X.prog X.w) X.A (f (.int i t) (.int j u)) Q E s):
  jh X f (zC fun i j=>.int (g i j)):=by
 intro pins s σ H x y v u Q I rx ry h
 obtain⟨i,j,rfl,rfl,q⟩:=h
 obtain⟨t,rfl⟩:=rx
 obtain⟨t',rfl⟩:=ry
 exact rule i j t t' s _ _ ⟨.int (g i j),H,I.tok _,⟨_,rfl⟩,q⟩
theorem B0{f:Value->Value->Sem Value}{g:Int->Int->Bool}
  (rule:∀(i j:Int) (t u:Tok) (s:Shared) (Q:Value->Shared->Prop) (E:Value->Shared->Prop),Q (.bool (g i j)) s->wpAny (model X.prog X.w) X.A (f (.int i t) (.int j u)) Q E s):
  jh X f (zC fun i j=>.bl (g i j)):=by
 intro pins s σ H x y v u Q I rx ry h
 obtain⟨i,j,rfl,rfl,q⟩:=h
 obtain⟨t,rfl⟩:=rx
 obtain⟨t',rfl⟩:=ry
 exact rule i j t t' s _ _ ⟨.bl (g i j),H,I,rfl,q⟩
def Aj(i j:Int):Prop:=0<j/\j<1073741824
def Bn(i j:Int):Prop:=0<=j/\j<=1000000/\i.natAbs<2^64
def CU(i j:Int):Prop:=(-(2^64)<i/\i<2^64)\/(-(2^64)<j/\j<2^64)
theorem CU.ok{i j:Int}(h:CU i j):IntMulOk i j:=by
 rcases h with⟨h1,h2⟩|⟨h1,h2⟩
 ·exact .of_left (intBits_le_64 h1 h2)
 ·exact .of_right (intBits_le_64 h1 h2)
theorem ES:jh X (binaryOp .Add) (zC fun i j=>.int (i+j)):=Fp fun _ _ _ _ _ _ _ q=>add_int q
theorem DW:jh X (binaryOp .Sub) (zC fun i j=>.int (i-j)):=Fp fun _ _ _ _ _ _ _ q=>sub_int q
theorem BU:jh X (binaryOp .FloorDiv) (rI Aj fun i j=>.int (i/j)):=Gs fun i j _ _ _ _ _ hc q=>by
 have h1:(0:Int)<j:=hc.1
 have h2:j<1073741824:=hc.2
 exact floordiv_int (by omega) (by rw[Int.fdiv_eq_ediv_of_nonneg i (by omega)];exact q) (.inl (PyProof.noPylong_small (by omega)))
theorem D3:jh X (binaryOp .Mod) (rI (fun _ j=>0<j) fun i j=>.int (i%j)):=Gs fun i j _ _ _ _ _ hc q=>by
 have h1:(0:Int)<j:=hc
 exact mod_int' (by omega) (by rw[Int.fmod_eq_emod_of_nonneg i (by omega)];exact q)
theorem Eu:jh X (binaryOp .Pow) (rI Bn fun i j=>.int (i^j.toNat)):=Gs fun _ _ _ _ _ _ _ hc q=>pow_int_small hc.1 hc.2.1 hc.2.2 q
theorem HG{f:Value->Sem Value}{g:Int->Int}
  (rule:∀(i:Int) (t:Tok) (s:Shared) (Q:Value->Shared->Prop) (E:Value->Shared->Prop),Q (.int (g i) s.toks) {s with toks:=s.toks+1}->wpAny (model X.prog X.w) X.A (f (.int i t)) Q E s):
  G8 X f (rU fun i=>.int (g i)):=by
 intro pins s σ H x v Q I rx h
 obtain⟨i,rfl,q⟩:=h
 obtain⟨t,rfl⟩:=rx
 exact rule i t s _ _ ⟨.int (g i),H,I.tok _,⟨_,rfl⟩,q⟩
theorem DG:G8 X (unaryOp .USub) (rU fun i=>.int (-i)):=HG fun _ _ _ _ _ q=>neg_int q
end
def w6:V->V->Bool
 |.non,.non=>true|.non,.int _=>true|.int _,.non=>true|.non,.bl _=>true|.bl _,.non=>true|.non,.str _=>true|.str _,.non=>true
 |.int _,.int _=>true|.bl _,.bl _=>true|.str _,.str _=>true|.byt _,.byt _=>true
 |.int _,.str _=>true|.str _,.int _=>true|.bl _,.str _=>true|.str _,.bl _=>true
 |_,_=>false
def Hs:R2:=fun x y H Q=>w6 x y=true/\Q (.bl (decide (x=y))) H
def Ht:R2:=fun x y H Q=>w6 x y=true/\Q (.bl (!decide (x=y))) H
theorem yj{i j:Int}:decide (V.int i=V.int j)=(i==j):=by
 rw[Bool.eq_iff_iff]
 simp
theorem zU{i j:Bool}:decide (V.bl i=V.bl j)=(i==j):=by
 rw[Bool.eq_iff_iff]
 simp
theorem yx{i j:Str}:decide (V.str i=V.str j)=(i==j):=by
 rw[Bool.eq_iff_iff]
 simp
theorem yg{i j:Array UInt8}:decide (V.byt i=V.byt j)=(i.toList==j.toList):=by
 rw[Bool.eq_iff_iff]
 cases i
 cases j
 simp
section
variable{X:Cx}{a b c:Expr}{ta tb tc:TE}{pos:Pos}
theorem bM{pins:List (Addr×Obj)}{σ:St}{H:Hp}{s:Shared}{Q:VK}{k k':Bool}(I:Inv X pins σ H s)(q:Q (.bl k) H)(e:k=k'):EP X pins σ Q (.bool k') s:=by
 subst e
 exact⟨.bl k,H,I,rfl,q⟩
theorem cg:jh X (compareOp .Eq) Hs:=by
 intro pins s σ H x y v u Q I rx ry h
 obtain⟨hs,q⟩:=h
 cases x with
 | non=>
   cases rx
   cases y with
   |non=>cases ry;exact PySem.EqNone.eq_none_none (bM I q (by simp))
   |bl j=>cases ry;exact PySem.EqNone.eq_none_bool (bM I q (by simp))
   |int j=>obtain⟨t',rfl⟩:=ry;exact PySem.EqNone.eq_none_int (bM I q (by simp))
   |str j=>obtain⟨t',rfl⟩:=ry;exact PySem.EqNone.eq_none_str (bM I q (by simp))
   |_=>exact absurd (show false=true from hs) Bool.false_ne_true
 | bl i=>
   cases rx
   cases y with
   |non=>cases ry;exact PySem.EqNone.eq_bool_none (bM I q (by simp))
   |bl j=>cases ry;exact eq_bool (bM I q zU)
   |str j=>obtain⟨t',rfl⟩:=ry;exact PySem.EqMixed.eq_bool_str (bM I q (by simp))
   |_=>exact absurd (show false=true from hs) Bool.false_ne_true
 | int i=>
   obtain⟨t,rfl⟩:=rx
   cases y with
   |non=>cases ry;exact PySem.EqNone.eq_int_none (bM I q (by simp))
   |int j=>obtain⟨t',rfl⟩:=ry;exact eq_int (bM I q yj)
   |str j=>obtain⟨t',rfl⟩:=ry;exact PySem.EqMixed.eq_int_str (bM I q (by simp))
   |_=>exact absurd (show false=true from hs) Bool.false_ne_true
 | str i=>
   obtain⟨t,rfl⟩:=rx
   cases y with
   |non=>cases ry;exact PySem.EqNone.eq_str_none (bM I q (by simp))
   |bl j=>cases ry;exact PySem.EqMixed.eq_str_bool (bM I q (by simp))
   |int j=>obtain⟨t',rfl⟩:=ry;exact PySem.EqMixed.eq_str_int (bM I q (by simp))
   |str j=>obtain⟨t',rfl⟩:=ry;exact eq_str (bM I q yx)
   |_=>exact absurd (show false=true from hs) Bool.false_ne_true
 | byt i=>
   obtain⟨t,rfl⟩:=rx
   cases y with
   |byt j=>obtain⟨t',rfl⟩:=ry;exact PySem.W.eq_bytes (bM I q yg)
   |_=>exact absurd (show false=true from hs) Bool.false_ne_true
 |_=>cases y <;>exact absurd (show false=true from hs) Bool.false_ne_true
theorem vS:jh X (compareOp .NotEq) Ht:=by
 intro pins s σ H x y v u Q I rx ry h
 obtain⟨hs,q⟩:=h
 cases x with
 | non=>
   cases rx
   cases y with
   |non=>cases ry;exact PySem.EqNone.ne_none_none (bM I q (by simp))
   |bl j=>cases ry;exact PySem.EqNone.ne_none_bool (bM I q (by simp))
   |int j=>obtain⟨t',rfl⟩:=ry;exact PySem.EqNone.ne_none_int (bM I q (by simp))
   |str j=>obtain⟨t',rfl⟩:=ry;exact PySem.EqNone.ne_none_str (bM I q (by simp))
   |_=>exact absurd (show false=true from hs) Bool.false_ne_true
 | bl i=>
   cases rx
   cases y with
   |non=>cases ry;exact PySem.EqNone.ne_bool_none (bM I q (by simp))
   |bl j=>cases ry;exact ne_bool (bM I q (congrArg not zU))
   |str j=>obtain⟨t',rfl⟩:=ry;exact PySem.EqMixed.ne_bool_str (bM I q (by simp))
   |_=>exact absurd (show false=true from hs) Bool.false_ne_true
 | int i=>
   obtain⟨t,rfl⟩:=rx
   cases y with
   |non=>cases ry;exact PySem.EqNone.ne_int_none (bM I q (by simp))
   |int j=>obtain⟨t',rfl⟩:=ry;exact ne_int (bM I q (congrArg not yj))
   |str j=>obtain⟨t',rfl⟩:=ry;exact PySem.EqMixed.ne_int_str (bM I q (by simp))
   |_=>exact absurd (show false=true from hs) Bool.false_ne_true
 | str i=>
   obtain⟨t,rfl⟩:=rx
   cases y with
   |non=>cases ry;exact PySem.EqNone.ne_str_none (bM I q (by simp))
   |bl j=>cases ry;exact PySem.EqMixed.ne_str_bool (bM I q (by simp))
   |int j=>obtain⟨t',rfl⟩:=ry;exact PySem.EqMixed.ne_str_int (bM I q (by simp))
   |str j=>obtain⟨t',rfl⟩:=ry;exact ne_str (bM I q (congrArg not yx))
   |_=>exact absurd (show false=true from hs) Bool.false_ne_true
 | byt i=>
   obtain⟨t,rfl⟩:=rx
   cases y with
   |byt j=>obtain⟨t',rfl⟩:=ry;exact PySem.W.ne_bytes (bM I q (congrArg not yg))
   |_=>exact absurd (show false=true from hs) Bool.false_ne_true
 |_=>cases y <;>exact absurd (show false=true from hs) Bool.false_ne_true
theorem lI:jh X (compareOp .Lt) (zC fun i j=>.bl (decide (i<j))):=B0 fun _ _ _ _ _ _ _ q=>lt_int q
theorem Fd:jh X (compareOp .LtE) (zC fun i j=>.bl (decide (i<=j))):=B0 fun _ _ _ _ _ _ _ q=>le_int q
theorem yu:jh X (compareOp .Gt) (zC fun i j=>.bl (decide (j<i))):=B0 fun _ _ _ _ _ _ _ q=>gt_int q
theorem Gk:jh X (compareOp .GtE) (zC fun i j=>.bl (decide (j<=i))):=B0 fun _ _ _ _ _ _ _ q=>ge_int q
theorem EM:jh X (compareOp .Is) (fun x y H Q=>y=.non/\Q (.bl (decide (x=.non))) H):=by
 intro pins s σ H x y v u Q I rx ry h
 obtain⟨rfl,q⟩:=h
 cases ry
 refine is_none_gen (bM I q ?_)
 cases x <;>first
  |(cases rx;rfl)
  |(obtain⟨t,rfl⟩:=rx;rfl)
theorem jh.or{f:Value->Value->Sem Value}{r r':R2}(h:jh X f r)(h':jh X f r'):jh X f (fun x y H Q=>r x y H Q\/r' x y H Q):=by
 intro pins s σ H x y v u Q I rx ry q
 rcases q with q|q
 ·exact h pins s σ H x y v u Q I rx ry q
 ·exact h' pins s σ H x y v u Q I rx ry q
theorem aK(b:Expr){op:CmpOp}(h:op≠.In:=by decide)(h2:op≠.NotIn:=by decide):behindInMarks op b=false:=by
 have e1:(op==CmpOp.In)=false:=by cases op <;>first|rfl|exact absurd rfl h
 have e2:(op==CmpOp.NotIn)=false:=by cases op <;>first|rfl|exact absurd rfl h2
 cases b <;>simp[behindInMarks,e1,e2]
theorem CN{op:CmpOp}{r:R2}(ho:jh X (compareOp op) r)(ha:PE X a ta)(hb:PE X b tb)(hm:behindInMarks op b=false):PE X (.Compare a [op] [b] pos) (Co r ta tb):=by
 intro pins s σ H Q I h
 exact wpAny_Compare1 (Dy ha hb I h fun v u s2 x y H2 I2 rx ry q=>ho pins s2 σ H2 x y v u Q I2 rx ry q) hm
def A4(t:TE):TT:=fun σ H Q=>t σ H fun x H'=>∃k,x=.bl k/\Q k H'
theorem lq{op:CmpOp}{r:R2}(ho:jh X (compareOp op) r)(ha:PE X a ta)(hb:PE X b tb)(hm:behindInMarks op b=false):PT X (.Compare a [op] [b] pos) (A4 (Co r ta tb)):=by
 intro pins s σ H Q I h
 refine wpAny_isTrue_Compare1 (cz (ha pins s σ H _ I h) fun v s1 ⟨x,H1,I1,r1,q1⟩=>cz (hb pins s1 σ H1 _ I1 q1) fun u s2 ⟨y,H2,I2,r2,q2⟩=>
  cz (ho pins s2 σ H2 x y v u _ I2 r1 r2 q2) fun c s3 ⟨z,H3,I3,r3,k,e,q3⟩=> ?_) hm
 subst e
 cases r3
 exact wpAny_truthy_bool ⟨H3,I3,q3⟩
def DE(K:PySem.W.Frag)(x:V)(H:Hp)(k:Bool):Prop:=
 match x with
 |.non=>k=false
 |.bl b=>k=b
 |.int i=>k=(i !=0)
 |.str y=>y.length<=sizeLine/\k=((y.length:Int) !=0)
 |.byt y=>y.size<=sizeLine/\k=((y.size:Int) !=0)
 |.ref p=>(∃xs,gX K H p xs/\k= !xs.isEmpty)\/(∃xs,gD K H p xs/\k= !xs.isEmpty)\/∃kvs,H p=some (.dK kvs)/\k= !kvs.isEmpty
 |_=>False
theorem wO{κ:Type}{kvs:List (κ×V)}{vs:List (κ×Value)}(r:KV kvs vs):(!vs.isEmpty)= !kvs.isEmpty:=by
 cases r <;>rfl
theorem qv{xs:List V}{its:List Value}(r:bt xs its):(!its.toArray.isEmpty)= !xs.isEmpty:=by
 cases r <;>simp
theorem jl:(sizeLine:Nat)<2^63:=by rw[sizeLine_eq];decide
theorem EG:Hh X (fun x H Q=>∃k,DE X.K x H k/\Q k H):=by
 intro pins s σ H x v Q I rx h
 obtain⟨k,e,q⟩:=h
 have hl:=jl
 have hs:sizeLine=16777216:=sizeLine_eq
 cases x with
 | non=>
   cases rx
   have e':k=false:=e
   subst e'
   exact truthy_none ⟨H,I,q⟩
 | bl b=>
   cases rx
   have e':k=b:=e
   subst e'
   exact wpAny_truthy_bool ⟨H,I,q⟩
 | int i=>
   obtain⟨t,rfl⟩:=rx
   have e':k=(i !=0):=e
   subst e'
   exact PySem.P.truthy_int ⟨H,I,q⟩
 | str y=>
   obtain⟨t,rfl⟩:=rx
   obtain⟨hy,e'⟩:y.length<=sizeLine/\k=((y.length:Int) !=0):=e
   subst e'
   exact PySem.P.truthy_str (by omega) ⟨H,I.tok _,q⟩
 | byt y=>
   obtain⟨t,rfl⟩:=rx
   obtain⟨hy,e'⟩:y.size<=sizeLine/\k=((y.size:Int) !=0):=e
   subst e'
   exact PySem.W.truthy_bytes (by omega) ⟨H,I.tok _,q⟩
 | ref p=>
   cases rx
   have e':(∃xs,gX X.K H p xs/\k= !xs.isEmpty)\/(∃xs,gD X.K H p xs/\k= !xs.isEmpty)\/∃kvs,H p=some (.dK kvs)/\k= !kvs.isEmpty:=e
   rcases e' with⟨xs,hx,e'⟩|⟨xs,hx,e'⟩|⟨kvs,hx,e'⟩
   · subst e'
     obtain⟨its,r,pl,hz⟩:=I.list hx
     have hlen:=r.length
     exact wpAny_truthy_list pl.isList (by simp only[List.size_toArray];omega) ⟨H,I.tok _,by rw[qv r];exact q⟩
   · subst e'
     obtain⟨its,r,pl,hz⟩:=I.tuple hx
     have hlen:=r.length
     exact truthy_tuple pl (by simp only[List.size_toArray];omega) ⟨H,I.tok _,by rw[qv r];exact q⟩
   · subst e'
     obtain⟨hz,hS,vs,r,m⟩:kvs.length<=sizeLine/\(p==sysModules)=false/\∃vs,KV kvs vs/\s.heap.DictOf (bF X.prog X.w) p vs:=I.hok p _ hx
     have hlen:kvs.length=vs.length:=Paired.length r
     exact wpAny_truthy_dict hS m (by omega) ⟨H,I.tok _,by rw[wO r];exact q⟩
 |_=>exact(show False from e).elim
theorem AH(ha:PE X a ta)(he:∀whole,isTrue a X.env whole=(do let v←whole;standAt a.pos;holding [v] (truthy v))):
  PT X a (fun σ H Q=>ta σ H fun x H'=>∃k,DE X.K x H' k/\Q k H'):=by
 intro pins s σ H Q I h
 exact isTrue_plain (cz (ha pins s σ H _ I h) fun v s1 ⟨x,H1,I1,r1,q1⟩=>EG pins s1 σ H1 x v Q I1 r1 q1) (he _)
theorem wM:jh X (binaryOp .Add) (fun x y H Q=>∃i j,x=.str i/\y=.str j/\i.length+j.length<=sizeLine/\Q (.str (i++j)) H):=by
 intro pins s σ H x y v u Q I rx ry h
 obtain⟨i,j,rfl,rfl,hz,q⟩:=h
 obtain⟨t,rfl⟩:=rx
 obtain⟨t',rfl⟩:=ry
 exact add_str (fun t' tk=>⟨.str (i++j),H,I.tok _,⟨_,rfl⟩,q⟩) hz
theorem vals1{x:V}{us:List Value}(r:bt [x] us):∃u,us= [u]/\RelV x u:=by
 cases r with
 |cons r1 r2=>cases r2;exact⟨_,rfl,r1⟩
theorem vals2{x y:V}{us:List Value}(r:bt [x,y] us):∃u w',us= [u,w']/\RelV x u/\RelV y w':=by
 cases r with
 | cons r1 r2=>
   cases r2 with
   |cons r3 r4=>cases r4;exact⟨_,_,rfl,r1,r3⟩
theorem AZ:i0 X (.builtin "abs") (fun xs H Q=>∃i,xs= [.int i]/\Q (.int (if i<0 then -i else i)) H):=by
 intro pins s σ H xs us Q I r h
 obtain⟨i,rfl,q⟩:=h
 obtain⟨u,rfl,t,rfl⟩:=vals1 r
 exact call_abs_int fun u tk=>⟨.int (if i<0 then -i else i),H,I.tok _,⟨_,rfl⟩,q⟩
theorem r8(hc:X.calm=true):i0 X (.builtin "max") (fun xs H Q=>∃i j,xs= [.int i,.int j]/\Q (.int (if j>i then j else i)) H):=by
 intro pins s σ H xs us Q I r h
 obtain⟨i,j,rfl,q⟩:=h
 obtain⟨u,w',rfl,⟨t,rfl⟩,⟨t',rfl⟩⟩:=vals2 r
 refine max_two_ints (I.ok.hd hc) fun h' tk k=>⟨_,H,I.kept k,?_,q⟩
 by_cases hj:j>i
 ·rw[if_pos hj,if_pos hj];exact⟨_,rfl⟩
 ·rw[if_neg hj,if_neg hj];exact⟨_,rfl⟩
theorem mw(hc:X.calm=true):i0 X (.builtin "min") (fun xs H Q=>∃i j,xs= [.int i,.int j]/\Q (.int (if j<i then j else i)) H):=by
 intro pins s σ H xs us Q I r h
 obtain⟨i,j,rfl,q⟩:=h
 obtain⟨u,w',rfl,⟨t,rfl⟩,⟨t',rfl⟩⟩:=vals2 r
 refine min_two_ints (I.ok.hd hc) fun h' tk k=>⟨_,H,I.kept k,?_,q⟩
 by_cases hj:j<i
 ·rw[if_pos hj,if_pos hj];exact⟨_,rfl⟩
 ·rw[if_neg hj,if_neg hj];exact⟨_,rfl⟩
theorem fM:i0 X (.type "int") (fun xs H Q=>(∃i,xs= [.int i]/\Q (.int i) H)\/∃k,xs= [.bl k]/\Q (.int (if k then 1 else 0)) H):=by
 intro pins s σ H xs us Q I r h
 rcases h with⟨i,rfl,q⟩|⟨k,rfl,q⟩
 ·obtain⟨u,rfl,t,rfl⟩:=vals1 r
  exact call_int_int ⟨.int i,H,I,⟨_,rfl⟩,q⟩
 ·obtain⟨u,rfl,r1⟩:=vals1 r
  cases r1
  exact call_int_bool ⟨.int (if k then 1 else 0),H,I.tok _,⟨_,rfl⟩,q⟩
end
structure DC(h:Heap)(x dx C:Addr)(mA:Str->Option Value):Prop where
 obj:h.get? x=some (PySem.W.instObj C dx)
 ns:h.Ns1 dx mA
 ne:dx≠x
theorem zv{h:Heap}{dx:Addr}{mA:Str->Option Value}(n:h.Ns1 dx mA):∃od,h.get? dx=some od/\∀name,PySem.W.lookIn name od=some (mA name):=by
 obtain⟨o,es,ep,ho,hd,hk,_,hm⟩:=n
 refine⟨o,ho,fun name=> ?_⟩
 have e:=hm name
 unfold nsFind findBy at e
 rw[←Array.find?_toList] at e
 unfold PySem.W.lookIn
 rw[hd]
 dsimp only
 split
 ·rename_i y q
  rw[q] at e
  exact congrArg some e
 ·rename_i q
  rw[q] at e
  have a:es.toList.any (·.refKey)=false:=by
   rw[List.any_eq_false]
   intro y hy
   obtain⟨z,t,hkey⟩:=hk y (Array.mem_toList_iff.mp hy)
   simp[DictEntry.refKey,hkey]
  have a':¬es.toList.any (·.refKey)=true:=by rw[a];exact Bool.false_ne_true
  rw[if_neg a']
  exact congrArg some e
theorem DC.look{h:Heap}{x dx C:Addr}{mA:Str->Option Value}(I:DC h x dx C mA):∃od,PySem.W.InstAt h x (PySem.W.instObj C dx) C (some od)/\∀name,PySem.W.lookIn name od=some (mA name):=
 let ⟨od,ho,hl⟩:=zv I.ns
 ⟨od,⟨I.obj,rfl,rfl,ho⟩,hl⟩
theorem oX.some_of{v:V}{o:Option Value}(r:oX (some v) o):∃u,o=some u/\RelV v u:=by
 cases o with
 |none=>exact(show False from r).elim
 |some u=>exact⟨u,rfl,r⟩
section
variable{P:Program}{w:World}{H H':Hp}{h h':Heap}{a C dx:Addr}{fs fs':List (Str×V)}
theorem B5(hok:kU P w H h)(e:H a=some (.ins C dx fs)):∃mA,DC h a dx C mA/\(∀f,oX (fs.lookup f) (mA f))/\PySem.Within mA (fs.map (·.1))/\fs.length<=1000/\H dx=some (.own a):=by
 obtain⟨d,z,ne,ob,mA,n,r,q⟩:=(show cG P w H h a (.ins C dx fs) from hok a _ e)
 exact⟨mA,⟨ob,n,ne⟩,r,q,z,d⟩
end
structure G0(K:PySem.W.Frag)(C:Addr):Prop where
 pg:PySem.W.plainGet K C Str.empty=true
 hd:PySem.W.hasDictIn K C=true
 po:PySem.W.plainOver K C=true
 sa:PySem.W.findIn K (.ref C) "__setattr__"=some (some (.builtin "object.__setattr__"))
theorem G0.get{K:PySem.W.Frag}{C:Addr}(c:G0 K C)(f:Str):PySem.W.plainGet K C f=true:=c.pg
section
variable{X:Cx}{pins:List (Addr×Obj)}{σ:St}{H:Hp}{s:Shared}{A:Around}{E:Value->Shared->Prop}{Q:Value->Shared->Prop}{c:Value}{b:Bool}
inductive mI(K:PySem.W.Frag)(H:Hp):V->Value->Prop where
 |non:mI K H .non (.type "NoneType")
 |bl (x:Bool):mI K H (.bl x) (.type "bool")
 |int (i:Int):mI K H (.int i) (.type "int")
 |str (x:Str):mI K H (.str x) (.type "str")
 |flt (x:UInt64):mI K H (.flt x) (.type "float")
 |lst {a:Addr} {xs:List V} (e:H a=some (.lst xs)):mI K H (.ref a) (.type "list")
 |frz {a:Addr} {o:Obj} {xs:List V} (e:H a=some (.frz o (.lst xs))):mI K H (.ref a) (.type "list")
 |tup {a:Addr} {xs:List V} (e:H a=some (.tup xs)):mI K H (.ref a) (.type "tuple")
 |dK {a:Addr} {kvs:List (Key×V)} (e:H a=some (.dK kvs)):mI K H (.ref a) (.type "dict")
 |dT {a:Addr} {kvs:List (List Key×V)} (e:H a=some (.dT kvs)):mI K H (.ref a) (.type "dict")
 |ins {a C dx:Addr} {fs:List (Str×V)} (e:H a=some (.ins C dx fs)) (cl:G0 K C) (ha:PySem.W.findIn K (.ref C) "__class__"=some (some (.builtin "object.__class__")))
   (hn:PySem.W.specialIn K (.builtin "object.__class__") "__get__"=some (some (.builtin "getset_descriptor.__get__"))) (htk:PySem.W.takesIn K (.builtin "object.__class__")=some true)
   (hm:PySem.W.mroIn K C (.type "object")=some true):mI K H (.ref a) (.ref C)
theorem zE{x:V}{u t:Value}(I:Inv X pins σ H s)(rx:RelV x u)(ty:mI X.K H x t)(e:PySem.W.kitOne X.K t c=some b)(h:∀tk,Q (.bool b) {s with toks:=tk}):
  wpAny (model X.prog X.w) A (call (.builtin "isinstance") [u,c]) Q E s:=by
 cases ty with
 |non=>cases (show u=Value.none from rx);exact PySem.W.kia_one PySem.W.kitx_none I.kIn True.intro e (fun z=>nomatch z) h
 |bl y=>cases (show u=Value.bool y from rx);exact PySem.W.kia_one PySem.W.kitx_bool I.kIn True.intro e (fun z=>nomatch z) h
 |int i=>obtain⟨t,q⟩:=(show∃t,u=Value.int i t from rx);cases q;exact PySem.W.kia_one PySem.W.kitx_int I.kIn True.intro e (fun z=>nomatch z) h
 |str y=>obtain⟨t,q⟩:=(show∃t,u=Value.str y t from rx);cases q;exact PySem.W.kia_one PySem.W.kitx_str I.kIn True.intro e (fun z=>nomatch z) h
 |flt y=>obtain⟨t,q⟩:=(show∃t,u=Value.float y t from rx);cases q;exact PySem.W.kia_one PySem.W.kitx_float I.kIn True.intro e (fun z=>nomatch z) h
 | @lst a xs ea=>
   cases (show u=Value.ref a from rx)
   obtain⟨_,_,n,_,h1⟩:=(show cG X.prog X.w H s.heap a (.lst xs) from I.hok a _ ea)
   exact PySem.W.kia_one PySem.W.kitx_list I.kIn ⟨_,h1,rfl⟩ e (fun z=>nomatch z) h
 | @frz a ob xs ea=>
   cases (show u=Value.ref a from rx)
   obtain⟨_,_,_,n,_,h1⟩:=(show cG X.prog X.w H s.heap a (.frz ob (.lst xs)) from I.hok a _ ea)
   exact PySem.W.kia_one PySem.W.kitx_list I.kIn ⟨_,h1,rfl⟩ e (fun z=>nomatch z) h
 | @tup a xs ea=>
   cases (show u=Value.ref a from rx)
   obtain⟨_,_,_,p⟩:=(show cG X.prog X.w H s.heap a (.tup xs) from I.hok a _ ea)
   obtain⟨o,h1,h2,_⟩:=p
   exact PySem.W.kia_one PySem.W.kitx_tuple I.kIn ⟨o,h1,h2⟩ e (fun z=>nomatch z) h
 | @dK a kvs ea=>
   cases (show u=Value.ref a from rx)
   obtain⟨_,_,vs,_,p⟩:=(show cG X.prog X.w H s.heap a (.dK kvs) from I.hok a _ ea)
   obtain⟨o,es,ep,h1,h2,_⟩:=p
   exact PySem.W.kia_one PySem.W.kitx_dict I.kIn ⟨o,h1,h2.1⟩ e (fun z=>nomatch z) h
 | @dT a kvs ea=>
   cases (show u=Value.ref a from rx)
   obtain⟨_,_,xs,_,o,es,ep,h1,h2,_⟩:=(show cG X.prog X.w H s.heap a (.dT kvs) from I.hok a _ ea)
   exact PySem.W.kia_one PySem.W.kitx_dict I.kIn ⟨o,h1,h2.1⟩ e (fun z=>nomatch z) h
 | @ins a C dx fs ea cl ha hn htk hm=>
   cases (show u=Value.ref a from rx)
   obtain⟨mA,O,_⟩:=B5 I.hok ea
   obtain⟨od,J,_⟩:=O.look
   exact PySem.W.kia_one (PySem.W.kitx_own (cl.get _) cl.hd ha hn htk hm) I.kIn J e (fun z=>nomatch z) h
end
structure eL(k:Nat)(A:Around):Prop where
 hd:A.handled=none
 dp:A.depth+3*k+5<recursionLimit
 un:A.units+16*k+200<cLine
theorem eL.mono{j k:Nat}{A:Around}(r:eL k A)(h:j<=k):eL j A:=⟨r.hd,by have:=r.dp;omega,by have:=r.un;omega⟩
theorem eL.deeper{k:Nat}{A:Around}(r:eL (k+1) A)(env:Env):eL k (A.deeper env):=
 ⟨r.hd,by have:=r.dp;show A.depth+1+3*k+5<_;omega,by have:=r.un;show A.units+3+16*k+200<_;omega⟩
theorem eL.depth{k:Nat}{A:Around}(r:eL k A):A.depth<recursionLimit:=by have:=r.dp;omega
theorem eL.units{k:Nat}{A:Around}(r:eL k A):A.units+64<cLine:=by have:=r.un;omega
theorem eL.units0{k:Nat}{A:Around}(r:eL k A):A.units<cLine:=by have:=r.un;omega
def Et:TA:=fun _ H Q=>Q [] H
def BF(ta:TE)(tr:TA):TA:=fun σ H Q=>ta σ H fun x H1=>tr σ H1 fun xs H2=>Q (x::xs) H2
section
variable{X:Cx}{e:Expr}{es:List Expr}{te:TE}{t:TA}{pos:Pos}
theorem fm:PA X [] Et:=fun _ _ _ _ H Q I h=>Calls.spliced_nil ⟨[],H,I,.nil,h⟩
theorem dr(ha:PE X e te)(hr:PA X es t)(hs:starEach (e::es) X.env=(false,eval e X.env)::starEach es X.env:=by rfl):PA X (e::es) (BF te t):=by
 intro pos pins s σ H Q I h
 rw[hs]
 show wpAny _ _ (spliced ((false,eval e X.env)::backTo pos (starEach es X.env))) _ _ s
 refine Calls.spliced_cons (cz (ha pins s σ H _ I h) fun u s1 qr=> ?_)
 obtain⟨x,H1,I1,r1,q1⟩:=qr
 exact cz (hr pos pins s1 σ H1 _ I1 q1) fun us s2 ⟨xs,H2,I2,r2,q2⟩=>⟨x::xs,H2,I2,.cons r1 r2,q2⟩
def GH(t:TA):TE:=fun σ H Q=>t σ H fun xs H1=>xs.length<=sizeLine/\∀p,H1 p=none->Q (.ref p) (upd H1 p (.tup xs))
def GS(t:TA):TE:=fun σ H Q=>t σ H fun xs H1=>xs.length<=sizeLine/\∀p,H1 p=none->Q (.ref p) (upd H1 p (.lst xs))
theorem DQ{x1}(h:PA X es t):PE X (.Tuple es x1 pos) (GH t):=by
 intro pins s σ H Q I hq
 refine wpAny_Tuple_spliced (cz (h pos pins s σ H _ I hq) fun us s1 ⟨xs,H1,I1,r,z,q⟩=>⟨by rw[←r.length];exact z,?_⟩)
 have hf:H1 s1.heap.objs.size=none:=I1.hok.fresh (Nat.le_refl _)
 refine⟨.ref s1.heap.objs.size,upd H1 s1.heap.objs.size (.tup xs),I1.laid (t':=s1.toks) (fun b u e=>Heap.get?_push_of_some _ e) (Nat.le_refl _) ?_,rfl,q _ hf⟩
 exact⟨z,us,r,⟨_,Heap.get?_push_size _ rfl,rfl,rfl,_,rfl⟩⟩
theorem Eo(h:PA X es t):PE X (.List es pos) (GS t):=by
 intro pins s σ H Q I hq
 refine wpAny_List_spliced (cz (h pos pins s σ H _ I hq) fun us s1 ⟨xs,H1,I1,r,z,q⟩=>⟨by rw[←r.length];exact z,?_⟩)
 have hf:H1 s1.heap.objs.size=none:=I1.hok.fresh (Nat.le_refl _)
 refine⟨.ref s1.heap.objs.size,upd H1 s1.heap.objs.size (.lst xs),I1.laid (t':=s1.toks) (fun b u e=>Heap.get?_push_of_some _ e) (Nat.le_refl _) ?_,rfl,q _ hf⟩
 exact⟨z,us,0,r,Heap.get?_push_size _ rfl⟩
end
abbrev Sp:=List V->Hp->VK->XK->Prop
abbrev zF:=List Env->Hp->Shared->XK->Value->Shared->Prop
structure B9(P:Program)(w:World)(K:PySem.W.Frag)(mg:Str->Option Value)(base:Heap)(A:Around)(outer:List Env)(s:Shared)(H:Hp):Prop where
 frames:A.frames=some outer
 mod:Mod K mg base
 bs:∀b o,base.get? b=some o->s.heap.get? b=some o/\H b=none
 bsz:base.objs.size<=s.heap.objs.size
 funs:s.heap.FunFrames base outer
 frf:∀b∈Aw outer,H b=none
 hok:kU P w H s.heap
 bare:AllBare s.gens
def CE(outer:List Env)(P:Program)(w:World)(H:Hp)(s:Shared)(Q:VK)(u:Value)(s':Shared):Prop:=
 ∃v H',s'.os=s.os/\AllBare s'.gens/\Un (Aw outer) [] H H' s.heap s'.heap/\kU P w H' s'.heap/\RelV v u/\Q v H'
def CR(CX:zF)(outer:List Env)(P:Program)(w:World)(H:Hp)(s:Shared)(Q:VK)(E:XK)(r:Result)(s':Shared):Prop:=
 match r with
 |.ok (.ret u)=>CE outer P w H s Q u s'
 |.ok _=>False
 |.error e=>CX outer H s E e s'
structure bh(P:Program)(w:World)(K:PySem.W.Frag)(mg:Str->Option Value)(base:Heap)(CX:zF)(k:Nat)(f:Addr)(fd:FuncData)(ps:List Str)(sp:Sp):Prop where
 len:∀vs H Q E,sp vs H Q E->vs.length=ps.length
 run:∀(A:Around) (outer:List Env) (s:Shared) (H:Hp) (args:Args) (us:List Value) (vs:List V) (Q:VK) (E:XK),eL k A->B9 P w K mg base A outer s H->BindsTo s fd args (ps.zip us)->bt vs us->sp vs H Q E→
  codeAny (model P w) A (.call (.ref f) args) (CR CX outer P w H s Q E) s
theorem bh.mono{P:Program}{w:World}{K:PySem.W.Frag}{mg:Str->Option Value}{base:Heap}{CX:zF}{j k:Nat}{f:Addr}{fd:FuncData}{ps:List Str}{sp:Sp}(F:bh P w K mg base CX j f fd ps sp)(h:j<=k):
  bh P w K mg base CX k f fd ps sp:=⟨F.len,fun A outer s H args us vs Q E hr=>F.run A outer s H args us vs Q E (hr.mono h)⟩
theorem bh.imp{P:Program}{w:World}{K:PySem.W.Frag}{mg:Str->Option Value}{base:Heap}{CX:zF}{k:Nat}{f:Addr}{fd:FuncData}{ps:List Str}{sp sp':Sp}(F:bh P w K mg base CX k f fd ps sp)
  (h:∀vs H Q E,sp' vs H Q E->sp vs H Q E):bh P w K mg base CX k f fd ps sp':=
 ⟨fun vs H Q E q=>F.len vs H Q E (h _ _ _ _ q),fun A outer s H args us vs Q E hr he hb hv hs=>F.run A outer s H args us vs Q E hr he hb hv (h _ _ _ _ hs)⟩
section
variable{X:Cx}{pins:List (Addr×Obj)}{σ:St}{H:Hp}{s s':Shared}
theorem Inv.env0(I:Inv X pins σ H s):B9 X.prog X.w X.K X.mg X.base X.A X.stack s H:=
 ⟨I.ok.frames,I.ok.mod,I.bs,Nat.le_trans I.ok.bsz I.sz,I.stack,I.stkFree,I.hok,I.bare⟩
theorem Inv.after{Q:VK}{u:Value}(I:Inv X pins σ H s)(h:CE X.stack X.prog X.w H s Q u s'):EP X pins σ Q u s':=by
 obtain⟨v,H',os,bare,un,hok,r,q⟩:=h
 obtain⟨hh,g,d,t,os'⟩:=s'
 obtain rfl:os'=s.os:=os
 exact⟨v,H',I.call (h':=hh) (g':=g) (d':=d) (t':=t) (ch:= []) un hok bare (fun b z=>absurd z (by simp)),r,q⟩
end
def Aq(sp:Sp)(dvs:List V)(E:XK)(t:TA):TE:=fun σ H Q=>t σ H fun vs H1=>sp (vs++dvs) H1 Q E
def Binds(K:PySem.W.Frag)(fd:FuncData)(ps:List Str)(ds:List Value):Prop:=
 ∀(s:Shared) (us:List Value),K.In s.heap->(us++ds).length=ps.length->BindsTo s fd ⟨us,[]⟩ (ps.zip (us++ds))
theorem Binds.all{K:PySem.W.Frag}{fd:FuncData}{ps:List Str}(h:∀us:List Value,us.length=ps.length->bindArgs fd ⟨us,[]⟩=pure (ps.zip us)):Binds K fd ps []:=fun s us _ hl=>by
 rw[List.append_nil] at hl⊢
 exact .of_eq (h us hl)
def xg(CX:zF)(X:Cx)(E:XK):Prop:=∀(pins:List (Addr×Obj)) (σ:St) (H:Hp) (s:Shared) (e:Value) (s':Shared),Inv X pins σ H s->CX X.stack H s E e s'->X.xe e s'
section
variable{X:Cx}{CX:zF}{k:Nat}{f C:Addr}{fd:FuncData}{ps:List Str}{sp:Sp}{dvs:List V}{ds:List Value}{E:XK}{x m:Str}{p pos apos:Pos}{e o:Expr}{es:List Expr}{ta:TE}{t:TA}
theorem BA{pins:List (Addr×Obj)}{σ:St}{H:Hp}{s:Shared}{Q:VK}{us:List Value}{vs:List V}(F:bh X.prog X.w X.K X.mg X.base CX k f fd ps sp)(hr:eL k X.A)(hb:Binds X.K fd ps ds)(hd:bt dvs ds)(hx:xg CX X E)
  (I:Inv X pins σ H s) (r:bt vs us) (h:sp (vs++dvs) H Q E):wpAny (model X.prog X.w) X.A (call (.ref f) us) (EP X pins σ Q) X.xe s:=by
 have r2:bt (vs++dvs) (us++ds):=r.append hd
 have hl:(us++ds).length=ps.length:=by rw[←r2.length];exact F.len _ _ _ _ h
 refine wpAny_call (codeAny_mono (F.run X.A X.stack s H ⟨us,[]⟩ (us++ds) (vs++dvs) Q E hr I.env0 (hb s us I.kIn hl) r2 h) fun r s' hq=> ?_)
 cases r with
 |error e=>exact hx pins σ H s e s' I hq
 | ok fl=>
   cases fl with
   |ret u=>exact I.after hq
   |next=>exact False.elim hq
   |brk=>exact False.elim hq
   |cont=>exact False.elim hq
theorem yh(F:bh X.prog X.w X.K X.mg X.base CX k f fd ps sp)(hr:eL k X.A)(hg:Gl X x)(hm:X.mg x=some (.ref f))(hk:PySem.W.keepIn X.K (.ref f)=true)(hb:Binds X.K fd ps ds)(hd:bt dvs ds)(hx:xg CX X E)
  (ha:PA X (e::es) t) (hdb:(x==("__debug__":Str))=false:=by decide) (he:starEach (e::es) X.env=(false,eval e X.env)::starEach es X.env:=by rfl) (hpl:(backTo pos (starEach es X.env)).any (·.1)=false:=by rfl):
  PE X (.Call (.Name x p) (e::es) [] pos) (Aq sp dvs E t):=by
 intro pins s σ H Q I h
 refine wpAny_Call_Name_kw (sR I hg hm ?_ hdb)
 refine PySem.W.callWith_K (h₀:=X.base) I.ok.mod.kin hk (cz (ha pos pins s σ H _ I h) fun us s1 ⟨vs,H1,I1,r,q⟩=>⟨I1.kIn,?_⟩) he hpl
 exact BA F hr hb hd hx I1 r q
end
structure aB(N P:List Str)(sc:Scope):Prop where
 kind:sc.kind=.function
 co:sc.isCoroutine=false
 gen:sc.isGenerator=false
 nd:N.Nodup
 pre:N.take P.length=P
 par:∀x∈P,sc.names.lookup x=some .local\/sc.names.lookup x=some .cell
 nofree:∀y∈sc.names,y.2≠.free
theorem su{kindOf:Str->Option NameKind}{x:Str}:∀{binds:List (Str×Value)} {m:Str->Option Value},(∀v,(x,v)∉binds)->bindL kindOf binds m x=m x
 | [],_,_=>rfl
 | (n,v)::r,m,h=>by
   unfold bindL
   rw[su fun w hw=>h w (List.mem_cons_of_mem _ hw)]
   split
   · have:x≠n:=by rintro rfl;exact h v List.mem_cons_self
     simp[this]
   · rfl
theorem rj{kindOf:Str->Option NameKind}{x:Str}:∀{binds:List (Str×Value)} {m:Str->Option Value},(∀v,(x,v)∉binds)->bindC kindOf binds m x=m x
 | [],_,_=>rfl
 | (n,v)::r,m,h=>by
   unfold bindC
   rw[rj fun w hw=>h w (List.mem_cons_of_mem _ hw)]
   split
   · rfl
   · have:x≠n:=by rintro rfl;exact h v List.mem_cons_self
     simp[this]
theorem rh{kindOf:Str->Option NameKind}{x:Str}{v:Value}:∀{P:List Str} {vs:List Value} {i:Nat} {m:Str->Option Value},P.Nodup->P[i]?=some x->vs[i]?=some v->kindOf x=some .local→
  bindL kindOf (P.zip vs) m x=some v
 | [],_,_,_,_,h,_,_=>by simp at h
 |_::_,[],_,_,_,_,h,_=>by simp at h
 | p::P,w::vs,0,m,nd,h1,h2,hk=>by
   simp at h1 h2;subst h1;subst h2
   show bindL kindOf ((p,w)::P.zip vs) m p=_
   unfold bindL
   rw[su fun v hv=>(List.nodup_cons.mp nd).1 (List.of_mem_zip hv).1,if_pos hk]
   simp
 | p::P,w::vs,i+1,m,nd,h1,h2,hk=>by
   show bindL kindOf ((p,w)::P.zip vs) m x=_
   unfold bindL
   exact rh (i:=i) (List.nodup_cons.mp nd).2 (by simpa using h1) (by simpa using h2) hk
theorem rf{kindOf:Str->Option NameKind}{x:Str}{v:Value}:∀{P:List Str} {vs:List Value} {i:Nat} {m:Str->Option Value},P.Nodup->P[i]?=some x->vs[i]?=some v->kindOf x≠some .local→
  bindC kindOf (P.zip vs) m x=some v
 | [],_,_,_,_,h,_,_=>by simp at h
 |_::_,[],_,_,_,_,h,_=>by simp at h
 | p::P,w::vs,0,m,nd,h1,h2,hk=>by
   simp at h1 h2;subst h1;subst h2
   show bindC kindOf ((p,w)::P.zip vs) m p=_
   unfold bindC
   rw[rj fun v hv=>(List.nodup_cons.mp nd).1 (List.of_mem_zip hv).1,if_neg hk]
   simp
 | p::P,w::vs,i+1,m,nd,h1,h2,hk=>by
   show bindC kindOf ((p,w)::P.zip vs) m x=_
   unfold bindC
   exact rf (i:=i) (List.nodup_cons.mp nd).2 (by simpa using h1) (by simpa using h2) hk
def start(N:List Str)(vs:List V):St:=vs.map some++List.replicate (N.length-vs.length) none
def wA(CX:zF)(P:Program)(w:World)(K:PySem.W.Frag)(mg:Str->Option Value)(base:Heap)(N:List Str)(qual:Str)(scope:Scope)(f:Addr)(cd:Value)(A:Around)(outer:List Env)(s:Shared)(H:Hp)(E:XK):Cx where
 prog:=P
 w:=w
 K:=K
 mg:=mg
 base:=base
 A:=A.deeper (envOfC qual scope s.heap.objs.size f cd)
 N:=N
 s₀:=s
 H₀:=H
 env:=envOfC qual scope s.heap.objs.size f cd
 outer:=outer
 stack:=envOfC qual scope s.heap.objs.size f cd::outer
 ex:= []
 calm:=true
 fn:=fun _=>true
 pn:= []
 xe:=fun e s'=>wpAny (model P w) (A.deeper (envOfC qual scope s.heap.objs.size f cd)) (leaving (envOfC qual scope s.heap.objs.size f cd) e) (fun _ s''=>CX outer H s E e s'') (fun e' s''=>CX outer H s E e' s'') s'
theorem va{sc:Scope}{n:Nat}{x:Str}(h:sc.names.lookup x=some .cell):∃c,(cellsFrom n sc.names []).lookup x=some c:=by
 have q:=PySem.W.cellsFrom_some sc.names n [] (.inl h)
 exact Option.isSome_iff_exists.mp q
theorem zf{CX:zF}{P:Program}{w:World}{K:PySem.W.Frag}{mg:Str->Option Value}{base:Heap}{N ps:List Str}{qual:Str}{scope:Scope}{f:Addr}{cd:Value}{A:Around}{outer:List Env}{s s1:Shared}{H:Hp}{E:XK}{us:List Value}{vs:List V}
  (S:aB N ps scope) (hd:A.handled=none) (e0:B9 P w K mg base A outer s H) (hl:vs.length=ps.length) (r:bt vs us)
  (x:InCallC s s.heap.objs.size (bindL (envOfC qual scope s.heap.objs.size f cd).kindOf (ps.zip us) fun _=>none) (cellsFrom (s.heap.objs.size+1) scope.names []) (bindC (envOfC qual scope s.heap.objs.size f cd).kindOf (ps.zip us) fun _=>none) s1):
  Inv (wA CX P w K mg base N qual scope f cd A outer s H E) [] (start N vs) H s1:=by
 have hpl:ps.length<=N.length:=by have:=congrArg List.length S.pre;rw[List.length_take] at this;omega
 obtain⟨h1,tk,rfl,hk⟩:=x.done
 have noA:∀b:Addr,b∉(wA CX P w K mg base N qual scope f cd A outer s H E).ex:=fun b z=>absurd (show b∈([]:List Addr) from z) (by simp)
 refine⟨⟨e0.mod,S.kind,rfl,rfl,Nat.le_refl _,fun y z c h1 h2=> ?_,fun y hy=> ?_,fun y c _ h=> ?_,fun _=>hd,Around.frames_deeper e0.frames,.inr ⟨rfl,rfl⟩,fun b z=>absurd z (noA b),e0.bs,e0.bsz,fun b _ _=>noA b,fun b z=>absurd z (noA b),e0.funs,e0.frf⟩,
  rfl,e0.bare,Un.kept hk,⟨_,x.toInCall.ns,fun i y v h1 h2 h3=> ?_⟩,fun y c h=>⟨_,x.cell y c h⟩,e0.hok.fresh (Nat.le_refl _),fun y c h=> ?_,fun p hp=>absurd (show p∈([]:List (Addr×Obj)) from hp) (by simp),e0.hok.kept hk,?_⟩
 ·exact name_of_addr x.apart (PySem.mem_of_lookup h1) (PySem.mem_of_lookup h2)
 ·have hy:scope.names.lookup y=some .cell\/scope.names.lookup y=some .free:=hy
  rcases hy with hy|hy
  ·exact va hy
  ·exact absurd rfl (S.nofree _ (PySem.mem_of_lookup hy))
 ·exact nQl (x.above y c (PySem.mem_of_lookup h))
 ·have hi:i<vs.length:=by
   unfold start at h2
   by_cases hi:i<vs.length
   ·exact hi
   ·rw[List.getElem?_append_right (by simpa using hi)] at h2
    rw[List.getElem?_replicate] at h2
    split at h2 <;>cases h2
  have ha:vs[i]?=some v:=by
   unfold start at h2
   rw[List.getElem?_append_left (by simpa using hi),gQm] at h2
   cases e:vs[i]? with
   |none=>rw[e] at h2;cases h2
   |some a=>rw[e] at h2;cases h2;rfl
  obtain⟨u,hu,rv⟩:=r.get ha
  have hp:ps[i]?=some y:=by
   rw[←S.pre,List.getElem?_take_of_lt (by omega)];exact h1
  have ndP:ps.Nodup:=by rw[←S.pre];exact S.nd.sublist (List.take_sublist _ _)
  refine⟨u,rv,?_⟩
  rcases S.par y (mQg hp) with k|k
  ·exact .inl ⟨k,rh ndP hp hu k⟩
  ·obtain⟨c,e⟩:=va (n:=s.heap.objs.size+1) k
   refine .inr ⟨.inl k,c,e,?_⟩
   have q:=x.cell y c e
   rw[rf ndP hp hu (by show scope.names.lookup y≠_;rw[k];decide)] at q
   exact q
 ·exact e0.hok.fresh (nQl (x.above y c (PySem.mem_of_lookup h)))
 ·unfold start
  show _=N.length
  rw[lQa,lQm,List.length_replicate]
  omega
theorem Fu{CX:zF}{P:Program}{w:World}{K:PySem.W.Frag}{mg:Str->Option Value}{base:Heap}{k:Nat}{f:Addr}{name qual:Str}{params:Arguments}{body:List Stmt}{scope:Scope}{dV kV doc pm cdv ct oc:Value}{an od:Option Addr}
  {osl:Array (Option Value)} {N ps:List Str} {sp:Sp} (lk:K.lookup f=some ⟨oc,od,.func (PySem.W.fnOf name qual params body scope dV kV doc pm an cdv ct),osl⟩) (hcd:PySem.W.codeIn K cdv qual=true) (S:aB N ps scope)
  (len:∀vs H Q E,sp vs H Q E->vs.length=ps.length)
  (hbody:∀(A:Around) (outer:List Env) (s:Shared) (H:Hp) (vs:List V) (Q:VK) (E:XK),eL k (A.deeper (envOfC qual scope s.heap.objs.size f cdv))->sp vs H Q E→
   ∃t,oB (wA CX P w K mg base N qual scope f cdv A outer s H E) body t/\t {nx:=fun _ H'=>Q .non H',rt:=Q} (start N vs) H):
  bh P w K mg base CX (k+1) f (PySem.W.fnOf name qual params body scope dV kV doc pm an cdv ct) ps sp:=by
 refine⟨len,fun A outer s H args us vs Q E hr e0 hb r hsp=> ?_⟩
 have hl:=len _ _ _ _ hsp
 have KX:K.In s.heap:=e0.mod.kin.keeps fun b o e=>(e0.bs b o e).1
 have lim:s.heap.NoLimit:=e0.mod.nolimit.keeps fun b o e=>(e0.bs b o e).1
 have hkind:∀y∈ps.zip us,scope.names.lookup y.1=some .local\/(scope.names.lookup y.1=some .cell/\((cellsFrom (s.heap.objs.size+1) scope.names []).lookup y.1).isSome=true):=fun⟨n,v⟩ hy=>by
  rcases S.par n (List.of_mem_zip hy).1 with q|q
  ·exact .inl q
  ·exact .inr ⟨q,PySem.W.cellsFrom_some _ _ _ (.inl q)⟩
 refine codeAny_call_function hr.depth (KX _ _ lk) rfl S.co S.gen rfl (PySem.W.codeRec_of KX hcd) (hb _ _ _ _ ?_)
 refine wpAny_newFunctionEnv_cells S.kind hkind fun env he s1 x=> ?_
 subst he
 refine⟨lim.keeps x.toInCall.keep,codeAny_func ?_⟩
 obtain⟨t,ht,hq⟩:=hbody A outer s H vs Q E (hr.deeper _) hsp
 have I:Inv (wA CX P w K mg base N qual scope f cdv A outer s H E) [] (start N vs) H s1:=zf S hr.hd e0 hl r x
 refine wpAny_mono (ht [] s1 (start N vs) H _ I hq) (fun fl s' hs=> ?_) fun e s' hs=>hs
 have fin:∀{σ':St} {H':Hp} {v:V} {u:Value},Inv (wA CX P w K mg base N qual scope f cdv A outer s H E) [] σ' H' s'->RelV v u->Q v H'->CE outer P w H s Q u s':=
  fun{σ' H' v u} J rv q=>⟨v,H',J.os,J.bare,J.base,J.hok,rv,q⟩
 cases fl with
 | ret u=>
   obtain⟨v,σ',H',J,rv,q⟩:=hs
   exact fin J rv q
 | next=>
   obtain⟨σ',H',J,q⟩:=hs
   exact fin (v:=V.non) (u:=Value.none) J rfl q
 | brk=>
   obtain⟨_,_,_,q⟩:=hs
   exact False.elim q
 | cont=>
   obtain⟨_,_,_,q⟩:=hs
   exact False.elim q
section
variable{X:Cx}{x:Str}{p pos:Pos}{e:Expr}{es:List Expr}{t:TA}{id T:String}{r:List V->Hp->VK->Prop}
def Gy(r:List V->Hp->VK->Prop)(t:TA):TE:=fun σ H Q=>t σ H fun vs H1=>r vs H1 Q
theorem dH(hc:i0 X (.builtin id) r)(hg:Gl X x)(hm:X.mg x=none)(hv:bootBuiltins x=some (.builtin id))(ha:PA X (e::es) t)(hn:x≠"__name__":=by decide)(hdb:(x==("__debug__":Str))=false:=by decide)
  (he:starEach (e::es) X.env=(false,eval e X.env)::starEach es X.env:=by rfl) (hpl:(backTo pos (starEach es X.env)).any (·.1)=false:=by rfl):PE X (.Call (.Name x p) (e::es) [] pos) (Gy r t):=by
 intro pins s σ H Q I h
 refine wpAny_Call_Name_kw (kO I hg hm hv ?_ hn hdb)
 exact PyProof.Rows.callWith_builtin1 (cz (ha pos pins s σ H _ I h) fun us s1 ⟨vs,H1,I1,r1,q1⟩=>hc pins s1 σ H1 vs us Q I1 r1 q1) he hpl
theorem eW(hc:i0 X (.type T) r)(hg:Gl X x)(hm:X.mg x=none)(hv:bootBuiltins x=some (.type T))(ha:PA X (e::es) t)(hn:x≠"__name__":=by decide)(hdb:(x==("__debug__":Str))=false:=by decide)
  (he:starEach (e::es) X.env=(false,eval e X.env)::starEach es X.env:=by rfl) (hpl:(backTo pos (starEach es X.env)).any (·.1)=false:=by rfl):PE X (.Call (.Name x p) (e::es) [] pos) (Gy r t):=by
 intro pins s σ H Q I h
 refine wpAny_Call_Name_kw (kO I hg hm hv ?_ hn hdb)
 exact PyProof.Rows.callWith_type1 (cz (ha pos pins s σ H _ I h) fun us s1 ⟨vs,H1,I1,r1,q1⟩=>hc pins s1 σ H1 vs us Q I1 r1 q1) he hpl
end
section
variable{κ:Type}[DecidableEq κ]
def mX(kvs:List (κ×V))(k:κ):Option V:=(kvs.find? fun kv=>decide (kv.1=k)).map (·.2)
def putK(kvs:List (κ×V))(k:κ)(v:V):List (κ×V):=
 if (kvs.any fun kv=>decide (kv.1=k))=true then kvs.map (fun kv=>if kv.1=k then(kv.1,v) else kv) else kvs++ [(k,v)]
theorem qB{p:κ×V}{r:List (κ×V)}{k:κ}(e:p.1=k):mX (p::r) k=some p.2:=by simp[mX,List.find?_cons,e]
theorem qg{p:κ×V}{r:List (κ×V)}{k:κ}(e:¬p.1=k):mX (p::r) k=mX r k:=by simp[mX,List.find?_cons,e]
theorem u9(k:κ):∀kvs:List (κ×V),(kvs.any fun kv=>decide (kv.1=k))=(mX kvs k).isSome
 | []=>rfl
 | p::r=>by
   rw[List.any_cons]
   by_cases e:p.1=k
   · simp only[qB e,decide_eq_true e,Bool.true_or,Option.isSome_some]
   · rw[qg e,decide_eq_false e,Bool.false_or];exact u9 k r
theorem gF(kvs:List (κ×V))(k:κ)(v:V):(putK kvs k v).length<=kvs.length+1:=by
 unfold putK
 split
 ·rw[lQm];omega
 ·rw[lQa,List.length_cons,List.length_nil];omega
theorem oX.isSome_eq{o:Option V}{u:Option Value}(r:oX o u):o.isSome=u.isSome:=by
 cases o with
 | none=>cases u with
   |none=>rfl
   |some _=>exact(show False from r).elim
 | some _=>cases u with
   |none=>exact(show False from r).elim
   |some _=>rfl
theorem KV.val{kvs:List (κ×V)}{vs:List (κ×Value)}(r:KV kvs vs)(k:κ):oX (mX kvs k) (valueAt vs k):=by
 unfold KV at r
 induction r with
 |nil=>exact True.intro
 | @cons p q ps qs h t ih=>
   obtain⟨h1,h2⟩:=h
   by_cases e:p.1=k
   · have e':q.1=k:=h1.symm.trans e
     have b:valueAt (q::qs) k=some q.2:=by simp[valueAt,List.find?_cons,e']
     rw[qB e,b];exact h2
   · have e':¬q.1=k:=fun z=>e (h1.trans z)
     have b:valueAt (q::qs) k=valueAt qs k:=by simp[valueAt,List.find?_cons,e']
     rw[qg e,b];exact ih
theorem KV.any{kvs:List (κ×V)}{vs:List (κ×Value)}(r:KV kvs vs)(k:κ):(kvs.any fun kv=>decide (kv.1=k))=vs.any fun kv=>decide (kv.1=k):=by
 unfold KV at r
 induction r with
 |nil=>rfl
 |cons h t ih=>rw[List.any_cons,List.any_cons,ih,h.1]
theorem KV.repl{kvs:List (κ×V)}{vs:List (κ×Value)}(r:KV kvs vs)(k:κ){y:V}{u:Value}(ry:RelV y u):
  KV (kvs.map fun kv=>if kv.1=k then(kv.1,y) else kv) (vs.map fun kv=>if kv.1=k then(kv.1,u) else kv):=by
 unfold KV at r⊢
 induction r with
 |nil=>exact .nil
 | @cons p q ps qs h t ih=>
   rw[List.map_cons,List.map_cons]
   refine .cons ?_ ih
   obtain⟨h1,h2⟩:=h
   by_cases e:p.1=k
   · rw[if_pos e,if_pos (h1.symm.trans e)];exact⟨h1,ry⟩
   · rw[if_neg e,if_neg (fun z=>e (h1.trans z))];exact⟨h1,h2⟩
theorem KV.put{kvs:List (κ×V)}{vs:List (κ×Value)}(r:KV kvs vs)(k:κ){y:V}{u:Value}(ry:RelV y u):KV (putK kvs k y) (stored vs k u):=by
 unfold putK stored
 rw[r.any k]
 by_cases e:(vs.any fun kv=>decide (kv.1=k))=true
 ·rw[if_pos e,if_pos e];exact r.repl k ry
 ·rw[if_neg e,if_neg e];exact Paired.snoc r ⟨rfl,ry⟩
theorem KV.length{kvs:List (κ×V)}{vs:List (κ×Value)}(r:KV kvs vs):kvs.length=vs.length:=Paired.length r
end
theorem vC{P:Program}{w:World}{k:Key}{u:Value}(r:RelV (kV k) u):(bF P w).is k u=true:=by
 cases k with
 |inl i=>obtain⟨t,e⟩:=(show∃t,u=Value.int i t from r);subst e;exact vH P w i t
 |inr x=>obtain⟨t,e⟩:=(show∃t,u=Value.str x t from r);subst e;exact u6 P w x t
theorem rS{P:Program}{w:World}:∀{ks:List Key} {us:List Value},bt (ks.map kV) us->ItemsAre (bF P w) ks us
 | [],_,r=>by rw[List.map_nil] at r;cases r;exact .nil
 | k::ks,_,r=>by
   rw[List.map_cons] at r
   cases r with
   |cons h t=>exact .cons (vC h) (rS t)
abbrev KT(H:Hp):List (List Key×V)->List (List Key×Addr×Value)->Prop:=Paired fun p q=>p.1=q.1/\H q.2.1=some (.tup (p.1.map kV))/\RelV p.2 q.2.2
theorem KT.val{H:Hp}{kvs:List (List Key×V)}{xs:List (List Key×Addr×Value)}(r:KT H kvs xs)(k:List Key):oX (mX kvs k) ((atKey xs k).map (·.2)):=by
 induction r with
 |nil=>exact True.intro
 | @cons p q ps qs h t ih=>
   obtain⟨h1,_,h2⟩:=h
   by_cases e:p.1=k
   · have e':q.1=k:=h1.symm.trans e
     have b:atKey (q::qs) k=some q.2:=by simp[atKey,List.find?_cons,e']
     rw[qB e,b];exact h2
   · have e':¬q.1=k:=fun z=>e (h1.trans z)
     have b:atKey (q::qs) k=atKey qs k:=by simp[atKey,List.find?_cons,e']
     rw[qg e,b];exact ih
theorem KT.repl{H:Hp}{kvs:List (List Key×V)}{xs:List (List Key×Addr×Value)}(r:KT H kvs xs)(k:List Key){y:V}{u:Value}(ry:RelV y u):
  KT H (kvs.map fun kv=>if kv.1=k then(kv.1,y) else kv) (xs.map (putAt k u)):=by
 induction r with
 |nil=>exact .nil
 | @cons p q ps qs h t ih=>
   rw[List.map_cons,List.map_cons]
   refine .cons ?_ ih
   obtain⟨h1,h2,h3⟩:=h
   unfold putAt
   by_cases e:p.1=k
   · rw[if_pos e,if_pos (h1.symm.trans e)];exact⟨h1,h2,ry⟩
   · rw[if_neg e,if_neg (fun z=>e (h1.trans z))];exact⟨h1,h2,h3⟩
theorem KT.put{H:Hp}{kvs:List (List Key×V)}{xs:List (List Key×Addr×Value)}(r:KT H kvs xs)(k:List Key){b:Addr}{y:V}{u:Value}(hb:H b=some (.tup (k.map kV)))(ry:RelV y u):
  KT H (putK kvs k y) (storedH xs k b u):=by
 have e:(kvs.any fun kv=>decide (kv.1=k))=(atKey xs k).isSome:=by
  rw[u9,(r.val k).isSome_eq,Option.isSome_map]
 unfold putK storedH
 rw[e]
 by_cases q:(atKey xs k).isSome=true
 ·rw[if_pos q,if_pos q];exact r.repl k ry
 ·rw[if_neg q,if_neg q];exact Paired.snoc r ⟨rfl,hb,ry⟩
theorem KT.keeps{H H':Hp}{kvs:List (List Key×V)}{xs:List (List Key×Addr×Value)}(r:KT H kvs xs)(ht:∀b ys,H b=some (.tup ys)->H' b=some (.tup ys)):KT H' kvs xs:=
 Paired.mapP r fun _ _ z=>⟨z.1,ht _ _ z.2.1,z.2.2⟩
section
variable{P:Program}{w:World}{H:Hp}{h:Heap}{a:Addr}
theorem Di{u:HO}(ok:kU P w H h)(e:Rd H a u):cG P w H h a u:=e.ok ok
theorem Ax{kvs:List (Key×V)}(ok:kU P w H h)(e:Rd H a (.dK kvs)):kvs.length<=sizeLine/\(a==sysModules)=false/\∃vs,KV kvs vs/\h.DictOf (bF P w) a vs:=
 show cG P w H h a (.dK kvs) from Di ok e
theorem xU{kvs:List (Key×V)}(ok:kU P w H h)(e:H a=some (.dK kvs)):kvs.length<=sizeLine/\(a==sysModules)=false/\∃vs,KV kvs vs/\h.DictOf (bF P w) a vs:=Ax ok (.inl e)
theorem wK{ks:List Key}(ok:kU P w H h)(e:H a=some (.tup (ks.map kV))):(tupleKind (bF P w)).is h ks a:=by
 obtain⟨_,its,r,o,h1,h2,_,n,h3⟩:=(show cG P w H h a (.tup (ks.map kV)) from ok a _ e)
 exact⟨o,its.toArray,n,h1,h2,h3,by simpa using rS r⟩
theorem BB{kvs:List (List Key×V)}(ok:kU P w H h)(e:Rd H a (.dT kvs)):kvs.length<=sizeLine/\(a==sysModules)=false∧
  ∃xs,KT H kvs xs/\h.DictOfH (tupleKind (bF P w)) a xs:=by
 obtain⟨z,y,xs,r,o,es,ep,h1,h2,h3,h4,h5⟩:=(show cG P w H h a (.dT kvs) from Di ok e)
 refine⟨z,y,xs,r,o,es,ep,h1,h2,h3,h4,fun x hx=> ?_,h5⟩
 have all:∀{l:List (List Key×V)} {m:List (List Key×Addr×Value)},KT H l m->∀x∈m,(tupleKind (bF P w)).is h x.1 x.2.1:=by
  intro l m q
  induction q with
  |nil=>intro x hx;exact nomatch hx
  | @cons p q ps qs hq t ih=>
    intro x hx
    rcases List.mem_cons.mp hx with e|hx
    · subst e
      exact wK ok (by rw[←hq.1];exact hq.2.1)
    · exact ih x hx
 exact all r x hx
theorem Gi{kvs:List (List Key×V)}(ok:kU P w H h)(e:H a=some (.dT kvs)):kvs.length<=sizeLine/\(a==sysModules)=false∧
  ∃xs,KT H kvs xs/\h.DictOfH (tupleKind (bF P w)) a xs:=BB ok (.inl e)
end
def y4(H:Hp)(a:Addr)(y:V)(r:Option V):Prop:=
 (∃kvs k,Rd H a (.dK kvs)/\y=kV k/\r=mX kvs k)\/∃kvs k b,Rd H a (.dT kvs)/\y=.ref b/\H b=some (.tup (k.map kV))/\r=mX kvs k
def Ac(H:Hp)(a:Addr)(y v:V)(H':Hp):Prop:=
 (∃kvs k,H a=some (.dK kvs)/\y=kV k/\kvs.length<sizeLine/\H'=upd H a (.dK (putK kvs k v)))∨
 ∃kvs k b,H a=some (.dT kvs)/\y=.ref b/\H b=some (.tup (k.map kV))/\kvs.length<sizeLine/\H'=upd H a (.dT (putK kvs k v))
theorem y4.k{H:Hp}{a:Addr}{kvs:List (Key×V)}{k:Key}(e:H a=some (.dK kvs)):y4 H a (kV k) (mX kvs k):=.inl ⟨kvs,k,.inl e,rfl,rfl⟩
theorem Ac.k{H:Hp}{a:Addr}{kvs:List (Key×V)}{k:Key}{v:V}(e:H a=some (.dK kvs))(hl:kvs.length<sizeLine):Ac H a (kV k) v (upd H a (.dK (putK kvs k v))):=.inl ⟨kvs,k,e,rfl,hl,rfl⟩
section
variable{X:Cx}{pins:List (Addr×Obj)}{σ:St}{H:Hp}{s:Shared}{a:Addr}{y v:V}{u r:Value}{o:Option V}{A:Around}{E:Value->Shared->Prop}
theorem Inv.big(I:Inv X pins σ H s):sysModules<s.heap.objs.size:=by
 have h:mainGlobals<s.heap.objs.size:=(I.mod.glob.keeps I.bk).lt
 exact Nat.lt_trans (by decide) h
theorem zw{Q:Value->Shared->Prop}(hu:A.units+1<cLine)(I:Inv X pins σ H s)(g:y4 H a y (some v))(ry:RelV y u)(h:∀w' s',Inv X pins σ H s'->RelV v w'->Q w' s'):
  wpAny (model X.prog X.w) A (getItem (.ref a) u) Q E s:=by
 rcases g with⟨kvs,k,e,ey,l⟩|⟨kvs,k,b,e,ey,eb,l⟩
 ·subst ey
  obtain⟨z,hd,vs,rel,dd⟩:=Ax I.hok e
  obtain⟨w',hw,rw'⟩:=oX.some_of (v:=v) (o:=valueAt vs k) (by rw[l];exact rel.val k)
  exact wpAny_getItem_of (vC ry) dd.mapOf hw (h w' _ (I.tok _) rw')
 ·subst ey
  cases (show u=Value.ref b from ry)
  obtain⟨z,hd,xs,rel,dd⟩:=BB I.hok e
  obtain⟨w',hw,rw'⟩:=oX.some_of (v:=v) (o:=(atKey xs k).map (·.2)) (by rw[l];exact rel.val k)
  obtain⟨p,hp,hp2⟩:=oQm.mp hw
  refine wpAny_getItem_heap (tupleKind_room_in1 hu) (wK I.hok eb) dd hp ?_
  rw[hp2]
  exact h w' _ (I.tok _) rw'
theorem oI{h':Heap}{t':Nat}{ob:HO}(I:Inv X pins σ H s)(mu:Fj (H a))(hs:Heap.SameBut a s.heap h')(he:∃q,h'.get? a=some q)(new:cG X.prog X.w (upd H a ob) h' a ob):
  Inv X pins σ (upd H a ob) {s with heap:=h',toks:=t'}:=
 I.write (x:=a) (e:=a) mu (.inl rfl) (fun b q hb z=>(hs.2 b hb).trans z) he new
theorem pD{P:Program}{w:World}{H':Hp}{h':Heap}{kvs:List (Key×V)}{vs:List (Key×Value)}(z:kvs.length<=sizeLine)(hd:(a==sysModules)=false)(rel:KV kvs vs)(dd:h'.DictOf (bF P w) a vs):
  cG P w H' h' a (.dK kvs):=⟨z,hd,vs,rel,dd⟩
theorem zi{H':Hp}{Q:Unit->Shared->Prop}(hu:A.units+1<cLine)(I:Inv X pins σ H s)(g:Ac H a y v H')(ry:RelV y u)(rv:RelV v r)(h:∀s',Inv X pins σ H' s'->Q () s'):
  wpAny (model X.prog X.w) A (setItem (.ref a) u r) Q E s:=by
 rcases g with⟨kvs,k,e,ey,l,eH⟩|⟨kvs,k,b,e,ey,eb,l,eH⟩
 ·subst ey eH
  obtain⟨z,hd,vs,rel,dd⟩:=xU I.hok e
  have hz:vs.length<=sizeLine:=by rw[←rel.length];exact z
  have hl:(putK kvs k v).length<=sizeLine:=by have:=gF kvs k v;omega
  refine wpAny_setItem_pairs (hsz:=hz) (vC ry) dd fun h' dd' hs=>h _ ?_
  have he:∃q,h'.get? a=some q:=let ⟨q,_,_,hq,_⟩:=dd';⟨q,hq⟩
  exact oI I (by rw[e];exact True.intro) hs he (pD hl hd (rel.put k rv) dd')
 ·subst ey eH
  cases (show u=Value.ref b from ry)
  obtain⟨z,hd,xs,rel,dd⟩:=Gi I.hok e
  have hz:xs.length<=sizeLine:=by rw[←Paired.length rel];exact z
  have hl:(putK kvs k v).length<=sizeLine:=by have:=gF kvs k v;omega
  refine wpAny_setItem_heap (hsz:=hz) (tupleKind_room_in1 hu) (wK I.hok eb) dd fun h' dd' hs=>h _ ?_
  obtain⟨q,es,ep,hq,h2,h3,h4,_,h5⟩:=dd'
  refine oI I (by rw[e];exact True.intro) hs ⟨q,hq⟩ ⟨hl,hd,_,(rel.put k eb rv).keeps fun c ys ec=> ?_,q,es,ep,hq,h2,h3,h4,h5⟩
  rw[a_ (Ai ec e (fun z=>nomatch z))]
  exact ec
end
def Cq(i:Expr):Prop:=∀ov iv,subscripted i false ov iv=operate [ov,iv] (getItem ov iv)
theorem xO{prog:Program}{w:World}{A:Around}{E:Value->Shared->Prop}{s:Shared}{env:Env}{value slice:Expr}{pos:Pos}{T id:String}{Q:Value->Shared->Prop}
  (hl:typeLookup (.type T) "__getitem__"=pure (some (.builtin id))) (hs:Cq slice)
  (h:wpAny (model prog w) A (eval value env) (fun o s₁=>wpAny (model prog w) A (eval slice env) (fun i s₂=>s₂.TypeIs o T/\wpAny (model prog w) A (getItem o i) Q E s₂) E s₁) E s):
  wpAny (model prog w) A (eval (.Subscript value slice pos) env) Q E s:=by
 refine Subscript_ (wpAny_mono h (fun o s₁ h₁=>wpAny_mono h₁ (fun i s₂ h₂=> ?_) fun _ _ x=>x) fun _ _ x=>x)
 obtain⟨hT,h₂⟩:=h₂
 unfold subscriptTail
 refine wpAny_bind ?_
 rw[getitemInPython_of_ne hT.not_modules]
 refine wpAny_bind (wpAny_specialOf hT hl ?_)
 have fin:wpAny (model prog w) A (subscripted slice false o i) (fun r s₃=>wpAny (model prog w) A (letTemporaryGo value o r >>= fun _=>pure r) Q E s₃) E s₂:=by
  rw[hs o i]
  exact wpAny_operating (wpAny_mono h₂ (fun r s₃ h₃=>wpAny_bind (wpAny_letTemporaryGo (wpAny_pure h₃))) fun _ _ x=>x)
 first
  |exact wpAny_pure (wpAny_bind fin)
  |exact wpAny_bind (wpAny_pure (wpAny_bind fin))
  |exact wpAny_bind fin
theorem vZ{X:Cx}{pins:List (Addr×Obj)}{σ:St}{H:Hp}{s:Shared}{a:Addr}{y:V}{o:Option V}(I:Inv X pins σ H s)(g:y4 H a y o):s.TypeIs (.ref a) "dict":=by
 rcases g with⟨kvs,k,e,_,_⟩|⟨kvs,k,b,e,_,_,_⟩
 ·obtain⟨_,_,vs,_,dd⟩:=Ax I.hok e
  exact dd.typeIs
 ·obtain⟨_,_,xs,_,dd⟩:=BB I.hok e
  exact dd.typeIs
def Fy(td ty:TE):TE:=fun σ H Q=>td σ H fun x H1=>ty σ H1 fun y H2=>∃a v,x=.ref a/\y4 H2 a y (some v)/\Q v H2
def F3(td ty tv:TE):TS:=fun D σ H=>tv σ H fun v H1=>td σ H1 fun x H2=>ty σ H2 fun y H3=>∃a H4,x=.ref a/\Ac H3 a y v H4/\D.nx σ H4
section
variable{X:Cx}{o i e value:Expr}{pos pos' tpos:Pos}{td ty tv:TE}
theorem B7(hu:X.A.units+1<cLine)(ho:PE X o td)(hi:PE X i ty)(hs:Cq i):PE X (.Subscript o i pos) (Fy td ty):=by
 intro pins s σ H Q I h
 refine xO PySem.F.slot_dict_getitem.lookup hs (cz (ho pins s σ H _ I h) fun u s1 ⟨x,H1,I1,rx,q1⟩=>cz (hi pins s1 σ H1 _ I1 q1) fun iv s2 qr=> ?_)
 obtain⟨y,H2,I2,ry,a,v,ex,g,q2⟩:=qr
 subst ex
 obtain rfl:u=Value.ref a:=rx
 exact⟨vZ I2 g,zw hu I2 g ry fun w' s3 I3 rw'=>⟨v,H2,I3,rw',q2⟩⟩
theorem BQ(hu:X.A.units+1<cLine)(ho:PE X o td)(hi:PE X i ty)(hv:PE X value tv)(hs:swapsWith value (some (.Subscript o i pos')) pos.line X.env=pure false):
  PS X (.Assign [.Subscript o i pos'] value pos) (F3 td ty tv):=by
 intro pins s σ H D I h
 refine wpAny_Assign_Subscript (cz (hv pins s σ H _ I h) fun r s1 ⟨v,H1,I1,rv,q1⟩=>cz (ho pins s1 σ H1 _ I1 q1) fun u s2 ⟨x,H2,I2,rx,q2⟩=>cz (hi pins s2 σ H2 _ I2 q2) fun iv s3 ⟨y,H3,I3,ry,a,H4,ex,g,q3⟩=> ?_) hs
 subst ex
 obtain rfl:u=Value.ref a:=rx
 exact zi hu I3 g ry rv fun s4 I4=>⟨σ,H4,I4,q3⟩
end
theorem zV{P:Program}{w:World}{H:Hp}(h:Heap)(hb:sysModules<h.objs.size):cG P w H (h.push {cls:=.type "dict",data:=.dict #[]}) h.objs.size (.dK []):=
 ⟨Nat.zero_le _,beq_eq_false_iff_ne.mpr (Ne.symm (Nat.ne_of_lt hb)),[],.nil,Heap.DictOf.new h⟩
def EV:TE:=fun _ H Q=>∀p,H p=none->Q (.ref p) (upd H p (.dK []))
section
variable{X:Cx}{pos:Pos}
theorem Ao:PE X (.Dict [] [] pos) EV:=fun pins s σ H Q I h=>
 wpAny_Dict_empty ⟨.ref s.heap.objs.size,_,I.laid (a:=s.heap.objs.size) (o:=.dK []) (t':=s.toks) (fun _ _ q=>Heap.get?_push_of_some _ q) (Nat.le_refl _) (zV s.heap I.big),rfl,h _ (I.hok.fresh (Nat.le_refl _))⟩
end
def iX(kvs more:List (Key×V)):List (Key×V):=more.foldl (fun acc kv=>putK acc kv.1 kv.2) kvs
theorem KV.merge:∀{more:List (Key×V)} {rs:List (Key×Value)} {kvs:List (Key×V)} {vs:List (Key×Value)},KV more rs->KV kvs vs->KV (iX kvs more) (merged vs rs):=by
 intro more rs kvs vs r
 unfold KV at r
 induction r generalizing kvs vs with
 |nil=>intro q;exact q
 | @cons p q ps qs h t ih=>
   intro r0
   have e:KV (putK kvs p.1 p.2) (stored vs q.1 q.2):=by
     have:=r0.put p.1 h.2
     rw[←h.1];exact this
   exact ih e
theorem gW:∀(more kvs:List (Key×V)),(iX kvs more).length<=kvs.length+more.length
 | [],kvs=>by show kvs.length<=kvs.length+0;omega
 | p::r,kvs=>by
   have h1:=gW r (putK kvs p.1 p.2)
   have h2:=gF kvs p.1 p.2
   show(iX (putK kvs p.1 p.2) r).length<=_
   rw[List.length_cons];omega
end L2
namespace HT
open PySem PyProof.Rows
section
open PySem.SeqAt
open PySem.AutoSeq1 (wpAny_loadPart')
open PySem.MeetsSeq PySem.MeetsSeq2 PySem.MeetsSeq3
end
section
variable{prog:Program}{w:World}{A:Around}{E:Value->Shared->Prop}{s:Shared}
theorem CC{t b:Addr}{vs ws:List Value}{Q:Value->Shared->Prop}(ht:IsTup s.heap t vs.toArray)(hb:IsTup s.heap b ws.toArray)(hv:vs≠[])
  (h1:ws= []->Q (.ref t) s) (h2:ws≠[]->Q (.ref s.heap.objs.size) {s with heap:=s.heap.push {cls:=.type "tuple",data:=.seq (vs++ws).toArray}})
  (hsz:vs.length+ws.length<=sizeLine):wpAny (model prog w) A (binaryOp .Add (.ref t) (.ref b)) Q E s:=by
 obtain⟨⟨cls,dd,data,sl⟩,ho,hc,n,hd⟩:=id ht
 obtain⟨⟨cls2,dd2,data2,sl2⟩,ho2,hc2,n2,hd2⟩:=id hb
 simp only at hc hd hc2 hd2
 subst hc hd hc2 hd2
 have e:vs.toArray++ws.toArray=(vs++ws).toArray:=by simp
 by_cases hw:ws= []
 ·exact concat_meets ⟨_,ho,rfl⟩ ⟨_,ho2,rfl⟩ noFill_tuple_add seq_tuple_add PySem.F.slot_tuple_add PySem.F.entry_tuple_add (PySem.F.args_tuple_add_2 _ _)
   (tuple_addW1 t b vs.toArray ws.toArray n n2 dd dd2 sl sl2 (by simpa using hv) (by simp[hw])) ⟨ho,ho2,h1 hw⟩
 ·refine concat_meets ⟨_,ho,rfl⟩ ⟨_,ho2,rfl⟩ noFill_tuple_add seq_tuple_add PySem.F.slot_tuple_add PySem.F.entry_tuple_add (PySem.F.args_tuple_add_2 _ _)
   (tuple_addW2 t b vs.toArray ws.toArray n n2 dd dd2 sl sl2 (by simpa using hv) (by simpa using hw) (by rw[List.size_toArray,List.size_toArray];exact hsz)) ⟨ho,ho2,?_⟩
  rw[e]
  exact h2 hw
def er(n d:Nat):Option Int->Nat
 |none=>d
 |some v=>if v<0 then(v+(n:Int)).toNat else min v.toNat n
theorem qj(n d:Nat):er n d none=d:=rfl
theorem xN(n d k:Nat):er n d (some (k:Int))=min k n:=by
 show(if (k:Int)<0 then((k:Int)+(n:Int)).toNat else min (k:Int).toNat n)=min k n
 rw[if_neg (by omega),Int.toNat_natCast]
theorem D6(n d:Nat)(hd:d<=n)(o:Option Int):er n d o<=n:=by
 cases o with
 |none=>exact hd
 | some v=>
   show(if v<0 then(v+(n:Int)).toNat else min v.toNat n)<=n
   by_cases hv:v<0
   · rw[if_pos hv];omega
   · rw[if_neg hv];exact Nat.min_le_right _ _
theorem yw(v:Int)(n d:Nat):(if v<0 then max (v+(n:Int)) 0 else min v (n:Int))=((er n d (some v):Nat):Int):=by
 show(if v<0 then max (v+(n:Int)) 0 else min v (n:Int))=(((if v<0 then(v+(n:Int)).toNat else min v.toNat n):Nat):Int)
 by_cases hv:v<0
 ·simp only[if_pos hv];omega
 ·simp only[if_neg hv];omega
theorem wu(lo hi:Option Int)(n:Nat):Builtin.Slice.sliceAdjust lo hi 1 (n:Int)=(((er n 0 lo:Nat):Int),((er n n hi:Nat):Int)):=by
 have h1:¬((1:Int)<0):=by omega
 unfold Builtin.Slice.sliceAdjust
 simp only[h1,if_false]
 refine Prod.ext ?_ ?_
 ·cases lo with
  |none=>rfl
  |some v=>exact yw v n 0
 ·cases hi with
  |none=>rfl
  |some v=>exact yw v n n
theorem xu(i j:Nat):Builtin.Slice.slicePlaces (i:Int) (j:Int) 1=j-i:=by
 unfold Builtin.Slice.slicePlaces
 have h1:(1:Int)>0:=by omega
 simp only[h1,if_true,Int.ediv_one]
 split <;>omega
theorem oY{v:Value}{o:Option Int}{Q:Option Int->Shared->Prop}(p:IsPart v o)(h:Q o s):wpAny (model prog w) A (Builtin.Slice.slicePartIndex v) Q E s:=by
 cases p with
 |none=>exact slicePart_none h
 |int i t=>exact slicePart_int h
theorem g9{sl:Addr}{vl vu:Value}{lo hi:Option Int}{n:Nat}{Q:Int×Int×Nat->Shared->Prop}(hs:s.heap.IsSliceOf sl vl vu .none)(pl:IsPart vl lo)(pu:IsPart vu hi)
  (h:Q (((er n 0 lo:Nat):Int),1,er n n hi-er n 0 lo) s):wpAny (model prog w) A (Builtin.Slice.sliceApplied (.ref sl) (pure (n:Int))) Q E s:=by
 obtain⟨os,hos,hcs,hds⟩:=id hs
 unfold Builtin.Slice.sliceApplied Builtin.Slice.sliceFields
 refine wpAny_bind (wpAny_bind (wpAny_field hos hds (x:=vl) rfl (wpAny_bind (wpAny_field hos hds (x:=vu) rfl (wpAny_bind (wpAny_field hos hds (x:=.none) rfl (wpAny_pure ?_)))))))
 refine wpAny_bind (slicePart_none ?_)
 show wpAny _ _ (if ((1:Int)==0)=true then _ else _) _ _ s
 rw[if_neg (by decide)]
 refine wpAny_bind (oY pl (wpAny_bind (oY pu (wpAny_bind (wpAny_pure ?_)))))
 show wpAny _ _ (match Builtin.Slice.sliceAdjust lo hi 1 (n:Int) with|(lo,hi)=>pure (lo,(1:Int),Builtin.Slice.slicePlaces lo hi 1)) _ _ s
 rw[wu lo hi n]
 show wpAny _ _ (pure (((er n 0 lo:Nat):Int),(1:Int),Builtin.Slice.slicePlaces ((er n 0 lo:Nat):Int) ((er n n hi:Nat):Int) 1)) _ _ s
 rw[xu]
 exact wpAny_pure h
theorem Ah(xs:Array Value)(i k:Nat):((List.range k).filterMap fun(m:Nat)=>xs[((i:Int)+(m:Int)*1).toNat]?).toArray=((xs.toList.drop i).take k).toArray:=by
 have e:(fun(m:Nat)=>xs[((i:Int)+(m:Int)*1).toNat]?)=fun m=>xs[i+m]? :=by
  funext m
  have:((i:Int)+(m:Int)*1).toNat=i+m:=by omega
  rw[this]
 rw[e]
 have:=pick_run xs i k
 rw[List.filterMap_map] at this
 have e2:((fun x=>xs[x]?)∘fun x=>i+x)=fun m=>xs[i+m]? :=rfl
 rw[e2] at this
 rw[this]
theorem k0{t sl:Addr}{items:Array Value}{vl vu:Value}{lo hi:Option Int}{Q:Value->Shared->Prop}(ht:IsTup s.heap t items)(hs:s.heap.IsSliceOf sl vl vu .none)(pl:IsPart vl lo)(pu:IsPart vu hi)
  (hw:¬(er items.size 0 lo=0/\er items.size items.size hi=items.size))
  (h:Q (.ref s.heap.objs.size) {s with heap:=s.heap.push {cls:=.type "tuple",data:=.seq ((items.toList.drop (er items.size 0 lo)).take (er items.size items.size hi-er items.size 0 lo)).toArray}})
  (hsz:items.size<=sizeLine):wpAny (model prog w) A (getItem (.ref t) (.ref sl)) Q E s:=by
 have htake:sizeOk (.seq ((items.toList.drop (er items.size 0 lo)).take (er items.size items.size hi-er items.size 0 lo)).toArray):=by
  show((items.toList.drop (er items.size 0 lo)).take (er items.size items.size hi-er items.size 0 lo)).toArray.size<=sizeLine
  rw[List.size_toArray,List.length_take,List.length_drop,Array.length_toList]
  omega
 have hj:er items.size items.size hi<=items.size:=D6 _ _ (Nat.le_refl _) hi
 obtain⟨os,hos,hcs,hds⟩:=id hs
 have hTs:s.TypeIs (.ref sl) "slice":=⟨os,hos,hcs⟩
 unfold getItem
 try with_reducible refine wpAny_holding ?_
 first|refine wpAny_bind (wpAny_pure ?_)|skip
 refine wpAny_bind (wpAny_sequenceKey ht.typeIs (by decide) ?_)
 refine wpAny_bind (wpAny_callSpecial?_slot (name:=Str.ofString "__getitem__") ht.typeIs PyProof.Rows.slot_tuple_getitem
  (wpAny_call_entry PyProof.Rows.slot_tuple_getitem ht.typeIs entry_tuple_getitem ?_ (args_tuple_getitem _ _)))
 show wpAny _ _ (Builtin.Tuple.tupleItemsOf (.ref t) >>= _) _ _ s
 refine wpAny_bind (tupleItemsOf_ ht ?_)
 refine wpAny_bind (wpAny_typeOf hTs ?_)
 rw[if_pos (by decide)]
 refine wpAny_bind (g9 hs pl pu ?_)
 have hno:¬((((er items.size 0 lo:Nat):Int)==0&&(1:Int)==1&&(er items.size items.size hi-er items.size 0 lo)==items.size)=true):=by
  intro q
  rw[Bool.and_eq_true,Bool.and_eq_true] at q
  have q1:((er items.size 0 lo:Nat):Int)=0:=eq_of_beq q.1.1
  have q2:er items.size items.size hi-er items.size 0 lo=items.size:=eq_of_beq q.2
  exact hw ⟨by omega,by omega⟩
 show wpAny _ _ (if (((er items.size 0 lo:Nat):Int)==0&&(1:Int)==1&&(er items.size items.size hi-er items.size 0 lo)==items.size)=true then _ else _) _ _ s
 rw[if_neg hno,Ah]
 first
  |exact wpAny_bind (m:=Builtin.Tuple.tupleExact _) (wpAny_newObj_type (wpAny_pure ⟨_,rfl,wpAny_pure h⟩) htake)
  |exact wpAny_bind (m:=Builtin.Tuple.tupleExact _) (wpAny_newObj_type (wpAny_bind (wpAny_pure (wpAny_pure ⟨_,rfl,wpAny_pure h⟩))) htake)
  |exact wpAny_bind (wpAny_bind (m:=Builtin.Tuple.tupleExact _) (wpAny_newObj_type (wpAny_pure (wpAny_pure ⟨_,rfl,wpAny_pure h⟩)) htake))
  |exact wpAny_bind (wpAny_bind (m:=Builtin.Tuple.tupleExact _) (wpAny_newObj_type (wpAny_pure ⟨_,rfl,wpAny_pure h⟩) htake))
end
end HT
namespace L2
open PySem PySem.Spec PyProof.Rows
abbrev TO:=St->Hp->(Option Int->Hp->Prop)->Prop
def PO(X:Cx)(e:Option Expr)(t:TO):Prop:=
 ∀ (pins:List (Addr×Obj)) (s:Shared) (σ:St) (H:Hp) (Q:Option Int->Hp->Prop),Inv X pins σ H s->t σ H Q→
   wpAny (model X.prog X.w) X.A (evalPart e X.env) (fun u s'=>∃o H',Inv X pins σ H' s'/\IsPart u o/\Q o H') X.xe s
def Cp:TO:=fun _ H Q=>Q none H
def Gc(t:TE):TO:=fun σ H Q=>t σ H fun x H1=>∃i,x=.int i/\Q (some i) H1
section
variable{X:Cx}{e:Expr}{te:TE}{lo hi:Option Expr}{tl th:TO}{pos p2:Pos}
theorem BZ:PO X none Cp:=by
 intro pins s σ H Q I h
 rw[evalPart_none]
 exact wpAny_pure ⟨none,H,I,.none,h⟩
theorem B8(h:PE X e te):PO X (some e) (Gc te):=by
 intro pins s σ H Q I hw
 rw[evalPart_some]
 refine cz (h pins s σ H _ I hw) fun u s1 qr=> ?_
 obtain⟨x,H1,I1,r1,q1⟩:=qr
 obtain⟨i,rfl,q⟩:=q1
 obtain⟨t,rfl⟩:=r1
 exact⟨some i,H1,I1,.int i t,q⟩
def GY(X:Cx)(r:V->Option Int->Option Int->Hp->VK->Prop):Prop:=
 ∀ (pins:List (Addr×Obj)) (s:Shared) (σ:St) (H:Hp) (x:V) (v vl vu:Value) (lo hi:Option Int) (sl:Addr) (Q:VK),Inv X pins σ H s->RelV x v->s.heap.IsSliceOf sl vl vu .none->IsPart vl lo->IsPart vu hi->r x lo hi H Q→
   ∃T id,typeLookup (.type T) "__getitem__"=pure (some (.builtin id))/\s.TypeIs v T/\wpAny (model X.prog X.w) X.A (getItem v (.ref sl)) (EP X pins σ Q) X.xe s
def HH(r:V->Option Int->Option Int->Hp->VK->Prop)(te:TE)(tl th:TO):TE:=fun σ H Q=>te σ H fun x H1=>tl σ H1 fun l H2=>th σ H2 fun u H3=>r x l u H3 Q
theorem AB{r:V->Option Int->Option Int->Hp->VK->Prop}(hr:GY X r)(he:PE X e te)(hl:PO X lo tl)(hu:PO X hi th):PE X (.Subscript e (.Slice lo hi none p2) pos) (HH r te tl th):=by
 intro pins s σ H Q I h
 refine Subscript_ (cz (he pins s σ H _ I h) fun v s1 qr=> ?_)
 obtain⟨x,H1,I1,r1,q1⟩:=qr
 refine wpAny_Slice (cz (hl pins s1 σ H1 _ I1 q1) fun vl s2 ⟨l,H2,I2,pl,q2⟩=>cz (hu pins s2 σ H2 _ I2 q2) fun vu s3 qr=> ?_)
 obtain⟨u,H3,I3,pu,q3⟩:=qr
 rw[evalPart_none]
 refine wpAny_pure ?_
 have I4:Inv X pins σ H3 {s3 with heap:=s3.heap.push {cls:=.type "slice",data:=.fields #[vl,vu,.none]}}:=I3.kept (t':=s3.toks) fun b ob q=>Heap.get?_push_of_some _ q
 obtain⟨T,id,hT,ht,hg⟩:=hr pins {s3 with heap:=s3.heap.push {cls:=.type "slice",data:=.fields #[vl,vu,.none]}} σ H3 x v vl vu l u s3.heap.objs.size Q I4 r1 (Heap.IsSliceOf.new ..) pl pu q3
 show wpAny (model X.prog X.w) X.A (subscriptTail e (.Slice lo hi none p2) v (.ref s3.heap.objs.size)) (EP X pins σ Q) X.xe {s3 with heap:=s3.heap.push {cls:=.type "slice",data:=.fields #[vl,vu,.none]}}
 exact tail_any (ops:= [.ref s3.heap.objs.size,v]) ht hT hg (by with_unfolding_all rfl)
def wm(xs:List V)(lo hi:Option Int):List V:=(xs.drop (HT.er xs.length 0 lo)).take (HT.er xs.length xs.length hi-HT.er xs.length 0 lo)
theorem vG(xs:List V)(lo hi:Option Int):(wm xs lo hi).length<=xs.length:=by
 unfold wm
 rw[List.length_take,List.length_drop]
 omega
def Hd(K:PySem.W.Frag):V->Option Int->Option Int->Hp->VK->Prop:=fun x lo hi H Q=>∃a xs,x=.ref a/\gD K H a xs∧
 ¬(HT.er xs.length 0 lo=0/\HT.er xs.length xs.length hi=xs.length)/\∀p,H p=none->Q (.ref p) (upd H p (.tup (wm xs lo hi)))
theorem Du:GY X (Hd X.K):=by
 intro pins s σ H x v vl vu lo hi sl Q I rx hs pl pu h
 obtain⟨a,xs,rfl,hx,hw,q⟩:=h
 cases rx
 obtain⟨its,r,ht,hz⟩:=I.tuple hx
 have hlen:its.toArray.size=xs.length:=by rw[List.size_toArray];exact r.length.symm
 refine⟨"tuple",_,PyProof.Rows.slot_tuple_getitem.lookup,ht.typeIs,?_⟩
 refine HT.k0 ht hs pl pu (by rw[hlen];exact hw) ?_ (by rw[hlen];exact hz)
 rw[hlen]
 refine⟨.ref s.heap.objs.size,_,I.laid (t':=s.toks) (o:=.tup (wm xs lo hi)) (fun b ob q=>Heap.get?_push_of_some _ q) (Nat.le_refl _) ?_,rfl,q _ (I.hok.fresh (Nat.le_refl _))⟩
 exact⟨Nat.le_trans (vG xs lo hi) hz,_,(r.drop (HT.er xs.length 0 lo)).take (HT.er xs.length xs.length hi-HT.er xs.length 0 lo),uO.new _ _⟩
def Dg(K:PySem.W.Frag):R2:=fun x y H Q=>∃a b xs ys,x=.ref a/\y=.ref b/\gD K H a xs/\gD K H b ys/\xs≠[]/\xs.length+ys.length<=sizeLine∧
 (ys= []->Q (.ref a) H)/\(ys≠[]->∀p,H p=none->Q (.ref p) (upd H p (.tup (xs++ys))))
theorem bt.nil_iff{xs:List V}{us:List Value}(r:bt xs us):us= []↔xs= []:=by
 cases r with
 |nil=>simp
 |cons _ _=>simp
theorem Ct:jh X (binaryOp .Add) (Dg X.K):=by
 intro pins s σ H x y v u Q I rx ry h
 obtain⟨a,b,xs,ys,rfl,rfl,ha,hb,hx,hz,q1,q2⟩:=h
 cases rx
 cases ry
 obtain⟨its,r1,p1,_⟩:=I.tuple ha
 obtain⟨its2,r2,p2,_⟩:=I.tuple hb
 refine HT.CC p1 p2 (fun z=>hx (r1.nil_iff.mp z)) (fun z=>⟨.ref a,H,I,rfl,q1 (r2.nil_iff.mp z)⟩) (fun z=> ?_) (by rw[←r1.length,←r2.length];exact hz)
 refine⟨.ref s.heap.objs.size,_,I.laid (t':=s.toks) (o:=.tup (xs++ys)) (fun b ob q=>Heap.get?_push_of_some _ q) (Nat.le_refl _) ?_,rfl,q2 (fun w=>z (r2.nil_iff.mpr w)) _ (I.hok.fresh (Nat.le_refl _))⟩
 exact⟨by rw[lQa];exact hz,_,r1.append r2,uO.new _ _⟩
end
def yK(n:Nat)(i:Int):Option Nat:=if 0<=i then(if i<n then some i.toNat else none) else if -(n:Int)<=i then some (i+n).toNat else none
def i3{α:Type}(xs:List α)(i:Int):Option α:=(yK xs.length i).bind fun j=>xs[j]?
theorem uA{n:Nat}{i:Int}{j:Nat}(h:yK n i=some j):seqIndex? i n=some j/\j<n/\ -(n:Int)<=i/\i<n:=by
 unfold yK at h
 by_cases h0:0<=i
 ·rw[if_pos h0] at h
  by_cases h1:i<n
  ·rw[if_pos h1] at h
   have e:i.toNat=j:=Option.some.inj h
   exact⟨by rw[seqIndex_of h0 h1,e],by omega,by omega,h1⟩
  ·rw[if_neg h1] at h;cases h
 ·rw[if_neg h0] at h
  by_cases h1: -(n:Int)<=i
  ·rw[if_pos h1] at h
   have e:(i+n).toNat=j:=Option.some.inj h
   exact⟨by rw[seqIndex_neg (by omega) h1,e],by omega,h1,by omega⟩
  ·rw[if_neg h1] at h;cases h
theorem sN{α:Type}{xs:List α}{i:Int}{v:α}(h:i3 xs i=some v):∃j,seqIndex? i xs.length=some j/\xs[j]?=some v/\j<xs.length/\ -(xs.length:Int)<=i/\i<xs.length:=by
 unfold i3 at h
 cases e:yK xs.length i with
 |none=>rw[e] at h;cases h
 | some j=>
   rw[e] at h
   obtain⟨h1,h2,h3,h4⟩:=uA e
   exact⟨j,h1,h,h2,h3,h4⟩
def yo(b:Expr):Prop:=∀o i,subscripted b false o i=operate [o,i] (getItem o i)
def BN(X:Cx)(r:R2):Prop:=
 ∀ (value slice:Expr) (pins:List (Addr×Obj)) (s:Shared) (σ:St) (H:Hp) (x y:V) (v u:Value) (Q:VK),Inv X pins σ H s->RelV x v->RelV y u->r x y H Q→
   subscripted slice false v u=operate [v,u] (getItem v u)->wpAny (model X.prog X.w) X.A (subscriptTail value slice v u) (EP X pins σ Q) X.xe s
def FF(X:Cx)(id:String)(r:V->List V->Hp->VK->Prop):Prop:=
 ∀ (pins:List (Addr×Obj)) (s:Shared) (σ:St) (H:Hp) (x:V) (xs:List V) (v:Value) (us:List Value) (Q:VK),Inv X pins σ H s->RelV x v->bt xs us->r x xs H Q→
   wpAny (model X.prog X.w) X.A (call (.builtin id) (v::us)) (EP X pins σ Q) X.xe s
section
variable{X:Cx}{a b:Expr}{ta tb:TE}{pos:Pos}
theorem BN.or{r r':R2}(h:BN X r)(h':BN X r'):BN X (fun x y H Q=>r x y H Q\/r' x y H Q):=by
 intro value slice pins s σ H x y v u Q I rx ry q hs
 rcases q with q|q
 ·exact h value slice pins s σ H x y v u Q I rx ry q hs
 ·exact h' value slice pins s σ H x y v u Q I rx ry q hs
theorem Gb{r:R2}(hr:BN X r)(ha:PE X a ta)(hb:PE X b tb)(hs:yo b):PE X (.Subscript a b pos) (Co r ta tb):=by
 intro pins s σ H Q I h
 exact Subscript_ (Dy ha hb I h fun v u s2 x y H2 I2 rx ry q=>hr a b pins s2 σ H2 x y v u Q I2 rx ry q (hs _ _))
def Fh(K:PySem.W.Frag):R2:=fun x y H Q=>∃p xs i v,x=.ref p/\y=.int i/\gX K H p xs/\i3 xs i=some v/\Q v H
def FX(K:PySem.W.Frag):R2:=fun x y H Q=>∃p xs i v,x=.ref p/\y=.int i/\gD K H p xs/\i3 xs i=some v/\Q v H
def F9:R2:=fun x y H Q=>∃z i c,x=.str z/\y=.int i/\z.length<=sizeLine/\i3 z.cps.toList i=some c/\Q (.str ⟨#[c]⟩) H
theorem C0:BN X (Fh X.K):=by
 intro value slice pins s σ H x y v u Q I rx ry h hs
 obtain⟨p,xs,i,z,rfl,rfl,hq,he,q⟩:=h
 cases rx
 obtain⟨t,rfl⟩:=ry
 obtain⟨its,r,pl,hz⟩:=I.list hq
 obtain⟨j,h1,h2,h3,h4,h5⟩:=sN he
 obtain⟨w,ew,rw'⟩:=r.get h2
 have hl:=r.length
 have hn:=jl
 have fin:EP X pins σ Q w s:=⟨z,H,I,rw',q⟩
 by_cases h0:0<=i
 ·have hj:i.toNat=j:=by
   rw[seqIndex_of h0 h5] at h1
   exact Option.some.inj h1
  exact item_listR pl.isList h0 (by omega) (by rw[hj];simpa using ew) fin hs
 ·have hj:(i+(its.toArray.size:Int)).toNat=j:=by
   rw[seqIndex_neg (by omega) h4] at h1
   rw[List.size_toArray,←hl]
   exact Option.some.inj h1
  exact subscriptTail_builtinR (x:=w) pl.isList.typeIs slot_list_getitem.lookup
   (wpAny_getItem_list_neg (Q:=fun r s'=>r=w/\EP X pins σ Q r s') pl.isList (by omega) (by rw[List.size_toArray] <;>omega) (by omega) (by rw[hj];simpa using ew) ⟨rfl,fin⟩) hs
theorem ED:BN X (FX X.K):=by
 intro value slice pins s σ H x y v u Q I rx ry h hs
 obtain⟨p,xs,i,z,rfl,rfl,hq,he,q⟩:=h
 cases rx
 obtain⟨t,rfl⟩:=ry
 obtain⟨its,r,pl,hz⟩:=I.tuple hq
 obtain⟨j,h1,h2,h3,h4,h5⟩:=sN he
 obtain⟨w,ew,rw'⟩:=r.get h2
 have hl:=r.length
 have hn:=jl
 have fin:EP X pins σ Q w s:=⟨z,H,I,rw',q⟩
 exact subscriptTail_builtinR (x:=w) pl.typeIs slot_tuple_getitem.lookup
  (getItem_tuple (j:=j) (Q:=fun r s'=>r=w/\EP X pins σ Q r s') pl (by omega) (by omega) (by rw[List.size_toArray,←hl];exact h1) (by simpa using ew) ⟨rfl,fin⟩) hs
theorem DA:BN X F9:=by
 intro value slice pins s σ H x y v u Q I rx ry h hs
 obtain⟨z,i,c,rfl,rfl,hz,he,q⟩:=h
 obtain⟨t,rfl⟩:=rx
 obtain⟨t',rfl⟩:=ry
 obtain⟨j,h1,h2,h3,h4,h5⟩:=sN he
 have hl:z.cps.toList.length=z.length:=by simp[Str.length]
 rw[hl] at h1 h4 h5
 have hn:=jl
 exact tail_any (typeIs_str s z t) slot_str_getitem.lookup (getItem_str (c:=c) (by
  have e1:decide (i< -(2^63:Int))=false:=decide_eq_false (by omega)
  have e2:decide (i>=2^63)=false:=decide_eq_false (by omega)
  rw[e1,e2,Bool.or_false]) (by rw[h1];simpa using h2) ⟨.str ⟨#[c]⟩,H,I.tok _,⟨_,rfl⟩,q⟩) hs
def Hn(K:PySem.W.Frag):R2:=fun x y H Q=>Fh K x y H Q\/FX K x y H Q\/F9 x y H Q
theorem Eg:BN X (Hn X.K):=C0.or (ED.or DA)
theorem xE(its:List Value)(n j:Nat)(u:Value):Obj.mapSeq (·.setIfInBounds j u) {cls:=.type "list",data:=.seq its.toArray n}={cls:=.type "list",data:=.seq (its.set j u).toArray n}:=by
 simp[Obj.mapSeq]
theorem Inv.lst{pins:List (Addr×Obj)}{σ:St}{H:Hp}{s:Shared}{p:Addr}{xs:List V}(I:Inv X pins σ H s)(h:H p=some (.lst xs)):
  ∃(its:List Value) (n:Nat),bt xs its/\s.heap.get? p=some {cls:=.type "list",data:=.seq its.toArray n}/\xs.length<=sizeLine:=by
 obtain⟨z,its,n,r,e⟩:=I.hok p _ h
 exact⟨its,n,r,e,z⟩
theorem Inv.lstUpd{pins:List (Addr×Obj)}{σ:St}{H:Hp}{s:Shared}{p:Addr}{xs ys:List V}{its its':List Value}{n n':Nat}{f:Obj->Obj}(I:Inv X pins σ H s)(h:H p=some (.lst xs))
  (ho:s.heap.get? p=some {cls:=.type "list",data:=.seq its.toArray n}) (hf:f {cls:=.type "list",data:=.seq its.toArray n}={cls:=.type "list",data:=.seq its'.toArray n'}) (r:bt ys its') (hz:ys.length<=sizeLine) (t:Nat):
  Inv X pins σ (upd H p (.lst ys)) {s with heap:=s.heap.update p f,toks:=t}:=by
 have e:(s.heap.update p f).get? p=some {cls:=.type "list",data:=.seq its'.toArray n'}:=by
  rw[Heap.get?_update_self f ho (by rw[hf] <;>rfl),hf]
 refine I.write (x:=p) (e:=p) (by rw[h];trivial) (.inl rfl) (fun b u hb q=>(Heap.get?_update_other _ _ (Ne.symm hb)).trans q) ⟨_,e⟩ ?_
 exact⟨hz,its',n',r,e⟩
def Da:V->V->V->Hp->(Hp->Prop)->Prop:=fun o i v H Q=>∃p xs k j,o=.ref p/\i=.int k/\H p=some (.lst xs)/\yK xs.length k=some j/\Q (upd H p (.lst (xs.set j v)))
theorem set_list:EU X Da:=by
 intro pins s σ H o i v ov iv u Q I ro ri rv h
 obtain⟨p,xs,k,j,rfl,rfl,hp,hj,q⟩:=h
 cases ro
 obtain⟨t,rfl⟩:=ri
 obtain⟨its,n,r,ho,hz⟩:=I.lst hp
 obtain⟨h1,h2,h3,h4⟩:=uA hj
 have hl:=r.length
 have hn:=jl
 have I':Inv X pins σ (upd H p (.lst (xs.set j v))) {s with heap:=s.heap.update p (Obj.mapSeq (·.setIfInBounds j u))}:=
  I.lstUpd hp ho (xE its n j u) (r.set rv j) (by rw[List.length_set];exact hz) s.toks
 by_cases h0:0<=k
 ·have hk:k.toNat=j:=by
   rw[seqIndex_of h0 h4] at h1
   exact Option.some.inj h1
  exact PySem.W.ki_setAt ho h0 (by omega) (by rw[List.size_toArray,←hl];exact h4) (by rw[hk];exact⟨_,I',q⟩)
 ·have hk:(k+(its.toArray.size:Int)).toNat=j:=by
   rw[seqIndex_neg (by omega) h3] at h1
   rw[List.size_toArray,←hl]
   exact Option.some.inj h1
  exact PySem.W.ki_setBack ho (by omega) (by rw[List.size_toArray,←hl];exact h3) (by omega) (by rw[hk];exact⟨_,I',q⟩)
def eS:V->Bool
 |.non=>true
 |.bl _=>true
 |.int _=>true
 |.str _=>true
 |_=>false
def jQ:V->V->Bool
 |.non,.non=>true
 |.bl a,.bl b=>a==b
 |.bl a,.int b=>(if a then 1 else 0)==b
 |.int a,.bl b=>a==(if b then 1 else 0)
 |.int a,.int b=>a==b
 |.str a,.str b=>a==b
 |_,_=>false
theorem Ap{A:Around}{s:Shared}{y x:V}{u v:Value}(ry:RelV y u)(rx:RelV x v)(fy:eS y=true)(fx:eS x=true):SeqAt.EqAt A s u v (jQ y x):=by
 cases y with
 | non=>
   cases ry
   cases x with
   |non=>cases rx;exact SeqAt.EqAt.same _
   |bl b=>cases rx;exact SeqAt.EqAt.none_bool b
   |int b=>obtain⟨t,rfl⟩:=rx;exact SeqAt.EqAt.none_int b t
   |str b=>obtain⟨t,rfl⟩:=rx;exact SeqAt.EqAt.none_str b t
   |_=>exact absurd (show false=true from fx) Bool.false_ne_true
 | bl a=>
   cases ry
   cases x with
   |non=>cases rx;exact SeqAt.EqAt.bool_none a
   |bl b=>cases rx;exact SeqAt.EqAt.bool_bool a b
   |int b=>obtain⟨t,rfl⟩:=rx;exact SeqAt.EqAt.bool_int a b t
   |str b=>obtain⟨t,rfl⟩:=rx;exact SeqAt.EqAt.bool_str a b t
   |_=>exact absurd (show false=true from fx) Bool.false_ne_true
 | int a=>
   obtain⟨t',rfl⟩:=ry
   cases x with
   |non=>cases rx;exact SeqAt.EqAt.int_none a t'
   |bl b=>cases rx;exact SeqAt.EqAt.int_bool a t' b
   |int b=>obtain⟨t,rfl⟩:=rx;exact SeqAt.EqAt.int_int a t' b t
   |str b=>obtain⟨t,rfl⟩:=rx;exact SeqAt.EqAt.int_str a t' b t
   |_=>exact absurd (show false=true from fx) Bool.false_ne_true
 | str a=>
   obtain⟨t',rfl⟩:=ry
   cases x with
   |non=>cases rx;exact SeqAt.EqAt.str_none a t'
   |bl b=>cases rx;exact SeqAt.EqAt.str_bool a t' b
   |int b=>obtain⟨t,rfl⟩:=rx;exact SeqAt.EqAt.str_int a t' b t
   |str b=>obtain⟨t,rfl⟩:=rx;exact SeqAt.EqAt.str_str a t' b t
   |_=>exact absurd (show false=true from fx) Bool.false_ne_true
 |_=>exact absurd (show false=true from fy) Bool.false_ne_true
def uF(x:V)(u:Value):Bool:=match u with
 |.none=>jQ .non x
 |.bool b=>jQ (.bl b) x
 |.int i _=>jQ (.int i) x
 |.str z _=>jQ (.str z) x
 |_=>false
theorem qe{x y:V}{u:Value}(r:RelV y u)(f:eS y=true):uF x u=jQ y x:=by
 cases y with
 |non=>cases r;rfl
 |bl b=>cases r;rfl
 |int i=>obtain⟨t,rfl⟩:=r;rfl
 |str z=>obtain⟨t,rfl⟩:=r;rfl
 |_=>exact absurd (show false=true from f) Bool.false_ne_true
theorem k8{x:V}:∀{xs:List V} {us:List Value},bt xs us->xs.all eS=true->us.any (uF x)=xs.any fun y=>jQ y x
 |_,_,.nil,_=>rfl
 | y::xs,u::us,.cons r t,f=>by
   rw[List.all_cons,Bool.and_eq_true] at f
   rw[List.any_cons,List.any_cons,qe r f.1,k8 t f.2]
theorem fV{A:Around}{s:Shared}{x:V}{v:Value}(rx:RelV x v)(fx:eS x=true):∀{xs:List V} {us:List Value},bt xs us->xs.all eS=true->∀u∈us,SeqAt.EqAt A s u v (uF x u)
 |_,_,.nil,_=>fun u hu=>by cases hu
 | y::xs,u::us,.cons r t,f=>fun u' hu=>by
   rw[List.all_cons,Bool.and_eq_true] at f
   rcases List.mem_cons.mp hu with rfl|hu
   · rw[qe r f.1];exact Ap r rx f.1 fx
   · exact fV rx fx t f.2 u' hu
def Bb(x:V)(xs:List V):Bool:=xs.any fun y=>jQ y x
def Hi(K:PySem.W.Frag)(neg:Bool):R2:=fun x y H Q=>∃p xs,y=.ref p/\(gX K H p xs\/gD K H p xs)/\eS x=true/\xs.all eS=true/\Q (.bl (if neg then !Bb x xs else Bb x xs)) H
theorem zx:jh X (compareOp .In) (Hi X.K false):=by
 intro pins s σ H x y v u Q I rx ry h
 obtain⟨p,xs,rfl,hq,fx,fs,q⟩:=h
 cases ry
 rcases hq with hq|hq
 ·obtain⟨its,r,pl,hz⟩:=I.list hq
  refine SeqAt.in_listAt (uF x) pl.isList (fun w hw=>fV rx fx r fs w (by simpa using hw)) ⟨.bl _,H,I,rfl,?_⟩
  rw[show its.toArray.any (uF x)=its.any (uF x) by simp,k8 r fs]
  exact q
 ·obtain⟨its,r,pl,hz⟩:=I.tuple hq
  refine SeqAt.in_tupleAt (uF x) pl (fun w hw=>fV rx fx r fs w (by simpa using hw)) ⟨.bl _,H,I,rfl,?_⟩
  rw[show its.toArray.any (uF x)=its.any (uF x) by simp,k8 r fs]
  exact q
theorem uc:jh X (compareOp .NotIn) (Hi X.K true):=by
 intro pins s σ H x y v u Q I rx ry h
 obtain⟨p,xs,rfl,hq,fx,fs,q⟩:=h
 cases ry
 rcases hq with hq|hq
 ·obtain⟨its,r,pl,hz⟩:=I.list hq
  refine SeqAt.notIn_listAt (uF x) pl.isList (fun w hw=>fV rx fx r fs w (by simpa using hw)) ⟨.bl _,H,I,rfl,?_⟩
  rw[show its.toArray.any (uF x)=its.any (uF x) by simp,k8 r fs]
  exact q
 ·obtain⟨its,r,pl,hz⟩:=I.tuple hq
  refine SeqAt.notIn_tupleAt (uF x) pl (fun w hw=>fV rx fx r fs w (by simpa using hw)) ⟨.bl _,H,I,rfl,?_⟩
  rw[show its.toArray.any (uF x)=its.any (uF x) by simp,k8 r fs]
  exact q
theorem tT:i0 X (.builtin "len") (fun xs H Q=>∃p ys,xs= [.ref p]/\(gX X.K H p ys\/gD X.K H p ys)/\Q (.int ys.length) H):=by
 intro pins s σ H xs us Q I r h
 obtain⟨p,ys,rfl,hq,q⟩:=h
 obtain⟨u,rfl,rx⟩:=vals1 r
 cases rx
 have hn:=jl
 rcases hq with hq|hq
 ·obtain⟨its,r',pl,hz⟩:=I.list hq
  have hlen:=r'.length
  exact Calls.call_len_list pl.isList (by simp only[List.size_toArray] <;>omega) ⟨.int ys.length,H,I.tok _,⟨s.toks+1,by rw[List.size_toArray,hlen]⟩,q⟩
 ·obtain⟨its,r',pl,hz⟩:=I.tuple hq
  have hlen:=r'.length
  exact len_tuple pl (by simp only[List.size_toArray] <;>omega) ⟨.int ys.length,H,I.tok _,⟨s.toks+1,by rw[List.size_toArray,hlen]⟩,q⟩
theorem qZ:i0 X (.type "tuple") (fun xs H Q=>∃p ys,xs= [.ref p]/\((gX X.K H p ys/\∀l,H l=none->Q (.ref l) (upd H l (.tup ys)))\/(gD X.K H p ys/\Q (.ref p) H))):=by
 intro pins s σ H xs us Q I r h
 obtain⟨p,ys,rfl,h⟩:=h
 obtain⟨u,rfl,rx⟩:=vals1 r
 cases rx
 rcases h with⟨hq,q⟩|⟨hq,q⟩
 ·obtain⟨its,r',pl,hz⟩:=I.list hq
  have hlen:=r'.length
  refine call_tuple_list pl.isList (fun h' kp=> ?_) (by simp only[List.size_toArray] <;>omega)
  have I1:Inv X pins σ H {s with heap:=h'}:=I.kept (t':=s.toks) kp
  have I2:Inv X pins σ (upd H h'.objs.size (.tup ys)) {s with heap:=h'.push {cls:=.type "tuple",data:=.seq its.toArray}}:=
   I1.laid (t':=s.toks) (fun b o e=>Heap.get?_push_of_some _ e) (Nat.le_refl _) (show cG X.prog X.w _ _ _ (.tup ys) from⟨hz,its,r',uO.new _ _⟩)
  exact⟨.ref h'.objs.size,_,I2,rfl,q _ (I1.hok.fresh (Nat.le_refl _))⟩
 ·obtain⟨its,r',pl,hz⟩:=I.tuple hq
  exact call_tuple_same pl ⟨.ref p,H,I,rfl,q⟩
def Hv(K:PySem.W.Frag)(T:String)(x:V)(H:Hp):Prop:=match x with
 |.str _=>T="str"
 |.int _=>T="int"
 |.ref p=>(T="list" /\∃xs,gX K H p xs)\/(T="tuple" /\∃o,K.lookup p=some o/\o.cls=.type "tuple" /\o.dict=none)∨
   (T="dict" /\((∃kvs,H p=some (.dK kvs))\/∃kvs,H p=some (.dT kvs)))\/(T="set" /\∃S n,H p=some (.set S n))
 |_=>False
theorem Dr{pins:List (Addr×Obj)}{σ:St}{H:Hp}{s:Shared}{T:String}{x:V}{v:Value}(I:Inv X pins σ H s)(r:RelV x v)(ty:Hv X.K T x H):
  s.TypeIs v T/\∀a,v=.ref a->∃ob,s.heap.get? a=some ob/\ob.dict=none:=by
 cases x with
 | str z=>
   obtain⟨t,rfl⟩:=r
   cases (show T="str" from ty)
   exact⟨typeIs_str s z t,fun _ e=>nomatch e⟩
 | int i=>
   obtain⟨t,rfl⟩:=r
   cases (show T="int" from ty)
   exact⟨typeIs_int s i t,fun _ e=>nomatch e⟩
 | ref p=>
   cases r
   rcases ty with⟨rfl,xs,hq⟩|⟨rfl,o,hk,hc,hd⟩|⟨rfl,hk⟩|⟨rfl,S,n,hk⟩
   · obtain⟨its,_,pl,_⟩:=I.list hq
     refine⟨pl.isList.typeIs,fun a e=> ?_⟩
     cases e
     obtain⟨o,n,e,c,hd,_⟩:=pl
     exact⟨o,e,hd⟩
   · refine⟨⟨o,I.kIn p o hk,hc⟩,fun a e=> ?_⟩
     cases e
     exact⟨o,I.kIn _ o hk,hd⟩
   · have z:∃o,s.heap.get? p=some o/\o.ExactDict:=by
       rcases hk with⟨kvs,hk⟩|⟨kvs,hk⟩
       · obtain⟨_,_,_,_,o,_,_,e,ex,_⟩:=I.hok p _ hk
         exact⟨o,e,ex⟩
       · obtain⟨_,_,_,_,o,_,_,e,ex,_⟩:=I.hok p _ hk
         exact⟨o,e,ex⟩
     obtain⟨o,e,ex⟩:=z
     refine⟨⟨o,e,ex.1⟩,fun a e2=> ?_⟩
     cases e2
     exact⟨o,e,ex.2.1⟩
   · obtain⟨o,_,_,_,e,ex,_⟩:=I.hok p _ hk
     refine⟨⟨o,e,ex.1⟩,fun a e2=> ?_⟩
     cases e2
     exact⟨o,e,ex.2.1⟩
 |_=>exact False.elim ty
def Gm(K:PySem.W.Frag)(T:String)(r:V->List V->Hp->VK->Prop)(to:TE)(t:TA):TE:=fun σ H Q=>to σ H fun x H1=>Hv K T x H1/\t σ H1 fun xs H2=>r x xs H2 Q
variable{o e:Expr}{es:List Expr}{to:TE}{t:TA}{name:Str}{apos cpos:Pos}{T id:String}{r:V->List V->Hp->VK->Prop}
theorem sH(pa:PlainAttrs T)(slot:Slot T name id)(hty:typeOf (.builtin id)=pure (.type "method_descriptor"))(hm:FF X id r)(ho:PE X o to)(ha:PA X (e::es) t)
  (hbase:attributeBase o name X.env (eval o X.env)=eval o X.env:=by rfl)
  (hfew:((backTo cpos (starEach (e::es) X.env)).all (fun x=> !x.1)&&(backToKw cpos (keywordEach [] X.env)).all (fun x=>x.1.isSome)
   &&decide ((e::es).length+([]:List Keyword).length+(if ([]:List Keyword).isEmpty then 0 else 1)<30))=true:=by rfl)
  (hline:(apos.endLine==cpos.line)=true:=by rfl) (hs:starEach (e::es) X.env=(false,eval e X.env)::starEach es X.env:=by rfl) (hplain:(backTo cpos (starEach es X.env)).any (·.1)=false:=by rfl):
  PE X (.Call (.Attribute o name apos) (e::es) [] cpos) (Gm X.K T r to t):=by
 intro pins s σ H Q I h
 refine wpAny_Call_method_late hbase hfew hline rfl (cz (ho pins s σ H _ I h) fun v s1 qr=> ?_)
 obtain⟨x,H1,I1,r1,ty,q1⟩:=qr
 obtain⟨h1,h2⟩:=Dr I1 r1 ty
 refine⟨T,id,pa,slot,hty,h1,h2,?_⟩
 have hA:=ha cpos pins s1 σ H1 _ I1 q1
 rw[hs] at hA⊢
 refine Calls.callWith_builtin (by show(false||(backTo cpos (starEach es X.env)).any (·.1))=false;rw[hplain] <;>rfl) (Calls.evalArgs_plain ?_)
 exact cz hA fun us s2 ⟨vs,H2,I2,r2,q2⟩=>hm pins s2 σ H2 x vs v us Q I2 r1 r2 q2
end
def Gu(X:Cx)(id:String)(r:V->List V->Hp->VK->Prop):Prop:=
 ∀ (pins:List (Addr×Obj)) (s:Shared) (σ:St) (H:Hp) (x:V) (xs:List V) (v:Value) (us:List Value) (Q:VK),Inv X pins σ H s->RelV x v->bt xs us->r x xs H Q→
   wpAny (model X.prog X.w) X.A (call (.builtin id) (v::us)) (EP X pins σ Q) X.xe s
theorem bt.one:∀{x:V} {us:List Value},bt [x] us->∃u,us= [u]/\RelV x u
 |_,_,.cons r .nil=>⟨_,rfl,r⟩
theorem bt.eraseIdx:∀{xs:List V} {us:List Value} (i:Nat),bt xs us->bt (xs.eraseIdx i) (us.eraseIdx i)
 |_,_,_,.nil=>.nil
 |_,_,0,.cons _ t=>t
 |_,_,i+1,.cons r t=>.cons r (bt.eraseIdx i t)
theorem bt.rep{xs:List V}{us:List Value}(h:bt xs us):∀k:Nat,bt (List.replicate k xs).flatten (List.replicate k us).flatten
 |0=>.nil
 | k+1=>by
   rw[List.replicate_succ,List.replicate_succ,List.flatten_cons,List.flatten_cons]
   exact bt.append h (bt.rep h k)
theorem rM{α:Type}:∀(l:List α) (i:Nat),(l.eraseIdx i).length<=l.length
 | [],_=>Nat.le_refl _
 |_::_,0=>Nat.le_succ _
 |_::r,i+1=>Nat.succ_le_succ (rM r i)
theorem foldl_rep(its:List Value):∀(k:Nat) (acc:List Value),
  List.foldl (fun x1 x2=>x1++x2) acc.toArray (List.replicate k its.toArray)=(acc++(List.replicate k its).flatten).toArray
 |0,acc=>by simp
 | k+1,acc=>by
   have e:acc.toArray++its.toArray=(acc++its).toArray:=by simp
   have e2:(acc++its)++(List.replicate k its).flatten=acc++(List.replicate (k+1) its).flatten:=by
     rw[List.replicate_succ,List.flatten_cons,List.append_assoc]
   rw[←e2,←foldl_rep its k (acc++its),←e,List.replicate_succ,List.foldl_cons]
section
variable{X:Cx}{pins:List (Addr×Obj)}{σ:St}{H:Hp}{s:Shared}{l b:Addr}{xs ys zs:List V}
theorem Inv.lset{its its':List Value}{n:Nat}{f:Array Value->Array Value}{t':Nat}(I:Inv X pins σ H s)(hH:H l=some (.lst xs))
  (e:s.heap.get? l=some {cls:=.type "list",data:=.seq its.toArray n}) (hf:f its.toArray=its'.toArray) (hv:bt ys its') (hz:ys.length<=sizeLine):
  Inv X pins σ (upd H l (.lst ys)) {s with heap:=s.heap.update l (Obj.mapSeq f),toks:=t'}:=by
 have q:=PySem.IsL.update e f
 rw[hf] at q
 refine I.write (x:=l) (e:=l) (by rw[hH];exact trivial) (.inl rfl) (fun b' u hb hu=>(Heap.get?_update_other s.heap (Obj.mapSeq f) (Ne.symm hb)).trans hu) ⟨_,q⟩ ?_
 exact⟨hz,its',_,hv,q⟩
theorem Inv.lnew{its:List Value}{t':Nat}(I:Inv X pins σ H s)(hv:bt ys its)(hz:ys.length<=sizeLine):
  Inv X pins σ (upd H s.heap.objs.size (.lst ys)) {s with heap:=s.heap.push {cls:=.type "list",data:=.seq its.toArray},toks:=t'}:=
 I.laid (fun _ _ q=>Heap.get?_push_of_some _ q) (Nat.le_refl _) ⟨hz,its,0,hv,Heap.get?_push_size _ rfl⟩
theorem Inv.fresh(I:Inv X pins σ H s):H s.heap.objs.size=none:=I.hok.fresh (Nat.le_refl _)
theorem Inv.lstM(I:Inv X pins σ H s)(hH:H l=some (.lst xs)):xs.length<=sizeLine/\∃(its:List Value) (n:Nat),bt xs its/\xs.length=its.length/\s.heap.get? l=some {cls:=.type "list",data:=.seq its.toArray n}:=by
 obtain⟨z,its,n,r,e⟩:=I.hok l _ hH
 exact⟨z,its,n,r,r.length,e⟩
theorem pH{n:Nat}(h:n<=sizeLine):Builtin.List.listTooLong n=false:=by
 unfold Builtin.List.listTooLong
 exact decide_eq_false (by omega)
end
section
variable{X:Cx}
def yk:V->List V->Hp->VK->Prop:=fun x vs H Q=>∃l xs y,x=.ref l/\vs= [y]/\H l=some (.lst xs)/\xs.length<sizeLine/\Q .non (upd H l (.lst (xs++ [y])))
theorem mB:Gu X "list.append" yk:=by
 intro pins s σ H x vs v us Q I rx rv h
 obtain⟨l,xs,y,rfl,rfl,hH,hz,q⟩:=h
 cases rx
 obtain⟨u,rfl,ru⟩:=rv.one
 obtain⟨z,its,n,r,hl,e⟩:=I.lstM hH
 refine call_meets F.slot_list_append ⟨_,e,rfl⟩ F.entry_list_append (F.args_list_append_2 _ _) (PySem.list_append l its.toArray n u (by rw[List.size_toArray];omega)) ⟨e,?_⟩
 refine⟨.non,_,I.lset (its':=its++ [u]) hH e (by simp) (r.append (.cons ru .nil)) ?_,rfl,q⟩
 rw[lQa,List.length_singleton]
 omega
def yd:V->List V->Hp->VK->Prop:=fun x vs H Q=>∃l b xs zs,x=.ref l/\vs= [.ref b]/\H l=some (.lst xs)/\H b=some (.lst zs)/\xs.length+zs.length<=sizeLine/\Q .non (upd H l (.lst (xs++zs)))
theorem yE:Gu X "list.extend" yd:=by
 intro pins s σ H x vs v us Q I rx rv h
 obtain⟨l,b,xs,zs,rfl,rfl,hH,hB,hz,q⟩:=h
 cases rx
 obtain⟨u,rfl,ru⟩:=rv.one
 cases ru
 obtain⟨z,its,n,r,hl,e⟩:=I.lstM hH
 obtain⟨z2,its2,n2,r2,hl2,e2⟩:=I.lstM hB
 have hsz:its.toArray.size+its2.toArray.size<=sizeLine:=by rw[List.size_toArray,List.size_toArray];omega
 have hlong:¬(!its.toArray.isEmpty&&Builtin.List.listTooLong (its.toArray.size+its2.toArray.size))=true:=by
  rw[pH hsz,Bool.and_false]
  exact Bool.false_ne_true
 refine call_meets F.slot_list_extend ⟨_,e,rfl⟩ F.entry_list_extend (F.args_list_extend_2 _ _)
  (AutoSeq1.list_extend_list_list_0 l its.toArray n b its2.toArray n2 hlong (by rw[List.size_toArray];omega) (by omega)) ⟨e,e2,?_⟩
 refine⟨.non,_,I.lset (its':=its++its2) hH e (by simp) (r.append r2) ?_,rfl,q⟩
 rw[lQa]
 omega
def Bp:V->List V->Hp->VK->Prop:=fun x vs H Q=>∃l xs i k y,x=.ref l/\vs= [.int i]/\H l=some (.lst xs)/\ -(2^63)<=i/\i<2^63/\seqIndex? i xs.length=some k/\xs[k]?=some y/\Q y (upd H l (.lst (xs.eraseIdx k)))
theorem Ba:Gu X "list.pop" Bp:=by
 intro pins s σ H x vs v us Q I rx rv h
 obtain⟨l,xs,i,k,y,rfl,rfl,hH,h1,h2,hk,hy,q⟩:=h
 cases rx
 obtain⟨u,rfl,ru⟩:=rv.one
 obtain⟨t,rfl⟩:=ru
 obtain⟨z,its,n,r,hl,e⟩:=I.lstM hH
 obtain⟨w,hw,rw'⟩:=r.get hy
 refine call_meets F.slot_list_pop ⟨_,e,rfl⟩ F.entry_list_pop (F.args_list_pop_2 _ _)
  (MeetsSeq.list_pop_at l its.toArray n i t k w (fitsIndex_both h1 h2) (by rw[List.size_toArray,←hl];exact hk) (by rw[←Array.getElem?_toList];exact hw) (by rw[List.size_toArray];omega)) ⟨e,?_⟩
 refine⟨y,_,I.lset (its':=its.eraseIdx k) hH e ?_ (r.eraseIdx k) ?_,rw',q⟩
 ·show its.toArray.eraseIdxIfInBounds k=(its.eraseIdx k).toArray
  rw[List.eraseIdxIfInBounds_toArray]
 ·have:=rM xs k
  omega
def GZ:R2:=fun x y H Q=>∃l b xs zs,x=.ref l/\y=.ref b/\H l=some (.lst xs)/\H b=some (.lst zs)/\xs.length+zs.length<=sizeLine/\∀p,H p=none->Q (.ref p) (upd H p (.lst (xs++zs)))
theorem EI:jh X (binaryOp .Add) GZ:=by
 intro pins s σ H x y v u Q I rx ry h
 obtain⟨l,b,xs,zs,rfl,rfl,hH,hB,hz,q⟩:=h
 cases rx
 cases ry
 obtain⟨z,its,n,r,hl,e⟩:=I.lstM hH
 obtain⟨z2,its2,n2,r2,hl2,e2⟩:=I.lstM hB
 refine PySem.P.add_list e e2 ?_ (by rw[List.size_toArray,List.size_toArray];omega)
 have ea:its.toArray++its2.toArray=(its++its2).toArray:=by simp
 rw[ea]
 exact⟨.ref _,_,I.lnew (t':=s.toks) (r.append r2) (by rw[lQa];omega),rfl,q _ I.fresh⟩
def GN:R2:=fun x y H Q=>∃l k xs,x=.ref l/\y=.int k/\H l=some (.lst xs)/\ -(2^63)<=k/\k<2^63/\xs.length*k.toNat<=sizeLine∧
 ∀p,H p=none->Q (.ref p) (upd H p (.lst (List.replicate k.toNat xs).flatten))
theorem len_rep{α:Type}(xs:List α)(k:Nat):(List.replicate k xs).flatten.length=k*xs.length:=by
 induction k with
 |zero=>simp
 |succ k ih=>rw[List.replicate_succ,List.flatten_cons,lQa,ih,Nat.succ_mul,Nat.add_comm]
theorem Ds:jh X (binaryOp .Mult) GN:=by
 intro pins s σ H x y v u Q I rx ry h
 obtain⟨l,k,xs,rfl,rfl,hH,h1,h2,hz,q⟩:=h
 cases rx
 obtain⟨t,rfl⟩:=ry
 obtain⟨z,its,n,r,hl,e⟩:=I.lstM hH
 have hlen:its.toArray.size*k.toNat<=sizeLine:=by rw[List.size_toArray,←hl];exact hz
 have hcap:¬its.toArray.size*k.toNat>(2^63-1)/8:=by
  have:(sizeLine:Nat)<=(2^63-1)/8:=by decide
  omega
 have hfit:¬(!Builtin.List.listFitsIndex k)=true:=by
  rw[fitsIndex_both h1 h2]
  exact Bool.false_ne_true
 have hlong:¬Builtin.List.listTooLong (its.toArray.size*k.toNat)=true:=by
  rw[pH hlen]
  exact Bool.false_ne_true
 have hnew:List.foldl (fun x1 x2=>x1++x2) #[] (List.replicate (if its.toArray.isEmpty=true then 0 else k.toNat) its.toArray)=(List.replicate k.toNat its).flatten.toArray:=by
  have f0:∀m:Nat,List.foldl (fun x1 x2=>x1++x2) #[] (List.replicate m its.toArray)=(List.replicate m its).flatten.toArray:=fun m=>by
   have:=foldl_rep its m []
   rw[List.nil_append] at this
   exact this
  rw[f0]
  cases its with
  |nil=>simp
  |cons a r'=>rw[if_neg (by simp)]
 refine wpAny_binaryOp_repeat_ref (T:="list") (U:="int") (by decide) ⟨_,e,rfl⟩ (fun s'=>typeIs_int s' k t) noFill_list_mul F.fills_int_mul F.slot_int_rmul repeat_list F.slot_int_index.lookup
  (call_meets F.slot_int_rmul (typeIs_int s k t) F.entry_int_rmul (F.args_int_rmul_2 _ _) (int___rmul___int_list k t l its.toArray n)
   ⟨e,rfl,⟨_,e,rfl⟩,call_meets F.slot_list_mul ⟨_,e,rfl⟩ F.entry_list_mul (F.args_list_mul_2 _ _) (AutoListH.list___mul___list_int_3 l its.toArray n k t hfit hcap hlong) ⟨e,?_⟩⟩)
 rw[hnew]
 exact⟨.ref _,_,I.lnew (t':=s.toks) (r.rep k.toNat) (by rw[len_rep,Nat.mul_comm];exact hz),rfl,q _ I.fresh⟩
end
end L2
namespace Att
open PySem PySem.W PySem.Calls PyProof.Rows
theorem n0{P:Params}{h:Heap}:∀(ns:List Int) (vs:List Value),WellAll P h vs (ns.map WData.int)->IntsAre vs ns:=by
 intro ns
 induction ns with
 | nil=>
   intro vs w
   rw[List.map_nil] at w
   cases w
   exact .nil
 | cons n ns ih=>
   intro vs w
   rw[List.map_cons] at w
   cases w with
   | cons a b=>
     cases a
     exact .cons _ _ (ih _ b)
theorem yP{l:OpenLaw}{n:Nat}(hn:l.most=some n){P:Params}{h:Heap}{args:List WData}{vals:List Value}
  (hpre:l.row.toRowW.claim.pre args=true) (hwl:WellAll P h vals args):
  ∃a vs ns,vals= [Value.ref a]/\args= [WData.list (ns.map WData.int)]/\h.get? a=some {cls:=.type "list",data:=.seq vs.toArray}/\IntsAre vs ns/\ns.length<=n:=by
 have hsh:WShape.hasAll [] args [.list .int]=true:=(pre_splitW hpre).1
 have hc:l.pre.holds [] {args:=args}=true:=(pre_splitW hpre).2
 obtain⟨d,r,rfl,h1,h2⟩:=hasAllW_cons hsh
 obtain rfl:=hasAllW_nil h2
 obtain⟨xs,rfl,h3⟩:=hasW_list h1
 obtain⟨ns,rfl⟩:=items_int h3
 have hlen:ns.length<=n:=by
  unfold OpenLaw.pre at hc
  have h4:(WTm.not (.lt (.lit (.int (n:Int))) (.len (.arg 0)))).holds [] {args:= [.list (ns.map .int)]}=true:=by
   have h4:=(holds_andW hc).1
   rw[hn] at h4
   exact h4
  have h5:=condW_of h4 (w_not (w_lt w_lit (w_len_list (w_arg rfl))))
  rw[lQm] at h5
  refine Nat.le_of_not_lt fun q=> ?_
  have q':(n:Int)<((ns.length:Nat):Int):=by omega
  first
   |(rw[decide_eq_true q'] at h5;exact absurd h5 (by decide))
   |(simp at h5;omega)
 cases hwl with
 | cons w1 w2=>
   cases w2
   cases w1 with
   |list ho hall=>exact⟨_,_,ns,rfl,rfl,ho,n0 ns _ hall,hlen⟩
theorem yR(l:OpenLaw)(args:List WData):l.row.toRowW.claim.post args (.bool true) args=true:=
 postW_of (r:=l.row.toRowW) (X:=(true==true))
  (show WShape.has [] (.bool true) .bool=true by first|rfl|decide|simp[WShape.has,WShape.arms,WShape.armsAll])
  (show(WTm.eq .res (.lit (.bool true))).value [] {args:=args,res:=some (.bool true),after:=args}=some (.bool (true==true)) from w_eq_bool (w_res rfl) w_lit) rfl
theorem uK{l:OpenLaw}{n:Nat}{q:Program}{loose:List Str}{XP:(Str->Option Value)->Heap->Prop}{YP:World->Heap->Prop}{d:DefRec}
  (hn:l.most=some n) (hdf:d.params.defaults= [])
  (call:∀(w:World) (s₀ s₁:Shared) (mg mb:Str->Option Value) (fa:Addr) (o:Obj) (pm cd doc:Value) (a:Addr) (vs:List Value) (ns:List Int),
   Ground q loose [] XP w s₀ mg mb s₁.heap->YP w s₁.heap→
   s₁.heap.get? fa=some o->o.data=.func (docDef d.name d.params d.body d.scope pm cd doc)->s₁.heap.CodeRec cd d.name->mg d.name=some (.ref fa)→
   s₁.heap.get? a=some {cls:=.type "list",data:=.seq vs.toArray}->IntsAre vs ns->ns.length<=n->s₁.gens= #[]→
   codeAny (model l.prog w) callerA (.call (.ref fa) ⟨[.ref a],[]⟩) (fun r s'=>r=.ok (.ret (.bool true))/\OldK s₁.heap s'.heap/\s'.os=s₁.os/\AllBare s'.gens) s₁):
  WalkO q loose XP YP l.row.toRowW d [] (fun f vs=>PySem.call f vs):=by
 intro w s₀ s₁ mg mb G Y fa o pm cd doc dV kV ho hd hcd hD hmg hg args vals as hpre hlay hrd hwl hlo
 obtain rfl:dV=.none:=Dflts.none hD hdf
 obtain rfl:kV=.none:=Dflts.noKw hD
 obtain⟨a,vs,ns,rfl,rfl,hobj,hints,hlen⟩:=yP hn hpre hwl
 refine enter_call (codeAny_mono (call w s₀ s₁ mg mb fa o pm cd doc a vs ns G Y ho (fd_plain hd) hcd hmg hobj hints hlen hg) fun r s' hq=> ?_)
 obtain⟨rfl,h2,h3,h4⟩:=hq
 exact⟨.inl ⟨.bool true,.bool true,[],rfl,fun _=>rfl,.bool true,yR l _,fun _=>⟨List.Pairwise.nil,fun _ hm=>(nomatch hm)⟩⟩,h2,h3,h4⟩
end Att
namespace L2
open PySem PySem.Spec PyProof.Rows
theorem rp:∀{vs:List Value} {ns:List Int},IntsAre vs ns->bt (ns.map V.int) vs
 |_,_,.nil=>.nil
 |_,_,.cons n t h=>.cons ⟨t,rfl⟩ (rp h)
def Cr(H:Hp):Prop:=∀b,H b=none\/∃o xs,H b=some (.frz o (.lst xs))
theorem Aa{P:Program}{w:World}{K:PySem.W.Frag}{mg mb:Str->Option Value}{CX:zF}{k:Nat}{fa a:Addr}{fd:FuncData}{x:Str}{sp:Sp}{s₁:Shared}{vs:List Value}{ns:List Int}
  (KX:K.In s₁.heap) (hns:s₁.heap.Ns mainGlobals mg) (hb:s₁.heap.Ns builtinsNs mb) (hbb:∀x:Str,x≠"__name__" ->mb x=bootBuiltins x) (hlim:s₁.heap.NoLimit) (hg:s₁.gens= #[])
  (ha:s₁.heap.get? a=some {cls:=.type "list",data:=.seq vs.toArray}) (hi:IntsAre vs ns) (hl:ns.length<=sizeLine) (hr:eL k callerA)
  (F:∀base:Heap,K.In base->base.Ns mainGlobals mg->bh P w K mg base CX k fa fd [x] sp) (hbind:∀(s:Shared) (u:Value),BindsTo s fd ⟨[u],[]⟩ [(x,u)])
  (hsp:∀H:Hp,Cr H->gX K H a (ns.map V.int)->sp [.ref a] H (fun v _=>v=.bl true) fun _ _ _=>False)
  (hCX:∀H e s',CX [] H s₁ (fun _ _ _=>False) e s'->False):
  codeAny (model P w) callerA (.call (.ref fa) ⟨[.ref a],[]⟩) (fun r s'=>r=.ok (.ret (.bool true))/\OldK s₁.heap s'.heap/\s'.os=s₁.os/\AllBare s'.gens) s₁:=by
 have rv:=rp hi
 have lenV:=hi.length
 have core:∀H:Hp,Cr H->gX K H a (ns.map V.int)->kU P w H s₁.heap->(∀b,H b≠none->b=a)->(H a≠none->K.lookup a=none)→
   codeAny (model P w) callerA (.call (.ref fa) ⟨[.ref a],[]⟩) (fun r s'=>r=.ok (.ret (.bool true))/\OldK s₁.heap s'.heap/\s'.os=s₁.os/\AllBare s'.gens) s₁:=by
  intro H hO hS hok hA hK
  have base_of:∀{b:Addr} {o:Obj},s₁.heap.get? b=some o->H b=none->(tK s₁.heap H).get? b=some o:=fun e n=>Bj e n
  have noA:∀{b:Addr} {o:Obj} {es:Array DictEntry} {ep:Nat},s₁.heap.get? b=some o->o.data=.dict es ep->H b=none:=fun{b o es ep} e d=>by
   cases q:H b with
   |none=>rfl
   | some u=>
     have e':b=a:=hA b (by rw[q];simp)
     subst e'
     rw[ha] at e;cases e
     have d':Data.seq vs.toArray _=Data.dict es ep:=d
     cases d'
  have nsK:∀{b:Addr} {m:Str->Option Value},s₁.heap.Ns b m->(tK s₁.heap H).Ns b m:=fun{b m} ⟨o,es,ep,e,d,r⟩=>⟨o,es,ep,base_of e (noA e d),d,r⟩
  have hKb:K.In (tK s₁.heap H):=fun b o e=>base_of (KX b o e) (by
   cases q:H b with
   |none=>rfl
   | some u=>
     have e':b=a:=hA b (by rw[q];simp)
     subst e'
     rw[hK (by rw[q];simp)] at e;cases e)
  have hM:Mod K mg (tK s₁.heap H):=⟨hKb,nsK hns,⟨mb,nsK hb,hbb⟩,let ⟨mc,h1,h2⟩:=hlim;⟨mc,nsK h1,h2⟩⟩
  have e0:B9 P w K mg (tK s₁.heap H) callerA [] s₁ H:=⟨rfl,hM,fun b o e=>CK e,Nat.le_of_eq (zu _ _),trivial,fun b hb=>absurd (show b∈([]:List Addr) from hb) (by simp),hok,.of_eq hg⟩
  refine codeAny_mono ((F _ hKb (nsK hns)).run callerA [] s₁ H ⟨[.ref a],[]⟩ [.ref a] [.ref a] _ _ hr e0 (hbind s₁ (.ref a)) (.cons rfl .nil) (hsp H hO hS)) fun r s' h=> ?_
  cases r with
  |error e=>exact(hCX H e s' h).elim
  | ok fl=>
    cases fl with
    |next=>exact False.elim h
    |brk=>exact False.elim h
    |cont=>exact False.elim h
    | ret u=>
      obtain⟨v,H',os,bare,un,hok',r',q⟩:=h
      have q':v=.bl true:=q
      subst q'
      obtain rfl:u=Value.bool true:=r'
      refine⟨rfl,OldK.of_keep fun b o e=> ?_,os,bare⟩
      cases q:H b with
      |none=>exact un.keep b o e q (by intro z;exact absurd (show b∈([]:List Addr) from z) (by simp)) (by simp)
      | some u=>
        rcases hO b with z|⟨ob,xs,z⟩
        · rw[q] at z;cases z
        · have z2:=un.frzs b ob _ z
          obtain⟨e1,_⟩:=hok b _ z
          obtain⟨e2,_⟩:=hok' b _ z2
          rw[e] at e1;cases e1
          exact e2
 cases hk:K.lookup a with
 | some o=>
   have e:=KX a o hk
   rw[ha] at e
   cases e
   refine core (fun _=>none) (fun _=>.inl rfl) (.inr ⟨_,vs.toArray,_,hk,rfl,rfl,rfl,by rw[List.size_toArray,lenV];exact hl,by simpa using rv⟩) (fun b u z=>by have z':(none:Option HO)=some u:=z;cases z') (fun b z=>absurd rfl z) fun z=>absurd rfl z
 | none=>
   refine core (fun b=>if b=a then some (.frz {cls:=.type "list",data:=.seq vs.toArray} (.lst (ns.map V.int))) else none) (fun b=> ?_) (.inl (.inr ⟨{cls:=.type "list",data:=.seq vs.toArray},if_pos rfl⟩)) (fun b u z=> ?_) (fun b z=> ?_) fun _=>hk
   · by_cases hb:b=a
     · exact .inr ⟨_,_,if_pos hb⟩
     · exact .inl (if_neg hb)
   · by_cases hb:b=a
     · have z':=(if_pos hb).symm.trans z
       cases z'
       subst hb
       exact⟨ha,by rw[lQm];exact hl,vs,_,rv,ha⟩
     · have z':=(if_neg hb).symm.trans z
       cases z'
   · by_cases hb:b=a
     · exact hb
     · exact absurd (if_neg hb) z
theorem CL{l:PySem.W.OpenLaw}{n k:Nat}{q:Program}{loose:List Str}{XP:(Str->Option Value)->Heap->Prop}{YP:World->Heap->Prop}{d:DefRec}{K:Params->PySem.W.Frag}{CX:World->zF}{sp:World->Sp}{x:Str}
  (hn:l.most=some n) (hn2:n<=sizeLine) (hdf:d.params.defaults= []) (hr:eL k callerA)
  (hY:∀(w:World) (h:Heap),YP w h->(K w.params).In h)
  (F:∀(w:World) (mg:Str->Option Value) (fa:Addr) (h:Heap),(K w.params).In h->h.Ns mainGlobals mg->mg d.name=some (.ref fa)→
   ∃ fd:FuncData,(∀(s:Shared) (u:Value),BindsTo s fd ⟨[u],[]⟩ [(x,u)])∧
     ∀base:Heap,(K w.params).In base->base.Ns mainGlobals mg->bh l.prog w (K w.params) mg base (CX w) k fa fd [x] (sp w))
  (hsp:∀(w:World) (H:Hp) (a:Addr) (ns:List Int),ns.length<=n->Cr H->gX (K w.params) H a (ns.map V.int)->sp w [.ref a] H (fun v _=>v=.bl true) fun _ _ _=>False)
  (hCX:∀(w:World) (H:Hp) (s:Shared) (e:Value) (s':Shared),CX w [] H s (fun _ _ _=>False) e s'->False):
  PySem.W.WalkO q loose XP YP l.row.toRowW d [] (fun f vs=>PySem.call f vs):=by
 refine Att.uK hn hdf fun w s₀ s₁ mg mb fa o pm cd doc a vs ns G Y ho hd hcd hmg hobj hints hlen hg=> ?_
 have KX:=hY w _ Y
 obtain⟨fd,hb,hF⟩:=F w mg fa _ KX G.T.g hmg
 exact Aa KX G.T.g G.T.b G.T.builtins G.T.nolimit hg hobj hints (Nat.le_trans hlen hn2) hr hF hb (fun H hO hS=>hsp w H a ns hlen hO hS) fun H e s'=>hCX w H s₁ e s'
def fI(s:Stmt):Arguments:=match s with
 |.FunctionDef _ a _ _ _ _ _ _ _ _=>a
 |_=>{posonlyargs:= [],args:= [],vararg:=none,kwonlyargs:= [],kw_defaults:= [],kwarg:=none,defaults:= []}
def eQ(s:Stmt):List Stmt:=match s with
 |.FunctionDef _ _ b _ _ _ _ _ _ _=>b
 |_=> []
def ar(s:Stmt):Scope:=match s with
 |.FunctionDef _ _ _ _ _ _ sc _ _ _=>sc
 |_=>{kind:=.function,names:= [],isGenerator:=false,isCoroutine:=false}
abbrev dt:zF:=fun _ _ _ _ _ _=>False
abbrev E0:XK:=fun _ _ _=>False
theorem AE{X:Cx}:xg dt X E0:=fun _ _ _ _ _ _ _ h=>h.elim
structure dR(K:PySem.W.Frag)(x qual:Str)(st:Stmt)(f:Addr)(fd:FuncData):Prop where
 ex:∃(oc:Value) (od:Option Addr) (kV doc pm:Value) (an:Option Addr) (cdv ct:Value) (osl:Array (Option Value)),
  fd=PySem.W.fnOf x qual (fI st) (eQ st) (ar st) .none kV doc pm an cdv ct/\K.lookup f=some ⟨oc,od,.func fd,osl⟩/\PySem.W.codeIn K cdv qual=true
 kp:PySem.W.keepIn K (.ref f)=true
section
variable{P:Program}{w:World}{K:PySem.W.Frag}{mg:Str->Option Value}{base:Heap}
theorem dR.ok{x qual:Str}{st:Stmt}{f:Addr}{fd:FuncData}{N ps:List Str}{k:Nat}{sp:Sp}(F:dR K x qual st f fd)(S:aB N ps (ar st))(len:∀vs H Q E,sp vs H Q E->vs.length=ps.length)
  (hbody:∀(cdv:Value) (A:Around) (outer:List Env) (s:Shared) (H:Hp) (vs:List V) (Q:VK) (E:XK),eL k (A.deeper (envOfC qual (ar st) s.heap.objs.size f cdv))->sp vs H Q E→
   ∃t,oB (wA dt P w K mg base N qual (ar st) f cdv A outer s H E).nox (eQ st) t/\t {nx:=fun _ H'=>Q .non H',rt:=Q} (start N vs) H):bh P w K mg base dt (k+1) f fd ps sp:=by
 obtain⟨oc,od,kV,doc,pm,an,cdv,ct,osl,rfl,lk,hcd⟩:=F.ex
 refine Fu lk hcd S len fun A outer s H vs Q E hr hsp=> ?_
 obtain⟨t,h,q⟩:=hbody cdv A outer s H vs Q E hr hsp
 exact⟨t,h.nox,q⟩
theorem dR.binds{x qual:Str}{st:Stmt}{f:Addr}{fd:FuncData}{ps:List Str}(F:dR K x qual st f fd)
  (h:∀(kV doc pm:Value) (an:Option Addr) (cdv ct:Value) (us:List Value),us.length=ps.length->bindArgs (PySem.W.fnOf x qual (fI st) (eQ st) (ar st) .none kV doc pm an cdv ct) ⟨us,[]⟩=pure (ps.zip us)):Binds K fd ps []:=by
 obtain⟨oc,od,kV,doc,pm,an,cdv,ct,osl,rfl,lk,hcd⟩:=F.ex
 exact .all (h kV doc pm an cdv ct)
theorem xG{x qual:Str}{st:Stmt}{f:Addr}{oc:Value}{od an:Option Addr}{osl:Array (Option Value)}{kV doc pm cdv ct:Value}(l:K.lookup f=some ⟨oc,od,.func (PySem.W.fnOf x qual (fI st) (eQ st) (ar st) .none kV doc pm an cdv ct),osl⟩)
  (c:PySem.W.codeIn K cdv qual=true) (k:PySem.W.keepIn K (.ref f)=true):dR K x qual st f (PySem.W.fnOf x qual (fI st) (eQ st) (ar st) .none kV doc pm an cdv ct):=⟨⟨oc,od,kV,doc,pm,an,cdv,ct,osl,rfl,l,c⟩,k⟩
end
theorem C4{A:Around}{k:Nat}(hr:eL k A):A.units+1<cLine:=Nat.lt_of_le_of_lt (Nat.add_le_add_left (by decide:1<=64) _) hr.units
theorem a8{n:Nat}(h:n<=1000):n<sizeLine:=Nat.lt_of_le_of_lt h (by decide)
section
variable{X:Cx}
theorem pv(i:Nat){x:Str}{pos:Pos}(hN:X.N[i]?=some x:=by rfl)(hv:Dm X.env.scope x:=by first|exact Or.inl rfl|exact Or.inr (Or.inl rfl)|exact Or.inr (Or.inr rfl))(hd:(x==("__debug__":Str))=false:=by decide)
  (hcd:(x==("__classdict__":Str))=false:=by decide):PE X (.Name x pos) (ER i):=z4 hN hv hd hcd
end
section
variable{prog:Program}{w:World}{A:Around}{s:Shared}
theorem lU{elt target iter:Expr}{ifs:List Expr}{scope:Scope}{pos:Pos}{it acc:Value}{env:Env}{R:Result->Shared->Prop}(I:Nat->Shared->Prop)
  (turn:∀n s,I n s->wpAny (model prog w) A (pyNext it) (fun r s₁=>match r with
   |none=>R (.ok .next) s₁
   |some v=>wpAny (model prog w) A (letOwnedTupleGo target it v) (fun _ s₁'=>wpAny (model prog w) A (assign target env v) (fun _ s₂=>
     wpAny (model prog w) A (forIn ifs true fun c r=>if r=true then do let ok←isTrue c env (eval c env);pure (ForInStep.yield ok) else pure (ForInStep.yield r)) (fun ok s₃=>
      if ok=true then wpAny (model prog w) A (eval elt env) (fun x s₄=>
       wpAny (model prog w) A (call (.builtin "list.append") [acc,x]) (fun _ s₅=>∃m,m<n/\I m s₅) (fun _ _=>False) s₄) (fun _ _=>False) s₃
      else∃m,m<n/\I m s₃) (fun _ _=>False) s₂) (fun _ _=>False) s₁') (fun _ _=>False) s₁) (fun _ _=>False) s)
  (n:Nat) (h:I n s):codeAny (model prog w) A (.compLoop (.ListComp elt [⟨target,iter,ifs,0⟩] scope pos) 0 it acc env) R s:=by
 refine codeAny_loop rfl I (fun n s hI=> ?_) n h
 show wpAny _ A ((compTurn (.ListComp elt [⟨target,iter,ifs,0⟩] scope pos) 0 it acc env).onRaise (fun x=>do noteFrame x env;theTreesLotGoes x)) _ _ s
 refine wpAny_noted ?_
 rw[compTurn_list]
 refine wpAny_bind (wpAny_standAt (wpAny_bind (wpAny_mono (turn n s hI) (fun r s₁ h₁=> ?_) fun _ _ h'=>h'.elim)))
 cases r with
 |none=>exact wpAny_pure h₁
 | some v=>
   refine wpAny_bind (wpAny_mono h₁ (fun _ s₁' h₁'=> ?_) fun _ _ h'=>h'.elim)
   refine wpAny_bind (wpAny_mono h₁' (fun _ s₂ h₂=>wpAny_bind (wpAny_mono h₂ (fun ok s₃ h₃=> ?_) fun _ _ h'=>h'.elim)) fun _ _ h'=>h'.elim)
   cases ok with
   |false=>exact wpAny_pure ⟨rfl,h₃⟩
   | true=>
     exact wpAny_bind (wpAny_bind (wpAny_mono h₃ (fun x s₄ h₄=>wpAny_bind (wpAny_mono h₄ (fun _ s₅ h₅=>wpAny_pure (wpAny_pure ⟨rfl,h₅⟩)) fun _ _ h'=>h'.elim)) fun _ _ h'=>h'.elim))
end
def aQ(X:Cx)(N:List Str)(scope:Scope)(cl:List (Str×Addr))(C:Addr)(s:Shared)(H:Hp)(fp:List Addr):Cx where
 prog:=X.prog
 w:=X.w
 K:=X.K
 mg:=X.mg
 base:=X.base
 A:=X.A
 N:=N
 s₀:=s
 H₀:=H
 env:=compEnvC scope cl C X.env
 outer:=X.stack
 stack:=X.stack
 ex:=fp
 fn:=fun _=>false
 calm:=X.calm
 pn:= []
 xe:=fun _ _=>False
def iI(js:List (Option Nat))(σ:St):St:=js.map fun o=>o.bind fun j=>σ.getD j none
structure aN(X:Cx)(N:List Str)(js:List (Option Nat))(scope:Scope)(cl:List (Str×Addr)):Prop where
 kind:scope.kind=.function
 nocell:∀y∈scope.names,y.2≠.cell
 names:∀y∈scope.names,y.2=.local->scope.names.lookup y.1=some .local
 clos:closureFor scope X.env=pure cl
 sub:∀x c,cl.lookup x=some c->X.env.cells.lookup x=some c
 has:∀x,((relabel scope X.env).names.lookup x=some .cell\/(relabel scope X.env).names.lookup x=some .free)->∃c,cl.lookup x=some c
 cap:∀(k j:Nat) (x:Str),js[k]?=some (some j)->N[k]?=some x->X.N[j]?=some x/\(X.env.kindOf x=some .cell\/X.env.kindOf x=some .free)/\((relabel scope X.env).names.lookup x=some .cell\/(relabel scope X.env).names.lookup x=some .free)
 len:js.length=N.length
def oa(X:Cx)(ifs:List Expr)(t:TT):Prop:=
 ∀ (pins:List (Addr×Obj)) (s:Shared) (σ:St) (H:Hp) (Q:Bool->Hp->Prop),Inv X pins σ H s->t σ H Q→
   wpAny (model X.prog X.w) X.A (forIn ifs true fun c r=>if r=true then do let ok←isTrue c X.env (eval c X.env);pure (ForInStep.yield ok) else pure (ForInStep.yield r)) (TP X pins σ Q) X.xe s
theorem Ea{X:Cx}:oa X [] (fun _ H Q=>Q true H):=fun _ _ _ H _ I h=>wpAny_tests_nil ⟨H,I,h⟩
theorem DU{X:Cx}{c:Expr}{t:TT}(hc:PT X c t):oa X [c] t:=fun pins s σ H Q I h=>
 wpAny_tests_one (cz (hc pins s σ H Q I h) fun ok s' h'=>h')
def Gh(J:It)(g:TG)(tt:TT)(te:TE)(Q:VK)(D:Addr)(σ:St)(H:Hp):Prop:=
 ∃ W:Nat->Nat->St->Hp->Prop,(∃m,W 0 m σ H)/\∀i m σ' H',W i m σ' H'→
   (J.stop i H'/\Q (.ref D) H')\/(J.go i H'/\∃Nx:St->Hp->Prop,(∀σ'' H'',Nx σ'' H''->∃m',m'<m/\W (i+1) m' σ'' H'')∧
     ∀ x H2,J.yld i H' x H2->g x σ' H2 fun σ3 H3=>tt σ3 H3 fun ok H4=>
       if ok=true then te σ3 H4 fun y H5=>∃xs,H5 D=some (.lst xs)/\xs.length<sizeLine/\Nx σ3 (upd H5 D (.lst (xs++ [y]))) else Nx σ3 H4)
def A2(js:List (Option Nat))(wi:TI)(g:TG)(tt:TT)(te:TE):TE:=fun σ H Q=>wi σ H fun J H1=>∀D,H1 D=none->Gh J g tt te Q D (iI js σ) (upd H1 D (.lst []))
theorem BO{X:Cx}{N:List Str}{js:List (Option Nat)}{scope:Scope}{cl:List (Str×Addr)}{tg iter elt:Expr}{ifs:List Expr}{pos:Pos}{wi:TI}{g:TG}{tt:TT}{te:TE}
  (S:aN X N js scope cl) (hc:X.calm=true) (hi:PI X tg iter wi)
  (hg:∀C s H fp,PG (aQ X N scope cl C s H fp) tg g) (ht:∀C s H fp,oa (aQ X N scope cl C s H fp) ifs tt) (he:∀C s H fp,PE (aQ X N scope cl C s H fp) elt te)
  (hs:∀x,foldedSetIterable iter X.env x=pure x:=by intro _;rfl):PE X (.ListComp elt [⟨tg,iter,ifs,0⟩] scope pos) (A2 js wi g tt te):=by
 intro pins s σ H Q I h
 rw[eval_ListComp]
 refine wpAny_comprehension_free (use:=none) rfl hs S.clos S.kind S.names (cz (hi pins s σ H _ I h) fun v s1 h1=>cz h1 fun itv s2 h2=> ?_)
 obtain⟨it,fp,tn,J,H2,e,I2,T,st2,f2,hD⟩:=h2
 subst e
 refine wpAny_newObj_type (wpAny_newFunctionEnv S.nocell (by intro y hy;simp at hy) (fun h₁ hns₁ hsb₁=> ?_) S.kind)
 dsimp only at hns₁ hsb₁⊢
 generalize hH2:s2.heap.push {cls:=.type "list",dict:=none,data:=.seq ([]:List Value).toArray}=P2 at hns₁ hsb₁⊢
 have hC:P2.objs.size=s2.heap.objs.size+1:=by rw[←hH2,Heap.size_push]
 have hDC:s2.heap.objs.size≠P2.objs.size:=by rw[hC];exact Nat.ne_of_lt (Nat.lt_succ_self _)
 have hCle:s2.heap.objs.size<=P2.objs.size:=by rw[hC];exact Nat.le_succ _
 have below:∀b,b<s2.heap.objs.size->b≠P2.objs.size:=fun b hb=>by rw[hC];exact Nat.ne_of_lt (Nat.lt_succ_of_lt hb)
 have old:∀b o,s2.heap.get? b=some o->h₁.get? b=some o:=fun b o e=>hsb₁.extBut b o (below b (Heap.lt_size e)) (Heap.get?_push_of_some _ (hH2▸Heap.get?_push_of_some _ e))
 have hnew:h₁.get? s2.heap.objs.size=some {cls:=.type "list",dict:=none,data:=.seq ([]:List Value).toArray}:=hsb₁.extBut _ _ hDC (Heap.get?_push_of_some _ (hH2▸Heap.get?_push_size _ rfl))
 have nD:H2 s2.heap.objs.size=none:=I2.fresh
 have nC:H2 P2.objs.size=none:=I2.hok.fresh hCle
 have fpo:∀b∈fp,b<s2.heap.objs.size:=fun b hb=>by
  obtain⟨o,e,_⟩:=T.obj _ _ st2 b hb
  exact Heap.lt_size e
 obtain⟨W,⟨m0,w0⟩,turn⟩:=hD s2.heap.objs.size nD
 have ok':(aQ X N scope cl P2.objs.size s2 H2 fp).Ok:=by
  refine⟨I2.ok.mod,S.kind,I2.ok.glob,I2.ok.blt,hCle,fun x y c h1 h2=>I2.ok.inj x y c (S.sub x c h1) (S.sub y c h2),S.has,(fun x c h=>by cases h),I2.ok.hd,I2.ok.frames,.inl rfl,
   fun b hb=>⟨below b (fpo b hb),fun x c h=>(f2 b hb).2.2.2.2.1 x c (S.sub x c h)⟩,I2.bs,Nat.le_trans I2.ok.bsz I2.sz,fun b o e hb=> ?_,fun b hb z=> ?_,I2.stack,I2.stkFree⟩
  ·rcases(f2 b hb).2.2.2.1 with z|z
   ·exact I2.ok.noex b o e z
   ·exact absurd (Nat.lt_of_lt_of_le (Nat.lt_of_lt_of_le (Heap.lt_size e) I2.ok.bsz) z) (Nat.lt_irrefl _)
  ·rcases List.mem_cons.mp (I2.stkSub b z) with q|q
   ·exact(f2 b hb).2.1 q
   ·exact(f2 b hb).2.2.1 q
 have hobj:cG X.prog X.w (upd H2 s2.heap.objs.size (.lst [])) h₁ s2.heap.objs.size (.lst []):=⟨Nat.zero_le _,[],0,.nil,hnew⟩
 have I4:Inv (aQ X N scope cl P2.objs.size s2 H2 fp) [] (iI js σ) (upd H2 s2.heap.objs.size (.lst [])) {s2 with heap:=h₁,toks:=s2.toks+([]:List (Str×Value)).length}:=by
  refine⟨ok',rfl,I2.bare,Un.laid old (Nat.le_refl _) nD,⟨_,hns₁,fun i x v h1 h2 h3=> ?_⟩,fun x c h=> ?_,by show upd H2 _ _ P2.objs.size=none;rw[a_ hDC.symm];exact nC,fun x c h=> ?_,fun p hp=>absurd (show p∈([]:List (Addr×Obj)) from hp) (by simp),I2.hok.laid old (Nat.le_refl _) hobj,by show(iI js σ).length=N.length;unfold iI;rw[lQm];exact S.len⟩
  ·unfold iI at h2
   rw[gQm] at h2
   cases e:js[i]? with
   |none=>rw[e] at h2;cases h2
   | some o=>
     rw[e] at h2
     cases o with
     |none=>cases h2
     | some j=>
       have h2':σ.getD j none=some v:=Option.some.inj h2
       have hj:σ[j]?=some (some v):=by
         rw[List.getD_eq_getElem?_getD] at h2'
         cases q:σ[j]? with
         |none=>rw[q] at h2';cases h2'
         |some y=>rw[q] at h2';exact congrArg some h2'
       obtain⟨c1,c2,c3⟩:=S.cap i j x e h1
       obtain⟨m,hn,hl⟩:=I2.loc
       have vis:Dm X.env.scope x:=by
         rcases c2 with z|z
         · exact .inr (.inl z)
         · exact .inr (.inr z)
       obtain⟨u,r,l⟩:=hl j x v c1 hj vis
       refine⟨u,r,.inr ⟨c3,?_⟩⟩
       obtain⟨c,hc'⟩:=S.has x c3
       refine⟨c,hc',?_⟩
       rcases l with⟨z,_⟩|⟨_,c',e',z⟩
       · rcases c2 with y|y <;>rw[y] at z <;>cases z
       · rw[S.sub x c hc'] at e'
         cases e'
         obtain⟨o,ho,hd⟩:=z
         exact⟨o,old _ _ ho,hd⟩
  ·obtain⟨v,o,ho,hd⟩:=I2.cell x c (S.sub x c h)
   exact⟨v,o,old _ _ ho,hd⟩
  ·obtain⟨v,o,ho,hd⟩:=I2.cell x c (S.sub x c h)
   rw[a_ (Nat.ne_of_lt (Heap.lt_size ho))]
   exact I2.freeC x c (S.sub x c h)
 have stat:∀{pins':List (Addr×Obj)} {H':Hp},pins'= []->(∀b∈fp,H' b=none)->∀b∈fp,mU (aQ X N scope cl P2.objs.size s2 H2 fp) pins' H' b:=fun{pins' H'} ep hn b hb=>by
  subst ep
  refine⟨hn b hb,below b (fpo b hb),fun z=>ok'.exfs b hb z,.inl hb,fun x c h=>(f2 b hb).2.2.2.2.1 x c (S.sub x c h),fun p hp=>absurd (show p∈([]:List (Addr×Obj)) from hp) (by simp)⟩
 have loop:codeAny (model X.prog X.w) X.A (.compLoop (.ListComp elt [⟨tg,iter,ifs,0⟩] scope pos) 0 (.ref it) (.ref s2.heap.objs.size) (compEnvC scope cl P2.objs.size X.env))
   (compPost (model X.prog X.w) X.A X.xe none (EP X pins σ Q) (.ref s2.heap.objs.size) P2.objs.size) {s2 with heap:=h₁,toks:=s2.toks+([]:List (Str×Value)).length}:=by
  refine lU (fun n s'=>∃i σ' H',Inv (aQ X N scope cl P2.objs.size s2 H2 fp) [] σ' H' s'/\tn i s'.heap/\(∀b∈fp,H' b=none)/\W i n σ' H') ?_ m0
   ⟨0,_,_,I4,T.keep _ _ _ st2 fun b _ o e=>old b o e,fun b hb=>by rw[a_ (Nat.ne_of_lt (fpo b hb))];exact(f2 b hb).1,w0⟩
  rintro n s3 ⟨i,σ3,H3,I3,st3,fr3,w3⟩
  rcases turn i n σ3 H3 w3 with⟨stop,q⟩|⟨go,Nx,hN,step⟩
  ·refine cz (T.done (aQ X N scope cl P2.objs.size s2 H2 fp) rfl rfl rfl hc i [] s3 σ3 H3 _ I3 (stat rfl fr3) st3 stop) fun r s4 qr=> ?_
   obtain⟨hr,I5⟩:=qr
   subst hr
   obtain⟨m,hn,_⟩:=id I5.loc
   refine⟨m,hn,fun h' hs'=>⟨.ref s2.heap.objs.size,H3,?_,rfl,q⟩⟩
   have u:=I5.base
   have ne:∀b o,s2.heap.get? b=some o->b≠P2.objs.size:=fun b o e=>below b (Heap.lt_size e)
   refine I2.call' (ch:=fp) I5.os ⟨fun b o e n hb hx=>(hs'.2 b (ne b o e)).trans (u.keep b o e n hb hx),fun b o e n hb hx=> ?_,u.free,fun b o e hx=> ?_,u.tups,u.frzs,u.tbls⟩ (fun b ob e=> ?_) I5.bare fun b hb=>⟨(f2 b hb).2.2.2.1,(f2 b hb).2.1,(f2 b hb).2.2.2.2.1,(f2 b hb).2.2.2.2.2⟩
   ·obtain⟨sl,e1⟩:=u.slot b o e n hb hx
    exact⟨sl,(hs'.2 b (ne b o e)).trans e1⟩
   ·obtain⟨o',e1⟩:=u.there b o e hx
    exact⟨o',(hs'.2 b (ne b o e)).trans e1⟩
   ·refine(I5.hok b ob e).stay (fun c w' hc q=>(hs'.2 c ?_).trans q) (fun _ q=>q) fun _ _ q=>q
    have fC:H3 P2.objs.size=none:=I5.free
    rintro rfl
    rcases hc with z|z
    ·rw[←z,fC] at e;cases e
    ·rw[fC] at z;cases z
  ·refine cz (T.item (aQ X N scope cl P2.objs.size s2 H2 fp) rfl rfl rfl hc i [] s3 σ3 H3 _ I3 (stat rfl fr3) st3 go) fun r s4 qr=> ?_
   obtain⟨u,hr,h4⟩:=qr
   subst hr
   refine cz h4 fun _ s5 qr=> ?_
   obtain⟨x,H5,I5,r5,y5,st5,fr5⟩:=qr
   have I5':=I5.pinned (stat rfl fr5) (T.obj _ _ st5)
   refine cz (hg P2.objs.size s2 H2 fp _ s5 σ3 H5 x u _ I5' r5 (step x H5 y5)) fun _ s6 qr=> ?_
   obtain⟨σ6,H6,I6,q6⟩:=qr
   refine cz (ht P2.objs.size s2 H2 fp _ s6 σ6 H6 _ I6 q6) fun ok s7 qr=> ?_
   obtain⟨H7,I7,q7⟩:=qr
   have again:∀{s8:Shared} {H8:Hp},Inv (aQ X N scope cl P2.objs.size s2 H2 fp) ([]++kM fp s5.heap) σ6 H8 s8->Nx σ6 H8->∃m,m<n/\∃i σ' H',Inv (aQ X N scope cl P2.objs.size s2 H2 fp) [] σ' H' s8/\tn i s8.heap/\(∀b∈fp,H' b=none)/\W i m σ' H':=fun{s8 H8} I8 n8=>by
    obtain⟨m',hm,w8⟩:=hN σ6 H8 n8
    refine⟨m',hm,i+1,σ6,H8,I8.unpinned,T.keep _ _ _ st5 fun b hb o e=>(I8.pin (b,o) (List.mem_append_right _ (List.mem_append_right _ (cY hb e)))).1,fun b hb=> ?_,w8⟩
    obtain⟨o,e,d⟩:=T.obj _ _ st5 b hb
    exact(I8.pin (b,o) (List.mem_append_right _ (List.mem_append_right _ (cY hb e)))).2.1
   cases ok with
   |false=>exact again I7 q7
   | true=>
     refine cz (he P2.objs.size s2 H2 fp _ s7 σ6 H7 _ I7 q7) fun yv s8 qr=> ?_
     obtain⟨y,H8,I8,ry,xs,hx,hl,n8⟩:=qr
     refine cz (mB (X:=aQ X N scope cl P2.objs.size s2 H2 fp) _ s8 σ6 H8 (.ref s2.heap.objs.size) [y] (.ref s2.heap.objs.size) [yv] (fun _ H'=>Nx σ6 H') I8 rfl (.cons ry .nil) ⟨_,xs,y,rfl,rfl,hx,hl,n8⟩) fun _ s9 qr=> ?_
     obtain⟨z,H9,I9,_,q9⟩:=qr
     exact again I9 q9
 exact codeAny_compStart_list loop (T.self _ 0 _ _ _ (T.keep _ _ _ st2 fun b _ o e=>old b o e) loop)
section
variable{X:Cx}
theorem A5:i0 X (.builtin "isinstance") (fun xs H Q=>∃x T t b,xs= [x,.ty T]/\mI X.K H x t/\PySem.W.kitOne X.K t (.type T)=some b/\Q (.bl b) H):=by
 intro pins s σ H xs us Q I r h
 obtain⟨x,T,t,b,rfl,ty,e,q⟩:=h
 obtain⟨u,u',rfl,rx,rt⟩:=vals2 r
 cases (show u'=Value.type T from rt)
 exact zE I rx ty e fun tk=>⟨.bl b,H,I.tok tk,rfl,q⟩
def yf:List V->List V->Bool
 | [],[]=>true
 |x::xs,y::ys=>jQ x y&&yf xs ys
 |_,_=>false
theorem yB:∀{xs ys:List V},xs.length≠ys.length->yf xs ys=false
 | [],[],h=>absurd rfl h
 | [],_::_,_=>rfl
 |_::_,[],_=>rfl
 | x::xs,y::ys,h=>by
   have:=yB (xs:=xs) (ys:=ys) fun e=>h (by simp[e])
   show(jQ x y&&yf xs ys)=false
   rw[this,Bool.and_false]
theorem ym:∀{xs ys:List V},xs.length=ys.length->(List.range xs.length).all (fun j=>jQ (xs.getD j .non) (ys.getD j .non))=yf xs ys
 | [],[],_=>rfl
 | [],_::_,h=>by cases h
 |_::_,[],h=>by cases h
 | x::xs,y::ys,h=>by
   have ih:=ym (xs:=xs) (ys:=ys) (Nat.succ.inj h)
   rw[List.length_cons,List.range_succ_eq_map,List.all_cons,List.all_map]
   show(jQ x y&&_)=(jQ x y&&yf xs ys)
   rw[←ih]
   rfl
theorem DN{A:Around}{s:Shared}{xs ys:List V}{us vs:List Value}(r:bt xs us)(r':bt ys vs)(f:xs.all eS=true)(f':ys.all eS=true)(j:Nat)(h1:j<us.toArray.size)(h2:j<vs.toArray.size):
  SeqAt.EqAt A s us.toArray[j] vs.toArray[j] (jQ (xs.getD j .non) (ys.getD j .non)):=by
 have l1:=r.length
 have l2:=r'.length
 have g1:j<xs.length:=by rw[l1];simpa using h1
 have g2:j<ys.length:=by rw[l2];simpa using h2
 obtain⟨u,e1,q1⟩:=r.get (gQe g1)
 obtain⟨v,e2,q2⟩:=r'.get (gQe g2)
 have d1:xs.getD j .non=xs[j]:=by rw[List.getD_eq_getElem?_getD,gQe g1];rfl
 have d2:ys.getD j .non=ys[j]:=by rw[List.getD_eq_getElem?_getD,gQe g2];rfl
 have a1:us.toArray[j]=u:=by
  have:=(gQs.mp e1).2
  simpa using this
 have a2:vs.toArray[j]=v:=by
  have:=(gQs.mp e2).2
  simpa using this
 rw[a1,a2,d1,d2]
 exact Ap q1 q2 (List.all_eq_true.mp f _ (List.getElem_mem g1)) (List.all_eq_true.mp f' _ (List.getElem_mem g2))
def FY(K:PySem.W.Frag)(neg:Bool):R2:=fun x y H Q=>∃a b xs ys,x=.ref a/\y=.ref b/\gX K H a xs/\gX K H b ys/\xs.all eS=true/\ys.all eS=true/\Q (.bl (if neg then !yf xs ys else yf xs ys)) H
theorem zJ(hu:X.A.units<cLine):jh X (compareOp .NotEq) (FY X.K true):=by
 intro pins s σ H x y v u Q I rx ry h
 obtain⟨a,b,xs,ys,rfl,rfl,ha,hb,fa,fb,q⟩:=h
 cases rx
 cases ry
 obtain⟨its,r,pl,hz⟩:=I.list ha
 obtain⟨jts,r',pl',hz'⟩:=I.list hb
 by_cases hl:xs.length=ys.length
 ·have hsz:its.toArray.size=jts.toArray.size:=by simp[←r.length,←r'.length,hl]
  refine SeqAt.RcNeAt.lists (e:=fun j=>jQ (xs.getD j .non) (ys.getD j .non)) pl.isList pl'.isList hsz hu (fun j h1 h2=>DN r r' fa fb j h1 h2) _ _ _ _ ⟨.bl _,H,I,rfl,?_⟩
  rw[show its.toArray.size=xs.length by simp[r.length],ym hl]
  exact q
 ·refine SeqAt.RcNeAt.lists_lengths pl.isList pl'.isList (by simpa [←r.length,←r'.length] using hl) hu _ _ _ _ ⟨.bl _,H,I,rfl,?_⟩
  have q':Q (.bl (!yf xs ys)) H:=q
  rw[yB hl] at q'
  exact q'
end
section
variable{X:Cx}
theorem As{bs:List Bool}{its:List Value}(r:bt (bs.map V.bl) its){i:Nat}{v:Value}(h:its.toArray[i]?=some v):v=.bool (bs.getD i false):=by
 have hi:i<its.length:=by
  have:=(Array.getElem?_eq_some_iff.mp h).1
  simpa using this
 have l:=r.length
 rw[lQm] at l
 have hb:i<bs.length:=by omega
 obtain⟨u,e,q⟩:=r.get (i:=i) (x:=V.bl bs[i]) (by rw[gQm,gQe hb];rfl)
 have e':its[i]?=some v:=by simpa using h
 rw[e] at e'
 cases e'
 have d:bs.getD i false=bs[i]:=by rw[List.getD_eq_getElem?_getD,gQe hb];rfl
 rw[d]
 exact q
theorem vP:∀bs:List Bool,(List.range bs.length).any (fun i=>bs.getD i false)=bs.any id
 | []=>rfl
 | b::bs=>by
   rw[List.length_cons,List.range_succ_eq_map,List.any_cons,List.any_map,List.any_cons,←vP bs]
   rfl
def FR(K:PySem.W.Frag)(f:List Bool->Bool):List V->Hp->VK->Prop:=fun xs H Q=>∃a bs,xs= [.ref a]/\gX K H a (bs.map V.bl)/\Q (.bl (f bs)) H
theorem yO(hc:X.calm=true):i0 X (.builtin "any") (FR X.K fun bs=>bs.any id):=by
 intro pins s σ H xs us Q I r h
 obtain⟨a,bs,rfl,ha,q⟩:=h
 obtain⟨u,rfl,rx⟩:=vals1 r
 cases (show u=Value.ref a from rx)
 obtain⟨its,rv,pl,hz⟩:=I.list ha
 have hl:its.toArray.size=bs.length:=by have:=rv.length;simp at this;simp[this]
 have hlt:a<s.heap.objs.size:=by obtain⟨o,e,_⟩:=pl.isList;exact Heap.lt_size e
 refine call_any_walk (wpAny_pyIter_list pl.isList ⟨s.heap.objs.size,_,_,_,_,_,fun i=>bs.getD i false,rfl,Walks.list (A:=X.A.in1) (show X.A.in1.handled=none from I.ok.hd hc) s.heap.objs.size a (Nat.ne_of_lt hlt) its.toArray,⟨⟨_,Heap.get?_push_size _ rfl,rfl,rfl⟩,pl.isList.at fun o e=>Heap.get?_push_of_some _ e⟩,?_,fun h' tk hk=> ?_⟩)
 ·intro i v s' Q' E' hv hq
  rw[As rv hv]
  exact wpAny_truthy_bool hq
 ·rw[hl,vP]
  refine⟨.bl _,H,I.kept (h':=h') fun b o e=>hk b o ?_ (Heap.get?_push_of_some _ e),rfl,q⟩
  have:=Heap.lt_size e
  simp
  exact Nat.ne_of_lt this
end
end L2
namespace Dk
open PySem
theorem pU:mroOf (Value.type "dict")=pure [Value.type "dict",Value.type "object"]:=by
 rw[mroOf_type]
 rfl
theorem ou:typeLookup (Value.type "dict") (Str.ofString "__new__")=pure (some (Value.builtin "dict.__new__")):=by
 rw[typeLookup_type,builtinLookup_eq_fast]
 rfl
theorem vj:isSubtype (Value.type "dict") (Value.type "dict")=pure true:=by
 rw[isSubtype_type]
 rfl
theorem fZ:plainId "dict.__new__"=true:=by decide +kernel
theorem cR:TypeCalled "dict" "dict.__new__" "dict.__init__" where
 notType:=by decide +kernel
 canCreate:=by decide +kernel
 mro:=⟨_,_,pU⟩
 made:=madeBy_type pU ou (by decide +kernel)
 plain:=fZ
 sub:=vj
 init:=F.slot_dict_init
theorem nX(a:Value):checkTypeCall "dict" {pos:= [a]}=pure ():=by rfl
theorem o_(a:Value):checkBuiltinCall "dict.__new__" {pos:= [Value.type "dict",a]}=pure ():=by with_unfolding_all rfl
theorem pk:entryFor table "dict.__new__"=some Builtin.«dict.__new__»:=by rfl
theorem oq{prog:Program}{w:World}{A:Around}{E:Value->Shared->Prop}{s:Shared}(a:Value){Q₁:Value->Shared->Prop}
  (h:Q₁ (.ref s.heap.objs.size) {s with heap:=s.heap.push {cls:=.type "dict",data:=.dict #[]}}):
  codeAny (model prog w) A (.call (.builtin "dict.__new__") {pos:= [.type "dict",a]}) (wants Q₁ E) s:=by
 refine codeAny_of_tree ?_
 show wpAny _ _ (do checkBuiltinCall "dict.__new__" _;_) _ _ _
 refine wpAny_bind (wpAny_of_eq (o_ a) (wpAny_pure ⟨plainId_quiet fZ _,codeAny_builtin pk ?_⟩))
 rw[Around.under_plainId fZ]
 refine wpAny_bind (wpAny_pure (wpAny_ite_false rfl (wpAny_bind (wpAny_of_eq vj (wpAny_ite_false rfl (wpAny_bind (wpAny_of_eq pU (wpAny_ite_false ?_ ?_))))))))
 ·rfl
 ·refine wpAny_bind ?_
  have e:newObj (.type "dict") (.dict #[])=newObjAsIs (.type "dict") (.dict #[]):=by
   unfold newObj
   simp
  rw[e]
  exact wpAny_bind (wpAny_alloc (wpAny_pure (wpAny_pure h)))
theorem u5{prog:Program}{w:World}{A:Around}{E:Value->Shared->Prop}{s:Shared}{a:Value}{Q:Value->Shared->Prop}
  (h:wpAny (model prog w) A.in1.in1 (Builtin.«dict.__init__» {pos:= [.ref s.heap.objs.size,a]})
   (fun fin s'=>match fin with|.done f=>wants (fun r s₂=>r=.none/\Q (.ref s.heap.objs.size) s₂) E (.ok f) s'|.again c'=>c'.quiet=true/\codeAny (model prog w) A.in1 c' (wants (fun r s₂=>r=.none/\Q (.ref s.heap.objs.size) s₂) E) s')
   (fun e s'=>wants (fun r s₂=>r=.none/\Q (.ref s.heap.objs.size) s₂) E (.error e) s') {s with heap:=s.heap.push {cls:=.type "dict",data:=.dict #[]}}):
  wpAny (model prog w) A (call (.type "dict") [a]) Q E s:=by
 obtain⟨c,tl,hmro⟩:=cR.mro
 have hmade:=cR.made
 have hsub:=cR.sub
 refine wpAny_call (codeAny_of_tree ?_)
 refine wpAny_pure ⟨Code.quiet_builtin _ (by decide +kernel),codeAny_builtin F.entry_type_call ?_⟩
 rw[Around.under_plain (weight_type_call_type "dict" [a] []) rfl]
 have h1:=cR.notType
 have h2:=cR.canCreate
 have hct:=nX a
 unfold Builtin.«type.__call__»
 dsimp only
 refine wpAny_ite_false rfl ?_
 refine wpAny_ite_false (by rw[h2];rfl) ?_
 refine wpAny_bind (wpAny_of_eq hct (wpAny_bind (wpAny_of_eq hmro (wpAny_ite_false rfl (wpAny_bind (wpAny_of_eq hmade (wpAny_bind (wpAny_pure (wpAny_bind (wpAny_holding (wpAny_call (codeAny_mono (oq (E:=E) (Q₁:=fun v s₁=>v=.ref s.heap.objs.size/\s₁={s with heap:=s.heap.push {cls:=.type "dict",data:=.dict #[]}}) a ⟨rfl,rfl⟩) fun r s₁ hr=> ?_))))))))))))
 cases r with
 |error e=>exact hr
 | ok fl=>
   cases fl with
   | ret obj=>
     obtain⟨rfl,rfl⟩:=hr
     have hS:=Heap.get?_push_size s.heap (o:={cls:=.type "dict",data:=.dict #[]}) rfl
     have hT:Shared.TypeIs {s with heap:=s.heap.push {cls:=.type "dict",data:=.dict #[]}} (.ref s.heap.objs.size) "dict":=⟨_,hS,rfl⟩
     have hli:=cR.init.lookup
     have hbi:=cR.init.bind (.ref s.heap.objs.size)
     refine wpAny_bind (wpAny_isInstance hT hsub (wpAny_ite_false rfl (wpAny_bind (wpAny_holding ?_))))
     unfold callSpecial?
     refine wpAny_bind (wpAny_specialOf hT hli (wpAny_holding (wpAny_bind (wpAny_of_eq hbi (wpAny_bind (wpAny_call (codeAny_mono (codeAny_call_builtin cR.init.plain F.entry_dict_init (cR.init.check _ _ _ _ _ [a] [] _ hT (F.args_dict_init_2 _ _) h)) fun r s₂ hr=> ?_)))))))
     cases r with
     |error e=>exact hr
     | ok fl=>
       cases fl with
       | ret v=>
         obtain⟨rfl,hq⟩:=hr
         exact wpAny_pure (wpAny_ite_false rfl (wpAny_pure hq))
       |_=>exact hr.elim
   |_=>exact hr.elim
theorem iY:entryFor table "dict.update.loop"=some Builtin.«dict.update.loop»:=by rfl
theorem fA:plainId "dict.update.loop"=true:=by decide +kernel
section
variable{prog:Program}{w:World}{K:Type}[DecidableEq K]{knd:KeyKind prog w K}
theorem wB(kvs:List (K×Value))(k:K)(v:Value):(stored kvs k v).length<=kvs.length+1:=by
 unfold stored
 split
 ·rw[lQm];omega
 ·rw[lQa];simp
def Ef(kk:Nat->K)(vv:Nat->Value):Nat->List (K×Value)
 |0=> []
 |i+1=>stored (Ef kk vv i) (kk i) (vv i)
theorem yi(kk:Nat->K)(vv:Nat->Value):∀i,(Ef kk vv i).length<=i
 |0=>Nat.le_refl _
 |i+1=>Nat.le_trans (wB _ _ _) (Nat.succ_le_succ (yi kk vv i))
end
end Dk
namespace L2
open PySem PySem.Spec PyProof.Rows
section
variable{X:Cx}
theorem key_is{k:Key}{u:Value}(r:RelV (kV k) u)(P:Program)(w:World):(bF P w).is k u=true:=by
 cases k with
 |inl i=>obtain⟨t,rfl⟩:=(show∃t,u=Value.int i t from r);simp[bF,m8,Value.isInt]
 |inr x=>obtain⟨t,rfl⟩:=(show∃t,u=Value.str x t from r);simp[bF,m8,Value.isStrOf]
end
end L2
namespace Dk
open PySem
end Dk
namespace L2
open PySem PySem.Spec PyProof.Rows
theorem Cw{X:Cx}{N:List Str}{js:List (Option Nat)}{scope:Scope}{cl:List (Str×Addr)}{tg iter elt tgt:Expr}{ifs:List Expr}{pos spos:Pos}{wi:TI}{g gt:TG}{tt:TT}{te:TE}
  (S:aN X N js scope cl) (hc:X.calm=true) (hi:PI X tg iter wi)
  (hg:∀C s H fp,PG (aQ X N scope cl C s H fp) tg g) (ht:∀C s H fp,oa (aQ X N scope cl C s H fp) ifs tt) (he:∀C s H fp,PE (aQ X N scope cl C s H fp) elt te) (hgt:PG X tgt gt)
  (hs:∀x,foldedSetIterable iter X.env x=pure x:=by intro _;rfl) (hsw:swapsWithSole [tgt] (.ListComp elt [⟨tg,iter,ifs,0⟩] scope pos) spos.line X.env=pure true:=by rfl)
  (h1:(assignEach [tgt] X.env).map (·.2)= [assign tgt X.env]:=by rfl):PS X (.Assign [tgt] (.ListComp elt [⟨tg,iter,ifs,0⟩] scope pos) spos) (yG (A2 js wi g tt te) gt):=by
 intro pins s σ H Dn I h
 rw[exec_Assign_arm]
 refine wpAny_bind (wpAny_standAt (wpAny_bind (wpAny_of_eq hsw (wpAny_ite_true rfl (wpAny_bind ?_)))))
 rw[h1]
 show wpAny _ _ (do let _←comprehension _ _ _ _ _ _ _ (some fun v=>assignAll v [assign tgt X.env]);pure ()) _ _ _
 refine wpAny_bind ?_
 refine wpAny_comprehension_free (use:=some fun v=>assignAll v [assign tgt X.env]) rfl hs S.clos S.kind S.names (cz (hi pins s σ H _ I h) fun v s1 h1=>cz h1 fun itv s2 h2=> ?_)
 obtain⟨it,fp,tn,J,H2,e,I2,T,st2,f2,hD⟩:=h2
 subst e
 refine wpAny_newObj_type (wpAny_newFunctionEnv S.nocell (by intro y hy;simp at hy) (fun h₁ hns₁ hsb₁=> ?_) S.kind)
 dsimp only at hns₁ hsb₁⊢
 generalize hH2:s2.heap.push {cls:=.type "list",dict:=none,data:=.seq ([]:List Value).toArray}=P2 at hns₁ hsb₁⊢
 have hC:P2.objs.size=s2.heap.objs.size+1:=by rw[←hH2,Heap.size_push]
 have hDC:s2.heap.objs.size≠P2.objs.size:=by rw[hC];exact Nat.ne_of_lt (Nat.lt_succ_self _)
 have hCle:s2.heap.objs.size<=P2.objs.size:=by rw[hC];exact Nat.le_succ _
 have below:∀b,b<s2.heap.objs.size->b≠P2.objs.size:=fun b hb=>by rw[hC];exact Nat.ne_of_lt (Nat.lt_succ_of_lt hb)
 have old:∀b o,s2.heap.get? b=some o->h₁.get? b=some o:=fun b o e=>hsb₁.extBut b o (below b (Heap.lt_size e)) (Heap.get?_push_of_some _ (hH2▸Heap.get?_push_of_some _ e))
 have hnew:h₁.get? s2.heap.objs.size=some {cls:=.type "list",dict:=none,data:=.seq ([]:List Value).toArray}:=hsb₁.extBut _ _ hDC (Heap.get?_push_of_some _ (hH2▸Heap.get?_push_size _ rfl))
 have nD:H2 s2.heap.objs.size=none:=I2.fresh
 have nC:H2 P2.objs.size=none:=I2.hok.fresh hCle
 have fpo:∀b∈fp,b<s2.heap.objs.size:=fun b hb=>by
  obtain⟨o,e,_⟩:=T.obj _ _ st2 b hb
  exact Heap.lt_size e
 obtain⟨W,⟨m0,w0⟩,turn⟩:=hD s2.heap.objs.size nD
 have ok':(aQ X N scope cl P2.objs.size s2 H2 fp).Ok:=by
  refine⟨I2.ok.mod,S.kind,I2.ok.glob,I2.ok.blt,hCle,fun x y c h1 h2=>I2.ok.inj x y c (S.sub x c h1) (S.sub y c h2),S.has,(fun x c h=>by cases h),I2.ok.hd,I2.ok.frames,.inl rfl,
   fun b hb=>⟨below b (fpo b hb),fun x c h=>(f2 b hb).2.2.2.2.1 x c (S.sub x c h)⟩,I2.bs,Nat.le_trans I2.ok.bsz I2.sz,fun b o e hb=> ?_,fun b hb z=> ?_,I2.stack,I2.stkFree⟩
  ·rcases(f2 b hb).2.2.2.1 with z|z
   ·exact I2.ok.noex b o e z
   ·exact absurd (Nat.lt_of_lt_of_le (Nat.lt_of_lt_of_le (Heap.lt_size e) I2.ok.bsz) z) (Nat.lt_irrefl _)
  ·rcases List.mem_cons.mp (I2.stkSub b z) with q|q
   ·exact(f2 b hb).2.1 q
   ·exact(f2 b hb).2.2.1 q
 have hobj:cG X.prog X.w (upd H2 s2.heap.objs.size (.lst [])) h₁ s2.heap.objs.size (.lst []):=⟨Nat.zero_le _,[],0,.nil,hnew⟩
 have I4:Inv (aQ X N scope cl P2.objs.size s2 H2 fp) [] (iI js σ) (upd H2 s2.heap.objs.size (.lst [])) {s2 with heap:=h₁,toks:=s2.toks+([]:List (Str×Value)).length}:=by
  refine⟨ok',rfl,I2.bare,Un.laid old (Nat.le_refl _) nD,⟨_,hns₁,fun i x v h1 h2 h3=> ?_⟩,fun x c h=> ?_,by show upd H2 _ _ P2.objs.size=none;rw[a_ hDC.symm];exact nC,fun x c h=> ?_,fun p hp=>absurd (show p∈([]:List (Addr×Obj)) from hp) (by simp),I2.hok.laid old (Nat.le_refl _) hobj,by show(iI js σ).length=N.length;unfold iI;rw[lQm];exact S.len⟩
  ·unfold iI at h2
   rw[gQm] at h2
   cases e:js[i]? with
   |none=>rw[e] at h2;cases h2
   | some o=>
     rw[e] at h2
     cases o with
     |none=>cases h2
     | some j=>
       have h2':σ.getD j none=some v:=Option.some.inj h2
       have hj:σ[j]?=some (some v):=by
         rw[List.getD_eq_getElem?_getD] at h2'
         cases q:σ[j]? with
         |none=>rw[q] at h2';cases h2'
         |some y=>rw[q] at h2';exact congrArg some h2'
       obtain⟨c1,c2,c3⟩:=S.cap i j x e h1
       obtain⟨m,hn,hl⟩:=I2.loc
       have vis:Dm X.env.scope x:=by
         rcases c2 with z|z
         · exact .inr (.inl z)
         · exact .inr (.inr z)
       obtain⟨u,r,l⟩:=hl j x v c1 hj vis
       refine⟨u,r,.inr ⟨c3,?_⟩⟩
       obtain⟨c,hc'⟩:=S.has x c3
       refine⟨c,hc',?_⟩
       rcases l with⟨z,_⟩|⟨_,c',e',z⟩
       · rcases c2 with y|y <;>rw[y] at z <;>cases z
       · rw[S.sub x c hc'] at e'
         cases e'
         obtain⟨o,ho,hd⟩:=z
         exact⟨o,old _ _ ho,hd⟩
  ·obtain⟨v,o,ho,hd⟩:=I2.cell x c (S.sub x c h)
   exact⟨v,o,old _ _ ho,hd⟩
  ·obtain⟨v,o,ho,hd⟩:=I2.cell x c (S.sub x c h)
   rw[a_ (Nat.ne_of_lt (Heap.lt_size ho))]
   exact I2.freeC x c (S.sub x c h)
 have stat:∀{pins':List (Addr×Obj)} {H':Hp},pins'= []->(∀b∈fp,H' b=none)->∀b∈fp,mU (aQ X N scope cl P2.objs.size s2 H2 fp) pins' H' b:=fun{pins' H'} ep hn b hb=>by
  subst ep
  refine⟨hn b hb,below b (fpo b hb),fun z=>ok'.exfs b hb z,.inl hb,fun x c h=>(f2 b hb).2.2.2.2.1 x c (S.sub x c h),fun p hp=>absurd (show p∈([]:List (Addr×Obj)) from hp) (by simp)⟩
 have loop:codeAny (model X.prog X.w) X.A (.compLoop (.ListComp elt [⟨tg,iter,ifs,0⟩] scope pos) 0 (.ref it) (.ref s2.heap.objs.size) (compEnvC scope cl P2.objs.size X.env))
   (compPost (model X.prog X.w) X.A X.xe (some fun v=>assignAll v [assign tgt X.env]) (fun _ s9=>wpAny (model X.prog X.w) X.A (pure ()) (fun _ s10=>wpAny (model X.prog X.w) X.A (pure Flow.next) (SP X pins Dn) X.xe s10) X.xe s9) (.ref s2.heap.objs.size) P2.objs.size) {s2 with heap:=h₁,toks:=s2.toks+([]:List (Str×Value)).length}:=by
  refine lU (fun n s'=>∃i σ' H',Inv (aQ X N scope cl P2.objs.size s2 H2 fp) [] σ' H' s'/\tn i s'.heap/\(∀b∈fp,H' b=none)/\W i n σ' H') ?_ m0
   ⟨0,_,_,I4,T.keep _ _ _ st2 fun b _ o e=>old b o e,fun b hb=>by rw[a_ (Nat.ne_of_lt (fpo b hb))];exact(f2 b hb).1,w0⟩
  rintro n s3 ⟨i,σ3,H3,I3,st3,fr3,w3⟩
  rcases turn i n σ3 H3 w3 with⟨stop,q⟩|⟨go,Nx,hN,step⟩
  ·refine cz (T.done (aQ X N scope cl P2.objs.size s2 H2 fp) rfl rfl rfl hc i [] s3 σ3 H3 _ I3 (stat rfl fr3) st3 stop) fun r s4 qr=> ?_
   obtain⟨hr,I5⟩:=qr
   subst hr
   obtain⟨m,hn,_⟩:=id I5.loc
   have toX:∀h',Heap.SameBut P2.objs.size s4.heap h'->Inv X pins σ H3 {s4 with heap:=h'}:=by
    intro h' hs'
    have u:=I5.base
    have ne:∀b o,s2.heap.get? b=some o->b≠P2.objs.size:=fun b o e=>below b (Heap.lt_size e)
    refine I2.call' (ch:=fp) I5.os ⟨fun b o e n hb hx=>(hs'.2 b (ne b o e)).trans (u.keep b o e n hb hx),fun b o e n hb hx=> ?_,u.free,fun b o e hx=> ?_,u.tups,u.frzs,u.tbls⟩ (fun b ob e=> ?_) I5.bare fun b hb=>⟨(f2 b hb).2.2.2.1,(f2 b hb).2.1,(f2 b hb).2.2.2.2.1,(f2 b hb).2.2.2.2.2⟩
    ·obtain⟨sl,e1⟩:=u.slot b o e n hb hx
     exact⟨sl,(hs'.2 b (ne b o e)).trans e1⟩
    ·obtain⟨o',e1⟩:=u.there b o e hx
     exact⟨o',(hs'.2 b (ne b o e)).trans e1⟩
    ·refine(I5.hok b ob e).stay (fun c w' hc q=>(hs'.2 c ?_).trans q) (fun _ q=>q) fun _ _ q=>q
     have fC:H3 P2.objs.size=none:=I5.free
     rintro rfl
     rcases hc with z|z
     ·rw[←z,fC] at e;cases e
     ·rw[fC] at z;cases z
   have IX:=toX s4.heap ⟨rfl,fun _ _=>rfl⟩
   have okC:mU X pins H3 P2.objs.size:=I2.fpOk hCle I5.free
   obtain⟨oC,es,ep,hoC,hdC,hrC⟩:=hn
   have IP:=IX.pinned (fp:= [P2.objs.size]) (fun b hb=>by rw[List.mem_singleton] at hb;rw[hb];exact okC) (fun b hb=>by rw[List.mem_singleton] at hb;rw[hb];exact⟨oC,hoC,fun v=>by rw[hdC];simp⟩)
   show wpAny _ _ (assignAll (.ref s2.heap.objs.size) [assign tgt X.env]) _ _ _
   rw[assignAll.eq_2]
   refine cz (hgt _ s4 σ H3 (.ref s2.heap.objs.size) (.ref s2.heap.objs.size) _ IP rfl q) fun _ s6 qr=> ?_
   obtain⟨σ6,H6,I6,q6⟩:=qr
   have pC:=I6.pin (P2.objs.size,oC) (List.mem_append_right _ (List.mem_append_right _ (cY (List.mem_singleton.mpr rfl) hoC)))
   refine⟨m,⟨oC,es,ep,pC.1,hdC,hrC⟩,fun h' hs'=>wpAny_pure (wpAny_pure ⟨σ6,H6,?_,q6⟩)⟩
   exact I6.unpinned.turned (it:=P2.objs.size) (t':=s6.toks) (fun b o' hb e=>(hs'.2 b hb).trans e) pC.2.1 pC.2.2.1 okC.2.2.2.1 okC.2.2.2.2.1 okC.2.2.2.2.2
  ·refine cz (T.item (aQ X N scope cl P2.objs.size s2 H2 fp) rfl rfl rfl hc i [] s3 σ3 H3 _ I3 (stat rfl fr3) st3 go) fun r s4 qr=> ?_
   obtain⟨u,hr,h4⟩:=qr
   subst hr
   refine cz h4 fun _ s5 qr=> ?_
   obtain⟨x,H5,I5,r5,y5,st5,fr5⟩:=qr
   have I5':=I5.pinned (stat rfl fr5) (T.obj _ _ st5)
   refine cz (hg P2.objs.size s2 H2 fp _ s5 σ3 H5 x u _ I5' r5 (step x H5 y5)) fun _ s6 qr=> ?_
   obtain⟨σ6,H6,I6,q6⟩:=qr
   refine cz (ht P2.objs.size s2 H2 fp _ s6 σ6 H6 _ I6 q6) fun ok s7 qr=> ?_
   obtain⟨H7,I7,q7⟩:=qr
   have again:∀{s8:Shared} {H8:Hp},Inv (aQ X N scope cl P2.objs.size s2 H2 fp) ([]++kM fp s5.heap) σ6 H8 s8->Nx σ6 H8->∃m,m<n/\∃i σ' H',Inv (aQ X N scope cl P2.objs.size s2 H2 fp) [] σ' H' s8/\tn i s8.heap/\(∀b∈fp,H' b=none)/\W i m σ' H':=fun{s8 H8} I8 n8=>by
    obtain⟨m',hm,w8⟩:=hN σ6 H8 n8
    refine⟨m',hm,i+1,σ6,H8,I8.unpinned,T.keep _ _ _ st5 fun b hb o e=>(I8.pin (b,o) (List.mem_append_right _ (List.mem_append_right _ (cY hb e)))).1,fun b hb=> ?_,w8⟩
    obtain⟨o,e,d⟩:=T.obj _ _ st5 b hb
    exact(I8.pin (b,o) (List.mem_append_right _ (List.mem_append_right _ (cY hb e)))).2.1
   cases ok with
   |false=>exact again I7 q7
   | true=>
     refine cz (he P2.objs.size s2 H2 fp _ s7 σ6 H7 _ I7 q7) fun yv s8 qr=> ?_
     obtain⟨y,H8,I8,ry,xs,hx,hl,n8⟩:=qr
     refine cz (mB (X:=aQ X N scope cl P2.objs.size s2 H2 fp) _ s8 σ6 H8 (.ref s2.heap.objs.size) [y] (.ref s2.heap.objs.size) [yv] (fun _ H'=>Nx σ6 H') I8 rfl (.cons ry .nil) ⟨_,xs,y,rfl,rfl,hx,hl,n8⟩) fun _ s9 qr=> ?_
     obtain⟨z,H9,I9,_,q9⟩:=qr
     exact again I9 q9
 exact codeAny_compStart_list loop (T.self _ 0 _ _ _ (T.keep _ _ _ st2 fun b _ o e=>old b o e) loop)
end L2
namespace Dk
open PySem
end Dk
namespace L2
open PySem PySem.Spec PyProof.Rows
section
variable{X:Cx}
def CS(K:PySem.W.Frag):List V->Hp->VK->Prop:=fun xs H Q=>∃(a:Addr) (ss:List Str),xs= [.ref a]/\gX K H a (ss.map V.str)/\ss.length<64/\∀(l:Addr) (out:List Str),H l=none->sortedS out=true->out.Perm ss->Q (.ref l) (upd H l (.lst (out.map V.str)))
theorem sh:∀{ys:List Str} {its:List Value},bt (ys.map V.str) its->StrsAre its ys
 | [],_,r=>by cases r;exact .nil
 | y::ys,_,r=>by
   cases r with
   | cons h t=>
     obtain⟨tk,rfl⟩:=h
     exact .cons y tk (sh t)
theorem tV{ss:List Str}{vs:List Value}(h:StrsAre vs ss):bt (ss.map V.str) vs:=by
 induction h with
 |nil=>exact .nil
 |cons y t _ ih=>exact .cons ⟨t,rfl⟩ ih
theorem t8:i0 X (.builtin "sorted") (CS X.K):=by
 intro pins s σ H xs us Q I r h
 obtain⟨a,ss,rfl,ha,h64,q⟩:=h
 obtain⟨u,rfl,rx⟩:=vals1 r
 cases (show u=Value.ref a from rx)
 obtain⟨its,rv,pl,hz⟩:=I.list ha
 have hil:its.length=ss.length:=by have:=rv.length;simpa using this.symm
 have big:s.heap.objs.size<=s.heap.objs.size+1:=Nat.le_succ _
 refine sorted_strs pl.isList (sh rv) (by omega) fun out ss' hA hp hs=> ?_
 obtain⟨e,he⟩:=sortedAll_at s.heap its out
 have hlen:ss'.length=ss.length:=hp.length_eq
 refine⟨.ref (s.heap.objs.size+1),_,I.laid (a:=s.heap.objs.size+1) (o:=.lst (ss'.map V.str)) (h':=sortedAll s.heap its out) (t':=s.toks) (fun b o hb=> ?_) big ⟨?_,out.toList,e,tV hA,?_⟩,rfl,q _ ss' (I.hok.fresh big) hs hp⟩
 ·exact sortedAll_old hb
 ·rw[lQm,hlen]
  exact Nat.le_trans (nQl h64) (by decide)
 ·simpa using he
end
end L2
namespace Zp
open PySem
section
variable{prog:Program}{w:World}{A:Around}{E:Value->Shared->Prop}{s:Shared}
theorem FG{i t:Addr}{k:Nat}{vs:Array Value}{v:Value}{Q:Value->Shared->Prop}(gi:s.heap.IsTupleIter i t k)(gt:s.heap.IsTuple t vs)(hv:vs[k]?=some v)
  (q:∀h',h'.IsTupleIter i t (k+1)->Heap.SameBut i s.heap h'->Q v {s with heap:=h'}):wpAny (model prog w) A (Builtin.SmallTypes.nextOf (.ref i)) Q E s:=by
 obtain⟨oi,g1,g2,g3⟩:=id gi
 obtain⟨ot,t1,_,nt,t2⟩:=gt
 unfold Builtin.SmallTypes.nextOf
 refine wpAny_bind (wpAny_callSpecial?_slot (name:=Str.ofString "__next__") gi.typeIs F.slot_tuple_iterator_next (wpAny_call_entry F.slot_tuple_iterator_next gi.typeIs F.entry_tuple_iterator_next ?_ (F.args_tuple_iterator_next_1 _)))
 refine(?_:wpAny _ _ (field (.ref i) 0 >>= _) _ _ s)
 refine wpAny_bind (wpAny_field g1 g3 (x:=.ref t) rfl ?_)
 refine(?_:wpAny _ _ (if (Value.ref t==Value.none)=true then _ else _) _ _ s)
 rw[if_neg (fun z=>by cases (show false=true from z))]
 refine(?_:wpAny _ _ (field (.ref i) 1 >>= _) _ _ s)
 refine wpAny_bind (wpAny_field g1 g3 (x:=.int k 0) rfl ?_)
 refine(?_:wpAny _ _ (seqItems? (.ref t) >>= _) _ _ s)
 refine wpAny_bind (wpAny_seqItems t1 t2 ?_)
 simp only[Int.toNat_natCast,hv]
 refine wpAny_bind (wpAny_setField g1 g3 (by simp) (wpAny_pure ⟨v,rfl,wpAny_pure (q _ ⟨_,Heap.get?_update_self _ g1 (Obj.isFreed_of_fields (Obj.data_mapFields g3 _)),(Obj.cls_mapFields ..).trans g2,?_⟩ (Heap.SameBut.update ..))⟩))
 rw[Obj.data_mapFields g3]
 simp[rawInt]
theorem F1{i t:Addr}{k:Nat}{vs:Array Value}{Q:Value->Shared->Prop}(hA:A.handled=none)(gi:s.heap.IsTupleIter i t k)(gt:s.heap.IsTuple t vs)(hv:vs[k]?=none)
  (q:∀h' e,Heap.ExtBut i s.heap h'->(∃o,h'.get? e=some o/\o.cls=.type "StopIteration")->E (.ref e) {s with heap:=h'}):wpAny (model prog w) A (Builtin.SmallTypes.nextOf (.ref i)) Q E s:=by
 obtain⟨oi,g1,g2,g3⟩:=id gi
 obtain⟨ot,t1,_,nt,t2⟩:=gt
 unfold Builtin.SmallTypes.nextOf
 refine wpAny_bind (wpAny_callSpecial?_slot (name:=Str.ofString "__next__") gi.typeIs F.slot_tuple_iterator_next (wpAny_call_entry F.slot_tuple_iterator_next gi.typeIs F.entry_tuple_iterator_next ?_ (F.args_tuple_iterator_next_1 _)))
 refine(?_:wpAny _ _ (field (.ref i) 0 >>= _) _ _ s)
 refine wpAny_bind (wpAny_field g1 g3 (x:=.ref t) rfl ?_)
 refine(?_:wpAny _ _ (if (Value.ref t==Value.none)=true then _ else _) _ _ s)
 rw[if_neg (fun z=>by cases (show false=true from z))]
 refine(?_:wpAny _ _ (field (.ref i) 1 >>= _) _ _ s)
 refine wpAny_bind (wpAny_field g1 g3 (x:=.int k 0) rfl ?_)
 refine(?_:wpAny _ _ (seqItems? (.ref t) >>= _) _ _ s)
 refine wpAny_bind (wpAny_seqItems t1 t2 ?_)
 simp only[Int.toNat_natCast,hv]
 refine wpAny_bind (wpAny_rule (wpAny_bind (wpAny_setField g1 g3 (by simp) ?_)))
 refine(?_:wpAny _ _ (newExc (.type "StopIteration") [] >>= _) _ _ _)
 refine wpAny_bind ?_
 simp only[newExc,newTuple]
 refine wpAny_bind (wpAny_newObj_type ?_ (by size_fits))
 refine wpAny_bind (m:=firstArgMember _ _) (wpAny_of_eq (a:=Value.none) (by first|rfl|(simp only[firstArgMember];rfl)) (wpAny_newObj_type ?_ (by size_fits)))
 simp only[raiseNew]
 refine wpAny_bind (wpAny_handled ?_)
 first|rw[show A.in1.handled=none from hA]|rw[hA]
 exact wpAny_bind (wpAny_pure (wpAny_throw (q _ _ (((Heap.SameBut.update ..).extBut.push _).push _) ⟨_,Heap.get?_push_size _ rfl,rfl⟩)))
end
def Rest(z O i j:Addr)(h h':Heap):Prop:=∀c o,c≠z->c≠O->c≠i->c≠j->h.get? c=some o->h'.get? c=some o
end Zp
namespace L2
open PySem PySem.Spec PyProof.Rows
section
variable{X:Cx}{pins:List (Addr×Obj)}{σ:St}{H:Hp}{s:Shared}{h':Heap}
theorem Inv.turnedL{t':Nat}{fp:List Addr}(I:Inv X pins σ H s)(hf:∀b∈fp,mU X pins H b)(k:∀b o,b∉fp->s.heap.get? b=some o->h'.get? b=some o):Inv X pins σ H {s with heap:=h',toks:=t'}:=by
 have nit:∀b u,H b=some u->b∉fp:=fun b u e z=>by rw[(hf b z).1] at e;cases e
 refine I.step (g':=s.gens) (d':=s.drawn) (ch:=fp) (fun b hb=>⟨(hf b hb).2.2.2.1,(hf b hb).2.1,(hf b hb).2.2.2.2.1,(hf b hb).2.2.2.2.2⟩) (fun b o _ _ hc e _=>k b o hc e) (fun b o _ _ hc e _=>⟨o.slots,k b o hc e⟩) (fun _ _ _ _ n=>n)
  (fun b o hc e=>⟨o,k b o hc e⟩) (fun _ _ e=>e) (fun _ _ _ e=>e) (fun b ps e=>⟨#[],by rw[e];simp⟩) (fun m hm=> ?_) (fun b u e=> ?_) I.bare
 ·obtain⟨o,es,ep,ho,r⟩:=hm
  exact⟨o,es,ep,k _ o (fun z=>(hf _ z).2.1 rfl) ho,r⟩
 ·refine(I.hok b u e).stay (fun c v hc q=>k c v ?_ q) (fun _ q=>q) fun _ _ q=>q
  rcases hc with z|z
  ·rw[z];exact nit b u e
  ·exact nit c _ z
theorem Inv.turnedNew{t':Nat}{fp:List Addr}{p:Addr}{o:HO}(I:Inv X pins σ H s)(hf:∀b∈fp,mU X pins H b)(k:∀b u,b∉fp->s.heap.get? b=some u->h'.get? b=some u)(hp:s.heap.objs.size<=p)
  (new:cG X.prog X.w (upd H p o) h' p o):Inv X pins σ (upd H p o) {s with heap:=h',toks:=t'}:=by
 have hn:=I.hok.fresh hp
 have nit:∀b u,H b=some u->b∉fp:=fun b u e z=>by rw[(hf b z).1] at e;cases e
 have np:∀b u,H b=some u->upd H p o b=some u:=fun b u e=>by rw[a_ (et e hn)];exact e
 refine I.step (g':=s.gens) (d':=s.drawn) (ch:=fp) (fun b hb=>⟨(hf b hb).2.2.2.1,(hf b hb).2.1,(hf b hb).2.2.2.2.1,(hf b hb).2.2.2.2.2⟩) (fun b o _ _ hc e _=>k b o hc e) (fun b o _ _ hc e _=>⟨o.slots,k b o hc e⟩)
  (fun b u _ e n=>by rw[a_ (fun z=>Nat.lt_irrefl _ (Nat.lt_of_lt_of_le (Heap.lt_size e) (by rw[z];exact hp)))];exact n)
  (fun b o hc e=>⟨o,k b o hc e⟩) (fun b xs e=>np b _ e) (fun b u v e=>np b _ e) (fun b ps e=>⟨#[],by rw[np b _ e];simp⟩) (fun m hm=> ?_) (fun b u e=> ?_) I.bare
 ·obtain⟨o,es,ep,ho,r⟩:=hm
  exact⟨o,es,ep,k _ o (fun z=>(hf _ z).2.1 rfl) ho,r⟩
 ·by_cases hb:b=p
  ·subst hb
   rw[bJ] at e
   cases e
   exact new
  ·rw[a_ hb] at e
   refine(I.hok b u e).stay (fun c v hc q=>k c v ?_ q) (fun c q=>np c _ q) fun c _ q=>np c _ q
   rcases hc with z|z
   ·rw[z];exact nit b u e
   ·exact nit c _ z
end
end L2
namespace Zp
open PySem PySem.W PyProof.Rows
def m4:KasT (Array Nat)->List (Array Nat)
 |.ret p=> [p]
 |.ask _ _ k=>m4 (k true)++m4 (k false)
def pe(n:Nat):KasT (Array Nat)->Bool
 |.ret _=>true
 |.ask i j k=>decide (i<n)&&decide (j<n)&&decide (i≠j)&&pe n (k true)&&pe n (k false)
theorem oO:∀n:Nat,n<=3->2<=n->pe n (kas_sort n)=true/\(m4 (kas_sort n)).all (fun p=>p.toList.isPerm (List.range n))=true:=by
 intro n h3 h2
 have:n=2\/n=3:=by omega
 rcases this with rfl|rfl
 ·decide +kernel
 ·decide +kernel
inductive dN(h:Heap):List Value->List Str->Prop
 |nil:dN h [] []
 |cons {a:Addr} {o:Obj} {xs:Array Value} {n:Nat} {x:Str} {t:Tok} {vs:List Value} {fs:List Str}:h.get? a=some o->o.cls=.type "tuple" ->o.data=.seq xs n->xs[0]?=some (.str x t)->dN h vs fs->dN h (.ref a::vs) (x::fs)
theorem dN.keep{h h':Heap}(k:∀a o,h.get? a=some o->o.cls=.type "tuple" ->h'.get? a=some o):∀{vs:List Value} {fs:List Str},dN h vs fs->dN h' vs fs
 |_,_,.nil=>.nil
 |_,_,.cons e c d f r=>.cons (k _ _ e c) c d f (r.keep k)
theorem dN.len{h:Heap}:∀{vs:List Value} {fs:List Str},dN h vs fs->vs.length=fs.length
 |_,_,.nil=>rfl
 |_,_,.cons _ _ _ _ r=>congrArg (·+1) r.len
theorem dN.get{h:Heap}:∀{vs:List Value} {fs:List Str} {i:Nat},dN h vs fs->i<fs.length->∃a o xs n t,vs.getD i Value.none=.ref a/\h.get? a=some o/\o.data=.seq xs n/\xs[0]?=some (.str (fs.getD i "") t)
 |_,_,0,.cons e c d f r,_=>⟨_,_,_,_,_,rfl,e,d,f⟩
 | _,_,i+1,.cons e c d f r,hi=>by
   have:=r.get (i:=i) (by simpa using hi)
   simpa using this
 |_,_,_,.nil,hi=>by simp at hi
theorem dN.firsts{h:Heap}:∀{vs:List Value} {fs:List Str},dN h vs fs->∃gs:List Value,KatTups h vs gs/\gs.length=fs.length/\∀v∈gs,∃x t,v=.str x t
 |_,_,.nil=>⟨[],KatTups.nil,rfl,by simp⟩
 | _,_,.cons e c d f r=>by
   obtain⟨gs,k,l,m⟩:=r.firsts
   exact⟨_::gs,KatTups.cons e c d f k,by simp[l],fun v hv=>by
     rcases List.mem_cons.mp hv with z|z
     · exact⟨_,_,z⟩
     · exact m v z⟩
end Zp
namespace L2
open PySem PySem.Spec PyProof.Rows
section
variable{X:Cx}
theorem CI:jh X (binaryOp .Mult) (rI IntMulOk fun i j=>.int (i*j)):=Gs fun _ _ _ _ _ _ _ hc q=>mul_int q hc
inductive rg(H:Hp):List Addr->List Str->Prop
 |nil:rg H [] []
 |cons {a:Addr} {x:Str} {us:List V} {rs:List Addr} {ss:List Str}:H a=some (.tup (.str x::us))->rg H rs ss->rg H (a::rs) (x::ss)
theorem vn{pins:List (Addr×Obj)}{σ:St}{H:Hp}{s:Shared}(I:Inv X pins σ H s):∀{rs:List Addr} {ss:List Str},rg H rs ss->Zp.dN s.heap (rs.map Value.ref) ss
 |_,_,.nil=>.nil
 | _,_,.cons (a:=a) h r=>by
   obtain⟨its,rv,⟨o,h1,h2,n,h3⟩,hz⟩:=I.tuple (gD.of h)
   cases rv with
   | cons r0 rr=>
     obtain⟨t,rfl⟩:=r0
     exact .cons (t:=t) h1 h2 h3 (by simp) (vn I r)
theorem rF:∀{rs:List Addr} {us:List Value},bt (rs.map V.ref) us->us=rs.map Value.ref
 | [],_,r=>by cases r;rfl
 | a::rs,_,r=>by
   cases r with
   | cons h t=>
     cases h
     rw[rF t]
     rfl
theorem qC:∀(rs:List Addr),bt (rs.map V.ref) (rs.map Value.ref)
 | []=>.nil
 |a::rs=>.cons rfl (qC rs)
end
section
variable{X:Cx}
theorem AC:FU X (fun x y H Q=>∃p xs k v,x=.ref p/\y=.int ((k:Nat):Int)/\gX X.K H p xs/\xs[k]?=some v/\Q v H):=by
 intro pins s σ H x y v u Q I rx ry h
 obtain⟨p,xs,k,z,rfl,rfl,hq,he,q⟩:=h
 cases rx
 obtain⟨t,rfl⟩:=ry
 obtain⟨its,r,pl,hz⟩:=I.list hq
 obtain⟨w',ew,rw'⟩:=r.get he
 have hk:k<xs.length:=(gQs.mp he).1
 have hn:=jl
 exact wpAny_getItem_list pl.isList (x:=w') (Int.natCast_nonneg k) (by omega) (by simpa using ew) ⟨z,H,I,rw',q⟩
end
section
variable{X:Cx}
def Be(K:PySem.W.Frag):R2:=fun x y H Q=>∃a b xs,x=.ref a/\y=.ref b/\gX K H a xs/\gX K H b []/\Q (.bl (!xs.isEmpty)) H
theorem zS(hu:X.A.units<cLine):jh X (compareOp .NotEq) (Be X.K):=by
 intro pins s σ H x y v u Q I rx ry h
 obtain⟨a,b,xs,rfl,rfl,ha,hb,q⟩:=h
 cases xs with
 |nil=>exact zJ hu pins s σ H _ _ v u Q I rx ry ⟨a,b,[],[],rfl,rfl,ha,hb,rfl,rfl,q⟩
 | cons z zs=>
   cases rx
   cases ry
   obtain⟨its,r,pl,hz⟩:=I.list ha
   obtain⟨jts,r',pl',hz'⟩:=I.list hb
   have l1:=r.length
   have l2:=r'.length
   exact SeqAt.RcNeAt.lists_lengths pl.isList pl'.isList (by simp[←l1,←l2]) hu _ _ _ _ ⟨.bl true,H,I,rfl,q⟩
end
end L2
namespace HT
open PySem PySem.Spec PyProof.Rows
section
variable{prog:Program}{w:World}{A:Around}{E:Value->Shared->Prop}{s:Shared}
theorem jR{t sl:Addr}{items:Array Value}{vl vu:Value}{lo hi:Option Int}{Q:Value->Shared->Prop}(ht:IsTup s.heap t items)(hs:s.heap.IsSliceOf sl vl vu .none)(pl:IsPart vl lo)(pu:IsPart vu hi)
  (hw:er items.size 0 lo=0/\er items.size items.size hi=items.size) (h:Q (.ref t) s):wpAny (model prog w) A (getItem (.ref t) (.ref sl)) Q E s:=by
 obtain⟨os,hos,hcs,hds⟩:=id hs
 have hTs:s.TypeIs (.ref sl) "slice":=⟨os,hos,hcs⟩
 unfold getItem
 try with_reducible refine wpAny_holding ?_
 first|refine wpAny_bind (wpAny_pure ?_)|skip
 refine wpAny_bind (wpAny_sequenceKey ht.typeIs (by decide) ?_)
 refine wpAny_bind (wpAny_callSpecial?_slot (name:=Str.ofString "__getitem__") ht.typeIs PyProof.Rows.slot_tuple_getitem
  (wpAny_call_entry PyProof.Rows.slot_tuple_getitem ht.typeIs entry_tuple_getitem ?_ (args_tuple_getitem _ _)))
 show wpAny _ _ (Builtin.Tuple.tupleItemsOf (.ref t) >>= _) _ _ s
 refine wpAny_bind (tupleItemsOf_ ht ?_)
 refine wpAny_bind (wpAny_typeOf hTs ?_)
 rw[if_pos (by decide)]
 refine wpAny_bind (g9 hs pl pu ?_)
 have hyes:(((er items.size 0 lo:Nat):Int)==0&&(1:Int)==1&&(er items.size items.size hi-er items.size 0 lo)==items.size)=true:=by
  rw[hw.1,hw.2]
  simp
 show wpAny _ _ (if (((er items.size 0 lo:Nat):Int)==0&&(1:Int)==1&&(er items.size items.size hi-er items.size 0 lo)==items.size)=true then _ else _) _ _ s
 rw[if_pos hyes]
 have ex:∀{A:Around} {E:Value->Shared->Prop} {R:Bool->Shared->Prop},R true s->wpAny (model prog w) A (Builtin.Tuple.tupleIsExact (.ref t)) R E s:=fun{A E R} h=>by
  unfold Builtin.Tuple.tupleIsExact
  exact wpAny_bind (wpAny_typeOf ht.typeIs (wpAny_pure h))
 refine wpAny_bind (m:=Builtin.Tuple.tupleIsExact _) (ex ?_)
 rw[if_pos rfl]
 refine wpAny_bind (wpAny_rule ?_)
 exact wpAny_pure ⟨_,rfl,wpAny_pure h⟩
end
end HT
namespace L2
open PySem PySem.Spec PyProof.Rows
def G1(K:PySem.W.Frag):V->Option Int->Option Int->Hp->VK->Prop:=fun x lo hi H Q=>∃a xs,x=.ref a/\gD K H a xs∧
 (HT.er xs.length 0 lo=0/\HT.er xs.length xs.length hi=xs.length->Q (.ref a) H)/\(¬(HT.er xs.length 0 lo=0/\HT.er xs.length xs.length hi=xs.length)->∀p,H p=none->Q (.ref p) (upd H p (.tup (wm xs lo hi))))
theorem C3{X:Cx}:GY X (G1 X.K):=by
 intro pins s σ H x v vl vu lo hi sl Q I rx hs pl pu h
 obtain⟨a,xs,rfl,hx,q1,q2⟩:=h
 by_cases hw:HT.er xs.length 0 lo=0/\HT.er xs.length xs.length hi=xs.length
 ·cases rx
  obtain⟨its,r,ht,hz⟩:=I.tuple hx
  have hlen:its.toArray.size=xs.length:=by rw[List.size_toArray];exact r.length.symm
  refine⟨"tuple",_,PyProof.Rows.slot_tuple_getitem.lookup,ht.typeIs,?_⟩
  exact HT.jR ht hs pl pu (by rw[hlen];exact hw) ⟨.ref a,H,I,rfl,q1 hw⟩
 ·exact Du pins s σ H _ v vl vu lo hi sl Q I rx hs pl pu ⟨a,xs,rfl,hx,hw,q2 hw⟩
end L2
namespace DL
open PySem PySem.Spec PyProof.Rows L2
inductive D where
 |non|bl (b:Bool)|int (i:Int)|str (x:Str)|tup (xs:List D)|ref (k:Nat)|fn (x:Str)
inductive O where
 |lst (xs:List D)|frz (xs:List D)|dct (kvs:List (Key×D))
abbrev az:=List O
abbrev cx:=List (Option D)
structure Md where
 K:PySem.W.Frag
 mg:Str->Option Value
mutual
inductive Rel(M:Md)(ρ:List Addr)(H:Hp):D->V->Prop
 |non:Rel M ρ H .non .non
 |bl (b:Bool):Rel M ρ H (.bl b) (.bl b)
 |int (i:Int):Rel M ρ H (.int i) (.int i)
 |str (x:Str):Rel M ρ H (.str x) (.str x)
 |tup {a:Addr} {vs:List V} {ds:List D}:H a=some (.tup vs)->aU M ρ H ds vs->Rel M ρ H (.tup ds) (.ref a)
 |ref {k:Nat} {a:Addr}:ρ[k]?=some a->Rel M ρ H (.ref k) (.ref a)
 |fn {x:Str} {a:Addr}:M.mg x=some (.ref a)->Rel M ρ H (.fn x) (.ref a)
inductive aU(M:Md)(ρ:List Addr)(H:Hp):List D->List V->Prop
 |nil:aU M ρ H [] []
 |cons {d:D} {v:V} {ds:List D} {vs:List V}:Rel M ρ H d v->aU M ρ H ds vs->aU M ρ H (d::ds) (v::vs)
end
section
variable{M:Md}{ρ ρ':List Addr}{H H':Hp}
def Hu:HO->Prop
 |.tup _=>True
 |.frz _ _=>True
 |_=>False
structure bX(ρ:List Addr)(H:Hp)(ρ':List Addr)(H':Hp):Prop where
 pre:ρ <+: ρ'
 new:∀a∈ρ',a∈ρ\/H a=none
 keep:∀a o,H a=some o->a∉ρ\/Hu o->H' a=some o
 grow:∀a,H' a=none->H a=none
theorem bX.refl:bX ρ H ρ H:=⟨List.prefix_refl _,fun _ h=>.inl h,fun _ _ h _=>h,fun _ h=>h⟩
theorem bX.trans{ρ1 ρ2:List Addr}{H1 H2:Hp}(e:bX ρ H ρ1 H1)(f:bX ρ1 H1 ρ2 H2):bX ρ H ρ2 H2 where
 pre:=e.pre.trans f.pre
 new:=fun a h=>(f.new a h).elim (fun h=>e.new a h) fun h=>.inr (e.grow a h)
 keep:=fun a o h c=>f.keep a o (e.keep a o h c) (c.imp (fun n m=>(e.new a m).elim n fun z=>by rw[z] at h;cases h) id)
 grow:=fun a h=>e.grow a (f.grow a h)
theorem bX.laid{a:Addr}{o:HO}(h:H a=none):bX ρ H ρ (upd H a o) where
 pre:=List.prefix_refl _
 new:=fun _ h=>.inl h
 keep:=fun b o' e _=>by rw[a_];exact e;intro z;subst z;rw[h] at e;cases e
 grow:=fun b e=>by
  by_cases z:b=a
  ·subst z;exact h
  ·rw[a_ z] at e;exact e
theorem ja{α:Type}:∀{l:List α},l.Nodup->∀{i j:Nat} {a:α},l[i]?=some a->l[j]?=some a->i=j
 | [],_,_,_,_,h,_=>by simp at h
 |x::l,n,0,0,_,_,_=>rfl
 | x::l,n,0,j+1,a,h1,h2=>by
   rw[List.nodup_cons] at n
   simp at h1 h2
   subst h1
   exact absurd (mQg h2) n.1
 | x::l,n,i+1,0,a,h1,h2=>by
   rw[List.nodup_cons] at n
   simp at h1 h2
   subst h2
   exact absurd (mQg h1) n.1
 | x::l,n,i+1,j+1,a,h1,h2=>by
   rw[List.nodup_cons] at n
   simp at h1 h2
   exact congrArg (·+1) (ja n.2 h1 h2)
theorem cm{α β:Type}{a c:α}{b d:β}(h:some (a,b)=some (c,d)):a=c/\b=d:=by cases h;exact⟨rfl,rfl⟩
theorem cE{α:Type}{l l':List α}(h:l <+: l'){k:Nat}{a:α}(e:l[k]?=some a):l'[k]?=some a:=by
 obtain⟨t,rfl⟩:=h
 rw[List.getElem?_append_left (gQs.mp e).1]
 exact e
mutual
theorem Rel.ext(e:bX ρ H ρ' H'):∀{d:D} {v:V},Rel M ρ H d v->Rel M ρ' H' d v
 |_,_,.non=>.non
 |_,_,.bl b=>.bl b
 |_,_,.int i=>.int i
 |_,_,.str x=>.str x
 |_,_,.tup h hs=>.tup (e.keep _ _ h (.inr trivial)) (aU.ext e hs)
 |_,_,.ref h=>.ref (cE e.pre h)
 |_,_,.fn h=>.fn h
theorem aU.ext(e:bX ρ H ρ' H'):∀{ds:List D} {vs:List V},aU M ρ H ds vs->aU M ρ' H' ds vs
 |_,_,.nil=>.nil
 |_,_,.cons h hs=>.cons (Rel.ext e h) (aU.ext e hs)
end
mutual
theorem Rel.pre(e:ρ <+: ρ'):∀{d:D} {v:V},Rel M ρ H d v->Rel M ρ' H d v
 |_,_,.non=>.non
 |_,_,.bl b=>.bl b
 |_,_,.int i=>.int i
 |_,_,.str x=>.str x
 |_,_,.tup h hs=>.tup h (aU.pre e hs)
 |_,_,.ref h=>.ref (cE e h)
 |_,_,.fn h=>.fn h
theorem aU.pre(e:ρ <+: ρ'):∀{ds:List D} {vs:List V},aU M ρ H ds vs->aU M ρ' H ds vs
 |_,_,.nil=>.nil
 |_,_,.cons h hs=>.cons (Rel.pre e h) (aU.pre e hs)
end
theorem aU.length:∀{ds:List D} {vs:List V},aU M ρ H ds vs->ds.length=vs.length
 |_,_,.nil=>rfl
 |_,_,.cons _ h=>congrArg (·+1) h.length
theorem aU.append:∀{ds es:List D} {vs ws:List V},aU M ρ H ds vs->aU M ρ H es ws->aU M ρ H (ds++es) (vs++ws)
 |_,_,_,_,.nil,h=>h
 |_,_,_,_,.cons h hs,h'=>.cons h (hs.append h')
theorem aU.get:∀{ds:List D} {vs:List V} {i:Nat} {d:D},aU M ρ H ds vs->ds[i]?=some d->∃v,vs[i]?=some v/\Rel M ρ H d v
 |_,_,0,_,.cons h _,e=>by cases e;exact⟨_,rfl,h⟩
 |_,_,i+1,_,.cons _ hs,e=>hs.get (i:=i) (by simpa using e)
 |_,_,_,_,.nil,e=>by simp at e
theorem aU.set{d:D}{v:V}(h:Rel M ρ H d v):∀{ds:List D} {vs:List V} (i:Nat),aU M ρ H ds vs->aU M ρ H (ds.set i d) (vs.set i v)
 |_,_,_,.nil=>.nil
 |_,_,0,.cons _ t=>.cons h t
 |_,_,i+1,.cons q t=>.cons q (aU.set h i t)
theorem aU.take:∀{ds:List D} {vs:List V} (n:Nat),aU M ρ H ds vs->aU M ρ H (ds.take n) (vs.take n)
 |_,_,0,_=>.nil
 |_,_,_+1,.nil=>.nil
 |_,_,n+1,.cons h hs=>.cons h (hs.take n)
theorem aU.drop:∀{ds:List D} {vs:List V} (n:Nat),aU M ρ H ds vs->aU M ρ H (ds.drop n) (vs.drop n)
 |_,_,0,h=>h
 |_,_,_+1,.nil=>.nil
 |_,_,n+1,.cons _ hs=>hs.drop n
theorem aU.eraseIdx:∀{ds:List D} {vs:List V} (n:Nat),aU M ρ H ds vs->aU M ρ H (ds.eraseIdx n) (vs.eraseIdx n)
 |_,_,_,.nil=>.nil
 |_,_,0,.cons _ h=>h
 |_,_,n+1,.cons h hs=>.cons h (hs.eraseIdx n)
theorem aU.rep{ds:List D}{vs:List V}(h:aU M ρ H ds vs):∀k:Nat,aU M ρ H (List.replicate k ds).flatten (List.replicate k vs).flatten
 |0=>.nil
 |k+1=>by rw[List.replicate_succ,List.replicate_succ,List.flatten_cons,List.flatten_cons];exact h.append (h.rep k)
def b_(M:Md)(ρ:List Addr)(H:Hp):List (Key×D)->List (Key×V)->Prop
 | [],kv=>kv= []
 |(k,d)::r,kv=>∃v t,kv=(k,v)::t/\Rel M ρ H d v/\b_ M ρ H r t
theorem b_.imp{ρ':List Addr}{H':Hp}(f:∀d v,Rel M ρ H d v->Rel M ρ' H' d v):∀{l:List (Key×D)} {kv:List (Key×V)},b_ M ρ H l kv->b_ M ρ' H' l kv
 | [],_,h=>h
 |(_,_)::_,_,⟨v,t,e,h,hs⟩=>⟨v,t,e,f _ _ h,b_.imp f hs⟩
theorem b_.length:∀{l:List (Key×D)} {kv:List (Key×V)},b_ M ρ H l kv->l.length=kv.length
 | [],_,h=>by cases h;rfl
 |(_,_)::_,_,⟨v,t,e,h,hs⟩=>by subst e;exact congrArg (·+1) hs.length
def lA(M:Md)(ρ:List Addr)(H:Hp)(a:Addr):O->Prop
 |.lst ds=>∃vs,H a=some (.lst vs)/\aU M ρ H ds vs
 |.frz ds=>∃vs o,H a=some (.frz o (.lst vs))/\aU M ρ H ds vs
 |.dct kvs=>∃kv,H a=some (.dK kv)/\b_ M ρ H kvs kv
structure eV(M:Md)(ρ:List Addr)(S:az)(H:Hp):Prop where
 len:ρ.length=S.length
 nd:ρ.Nodup
 obj:∀(k:Nat) (a:Addr) (o:O),ρ[k]?=some a->S[k]?=some o->lA M ρ H a o
theorem lA.lay{a b:Addr}{o:O}{u:HO}(h:lA M ρ H a o)(hb:H b=none):lA M ρ (upd H b u) a o:=by
 have e:bX ρ H ρ (upd H b u):=bX.laid hb
 have ne:∀{x},H a=some x->upd H b u a=some x:=fun{x} h=>by rw[a_];exact h;intro z;subst z;rw[hb] at h;cases h
 cases o with
 |lst ds=>obtain⟨vs,h1,h2⟩:=h;exact⟨vs,ne h1,h2.ext e⟩
 |frz ds=>obtain⟨vs,o,h1,h2⟩:=h;exact⟨vs,o,ne h1,h2.ext e⟩
 |dct kvs=>obtain⟨kv,h1,h2⟩:=h;exact⟨kv,ne h1,h2.imp fun _ _ r=>r.ext e⟩
theorem eV.lay{S:az}{b:Addr}{u:HO}(h:eV M ρ S H)(hb:H b=none):eV M ρ S (upd H b u):=⟨h.len,h.nd,fun k a o h1 h2=>(h.obj k a o h1 h2).lay hb⟩
theorem lA.pre{a:Addr}{o:O}(e:ρ <+: ρ')(h:lA M ρ H a o):lA M ρ' H a o:=by
 cases o with
 |lst ds=>obtain⟨vs,h1,h2⟩:=h;exact⟨vs,h1,h2.pre e⟩
 |frz ds=>obtain⟨vs,o,h1,h2⟩:=h;exact⟨vs,o,h1,h2.pre e⟩
 |dct kvs=>obtain⟨kv,h1,h2⟩:=h;exact⟨kv,h1,h2.imp fun _ _ r=>r.pre e⟩
theorem eV.box{S:az}{a:Addr}{o:O}(h:eV M ρ S H)(hn:a∉ρ)(ho:lA M (ρ++ [a]) H a o):eV M (ρ++ [a]) (S++ [o]) H where
 len:=by rw[lQa,lQa,h.len];rfl
 nd:=by rw[List.nodup_append];exact⟨h.nd,by simp,fun x hx y hy=>by rw[List.mem_singleton] at hy;subst hy;exact fun z=>hn (z▸hx)⟩
 obj:=fun k b u h1 h2=>by
  by_cases c:k<ρ.length
  ·rw[List.getElem?_append_left c] at h1
   rw[List.getElem?_append_left (h.len▸c)] at h2
   exact(h.obj k b u h1 h2).pre (List.prefix_append _ _)
  ·have c:ρ.length<=k:=Nat.le_of_not_lt c
   rw[List.getElem?_append_right c] at h1
   rw[List.getElem?_append_right (h.len▸c)] at h2
   have z:k-ρ.length=0:=by
    have:=(gQs.mp h1).1
    simp at this
    omega
   have z2:k-S.length=0:=by rw[←h.len];exact z
   rw[z] at h1
   rw[z2] at h2
   cases h1
   cases h2
   exact ho
theorem eV.put{S:az}{k:Nat}{a:Addr}{o o':O}{u:HO}(h:eV M ρ S H)(hk:ρ[k]?=some a)(ho:S[k]?=some o)(hu:lA M ρ (upd H a u) a o')(ne:∀x,H a=some x->¬Hu x):eV M ρ (S.set k o') (upd H a u)/\bX ρ H ρ (upd H a u):=by
 have ma:a∈ρ:=mQg hk
 have e:bX ρ H ρ (upd H a u):=by
  refine⟨List.prefix_refl _,fun _ h=>.inl h,fun b x hx c=> ?_,fun b hb=> ?_⟩
  ·rw[a_]
   ·exact hx
   ·intro z
    subst z
    exact c.elim (fun n=>n ma) fun im=>ne _ hx im
  ·by_cases z:b=a
   ·subst z;rw[bJ] at hb;cases hb
   ·rw[a_ z] at hb;exact hb
 refine⟨⟨by rw[List.length_set];exact h.len,h.nd,fun j b p h1 h2=> ?_⟩,e⟩
 by_cases c:j=k
 ·subst c
  rw[hk] at h1
  cases h1
  rw[List.getElem?_set_self (gQs.mp ho).1] at h2
  cases h2
  exact hu
 ·rw[List.getElem?_set_ne (Ne.symm c)] at h2
  have ba:b≠a:=by
   intro z
   subst z
   have l1:=(gQs.mp h1)
   have l2:=(gQs.mp hk)
   obtain⟨l1,e1⟩:=l1
   obtain⟨l2,e2⟩:=l2
   exact c (ja h.nd h1 hk)
  have q:=h.obj j b p h1 h2
  cases p with
  |lst ds=>obtain⟨vs,q1,q2⟩:=q;exact⟨vs,by rw[a_ ba];exact q1,q2.ext e⟩
  |frz ds=>obtain⟨vs,o,q1,q2⟩:=q;exact⟨vs,o,by rw[a_ ba];exact q1,q2.ext e⟩
  |dct kvs=>obtain⟨kv,q1,q2⟩:=q;exact⟨kv,by rw[a_ ba];exact q1,q2.imp fun _ _ r=>r.ext e⟩
end
structure En(M:Md)(ρ:List Addr)(H:Hp)(Γ:cx)(σ:L2.St):Prop where
 len:σ.length=Γ.length
 get:∀(i:Nat) (d:D),Γ[i]?=some (some d)->∃v,σ[i]?=some (some v)/\Rel M ρ H d v
theorem En.ext{M:Md}{ρ ρ':List Addr}{H H':Hp}{Γ:cx}{σ:L2.St}(h:En M ρ H Γ σ)(e:bX ρ H ρ' H'):En M ρ' H' Γ σ:=⟨h.len,fun i d q=>by obtain⟨v,h1,h2⟩:=h.get i d q;exact⟨v,h1,h2.ext e⟩⟩
theorem En.set{M:Md}{ρ:List Addr}{H:Hp}{Γ:cx}{σ:L2.St}{i:Nat}{d:D}{v:V}(h:En M ρ H Γ σ)(r:Rel M ρ H d v):En M ρ H (Γ.set i (some d)) (σ.set i (some v)) where
 len:=by rw[List.length_set,List.length_set];exact h.len
 get:=fun j e q=>by
  by_cases c:i=j
  ·subst c
   have l:i<Γ.length:=by
    have:=(gQs.mp q).1
    rwa [List.length_set] at this
   rw[List.getElem?_set_self l] at q
   cases q
   exact⟨v,List.getElem?_set_self (h.len▸l),r⟩
  ·rw[List.getElem?_set_ne c] at q⊢
   exact h.get j e q
structure Ok(M:Md)(ρ:List Addr)(Γ:cx)(S:az)(σ:L2.St)(H:Hp):Prop where
 en:En M ρ H Γ σ
 st:eV M ρ S H
theorem Ok.to{M:Md}{ρ ρ':List Addr}{Γ:cx}{S S':az}{σ:L2.St}{H H':Hp}(h:Ok M ρ Γ S σ H)(e:bX ρ H ρ' H')(s:eV M ρ' S' H'):Ok M ρ' Γ S' σ H':=⟨h.en.ext e,s⟩
abbrev bq:=cx->az->Option (D×az)
abbrev fo:=cx->az->Option (List D×az)
abbrev iJ:=cx->az->Option (Bool×az)
def tD(M:Md)(f:bq):TE:=fun σ H Q=>∃ρ Γ S d S',Ok M ρ Γ S σ H/\f Γ S=some (d,S')/\∀ρ' v H',bX ρ H ρ' H'->eV M ρ' S' H'->Rel M ρ' H' d v->Q v H'
def tL(M:Md)(f:fo):TE:=fun σ H Q=>∃ρ Γ S ds S',Ok M ρ Γ S σ H/\f Γ S=some (ds,S')∧
 ∀ρ' a vs H',bX ρ H ρ' H'->eV M ρ' S' H'->H a=none->a∉ρ'->H' a=some (.lst vs)->aU M ρ' H' ds vs->Q (.ref a) H'
def vy(M:Md)(f:fo):TA:=fun σ H Q=>∃ρ Γ S ds S',Ok M ρ Γ S σ H/\f Γ S=some (ds,S')/\∀ρ' vs H',bX ρ H ρ' H'->eV M ρ' S' H'->aU M ρ' H' ds vs->Q vs H'
def tB(M:Md)(f:iJ):TT:=fun σ H Q=>∃ρ Γ S b S',Ok M ρ Γ S σ H/\f Γ S=some (b,S')/\∀ρ' H',bX ρ H ρ' H'->eV M ρ' S' H'->Q b H'
section
variable{X:Cx}
abbrev md(X:Cx):Md:=⟨X.K,X.mg⟩
theorem jB{e:Expr}{t t':TE}(h:PE X e t)(w:∀σ H Q,t' σ H Q->t σ H Q):PE X e t':=fun pins s σ H Q I q=>h pins s σ H Q I (w _ _ _ q)
theorem GC{e:Expr}{t t':TT}(h:PT X e t)(w:∀σ H Q,t' σ H Q->t σ H Q):PT X e t':=fun pins s σ H Q I q=>h pins s σ H Q I (w _ _ _ q)
theorem Hr{e:Expr}{t t':TT}(h:PW X e t)(w:∀σ H Q,t' σ H Q->t σ H Q):PW X e t':=fun wh pins s σ H Q I q=>h wh pins s σ H Q I (w _ _ _ q)
theorem HE{es:List Expr}{t t':TA}(h:PA X es t)(w:∀σ H Q,t' σ H Q->t σ H Q):PA X es t':=fun pos pins s σ H Q I q=>h pos pins s σ H Q I (w _ _ _ q)
theorem yy{e:Stmt}{t t':TS}(h:PS X e t)(w:∀D σ H,t' D σ H->t D σ H):PS X e t':=fun pins s σ H D I q=>h pins s σ H D I (w _ _ _ q)
theorem FT{e:List Stmt}{t t':TS}(h:oB X e t)(w:∀D σ H,t' D σ H->t D σ H):oB X e t':=fun pins s σ H D I q=>h pins s σ H D I (w _ _ _ q)
def af(i:Nat):bq:=fun Γ S=>match Γ[i]? with
 |some (some d)=>some (d,S)
 |_=>none
theorem yH{i:Nat}{Γ:cx}{S:az}{d:D}{S':az}(h:af i Γ S=some (d,S')):Γ[i]?=some (some d)/\S'=S:=by
 unfold af at h
 split at h
 ·cases h;exact⟨by assumption,rfl⟩
 ·cases h
theorem FO{e:Expr}{i:Nat}(h:PE X e (ER i)):PE X e (tD (md X) (af i)):=jB h fun σ H Q qq=>by
 obtain⟨ρ,Γ,S,d,S',ok,e,q⟩:=qq
 obtain⟨e1,rfl⟩:=yH e
 obtain⟨v,h1,h2⟩:=ok.en.get i d e1
 exact⟨v,h1,q ρ v H bX.refl ok.st h2⟩
def cF(d:D):bq:=fun _ S=>some (d,S)
theorem c7{e:Expr}{v:V}{d:D}(h:PE X e (tC v))(r:∀ρ H,Rel (md X) ρ H d v):PE X e (tD (md X) (cF d)):=jB h fun σ H Q qq=>by
 obtain⟨ρ,Γ,S,d',S',ok,e,q⟩:=qq
 cases e
 exact q ρ v H bX.refl ok.st (r _ _)
theorem ag{i:Int}{j pos}:PE X (.Constant (.int i) j pos) (tD (md X) (cF (.int i))):=c7 DZ fun _ _=>.int i
theorem BL{b:Bool}{j pos}:PE X (.Constant (.bool b) j pos) (tD (md X) (cF (.bl b))):=c7 FS fun _ _=>.bl b
theorem u0{j pos}:PE X (.Constant .none j pos) (tD (md X) (cF .non)):=c7 Ep fun _ _=>.non
theorem aR{x:Str}{j pos}:PE X (.Constant (.str x) j pos) (tD (md X) (cF (.str x))):=c7 Eb fun _ _=>.str x
def bT(f:fo):bq:=fun Γ S=>(f Γ S).bind fun(ds,S')=>some (.ref S'.length,S'++ [.lst ds])
theorem bC{e:Expr}{f:fo}(h:PE X e (tL (md X) f)):PE X e (tD (md X) (bT f)):=jB h fun σ H Q qq=>by
 obtain⟨ρ,Γ,S,d,S',ok,e,q⟩:=qq
 unfold bT at e
 cases e1:f Γ S with
 |none=>rw[e1] at e;cases e
 | some p=>
   obtain⟨ds,S1⟩:=p
   rw[e1] at e
   obtain⟨rfl,rfl⟩:=cm e
   refine⟨ρ,Γ,S,ds,S1,ok,e1,fun ρ' a vs H' x st fr nr ha rs=> ?_⟩
   have rs':=rs.pre (List.prefix_append ρ' [a])
   refine q (ρ'++ [a]) (.ref a) H' ⟨x.pre.trans (List.prefix_append _ _),fun b hb=> ?_,x.keep,x.grow⟩ (st.box nr ⟨vs,ha,rs'⟩) (.ref ?_)
   · rcases mQa.mp hb with hb|hb
     · exact x.new b hb
     · rw[List.mem_singleton] at hb;subst hb;exact .inr fr
   · rw[←st.len,List.getElem?_append_right (Nat.le_refl _)]
     simp
def ai:fo:=fun _ S=>some ([],S)
def ae(f:bq)(g:fo):fo:=fun Γ S=>(f Γ S).bind fun(d,S1)=>(g Γ S1).bind fun(ds,S2)=>some (d::ds,S2)
theorem bind_some{α β:Type}{o:Option α}{f:α->Option β}{b:β}(h:o.bind f=some b):∃a,o=some a/\f a=some b:=by
 cases o with
 |none=>cases h
 |some a=>exact⟨a,rfl,h⟩
theorem ah:PA X [] (vy (md X) ai):=HE fm fun σ H Q qq=>by
 obtain⟨ρ,Γ,S,d,S',ok,e,q⟩:=qq
 cases e
 exact q ρ [] H bX.refl ok.st .nil
theorem aa{e:Expr}{es:List Expr}{f:bq}{g:fo}(ha:PE X e (tD (md X) f))(hr:PA X es (vy (md X) g))(hs:starEach (e::es) X.env=(false,eval e X.env)::starEach es X.env:=by rfl):PA X (e::es) (vy (md X) (ae f g)):=
 HE (dr ha hr hs) fun σ H Q qq=>by
  obtain⟨ρ,Γ,S,d,S',ok,e,q⟩:=qq
  obtain⟨⟨x,S1⟩,e1,e⟩:=bind_some e
  obtain⟨⟨xs,S2⟩,e2,e⟩:=bind_some e
  obtain⟨rfl,rfl⟩:=cm e
  refine⟨ρ,Γ,S,x,S1,ok,e1,fun ρ1 v H1 x1 st1 r1=>⟨ρ1,Γ,S1,xs,S2,ok.to x1 st1,e2,fun ρ2 vs H2 x2 st2 r2=> ?_⟩⟩
  exact q ρ2 (v::vs) H2 (x1.trans x2) st2 (.cons (r1.ext x2) r2)
def aX(f:fo):bq:=fun Γ S=>(f Γ S).bind fun(ds,S1)=>if ds.length<=sizeLine then some (.tup ds,S1) else none
theorem aH{es:List Expr}{f:fo}{k pos}(h:PA X es (vy (md X) f)):PE X (.Tuple es k pos) (tD (md X) (aX f)):=jB (DQ h) fun σ H Q qq=>by
 obtain⟨ρ,Γ,S,d,S',ok,e,q⟩:=qq
 obtain⟨⟨ds,S1⟩,e1,e⟩:=bind_some e
 dsimp only at e
 split at e
 ·rename_i c
  obtain⟨rfl,rfl⟩:=cm e
  refine⟨ρ,Γ,S,ds,S1,ok,e1,fun ρ1 vs H1 x1 st1 r1=>⟨r1.length▸c,fun p hp=> ?_⟩⟩
  exact q ρ1 (.ref p) _ (x1.trans (bX.laid hp)) (st1.lay hp) (.tup bJ (r1.ext (bX.laid hp)))
 ·cases e
def bp(f:fo):fo:=fun Γ S=>(f Γ S).bind fun(ds,S1)=>if ds.length<=sizeLine then some (ds,S1) else none
theorem da{M:Md}{ρ ρ':List Addr}{S:az}{H H':Hp}{p:Addr}(x:bX ρ H ρ' H')(st:eV M ρ' S H')(hp:H' p=none):p∉ρ':=fun m=>by
 obtain⟨k,hk⟩:=List.getElem?_of_mem m
 have l:k<S.length:=st.len▸(gQs.mp hk).1
 have:=st.obj k p _ hk (gQe l)
 cases e:S[k] with
 |lst ds=>rw[e] at this;obtain⟨vs,h,_⟩:=this;rw[hp] at h;cases h
 |frz ds=>rw[e] at this;obtain⟨vs,o,h,_⟩:=this;rw[hp] at h;cases h
 |dct ds=>rw[e] at this;obtain⟨vs,h,_⟩:=this;rw[hp] at h;cases h
theorem bP{es:List Expr}{f:fo}{pos}(h:PA X es (vy (md X) f)):PE X (.List es pos) (tL (md X) (bp f)):=jB (Eo h) fun σ H Q qq=>by
 obtain⟨ρ,Γ,S,d,S',ok,e,q⟩:=qq
 obtain⟨⟨ds,S1⟩,e1,e⟩:=bind_some e
 dsimp only at e
 split at e
 ·rename_i c
  obtain⟨rfl,rfl⟩:=cm e
  refine⟨ρ,Γ,S,ds,S1,ok,e1,fun ρ1 vs H1 x1 st1 r1=>⟨r1.length▸c,fun p hp=> ?_⟩⟩
  exact q ρ1 p vs _ (x1.trans (bX.laid hp)) (st1.lay hp) (x1.grow p hp) (da x1 st1 hp) bJ (r1.ext (bX.laid hp))
 ·cases e
end
section
variable{X:Cx}{a b c e:Expr}{pos:Pos}
theorem zZ:jh X (binaryOp .Add) (fun x y H Q=>∃a b ys,x=.ref a/\y=.ref b/\gD X.K H a []/\gD X.K H b ys/\Q (.ref b) H):=by
 intro pins s σ H x y v u Q I rx ry h
 obtain⟨a,b,ys,rfl,rfl,ha,hb,q⟩:=h
 cases rx
 cases ry
 obtain⟨its,r1,ht,_⟩:=I.tuple ha
 obtain⟨its2,r2,hb,_⟩:=I.tuple hb
 cases r1
 obtain⟨⟨cls,dd,data,sl⟩,ho,hc,n,hd⟩:=id ht
 obtain⟨⟨cls2,dd2,data2,sl2⟩,ho2,hc2,n2,hd2⟩:=id hb
 simp only at hc hd hc2 hd2
 subst hc hd hc2 hd2
 exact concat_meets ⟨_,ho,rfl⟩ ⟨_,ho2,rfl⟩ noFill_tuple_add seq_tuple_add PySem.F.slot_tuple_add PySem.F.entry_tuple_add (PySem.F.args_tuple_add_2 _ _)
   (tuple_addW0 a b _ its2.toArray n n2 dd dd2 sl sl2 (by simp)) ⟨ho,ho2,.ref b,H,I,rfl,q⟩
abbrev qM:=az->D->D->Option D
def kR(M:Md)(r:R2)(o:qM):Prop:=∀{ρ:List Addr} {S:az} {H:Hp} {x y d:D} {u v:V} {Q:VK},eV M ρ S H->Rel M ρ H x u->Rel M ρ H y v->o S x y=some d->(∀w H',bX ρ H ρ H'->eV M ρ S H'->Rel M ρ H' d w->Q w H')->r u v H Q
def ay(o:qM)(f g:bq):bq:=fun Γ S=>(f Γ S).bind fun(x,S1)=>(g Γ S1).bind fun(y,S2)=>(o S2 x y).bind fun d=>some (d,S2)
theorem nF{r:R2}{o:qM}{f g:bq}(ho:kR (md X) r o)(h:PE X e (Co r (tD (md X) f) (tD (md X) g))):PE X e (tD (md X) (ay o f g)):=jB h fun σ H Q qq=>by
 obtain⟨ρ,Γ,S,d,S',ok,e,q⟩:=qq
 obtain⟨⟨x,S1⟩,e1,e⟩:=bind_some e
 obtain⟨⟨y,S2⟩,e2,e⟩:=bind_some e
 obtain⟨d',e3,e⟩:=bind_some e
 obtain⟨rfl,rfl⟩:=cm e
 refine⟨ρ,Γ,S,x,S1,ok,e1,fun ρ1 v H1 x1 st1 r1=>⟨ρ1,Γ,S1,y,S2,ok.to x1 st1,e2,fun ρ2 w H2 x2 st2 r2=> ?_⟩⟩
 exact ho st2 (r1.ext x2) r2 e3 fun w' H3 x3 st3 r3=>q ρ2 w' H3 ((x1.trans x2).trans x3) st3 r3
def cc:qM:=fun _ x y=>match x,y with
 |.int i,.int j=>some (.int (i+j))
 |.str i,.str j=>if i.length+j.length<=sizeLine then some (.str (i++j)) else none
 |.tup i,.tup j=>if i.length+j.length<=sizeLine then some (.tup (i++j)) else none
 |_,_=>none
abbrev F7(K:PySem.W.Frag):R2:=fun x y H Q=>(∃i j,x=.int i/\y=.int j/\Q (.int (i+j)) H)\/(∃i j,x=.str i/\y=.str j/\i.length+j.length<=sizeLine/\Q (.str (i++j)) H)∨
 (∃a b ys,x=.ref a/\y=.ref b/\gD K H a []/\gD K H b ys/\Q (.ref b) H)\/Dg K x y H Q
theorem Ck:jh X (binaryOp .Add) (F7 X.K):=ES.or (wM.or (zZ.or Ct))
theorem D9{M:Md}:kR M (F7 M.K) cc:=by
 intro ρ S H x y d u v Q st r1 r2 e q
 cases r1 with
 |int i=>cases r2 <;>simp only[cc,reduceCtorEq] at e;cases e;exact .inl ⟨_,_,rfl,rfl,q _ _ bX.refl st (.int _)⟩
 | str i=>
   cases r2 <;>simp only[cc,reduceCtorEq] at e
   split at e <;>cases e
   exact .inr (.inl ⟨_,_,rfl,rfl,by assumption,q _ _ bX.refl st (.str _)⟩)
 | tup h1 h2=>
   cases r2 with
   | tup h3 h4=>
     simp only[cc] at e
     split at e <;>cases e
     rename_i hl
     have l1:=h2.length
     have l2:=h4.length
     cases h2 with
     |nil=>exact .inr (.inr (.inl ⟨_,_,_,rfl,rfl,gD.of h1,gD.of h3,q _ _ bX.refl st (.tup h3 h4)⟩))
     | cons h2 h2'=>
       refine .inr (.inr (.inr ⟨_,_,_,_,rfl,rfl,gD.of h1,gD.of h3,by simp,by rw[←l1,←l2];exact hl,fun z=> ?_,fun z p hp=> ?_⟩))
       · subst z
         cases h4
         rw[List.append_nil] at q
         exact q _ _ bX.refl st (.tup h1 (.cons h2 h2'))
       · exact q _ _ (bX.laid hp) (st.lay hp) (.tup bJ ((aU.append (.cons h2 h2') h4).ext (bX.laid hp)))
   |_=>simp only[cc,reduceCtorEq] at e
 |_=>simp only[cc,reduceCtorEq] at e
theorem bO{f g:bq}(ha:PE X a (tD (md X) f))(hb:PE X b (tD (md X) g)):PE X (.BinOp a .Add b pos) (tD (md X) (ay cc f g)):=nF D9 (nO Ck ha hb)
def intD(C:Int->Int->Prop)[∀i j,Decidable (C i j)](k:Int->Int->D):qM:=fun _ x y=>match x,y with
 |.int i,.int j=>if C i j then some (k i j) else none
 |_,_=>none
theorem tY{M:Md}{C:Int->Int->Prop}[∀i j,Decidable (C i j)]{k:Int->Int->D}{g:Int->Int->V}(hk:∀i j ρ H,Rel M ρ H (k i j) (g i j)):kR M (rI C g) (intD C k):=by
 intro ρ S H x y d u v Q st r1 r2 e q
 cases r1 <;>cases r2 <;>simp only[intD,reduceCtorEq] at e
 split at e <;>cases e
 exact⟨_,_,rfl,rfl,by assumption,q _ _ bX.refl st (hk _ _ _ _)⟩
theorem lH{M:Md}{k:Int->Int->D}{g:Int->Int->V}(hk:∀i j ρ H,Rel M ρ H (k i j) (g i j)):kR M (zC g) (intD (fun _ _=>True) k):=by
 intro ρ S H x y d u v Q st r1 r2 e q
 cases r1 <;>cases r2 <;>simp only[intD,reduceCtorEq] at e
 rw[if_pos trivial] at e
 cases e
 exact⟨_,_,rfl,rfl,q _ _ bX.refl st (hk _ _ _ _)⟩
instance{i j:Int}:Decidable (Aj i j):=by unfold Aj;infer_instance
instance{i j:Int}:Decidable (Bn i j):=by unfold Bn;infer_instance
open Classical in
noncomputable instance{i j:Int}:Decidable (IntMulOk i j):=Classical.propDecidable _
abbrev jU:qM:=intD (fun _ _=>True) fun i j=>.int (i-j)
noncomputable abbrev kE:qM:=intD IntMulOk fun i j=>.int (i*j)
abbrev oo:qM:=intD (fun _ j=>0<j) fun i j=>.int (i%j)
abbrev uL:qM:=intD Aj fun i j=>.int (i/j)
abbrev uo:qM:=intD Bn fun i j=>.int (i^j.toNat)
theorem pW{f g:bq}(ha:PE X a (tD (md X) f))(hb:PE X b (tD (md X) g)):PE X (.BinOp a .Sub b pos) (tD (md X) (ay jU f g)):=nF (lH fun i j _ _=>.int _) (nO DW ha hb)
theorem p_{f g:bq}(ha:PE X a (tD (md X) f))(hb:PE X b (tD (md X) g)):PE X (.BinOp a .Mult b pos) (tD (md X) (ay kE f g)):=nF (tY fun i j _ _=>.int _) (nO CI ha hb)
theorem qx{f g:bq}(ha:PE X a (tD (md X) f))(hb:PE X b (tD (md X) g)):PE X (.BinOp a .Mod b pos) (tD (md X) (ay oo f g)):=nF (tY fun i j _ _=>.int _) (nO D3 ha hb)
theorem zW{f g:bq}(ha:PE X a (tD (md X) f))(hb:PE X b (tD (md X) g)):PE X (.BinOp a .FloorDiv b pos) (tD (md X) (ay uL f g)):=nF (tY fun i j _ _=>.int _) (nO BU ha hb)
theorem zO{f g:bq}(ha:PE X a (tD (md X) f))(hb:PE X b (tD (md X) g)):PE X (.BinOp a .Pow b pos) (tD (md X) (ay uo f g)):=nF (tY fun i j _ _=>.int _) (nO Eu ha hb)
def nY(f:bq):bq:=fun Γ S=>(f Γ S).bind fun(d,S1)=>match d with
 |.int i=>some (.int (-i),S1)
 |_=>none
theorem lP{f:bq}(ha:PE X a (tD (md X) f)):PE X (.UnaryOp .USub a pos) (tD (md X) (nY f)):=jB (Gj DG ha) fun σ H Q qq=>by
 obtain⟨ρ,Γ,S,d,S',ok,e,q⟩:=qq
 obtain⟨⟨x,S1⟩,e1,e⟩:=bind_some e
 dsimp only at e
 split at e
 ·obtain⟨rfl,rfl⟩:=cm e
  refine⟨ρ,Γ,S,_,S1,ok,e1,fun ρ1 v H1 x1 st1 r1=> ?_⟩
  cases r1
  exact⟨_,rfl,q _ _ _ x1 st1 (.int _)⟩
 ·cases e
def qL:D->Option V
 |.non=>some .non
 |.bl b=>some (.bl b)
 |.int i=>some (.int i)
 |.str x=>some (.str x)
 |_=>none
theorem jq{M:Md}{ρ:List Addr}{H:Hp}{d:D}{u v:V}(r:Rel M ρ H d u)(e:qL d=some v):u=v:=by
 cases r <;>simp[qL] at e <;>exact e
def eC(neg:Bool):qM:=fun _ x y=>match qL x,qL y with
 |some u,some v=>if w6 u v=true then some (.bl (if neg then !decide (u=v) else decide (u=v))) else none
 |_,_=>none
theorem uT{neg:Bool}{S:az}{x y d:D}(e:eC neg S x y=some d):∃u v,qL x=some u/\qL y=some v/\w6 u v=true/\d=.bl (if neg then !decide (u=v) else decide (u=v)):=by
 unfold eC at e
 split at e
 ·split at e <;>cases e
  exact⟨_,_,by assumption,by assumption,by assumption,rfl⟩
 ·cases e
theorem cf{M:Md}:kR M Hs (eC false):=by
 intro ρ S H x y d u v Q st r1 r2 e q
 obtain⟨u',v',h1,h2,h3,rfl⟩:=uT e
 cases jq r1 h1
 cases jq r2 h2
 exact⟨h3,q _ _ bX.refl st (.bl _)⟩
theorem vw{M:Md}:kR M Ht (eC true):=by
 intro ρ S H x y d u v Q st r1 r2 e q
 obtain⟨u',v',h1,h2,h3,rfl⟩:=uT e
 cases jq r1 h1
 cases jq r2 h2
 exact⟨h3,q _ _ bX.refl st (.bl _)⟩
abbrev zL:qM:=intD (fun _ _=>True) fun i j=>.bl (decide (i<j))
abbrev Hj:qM:=intD (fun _ _=>True) fun i j=>.bl (decide (i<=j))
abbrev E6:qM:=intD (fun _ _=>True) fun i j=>.bl (decide (j<i))
abbrev Hc:qM:=intD (fun _ _=>True) fun i j=>.bl (decide (j<=i))
theorem mj{M:Md}:kR M (zC fun i j=>.bl (decide (i<j))) zL:=lH fun i j _ _=>.bl _
theorem FI{M:Md}:kR M (zC fun i j=>.bl (decide (i<=j))) Hj:=lH fun i j _ _=>.bl _
theorem xT{M:Md}:kR M (zC fun i j=>.bl (decide (j<i))) E6:=lH fun i j _ _=>.bl _
theorem Fq{M:Md}:kR M (zC fun i j=>.bl (decide (j<=i))) Hc:=lH fun i j _ _=>.bl _
def isNone:D->Bool
 |.non=>true
 |_=>false
def CD(neg:Bool):qM:=fun _ x y=>match y with
 |.non=>some (.bl (if neg then !isNone x else isNone x))
 |_=>none
theorem zA{M:Md}{ρ:List Addr}{H:Hp}{d:D}{u:V}(r:Rel M ρ H d u):decide (u=V.non)=isNone d:=by
 cases r <;>simp[isNone]
theorem EY{M:Md}:kR M (fun x y H Q=>y=.non/\Q (.bl (decide (x=.non))) H) (CD false):=by
 intro ρ S H x y d u v Q st r1 r2 e q
 cases r2 <;>simp only[CD,reduceCtorEq] at e
 cases e
 rw[zA r1]
 exact⟨rfl,q _ _ bX.refl st (.bl _)⟩
theorem kY{op:CmpOp}{r:R2}{o:qM}{f g:bq}(ho:jh X (compareOp op) r)(hk:kR (md X) r o)(ha:PE X a (tD (md X) f))(hb:PE X b (tD (md X) g))(hm:behindInMarks op b=false):PE X (.Compare a [op] [b] pos) (tD (md X) (ay o f g)):=nF hk (CN ho ha hb hm)
def aE(f:bq):iJ:=fun Γ S=>(f Γ S).bind fun(d,S1)=>match d with
 |.bl k=>some (k,S1)
 |_=>none
theorem pN{f:bq}{Γ:cx}{S S':az}{k:Bool}(e:aE f Γ S=some (k,S')):f Γ S=some (.bl k,S'):=by
 obtain⟨⟨d,S1⟩,e1,e⟩:=bind_some e
 dsimp only at e
 split at e
 ·cases e;exact e1
 ·cases e
theorem Gd{r:R2}{o:qM}{f g:bq}(ho:kR (md X) r o)(h:PT X e (A4 (Co r (tD (md X) f) (tD (md X) g)))):PT X e (tB (md X) (aE (ay o f g))):=GC h fun σ H Q qq=>by
 obtain⟨ρ,Γ,S,d,S',ok,e,q⟩:=qq
 have e:=pN e
 obtain⟨⟨x,S1⟩,e1,e⟩:=bind_some e
 obtain⟨⟨y,S2⟩,e2,e⟩:=bind_some e
 obtain⟨d',e3,e⟩:=bind_some e
 obtain⟨rfl,rfl⟩:=cm e
 refine⟨ρ,Γ,S,x,S1,ok,e1,fun ρ1 v H1 x1 st1 r1=>⟨ρ1,Γ,S1,y,S2,ok.to x1 st1,e2,fun ρ2 w H2 x2 st2 r2=> ?_⟩⟩
 exact ho st2 (r1.ext x2) r2 e3 fun w' H3 x3 st3 r3=>by cases r3;exact⟨_,rfl,q ρ2 H3 ((x1.trans x2).trans x3) st3⟩
theorem bA{op:CmpOp}{r:R2}{o:qM}{f g:bq}(ho:jh X (compareOp op) r)(hk:kR (md X) r o)(ha:PE X a (tD (md X) f))(hb:PE X b (tD (md X) g))(hm:behindInMarks op b=false):PT X (.Compare a [op] [b] pos) (tB (md X) (aE (ay o f g))):=Gd hk (lq ho ha hb hm)
def wN(S:az):D->Option Bool
 |.non=>some false
 |.bl b=>some b
 |.int i=>some (i !=0)
 |.str y=>if y.length<=sizeLine then some ((y.length:Int) !=0) else none
 |.tup xs=>some (!xs.isEmpty)
 | .ref k=>match S[k]? with
   |some (.lst xs)=>some (!xs.isEmpty)
   |some (.dct xs)=>some (!xs.isEmpty)
   |_=>none
 |.fn _=>none
theorem aU.isEmpty{M:Md}{ρ:List Addr}{H:Hp}{ds:List D}{vs:List V}(h:aU M ρ H ds vs):ds.isEmpty=vs.isEmpty:=by cases h <;>rfl
theorem b_.isEmpty{M:Md}{ρ:List Addr}{H:Hp}{ds:List (Key×D)}{vs:List (Key×V)}(h:b_ M ρ H ds vs):ds.isEmpty=vs.isEmpty:=by
 cases ds with
 |nil=>cases h;rfl
 |cons p r=>obtain⟨v,t,e,_⟩:=h;subst e;rfl
theorem Cg{M:Md}{ρ:List Addr}{S:az}{H:Hp}{d:D}{u:V}{k:Bool}(st:eV M ρ S H)(r:Rel M ρ H d u)(e:wN S d=some k):DE M.K u H k:=by
 cases r with
 |non=>cases e;rfl
 |bl=>cases e;rfl
 |int=>cases e;rfl
 |str=>simp only[wN] at e;split at e <;>cases e;exact⟨by assumption,rfl⟩
 |tup h hs=>cases e;exact .inr (.inl ⟨_,gD.of h,by rw[hs.isEmpty]⟩)
 |fn=>cases e
 | ref h=>
   simp only[wN] at e
   split at e
   · cases e
     obtain⟨vs,h1,h2⟩:=st.obj _ _ _ h (by assumption)
     exact .inl ⟨vs,gX.of h1,by rw[h2.isEmpty]⟩
   · cases e
     obtain⟨vs,h1,h2⟩:=st.obj _ _ _ h (by assumption)
     exact .inr (.inr ⟨vs,h1,by rw[h2.isEmpty]⟩)
   · cases e
def mq(f:bq):iJ:=fun Γ S=>(f Γ S).bind fun(d,S1)=>(wN S1 d).bind fun k=>some (k,S1)
theorem j_{f:bq}(ha:PE X a (tD (md X) f))(he:∀whole,isTrue a X.env whole=(do let v←whole;standAt a.pos;holding [v] (truthy v)):=by intro _;rfl):PT X a (tB (md X) (mq f)):=GC (AH ha he) fun σ H Q qq=>by
 obtain⟨ρ,Γ,S,k,S',ok,e,q⟩:=qq
 obtain⟨⟨x,S1⟩,e1,e⟩:=bind_some e
 obtain⟨k',e2,e⟩:=bind_some e
 obtain⟨rfl,rfl⟩:=cm e
 exact⟨ρ,Γ,S,x,S1,ok,e1,fun ρ1 v H1 x1 st1 r1=>⟨k',Cg st1 r1 e2,q _ _ x1 st1⟩⟩
def wL(f:iJ):iJ:=fun Γ S=>(f Γ S).bind fun(k,S1)=>some (!k,S1)
theorem yA{f:iJ}(ha:PT X a (tB (md X) f)):PT X (.UnaryOp .Not a pos) (tB (md X) (wL f)):=GC (Dt ha) fun σ H Q qq=>by
 obtain⟨ρ,Γ,S,k,S',ok,e,q⟩:=qq
 obtain⟨⟨k1,S1⟩,e1,e⟩:=bind_some e
 obtain⟨rfl,rfl⟩:=cm e
 exact⟨ρ,Γ,S,k1,S1,ok,e1,fun ρ1 H1 x1 st1=>q _ _ x1 st1⟩
def gf(f g:iJ):iJ:=fun Γ S=>(f Γ S).bind fun(k,S1)=>if k=true then g Γ S1 else some (false,S1)
def Ez(f g:iJ):iJ:=fun Γ S=>(f Γ S).bind fun(k,S1)=>if k=true then some (true,S1) else g Γ S1
theorem eM{f:iJ}(ha:PT X a (tB (md X) f)):PW X (.BoolOp .And [a] pos) (tB (md X) f):=CZ ha
theorem De{f:iJ}(ha:PT X a (tB (md X) f)):PW X (.BoolOp .Or [a] pos) (tB (md X) f):=DS ha
theorem w_and{rest:List Expr}{f g:iJ}(ha:PT X a (tB (md X) f))(hb:PW X (.BoolOp .And (b::rest) pos) (tB (md X) g)):PW X (.BoolOp .And (a::b::rest) pos) (tB (md X) (gf f g)):=Hr (EX ha hb) fun σ H Q qq=>by
 obtain⟨ρ,Γ,S,k,S',ok,e,q⟩:=qq
 obtain⟨⟨k1,S1⟩,e1,e⟩:=bind_some e
 refine⟨ρ,Γ,S,k1,S1,ok,e1,fun ρ1 H1 x1 st1=> ?_⟩
 dsimp only at e
 split at e
 ·rename_i c
  rw[if_pos c]
  exact⟨ρ1,Γ,S1,k,S',ok.to x1 st1,e,fun ρ2 H2 x2 st2=>q _ _ (x1.trans x2) st2⟩
 ·rename_i c
  rw[if_neg c]
  obtain⟨rfl,rfl⟩:=cm e
  exact q _ _ x1 st1
theorem w_or{rest:List Expr}{f g:iJ}(ha:PT X a (tB (md X) f))(hb:PW X (.BoolOp .Or (b::rest) pos) (tB (md X) g)):PW X (.BoolOp .Or (a::b::rest) pos) (tB (md X) (Ez f g)):=Hr (FD ha hb) fun σ H Q qq=>by
 obtain⟨ρ,Γ,S,k,S',ok,e,q⟩:=qq
 obtain⟨⟨k1,S1⟩,e1,e⟩:=bind_some e
 refine⟨ρ,Γ,S,k1,S1,ok,e1,fun ρ1 H1 x1 st1=> ?_⟩
 dsimp only at e
 split at e
 ·rename_i c
  rw[if_pos c]
  obtain⟨rfl,rfl⟩:=cm e
  exact q _ _ x1 st1
 ·rename_i c
  rw[if_neg c]
  exact⟨ρ1,Γ,S1,k,S',ok.to x1 st1,e,fun ρ2 H2 x2 st2=>q _ _ (x1.trans x2) st2⟩
def wH(f g:bq):bq:=fun Γ S=>(f Γ S).bind fun(d,S1)=>match d with
 |.bl true=>g Γ S1
 |.bl false=>some (.bl false,S1)
 |_=>none
theorem C5{op}{f:bq}(h:PE X a (tD (md X) f)):PE X (.BoolOp op [a] pos) (tD (md X) f):=Er h
theorem C6{rest:List Expr}{f g:bq}(ha:PE X a (tD (md X) f))(hb:PE X (.BoolOp .And (b::rest) pos) (tD (md X) g)):PE X (.BoolOp .And (a::b::rest) pos) (tD (md X) (wH f g)):=jB (D7 ha hb) fun σ H Q qq=>by
 obtain⟨ρ,Γ,S,d,S',ok,e,q⟩:=qq
 obtain⟨⟨x,S1⟩,e1,e⟩:=bind_some e
 refine⟨ρ,Γ,S,x,S1,ok,e1,fun ρ1 v H1 x1 st1 r1=> ?_⟩
 dsimp only at e
 split at e
 ·cases r1
  refine⟨_,rfl,?_⟩
  rw[if_pos rfl]
  exact⟨ρ1,Γ,S1,d,S',ok.to x1 st1,e,fun ρ2 w H2 x2 st2 r2=>q _ _ _ (x1.trans x2) st2 r2⟩
 ·cases r1
  refine⟨_,rfl,?_⟩
  rw[if_neg Bool.false_ne_true]
  obtain⟨rfl,rfl⟩:=cm e
  exact q _ _ _ x1 st1 (.bl _)
 ·cases e
def uz(c:iJ)(f g:bq):bq:=fun Γ S=>(c Γ S).bind fun(k,S1)=>if k=true then f Γ S1 else g Γ S1
theorem uI{h:iJ}{f g:bq}(hc:PT X c (tB (md X) h))(ha:PE X a (tD (md X) f))(hb:PE X b (tD (md X) g)):PE X (.IfExp c a b pos) (tD (md X) (uz h f g)):=jB (Bu hc ha hb) fun σ H Q qq=>by
 obtain⟨ρ,Γ,S,d,S',ok,e,q⟩:=qq
 obtain⟨⟨k1,S1⟩,e1,e⟩:=bind_some e
 refine⟨ρ,Γ,S,k1,S1,ok,e1,fun ρ1 H1 x1 st1=> ?_⟩
 dsimp only at e
 split at e
 ·rename_i c
  rw[if_pos c]
  exact⟨ρ1,Γ,S1,d,S',ok.to x1 st1,e,fun ρ2 w H2 x2 st2 r2=>q _ _ _ (x1.trans x2) st2 r2⟩
 ·rename_i c
  rw[if_neg c]
  exact⟨ρ1,Γ,S1,d,S',ok.to x1 st1,e,fun ρ2 w H2 x2 st2 r2=>q _ _ _ (x1.trans x2) st2 r2⟩
def aI:qM:=fun S x y=>match x,y with
 |.tup xs,.int i=>i3 xs i
 |.str z,.int i=>if z.length<=sizeLine then(i3 z.cps.toList i).map fun c=>.str ⟨#[c]⟩ else none
 | .ref k,.int i=>match S[k]? with
   |some (.lst xs)=>i3 xs i
   |some (.frz xs)=>i3 xs i
   |_=>none
 |_,_=>none
theorem Ca{α β:Type}{xs:List α}{ys:List β}{i:Int}{x:α}(h:i3 xs i=some x)(l:xs.length=ys.length):∃j:Nat,xs[j]?=some x/\∀y,ys[j]?=some y->i3 ys i=some y:=by
 unfold i3 at h
 obtain⟨j,e,h⟩:=bind_some h
 exact⟨j,h,fun y hy=>by unfold i3;rw[←l,e];exact hy⟩
theorem aU.atI{M:Md}{ρ:List Addr}{H:Hp}{ds:List D}{vs:List V}{i:Int}{d:D}(h:aU M ρ H ds vs)(e:L2.i3 ds i=some d):∃v,L2.i3 vs i=some v/\Rel M ρ H d v:=by
 obtain⟨j,h1,h2⟩:=Ca e h.length
 obtain⟨v,h3,h4⟩:=h.get h1
 exact⟨v,h2 v h3,h4⟩
theorem Ft{M:Md}:kR M (Hn M.K) aI:=by
 intro ρ S H x y d u v Q st r1 r2 e q
 cases r2 <;>cases r1 <;>simp only[aI,reduceCtorEq] at e
 ·split at e
  ·obtain⟨c,h1,h2⟩:=oQm.mp e
   subst h2
   exact .inr (.inr ⟨_,_,c,rfl,rfl,by assumption,h1,q _ _ bX.refl st (.str _)⟩)
  ·cases e
 ·rename_i h hs
  obtain⟨v,h1,h2⟩:=hs.atI e
  exact .inr (.inl ⟨_,_,_,v,rfl,rfl,gD.of h,h1,q _ _ bX.refl st h2⟩)
 ·rename_i h
  split at e
  ·obtain⟨vs,g1,g2⟩:=st.obj _ _ _ h (by assumption)
   obtain⟨v,h1,h2⟩:=g2.atI e
   exact .inl ⟨_,_,_,v,rfl,rfl,gX.of g1,h1,q _ _ bX.refl st h2⟩
  ·obtain⟨vs,o,g1,g2⟩:=st.obj _ _ _ h (by assumption)
   obtain⟨v,h1,h2⟩:=g2.atI e
   exact .inl ⟨_,_,_,v,rfl,rfl,.inl (.inr ⟨o,g1⟩),h1,q _ _ bX.refl st h2⟩
  ·cases e
theorem av{f g:bq}(ha:PE X a (tD (md X) f))(hb:PE X b (tD (md X) g))(hs:yo b:=by intro _ _;rfl):PE X (.Subscript a b pos) (tD (md X) (ay aI f g)):=nF Ft (Gb Eg ha hb hs)
end
inductive Tag where
 |tu|fr|st (k:Nat)|fz (k:Nat)
def wC(M:Md)(ρ:List Addr)(H:Hp)(a:Addr)(vs:List V):Tag->Prop
 |.tu=>gD M.K H a vs
 |.fr=>H a=some (.lst vs)/\a∉ρ
 |.st k=>ρ[k]?=some a/\H a=some (.lst vs)
 |.fz k=>ρ[k]?=some a/\∃o,H a=some (.frz o (.lst vs))
abbrev d_:=cx->az->Option ((List D×Tag)×az)
def tQ(M:Md)(f:d_):TE:=fun σ H Q=>∃ρ Γ S ds t S',Ok M ρ Γ S σ H/\f Γ S=some ((ds,t),S')∧
 ∀ρ' a vs H',bX ρ H ρ' H'->eV M ρ' S' H'->wC M ρ' H' a vs t->aU M ρ' H' ds vs->Q (.ref a) H'
theorem wC.sq{M:Md}{ρ:List Addr}{H:Hp}{a:Addr}{vs:List V}{t:Tag}(h:wC M ρ H a vs t):gX M.K H a vs\/gD M.K H a vs:=by
 cases t with
 |tu=>exact .inr h
 |fr=>exact .inl (gX.of h.1)
 |st k=>exact .inl (gX.of h.2)
 |fz k=>obtain⟨_,o,h⟩:=h;exact .inl (.inl (.inr ⟨o,h⟩))
def Tag.isL:Tag->Bool
 |.tu=>false
 |_=>true
def Tag.isM:Tag->Bool
 |.fr=>true
 |.st _=>true
 |_=>false
theorem wC.sqL{M:Md}{ρ:List Addr}{H:Hp}{a:Addr}{vs:List V}{t:Tag}(h:wC M ρ H a vs t)(c:t.isL=true):gX M.K H a vs:=by
 cases t with
 |tu=>cases c
 |fr=>exact gX.of h.1
 |st k=>exact gX.of h.2
 |fz k=>obtain⟨_,o,h⟩:=h;exact .inl (.inr ⟨o,h⟩)
theorem wC.sqM{M:Md}{ρ:List Addr}{H:Hp}{a:Addr}{vs:List V}{t:Tag}(h:wC M ρ H a vs t)(c:t.isM=true):H a=some (.lst vs):=by
 cases t with
 |tu=>cases c
 |fr=>exact h.1
 |st k=>exact h.2
 |fz k=>cases c
theorem wC.sqT{M:Md}{ρ:List Addr}{H:Hp}{a:Addr}{vs:List V}{t:Tag}(h:wC M ρ H a vs t)(c:t.isL=false):gD M.K H a vs:=by
 cases t with
 |tu=>exact h
 |fr=>cases c
 |st k=>cases c
 |fz k=>cases c
def Tag.stays(S:az)(ds:List D):Tag->Prop
 |.st k=>S[k]?=some (.lst ds)
 |.fz k=>S[k]?=some (.frz ds)
 |_=>True
theorem gD.ext{K:PySem.W.Frag}{ρ ρ':List Addr}{H H':Hp}{a:Addr}{vs:List V}(e:bX ρ H ρ' H')(h:gD K H a vs):gD K H' a vs:=by
 rcases h with(h|⟨o,h⟩)|h
 ·exact .inl (.inl (e.keep _ _ h (.inr trivial)))
 ·exact .inl (.inr ⟨o,e.keep _ _ h (.inr trivial)⟩)
 ·exact .inr h
theorem wC.to{M:Md}{ρ ρ':List Addr}{S:az}{H H':Hp}{a:Addr}{vs:List V}{ds:List D}{t:Tag}(h:wC M ρ H a vs t)(r:aU M ρ H ds vs)(e:bX ρ H ρ' H')(st:eV M ρ' S H')(c:t.stays S ds):∃vs',wC M ρ' H' a vs' t/\aU M ρ' H' ds vs':=by
 cases t with
 |tu=>exact⟨vs,gD.ext e h,r.ext e⟩
 |fr=>exact⟨vs,⟨e.keep _ _ h.1 (.inl h.2),fun m=>(e.new a m).elim h.2 fun z=>by have h1:=h.1;rw[z] at h1;cases h1⟩,r.ext e⟩
 | st k=>
   have hk:=cE e.pre h.1
   obtain⟨vs',h1,h2⟩:=st.obj k a _ hk c
   exact⟨vs',⟨hk,h1⟩,h2⟩
 | fz k=>
   have hk:=cE e.pre h.1
   obtain⟨vs',o,h1,h2⟩:=st.obj k a _ hk c
   exact⟨vs',⟨hk,o,h1⟩,h2⟩
section
variable{X:Cx}{a b c e:Expr}{pos:Pos}
def gC(f:fo):d_:=fun Γ S=>(f Γ S).bind fun(ds,S1)=>some ((ds,.fr),S1)
theorem ip{f:fo}(h:PE X e (tL (md X) f)):PE X e (tQ (md X) (gC f)):=jB h fun σ H Q qq=>by
 obtain⟨ρ,Γ,S,ds,t,S',ok,e,q⟩:=qq
 obtain⟨⟨ds',S1⟩,e1,e⟩:=bind_some e
 obtain⟨e2,rfl⟩:=cm e
 obtain⟨rfl,rfl⟩:=Prod.mk.inj e2
 exact⟨ρ,Γ,S,ds',S1,ok,e1,fun ρ' a vs H' x st fr nr ha rs=>q _ _ _ _ x st ⟨ha,nr⟩ rs⟩
def p9(S:az):D->Option (List D×Tag)
 |.tup ds=>some (ds,.tu)
 | .ref k=>match S[k]? with
   |some (.lst ds)=>some (ds,.st k)
   |some (.frz ds)=>some (ds,.fz k)
   |_=>none
 |_=>none
def bc(f:bq):d_:=fun Γ S=>(f Γ S).bind fun(d,S1)=>(p9 S1 d).bind fun p=>some (p,S1)
theorem BV{M:Md}{ρ:List Addr}{S:az}{H:Hp}{d:D}{v:V}{ds:List D}{t:Tag}(st:eV M ρ S H)(r:Rel M ρ H d v)(e:p9 S d=some (ds,t)):∃a vs,v=.ref a/\wC M ρ H a vs t/\aU M ρ H ds vs:=by
 cases r with
 |tup h hs=>simp only[p9] at e;cases e;exact⟨_,_,rfl,gD.of h,hs⟩
 | ref h=>
   simp only[p9] at e
   split at e
   · rename_i q
     cases e
     obtain⟨vs,h1,h2⟩:=st.obj _ _ _ h q
     exact⟨_,vs,rfl,⟨h,h1⟩,h2⟩
   · rename_i q
     cases e
     obtain⟨vs,o,h1,h2⟩:=st.obj _ _ _ h q
     exact⟨_,vs,rfl,⟨h,o,h1⟩,h2⟩
   · cases e
 |_=>simp only[p9,reduceCtorEq] at e
theorem df{f:bq}(h:PE X e (tD (md X) f)):PE X e (tQ (md X) (bc f)):=jB h fun σ H Q qq=>by
 obtain⟨ρ,Γ,S,ds,t,S',ok,e,q⟩:=qq
 obtain⟨⟨d,S1⟩,e1,e⟩:=bind_some e
 obtain⟨⟨ds',t'⟩,e2,e⟩:=bind_some e
 obtain⟨e3,rfl⟩:=cm e
 obtain⟨rfl,rfl⟩:=Prod.mk.inj e3
 refine⟨ρ,Γ,S,d,S1,ok,e1,fun ρ' v H' x st r=> ?_⟩
 obtain⟨a,vs,rfl,h1,h2⟩:=BV st r e2
 exact q _ _ _ _ x st h1 h2
theorem fh{f:d_}{p:Pos}(hg:Gl X "len")(hm:X.mg "len"=none)(ha:PE X a (tQ (md X) f))(hs:starEach [a] X.env= [(false,eval a X.env)]:=by rfl):
  PE X (.Call (.Name "len" p) [a] [] pos) (tD (md X) fun Γ S=>(f Γ S).bind fun(p,S1)=>some (.int p.1.length,S1)):=
 jB (dH tT hg hm PySem.boot_len (dr ha fm hs) (he:=hs)) fun σ H Q qq=>by
  obtain⟨ρ,Γ,S,d,S',ok,e,q⟩:=qq
  obtain⟨⟨⟨ds,t⟩,S1⟩,e1,e⟩:=bind_some e
  obtain⟨rfl,rfl⟩:=cm e
  refine⟨ρ,Γ,S,ds,t,S1,ok,e1,fun ρ' a vs H' x st h r=>⟨a,vs,rfl,h.sq,?_⟩⟩
  have:=q _ (.int vs.length) _ x st (by rw[←r.length];exact .int _)
  exact this
def h_(f:d_):bq:=fun Γ S=>(f Γ S).bind fun(p,S1)=>some (.int p.1.length,S1)
def tupQ(f:d_):bq:=fun Γ S=>(f Γ S).bind fun(p,S1)=>some (.tup p.1,S1)
theorem dh{f:d_}{p:Pos}(hg:Gl X "tuple")(hm:X.mg "tuple"=none)(ha:PE X a (tQ (md X) f))(hs:starEach [a] X.env= [(false,eval a X.env)]:=by rfl)(ht:∀Γ S ds t S',f Γ S=some ((ds,t),S')->t.isL=true):
  PE X (.Call (.Name "tuple" p) [a] [] pos) (tD (md X) (tupQ f)):=
 jB (eW qZ hg hm (by rfl) (dr ha fm hs) (he:=hs)) fun σ H Q qq=>by
  obtain⟨ρ,Γ,S,d,S',ok,e,q⟩:=qq
  obtain⟨⟨⟨ds,t⟩,S1⟩,e1,e⟩:=bind_some e
  obtain⟨rfl,rfl⟩:=cm e
  refine⟨ρ,Γ,S,ds,t,S1,ok,e1,fun ρ' a vs H' x st h r=>⟨a,vs,rfl,.inl ⟨h.sqL (ht _ _ _ _ _ e1),fun l hl=> ?_⟩⟩⟩
  exact q _ _ _ (x.trans (bX.laid hl)) (st.lay hl) (.tup bJ (r.ext (bX.laid hl)))
theorem eI{f:fo}:∀Γ S ds t S',gC f Γ S=some ((ds,t),S')->t.isL=true:=fun Γ S ds t S' e=>by
 obtain⟨⟨ds',S1⟩,e1,e⟩:=bind_some e
 cases e
 rfl
def fJ(f:d_):d_:=fun Γ S=>(f Γ S).bind fun(p,S1)=>if p.2.isL=true then some (p,S1) else none
theorem gL{f:d_}:∀Γ S ds t S',fJ f Γ S=some ((ds,t),S')->t.isL=true:=fun Γ S ds t S' e=>by
 obtain⟨⟨⟨ds',t'⟩,S1⟩,e1,e⟩:=bind_some e
 dsimp only at e
 split at e <;>cases e
 assumption
theorem xQ{f:d_}(h:PE X e (tQ (md X) f)):PE X e (tQ (md X) (fJ f)):=jB h fun σ H Q qq=>by
 obtain⟨ρ,Γ,S,ds,t,S',ok,e,q⟩:=qq
 obtain⟨⟨⟨ds',t'⟩,S1⟩,e1,e⟩:=bind_some e
 dsimp only at e
 split at e
 ·obtain⟨e3,rfl⟩:=cm e
  obtain⟨rfl,rfl⟩:=Prod.mk.inj e3
  exact⟨ρ,Γ,S,ds',t',S1,ok,e1,q⟩
 ·cases e
def Ec:List D->Option (List Bool)
 | []=>some []
 |.bl b::r=>(Ec r).bind fun bs=>some (b::bs)
 |_::_=>none
theorem zM{M:Md}{ρ:List Addr}{H:Hp}:∀{ds:List D} {vs:List V} {bs:List Bool},aU M ρ H ds vs->Ec ds=some bs->vs=bs.map V.bl
 | [],_,_,h,e=>by cases h;cases e;rfl
 | d::ds,_,_,h,e=>by
   cases d with
   | bl b=>
     simp only[Ec] at e
     obtain⟨bs',e1,e⟩:=bind_some e
     cases e
     cases h with
     | cons h hs=>
       cases h
       rw[zM hs e1]
       rfl
   |_=>cases e
def BS(f:d_):bq:=fun Γ S=>(f Γ S).bind fun(p,S1)=>if p.2.isL=true then(Ec p.1).bind fun bs=>some (.bl (bs.any id),S1) else none
theorem FH{f:d_}{p:Pos}(hc:X.calm=true)(hg:Gl X "any")(hm:X.mg "any"=none)(ha:PE X a (tQ (md X) f))(hs:starEach [a] X.env= [(false,eval a X.env)]:=by rfl):
  PE X (.Call (.Name "any" p) [a] [] pos) (tD (md X) (BS f)):=
 jB (dH (yO hc) hg hm (by rfl) (dr ha fm hs) (he:=hs)) fun σ H Q qq=>by
  obtain⟨ρ,Γ,S,d,S',ok,e,q⟩:=qq
  obtain⟨⟨⟨ds,t⟩,S1⟩,e1,e⟩:=bind_some e
  dsimp only at e
  split at e
  ·rename_i c
   obtain⟨bs,e2,e⟩:=bind_some e
   obtain⟨rfl,rfl⟩:=cm e
   refine⟨ρ,Γ,S,ds,t,S1,ok,e1,fun ρ' a vs H' x st h r=>⟨a,bs,rfl,?_,q _ _ _ x st (.bl _)⟩⟩
   rw[←zM r e2]
   exact h.sqL c
  ·cases e
def zh(S:az)(T:String):D->Option Bool
 |.non=>some (T=="NoneType")
 |.bl _=>some (T=="bool" ||T=="int")
 |.int _=>some (T=="int")
 |.str _=>some (T=="str")
 |.tup _=>some (T=="tuple")
 | .ref k=>match S[k]? with
   |some (.lst _)=>some (T=="list")
   |some (.frz _)=>some (T=="list")
   |some (.dct _)=>some (T=="dict")
   |_=>none
 |.fn _=>none
def Fo(K:PySem.W.Frag)(T:String):Prop:=(PySem.W.kitOne K (.type "NoneType") (.type T)=some (T=="NoneType"))/\(PySem.W.kitOne K (.type "bool") (.type T)=some (T=="bool" ||T=="int"))/\(PySem.W.kitOne K (.type "int") (.type T)=some (T=="int"))/\(PySem.W.kitOne K (.type "str") (.type T)=some (T=="str"))∧
 (PySem.W.kitOne K (.type "tuple") (.type T)=some (T=="tuple"))/\(PySem.W.kitOne K (.type "list") (.type T)=some (T=="list"))/\(PySem.W.kitOne K (.type "dict") (.type T)=some (T=="dict"))
def uZ(T:String)(f:bq):bq:=fun Γ S=>(f Γ S).bind fun(d,S1)=>(zh S1 T d).bind fun k=>some (.bl k,S1)
theorem xS{T:String}{tn:Expr}{f:bq}{p:Pos}(hk:Fo X.K T)(hg:Gl X "isinstance")(hm:X.mg "isinstance"=none)(ha:PE X a (tD (md X) f))(ht:PE X tn (tC (.ty T)))(hs:starEach [a,tn] X.env= [(false,eval a X.env),(false,eval tn X.env)]:=by rfl)(hs1:starEach [tn] X.env= [(false,eval tn X.env)]:=by rfl):
  PE X (.Call (.Name "isinstance" p) [a,tn] [] pos) (tD (md X) (uZ T f)):=
 jB (dH A5 hg hm boot_isinstance (dr ha (dr ht fm hs1) (by rw[hs,hs1])) (he:=by rw[hs,hs1]) (hpl:=by rw[hs1];rfl)) fun σ H Q qq=>by
  obtain⟨ρ,Γ,S,d,S',ok,e,q⟩:=qq
  obtain⟨⟨d',S1⟩,e1,e⟩:=bind_some e
  obtain⟨k,e2,e⟩:=bind_some e
  obtain⟨rfl,rfl⟩:=cm e
  obtain⟨k1,k2,k3,k4,k5,k6,k7⟩:=hk
  refine⟨ρ,Γ,S,d',S1,ok,e1,fun ρ' v H' x st r=> ?_⟩
  have fin:=q _ _ _ x st (.bl _)
  cases r with
  |non=>cases e2;exact⟨_,_,_,_,rfl,.non,k1,fin⟩
  |bl=>cases e2;exact⟨_,_,_,_,rfl,.bl _,k2,fin⟩
  |int=>cases e2;exact⟨_,_,_,_,rfl,.int _,k3,fin⟩
  |str=>cases e2;exact⟨_,_,_,_,rfl,.str _,k4,fin⟩
  |tup h hs=>cases e2;exact⟨_,_,_,_,rfl,.tup h,k5,fin⟩
  |fn=>cases e2
  | ref h=>
    simp only[zh] at e2
    split at e2
    · rename_i q';cases e2;obtain⟨vs,h1,_⟩:=st.obj _ _ _ h q';exact⟨_,_,_,_,rfl,.lst h1,k6,fin⟩
    · rename_i q';cases e2;obtain⟨vs,o,h1,_⟩:=st.obj _ _ _ h q';exact⟨_,_,_,_,rfl,.frz h1,k6,fin⟩
    · rename_i q';cases e2;obtain⟨vs,h1,_⟩:=st.obj _ _ _ h q';exact⟨_,_,_,_,rfl,.dK h1,k7,fin⟩
    · cases e2
abbrev Dh:=List D->Option D
def A6(M:Md)(r:List V->Hp->VK->Prop)(o:Dh):Prop:=∀{ρ:List Addr} {S:az} {H:Hp} {xs:List D} {d:D} {us:List V} {Q:VK},eV M ρ S H->aU M ρ H xs us->o xs=some d->(∀w,Rel M ρ H d w->Q w H)->r us H Q
def ud(o:Dh)(f:fo):bq:=fun Γ S=>(f Γ S).bind fun(xs,S1)=>(o xs).bind fun d=>some (d,S1)
theorem n_{r:List V->Hp->VK->Prop}{o:Dh}{f:fo}(ho:A6 (md X) r o)(h:PE X e (Gy r (vy (md X) f))):PE X e (tD (md X) (ud o f)):=jB h fun σ H Q qq=>by
 obtain⟨ρ,Γ,S,d,S',ok,e,q⟩:=qq
 obtain⟨⟨xs,S1⟩,e1,e⟩:=bind_some e
 obtain⟨d',e3,e⟩:=bind_some e
 obtain⟨rfl,rfl⟩:=cm e
 exact⟨ρ,Γ,S,xs,S1,ok,e1,fun ρ1 vs H1 x1 st1 r1=>ho st1 r1 e3 fun w r3=>q ρ1 w H1 x1 st1 r3⟩
def CA:Dh
 | [.int i]=>some (.int (if i<0 then -i else i))
 |_=>none
def maxD:Dh
 | [.int i,.int j]=>some (.int (if j>i then j else i))
 |_=>none
def minD:Dh
 | [.int i,.int j]=>some (.int (if j<i then j else i))
 |_=>none
def intOfD:Dh
 | [.int i]=>some (.int i)
 | [.bl k]=>some (.int (if k then 1 else 0))
 |_=>none
theorem DY{M:Md}:A6 M (fun xs H Q=>∃i,xs= [.int i]/\Q (.int (if i<0 then -i else i)) H) CA:=by
 intro ρ S H xs d us Q st r e q
 unfold CA at e
 split at e <;>cases e
 cases r with|cons r rr=>cases rr;cases r;exact⟨_,rfl,q _ (.int _)⟩
theorem Bq{M:Md}:A6 M (fun xs H Q=>∃i j,xs= [.int i,.int j]/\Q (.int (if j>i then j else i)) H) maxD:=by
 intro ρ S H xs d us Q st r e q
 unfold maxD at e
 split at e <;>cases e
 cases r with|cons r rr=>cases rr with|cons r' rr=>cases rr;cases r;cases r';exact⟨_,_,rfl,q _ (.int _)⟩
theorem xA{M:Md}:A6 M (fun xs H Q=>∃i j,xs= [.int i,.int j]/\Q (.int (if j<i then j else i)) H) minD:=by
 intro ρ S H xs d us Q st r e q
 unfold minD at e
 split at e <;>cases e
 cases r with|cons r rr=>cases rr with|cons r' rr=>cases rr;cases r;cases r';exact⟨_,_,rfl,q _ (.int _)⟩
theorem hZ{M:Md}:A6 M (fun xs H Q=>(∃i,xs= [.int i]/\Q (.int i) H)\/∃k,xs= [.bl k]/\Q (.int (if k then 1 else 0)) H) intOfD:=by
 intro ρ S H xs d us Q st r e q
 unfold intOfD at e
 split at e <;>cases e
 ·cases r with|cons r rr=>cases rr;cases r;exact .inl ⟨_,rfl,q _ (.int _)⟩
 ·cases r with|cons r rr=>cases rr;cases r;exact .inr ⟨_,rfl,q _ (.int _)⟩
def gk:List D->Option (List V)
 | []=>some []
 |d::r=>(qL d).bind fun v=>(gk r).bind fun vs=>some (v::vs)
theorem lO{d:D}{v:V}(e:qL d=some v):eS v=true:=by
 cases d <;>simp[qL] at e <;>subst e <;>rfl
theorem ib{M:Md}{ρ:List Addr}{H:Hp}:∀{ds:List D} {us vs:List V},aU M ρ H ds us->gk ds=some vs->us=vs/\vs.all eS=true
 |_,_,_,.nil,e=>by cases e;exact⟨rfl,rfl⟩
 | _,_,_,.cons h hs,e=>by
   obtain⟨v,e1,e⟩:=bind_some e
   obtain⟨vs,e2,e⟩:=bind_some e
   cases e
   obtain⟨h1,h2⟩:=ib hs e2
   rw[jq h e1,h1]
   exact⟨rfl,by rw[List.all_cons,lO e1,h2];rfl⟩
def AJ(neg:Bool)(f:bq)(g:d_):bq:=fun Γ S=>(f Γ S).bind fun(x,S1)=>(g Γ S1).bind fun(p,S2)=>(qL x).bind fun v=>(gk p.1).bind fun vs=>some (.bl (if neg then !Bb v vs else Bb v vs),S2)
theorem tR{f:bq}{t:TE}(hw:∀σ H Q,tD (md X) f σ H Q->t σ H Q)(h:PT X e (A4 t)):PT X e (tB (md X) (aE f)):=GC h fun σ H Q ⟨ρ,Γ,S,k,S',ok,e,q⟩=>
 hw _ _ _ ⟨ρ,Γ,S,.bl k,S',ok,pN e,fun ρ' v H' x st r=>by cases r;exact⟨k,rfl,q _ _ x st⟩⟩
theorem Dl{neg:Bool}{f:bq}{g:d_}:∀σ H Q,tD (md X) (AJ neg f g) σ H Q->Co (Hi X.K neg) (tD (md X) f) (tQ (md X) g) σ H Q:=fun σ H Q qq=>by
 obtain⟨ρ,Γ,S,d,S',ok,e,q⟩:=qq
 obtain⟨⟨x,S1⟩,e1,e⟩:=bind_some e
 obtain⟨⟨⟨ds,t⟩,S2⟩,e2,e⟩:=bind_some e
 obtain⟨v,e3,e⟩:=bind_some e
 obtain⟨vs,e4,e⟩:=bind_some e
 obtain⟨rfl,rfl⟩:=cm e
 refine⟨ρ,Γ,S,x,S1,ok,e1,fun ρ1 u H1 x1 st1 r1=>⟨ρ1,Γ,S1,ds,t,S2,ok.to x1 st1,e2,fun ρ2 a us H2 x2 st2 h2 r2=> ?_⟩⟩
 cases jq r1 e3
 obtain⟨h3,h4⟩:=ib r2 e4
 subst h3
 exact⟨a,us,rfl,h2.sq,lO e3,h4,q _ _ _ (x1.trans x2) st2 (.bl _)⟩
theorem Cd{f:bq}{g:d_}(ha:PE X a (tD (md X) f))(hb:PE X b (tQ (md X) g))(hm:behindInMarks .In b=false:=by rfl):PT X (.Compare a [.In] [b] pos) (tB (md X) (aE (AJ false f g))):=tR Dl (lq zx ha hb hm)
theorem x_{f:bq}{g:d_}(ha:PE X a (tD (md X) f))(hb:PE X b (tQ (md X) g))(hm:behindInMarks .NotIn b=false:=by rfl):PT X (.Compare a [.NotIn] [b] pos) (tB (md X) (aE (AJ true f g))):=tR Dl (lq uc ha hb hm)
end
inductive Out where
 |nx (Γ:cx) (S:az)|bk (Γ:cx) (S:az)|ct (Γ:cx) (S:az)|rt (d:D) (S:az)|rl (ds:List D) (S:az)
abbrev cC:=cx->az->Option Out
def tw(M:Md)(ρ:List Addr)(H:Hp)(D:Ends):Out->Prop
 |.nx Γ' S'=>∀ρ' σ' H',bX ρ H ρ' H'->Ok M ρ' Γ' S' σ' H'->D.nx σ' H'
 |.bk Γ' S'=>∀ρ' σ' H',bX ρ H ρ' H'->Ok M ρ' Γ' S' σ' H'->D.bk σ' H'
 |.ct Γ' S'=>∀ρ' σ' H',bX ρ H ρ' H'->Ok M ρ' Γ' S' σ' H'->D.ct σ' H'
 |.rt d S'=>∀ρ' v H',bX ρ H ρ' H'->eV M ρ' S' H'->Rel M ρ' H' d v->D.rt v H'
 |.rl ds S'=>∀ρ' a vs H',bX ρ H ρ' H'->eV M ρ' S' H'->H a=none->a∉ρ'->H' a=some (.lst vs)->aU M ρ' H' ds vs->D.rt (.ref a) H'
theorem tw.to{M:Md}{ρ ρ1:List Addr}{H H1:Hp}{D:Ends}{o:Out}(h:tw M ρ H D o)(e:bX ρ H ρ1 H1):tw M ρ1 H1 D o:=by
 cases o with
 |nx=>exact fun ρ' σ' H' x ok=>h _ _ _ (e.trans x) ok
 |bk=>exact fun ρ' σ' H' x ok=>h _ _ _ (e.trans x) ok
 |ct=>exact fun ρ' σ' H' x ok=>h _ _ _ (e.trans x) ok
 |rt=>exact fun ρ' v H' x st r=>h _ _ _ (e.trans x) st r
 |rl=>exact fun ρ' a vs H' x st fr nr ha r=>h _ _ _ _ (e.trans x) st (e.grow _ fr) nr ha r
def tS(M:Md)(g:cC):TS:=fun D σ H=>∃ρ Γ S o,Ok M ρ Γ S σ H/\g Γ S=some o/\tw M ρ H D o
section
variable{X:Cx}{a b c e:Expr}{pos:Pos}{st:Stmt}{rest body other:List Stmt}
def fS:cC:=fun Γ S=>some (.nx Γ S)
theorem bL:oB X [] (tS (md X) fS):=FT CO fun D σ H ⟨ρ,Γ,S,o,ok,e,q⟩=>by cases e;exact q _ _ _ bX.refl ok
def aA(f g:cC):cC:=fun Γ S=>(f Γ S).bind fun o=>match o with
 |.nx Γ1 S1=>g Γ1 S1
 |o=>some o
theorem aj{f g:cC}(h1:PS X st (tS (md X) f))(h2:oB X rest (tS (md X) g)):oB X (st::rest) (tS (md X) (aA f g)):=FT (A0 h1 h2) fun D σ H qq=>by
 obtain⟨ρ,Γ,S,o,ok,e,q⟩:=qq
 obtain⟨o1,e1,e⟩:=bind_some e
 refine⟨ρ,Γ,S,o1,ok,e1,?_⟩
 cases o1 with
 |nx Γ1 S1=>exact fun ρ1 σ1 H1 x1 ok1=>⟨ρ1,Γ1,S1,o,ok1,e,q.to x1⟩
 |bk=>cases e;exact q
 |ct=>cases e;exact q
 |rt=>cases e;exact q
 |rl=>cases e;exact q
theorem aw{f:cC}(h1:PS X st (tS (md X) f)):oB X [st] (tS (md X) f):=Cj h1
def never:cC:=fun _ _=>none
theorem Cc:PS X st (tS (md X) never):=yy AQ fun D σ H ⟨ρ,Γ,S,o,ok,e,q⟩=>by cases e
def jF(f:bq):cC:=fun Γ S=>(f Γ S).bind fun(_,S1)=>some (.nx Γ S1)
theorem bU{f:bq}(h:PE X e (tD (md X) f))(hs:swapsWith e none pos.line X.env=pure false:=by rfl):PS X (.Expr e pos) (tS (md X) (jF f)):=yy (Cm h hs) fun D σ H qq=>by
 obtain⟨ρ,Γ,S,o,ok,e,q⟩:=qq
 obtain⟨⟨d,S1⟩,e1,e⟩:=bind_some e
 cases e
 exact⟨ρ,Γ,S,d,S1,ok,e1,fun ρ' v H' x st r=>q _ _ _ x (ok.to x st)⟩
def cn(f:bq):cC:=fun Γ S=>(f Γ S).bind fun(d,S1)=>some (.rt d S1)
theorem aF{f:bq}(h:PE X e (tD (md X) f)):PS X (.Return (some e) pos) (tS (md X) (cn f)):=yy (Bc h) fun D σ H qq=>by
 obtain⟨ρ,Γ,S,o,ok,e,q⟩:=qq
 obtain⟨⟨d,S1⟩,e1,e⟩:=bind_some e
 cases e
 exact⟨ρ,Γ,S,d,S1,ok,e1,q⟩
def AN(f:fo):cC:=fun Γ S=>(f Γ S).bind fun(ds,S1)=>some (.rl ds S1)
theorem kK{f:fo}(h:PE X e (tL (md X) f)):PS X (.Return (some e) pos) (tS (md X) (AN f)):=yy (Bc h) fun D σ H qq=>by
 obtain⟨ρ,Γ,S,o,ok,e,q⟩:=qq
 obtain⟨⟨d,S1⟩,e1,e⟩:=bind_some e
 cases e
 exact⟨ρ,Γ,S,d,S1,ok,e1,q⟩
def eF(c:iJ)(f g:cC):cC:=fun Γ S=>(c Γ S).bind fun(k,S1)=>if k=true then f Γ S1 else g Γ S1
theorem cq{h:iJ}{f g:cC}(hc:PT X c (tB (md X) h))(ha:oB X body (tS (md X) f))(hb:oB X other (tS (md X) g)):PS X (.If c body other pos) (tS (md X) (eF h f g)):=yy (Fk hc ha hb) fun D σ H qq=>by
 obtain⟨ρ,Γ,S,o,ok,e,q⟩:=qq
 obtain⟨⟨k,S1⟩,e1,e⟩:=bind_some e
 refine⟨ρ,Γ,S,k,S1,ok,e1,fun ρ1 H1 x1 st1=> ?_⟩
 dsimp only at e
 split at e
 ·rename_i c
  rw[if_pos c]
  exact⟨ρ1,Γ,S1,o,ok.to x1 st1,e,q.to x1⟩
 ·rename_i c
  rw[if_neg c]
  exact⟨ρ1,Γ,S1,o,ok.to x1 st1,e,q.to x1⟩
abbrev kT:=D->cx->az->Option (cx×az)
abbrev nW:=List D->cx->az->Option (cx×az)
def tG(M:Md)(g:kT):TG:=fun v σ H Q=>∃ρ Γ S d Γ' S',Ok M ρ Γ S σ H/\Rel M ρ H d v/\g d Γ S=some (Γ',S')/\∀ρ' σ' H',bX ρ H ρ' H'->Ok M ρ' Γ' S' σ' H'->Q σ' H'
def Gv(M:Md)(g:nW):Cf:=fun vs σ H Q=>∃ρ Γ S ds Γ' S',Ok M ρ Γ S σ H/\aU M ρ H ds vs/\g ds Γ S=some (Γ',S')/\∀ρ' σ' H',bX ρ H ρ' H'->Ok M ρ' Γ' S' σ' H'->Q σ' H'
theorem GP{t t':TG}(h:PG X e t)(w:∀v σ H Q,t' v σ H Q->t v σ H Q):PG X e t':=fun pins s σ H v u Q I r q=>h pins s σ H v u Q I r (w _ _ _ _ q)
theorem Fc{es:List Expr}{t t':Cf}(h:BH X es t)(w:∀v σ H Q,t' v σ H Q->t v σ H Q):BH X es t':=fun pins s σ H v u Q I r q=>h pins s σ H v u Q I r (w _ _ _ _ q)
def bR(i:Nat):kT:=fun d Γ S=>some (Γ.set i (some d),S)
theorem Ae{i:Nat}(h:PG X e (pM i)):PG X e (tG (md X) (bR i)):=GP h fun v σ H Q qq=>by
 obtain⟨ρ,Γ,S,d,Γ',S',ok,r,e,q⟩:=qq
 cases e
 exact q _ _ _ bX.refl ⟨ok.en.set r,ok.st⟩
def ed:nW:=fun ds Γ S=>match ds with
 | []=>some (Γ,S)
 |_=>none
def aG(f:kT)(g:nW):nW:=fun ds Γ S=>match ds with
 |d::r=>(f d Γ S).bind fun(Γ1,S1)=>g r Γ1 S1
 | []=>none
theorem bW:BH X [] (Gv (md X) ed):=Fc CW fun vs σ H Q qq=>by
 obtain⟨ρ,Γ,S,ds,Γ',S',ok,r,e,q⟩:=qq
 cases r with
 |nil=>cases e;exact⟨rfl,q _ _ _ bX.refl ok⟩
 |cons=>cases e
theorem ax{es:List Expr}{f:kT}{g:nW}(h1:PG X e (tG (md X) f))(h2:BH X es (Gv (md X) g))(hs:(assignEach (e::es) X.env).map (·.2)=assign e X.env::(assignEach es X.env).map (·.2):=by rfl):BH X (e::es) (Gv (md X) (aG f g)):=
 Fc (Bv h1 h2 hs) fun vs σ H Q qq=>by
  obtain⟨ρ,Γ,S,ds,Γ',S',ok,r,e,q⟩:=qq
  cases r with
  |nil=>cases e
  | cons r rs=>
    obtain⟨⟨Γ1,S1⟩,e1,e⟩:=bind_some e
    refine⟨_,_,rfl,ρ,Γ,S,_,Γ1,S1,ok,r,e1,fun ρ1 σ1 H1 x1 ok1=>⟨ρ1,Γ1,S1,_,Γ',S',ok1,rs.ext x1,e,fun ρ2 σ2 H2 x2 ok2=>q _ _ _ (x1.trans x2) ok2⟩⟩
def jS(g:nW):kT:=fun d Γ S=>match d with
 |.tup ds=>g ds Γ S
 |_=>none
def nG(n:Nat)(g:nW):nW:=fun ds Γ S=>if ds.length=n then g ds Γ S else none
theorem cU{es:List Expr}{k:Nat}{g:nW}{n:Nat}(hc:X.calm=true)(h:BH X es (Gv (md X) g))(hn:(assignEach es X.env).length=n:=by rfl)(hst:(assignEach es X.env).findIdx? (·.1)=none:=by rfl):
  PG X (.Tuple es k pos) (tG (md X) (jS (nG n g))):=GP (Ed hc h hn hst) fun v σ H Q ⟨ρ,Γ,S,d,Γ',S',ok,r,e,q⟩=>by
 cases r with
 | tup h hs=>
   simp only[jS,nG] at e
   split at e
   · rename_i c
     exact⟨_,_,rfl,gD.of h,by rw[←hs.length];exact c,ρ,Γ,S,_,Γ',S',ok,hs,e,q⟩
   · cases e
 |_=>cases e
def oN(f:bq)(g:kT):cC:=fun Γ S=>(f Γ S).bind fun(d,S1)=>(g d Γ S1).bind fun(Γ2,S2)=>some (.nx Γ2 S2)
theorem FK{f:bq}{g:kT}:∀D σ H,tS (md X) (oN f g) D σ H->yG (tD (md X) f) (tG (md X) g) D σ H:=fun D σ H qq=>by
 obtain⟨ρ,Γ,S,o,ok,e,q⟩:=qq
 obtain⟨⟨d,S1⟩,e1,e⟩:=bind_some e
 obtain⟨⟨Γ2,S2⟩,e2,e⟩:=bind_some e
 cases e
 exact⟨ρ,Γ,S,d,S1,ok,e1,fun ρ1 v H1 x1 st1 r1=>⟨ρ1,Γ,S1,d,Γ2,S2,ok.to x1 st1,r1,e2,fun ρ2 σ2 H2 x2 ok2=>q _ _ _ (x1.trans x2) ok2⟩⟩
theorem eE{tg:Expr}{f:bq}{g:kT}(he:PE X e (tD (md X) f))(hg:PG X tg (tG (md X) g))(hs:swapsWithSole [tg] e pos.line X.env=pure false:=by rfl)(hw:swappedStores [tg] e X.env=pure none:=by rfl)
  (h1:(assignEach [tg] X.env).map (·.2)= [assign tg X.env]:=by rfl):PS X (.Assign [tg] e pos) (tS (md X) (oN f g)):=yy (EO he hg hs hw h1) FK
def aV(i:Nat)(f:bq):cC:=fun Γ S=>(f Γ S).bind fun(d,S1)=>some (.nx (Γ.set i (some d)) S1)
theorem F2{i:Nat}{f:bq}(h:PS X st (yG (tD (md X) f) (pM i))):PS X st (tS (md X) (aV i f)):=yy h fun D σ H qq=>by
 obtain⟨ρ,Γ,S,o,ok,e,q⟩:=qq
 obtain⟨⟨d,S1⟩,e1,e⟩:=bind_some e
 cases e
 exact⟨ρ,Γ,S,d,S1,ok,e1,fun ρ1 v H1 x1 st1 r1=>q _ _ _ x1 ⟨(ok.en.ext x1).set r1,st1⟩⟩
abbrev vA:=cx->az->Option ((List D×(az->Prop))×az)
def Walks(M:Md)(J:It)(ρ:List Addr)(H:Hp)(ds:List D)(W:az->Prop):Prop:=∀(i:Nat) (ρ':List Addr) (S':az) (H':Hp),bX ρ H ρ' H'->eV M ρ' S' H'->W S'→
 (∀d,ds[i]?=some d->J.go i H'/\∀x H'',J.yld i H' x H''->bX ρ' H' ρ' H''/\eV M ρ' S' H''/\Rel M ρ' H'' d x)/\(i=ds.length->J.stop i H')
def tI(M:Md)(f:vA):TI:=fun σ H R=>∃ρ Γ S ds W S',Ok M ρ Γ S σ H/\f Γ S=some ((ds,W),S')/\∀ρ' J H',bX ρ H ρ' H'->eV M ρ' S' H'->Walks M J ρ' H' ds W->R J H'
theorem GM{tg:Expr}{t t':TI}(h:PI X tg e t)(w:∀σ H R,t' σ H R->t σ H R):PI X tg e t':=fun pins s σ H R I q=>h pins s σ H R I (w _ _ _ q)
theorem Dz{tg l:Expr}{tl:TE}(hl:PE X l tl):PI X tg l (fun σ H R=>tl σ H fun x H1=>∃a,x=.ref a/\((∃xs,gX X.K H1 a xs)/\R (Hx X.K a) H1\/(∃xs,gD X.K H1 a xs)/\R (Hm X.K a) H1)):=by
 intro pins s σ H R I h
 refine cz (hl pins s σ H _ I h) fun v s1 qr=> ?_
 obtain⟨x,H1,I1,r1,q1⟩:=qr
 obtain⟨a,e,q1⟩:=q1
 subst e
 cases r1
 rcases q1 with⟨⟨xs,hq⟩,q⟩|⟨⟨xs,hq⟩,q⟩
 ·obtain⟨its,rv,p,hz⟩:=I1.list hq
  refine wpAny_pyIter_list p.isList ?_
  refine⟨s1.heap.objs.size,[s1.heap.objs.size],_,_,H1,rfl,I1.kept (t':=s1.toks) fun b o e=>Heap.get?_push_of_some _ e,y6 a _,⟨_,Heap.get?_push_size _ rfl,rfl,rfl⟩,fun b hb=> ?_,q⟩
  have e:b=s1.heap.objs.size:=by simpa using hb
  subst e
  exact I1.fpOk (Nat.le_refl _) (I1.hok.fresh (Nat.le_refl _))
 ·obtain⟨its,rv,p,hz⟩:=I1.tuple hq
  refine wpAny_pyIter_tuple (show s1.heap.IsTuple a its.toArray from p) ?_
  refine⟨s1.heap.objs.size,[s1.heap.objs.size],_,_,H1,rfl,I1.kept (t':=s1.toks) fun b o e=>Heap.get?_push_of_some _ e,xD a _,⟨_,Heap.get?_push_size _ rfl,rfl,rfl⟩,fun b hb=> ?_,q⟩
  have e:b=s1.heap.objs.size:=by simpa using hb
  subst e
  exact I1.fpOk (Nat.le_refl _) (I1.hok.fresh (Nat.le_refl _))
def i6(f:d_):vA:=fun Γ S=>(f Γ S).bind fun(p,S1)=>some ((p.1,fun S'=>p.2.stays S' p.1),S1)
theorem du{tg l:Expr}{f:d_}(hl:PE X l (tQ (md X) f)):PI X tg l (tI (md X) (i6 f)):=GM (Dz hl) fun σ H R qq=>by
 obtain⟨ρ,Γ,S,ds,W,S',ok,e,q⟩:=qq
 obtain⟨⟨⟨ds',t⟩,S1⟩,e1,e⟩:=bind_some e
 obtain⟨e2,rfl⟩:=cm e
 obtain⟨rfl,rfl⟩:=Prod.mk.inj e2
 refine⟨ρ,Γ,S,ds',t,S1,ok,e1,fun ρ' a vs H' x st h r=>⟨a,rfl,?_⟩⟩
 cases c:t.isL with
 | true=>
   refine .inl ⟨⟨vs,h.sqL c⟩,q _ _ _ x st fun i ρ2 S2 H2 x2 st2 w=> ?_⟩
   obtain⟨vs',h',r'⟩:=h.to r x2 st2 w
   have sq:=h'.sqL c
   refine⟨fun d hd=> ?_,fun hi=>⟨vs',sq,by rw[hi,r'.length];exact Nat.le_refl _⟩⟩
   obtain⟨v,hv,rv⟩:=r'.get hd
   refine⟨⟨vs',v,sq,hv⟩,fun x H3 hy=> ?_⟩
   obtain⟨rfl,hy⟩:=hy
   have:=hy vs' sq
   rw[hv] at this
   cases this
   exact⟨bX.refl,st2,rv⟩
 | false=>
   refine .inr ⟨⟨vs,h.sqT c⟩,q _ _ _ x st fun i ρ2 S2 H2 x2 st2 w=> ?_⟩
   obtain⟨vs',h',r'⟩:=h.to r x2 st2 w
   have sq:=h'.sqT c
   refine⟨fun d hd=> ?_,fun hi=>⟨vs',sq,by rw[hi,r'.length];exact Nat.le_refl _⟩⟩
   obtain⟨v,hv,rv⟩:=r'.get hd
   refine⟨⟨vs',v,sq,hv⟩,fun x H3 hy=> ?_⟩
   obtain⟨rfl,hy⟩:=hy
   have:=hy vs' sq
   rw[hv] at this
   cases this
   exact⟨bX.refl,st2,rv⟩
def ie(lo hi:Int):List D:=(List.range (hi-lo).toNat).map fun(i:Nat)=>D.int (lo+(i:Int))
def ow(f:bq):vA:=fun Γ S=>(f Γ S).bind fun(d,S1)=>match d with
 |.int j=>if -(2^62)<=j/\j<2^62 then some ((ie 0 j,fun _=>True),S1) else none
 |_=>none
theorem yJ{M:Md}{ρ:List Addr}{H:Hp}{lo hi:Int}:Walks M (Gr lo (hi-lo).toNat) ρ H (ie lo hi) (fun _=>True):=fun i ρ2 S2 H2 x2 st2 w=>by
 unfold ie
 refine⟨fun d hd=> ?_,fun hi=>by rw[lQm,List.length_range] at hi;exact Nat.le_of_eq hi.symm⟩
 rw[gQm] at hd
 obtain⟨k,hk,rfl⟩:=oQm.mp hd
 have hl:=(gQs.mp hk)
 obtain⟨hl,he⟩:=hl
 rw[List.getElem_range] at he
 subst he
 rw[List.length_range] at hl
 refine⟨hl,fun x H3 hy=> ?_⟩
 obtain⟨rfl,rfl⟩:=hy
 exact⟨bX.refl,st2,.int _⟩
theorem iW{tg a:Expr}{f:bq}{p:Pos}(hg:Gl X "range")(hm:X.mg "range"=none)(ha:PE X a (tD (md X) f))(hs:starEach [a] X.env= [(false,eval a X.env)]:=by rfl):PI X tg (.Call (.Name "range" p) [a] [] pos) (tI (md X) (ow f)):=
 GM (yV hg hm (aa ha ah hs) hs) fun σ H R qq=>by
  obtain⟨ρ,Γ,S,ds,W,S',ok,e,q⟩:=qq
  obtain⟨⟨d,S1⟩,e1,e⟩:=bind_some e
  dsimp only at e
  split at e
  ·rename_i j
   split at e
   ·rename_i hj
    obtain⟨e2,rfl⟩:=cm e
    obtain⟨rfl,rfl⟩:=Prod.mk.inj e2
    refine⟨ρ,Γ,S,[.int j],S1,ok,by unfold ae ai;rw[e1];rfl,fun ρ' vs H' x st r=> ?_⟩
    cases r with
    | cons r rr=>
      cases rr
      cases r
      refine⟨j,rfl,hj.1,hj.2,q _ _ _ x st ?_⟩
      have:=yJ (M:=md X) (ρ:=ρ') (H:=H') (lo:=0) (hi:=j)
      rw[Int.sub_zero] at this
      exact this
   ·cases e
  ·cases e
open Classical in
noncomputable def forL(g:kT)(b:cC)(W:az->Prop):List D->cx->az->Option Out
 | [],Γ,S=>if W S then some (.nx Γ S) else none
 |d ::ds,Γ,S=>if W S then(g d Γ S).bind fun(Γ1,S1)=>(b Γ1 S1).bind fun o=>match o with
    |.nx Γ2 S2=>forL g b W ds Γ2 S2
    |.ct Γ2 S2=>forL g b W ds Γ2 S2
    |.bk Γ2 S2=>some (.nx Γ2 S2)
    |.rt x S2=>some (.rt x S2)
    |.rl x S2=>some (.rl x S2)
  else none
noncomputable def ig(i:vA)(g:kT)(b:cC):cC:=fun Γ S=>(i Γ S).bind fun(p,S1)=>forL g b p.2 p.1 Γ S1
theorem fD{tg iter:Expr}{i:vA}{g:kT}{f:cC}(hp:PassesOwn (model X.prog X.w) X.A X.env X.xe)(hc:X.calm=true)(hi:PI X tg iter (tI (md X) i))(hg:PG X tg (tG (md X) g))(hb:oB X body (tS (md X) f))
  (hs:∀x,foldedSetIterable iter X.env x=pure x:=by intro _;rfl):PS X (.For tg iter body [] pos) (tS (md X) (ig i g f)):=yy (DR hp hc hi hg hb hs) fun D σ H ⟨ρ,Γ,S,o,ok,e,q⟩=>by
 obtain⟨⟨⟨ds,W⟩,S1⟩,e1,e⟩:=bind_some e
 refine⟨ρ,Γ,S,ds,W,S1,ok,e1,fun ρ1 J H1 x1 st1 wk=> ?_⟩
 have q1:=q.to x1
 have ok1:=ok.to x1 st1
 refine⟨fun i m σ' H'=>m=ds.length-i/\i<=ds.length/\∃ρ2 Γ2 S2,bX ρ1 H1 ρ2 H'/\Ok (md X) ρ2 Γ2 S2 σ' H'/\forL g f W (ds.drop i) Γ2 S2=some o,⟨ds.length,by simp,Nat.zero_le _,ρ1,Γ,S1,bX.refl,ok1,e⟩,?_⟩
 rintro i m σ2 H2 ⟨rfl,hi,ρ2,Γ2,S2,x2,ok2,e2⟩
 by_cases hlt:i<ds.length
 ·have hd:ds[i]?=some ds[i]:=gQe hlt
  rw[List.drop_eq_getElem_cons hlt] at e2
  unfold forL at e2
  split at e2
  ·rename_i w
   obtain⟨w1,w2⟩:=wk i ρ2 S2 H2 x2 ok2.st w
   obtain⟨go,yld⟩:=w1 _ hd
   refine .inr ⟨go,fun σ' H'=>∃ρ' Γ' S',bX ρ1 H1 ρ' H'/\Ok (md X) ρ' Γ' S' σ' H'/\forL g f W (ds.drop (i+1)) Γ' S'=some o,fun σ' H' ⟨ρ',Γ',S',h1,h2,h3⟩=>⟨ds.length-(i+1),by omega,rfl,hlt,ρ',Γ',S',h1,h2,h3⟩,fun x H3 hy=> ?_⟩
   obtain⟨x3,st3,r3⟩:=yld x H3 hy
   obtain⟨⟨Γ4,S4⟩,e4,e5⟩:=bind_some e2
   refine⟨ρ2,Γ2,S2,_,Γ4,S4,ok2.to x3 st3,r3,e4,fun ρ4 σ4 H4 x4 ok4=> ?_⟩
   obtain⟨o5,e6,e7⟩:=bind_some e5
   have x5:=(x2.trans x3).trans x4
   refine⟨ρ4,Γ4,S4,o5,ok4,e6,?_⟩
   cases o5 with
   |nx Γ6 S6=>exact fun ρ6 σ6 H6 x6 ok6=>⟨ρ6,Γ6,S6,x5.trans x6,ok6,e7⟩
   |ct Γ6 S6=>exact fun ρ6 σ6 H6 x6 ok6=>⟨ρ6,Γ6,S6,x5.trans x6,ok6,e7⟩
   |bk Γ6 S6=>cases e7;exact fun ρ6 σ6 H6 x6 ok6=>q1 _ _ _ (x5.trans x6) ok6
   |rt d6 S6=>cases e7;exact q1.to x5
   |rl d6 S6=>cases e7;exact q1.to x5
  ·cases e2
 ·have e3:i=ds.length:=by omega
  subst e3
  rw[List.drop_length] at e2
  unfold forL at e2
  split at e2
  ·rename_i w
   cases e2
   obtain⟨w1,w2⟩:=wk ds.length ρ2 S2 H2 x2 ok2.st w
   exact .inl ⟨w2 rfl,q1 _ _ _ x2 ok2⟩
  ·cases e2
end
section
variable{M:Md}{ρ:List Addr}{H:Hp}{b:Addr}{us ws:List V}
mutual
theorem Rel.off(hb:H b=some (.lst us)):∀{d:D} {v:V},Rel M ρ H d v->Rel M ρ (upd H b (.lst ws)) d v
 |_,_,.non=>.non
 |_,_,.bl x=>.bl x
 |_,_,.int i=>.int i
 |_,_,.str x=>.str x
 |_,_,.tup h hs=>.tup (by rw[a_ (Ai h hb (by intro z;cases z))];exact h) (aU.off hb hs)
 |_,_,.ref h=>.ref h
 |_,_,.fn h=>.fn h
theorem aU.off(hb:H b=some (.lst us)):∀{ds:List D} {vs:List V},aU M ρ H ds vs->aU M ρ (upd H b (.lst ws)) ds vs
 |_,_,.nil=>.nil
 |_,_,.cons h hs=>.cons (Rel.off hb h) (aU.off hb hs)
end
theorem eV.off{S:az}(st:eV M ρ S H)(hb:H b=some (.lst us))(n:b∉ρ):eV M ρ S (upd H b (.lst ws)):=⟨st.len,st.nd,fun k a o h1 h2=>by
 have q:=st.obj k a o h1 h2
 have ab:a≠b:=fun z=>n (z▸mQg h1)
 cases o with
 |lst ds=>obtain⟨vs,q1,q2⟩:=q;exact⟨vs,by rw[a_ ab];exact q1,q2.off hb⟩
 |frz ds=>obtain⟨vs,o,q1,q2⟩:=q;exact⟨vs,o,by rw[a_ ab];exact q1,q2.off hb⟩
 |dct kvs=>obtain⟨kv,q1,q2⟩:=q;exact⟨kv,by rw[a_ ab];exact q1,q2.imp fun _ _ r=>r.off hb⟩⟩
theorem En.off{Γ:cx}{σ:L2.St}(h:En M ρ H Γ σ)(hb:H b=some (.lst us)):En M ρ (upd H b (.lst ws)) Γ σ:=⟨h.len,fun i d q=>by obtain⟨v,h1,h2⟩:=h.get i d q;exact⟨v,h1,h2.off hb⟩⟩
theorem bX.off{ρ0:List Addr}{H0:Hp}(e:bX ρ0 H0 ρ H)(hb:H0 b=none)(u:HO):bX ρ0 H0 ρ (upd H b u):=⟨e.pre,e.new,fun a o h c=>by rw[a_ (et h hb)];exact e.keep a o h c,fun a h=>by
 by_cases z:a=b
 ·subst z;exact hb
 ·rw[a_ z] at h;exact e.grow a h⟩
end
def kz(js:List (Option Nat))(Γ:cx):cx:=js.map fun o=>o.bind fun j=>Γ.getD j none
theorem En.sig{M:Md}{ρ:List Addr}{H:Hp}{Γ:cx}{σ:L2.St}(js:List (Option Nat))(h:En M ρ H Γ σ):En M ρ H (kz js Γ) (iI js σ) where
 len:=by unfold kz iI;rw[lQm,lQm]
 get:=fun i d q=>by
  unfold kz at q
  unfold iI
  rw[gQm] at q⊢
  cases e:js[i]? with
  |none=>rw[e] at q;cases q
  | some o=>
    rw[e] at q
    cases o with
    |none=>cases q
    | some j=>
      have q':Γ.getD j none=some d:=Option.some.inj q
      have hj:Γ[j]?=some (some d):=by
        rw[List.getD_eq_getElem?_getD] at q'
        cases z:Γ[j]? with
        |none=>rw[z] at q';cases q'
        |some y=>rw[z] at q';exact congrArg some q'
      obtain⟨v,h1,h2⟩:=h.get j d hj
      refine⟨v,?_,h2⟩
      show some (σ.getD j none)=some (some v)
      rw[List.getD_eq_getElem?_getD,h1]
      rfl
open Classical in
noncomputable def jY(g:kT)(t:iJ)(f:bq)(W:az->Prop):List D->cx->az->List D->Option (List D×az)
 | [],Γ,S,acc=>if W S then some (acc,S) else none
 |d ::ds,Γ,S,acc=>if W S then(g d Γ S).bind fun(Γ1,S1)=>(t Γ1 S1).bind fun(k,S2)=>
    if k=true then(f Γ1 S2).bind fun(y,S3)=>if acc.length<sizeLine then jY g t f W ds Γ1 S3 (acc++ [y]) else none
    else jY g t f W ds Γ1 S2 acc
  else none
noncomputable def cu(js:List (Option Nat))(i:vA)(g:kT)(t:iJ)(f:bq):fo:=fun Γ S=>(i Γ S).bind fun(p,S1)=>jY g t f p.2 p.1 (kz js Γ) S1 []
section
variable{M:Md}
theorem Bh{js:List (Option Nat)}{i:vA}{g:kT}{t:iJ}{f:bq}:∀σ H Q,tL M (cu js i g t f) σ H Q->A2 js (tI M i) (tG M g) (tB M t) (tD M f) σ H Q:=fun σ H Q qq=>by
 obtain⟨ρ,Γ,S,rs,S',ok,e,q⟩:=qq
 obtain⟨⟨⟨ds,W⟩,S1⟩,e1,e⟩:=bind_some e
 refine⟨ρ,Γ,S,ds,W,S1,ok,e1,fun ρ1 J H1 x1 st1 wk D hD=> ?_⟩
 have n1:D∉ρ1:=da x1 st1 hD
 have ok1:Ok M ρ1 (kz js Γ) S1 (iI js σ) (upd H1 D (.lst [])):=⟨((ok.en.ext x1).ext (bX.laid hD)).sig js,st1.lay hD⟩
 refine⟨fun i m σ' H'=>m=ds.length-i/\i<=ds.length/\∃ρ2 Γ2 S2 acc vs,bX ρ1 H1 ρ2 H'/\Ok M ρ2 Γ2 S2 σ' H'/\D∉ρ2/\H' D=some (.lst vs)/\aU M ρ2 H' acc vs/\jY g t f W (ds.drop i) Γ2 S2 acc=some (rs,S'),
  ⟨ds.length,by simp,Nat.zero_le _,ρ1,_,S1,[],[],bX.laid hD,ok1,n1,bJ,.nil,e⟩,?_⟩
 rintro i m σ2 H2 ⟨rfl,hi,ρ2,Γ2,S2,acc,vs,x2,ok2,n2,hD2,racc,e2⟩
 by_cases hlt:i<ds.length
 ·have hd:ds[i]?=some ds[i]:=gQe hlt
  rw[List.drop_eq_getElem_cons hlt] at e2
  unfold jY at e2
  split at e2
  ·rename_i w
   obtain⟨w1,w2⟩:=wk i ρ2 S2 H2 x2 ok2.st w
   obtain⟨go,yld⟩:=w1 _ hd
   refine .inr ⟨go,fun σ' H'=>∃ρ' Γ' S'' acc vs,bX ρ1 H1 ρ' H'/\Ok M ρ' Γ' S'' σ' H'/\D∉ρ'/\H' D=some (.lst vs)/\aU M ρ' H' acc vs/\jY g t f W (ds.drop (i+1)) Γ' S'' acc=some (rs,S'),
    fun σ' H' ⟨ρ',Γ',S'',acc,vs,h1,h2,h3,h4,h5,h6⟩=>⟨ds.length-(i+1),by omega,rfl,hlt,ρ',Γ',S'',acc,vs,h1,h2,h3,h4,h5,h6⟩,fun x H3 hy=> ?_⟩
   obtain⟨x3,st3,r3⟩:=yld x H3 hy
   obtain⟨⟨Γ4,S4⟩,e4,e5⟩:=bind_some e2
   refine⟨ρ2,Γ2,S2,_,Γ4,S4,ok2.to x3 st3,r3,e4,fun ρ4 σ4 H4 x4 ok4=> ?_⟩
   obtain⟨⟨k,S5⟩,e6,e7⟩:=bind_some e5
   refine⟨ρ4,Γ4,S4,k,S5,ok4,e6,fun ρ5 H5 x5 st5=> ?_⟩
   have x25:=(x3.trans x4).trans x5
   have keep:∀{ρ' H'},bX ρ2 H2 ρ' H'->H' D=some (.lst vs)/\D∉ρ':=fun{ρ' H'} x=>⟨x.keep _ _ hD2 (.inl n2),fun m=>(x.new _ m).elim n2 fun z=>by rw[z] at hD2;cases hD2⟩
   dsimp only at e7⊢
   split at e7
   ·rename_i ck
    rw[if_pos ck]
    obtain⟨⟨y,S6⟩,e8,e9⟩:=bind_some e7
    refine⟨ρ5,Γ4,S5,y,S6,ok4.to x5 st5,e8,fun ρ6 v H6 x6 st6 r6=> ?_⟩
    have x26:=x25.trans x6
    obtain⟨hD6,n6⟩:=keep x26
    have racc6:=racc.ext x26
    dsimp only at e9
    split at e9
    ·rename_i cl
     refine⟨vs,hD6,by rw[←racc.length];exact cl,ρ6,Γ4,S6,acc++ [y],vs++ [v],(x2.trans x26).off hD _,⟨((ok4.en.ext x5).ext x6).off hD6,st6.off hD6 n6⟩,n6,bJ,(racc6.append (.cons r6 .nil)).off hD6,e9⟩
    ·cases e9
   ·rename_i ck
    rw[if_neg ck]
    obtain⟨hD5,n5⟩:=keep x25
    exact⟨ρ5,Γ4,S5,acc,vs,x2.trans x25,ok4.to x5 st5,n5,hD5,racc.ext x25,e7⟩
  ·cases e2
 ·have e3:i=ds.length:=by omega
  subst e3
  rw[List.drop_length] at e2
  unfold jY at e2
  split at e2
  ·rename_i w
   obtain⟨rfl,rfl⟩:=cm e2
   obtain⟨w1,w2⟩:=wk ds.length ρ2 S2 H2 x2 ok2.st w
   exact .inl ⟨w2 rfl,q ρ2 D vs H2 (x1.trans x2) ok2.st (x1.grow _ hD) n2 hD2 racc⟩
  ·cases e2
end
section
variable{X:Cx}{a b c e:Expr}{pos:Pos}{st:Stmt}{rest body other:List Stmt}
def cM:iJ:=fun _ S=>some (true,S)
theorem FJ{ifs:List Expr}{t t':TT}(h:oa X ifs t)(w:∀σ H Q,t' σ H Q->t σ H Q):oa X ifs t':=fun pins s σ H Q I q=>h pins s σ H Q I (w _ _ _ q)
theorem eR:oa X [] (tB (md X) cM):=FJ Ea fun σ H Q ⟨ρ,Γ,S,k,S',ok,e,q⟩=>by cases e;exact q _ _ bX.refl ok.st
theorem Bz{f:iJ}(hc:PT X c (tB (md X) f)):oa X [c] (tB (md X) f):=DU hc
theorem c_{N:List Str}{js:List (Option Nat)}{scope:Scope}{cl:List (Str×Addr)}{tg iter elt:Expr}{ifs:List Expr}{i:vA}{g:kT}{t:iJ}{f:bq}
  (S:aN X N js scope cl) (hc:X.calm=true) (hi:PI X tg iter (tI (md X) i))
  (hg:∀C s H fp,PG (aQ X N scope cl C s H fp) tg (tG (md X) g)) (ht:∀C s H fp,oa (aQ X N scope cl C s H fp) ifs (tB (md X) t)) (he:∀C s H fp,PE (aQ X N scope cl C s H fp) elt (tD (md X) f))
  (hs:∀x,foldedSetIterable iter X.env x=pure x:=by intro _;rfl):PE X (.ListComp elt [⟨tg,iter,ifs,0⟩] scope pos) (tL (md X) (cu js i g t f)):=jB (BO S hc hi hg ht he hs) Bh
theorem EH{N:List Str}{js:List (Option Nat)}{scope:Scope}{cl:List (Str×Addr)}{tg iter elt tgt:Expr}{ifs:List Expr}{i:vA}{g:kT}{t:iJ}{f:bq}{n:Nat}{spos:Pos}
  (S:aN X N js scope cl) (hc:X.calm=true) (hi:PI X tg iter (tI (md X) i))
  (hg:∀C s H fp,PG (aQ X N scope cl C s H fp) tg (tG (md X) g)) (ht:∀C s H fp,oa (aQ X N scope cl C s H fp) ifs (tB (md X) t)) (he:∀C s H fp,PE (aQ X N scope cl C s H fp) elt (tD (md X) f)) (hgt:PG X tgt (pM n))
  (hs:∀x,foldedSetIterable iter X.env x=pure x:=by intro _;rfl) (hsw:swapsWithSole [tgt] (.ListComp elt [⟨tg,iter,ifs,0⟩] scope pos) spos.line X.env=pure true:=by rfl)
  (h1:(assignEach [tgt] X.env).map (·.2)= [assign tgt X.env]:=by rfl):PS X (.Assign [tgt] (.ListComp elt [⟨tg,iter,ifs,0⟩] scope pos) spos) (tS (md X) (aV n (bT (cu js i g t f)))):=
 yy (Cw S hc hi hg ht he hgt hs hsw h1) fun D σ H qq=>by
  obtain⟨ρ,Γ,S,o,ok,e,q⟩:=qq
  obtain⟨⟨d,S1⟩,e1,e⟩:=bind_some e
  cases e
  obtain⟨⟨ds,S2⟩,e2,e3⟩:=bind_some e1
  obtain⟨rfl,rfl⟩:=cm e3
  refine Bh σ H _ ⟨ρ,Γ,S,ds,S2,ok,e2,fun ρ' a vs H' x st fr nr ha rs=> ?_⟩
  have rs':=rs.pre (List.prefix_append ρ' [a])
  have st':=st.box (o:=.lst ds) nr ⟨vs,ha,rs'⟩
  have x':bX ρ H (ρ'++ [a]) H':=⟨x.pre.trans (List.prefix_append _ _),fun b hb=>by
   rcases mQa.mp hb with hb|hb
   ·exact x.new b hb
   ·rw[List.mem_singleton] at hb;subst hb;exact .inr fr,x.keep,x.grow⟩
  refine q (ρ'++ [a]) _ H' x' ⟨((ok.en.ext x').set (.ref ?_)),st'⟩
  rw[←st.len,List.getElem?_append_right (Nat.le_refl _)]
  simp
def BG(c:iJ)(b:cC):Nat->cx->az->Option Out
 |0,_,_=>none
 |n +1,Γ,S=>(c Γ S).bind fun(k,S1)=>if k=true then(b Γ S1).bind fun o=>match o with
    |.nx Γ2 S2=>BG c b n Γ2 S2
    |.ct Γ2 S2=>BG c b n Γ2 S2
    |.bk Γ2 S2=>some (.nx Γ2 S2)
    |.rt x S2=>some (.rt x S2)
    |.rl x S2=>some (.rl x S2)
  else some (.nx Γ S1)
theorem BR{h:iJ}{f:cC}(n:Nat)(hp:PassesOwn (model X.prog X.w) X.A X.env X.xe)(hc:PT X c (tB (md X) h))(hb:oB X body (tS (md X) f)):PS X (.While c body [] pos) (tS (md X) (BG h f n)):=yy (A_ hp hc hb) fun D σ H qq=>by
 obtain⟨ρ,Γ,S,o,ok,e,q⟩:=qq
 refine⟨fun m σ' H'=>∃ρ' Γ' S',bX ρ H ρ' H'/\Ok (md X) ρ' Γ' S' σ' H'/\BG h f m Γ' S'=some o,⟨n,ρ,Γ,S,bX.refl,ok,e⟩,?_⟩
 rintro m σ1 H1 ⟨ρ1,Γ1,S1,x1,ok1,e1⟩
 cases m with
 |zero=>cases e1
 | succ m=>
   unfold BG at e1
   obtain⟨⟨k,S2⟩,e2,e1⟩:=bind_some e1
   refine⟨ρ1,Γ1,S1,k,S2,ok1,e2,fun ρ2 H2 x2 st2=> ?_⟩
   dsimp only at e1⊢
   have ok2:=ok1.to x2 st2
   have x12:=x1.trans x2
   split at e1
   · rename_i ck
     rw[if_pos ck]
     obtain⟨o3,e3,e1⟩:=bind_some e1
     refine⟨fun σ' H'=>∃ρ' Γ' S',bX ρ H ρ' H'/\Ok (md X) ρ' Γ' S' σ' H'/\BG h f m Γ' S'=some o,fun σ' H' ⟨ρ',Γ',S',h1,h2,h3⟩=>⟨m,Nat.lt_succ_self _,ρ',Γ',S',h1,h2,h3⟩,ρ2,Γ1,S2,o3,ok2,e3,?_⟩
     cases o3 with
     |nx Γ6 S6=>exact fun ρ6 σ6 H6 x6 ok6=>⟨ρ6,Γ6,S6,x12.trans x6,ok6,e1⟩
     |ct Γ6 S6=>exact fun ρ6 σ6 H6 x6 ok6=>⟨ρ6,Γ6,S6,x12.trans x6,ok6,e1⟩
     |bk Γ6 S6=>cases e1;exact fun ρ6 σ6 H6 x6 ok6=>q _ _ _ (x12.trans x6) ok6
     |rt d6 S6=>cases e1;exact q.to x12
     |rl d6 S6=>cases e1;exact q.to x12
   · rename_i ck
     rw[if_neg ck]
     cases e1
     exact q _ _ _ x12 ok2
end
inductive Res where
 |d (x:D)|l (ds:List D)
abbrev cZ:=List D->az->Option (Res×az)
def Em(M:Md)(ρ:List Addr)(H H':Hp)(v:V):Res->Prop
 |.d x=>Rel M ρ H' x v
 |.l ds=>∃a vs,v=.ref a/\H a=none/\a∉ρ/\H' a=some (.lst vs)/\aU M ρ H' ds vs
def dG(M:Md)(n:Nat)(F:cZ):Sp:=fun vs H Q _=>∃ρ S ds r S',ds.length=n/\aU M ρ H ds vs/\eV M ρ S H/\F ds S=some (r,S')/\∀ρ' v H',bX ρ H ρ' H'->eV M ρ' S' H'->Em M ρ' H H' v r->Q v H'
mutual
def bI(m:Nat):D->Bool
 |.ref k=>decide (k<m)
 |.tup ds=>bB m ds
 |_=>true
def bB(m:Nat):List D->Bool
 | []=>true
 |d::ds=>bI m d&&bB m ds
end
def B_(m:Nat):O->Bool
 |.lst ds=>bB m ds
 |.frz ds=>bB m ds
 |.dct kvs=>bB m (kvs.map (·.2))
section
variable{M:Md}{ρ ρ':List Addr}{H:Hp}
mutual
theorem Rel.cut(e:ρ <+: ρ'):∀{d:D} {v:V},Rel M ρ' H d v->bI ρ.length d=true->Rel M ρ H d v
 |_,_,.non,_=>.non
 |_,_,.bl x,_=>.bl x
 |_,_,.int i,_=>.int i
 |_,_,.str x,_=>.str x
 |_,_,.tup h hs,b=>.tup h (aU.cut e hs (by simpa [bI] using b))
 | _,_,.ref (k:=k) (a:=a) h,b=>.ref (by
   obtain⟨t,rfl⟩:=e
   have c:k<ρ.length:=by simpa [bI] using b
   rwa [List.getElem?_append_left c] at h)
 |_,_,.fn h,_=>.fn h
theorem aU.cut(e:ρ <+: ρ'):∀{ds:List D} {vs:List V},aU M ρ' H ds vs->bB ρ.length ds=true->aU M ρ H ds vs
 |_,_,.nil,_=>.nil
 | _,_,.cons h hs,b=>by
   have b':=b
   simp only[bB,List.map_cons,Bool.and_eq_true] at b'
   exact .cons (Rel.cut e h b'.1) (aU.cut e hs b'.2)
end
theorem b_.cut(e:ρ <+: ρ'):∀{l:List (Key×D)} {kv:List (Key×V)},b_ M ρ' H l kv->bB ρ.length (l.map (·.2))=true->b_ M ρ H l kv
 | [],_,h,_=>h
 | (_,_)::_,_,⟨v,t,q,h,hs⟩,b=>by
   have b':=b
   simp only[bB,List.map_cons,Bool.and_eq_true] at b'
   exact⟨v,t,q,h.cut e b'.1,b_.cut e hs b'.2⟩
theorem lA.cut{a:Addr}{o:O}(e:ρ <+: ρ')(h:lA M ρ' H a o)(b:B_ ρ.length o=true):lA M ρ H a o:=by
 cases o with
 |lst ds=>obtain⟨vs,h1,h2⟩:=h;exact⟨vs,h1,h2.cut e b⟩
 |frz ds=>obtain⟨vs,o,h1,h2⟩:=h;exact⟨vs,o,h1,h2.cut e b⟩
 |dct kvs=>obtain⟨kv,h1,h2⟩:=h;exact⟨kv,h1,h2.cut e b⟩
mutual
theorem Rel.low:∀{d:D} {v:V},Rel M ρ H d v->bI ρ.length d=true
 |_,_,.non=>rfl
 |_,_,.bl x=>rfl
 |_,_,.int i=>rfl
 |_,_,.str x=>rfl
 |_,_,.tup h hs=>by simp only[bI];exact aU.low hs
 |_,_,.ref h=>by simp only[bI];exact decide_eq_true (gQs.mp h).1
 |_,_,.fn h=>rfl
theorem aU.low:∀{ds:List D} {vs:List V},aU M ρ H ds vs->bB ρ.length ds=true
 |_,_,.nil=>rfl
 |_,_,.cons h hs=>by simp only[bB];rw[Rel.low h,aU.low hs];rfl
end
theorem b_.low:∀{l:List (Key×D)} {kv:List (Key×V)},b_ M ρ H l kv->bB ρ.length (l.map (·.2))=true
 | [],_,_=>rfl
 |(_,_)::_,_,⟨v,t,q,h,hs⟩=>by simp only[List.map_cons,bB];rw[h.low,b_.low hs];rfl
theorem lA.low{a:Addr}{o:O}(h:lA M ρ H a o):B_ ρ.length o=true:=by
 cases o with
 |lst ds=>obtain⟨vs,h1,h2⟩:=h;exact h2.low
 |frz ds=>obtain⟨vs,o,h1,h2⟩:=h;exact h2.low
 |dct kvs=>obtain⟨kv,h1,h2⟩:=h;exact h2.low
end
def lZ(S S':az):Prop:=S.length<=S'.length/\∀k o,k<S.length->S'[k]?=some o->S[k]?=some o\/B_ S.length o=true
open Classical in
noncomputable def settle(S:az)(d:D)(S':az):Option (Res×az):=if lZ S S' then match d with
  | .ref k=>if k<S.length then some (.d (.ref k),S'.take S.length) else match S'[k]? with
    |some (.lst ds)=>if bB S.length ds=true then some (.l ds,S'.take S.length) else none
    |_=>none
  |d=>if bI S.length d=true then some (.d d,S'.take S.length) else none
 else none
open Classical in
noncomputable def dm(S:az)(ds:List D)(S':az):Option (Res×az):=if lZ S S'/\bB S.length ds=true then some (.l ds,S'.take S.length) else none
noncomputable def dY(n:Nat)(b:cC):cZ:=fun ds S=>(b (ds.map some++List.replicate (n-ds.length) none) S).bind fun o=>match o with
 |.nx _ S'=>settle S .non S'
 |.rt d S'=>settle S d S'
 |.rl l S'=>dm S l S'
 |_=>none
theorem eV.clean{M:Md}{ρ ρ':List Addr}{S S':az}{H H':Hp}(st:eV M ρ S H)(x:bX ρ H ρ' H')(st':eV M ρ' S' H')(c:lZ S S'):eV M ρ (S'.take S.length) H'/\bX ρ H ρ H':=by
 refine⟨⟨?_,st.nd,fun k a o h1 h2=> ?_⟩,List.prefix_refl _,fun _ h=>.inl h,x.keep,x.grow⟩
 ·rw[List.length_take,st.len]
  have:=c.1
  omega
 ·have hk:k<ρ.length:=(gQs.mp h1).1
  have hk':k<S.length:=st.len▸hk
  rw[List.getElem?_take_of_lt hk'] at h2
  refine(st'.obj k a o (cE x.pre h1) h2).cut x.pre ?_
  rcases c.2 k o hk' h2 with z|z
  ·exact(st.obj k a o h1 z).low
  ·rw[st.len];exact z
theorem se{M:Md}{ρ ρ':List Addr}{S S' S'':az}{H H':Hp}{d:D}{v:V}{r:Res}(st:eV M ρ S H)(x:bX ρ H ρ' H')(st':eV M ρ' S' H')(rd:Rel M ρ' H' d v)(e:settle S d S'=some (r,S'')):
  bX ρ H ρ H'/\eV M ρ S'' H'/\Em M ρ H H' v r:=by
 unfold settle at e
 split at e
 ·rename_i c
  obtain⟨s1,x1⟩:=st.clean x st' c
  cases d with
  | ref k=>
    dsimp only at e
    split at e
    · rename_i hk
      obtain⟨rfl,rfl⟩:=cm e
      exact⟨x1,s1,rd.cut x.pre (by simp only[bI];rw[st.len];exact decide_eq_true hk)⟩
    · rename_i hk
      split at e
      · rename_i ds hs
        split at e
        · rename_i hb
          obtain⟨rfl,rfl⟩:=cm e
          cases rd with
          | ref ha=>
            rename_i a
            obtain⟨vs,h1,h2⟩:=st'.obj k a _ ha hs
            have na:a∉ρ:=fun m=>by
              obtain⟨j,hj⟩:=List.getElem?_of_mem m
              have:=ja st'.nd (cE x.pre hj) ha
              subst this
              exact hk (st.len▸(gQs.mp hj).1)
            refine⟨x1,s1,a,vs,rfl,(x.new a (mQg ha)).resolve_left na,na,h1,h2.cut x.pre (by rw[st.len];exact hb)⟩
        · cases e
      · cases e
  | _=>
    dsimp only at e
    split at e
    · rename_i hb
      obtain⟨rfl,rfl⟩:=cm e
      exact⟨x1,s1,rd.cut x.pre (by rw[st.len];exact hb)⟩
    · cases e
 ·cases e
theorem xb{M:Md}{ρ ρ':List Addr}{S S' S'':az}{H H':Hp}{ds:List D}{a:Addr}{vs:List V}{r:Res}(st:eV M ρ S H)(x:bX ρ H ρ' H')(st':eV M ρ' S' H')(fr:H a=none)(na:a∉ρ')(ha:H' a=some (.lst vs))(rd:aU M ρ' H' ds vs)(e:dm S ds S'=some (r,S'')):
  bX ρ H ρ H'/\eV M ρ S'' H'/\Em M ρ H H' (.ref a) r:=by
 unfold dm at e
 split at e
 ·rename_i c
  obtain⟨s1,x1⟩:=st.clean x st' c.1
  obtain⟨rfl,rfl⟩:=cm e
  exact⟨x1,s1,a,vs,rfl,fr,fun m=>na (x.pre.subset m),ha,rd.cut x.pre (by rw[st.len];exact c.2)⟩
 ·cases e
theorem Ar{M:Md}{ρ:List Addr}{H:Hp}{ds:List D}{vs:List V}{N:List Str}(r:aU M ρ H ds vs):En M ρ H (ds.map some++List.replicate (N.length-ds.length) none) (L2.start N vs) where
 len:=by unfold L2.start;simp[r.length]
 get:=fun i d q=>by
  unfold L2.start
  by_cases c:i<ds.length
  ·rw[List.getElem?_append_left (by rw[lQm];exact c),gQm] at q
   obtain⟨d',h1,h2⟩:=oQm.mp q
   cases h2
   obtain⟨v,h3,h4⟩:=r.get h1
   exact⟨v,by rw[List.getElem?_append_left (by rw[lQm,←r.length];exact c),gQm,h3];rfl,h4⟩
  ·rw[List.getElem?_append_right (by rw[lQm];omega)] at q
   have:=mQg q
   rw[List.mem_replicate] at this
   cases this.2
section
variable{P:Program}{w:World}{K:PySem.W.Frag}{mg:Str->Option Value}{base:Heap}
theorem a9{x qual:Str}{st:Stmt}{f:Addr}{fd:FuncData}{N ps:List Str}{k:Nat}{b:cC}(F:dR K x qual st f fd)(S:aB N ps (ar st))
  (hbody:∀(cdv:Value) (A:Around) (outer:List Env) (s:Shared) (H:Hp) (E:XK),eL k (A.deeper (envOfC qual (ar st) s.heap.objs.size f cdv))→
   oB (wA dt P w K mg base N qual (ar st) f cdv A outer s H E).nox (eQ st) (tS ⟨K,mg⟩ b)):bh P w K mg base dt (k+1) f fd ps (dG ⟨K,mg⟩ ps.length (dY N.length b)):=by
 refine F.ok S (fun vs H Q E ⟨ρ,S,ds,r,S',h1,h2,_⟩=>by rw[←h2.length];exact h1) fun cdv A outer s H vs Q E hr ⟨ρ,S,ds,r,S',h1,h2,h3,h4,q⟩=>⟨_,hbody cdv A outer s H E hr,?_⟩
 obtain⟨o,e1,e⟩:=bind_some h4
 refine⟨ρ,_,S,o,⟨Ar h2,h3⟩,e1,?_⟩
 cases o with
 |nx Γ1 S1=>exact fun ρ' σ' H' x' ok'=>by obtain⟨x2,s2,r2⟩:=se h3 x' ok'.st .non e;exact q _ _ _ x2 s2 r2
 |rt d S1=>exact fun ρ' v H' x' st' r'=>by obtain⟨x2,s2,r2⟩:=se h3 x' st' r' e;exact q _ _ _ x2 s2 r2
 |rl d S1=>exact fun ρ' a vs H' x' st' fr na ha r'=>by obtain⟨x2,s2,r2⟩:=xb h3 x' st' fr na ha r' e;exact q _ _ _ x2 s2 r2
 |bk=>cases e
 |ct=>cases e
end
section
variable{X:Cx}{x:Str}{k n:Nat}{f:Addr}{fd:FuncData}{ps:List Str}{F:cZ}{e:Expr}{es:List Expr}{g:fo}{p pos:Pos}
def ao(F:cZ)(g:fo):bq:=fun Γ S=>(g Γ S).bind fun(ds,S1)=>(F ds S1).bind fun(r,S2)=>match r with
 |.d x=>some (x,S2)
 |.l _=>none
def cV(F:cZ)(g:fo):fo:=fun Γ S=>(g Γ S).bind fun(ds,S1)=>(F ds S1).bind fun(r,S2)=>match r with
 |.d _=>none
 |.l ds=>some (ds,S2)
def nA(n:Nat)(g:fo):Prop:=∀Γ S ds S',g Γ S=some (ds,S')->ds.length=n
theorem f_:nA 0 ai:=fun _ _ _ _ e=>by cases e;rfl
theorem bG{n:Nat}{f:bq}{g:fo}(h:nA n g):nA (n+1) (ae f g):=fun Γ S ds S' e=>by
 obtain⟨⟨d,S1⟩,e1,e⟩:=bind_some e
 obtain⟨⟨ds',S2⟩,e2,e⟩:=bind_some e
 cases e
 rw[List.length_cons,h _ _ _ _ e2]
theorem xZ{M:Md}(hn:nA n g):∀σ H Q,tD M (ao F g) σ H Q->Aq (dG M n F) [] E0 (vy M g) σ H Q:=fun σ H Q qq=>by
 obtain⟨ρ,Γ,S,d,S',ok,e,q⟩:=qq
 obtain⟨⟨ds,S1⟩,e1,e⟩:=bind_some e
 obtain⟨⟨r,S2⟩,e2,e⟩:=bind_some e
 refine⟨ρ,Γ,S,ds,S1,ok,e1,fun ρ1 vs H1 x1 st1 r1=>⟨ρ1,S1,ds,r,S2,hn _ _ _ _ e1,by rw[List.append_nil];exact r1,st1,e2,fun ρ2 v H2 x2 st2 r2=> ?_⟩⟩
 cases r with
 |d x=>obtain⟨rfl,rfl⟩:=cm e;exact q _ _ _ (x1.trans x2) st2 r2
 |l ds=>cases e
theorem B4{M:Md}(hn:nA n g):∀σ H Q,tL M (cV F g) σ H Q->Aq (dG M n F) [] E0 (vy M g) σ H Q:=fun σ H Q qq=>by
 obtain⟨ρ,Γ,S,d,S',ok,e,q⟩:=qq
 obtain⟨⟨ds,S1⟩,e1,e⟩:=bind_some e
 obtain⟨⟨r,S2⟩,e2,e⟩:=bind_some e
 refine⟨ρ,Γ,S,ds,S1,ok,e1,fun ρ1 vs H1 x1 st1 r1=>⟨ρ1,S1,ds,r,S2,hn _ _ _ _ e1,by rw[List.append_nil];exact r1,st1,e2,fun ρ2 v H2 x2 st2 r2=> ?_⟩⟩
 cases r with
 |d x=>cases e
 | l ds=>
   obtain⟨rfl,rfl⟩:=cm e
   obtain⟨a,vs,rfl,fr,na,ha,rr⟩:=r2
   exact q _ _ _ _ (x1.trans x2) st2 (x1.grow _ fr) na ha rr
theorem D0(G:bh X.prog X.w X.K X.mg X.base dt k f fd ps (dG (md X) n F))(hr:eL k X.A)(hg:Gl X x)(hm:X.mg x=some (.ref f))(hk:PySem.W.keepIn X.K (.ref f)=true)(hb:Binds X.K fd ps [])(ha:PA X (e::es) (vy (md X) g))(hn:nA n g)
  (hdb:(x==("__debug__":Str))=false:=by decide) (he:starEach (e::es) X.env=(false,eval e X.env)::starEach es X.env:=by rfl) (hpl:(backTo pos (starEach es X.env)).any (·.1)=false:=by rfl):
  PE X (.Call (.Name x p) (e::es) [] pos) (tD (md X) (ao F g)):=jB (yh G hr hg hm hk hb .nil AE ha hdb he hpl) (xZ hn)
theorem D_(G:bh X.prog X.w X.K X.mg X.base dt k f fd ps (dG (md X) n F))(hr:eL k X.A)(hg:Gl X x)(hm:X.mg x=some (.ref f))(hk:PySem.W.keepIn X.K (.ref f)=true)(hb:Binds X.K fd ps [])(ha:PA X (e::es) (vy (md X) g))(hn:nA n g)
  (hdb:(x==("__debug__":Str))=false:=by decide) (he:starEach (e::es) X.env=(false,eval e X.env)::starEach es X.env:=by rfl) (hpl:(backTo pos (starEach es X.env)).any (·.1)=false:=by rfl):
  PE X (.Call (.Name x p) (e::es) [] pos) (tL (md X) (cV F g)):=jB (yh G hr hg hm hk hb .nil AE ha hdb he hpl) (B4 hn)
end
def iT{α:Type}(xs:List α)(lo hi:Option Int):List α:=(xs.drop (HT.er xs.length 0 lo)).take (HT.er xs.length xs.length hi-HT.er xs.length 0 lo)
theorem aU.cut3{M:Md}{ρ:List Addr}{H:Hp}{ds:List D}{vs:List V}{lo hi:Option Int}(h:aU M ρ H ds vs):aU M ρ H (iT ds lo hi) (wm vs lo hi):=by
 unfold iT wm
 rw[h.length]
 exact(h.drop _).take _
theorem BJ{α:Type}{xs:List α}{lo hi:Option Int}(h1:HT.er xs.length 0 lo=0)(h2:HT.er xs.length xs.length hi=xs.length):iT xs lo hi=xs:=by
 unfold iT
 rw[h1,h2]
 simp
abbrev E2:=cx->az->Option (Option Int×az)
def Gn(M:Md)(f:E2):TO:=fun σ H Q=>∃ρ Γ S o S',Ok M ρ Γ S σ H/\f Γ S=some (o,S')/\∀ρ' H',bX ρ H ρ' H'->eV M ρ' S' H'->Q o H'
section
variable{X:Cx}{a b c e:Expr}{pos:Pos}{st:Stmt}
def qE:E2:=fun _ S=>some (none,S)
def oU(f:bq):E2:=fun Γ S=>(f Γ S).bind fun(d,S1)=>match d with
 |.int i=>some (some i,S1)
 |_=>none
theorem Hl{o:Option Expr}{t t':TO}(h:PO X o t)(w:∀σ H Q,t' σ H Q->t σ H Q):PO X o t':=fun pins s σ H Q I q=>h pins s σ H Q I (w _ _ _ q)
theorem dC:PO X none (Gn (md X) qE):=Hl BZ fun σ H Q ⟨ρ,Γ,S,o,S',ok,e,q⟩=>by cases e;exact q _ _ bX.refl ok.st
theorem dD{f:bq}(h:PE X e (tD (md X) f)):PO X (some e) (Gn (md X) (oU f)):=Hl (B8 h) fun σ H Q qq=>by
 obtain⟨ρ,Γ,S,o,S',ok,e,q⟩:=qq
 obtain⟨⟨d,S1⟩,e1,e⟩:=bind_some e
 dsimp only at e
 split at e
 ·obtain⟨rfl,rfl⟩:=cm e
  refine⟨ρ,Γ,S,_,S1,ok,e1,fun ρ' v H' x st r=> ?_⟩
  cases r
  exact⟨_,rfl,q _ _ x st⟩
 ·cases e
def qy(f:bq)(lo hi:E2):bq:=fun Γ S=>(f Γ S).bind fun(d,S1)=>(lo Γ S1).bind fun(l,S2)=>(hi Γ S2).bind fun(h,S3)=>match d with
 |.tup ds=>some (.tup (iT ds l h),S3)
 |_=>none
theorem cK{lo hi:Option Expr}{p2:Pos}{f:bq}{l h:E2}(he:PE X e (tD (md X) f))(hl:PO X lo (Gn (md X) l))(hh:PO X hi (Gn (md X) h)):PE X (.Subscript e (.Slice lo hi none p2) pos) (tD (md X) (qy f l h)):=
 jB (AB C3 he hl hh) fun σ H Q qq=>by
  obtain⟨ρ,Γ,S,d,S',ok,e,q⟩:=qq
  obtain⟨⟨x,S1⟩,e1,e⟩:=bind_some e
  obtain⟨⟨l',S2⟩,e2,e⟩:=bind_some e
  obtain⟨⟨h',S3⟩,e3,e⟩:=bind_some e
  cases x with
  | tup ds=>
    dsimp only at e
    obtain⟨rfl,rfl⟩:=cm e
    refine⟨ρ,Γ,S,_,S1,ok,e1,fun ρ1 v H1 x1 st1 r1=>⟨ρ1,Γ,S1,l',S2,ok.to x1 st1,e2,fun ρ2 H2 x2 st2=>⟨ρ2,Γ,S2,h',S3,(ok.to x1 st1).to x2 st2,e3,fun ρ3 H3 x3 st3=> ?_⟩⟩⟩
    have x13:=(x1.trans x2).trans x3
    have r3:=r1.ext (x2.trans x3)
    cases r3 with
    | tup ha hs=>
      refine⟨_,_,rfl,gD.of ha,fun c=> ?_,fun c p hp=> ?_⟩
      · have:iT ds l' h'=ds:=BJ (by rw[hs.length];exact c.1) (by rw[hs.length];exact c.2)
        rw[this] at q
        exact q _ _ _ x13 st3 (.tup ha hs)
      · exact q _ _ _ (x13.trans (bX.laid hp)) (st3.lay hp) (.tup bJ (hs.cut3.ext (bX.laid hp)))
  |_=>cases e
open Classical in
noncomputable def vp(f g:d_):fo:=fun Γ S=>(f Γ S).bind fun(p,S1)=>(g Γ S1).bind fun(r,S2)=>if p.2.isM=true/\r.2.isM=true/\p.2.stays S2 p.1/\p.1.length+r.1.length<=sizeLine then some (p.1++r.1,S2) else none
theorem vz{f g:d_}(ha:PE X a (tQ (md X) f))(hb:PE X b (tQ (md X) g)):PE X (.BinOp a .Add b pos) (tL (md X) (vp f g)):=jB (nO EI ha hb) fun σ H Q qq=>by
 obtain⟨ρ,Γ,S,d,S',ok,e,q⟩:=qq
 obtain⟨⟨⟨ds,t⟩,S1⟩,e1,e⟩:=bind_some e
 obtain⟨⟨⟨es,t2⟩,S2⟩,e2,e⟩:=bind_some e
 dsimp only at e
 split at e
 ·rename_i c
  obtain⟨rfl,rfl⟩:=cm e
  refine⟨ρ,Γ,S,ds,t,S1,ok,e1,fun ρ1 a vs H1 x1 st1 h1 r1=>⟨ρ1,Γ,S1,es,t2,S2,ok.to x1 st1,e2,fun ρ2 b ws H2 x2 st2 h2 r2=> ?_⟩⟩
  obtain⟨vs',h3,r3⟩:=h1.to r1 x2 st2 c.2.2.1
  have x12:=x1.trans x2
  refine⟨_,_,vs',ws,rfl,rfl,h3.sqM c.1,h2.sqM c.2.1,by rw[←r3.length,←r2.length];exact c.2.2.2,fun p hp=> ?_⟩
  exact q _ _ _ _ (x12.trans (bX.laid hp)) (st2.lay hp) (x12.grow _ hp) (da x12 st2 hp) bJ ((r3.append r2).ext (bX.laid hp))
 ·cases e
open Classical in
noncomputable def qS(f:d_)(g:bq):fo:=fun Γ S=>(f Γ S).bind fun(p,S1)=>(g Γ S1).bind fun(r,S2)=>match r with
 |.int k=>if p.2.isM=true/\p.2.stays S2 p.1/\ -(2^63)<=k/\k<2^63/\p.1.length*k.toNat<=sizeLine then some ((List.replicate k.toNat p.1).flatten,S2) else none
 |_=>none
theorem uN{f:d_}{g:bq}(ha:PE X a (tQ (md X) f))(hb:PE X b (tD (md X) g)):PE X (.BinOp a .Mult b pos) (tL (md X) (qS f g)):=jB (nO Ds ha hb) fun σ H Q qq=>by
 obtain⟨ρ,Γ,S,d,S',ok,e,q⟩:=qq
 obtain⟨⟨⟨ds,t⟩,S1⟩,e1,e⟩:=bind_some e
 obtain⟨⟨r,S2⟩,e2,e⟩:=bind_some e
 cases r with
 | int k=>
   dsimp only at e
   split at e
   · rename_i c
     obtain⟨rfl,rfl⟩:=cm e
     refine⟨ρ,Γ,S,ds,t,S1,ok,e1,fun ρ1 a vs H1 x1 st1 h1 r1=>⟨ρ1,Γ,S1,_,S2,ok.to x1 st1,e2,fun ρ2 w H2 x2 st2 r2=> ?_⟩⟩
     obtain⟨vs',h3,r3⟩:=h1.to r1 x2 st2 c.2.1
     have x12:=x1.trans x2
     cases r2
     refine⟨_,k,vs',rfl,rfl,h3.sqM c.1,c.2.2.1,c.2.2.2.1,by rw[←r3.length];exact c.2.2.2.2,fun p hp=> ?_⟩
     exact q _ _ _ _ (x12.trans (bX.laid hp)) (st2.lay hp) (x12.grow _ hp) (da x12 st2 hp) bJ ((r3.rep _).ext (bX.laid hp))
   · cases e
 |_=>cases e
open Classical in
noncomputable def eqQ(neg:Bool)(f g:d_):bq:=fun Γ S=>(f Γ S).bind fun(p,S1)=>(g Γ S1).bind fun(r,S2)=>if p.2.isL=true/\r.2.isL=true/\p.2.stays S2 p.1 then(gk p.1).bind fun us=>(gk r.1).bind fun vs=>some (.bl (if neg then !yf us vs else yf us vs),S2) else none
theorem Gg{neg:Bool}{f g:d_}:∀σ H Q,tD (md X) (eqQ neg f g) σ H Q->Co (FY X.K neg) (tQ (md X) f) (tQ (md X) g) σ H Q:=fun σ H Q qq=>by
 obtain⟨ρ,Γ,S,d,S',ok,e,q⟩:=qq
 obtain⟨⟨⟨ds,t⟩,S1⟩,e1,e⟩:=bind_some e
 obtain⟨⟨⟨es,t2⟩,S2⟩,e2,e⟩:=bind_some e
 dsimp only at e
 split at e
 ·rename_i c
  obtain⟨us,e3,e⟩:=bind_some e
  obtain⟨vs,e4,e⟩:=bind_some e
  obtain⟨rfl,rfl⟩:=cm e
  refine⟨ρ,Γ,S,ds,t,S1,ok,e1,fun ρ1 a as H1 x1 st1 h1 r1=>⟨ρ1,Γ,S1,es,t2,S2,ok.to x1 st1,e2,fun ρ2 b bs H2 x2 st2 h2 r2=> ?_⟩⟩
  obtain⟨as',h3,r3⟩:=h1.to r1 x2 st2 c.2.2
  obtain⟨rfl,f1⟩:=ib r3 e3
  obtain⟨rfl,f2⟩:=ib r2 e4
  exact⟨a,b,as',bs,rfl,rfl,h3.sqL c.1,h2.sqL c.2.1,f1,f2,q _ _ _ (x1.trans x2) st2 (.bl _)⟩
 ·cases e
theorem E8{f g:d_}(hu:X.A.units<cLine)(ha:PE X a (tQ (md X) f))(hb:PE X b (tQ (md X) g)):PT X (.Compare a [.NotEq] [b] pos) (tB (md X) (aE (eqQ true f g))):=tR Gg (lq (zJ hu) ha hb (aK _))
open Classical in
noncomputable def cW(f:d_):bq:=fun Γ S=>(f Γ S).bind fun(p,S1)=>if p.2.isL=true/\p.2.stays S1 p.1 then some (.bl (!p.1.isEmpty),S1) else none
theorem CQ{f:d_}:∀σ H Q,tD (md X) (cW f) σ H Q->Co (Be X.K) (tQ (md X) f) (tL (md X) (bp ai)) σ H Q:=fun σ H Q qq=>by
 obtain⟨ρ,Γ,S,d,S',ok,e,q⟩:=qq
 obtain⟨⟨⟨ds,t⟩,S1⟩,e1,e⟩:=bind_some e
 dsimp only at e
 split at e
 ·rename_i c
  obtain⟨rfl,rfl⟩:=cm e
  refine⟨ρ,Γ,S,ds,t,S1,ok,e1,fun ρ1 a as H1 x1 st1 h1 r1=>⟨ρ1,Γ,S1,[],S1,ok.to x1 st1,rfl,fun ρ2 b bs H2 x2 st2 fr nr hb r2=> ?_⟩⟩
  obtain⟨as',h3,r3⟩:=h1.to r1 x2 st2 c.2
  cases r2
  refine⟨a,b,as',rfl,rfl,h3.sqL c.1,gX.of hb,?_⟩
  rw[←r3.isEmpty]
  exact q _ _ _ (x1.trans x2) st2 (.bl _)
 ·cases e
theorem FP:PE X (.List [] pos) (tL (md X) (bp ai)):=bP ah
theorem dU{f:d_}{p:Pos}(hu:X.A.units<cLine)(ha:PE X a (tQ (md X) f)):PT X (.Compare a [.NotEq] [.List [] p] pos) (tB (md X) (aE (cW f))):=tR CQ (lq (zS hu) ha FP (aK _))
theorem eV.putL{M:Md}{ρ:List Addr}{S:az}{H:Hp}{k:Nat}{a:Addr}{ds es:List D}{ws:List V}(st:eV M ρ S H)(hk:ρ[k]?=some a)(hS:S[k]?=some (.lst ds))(r:aU M ρ H es ws):eV M ρ (S.set k (.lst es)) (upd H a (.lst ws))/\bX ρ H ρ (upd H a (.lst ws)):=by
 obtain⟨vs,h1,h2⟩:=st.obj k a _ hk hS
 exact st.put hk hS ⟨ws,bJ,r.off h1⟩ fun x hx=>by rw[h1] at hx;cases hx;exact id
def m5(m:List D->List D->Option (List D×D))(f:bq)(g:fo):bq:=fun Γ S=>(f Γ S).bind fun(x,S1)=>match x with
 | .ref k=>(g Γ S1).bind fun(ys,S2)=>match S1[k]?,S2[k]? with
   |some (.lst _),some (.lst ds)=>(m ds ys).bind fun(es,d)=>some (d,S2.set k (.lst es))
   |_,_=>none
 |_=>none
def Dv(M:Md)(r:V->List V->Hp->VK->Prop)(m:List D->List D->Option (List D×D)):Prop:=∀{ρ:List Addr} {H:Hp} {a:Addr} {ds ys es:List D} {d:D} {vs us:List V} {Q:VK},H a=some (.lst vs)->aU M ρ H ds vs->aU M ρ H ys us->m ds ys=some (es,d)→
 (∀ws w,aU M ρ H es ws->Rel M ρ H d w->Q w (upd H a (.lst ws)))->r (.ref a) us H Q
theorem F5{m:List D->List D->Option (List D×D)}{r:V->List V->Hp->VK->Prop}{f:bq}{g:fo}(ho:Dv (md X) r m):∀σ H Q,tD (md X) (m5 m f g) σ H Q->Gm X.K "list" r (tD (md X) f) (vy (md X) g) σ H Q:=fun σ H Q qq=>by
 obtain⟨ρ,Γ,S,d,S',ok,e,q⟩:=qq
 obtain⟨⟨x,S1⟩,e1,e⟩:=bind_some e
 cases x with
 | ref k=>
   dsimp only at e
   obtain⟨⟨ys,S2⟩,e2,e⟩:=bind_some e
   dsimp only at e
   split at e
   · rename_i ds0 ds hs1 hs2
     obtain⟨⟨es,d'⟩,e3,e⟩:=bind_some e
     obtain⟨rfl,rfl⟩:=cm e
     refine⟨ρ,Γ,S,_,S1,ok,e1,fun ρ1 v H1 x1 st1 r1=> ?_⟩
     cases r1 with
     | ref ha=>
       rename_i a
       obtain⟨vs1,g1,_⟩:=st1.obj k a _ ha hs1
       refine⟨.inl ⟨rfl,vs1,gX.of g1⟩,ρ1,Γ,S1,ys,S2,ok.to x1 st1,e2,fun ρ2 us H2 x2 st2 r2=> ?_⟩
       have ha2:=cE x2.pre ha
       obtain⟨vs,h1,h2⟩:=st2.obj k a _ ha2 hs2
       refine ho h1 h2 r2 e3 fun ws w rw rd=> ?_
       obtain⟨st3,x3⟩:=st2.putL ha2 hs2 rw
       exact q _ _ _ ((x1.trans x2).trans x3) st3 (rd.ext x3)
   · cases e
 |_=>cases e
def eY:List D->List D->Option (List D×D):=fun ds ys=>match ys with
 | [y]=>if ds.length<sizeLine then some (ds++ [y],.non) else none
 |_=>none
theorem DJ{M:Md}:Dv M yk eY:=by
 intro ρ H a ds ys es d vs us Q h1 h2 h3 e q
 unfold eY at e
 split at e
 ·split at e
  ·rename_i hl
   obtain⟨rfl,rfl⟩:=cm e
   cases h3 with
   | cons h3 h4=>
     cases h4
     exact⟨a,vs,_,rfl,rfl,h1,by rw[←h2.length];exact hl,q _ _ (h2.append (.cons h3 .nil)) .non⟩
  ·cases e
 ·cases e
theorem bV{f:bq}{g:bq}{o:Expr}{apos cpos:Pos}(ho:PE X o (tD (md X) f))(ha:PE X e (tD (md X) g))(hbase:attributeBase o "append" X.env (eval o X.env)=eval o X.env:=by rfl) (hfew:((backTo cpos (starEach [e] X.env)).all (fun x=> !x.1)&&(backToKw cpos (keywordEach [] X.env)).all (fun x=>x.1.isSome)
   &&decide ([e].length+([]:List Keyword).length+(if ([]:List Keyword).isEmpty then 0 else 1)<30))=true:=by rfl)
  (hline:(apos.endLine==cpos.line)=true:=by rfl) (hs:starEach [e] X.env= [(false,eval e X.env)]:=by rfl):PE X (.Call (.Attribute o "append" apos) [e] [] cpos) (tD (md X) (m5 eY f (ae g ai))):=
 jB (sH PySem.F.plainAttrs_list PySem.F.slot_list_append PySem.F.type_list_append mB ho (aa ha ah hs) hbase hfew hline hs) (F5 DJ)
end
section
variable{X:Cx}{a b c e:Expr}{pos:Pos}{st:Stmt}
def kJ:List D->List D->Option (List D×D):=fun ds ys=>match ys with
 | [.int i]=>if -(2^63)<=i/\i<2^63 then(seqIndex? i ds.length).bind fun k=>(ds[k]?).bind fun y=>some (ds.eraseIdx k,y) else none
 |_=>none
theorem AD{M:Md}:Dv M Bp kJ:=by
 intro ρ H a ds ys es d vs us Q h1 h2 h3 e q
 unfold kJ at e
 split at e
 ·split at e
  ·rename_i i hi
   obtain⟨k,e1,e⟩:=bind_some e
   obtain⟨y,e2,e⟩:=bind_some e
   obtain⟨rfl,rfl⟩:=cm e
   cases h3 with
   | cons h3 h4=>
     cases h4
     cases h3
     obtain⟨v,g1,g2⟩:=h2.get e2
     rw[h2.length] at e1
     exact⟨a,vs,i,k,v,rfl,rfl,h1,hi.1,hi.2,e1,g1,q _ _ (h2.eraseIdx k) g2⟩
  ·cases e
 ·cases e
theorem yt{f:bq}{g:bq}{o:Expr}{apos cpos:Pos}(ho:PE X o (tD (md X) f))(ha:PE X e (tD (md X) g))(hbase:attributeBase o "pop" X.env (eval o X.env)=eval o X.env:=by rfl) (hfew:((backTo cpos (starEach [e] X.env)).all (fun x=> !x.1)&&(backToKw cpos (keywordEach [] X.env)).all (fun x=>x.1.isSome)
   &&decide ([e].length+([]:List Keyword).length+(if ([]:List Keyword).isEmpty then 0 else 1)<30))=true:=by rfl)
  (hline:(apos.endLine==cpos.line)=true:=by rfl) (hs:starEach [e] X.env= [(false,eval e X.env)]:=by rfl):PE X (.Call (.Attribute o "pop" apos) [e] [] cpos) (tD (md X) (m5 kJ f (ae g ai))):=
 jB (sH PySem.F.plainAttrs_list PySem.F.slot_list_pop PySem.F.type_list_pop Ba ho (aa ha ah hs) hbase hfew hline hs) (F5 AD)
def oh(f:bq)(g:d_):bq:=fun Γ S=>(f Γ S).bind fun(x,S1)=>match x with
 | .ref k=>(g Γ S1).bind fun(p,S2)=>match S1[k]?,S2[k]? with
   |some (.lst _),some (.lst ds)=>if p.2.isM=true/\ds.length+p.1.length<=sizeLine then some (.non,S2.set k (.lst (ds++p.1))) else none
   |_,_=>none
 |_=>none
theorem FV{f:bq}{g:d_}:∀σ H Q,tD (md X) (oh f g) σ H Q->Gm X.K "list" yd (tD (md X) f) (BF (tQ (md X) g) Et) σ H Q:=fun σ H Q qq=>by
 obtain⟨ρ,Γ,S,d,S',ok,e,q⟩:=qq
 obtain⟨⟨x,S1⟩,e1,e⟩:=bind_some e
 cases x with
 | ref k=>
   dsimp only at e
   obtain⟨⟨⟨ys,t⟩,S2⟩,e2,e⟩:=bind_some e
   dsimp only at e
   split at e
   · rename_i ds0 ds hs1 hs2
     split at e
     · rename_i c
       obtain⟨rfl,rfl⟩:=cm e
       refine⟨ρ,Γ,S,_,S1,ok,e1,fun ρ1 v H1 x1 st1 r1=> ?_⟩
       cases r1 with
       | ref ha=>
         rename_i a
         obtain⟨vs1,g1,_⟩:=st1.obj k a _ ha hs1
         refine⟨.inl ⟨rfl,vs1,gX.of g1⟩,ρ1,Γ,S1,ys,t,S2,ok.to x1 st1,e2,fun ρ2 b us H2 x2 st2 h2 r2=> ?_⟩
         have ha2:=cE x2.pre ha
         obtain⟨vs,h3,h4⟩:=st2.obj k a _ ha2 hs2
         refine⟨a,b,vs,us,rfl,rfl,h3,h2.sqM c.1,by rw[←h4.length,←r2.length];exact c.2,?_⟩
         obtain⟨st3,x3⟩:=st2.putL ha2 hs2 (h4.append r2)
         exact q _ _ _ ((x1.trans x2).trans x3) st3 .non
     · cases e
   · cases e
 |_=>cases e
theorem gc{f:bq}{g:d_}{o:Expr}{apos cpos:Pos}(ho:PE X o (tD (md X) f))(ha:PE X e (tQ (md X) g))(hbase:attributeBase o "extend" X.env (eval o X.env)=eval o X.env:=by rfl) (hfew:((backTo cpos (starEach [e] X.env)).all (fun x=> !x.1)&&(backToKw cpos (keywordEach [] X.env)).all (fun x=>x.1.isSome)
   &&decide ([e].length+([]:List Keyword).length+(if ([]:List Keyword).isEmpty then 0 else 1)<30))=true:=by rfl)
  (hline:(apos.endLine==cpos.line)=true:=by rfl) (hs:starEach [e] X.env= [(false,eval e X.env)]:=by rfl):PE X (.Call (.Attribute o "extend" apos) [e] [] cpos) (tD (md X) (oh f g)):=
 jB (sH PySem.F.plainAttrs_list PySem.F.slot_list_extend PySem.F.type_list_extend yE ho (dr ha fm hs) hbase hfew hline hs) FV
def E4(f g:bq):kT:=fun d Γ S=>(f Γ S).bind fun(x,S1)=>(g Γ S1).bind fun(y,S2)=>match x,y with
 | .ref k,.int i=>match S2[k]? with
   |some (.lst ds)=>(yK ds.length i).bind fun j=>some (Γ,S2.set k (.lst (ds.set j d)))
   |_=>none
 |_,_=>none
theorem GT{f g:bq}:∀v σ H Q,tG (md X) (E4 f g) v σ H Q->FW (tD (md X) f) (tD (md X) g) Da v σ H Q:=fun v σ H Q qq=>by
 obtain⟨ρ,Γ,S,d,Γ',S',ok,r,e,q⟩:=qq
 obtain⟨⟨x,S1⟩,e1,e⟩:=bind_some e
 obtain⟨⟨y,S2⟩,e2,e⟩:=bind_some e
 cases x with
 | ref k=>
   cases y with
   | int i=>
     dsimp only at e
     split at e
     · rename_i ds hs
       obtain⟨j,e3,e⟩:=bind_some e
       obtain⟨rfl,rfl⟩:=cm e
       refine⟨ρ,Γ,S,_,S1,ok,e1,fun ρ1 v1 H1 x1 st1 r1=>⟨ρ1,Γ,S1,_,S2,ok.to x1 st1,e2,fun ρ2 v2 H2 x2 st2 r2=> ?_⟩⟩
       cases r2
       have r1:=r1.ext x2
       cases r1 with
       | ref ha=>
         obtain⟨vs,h3,h4⟩:=st2.obj k _ _ ha hs
         have x12:=x1.trans x2
         obtain⟨st3,x3⟩:=st2.putL ha hs (aU.set (r.ext x12) j h4)
         exact⟨_,vs,i,j,rfl,rfl,h3,by rw[←h4.length];exact e3,q _ _ _ (x12.trans x3) ((ok.to x12 st2).to x3 st3)⟩
     · cases e
   |_=>cases e
 |_=>cases e
theorem Df{o i:Expr}{f g:bq}(ho:PE X o (tD (md X) f))(hi:PE X i (tD (md X) g))
  (ha:∀v,assign (.Subscript o i pos) X.env v=(do
   let ov←holding [v] (eval o X.env)
   let iv←holding [v,ov] (eval i X.env)
   standAt pos
   holding [v,ov,iv] (setItem ov iv v)
   release [v,ov,iv] []):=by intro _;rfl):PG X (.Subscript o i pos) (tG (md X) (E4 f g)):=GP (DX ho hi set_list ha) GT
def GA(f g h:bq):cC:=fun Γ S=>(f Γ S).bind fun(x,S1)=>(g Γ S1).bind fun(y,S2)=>match x,y with
 | .ref k,.int i=>match S2[k]? with
   | some (.lst ds)=>if 0<=i then(ds[i.toNat]?).bind fun z=>(h Γ S2).bind fun(w,S3)=>match z,w,S3[k]? with
     |.int m,.int n,some (.lst es)=>(yK es.length i).bind fun j=>some (.nx Γ (S3.set k (.lst (es.set j (.int (m+n))))))
     |_,_,_=>none
     else none
   |_=>none
 |_,_=>none
theorem ET{o i e:Expr}{f g h:bq}{tpos:Pos}(ho:PE X o (tD (md X) f))(hi:PE X i (tD (md X) g))(he:PE X e (tD (md X) h))
  (ha:∀ov iv new,augStore i ov iv new=(do holding [new,ov,iv] (setItem ov iv new);release [new,ov,iv] [];pure .next):=by intros;rfl):PS X (.AugAssign (.Subscript o i tpos) .Add e pos) (tS (md X) (GA f g h)):=
 yy (Cz ho hi AC he Es set_list ha) fun D σ H qq=>by
  obtain⟨ρ,Γ,S,o,ok,e,q⟩:=qq
  obtain⟨⟨x,S1⟩,e1,e⟩:=bind_some e
  obtain⟨⟨y,S2⟩,e2,e⟩:=bind_some e
  cases x with
  | ref k=>
    cases y with
    | int i=>
      dsimp only at e
      split at e
      · rename_i ds hs
        split at e
        · rename_i hi
          obtain⟨z,e3,e⟩:=bind_some e
          obtain⟨⟨w,S3⟩,e4,e⟩:=bind_some e
          cases z with
          | int m=>
            cases w with
            | int n=>
              cases hs3:S3[k]? with
              |none=>rw[hs3] at e;cases e
              | some o3=>
                rw[hs3] at e
                cases o3 with
                | lst es=>
                  dsimp only at e
                  obtain⟨j,e5,e⟩:=bind_some e
                  cases e
                  refine⟨ρ,Γ,S,_,S1,ok,e1,fun ρ1 v1 H1 x1 st1 r1=>⟨ρ1,Γ,S1,_,S2,ok.to x1 st1,e2,fun ρ2 v2 H2 x2 st2 r2=> ?_⟩⟩
                  cases r2
                  have r1:=r1.ext x2
                  cases r1 with
                  | ref ha=>
                    have x12:=x1.trans x2
                    obtain⟨vs,h3,h4⟩:=st2.obj k _ _ ha hs
                    obtain⟨v,h5,h6⟩:=h4.get e3
                    cases h6
                    refine⟨_,vs,i.toNat,_,rfl,by rw[Int.toNat_of_nonneg hi],gX.of h3,h5,ρ2,Γ,S2,_,S3,ok.to x12 st2,e4,fun ρ3 v3 H3 x3 st3 r3=> ?_⟩
                    cases r3
                    have ha3:=cE x3.pre ha
                    obtain⟨vs3,g3,g4⟩:=st3.obj k _ _ ha3 hs3
                    have x13:=x12.trans x3
                    obtain⟨st4,x4⟩:=st3.putL ha3 hs3 (aU.set (.int (m+n)) j g4)
                    exact⟨m,n,rfl,rfl,_,vs3,i,j,rfl,rfl,g3,by rw[←g4.length];exact e5,q _ _ _ (x13.trans x4) ((ok.to x13 st3).to x4 st4)⟩
                |_=>cases e
            |_=>cases e
          |_=>cases e
        · cases e
      · cases e
    |_=>cases e
  |_=>cases e
def B2(i j:Nat)(f:fo):cC:=fun Γ S=>(f Γ S).bind fun(ds,S1)=>match ds with
 | [v,w]=>some (.nx ((Γ.set i (some v)).set j (some w)) S1)
 |_=>none
theorem FZ{i j:Nat}{f:fo}(h:PS X st (FE i j (vy (md X) f))):PS X st (tS (md X) (B2 i j f)):=yy h fun D σ H qq=>by
 obtain⟨ρ,Γ,S,o,ok,e,q⟩:=qq
 obtain⟨⟨ds,S1⟩,e1,e⟩:=bind_some e
 dsimp only at e
 split at e
 ·cases e
  refine⟨ρ,Γ,S,_,S1,ok,e1,fun ρ' vs H' x st r=> ?_⟩
  cases r with
  | cons r rr=>
    cases rr with
    | cons r' rr=>
      cases rr
      exact⟨_,_,rfl,q _ _ _ x ⟨((ok.en.ext x).set r).set r',st⟩⟩
 ·cases e
end
def dz(cells:List (Str×Addr)):List (Str×NameKind)->List (Str×Addr)->List (Str×Addr)
 | [],acc=>acc
 |(n,k)::r,acc=>if (k==.free)=true then dz cells r ((n,(cells.lookup n).getD 0)::acc) else dz cells r acc
theorem mr{env:Env}:∀(names:List (Str×NameKind)) (acc:List (Str×Addr)),(∀y∈names,y.2=.free->(env.cells.lookup y.1).isSome=true)→
  (forIn names acc fun(x:Str×NameKind) (cs:List (Str×Addr))=>(do
   if (x.2==NameKind.free)=true then do
    let c←cellOf env x.1
    pure (ForInStep.yield ((x.1,c)::cs))
   else pure (ForInStep.yield cs):Sem (ForInStep (List (Str×Addr)))))=(pure (dz env.cells names acc):Sem _)
 | [],acc,_=>rfl
 | (n,k)::r,acc,h=>by
   rw[List.forIn_cons]
   unfold dz
   by_cases c:(k==NameKind.free)=true
   · obtain⟨a,ha⟩:=Option.isSome_iff_exists.mp (h (n,k) List.mem_cons_self (by simpa using c))
     simp only[c,if_true]
     have hc:cellOf env n=pure a:=by
       unfold cellOf
       rw[ha]
     rw[hc,pure_bind,pure_bind,ha]
     exact mr r _ fun y hy=>h y (List.mem_cons_of_mem _ hy)
   · simp only[c,Bool.false_eq_true,if_false]
     rw[pure_bind]
     exact mr r _ fun y hy=>h y (List.mem_cons_of_mem _ hy)
theorem Bd{scope:Scope}{env:Env}(h:∀y∈scope.names,y.2=.free->(env.cells.lookup y.1).isSome=true):closureFor scope env=pure (dz env.cells scope.names []):=by
 unfold closureFor
 have:=mr scope.names [] h
 rw[bind_pure]
 exact this
theorem oQ{cells:List (Str×Addr)}:∀(names:List (Str×NameKind)) (acc:List (Str×Addr)) (p:Str×Addr),p∈dz cells names acc->p∈acc\/∃n,(n,NameKind.free)∈names/\p=(n,(cells.lookup n).getD 0)
 | [],acc,p,h=>.inl h
 | (n,k)::r,acc,p,h=>by
   unfold dz at h
   split at h
   · rename_i c
     rcases oQ r _ p h with h|⟨m,h1,h2⟩
     · rcases List.mem_cons.mp h with h|h
       · exact .inr ⟨n,by rw[show k=NameKind.free by simpa using c];exact List.mem_cons_self,h⟩
       · exact .inl h
     · exact .inr ⟨m,List.mem_cons_of_mem _ h1,h2⟩
   · rcases oQ r _ p h with h|⟨m,h1,h2⟩
     · exact .inl h
     · exact .inr ⟨m,List.mem_cons_of_mem _ h1,h2⟩
theorem qu{cells:List (Str×Addr)}{x:Str}:∀(names:List (Str×NameKind)) (acc:List (Str×Addr)),((x,NameKind.free)∈names\/∃c,(x,c)∈acc)->∃c,(x,c)∈dz cells names acc
 | [],acc,h=>by
   rcases h with h|h
   · cases h
   · exact h
 | (n,k)::r,acc,h=>by
   unfold dz
   split
   · rename_i c
     refine qu r _ ?_
     rcases h with h|⟨c,h⟩
     · rcases List.mem_cons.mp h with h|h
       · cases h;exact .inr ⟨_,List.mem_cons_self⟩
       · exact .inl h
     · exact .inr ⟨c,List.mem_cons_of_mem _ h⟩
   · rename_i c
     refine qu r _ ?_
     rcases h with h|h
     · rcases List.mem_cons.mp h with h|h
       · cases h;exact absurd rfl c
       · exact .inl h
     · exact .inr h
theorem kd{x:Str}{c:Addr}:∀{l:List (Str×Addr)},(x,c)∈l->∃c',l.lookup x=some c'
 | [],h=>by cases h
 | (n,d)::r,h=>by
   unfold List.lookup
   by_cases e:(x==n)=true
   · rw[e];exact⟨d,rfl⟩
   · have e':(x==n)=false:=by simpa using e
     rw[e']
     rcases List.mem_cons.mp h with h|h
     · cases h;simp at e
     · exact kd h
def qz(N0:List Str)(kindOf:Str->Option NameKind)(names:List (Str×NameKind)):List (Option Nat)->List Str->Bool
 |some j::js,x::N=>(N0[j]? ==some x)&&(kindOf x==some .cell||kindOf x==some .free)&&(names.lookup x==some .free)&&qz N0 kindOf names js N
 |none::js,_::N=>qz N0 kindOf names js N
 |_,_=>true
theorem pj{N0:List Str}{kindOf:Str->Option NameKind}{names:List (Str×NameKind)}:∀{js:List (Option Nat)} {N:List Str} {k j:Nat} {x:Str},qz N0 kindOf names js N=true->js[k]?=some (some j)->N[k]?=some x->N0[j]?=some x/\(kindOf x=some .cell\/kindOf x=some .free)/\names.lookup x=some .free
 | some i::js,y::N,0,j,x,h,h1,h2=>by
   cases h1
   cases h2
   simp only[qz,Bool.and_eq_true,Bool.or_eq_true,beq_iff_eq] at h
   exact⟨h.1.1.1,h.1.1.2,h.1.2⟩
 | some i::js,y::N,k+1,j,x,h,h1,h2=>by
   simp only[qz,Bool.and_eq_true] at h
   exact pj h.2 (by simpa using h1) (by simpa using h2)
 |none::js,y::N,0,j,x,h,h1,h2=>by cases h1
 |none::js,y::N,k+1,j,x,h,h1,h2=>pj (k:=k) (by simpa [qz] using h) (by simpa using h1) (by simpa using h2)
 | [],N,k,j,x,h,h1,h2=>by simp at h1
 |some i::js,[],k,j,x,h,h1,h2=>by simp at h2
 |none::js,[],k,j,x,h,h1,h2=>by simp at h2
theorem kX{env:Env}{x:Str}:∀{names:List (Str×NameKind)},names.lookup x=some .free->(names.map fun(n,k)=>if (k==NameKind.free&&env.scope.kind==.function&&env.kindOf n==some .cell) then(n,NameKind.cell) else(n,k)).lookup x=some .cell∨
  (names.map fun(n,k)=>if (k==NameKind.free&&env.scope.kind==.function&&env.kindOf n==some .cell) then(n,NameKind.cell) else(n,k)).lookup x=some .free
 | [],h=>by cases h
 | (n,k)::r,h=>by
   unfold List.lookup at h
   rw[List.map_cons]
   by_cases e:(x==n)=true
   · rw[e] at h
     cases h
     dsimp only
     split
     · left;unfold List.lookup;rw[e]
     · right;unfold List.lookup;rw[e]
   · have e':(x==n)=false:=by simpa using e
     rw[e'] at h
     have ih:=kX (env:=env) h
     dsimp only
     split <;>(unfold List.lookup;rw[e'];exact ih)
theorem aN.gen{X:Cx}{N:List Str}{js:List (Option Nat)}{scope:Scope}(k:scope.kind=.function)(h1:scope.names.all (fun y=>y.2 !=.cell)=true)(h2:scope.names.all (fun y=>y.2 !=.local||scope.names.lookup y.1==some .local)=true)
  (h3:scope.names.all (fun y=>y.2 !=.free||(X.env.cells.lookup y.1).isSome)=true) (h4:qz X.N X.env.kindOf scope.names js N=true) (h5:js.length=N.length):aN X N js scope (dz X.env.cells scope.names []) where
 kind:=k
 nocell:=fun y hy=>by
  have:=List.all_eq_true.mp h1 y hy
  simpa using this
 names:=fun y hy e=>by
  have:=List.all_eq_true.mp h2 y hy
  rw[e] at this
  simpa using this
 clos:=Bd fun y hy e=>by
  have:=List.all_eq_true.mp h3 y hy
  rw[e] at this
  simpa using this
 sub:=fun x c h=>by
  rcases oQ _ _ _ (PySem.mem_of_lookup h) with h|⟨n,hn,e⟩
  ·cases h
  ·cases e
   have:=List.all_eq_true.mp h3 _ hn
   have hs:(X.env.cells.lookup x).isSome=true:=by simpa using this
   obtain⟨c,hc⟩:=Option.isSome_iff_exists.mp hs
   rw[hc]
   rfl
 has:=fun x h=>by
  have key:(x,NameKind.free)∈scope.names:=by
   have:∃k,(relabel scope X.env).names.lookup x=some k/\(k=.cell\/k=.free):=by
    rcases h with h|h
    ·exact⟨_,h,.inl rfl⟩
    ·exact⟨_,h,.inr rfl⟩
   obtain⟨k',hk,hc⟩:=this
   have hm:=PySem.mem_of_lookup hk
   unfold relabel at hm
   obtain⟨⟨n,kk⟩,hy,ey⟩:=List.mem_map.mp hm
   dsimp only at ey
   split at ey
   ·rename_i c
    cases ey
    simp only[Bool.and_eq_true] at c
    have:kk=NameKind.free:=by simpa using c.1.1
    rw[←this]
    exact hy
   ·cases ey
    rcases hc with z|z
    ·have:=List.all_eq_true.mp h1 _ hy
     rw[z] at this
     simp at this
    ·rw[←z];exact hy
  obtain⟨c,hc⟩:=qu (cells:=X.env.cells) scope.names [] (.inl key)
  exact kd hc
 cap:=fun k j x hj hn=>by
  obtain⟨a,b,c⟩:=pj h4 hj hn
  refine⟨a,b,?_⟩
  unfold relabel
  exact kX c
 len:=h5
structure bH(P:Program)(w:World)(K:PySem.W.Frag)(mg:Str->Option Value)(base:Heap)(k:Nat)(x:Str)(ps:List Str)(F:cZ):Prop where
 ex:∃f fd,bh P w K mg base dt k f fd ps (dG ⟨K,mg⟩ ps.length F)/\Binds K fd ps []/\PySem.W.keepIn K (.ref f)=true/\mg x=some (.ref f)
section
variable{X:Cx}{x:Str}{k n:Nat}{ps:List Str}{F:cZ}{e:Expr}{es:List Expr}{g:fo}{p pos:Pos}
theorem Gf(C:bH X.prog X.w X.K X.mg X.base k x ps F)(hr:eL k X.A)(hg:Gl X x)(ha:PA X (e::es) (vy (md X) g))(hn:nA ps.length g)
  (hdb:(x==("__debug__":Str))=false:=by decide) (he:starEach (e::es) X.env=(false,eval e X.env)::starEach es X.env:=by rfl) (hpl:(backTo pos (starEach es X.env)).any (·.1)=false:=by rfl):
  PE X (.Call (.Name x p) (e::es) [] pos) (tD (md X) (ao F g)):=by
 obtain⟨f,fd,G,b,kp,m⟩:=C.ex
 exact D0 G hr hg m kp b ha hn hdb he hpl
theorem FC(C:bH X.prog X.w X.K X.mg X.base k x ps F)(hr:eL k X.A)(hg:Gl X x)(ha:PA X (e::es) (vy (md X) g))(hn:nA ps.length g)
  (hdb:(x==("__debug__":Str))=false:=by decide) (he:starEach (e::es) X.env=(false,eval e X.env)::starEach es X.env:=by rfl) (hpl:(backTo pos (starEach es X.env)).any (·.1)=false:=by rfl):
  PE X (.Call (.Name x p) (e::es) [] pos) (tL (md X) (cV F g)):=by
 obtain⟨f,fd,G,b,kp,m⟩:=C.ex
 exact D_ G hr hg m kp b ha hn hdb he hpl
end
theorem bH.mono{P:Program}{w:World}{K:PySem.W.Frag}{mg:Str->Option Value}{base:Heap}{j k:Nat}{x:Str}{ps:List Str}{F:cZ}(C:bH P w K mg base j x ps F)(h:j<=k):bH P w K mg base k x ps F:=by
 obtain⟨f,fd,G,b,kp,m⟩:=C.ex
 exact⟨f,fd,G.mono h,b,kp,m⟩
structure Bl(mg:Str->Option Value):Prop where
 len:mg "len"=none
 tuple:mg "tuple"=none
 list:mg "list"=none
 dict:mg "dict"=none
 set:mg "set"=none
 int:mg "int"=none
 str:mg "str"=none
 bool:mg "bool"=none
 all:mg "all"=none
 any:mg "any"=none
 range:mg "range"=none
 zip:mg "zip"=none
 sorted:mg "sorted"=none
 isi:mg "isinstance"=none
 min:mg "min"=none
 max:mg "max"=none
 abs:mg "abs"=none
 enum:mg "enumerate"=none
open AutoSeq1 in
theorem kg(l:Addr)(items:Array Value)(n:Nat)(b:Addr)(items2:Array Value)(n2:Nat)(dd:Option Addr)(sl:Array (Option Value))(hs0:¬(!items.isEmpty&&Builtin.List.listTooLong (items.size+items2.size))=true)(hs1:items.size<=sizeLine)(hs2:items.size+items2.size<=sizeLine+1):
  Meets (Builtin.«list.extend» ⟨[.ref l,.ref b],[]⟩) (fun _ R s=>s.heap.get? l=some {cls:=.type "list",dict:=none,data:=.seq items n,slots:= #[]}/\s.heap.get? b=some {cls:=.type "tuple",dict:=dd,data:=.seq items2 n2,slots:=sl}/\R (.ok (.ret Value.none)) {s with heap:=s.heap.update l (Obj.mapSeq fun x=>x++items2),toks:=s.toks}):=
 .of_wp fun prog w A R s h=>by
  obtain⟨hp,g,d,tk,os⟩:=s;obtain⟨hl,hb,h⟩:=h;have f1:=idx_int;have f2:=AutoSeq1.sub_tuple_tuple;have f3:=AutoSeq1.sub_list_list;have f4:=AutoSeq1.sub_tuple_list;have f5:=AutoSeq1.sub_list_tuple;
  have hz':(items++items2).size<=sizeLine+1:=by rw[Array.size_append];exact hs2
  wp_walk using (wpAny_updateSeq hl rfl (hz:=hs1) (_hz':=hz')),AutoSeq1.wpAny_loadPart' hl,AutoSeq1.wpAny_loadPart' hb;exact⟨_,rfl,h⟩
section
variable{X:Cx}{a b c e:Expr}{pos:Pos}{st:Stmt}
theorem Cb:Gu X "list.extend" (fun x vs H Q=>∃l b xs zs,x=.ref l/\vs= [.ref b]/\H l=some (.lst xs)/\gD X.K H b zs/\xs.length+zs.length<=sizeLine/\Q .non (upd H l (.lst (xs++zs)))):=by
 intro pins s σ H x vs v us Q I rx rv h
 obtain⟨l,b,xs,zs,rfl,rfl,hH,hB,hz,q⟩:=h
 cases rx
 obtain⟨u,rfl,ru⟩:=rv.one
 cases ru
 obtain⟨z,its,n,r,hl,e⟩:=I.lstM hH
 obtain⟨its2,r2,⟨⟨cls,dd,dat,sl⟩,e2,hc,n2,hd⟩,hz2⟩:=I.tuple hB
 have hl2:=r2.length
 simp only at hc hd
 subst hc hd
 have hsz:its.toArray.size+its2.toArray.size<=sizeLine:=by rw[List.size_toArray,List.size_toArray];omega
 have hlong:¬(!its.toArray.isEmpty&&Builtin.List.listTooLong (its.toArray.size+its2.toArray.size))=true:=by
  rw[pH hsz,Bool.and_false]
  exact Bool.false_ne_true
 refine call_meets F.slot_list_extend ⟨_,e,rfl⟩ F.entry_list_extend (F.args_list_extend_2 _ _)
  (kg l its.toArray n b its2.toArray n2 dd sl hlong (by rw[List.size_toArray];omega) (by omega)) ⟨e,e2,?_⟩
 refine⟨.non,_,I.lset (its':=its++its2) hH e (by simp) (r.append r2) ?_,rfl,q⟩
 rw[lQa]
 omega
def rJ(f:bq)(g:d_):bq:=fun Γ S=>(f Γ S).bind fun(x,S1)=>match x with
 | .ref k=>(g Γ S1).bind fun(p,S2)=>match S1[k]?,S2[k]? with
   |some (.lst _),some (.lst ds)=>if p.2.isL=false/\ds.length+p.1.length<=sizeLine then some (.non,S2.set k (.lst (ds++p.1))) else none
   |_,_=>none
 |_=>none
theorem DK{f:bq}{g:d_}:∀σ H Q,tD (md X) (rJ f g) σ H Q->Gm X.K "list" (fun x vs H Q=>∃l b xs zs,x=.ref l/\vs= [.ref b]/\H l=some (.lst xs)/\gD X.K H b zs/\xs.length+zs.length<=sizeLine/\Q .non (upd H l (.lst (xs++zs)))) (tD (md X) f) (BF (tQ (md X) g) Et) σ H Q:=fun σ H Q qq=>by
 obtain⟨ρ,Γ,S,d,S',ok,e,q⟩:=qq
 obtain⟨⟨x,S1⟩,e1,e⟩:=bind_some e
 cases x with
 | ref k=>
   dsimp only at e
   obtain⟨⟨⟨ys,t⟩,S2⟩,e2,e⟩:=bind_some e
   dsimp only at e
   split at e
   · rename_i ds0 ds hs1 hs2
     split at e
     · rename_i c
       obtain⟨rfl,rfl⟩:=cm e
       refine⟨ρ,Γ,S,_,S1,ok,e1,fun ρ1 v H1 x1 st1 r1=> ?_⟩
       cases r1 with
       | ref ha=>
         rename_i a
         obtain⟨vs1,g1,_⟩:=st1.obj k a _ ha hs1
         refine⟨.inl ⟨rfl,vs1,gX.of g1⟩,ρ1,Γ,S1,ys,t,S2,ok.to x1 st1,e2,fun ρ2 b us H2 x2 st2 h2 r2=> ?_⟩
         have ha2:=cE x2.pre ha
         obtain⟨vs,h3,h4⟩:=st2.obj k a _ ha2 hs2
         refine⟨a,b,vs,us,rfl,rfl,h3,h2.sqT c.1,by rw[←h4.length,←r2.length];exact c.2,?_⟩
         obtain⟨st3,x3⟩:=st2.putL ha2 hs2 (h4.append r2)
         exact q _ _ _ ((x1.trans x2).trans x3) st3 .non
     · cases e
   · cases e
 |_=>cases e
theorem rG{f:bq}{g:d_}{o:Expr}{apos cpos:Pos}(ho:PE X o (tD (md X) f))(ha:PE X e (tQ (md X) g))(hbase:attributeBase o "extend" X.env (eval o X.env)=eval o X.env:=by rfl) (hfew:((backTo cpos (starEach [e] X.env)).all (fun x=> !x.1)&&(backToKw cpos (keywordEach [] X.env)).all (fun x=>x.1.isSome)
   &&decide ([e].length+([]:List Keyword).length+(if ([]:List Keyword).isEmpty then 0 else 1)<30))=true:=by rfl)
  (hline:(apos.endLine==cpos.line)=true:=by rfl) (hs:starEach [e] X.env= [(false,eval e X.env)]:=by rfl):PE X (.Call (.Attribute o "extend" apos) [e] [] cpos) (tD (md X) (rJ f g)):=
 jB (sH PySem.F.plainAttrs_list PySem.F.slot_list_extend PySem.F.type_list_extend Cb ho (dr ha fm hs) hbase hfew hline hs) DK
def lB(x:V):List V->Option Nat
 | []=>none
 |y::r=>if jQ y x=true then some 0 else(lB x r).map (·+1)
theorem yp{x:V}:∀{xs:List V} {j:Nat},lB x xs=some j->(∃y,xs[j]?=some y/\jQ y x=true)/\∀m y,m<j->xs[m]?=some y->jQ y x=false
 | [],_,h=>by cases h
 | y::r,j,h=>by
   unfold lB at h
   split at h
   · rename_i c
     cases h
     exact⟨⟨y,rfl,c⟩,fun m _ hm=>absurd hm (Nat.not_lt_zero _)⟩
   · rename_i c
     obtain⟨i,hi,rfl⟩:=oQm.mp h
     obtain⟨⟨z,h1,h2⟩,h3⟩:=yp hi
     refine⟨⟨z,by simpa using h1,h2⟩,fun m w hm hw=> ?_⟩
     cases m with
     |zero=>cases hw;simpa using c
     |succ m=>exact h3 m w (by omega) (by simpa using hw)
theorem Ak:FF X "list.index" (fun x vs H Q=>∃a xs y j,x=.ref a/\vs= [y]/\gX X.K H a xs/\eS y=true/\xs.all eS=true/\lB y xs=some j/\Q (.int (j:Nat)) H):=by
 intro pins s σ H x vs v us Q I rx rv h
 obtain⟨a,xs,y,j,rfl,rfl,hq,fy,fs,hj,q⟩:=h
 cases rx
 obtain⟨u,rfl,ru⟩:=rv.one
 obtain⟨its,r,pl,hz⟩:=I.list hq
 obtain⟨⟨cls,dd,dat,sl⟩,n,e,hc,hdd,hd⟩:=pl
 simp only at hc hdd hd
 subst hc hdd hd
 obtain⟨⟨z,h1,h2⟩,h3⟩:=yp hj
 have hl:=r.length
 have hjl:j<xs.length:=(gQs.mp h1).1
 obtain⟨w,hw,rw'⟩:=r.get h1
 have hw':its.toArray[j]'(by rw[List.size_toArray];omega)=w:=by
  have:=(gQs.mp hw).2
  simpa using this
 have line:=jl
 refine call_meets PySem.F.slot_list_index ⟨_,e,rfl⟩ PySem.F.entry_list_index (PySem.F.args_list_index_2 _ _)
  (SeqAt.list_indexAt a its.toArray n none sl u (uF y) j (by rw[List.size_toArray];omega) (by omega) (by rw[hw',qe rw' (List.all_eq_true.mp fs z (mQg h1))];exact h2) fun m hm hlt=> ?_)
  ⟨e,fun w hw=>fV ru fy r fs w (by simpa using hw),⟨.int j,H,I.tok _,⟨_,rfl⟩,q⟩⟩
 have hm':m<xs.length:=by rw[List.size_toArray] at hm;omega
 obtain⟨w2,hw2,rw2⟩:=r.get (gQe hm')
 have e2:its.toArray[m]=w2:=by
  have:=(gQs.mp hw2).2
  simpa using this
 rw[e2,qe rw2 (List.all_eq_true.mp fs _ (List.getElem_mem hm'))]
 exact h3 m _ hlt (gQe hm')
end
end DL
namespace Zq
open PySem
def It(t:Bool)(h:Heap)(i a:Addr)(k:Nat):Prop:=if t=true then h.IsTupleIter i a k else h.IsListIter i a k
def Sq(t:Bool)(h:Heap)(a:Addr)(xs:Array Value):Prop:=if t=true then h.IsTuple a xs else h.IsList a xs
section
variable{t t2:Bool}{h h':Heap}{i j a b z O T:Addr}{k:Nat}{xs ys:Array Value}
theorem It.at(g:It t h i a k)(f:∀o,h.get? i=some o->h'.get? i=some o):It t h' i a k:=by
 cases t with
 |true=>exact(show h.IsTupleIter i a k from g).at f
 |false=>exact(show h.IsListIter i a k from g).at f
theorem It.ext{c:Addr}(g:It t h i a k)(f:Heap.ExtBut c h h')(n:i≠c):It t h' i a k:=g.at fun o e=>f i o n e
theorem Sq.at(g:Sq t h a xs)(f:∀o,h.get? a=some o->h'.get? a=some o):Sq t h' a xs:=by
 cases t with
 |true=>obtain⟨o,e,r⟩:=(show h.IsTuple a xs from g);exact(show h'.IsTuple a xs from⟨o,f o e,r⟩)
 |false=>obtain⟨o,e,r⟩:=(show h.IsList a xs from g);exact(show h'.IsList a xs from⟨o,f o e,r⟩)
theorem Sq.ext{c:Addr}(g:Sq t h a xs)(f:Heap.ExtBut c h h')(n:a≠c):Sq t h' a xs:=g.at fun o e=>f a o n e
theorem It.obj(g:It t h i a k):∃o,h.get? i=some o/\∀v,o.data≠.cell v:=by
 cases t with
 |true=>obtain⟨o,e,_,d⟩:=(show h.IsTupleIter i a k from g);exact⟨o,e,fun v n=>by rw[d] at n;cases n⟩
 |false=>obtain⟨o,e,_,d⟩:=(show h.IsListIter i a k from g);exact⟨o,e,fun v n=>by rw[d] at n;cases n⟩
end
section
variable{prog:Program}{w:World}{A:Around}{E:Value->Shared->Prop}{s:Shared}{t t2:Bool}{z T O i j a b:Addr}{k:Nat}{xs ys:Array Value}{x y u v:Value}
theorem draw{Q:Value->Shared->Prop}(gi:It t s.heap i a k)(ga:Sq t s.heap a xs)(hv:xs[k]?=some v)
  (q:∀h',It t h' i a (k+1)->Heap.SameBut i s.heap h'->Q v {s with heap:=h'}):wpAny (model prog w) A (Builtin.SmallTypes.nextOf (.ref i)) Q E s:=by
 cases t with
 |true=>exact Zp.FG gi ga hv q
 |false=>exact wpAny_nextOf_list_item gi ga hv q
theorem Dp{Q:Value->Shared->Prop}(hA:A.handled=none)(gi:It t s.heap i a k)(ga:Sq t s.heap a xs)(hv:xs[k]?=none)
  (q:∀h' e,Heap.ExtBut i s.heap h'->(∃o,h'.get? e=some o/\o.cls=.type "StopIteration")->E (.ref e) {s with heap:=h'}):wpAny (model prog w) A (Builtin.SmallTypes.nextOf (.ref i)) Q E s:=by
 cases t with
 |true=>exact Zp.F1 hA gi ga hv q
 |false=>exact wpAny_nextOf_list_end hA gi ga hv q
abbrev qD(h:Heap)(z T O:Addr)(f0 f1:Value):Prop:=
 h.get? z=some {cls:=.type "zip",dict:=none,data:=.fields #[f0,f1,.bool false,.ref T,.ref O],slots:= #[]}
theorem item(D:ZipApart z T O i j a b){Q:Value->Shared->Prop}(gz:qD s.heap z T O .none (.bool false))(gT:IsPair s.heap T (.ref i) (.ref j))(gO:IsPair s.heap O u v)(gi:It t s.heap i a k)(gj:It t2 s.heap j b k)
  (ga:Sq t s.heap a xs) (gb:Sq t2 s.heap b ys) (ex:xs[k]?=some x) (ey:ys[k]?=some y)
  (q:∀h',qD h' z T O (rawInt s.heap.objs.size) (.bool false)->IsPair h' O x y->It t h' i a (k+1)->It t2 h' j b (k+1)->IsPair h' s.heap.objs.size x y->Zp.Rest z O i j s.heap h'->Q (.ref s.heap.objs.size) {s with heap:=h'}):
  wpAny (model prog w) A (Builtin.«zip.__next__» ⟨[.ref z],[]⟩) (fun fin s'=>∃r,fin=.done (.ret r)/\Q r s') E s:=by
 refine(?_:wpAny _ _ (field (.ref z) 2 >>= _) _ _ _)
 refine wpAny_bind (wpAny_field gz rfl (x:=.bool false) rfl ?_)
 refine(?_:wpAny _ _ (field (.ref z) 3 >>= _) _ _ _)
 refine wpAny_bind (wpAny_field gz rfl (x:=.ref T) rfl (wpAny_bind (wpAny_seqItems gT rfl ?_)))
 refine(?_:wpAny _ _ (Builtin.SmallTypes.ownedTupleIsFree (.ref z) >>= _) _ _ _)
 refine wpAny_bind ?_
 unfold Builtin.SmallTypes.ownedTupleIsFree
 refine wpAny_bind (wpAny_field gz rfl (x:=.none) rfl (wpAny_pure ?_))
 simp only[if_true]
 refine wpAny_bind (wpAny_rule (wpAny_bind (wpAny_field gz rfl (x:=.ref O) rfl (wpAny_bind (wpAny_setField_rec gz (by simp) fun h1 z1 b1=> ?_)))))
 replace z1:qD h1 z T O .ellipsis (.bool false):=z1
 refine wpAny_bind ?_
 simp only[List.zipIdx_cons,List.zipIdx_nil,List.forIn_nil,List.forIn_cons]
 refine wpAny_bind (wpAny_bind (wpAny_onRaise ?_))
 refine(?_:wpAny _ _ (Builtin.SmallTypes.nextOf (.ref i) >>= _) _ _ _)
 refine wpAny_bind (draw (gi.ext b1.extBut D.i1z) (ga.ext b1.extBut D.l1z) ex fun h2 i2 b2=>wpAny_pure ?_)
 have O2:IsPair h2 O u v:=b2.extBut _ _ D.TOi1 (b1.extBut _ _ D.TOz gO)
 refine wpAny_bind (wpAny_seqItems O2 rfl (wpAny_bind (wpAny_updateSeq_pair O2 fun h3 O3 b3=>wpAny_bind (wpAny_letGo (wpAny_pure ?_)))))
 replace O3:IsPair h3 O x v:=O3
 refine wpAny_bind (wpAny_bind (wpAny_onRaise ?_))
 refine(?_:wpAny _ _ (Builtin.SmallTypes.nextOf (.ref j) >>= _) _ _ _)
 refine wpAny_bind (draw (((gj.ext b1.extBut D.i2z).ext b2.extBut D.i12.symm).ext b3.extBut D.TOi2.symm) (((gb.ext b1.extBut D.l2z).ext b2.extBut D.l2i1).ext b3.extBut D.l2TO) ey fun h4 j4 b4=>wpAny_pure ?_)
 have O4:IsPair h4 O x v:=b4.extBut _ _ D.TOi2 O3
 refine wpAny_bind (wpAny_seqItems O4 rfl (wpAny_bind (wpAny_updateSeq_pair O4 fun h5 O5 b5=>wpAny_bind (wpAny_letGo (wpAny_pure (wpAny_pure ?_))))))
 replace O5:IsPair h5 O x y:=O5
 refine wpAny_bind (wpAny_seqItems O5 rfl (wpAny_bind (wpAny_newTuple ?_)))
 have sz:h5.objs.size=s.heap.objs.size:=by rw[b5.1,b4.1,b3.1,b2.1,b1.1]
 have z5:qD h5 z T O .ellipsis (.bool false):=b5.extBut _ _ D.TOz.symm (b4.extBut _ _ D.i2z.symm (b3.extBut _ _ D.TOz.symm (b2.extBut _ _ D.i1z.symm z1)))
 have r5:Zp.Rest z O i j s.heap h5:=fun c o c1 c2 c3 c4 e=>b5.extBut _ _ c2 (b4.extBut _ _ c4 (b3.extBut _ _ c2 (b2.extBut _ _ c3 (b1.extBut _ _ c1 e))))
 have i5:It t h5 i a (k+1):=((i2.ext b3.extBut D.TOi1.symm).ext b4.extBut D.i12).ext b5.extBut D.TOi1.symm
 have j5:It t2 h5 j b (k+1):=j4.ext b5.extBut D.TOi2.symm
 have zl:z<h5.objs.size:=Heap.lt_size z5
 refine(?_:wpAny _ _ (Builtin.SmallTypes.ownedTupleHandOut (.ref z) (.ref h5.objs.size) >>= _) _ _ _)
 refine wpAny_bind ?_
 unfold Builtin.SmallTypes.ownedTupleHandOut
 have z6:qD (h5.push {cls:=.type "tuple",data:=.seq #[x,y]}) z T O .ellipsis (.bool false):=Heap.get?_push_of_some _ z5
 refine wpAny_bind (wpAny_setField_rec z6 (by simp) fun h7 z7 b7=> ?_)
 replace z7:qD h7 z T O (rawInt h5.objs.size) (.bool false):=z7
 refine wpAny_setField_rec z7 (by simp) fun h8 z8 b8=> ?_
 replace z8:qD h8 z T O (rawInt h5.objs.size) (.bool false):=z8
 have up:∀c o,c≠z->h5.get? c=some o->h8.get? c=some o:=fun c o c1 e=>b8.extBut _ _ c1 (b7.extBut _ _ c1 (Heap.get?_push_of_some _ e))
 have n8:IsPair h8 h5.objs.size x y:=b8.extBut _ _ (Nat.ne_of_gt zl) (b7.extBut _ _ (Nat.ne_of_gt zl) (Heap.get?_push_size _ rfl))
 rw[sz] at z8 n8
 refine wpAny_pure ⟨_,rfl,?_⟩
 refine(?_:Q (.ref h5.objs.size) _)
 rw[sz]
 exact q h8 z8 (up _ _ D.TOz O5) (i5.at fun o e=>up _ o D.i1z e) (j5.at fun o e=>up _ o D.i2z e) n8 fun c o c1 c2 c3 c4 e=>up c o c1 (r5 c o c1 c2 c3 c4 e)
theorem alive{α:Addr}{Q:Option Obj->Shared->Prop}(h:Q (s.heap.get? α) s):wpAny (model prog w) A (loadIfAlive α) Q E s:=fun _ _ _=>h
theorem again(D:ZipApart z T O i j a b){p:Addr}{op:Obj}{f1:Value}{Q:Value->Shared->Prop}(gz:qD s.heap z T O (rawInt p) f1)(gp:s.heap.get? p=some op)(gT:IsPair s.heap T (.ref i) (.ref j))(gi:It t s.heap i a k)(gj:It t2 s.heap j b k)
  (ga:Sq t s.heap a xs) (gb:Sq t2 s.heap b ys) (ex:xs[k]?=some x) (ey:ys[k]?=some y)
  (q:∀h',qD h' z T O (rawInt p) (.bool true)->It t h' i a (k+1)->It t2 h' j b (k+1)->IsPair h' s.heap.objs.size x y->Zp.Rest z O i j s.heap h'->Q (.ref s.heap.objs.size) {s with heap:=h'}):
  wpAny (model prog w) A (Builtin.«zip.__next__» ⟨[.ref z],[]⟩) (fun fin s'=>∃r,fin=.done (.ret r)/\Q r s') E s:=by
 refine(?_:wpAny _ _ (field (.ref z) 2 >>= _) _ _ _)
 refine wpAny_bind (wpAny_field gz rfl (x:=.bool false) rfl ?_)
 refine(?_:wpAny _ _ (field (.ref z) 3 >>= _) _ _ _)
 refine wpAny_bind (wpAny_field gz rfl (x:=.ref T) rfl (wpAny_bind (wpAny_seqItems gT rfl ?_)))
 refine(?_:wpAny _ _ (Builtin.SmallTypes.ownedTupleIsFree (.ref z) >>= _) _ _ _)
 refine wpAny_bind ?_
 unfold Builtin.SmallTypes.ownedTupleIsFree
 refine wpAny_bind (wpAny_field gz rfl (x:=rawInt p) rfl ?_)
 refine(?_:wpAny _ _ (loadIfAlive ((p:Int).toNat) >>= _) _ _ _)
 refine wpAny_bind ?_
 rw[Int.toNat_natCast]
 refine alive ?_
 rw[gp]
 refine(?_:wpAny _ _ (field (.ref z) 1 >>= _) _ _ _)
 refine wpAny_bind (wpAny_field gz rfl (x:=f1) rfl ?_)
 have st1:wpAny (model prog w) A (if (f1 !=Value.bool true)=true then(do let _←setField (.ref z) 1 (.bool true);pure false) else pure false)
   (fun r s'=>r=false/\∃h0,s'={s with heap:=h0}/\qD h0 z T O (rawInt p) (.bool true)/\Heap.SameBut z s.heap h0) E s:=by
  by_cases c:(f1 !=Value.bool true)=true
  ·rw[if_pos c]
   exact wpAny_bind (wpAny_setField_rec gz (by simp) fun h0 z0 b0=>wpAny_pure ⟨rfl,h0,rfl,z0,b0⟩)
  ·rw[if_neg c]
   have e:f1=Value.bool true:=by simpa using c
   subst e
   exact wpAny_pure ⟨rfl,s.heap,rfl,gz,Heap.SameBut.refl _ _⟩
 refine wpAny_mono st1 (fun r s' hs'=> ?_) fun _ _ h=>h
 obtain⟨rfl,h0,rfl,z0,b0⟩:=hs'
 simp only[Bool.false_eq_true,if_false]
 refine wpAny_bind ?_
 simp only[List.forIn_toArray,List.forIn_cons,List.forIn_nil]
 refine wpAny_bind (wpAny_bind (wpAny_holding ?_))
 refine(?_:wpAny _ _ (Builtin.SmallTypes.nextOf (.ref i) >>= _) _ _ _)
 refine wpAny_bind (draw (gi.ext b0.extBut D.i1z) (ga.ext b0.extBut D.l1z) ex fun h2 i2 b2=>wpAny_pure (wpAny_pure ?_))
 refine wpAny_bind (wpAny_bind (wpAny_holding ?_))
 refine(?_:wpAny _ _ (Builtin.SmallTypes.nextOf (.ref j) >>= _) _ _ _)
 refine wpAny_bind (draw ((gj.ext b0.extBut D.i2z).ext b2.extBut D.i12.symm) ((gb.ext b0.extBut D.l2z).ext b2.extBut D.l2i1) ey fun h4 j4 b4=>wpAny_pure (wpAny_pure (wpAny_pure ?_)))
 refine wpAny_bind (wpAny_newTuple ?_ (by show 2<=sizeLine;decide))
 have sz:h4.objs.size=s.heap.objs.size:=by rw[b4.1,b2.1,b0.1]
 have up:∀c o,h4.get? c=some o->(h4.push {cls:=.type "tuple",data:=.seq #[x,y]}).get? c=some o:=fun c o e=>Heap.get?_push_of_some _ e
 have n8:IsPair (h4.push {cls:=.type "tuple",data:=.seq #[x,y]}) h4.objs.size x y:=Heap.get?_push_size _ rfl
 have z8:qD (h4.push {cls:=.type "tuple",data:=.seq #[x,y]}) z T O (rawInt p) (.bool true):=up _ _ (b4.extBut _ _ D.i2z.symm (b2.extBut _ _ D.i1z.symm z0))
 refine wpAny_pure ⟨_,rfl,?_⟩
 refine(?_:Q (.ref h4.objs.size) _)
 rw[sz] at n8⊢
 exact q _ z8 ((i2.ext b4.extBut D.i12).at fun o e=>up _ o e) (j4.at fun o e=>up _ o e) n8 fun c o c1 c2 c3 c4 e=>up c o (b4.extBut _ _ c4 (b2.extBut _ _ c3 (b0.extBut _ _ c1 e)))
theorem stop(D:ZipApart z T O i j a b){Q:Fin->Shared->Prop}(hA:A.handled=none)(gz:qD s.heap z T O .none (.bool false))(gT:IsPair s.heap T (.ref i) (.ref j))(gi:It t s.heap i a k)(ga:Sq t s.heap a xs)(ex:xs[k]?=none)
  (q:∀h' e,Zp.Rest z O i j s.heap h'->(∃o,h'.get? e=some o/\o.cls=.type "StopIteration")->E (.ref e) {s with heap:=h'}):
  wpAny (model prog w) A (Builtin.«zip.__next__» ⟨[.ref z],[]⟩) Q E s:=by
 refine(?_:wpAny _ _ (field (.ref z) 2 >>= _) _ _ _)
 refine wpAny_bind (wpAny_field gz rfl (x:=.bool false) rfl ?_)
 refine(?_:wpAny _ _ (field (.ref z) 3 >>= _) _ _ _)
 refine wpAny_bind (wpAny_field gz rfl (x:=.ref T) rfl (wpAny_bind (wpAny_seqItems gT rfl ?_)))
 refine(?_:wpAny _ _ (Builtin.SmallTypes.ownedTupleIsFree (.ref z) >>= _) _ _ _)
 refine wpAny_bind ?_
 unfold Builtin.SmallTypes.ownedTupleIsFree
 refine wpAny_bind (wpAny_field gz rfl (x:=.none) rfl (wpAny_pure ?_))
 simp only[if_true]
 refine wpAny_bind (wpAny_rule (wpAny_bind (wpAny_field gz rfl (x:=.ref O) rfl (wpAny_bind (wpAny_setField_rec gz (by simp) fun h1 z1 b1=> ?_)))))
 replace z1:qD h1 z T O .ellipsis (.bool false):=z1
 refine wpAny_bind ?_
 simp only[List.zipIdx_cons,List.zipIdx_nil,List.forIn_nil,List.forIn_cons]
 refine wpAny_bind (wpAny_bind (wpAny_onRaise ?_))
 refine(?_:wpAny _ _ (Builtin.SmallTypes.nextOf (.ref i) >>= _) _ _ _)
 refine wpAny_bind (Dp hA (gi.ext b1.extBut D.i1z) (ga.ext b1.extBut D.l1z) ex fun h2 e b2 qr=> ?_)
 obtain⟨oe,he,ce⟩:=qr
 have z2:qD h2 z T O .ellipsis (.bool false):=b2 _ _ D.i1z.symm z1
 have ne:e≠z:=fun n=>by rw[n,z2] at he;cases he;simp at ce
 exact wpAny_setField_rec z2 (by simp) fun h3 _ b3=>q h3 e (fun c o c1 _ c3 _ n=>b3.extBut _ _ c1 (b2 _ _ c3 (b1.extBut _ _ c1 n))) ⟨oe,b3.extBut _ _ ne he,ce⟩
theorem Fe(D:ZipApart z T O i j a b){p:Addr}{op:Obj}{f1:Value}{Q:Fin->Shared->Prop}(hA:A.handled=none)(gz:qD s.heap z T O (rawInt p) f1)(gp:s.heap.get? p=some op)(gT:IsPair s.heap T (.ref i) (.ref j))(gi:It t s.heap i a k)(ga:Sq t s.heap a xs)(ex:xs[k]?=none)
  (q:∀h' e,Zp.Rest z O i j s.heap h'->(∃o,h'.get? e=some o/\o.cls=.type "StopIteration")->E (.ref e) {s with heap:=h'}):
  wpAny (model prog w) A (Builtin.«zip.__next__» ⟨[.ref z],[]⟩) Q E s:=by
 refine(?_:wpAny _ _ (field (.ref z) 2 >>= _) _ _ _)
 refine wpAny_bind (wpAny_field gz rfl (x:=.bool false) rfl ?_)
 refine(?_:wpAny _ _ (field (.ref z) 3 >>= _) _ _ _)
 refine wpAny_bind (wpAny_field gz rfl (x:=.ref T) rfl (wpAny_bind (wpAny_seqItems gT rfl ?_)))
 refine(?_:wpAny _ _ (Builtin.SmallTypes.ownedTupleIsFree (.ref z) >>= _) _ _ _)
 refine wpAny_bind ?_
 unfold Builtin.SmallTypes.ownedTupleIsFree
 refine wpAny_bind (wpAny_field gz rfl (x:=rawInt p) rfl ?_)
 refine(?_:wpAny _ _ (loadIfAlive ((p:Int).toNat) >>= _) _ _ _)
 refine wpAny_bind ?_
 rw[Int.toNat_natCast]
 refine alive ?_
 rw[gp]
 refine(?_:wpAny _ _ (field (.ref z) 1 >>= _) _ _ _)
 refine wpAny_bind (wpAny_field gz rfl (x:=f1) rfl ?_)
 have st1:wpAny (model prog w) A (if (f1 !=Value.bool true)=true then(do let _←setField (.ref z) 1 (.bool true);pure false) else pure false)
   (fun r s'=>r=false/\∃h0,s'={s with heap:=h0}/\qD h0 z T O (rawInt p) (.bool true)/\Heap.SameBut z s.heap h0) E s:=by
  by_cases c:(f1 !=Value.bool true)=true
  ·rw[if_pos c]
   exact wpAny_bind (wpAny_setField_rec gz (by simp) fun h0 z0 b0=>wpAny_pure ⟨rfl,h0,rfl,z0,b0⟩)
  ·rw[if_neg c]
   have e:f1=Value.bool true:=by simpa using c
   subst e
   exact wpAny_pure ⟨rfl,s.heap,rfl,gz,Heap.SameBut.refl _ _⟩
 refine wpAny_mono st1 (fun r s' hs'=> ?_) fun _ _ h=>h
 obtain⟨rfl,h0,rfl,z0,b0⟩:=hs'
 simp only[Bool.false_eq_true,if_false]
 refine wpAny_bind ?_
 simp only[List.forIn_toArray,List.forIn_cons,List.forIn_nil]
 refine wpAny_bind (wpAny_bind (wpAny_holding ?_))
 refine(?_:wpAny _ _ (Builtin.SmallTypes.nextOf (.ref i) >>= _) _ _ _)
 refine wpAny_bind (Dp hA (gi.ext b0.extBut D.i1z) (ga.ext b0.extBut D.l1z) ex fun h2 e b2 he=> ?_)
 exact q h2 e (fun c o c1 _ c3 _ n=>b2 _ _ c3 (b0.extBut _ _ c1 n)) he
def Zs(h:Heap)(z T O i j:Addr):Prop:=qD h z T O .none (.bool false)/\(∃u v,IsPair h O u v)\/∃(p:Addr) (op:Obj) (f1:Value),qD h z T O (rawInt (p:Nat)) f1/\h.get? p=some op/\p≠z/\p≠O/\p≠i/\p≠j
theorem Zs.but{h h':Heap}{S:Addr}(g:Zs h z T O i j)(f:∀c o,c≠S->h.get? c=some o->h'.get? c=some o)(n1:z≠S)(n2:O≠S)(hS:∃o,h'.get? S=some o):Zs h' z T O i j:=by
 rcases g with⟨gz,u,v,gO⟩|⟨p,op,f1,gz,gp,n⟩
 ·exact .inl ⟨f _ _ n1 gz,u,v,f _ _ n2 gO⟩
 ·by_cases c:p=S
  ·subst c
   obtain⟨o,ho⟩:=hS
   exact .inr ⟨p,o,f1,f _ _ n1 gz,ho,n⟩
  ·exact .inr ⟨p,op,f1,f _ _ n1 gz,f _ _ c gp,n⟩
theorem zX(D:ZipApart z T O i j a b){Q:Option Value->Shared->Prop}(gz:Zs s.heap z T O i j)(gT:IsPair s.heap T (.ref i) (.ref j))(gi:It t s.heap i a k)(gj:It t2 s.heap j b k)
  (ga:Sq t s.heap a xs) (gb:Sq t2 s.heap b ys) (ex:xs[k]?=some x) (ey:ys[k]?=some y)
  (q:∀h',Zs h' z T O i j->It t h' i a (k+1)->It t2 h' j b (k+1)->IsPair h' s.heap.objs.size x y->Zp.Rest z O i j s.heap h'->Q (some (.ref s.heap.objs.size)) {s with heap:=h'}):
  wpAny (model prog w) A (pyNext (.ref z)) Q E s:=by
 unfold pyNext
 have lt:∀{c o},s.heap.get? c=some o->s.heap.objs.size≠c:=fun e=>Nat.ne_of_gt (Heap.lt_size e)
 obtain⟨oi,ei,_⟩:=gi.obj
 obtain⟨oj,ej,_⟩:=gj.obj
 rcases gz with⟨gz,u,v,gO⟩|⟨p,op,f1,gz,gp,p1,p2,p3,p4⟩
 ·have ty:s.TypeIs (.ref z) "zip":=⟨_,gz,rfl⟩
  exact wpAny_bind (wpAny_attempt (wpAny_callSpecial?_slot (name:=Str.ofString "__next__") ty F.slot_zip_next (wpAny_call_entry F.slot_zip_next ty F.entry_zip_next
   (item D gz gT gO gi gj ga gb ex ey fun h' a1 a2 a3 a4 a5 a6=>wpAny_pure (q h' (.inr ⟨_,_,_,a1,a5,lt gz,lt gO,lt ei,lt ej⟩) a3 a4 a5 a6)) (F.args_zip_next_1 _))))
 ·have ty:s.TypeIs (.ref z) "zip":=⟨_,gz,rfl⟩
  exact wpAny_bind (wpAny_attempt (wpAny_callSpecial?_slot (name:=Str.ofString "__next__") ty F.slot_zip_next (wpAny_call_entry F.slot_zip_next ty F.entry_zip_next
   (again D gz gp gT gi gj ga gb ex ey fun h' a1 a3 a4 a5 a6=>wpAny_pure (q h' (.inr ⟨p,op,_,a1,a6 _ _ p1 p2 p3 p4 gp,p1,p2,p3,p4⟩) a3 a4 a5 a6)) (F.args_zip_next_1 _))))
theorem vO(D:ZipApart z T O i j a b){Q:Option Value->Shared->Prop}(hA:A.handled=none)(gz:Zs s.heap z T O i j)(gT:IsPair s.heap T (.ref i) (.ref j))(gi:It t s.heap i a k)(ga:Sq t s.heap a xs)(ex:xs[k]?=none)
  (q:∀h',Zp.Rest z O i j s.heap h'->Q none {s with heap:=h'}):wpAny (model prog w) A (pyNext (.ref z)) Q E s:=by
 unfold pyNext
 rcases gz with⟨gz,u,v,gO⟩|⟨p,op,f1,gz,gp,_⟩
 ·have ty:s.TypeIs (.ref z) "zip":=⟨_,gz,rfl⟩
  exact wpAny_bind (wpAny_attempt (wpAny_callSpecial?_slot (name:=Str.ofString "__next__") ty F.slot_zip_next (wpAny_call_entry F.slot_zip_next ty F.entry_zip_next
   (stop D hA gz gT gi ga ex fun h' e r ⟨o,ho,hc⟩=>wpAny_bind (wpAny_isInstance (T:="StopIteration") (b:=true) ⟨o,ho,hc⟩ isSubtype_stop (wpAny_pure (q _ r)))) (F.args_zip_next_1 _))))
 ·have ty:s.TypeIs (.ref z) "zip":=⟨_,gz,rfl⟩
  exact wpAny_bind (wpAny_attempt (wpAny_callSpecial?_slot (name:=Str.ofString "__next__") ty F.slot_zip_next (wpAny_call_entry F.slot_zip_next ty F.entry_zip_next
   (Fe D hA gz gp gT gi ga ex fun h' e r ⟨o,ho,hc⟩=>wpAny_bind (wpAny_isInstance (T:="StopIteration") (b:=true) ⟨o,ho,hc⟩ isSubtype_stop (wpAny_pure (q _ r)))) (F.args_zip_next_1 _))))
end
def GX(t:Bool):String:=if t=true then "tuple_iterator" else "list_iterator"
abbrev H1(t:Bool)(h:Heap)(a:Addr):Heap:=h.push {cls:=.type (GX t),data:=.fields #[.ref a,.int 0 0]}
abbrev H2(t t2:Bool)(h:Heap)(a b:Addr):Heap:=(H1 t h a).push {cls:=.type (GX t2),data:=.fields #[.ref b,.int 0 0]}
abbrev H3(t t2:Bool)(h:Heap)(a b:Addr):Heap:=(H2 t t2 h a b).push {cls:=.type "tuple",data:=.seq #[.ref h.objs.size,.ref (H1 t h a).objs.size]}
abbrev H4(t t2:Bool)(h:Heap)(a b:Addr):Heap:=(H3 t t2 h a b).push {cls:=.type "tuple",data:=.seq #[.none,.none]}
abbrev H5(t t2:Bool)(h:Heap)(a b:Addr):Heap:=(H4 t t2 h a b).push {cls:=.type "zip",data:=.fields #[.none,.bool false,.bool false,.ref (H2 t t2 h a b).objs.size,.ref (H3 t t2 h a b).objs.size]}
theorem Sq.push{t:Bool}{h:Heap}{a:Addr}{xs:Array Value}(g:Sq t h a xs)(o:Obj):Sq t (h.push o) a xs:=g.at fun _ e=>Heap.get?_push_of_some _ e
theorem zo(t t2:Bool)(a b:Addr)(xs ys:Array Value):Meets (Builtin.«zip.__new__» ⟨[.type "zip",.ref a,.ref b],[]⟩) (fun _ R s=>Sq t s.heap a xs/\Sq t2 s.heap b ys/\R (.ok (.ret (.ref (H4 t t2 s.heap a b).objs.size))) {s with heap:=H5 t t2 s.heap a b}):=
 .of_wp fun prog w A R s h=>by
  obtain⟨hp,g,d,tk,os⟩:=s
  obtain⟨ga,gb,h⟩:=h
  have sub:=sub_zip
  have gb':=gb.push {cls:=.type (GX t),data:=.fields #[.ref a,.int 0 0]}
  cases t <;>cases t2
  ·have la:Heap.IsList (Shared.heap ⟨hp,g,d,tk,os⟩) a xs:=ga
   have lb:Heap.IsList (Shared.heap ⟨hp.push {cls:=.type "list_iterator",data:=.fields #[.ref a,.int 0 0]},g,d,tk,os⟩) b ys:=gb'
   wp_walk using wpAny_pyIter_list la,wpAny_pyIter_list lb
   exact⟨_,rfl,h⟩
  ·have la:Heap.IsList (Shared.heap ⟨hp,g,d,tk,os⟩) a xs:=ga
   have lb:Heap.IsTuple (Shared.heap ⟨hp.push {cls:=.type "list_iterator",data:=.fields #[.ref a,.int 0 0]},g,d,tk,os⟩) b ys:=gb'
   wp_walk using wpAny_pyIter_list la,wpAny_pyIter_tuple lb
   exact⟨_,rfl,h⟩
  ·have la:Heap.IsTuple (Shared.heap ⟨hp,g,d,tk,os⟩) a xs:=ga
   have lb:Heap.IsList (Shared.heap ⟨hp.push {cls:=.type "tuple_iterator",data:=.fields #[.ref a,.int 0 0]},g,d,tk,os⟩) b ys:=gb'
   wp_walk using wpAny_pyIter_tuple la,wpAny_pyIter_list lb
   exact⟨_,rfl,h⟩
  ·have la:Heap.IsTuple (Shared.heap ⟨hp,g,d,tk,os⟩) a xs:=ga
   have lb:Heap.IsTuple (Shared.heap ⟨hp.push {cls:=.type "tuple_iterator",data:=.fields #[.ref a,.int 0 0]},g,d,tk,os⟩) b ys:=gb'
   wp_walk using wpAny_pyIter_tuple la,wpAny_pyIter_tuple lb
   exact⟨_,rfl,h⟩
section
variable{prog:Program}{w:World}{A:Around}{E:Value->Shared->Prop}{s:Shared}
theorem C_{t t2:Bool}{a b:Addr}{xs ys:Array Value}{Q:Value->Shared->Prop}(ga:Sq t s.heap a xs)(gb:Sq t2 s.heap b ys)
  (q:∀h',qD h' (s.heap.objs.size+4) (s.heap.objs.size+2) (s.heap.objs.size+3) .none (.bool false)->IsPair h' (s.heap.objs.size+2) (.ref s.heap.objs.size) (.ref (s.heap.objs.size+1))->IsPair h' (s.heap.objs.size+3) .none .none→
   It t h' s.heap.objs.size a 0->It t2 h' (s.heap.objs.size+1) b 0->(∀c o,s.heap.get? c=some o->h'.get? c=some o)->Q (.ref (s.heap.objs.size+4)) {s with heap:=h'}):
  wpAny (model prog w) A (call (.type "zip") [.ref a,.ref b]) Q E s:=by
 refine callType_new F.called_zip (by decide) (F.typeCall_zip_2 _ _) (F.newCall_zip_2 _ _) (fun obj=>F.args_object_init_3 obj _ _) F.entry_zip_new (zo t t2 a b xs ys) ⟨ga,gb,?_⟩
 have e1:(H1 t s.heap a).objs.size=s.heap.objs.size+1:=Heap.size_push ..
 have e2:(H2 t t2 s.heap a b).objs.size=s.heap.objs.size+2:=by rw[Heap.size_push,e1]
 have e3:(H3 t t2 s.heap a b).objs.size=s.heap.objs.size+3:=by rw[Heap.size_push,e2]
 have e4:(H4 t t2 s.heap a b).objs.size=s.heap.objs.size+4:=by rw[Heap.size_push,e3]
 have k5:(H5 t t2 s.heap a b).get? (H4 t t2 s.heap a b).objs.size=some _:=Heap.get?_push_size _ rfl
 have k4:(H5 t t2 s.heap a b).get? (H3 t t2 s.heap a b).objs.size=some _:=Heap.get?_push_of_some _ (Heap.get?_push_size _ rfl)
 have k3:(H5 t t2 s.heap a b).get? (H2 t t2 s.heap a b).objs.size=some _:=Heap.get?_push_of_some _ (Heap.get?_push_of_some _ (Heap.get?_push_size _ rfl))
 have k2:(H5 t t2 s.heap a b).get? (H1 t s.heap a).objs.size=some _:=Heap.get?_push_of_some _ (Heap.get?_push_of_some _ (Heap.get?_push_of_some _ (Heap.get?_push_size _ rfl)))
 have k1:(H5 t t2 s.heap a b).get? s.heap.objs.size=some _:=Heap.get?_push_of_some _ (Heap.get?_push_of_some _ (Heap.get?_push_of_some _ (Heap.get?_push_of_some _ (Heap.get?_push_size _ rfl))))
 refine(?_:_/\_)
 rw[e2,e3,e4] at k5
 rw[e1,e2] at k3
 rw[e3] at k4
 rw[e1] at k2
 rw[e4]
 refine⟨⟨_,k5,rfl⟩,q _ k5 k3 k4 ?_ ?_ fun c o n=>Heap.get?_push_of_some _ (Heap.get?_push_of_some _ (Heap.get?_push_of_some _ (Heap.get?_push_of_some _ (Heap.get?_push_of_some _ n))))⟩
 ·cases t <;>exact⟨_,k1,rfl,rfl⟩
 ·cases t2 <;>exact⟨_,k2,rfl,rfl⟩
end
theorem mD:typeLookup (.type "zip") "__getattr__"=pure none:=by rw[typeLookup_type,builtinLookup_eq_fast];kernel_rfl
theorem iU:entryFor table "zip.__getattribute__"=some Builtin.«object.__getattribute__»:=
 entryFor_alias (id':="object.__getattribute__") (by kernel_rfl) (by decide +kernel) (by decide +kernel) (by kernel_rfl)
theorem nZ:typeLookup (Value.type "zip") (Str.ofString "keys")=pure none:=by
 rw[typeLookup_type,builtinLookup_eq_fast]
 rfl
theorem qc(a:Addr)(fs:Array Value)(name:Str)(u:Tok)(hmiss:typeLookup (.type "zip") name=pure none)(hname:(["__module__","__name__","__qualname__","__doc__","__annotations__"]:List Str).contains name=false)(hsz:name.length+100<=sizeLine:=by size_fits):
  Meets (Builtin.«object.__getattribute__» ⟨[.ref a,.str name u],[]⟩) (fun A R s=>s.heap.get? a=some {cls:=.type "zip",dict:=none,data:=.fields fs,slots:= #[]}/\raisesAttr (.ref a) name A R s):=
 Meets.of_wp fun prog w A R s hs=>by
  obtain⟨hp,g,d,tk,os⟩:=s
  obtain⟨hx,hs⟩:=hs
  have hT:(⟨hp,g,d,tk,os⟩:Shared).TypeIs (.ref a) "zip":=⟨_,hx,rfl⟩
  unfold Builtin.«object.__getattribute__»
  repeat (any_goals (first|assumption|wp_step))
  simp only[hname,Bool.false_eq_true,if_false]
  repeat (any_goals (first|assumption|wp_step))
  exact wpAny_raiseAttrError hs.1 hs.2 (attrMsg_fits (by decide +kernel) hsz)
theorem zB{prog:Program}{w:World}{A:Around}{E:Value->Shared->Prop}{s:Shared}{a:Addr}{fs:Array Value}{Q:Option Value->Shared->Prop}
  (hx:s.heap.get? a=some {cls:=.type "zip",dict:=none,data:=.fields fs,slots:= #[]}) (hA:A.handled=none)
  (h:∀(h':Heap) (tk:Nat),(∀b o,s.heap.get? b=some o->h'.get? b=some o)->Q none {s with heap:=h',toks:=tk}):
  wpAny (model prog w) A (getAttr? (.ref a) (Str.ofString "keys")) Q E s:=by
 obtain⟨hp,g,d,tk,os⟩:=s
 have hT:∀x,Shared.TypeIs ⟨hp,g,d,x,os⟩ (.ref a) "zip":=fun x=>⟨_,hx,rfl⟩
 have f1:=sub_AttributeError
 have f3:=F.slot_zip_getattribute.lookup
 have f4:=F.slot_zip_getattribute.bind (Value.ref a)
 have f5:=mD
 unfold getAttr? mkText getAttrBy? getAttrBy
 refine wpAny_bind (wpAny_bind (wpAny_fresh' (wpAny_pure (wpAny_bind (wpAny_attempt (wpAny_holding ?_))))))
 unfold typeOf
 refine wpAny_bind (wpAny_bind (wpAny_loadPart' hx (wpAny_pure (wpAny_bind (wpAny_of_eq f3 (wpAny_ite_false rfl ?_))))))
 unfold getAttrByItsOwn hookBefore
 refine wpAny_bind (wpAny_ite_false rfl (wpAny_pure (wpAny_bind (wpAny_attempt (wpAny_holding ?_)))))
 unfold callGetattribute
 refine wpAny_ite_false rfl ?_
 unfold boundAndCalled
 refine wpAny_bind (wpAny_of_eq f4 ?_)
 refine call_meets F.slot_zip_getattribute (hT (tk+1)) iU (F.args_zip_getattribute_2 (Value.ref a) _) (qc a fs (Str.ofString "keys") tk nZ (by decide +kernel) (by decide +kernel)) ⟨hx,hA,fun h' tk' e hx'=> ?_⟩
 obtain⟨t',u',he⟩:=hx'.there
 have hE:Shared.TypeIs ⟨h',g,d,tk',os⟩ (.ref e) "AttributeError":=⟨_,he,rfl⟩
 show wpAny _ _ (getattributeRaised _ _ _ _ _ _ _) _ _ _
 unfold getattributeRaised
 refine wpAny_bind (wpAny_isInstance hE f1 (wpAny_ite_true rfl ?_))
 unfold hookBehind hookOrError
 refine wpAny_bind (wpAny_ite_false rfl (wpAny_of_eq f5 ?_))
 show wpAny _ _ (attributeErrorLeaves _ _ _ _ _) _ _ _
 unfold attributeErrorLeaves
 refine wpAny_ite_true rfl (wpAny_throw ?_)
 exact wpAny_bind (wpAny_isInstance hE f1 (wpAny_ite_true rfl (wpAny_pure (h h' tk' hx'.keeps))))
theorem qW{prog:Program}{w:World}{A:Around}{E:Value->Shared->Prop}{s:Shared}{z:Addr}{fs:Array Value}{Q:Value->Shared->Prop}
  (hx:s.heap.get? z=some {cls:=.type "zip",dict:=none,data:=.fields fs,slots:= #[]}) (hA:A.handled=none)
  (h:∀(h':Heap) (tk:Nat),(∀b o,(s.heap.push {cls:=.type "dict",data:=.dict #[]}).get? b=some o->h'.get? b=some o)→
   wpAny (model prog w) A.in1.in1 (pyIter (.ref z)) (fun it s'=>codeAny (model prog w) A.in1 (.builtin "dict.update.loop" {pos:= [.ref s.heap.objs.size,it,rawInt 0,.none]}) (wants (fun r s₂=>r=.none/\Q (.ref s.heap.objs.size) s₂) E) s') E {s with heap:=h',toks:=tk}):
  wpAny (model prog w) A (call (.type "dict") [.ref z]) Q E s:=by
 refine Dk.u5 ?_
 have hS:=Heap.get?_push_size s.heap (o:={cls:=.type "dict",data:=.dict #[]}) rfl
 have hT:Shared.TypeIs {s with heap:=s.heap.push {cls:=.type "dict",data:=.dict #[]}} (.ref s.heap.objs.size) "dict":=⟨_,hS,rfl⟩
 have hx1:=Heap.get?_push_of_some {cls:=.type "dict",data:=.dict #[]} hx
 have hL:Shared.TypeIs {s with heap:=s.heap.push {cls:=.type "dict",data:=.dict #[]}} (.ref z) "zip":=⟨_,hx1,rfl⟩
 unfold Builtin.«dict.__init__» Builtin.Dict.selfAndRest
 refine wpAny_bind (wpAny_bind (wpAny_notOrdered_dict hT ?_))
 refine wpAny_bind (wpAny_pure (wpAny_pure ?_))
 show wpAny _ _ (Builtin.Dict.updateFrom _ _ _ _ _) _ _ _
 unfold Builtin.Dict.updateFrom
 refine wpAny_bind (wpAny_typeOf hL (wpAny_ite_true (by decide +kernel) (wpAny_bind (zB hx1 (by simpa using hA) fun h' tk hk=> ?_))))
 refine wpAny_ite_true rfl ?_
 refine wpAny_bind (wpAny_rule (wpAny_bind (wpAny_mono (h h' tk hk) (fun it s' q=> ?_) fun e s' q=>q)))
 exact wpAny_pure ⟨plainId_quiet (by decide +kernel) _,q⟩
end Zq
namespace Zq
open PySem Dk
section
variable{prog:Program}{w:World}{K:Type}[DecidableEq K]{knd:KeyKind prog w K}{z T O i j a b S:Addr}{t t2:Bool}{xs ys:Array Value}
theorem xc{A:Around}{R:Result->Shared->Prop}(hA:A.in1.handled=none)(D:ZipApart z T O i j a b)(nS:S≠z/\S≠T/\S≠O/\S≠i/\S≠j/\S≠a/\S≠b)(nab:a≠T/\b≠T)(kk:Nat->K)(hkey:∀(n:Nat) v,xs[n]?=some v->knd.is (kk n) v=true)(hxy:xs.size<=ys.size)(hn:xs.size<=sizeLine):
  ∀ (m n:Nat) (c:Int) (s:Shared),xs.size-n=m->n<=xs.size->Zs s.heap z T O i j->IsPair s.heap T (.ref i) (.ref j)->It t s.heap i a n->It t2 s.heap j b n->Sq t s.heap a xs->Sq t2 s.heap b ys->Heap.DictOf knd s.heap S (Ef kk (fun n=>ys.getD n .none) n)→
    (∀h' tk,Heap.DictOf knd h' S (Ef kk (fun n=>ys.getD n .none) xs.size)->(∀c o,c≠z->c≠O->c≠i->c≠j->c≠S->s.heap.get? c=some o->h'.get? c=some o)->R (.ok (.ret .none)) {s with heap:=h',toks:=tk})→
    codeAny (model prog w) A (.builtin "dict.update.loop" {pos:= [.ref S,.ref z,rawInt c,.none]}) R s:=by
 obtain⟨n1,n2,n3,n4,n5,n6,n7⟩:=nS
 intro m
 induction m with
 | zero=>
   intro n c s hm hle gz gT gi gj ga gb hd h
   have e:n=xs.size:=by omega
   subst e
   refine codeAny_builtin iY ?_
   rw[Around.under_plainId fA]
   show wpAny _ _ (do let __x←pyNext (.ref z);_) _ _ _
   refine wpAny_bind (vO D hA gz gT gi ga (by simp) fun h' r=> ?_)
   refine wpAny_bind (wpAny_pure (wpAny_pure (h h' s.toks ?_ fun c o c1 c2 c3 c4 _ e=>r c o c1 c2 c3 c4 e)))
   obtain⟨o,es,ep,h1,h2⟩:=hd
   exact⟨o,es,ep,r _ _ n1 n3 n4 n5 h1,h2⟩
 | succ m ih=>
   intro n c s hm hle gz gT gi gj ga gb hd h
   have hlt:n<xs.size:=by omega
   have ex:xs[n]?=some xs[n]:=by simp[hlt]
   have ey:ys[n]?=some ys[n]:=by simp[show n<ys.size by omega]
   refine codeAny_builtin iY ?_
   rw[Around.under_plainId fA]
   show wpAny _ _ (do let __x←pyNext (.ref z);_) _ _ _
   refine wpAny_bind (zX D gz gT gi gj ga gb ex ey fun hp gz' gi' gj' gp r=> ?_)
   have hd':Heap.DictOf knd hp S (Ef kk (fun n=>ys.getD n .none) n):=by
     obtain⟨o,es,ep,h1,h2⟩:=hd
     exact⟨o,es,ep,r _ _ n1 n3 n4 n5 h1,h2⟩
   refine wpAny_bind (wpAny_holding (wpAny_bind (wpAny_tryCatch ?_)))
   unfold Builtin.Dict.pairItems
   refine wpAny_bind (wpAny_typeOf (T:="tuple") ⟨_,gp,rfl⟩ (wpAny_ite_true rfl (wpAny_bind ?_)))
   unfold seqItems?
   refine wpAny_bind (wpAny_load' gp (wpAny_pure (wpAny_pure (wpAny_holding (wpAny_dictSet_pairs (hkey n _ ex) hd' (fun h' hd2 hs=> ?_) (Nat.le_trans (yi kk _ n) (by omega)))))))
   have ev:ys.getD n .none=ys[n]:=by simp[Array.getD,show n<ys.size by omega]
   have up:∀c o,c≠S->hp.get? c=some o->h'.get? c=some o:=fun c o hc e=>by rw[hs.2 c hc];exact e
   have old:∀c o,c≠z->c≠O->c≠i->c≠j->c≠S->s.heap.get? c=some o->h'.get? c=some o:=fun c o c1 c2 c3 c4 c5 e=>up c o c5 (r c o c1 c2 c3 c4 e)
   have hS':∃o,h'.get? S=some o:=by obtain⟨o,_,_,e,_⟩:=hd2;exact⟨o,e⟩
   have hd3:Heap.DictOf knd h' S (Ef kk (fun n=>ys.getD n .none) (n+1)):=by
     show Heap.DictOf knd h' S (stored _ (kk n) (ys.getD n .none))
     rw[ev]
     exact hd2
   refine wpAny_pure ⟨plainId_quiet fA _,ih (n+1) (c+1) _ (by omega) hlt (gz'.but up n1.symm n3.symm hS') ?_ (gi'.at fun o e=>up _ o n4.symm e) (gj'.at fun o e=>up _ o n5.symm e) ?_ ?_ hd3 fun h'' tk hd4 k4=>h h'' tk hd4 fun c o c1 c2 c3 c4 c5 e=>k4 c o c1 c2 c3 c4 c5 (old c o c1 c2 c3 c4 c5 e)⟩
   · exact old _ _ D.TIz D.TITO D.TIi1 D.TIi2 n2.symm gT
   · exact ga.at fun o e=>old _ o D.l1z D.l1TO D.l1i1 D.l1i2 n6.symm e
   · exact gb.at fun o e=>old _ o D.l2z D.l2TO D.l2i1 D.l2i2 n7.symm e
end
end Zq
namespace L2
open PySem PySem.Spec PyProof.Rows Zq
section
variable{X:Cx}
def y_(K:PySem.W.Frag)(t:Bool)(H:Hp)(a:Addr)(xs:List V):Prop:=if t=true then gD K H a xs else gX K H a xs
theorem Inv.sq{pins:List (Addr×Obj)}{σ:St}{H:Hp}{s:Shared}{t:Bool}{a:Addr}{xs:List V}(I:Inv X pins σ H s)(h:y_ X.K t H a xs):∃its:List Value,bt xs its/\Sq t s.heap a its.toArray/\xs.length<=sizeLine:=by
 cases t with
 | true=>
   obtain⟨its,r,p,z⟩:=I.tuple h
   exact⟨its,r,(show s.heap.IsTuple a its.toArray from p),z⟩
 | false=>
   obtain⟨its,r,p,z⟩:=I.list h
   exact⟨its,r,(show s.heap.IsList a its.toArray from p.isList),z⟩
theorem Sq.lt{t:Bool}{h:Heap}{a:Addr}{xs:Array Value}(g:Sq t h a xs):a<h.objs.size:=by
 cases t with
 |true=>obtain⟨o,e,_⟩:=(show h.IsTuple a xs from g);exact Heap.lt_size e
 |false=>obtain⟨o,e,_⟩:=(show h.IsList a xs from g);exact Heap.lt_size e
def Ek(K:PySem.W.Frag):List V->Hp->VK->Prop:=fun vs H Q=>∃(t t2:Bool) (a b:Addr) (ks:List Key) (ys:List V),vs= [.ref a,.ref b]/\y_ K t H a (ks.map kV)/\y_ K t2 H b ys/\ks.length=ys.length/\∀p,H p=none->Q (.ref p) (upd H p (.dK (iX [] (ks.zip ys))))
theorem xo{x y:Expr}{ta:TA}{p1 p2 c1 c2:Pos}(hc:X.calm=true)(hgD:Gl X "dict")(hmD:X.mg "dict"=none)(hg:Gl X "zip")(hm:X.mg "zip"=none)(ha:PA X [x,y] ta)(hs:starEach [x,y] X.env= [(false,eval x X.env),(false,eval y X.env)]:=by rfl)(hs2:starEach [y] X.env= [(false,eval y X.env)]:=by rfl)
  (he:starEach [Expr.Call (.Name "zip" p2) [x,y] [] c2] X.env= [(false,eval (Expr.Call (.Name "zip" p2) [x,y] [] c2) X.env)]:=by rfl):
  PE X (.Call (.Name "dict" p1) [.Call (.Name "zip" p2) [x,y] [] c2] [] c1) (Gy (Ek X.K) ta):=by
 intro pins s σ H Q I h
 refine wpAny_Call_Name_kw (kO I hgD hmD (by rfl) ?_)
 refine PyProof.Rows.callWith_type1 ?_ he rfl
 rw[he]
 show wpAny _ _ (spliced ((false,eval (Expr.Call (.Name "zip" p2) [x,y] [] c2) X.env)::backTo c1 (starEach [] X.env))) _ _ s
 refine Calls.spliced_cons ?_
 refine wpAny_Call_Name_kw (kO I hg hm (by rfl) ?_)
 refine PyProof.Rows.callWith_type1 (cz (ha c2 pins s σ H _ I h) fun us s1 ⟨vs,H1,I1,r1,q1⟩=> ?_) (by rw[hs,hs2]) (by rw[hs2];rfl)
 obtain⟨t,t2,a,b,ks,ys,e,qa,qb,hl,q⟩:=q1
 subst e
 cases r1 with
 | cons r rr=>
   cases rr with
   | cons r' rr=>
     cases rr
     cases r
     cases r'
     obtain⟨its,ra,pa,za⟩:=I1.sq qa
     obtain⟨jts,rb,pb,zb⟩:=I1.sq qb
     have lx:=Sq.lt pa
     have ly:=Sq.lt pb
     have la:=ra.length
     have lb:=rb.length
     rw[lQm] at la
     refine Zq.C_ pa pb fun h1 gz gT gO gi gj k1=>Calls.spliced_nil ?_
     have I2:Inv X pins σ H1 {s1 with heap:=h1}:=I1.kept (t':=s1.toks) k1
     refine Zq.qW gz (I1.ok.hd hc) fun h2 tk k2=> ?_
     have up:∀c o,h1.get? c=some o->h2.get? c=some o:=fun c o e=>k2 c o (Heap.get?_push_of_some _ e)
     have hS0:h2.get? h1.objs.size=some {cls:=.type "dict",data:=.dict #[]}:=k2 _ _ (Heap.get?_push_size h1 rfl)
     refine wpAny_pyIter_zip (up _ _ gz) ?_
     have DD:=PyProof.Rows.zipApart_new lx ly
     have hz1:s1.heap.objs.size+4<h1.objs.size:=Heap.lt_size gz
     have kvD:∀(n:Nat) k,ks[n]?=some k->ks.getD n (.inl 0)=k:=fun n k e=>by rw[List.getD_eq_getElem?_getD,e];rfl
     have off:∀c,c<s1.heap.objs.size->c≠s1.heap.objs.size+4/\c≠s1.heap.objs.size+3/\c≠s1.heap.objs.size/\c≠s1.heap.objs.size+1/\c≠h1.objs.size:=fun c hc=>
       ⟨Nat.ne_of_lt (Nat.lt_of_lt_of_le hc (Nat.le_add_right _ _)),Nat.ne_of_lt (Nat.lt_of_lt_of_le hc (Nat.le_add_right _ _)),Nat.ne_of_lt hc,Nat.ne_of_lt (Nat.lt_of_lt_of_le hc (Nat.le_add_right _ _)),Nat.ne_of_lt (Nat.lt_trans (Nat.lt_of_lt_of_le hc (Nat.le_add_right _ 4)) hz1)⟩
     refine Zq.xc (knd:=bF X.prog X.w) (t:=t) (t2:=t2) (xs:=its.toArray) (ys:=jts.toArray) (show X.A.in1.in1.handled=none from I1.ok.hd hc) DD ?_ ?_ (fun n=>ks.getD n (.inl 0)) ?_ (by simp;omega) (by simp;omega) its.toArray.size 0 0 _ rfl (Nat.zero_le _)
       (.inl ⟨up _ _ gz,_,_,up _ _ gO⟩) (up _ _ gT) (gi.at fun o e=>up _ o e) (gj.at fun o e=>up _ o e) (pa.at fun o e=>up _ o (k1 _ o e)) (pb.at fun o e=>up _ o (k1 _ o e)) ?_ ?_
     · refine⟨Nat.ne_of_gt hz1,Nat.ne_of_gt (Nat.lt_trans ?_ hz1),Nat.ne_of_gt (Nat.lt_trans ?_ hz1),Nat.ne_of_gt (Nat.lt_trans ?_ hz1),Nat.ne_of_gt (Nat.lt_trans ?_ hz1),(off _ lx).2.2.2.2.symm,(off _ ly).2.2.2.2.symm⟩ <;>(show _<s1.heap.objs.size+4) <;>omega
     · exact⟨Nat.ne_of_lt (Nat.lt_of_lt_of_le lx (Nat.le_add_right _ _)),Nat.ne_of_lt (Nat.lt_of_lt_of_le ly (Nat.le_add_right _ _))⟩
     · intro n v hv
       have hv':its[n]?=some v:=by simpa using hv
       have hn:n<ks.length:=by
         have:=(gQs.mp hv').1
         omega
       have hk:=gQe hn
       obtain⟨u,hu,ru⟩:=ra.get (i:=n) (x:=kV ks[n]) (by rw[gQm,hk];rfl)
       rw[hv'] at hu
       cases hu
       show(bF X.prog X.w).is (ks.getD n (.inl 0)) v=true
       rw[kvD n _ hk]
       exact key_is ru _ _
     · obtain⟨o,es,ep,e1,e2⟩:=Heap.DictOf.new (knd:=bF X.prog X.w) h1
       exact⟨o,es,ep,k2 _ _ e1,e2⟩
     · intro h3 tk3 dd k3
       have big:h1.objs.size≠sysModules:=by
         have:=I2.big
         exact Nat.ne_of_gt this
       have le:s1.heap.objs.size<=h1.objs.size:=nQl (Nat.lt_of_le_of_lt (Nat.le_add_right _ 4) hz1)
       refine⟨rfl,.ref h1.objs.size,_,I1.laid (a:=h1.objs.size) (o:=.dK (iX [] (ks.zip ys))) (t':=tk3) (h':=h3) (fun c o e=> ?_) le (pD ?_ (beq_eq_false_iff_ne.mpr big) ?_ dd),rfl,q _ (I1.hok.fresh le)⟩
       · obtain⟨o1,o2,o3,o4,o5⟩:=off c (Heap.lt_size e)
         exact k3 c o o1 o2 o3 o4 o5 (up c o (k1 c o e))
       · have:=gW (ks.zip ys) []
         rw[List.length_nil,List.length_zip] at this
         omega
       · have key:∀n,n<=ks.length->KV (iX [] ((ks.zip ys).take n)) (Dk.Ef (fun n=>ks.getD n (.inl 0)) (fun n=>jts.toArray.getD n .none) n):=by
           intro n
           induction n with
           |zero=>intro _;exact .nil
           | succ n ih=>
             intro hn
             have hk:=gQe (l:=ks) (i:=n) (by omega)
             have hy:=gQe (l:=ys) (i:=n) (by omega)
             obtain⟨u,hu,ru⟩:=rb.get hy
             have ez:(ks.zip ys)[n]?=some (ks[n],ys[n]):=by rw[List.getElem?_zip_eq_some];exact⟨hk,hy⟩
             have e3:(ks.zip ys).take (n+1)=(ks.zip ys).take n++ [(ks[n],ys[n])]:=by rw[List.take_add_one,ez];rfl
             have eu:jts.toArray.getD n .none=u:=by
               have:=(gQs.mp hu)
               obtain⟨h1,h2⟩:=this
               simp[Array.getD,h1,h2]
             rw[e3]
             show KV (List.foldl _ [] ((ks.zip ys).take n++ [(ks[n],ys[n])])) (stored _ (ks.getD n (.inl 0)) (jts.toArray.getD n .none))
             rw[List.foldl_append,kvD n _ hk,eu]
             exact(ih (by omega)).put ks[n] ru
         have:=key ks.length (Nat.le_refl _)
         have e4:(ks.zip ys).take ks.length=ks.zip ys:=by
           have:(ks.zip ys).length=ks.length:=by rw[List.length_zip];omega
           rw[←this,List.take_length]
         rw[e4] at this
         have e5:its.toArray.size=ks.length:=by simp;omega
         rw[e5]
         exact this
end
end L2
namespace Zq
open PySem
section
variable{prog:Program}{w:World}{A:Around}{E:Value->Shared->Prop}{s:Shared}{t t2:Bool}{z T O i j a b:Addr}{k:Nat}{xs ys:Array Value}{x y u v:Value}
theorem yZ(D:ZipApart z T O i j a b){Q:Option Value->Shared->Prop}(gz:qD s.heap z T O .none (.bool false))(gT:IsPair s.heap T (.ref i) (.ref j))(gO:IsPair s.heap O u v)(gi:It t s.heap i a k)(gj:It t2 s.heap j b k)
  (ga:Sq t s.heap a xs) (gb:Sq t2 s.heap b ys) (ex:xs[k]?=some x) (ey:ys[k]?=some y)
  (q:∀h',qD h' z T O (rawInt s.heap.objs.size) (.bool false)->IsPair h' O x y->It t h' i a (k+1)->It t2 h' j b (k+1)->IsPair h' s.heap.objs.size x y->Zp.Rest z O i j s.heap h'->Q (some (.ref s.heap.objs.size)) {s with heap:=h'}):
  wpAny (model prog w) A (pyNext (.ref z)) Q E s:=by
 have ty:s.TypeIs (.ref z) "zip":=⟨_,gz,rfl⟩
 unfold pyNext
 exact wpAny_bind (wpAny_attempt (wpAny_callSpecial?_slot (name:=Str.ofString "__next__") ty F.slot_zip_next (wpAny_call_entry F.slot_zip_next ty F.entry_zip_next
  (item D gz gT gO gi gj ga gb ex ey fun h' a1 a2 a3 a4 a5 a6=>wpAny_pure (q h' a1 a2 a3 a4 a5 a6)) (F.args_zip_next_1 _))))
end
end Zq
namespace L2
open PySem PySem.Spec PyProof.Rows Zq
theorem Inv.sq_inj{X:Cx}{pins:List (Addr×Obj)}{σ:St}{H:Hp}{s:Shared}{t:Bool}{a:Addr}{xs ys:List V}(I:Inv X pins σ H s)(h:y_ X.K t H a xs)(h':y_ X.K t H a ys):xs=ys:=by
 cases t with
 |true=>exact I.tuple_inj h h'
 |false=>exact I.list_inj h h'
def Hq(K:PySem.W.Frag)(t t2:Bool)(a b:Addr):It:=
  ⟨fun i H=>∃xs ys x y,y_ K t H a xs/\y_ K t2 H b ys/\xs[i]?=some x/\ys[i]?=some y,
   fun i H v H'=>∃p,v=.ref p/\H p=none/\∀xs ys x y,y_ K t H a xs->y_ K t2 H b ys->xs[i]?=some x->ys[i]?=some y->H'=upd H p (.tup [x,y]),
   fun i H=>∃xs,y_ K t H a xs/\xs.length<=i⟩
theorem y0{P:Program}{w:World}{K:PySem.W.Frag}{elts:List Expr}{x1:Nat}{tp:Pos}{t t2:Bool}{z T O i j a b:Addr}(D:ZipApart z T O i j a b):
  Turn P w K (.Tuple elts x1 tp) (Hq K t t2 a b) [z,T,O,i,j] z (fun n h=>qD h z T O .none (.bool false)/\IsPair h T (.ref i) (.ref j)/\(∃u v,IsPair h O u v)/\Zq.It t h i a n/\Zq.It t2 h j b n) where
 mem:=by simp
 obj:=fun n h ⟨gz,gT,⟨u,v,gO⟩,gi,gj⟩ c hc=>by
  simp at hc
  rcases hc with rfl|rfl|rfl|rfl|rfl
  ·exact⟨_,gz,fun v n=>by cases n⟩
  ·exact⟨_,gT,fun v n=>by cases n⟩
  ·exact⟨_,gO,fun v n=>by cases n⟩
  ·exact gi.obj
  ·exact gj.obj
 keep:=fun n h h' ⟨gz,gT,⟨u,v,gO⟩,gi,gj⟩ k=>⟨k z (by simp) _ gz,k T (by simp) _ gT,⟨u,v,k O (by simp) _ gO⟩,gi.at fun o e=>k i (by simp) o e,gj.at fun o e=>k j (by simp) o e⟩
 item:=by
  rintro X hP hw hK hc n pins s σ H E I hf ⟨gz,gT,⟨u,v,gO⟩,gi,gj⟩ hg
  subst hP hw hK
  obtain⟨xs,ys,x,y,qa,qb,hx,hy⟩:=hg
  obtain⟨its,ra,pa,_⟩:=I.sq qa
  obtain⟨jts,rb,pb,_⟩:=I.sq qb
  obtain⟨ux,ex,rx⟩:=ra.get hx
  obtain⟨uy,ey,ry⟩:=rb.get hy
  have lt:∀{c o},s.heap.get? c=some o->c≠s.heap.objs.size:=fun e=>Nat.ne_of_lt (Heap.lt_size e)
  have nfp:∀c∈[z,T,O,i,j],c≠s.heap.objs.size:=fun c hc=>by
   obtain⟨oi,e1,_⟩:=gi.obj
   obtain⟨oj,e2,_⟩:=gj.obj
   simp at hc
   rcases hc with rfl|rfl|rfl|rfl|rfl
   ·exact lt gz
   ·exact lt gT
   ·exact lt gO
   ·exact lt e1
   ·exact lt e2
  refine Zq.yZ D gz gT gO gi gj pa pb (x:=ux) (y:=uy) (by simpa using ex) (by simpa using ey) fun h1 z1 O1 i1 j1 n1 r1=>⟨_,rfl,?_⟩
  have T1:=r1 _ _ D.TIz D.TITO D.TIi1 D.TIi2 gT
  refine wpAny_letOwnedTupleGo_zip z1 fun h2 z2 b2=> ?_
  have I2:Inv X pins σ (upd H s.heap.objs.size (.tup [x,y])) {s with heap:=h2}:=I.turnedNew (t':=s.toks) (fp:= [z,T,O,i,j]) hf (fun c o hc e=> ?_) (Nat.le_refl _) ?_
  ·refine⟨.ref s.heap.objs.size,_,I2,rfl,⟨s.heap.objs.size,rfl,I.hok.fresh (Nat.le_refl _),fun xs' ys' x' y' q1 q2 q3 q4=> ?_⟩,⟨z2,b2.extBut _ _ D.TIz T1,⟨_,_,b2.extBut _ _ D.TOz O1⟩,i1.ext b2.extBut D.i1z,j1.ext b2.extBut D.i2z⟩,fun c hc=> ?_⟩
   ·rw[I.sq_inj q1 qa] at q3
    rw[I.sq_inj q2 qb] at q4
    rw[hx] at q3
    rw[hy] at q4
    cases q3
    cases q4
    rfl
   ·rw[a_ (nfp c hc)]
    exact(hf c hc).1
  ·simp at hc
   exact b2.extBut _ _ hc.1 (r1 c o hc.1 hc.2.2.1 hc.2.2.2.1 hc.2.2.2.2 e)
  ·exact⟨by show 2<=sizeLine;decide,[ux,uy],.cons rx (.cons ry .nil),_,b2.extBut _ _ (fun e=>nfp z (by simp) e.symm) n1,rfl,rfl,0,rfl⟩
 done:=by
  rintro X hP hw hK hc n pins s σ H E I hf ⟨gz,gT,⟨u,v,gO⟩,gi,gj⟩ hg
  subst hP hw hK
  obtain⟨xs,qa,hx⟩:=hg
  obtain⟨its,ra,pa,_⟩:=I.sq qa
  have hl:=ra.length
  refine Zq.vO D (I.ok.hd hc) (.inl ⟨gz,u,v,gO⟩) gT gi pa (by simp;omega) fun h1 r1=>⟨rfl,I.turnedL (t':=s.toks) (fp:= [z,T,O,i,j]) hf fun c o hc e=> ?_⟩
  simp at hc
  exact r1 c o hc.1 hc.2.2.1 hc.2.2.2.1 hc.2.2.2.2 e
 self:=fun _ _ _ _ _ ⟨gz,_⟩ h=>wpAny_pyIter_zip gz h
section
variable{X:Cx}
def HJ(K:PySem.W.Frag)(ta:TA):TI:=fun σ H R=>ta σ H fun vs H1=>∃(t t2:Bool) (a b:Addr) (xs ys:List V),vs= [.ref a,.ref b]/\y_ K t H1 a xs/\y_ K t2 H1 b ys/\R (Hq K t t2 a b) H1
theorem BX{elts:List Expr}{x1:Nat}{tp:Pos}{a b:Expr}{ta:TA}{p pos:Pos}(hg:Gl X "zip")(hm:X.mg "zip"=none)(ha:PA X [a,b] ta)(hs:starEach [a,b] X.env= [(false,eval a X.env),(false,eval b X.env)]:=by rfl)(hs2:starEach [b] X.env= [(false,eval b X.env)]:=by rfl):
  PI X (.Tuple elts x1 tp) (.Call (.Name "zip" p) [a,b] [] pos) (HJ X.K ta):=by
 intro pins s σ H R I h
 refine Call_ (kO I hg hm (by rfl) (PyProof.Rows.callWith_type1 (cz (ha pos pins s σ H _ I h) fun us s1 ⟨vs,H1,I1,r1,q1⟩=> ?_) (by rw[hs,hs2]) (by rw[hs2];rfl)))
 obtain⟨t,t2,x,y,xs,ys,e,qa,qb,q⟩:=q1
 subst e
 cases r1 with
 | cons r rr=>
   cases rr with
   | cons r' rr=>
     cases rr
     cases r
     cases r'
     obtain⟨its,ra,pa,_⟩:=I1.sq qa
     obtain⟨jts,rb,pb,_⟩:=I1.sq qb
     have lx:=Sq.lt pa
     have ly:=Sq.lt pb
     refine Zq.C_ pa pb fun h' gz gT gO gi gj k=> ?_
     refine wpAny_pyIter_zip gz ⟨_,_,_,_,H1,rfl,I1.kept (t':=s1.toks) k,y0 (PyProof.Rows.zipApart_new lx ly),⟨gz,gT,⟨_,_,gO⟩,gi,gj⟩,fun c hc=> ?_,q⟩
     have hb:s1.heap.objs.size<=c:=by
       simp only[List.mem_cons,List.not_mem_nil,or_false] at hc
       rcases hc with e|e|e|e|e <;>(rw[e];first|exact Nat.le_refl _|exact Nat.le_add_right _ _)
     exact I1.fpOk hb (I1.hok.fresh hb)
end
end L2
namespace DL
open PySem PySem.Spec PyProof.Rows L2
theorem wC.sqB{M:Md}{ρ:List Addr}{H:Hp}{a:Addr}{vs:List V}{t:Tag}(h:wC M ρ H a vs t):L2.y_ M.K (!t.isL) H a vs:=by
 cases c:t.isL with
 |true=>exact h.sqL c
 |false=>exact h.sqT c
def vD(xs ys:List D):List D:=List.zipWith (fun x y=>D.tup [x,y]) xs ys
open Classical in
noncomputable def wq(f g:d_):vA:=fun Γ S=>(f Γ S).bind fun(p,S1)=>(g Γ S1).bind fun(r,S2)=>if p.2.stays S2 p.1/\p.1.length<=r.1.length then some ((vD p.1 r.1,fun S=>p.2.stays S p.1/\r.2.stays S r.1),S2) else none
section
variable{X:Cx}{a b c e:Expr}{pos:Pos}{st:Stmt}
theorem xR{elts:List Expr}{x1:Nat}{tp p:Pos}{f g:d_}(hg:Gl X "zip")(hm:X.mg "zip"=none)(ha:PE X a (tQ (md X) f))(hb:PE X b (tQ (md X) g))(hs:starEach [a,b] X.env= [(false,eval a X.env),(false,eval b X.env)]:=by rfl)(hs2:starEach [b] X.env= [(false,eval b X.env)]:=by rfl):
  PI X (.Tuple elts x1 tp) (.Call (.Name "zip" p) [a,b] [] pos) (tI (md X) (wq f g)):=GM (BX hg hm (dr ha (dr hb fm hs2) (by rw[hs,hs2])) hs hs2) fun σ H R ⟨ρ,Γ,S,ds,W,S',ok,e,q⟩=>by
 obtain⟨⟨⟨ds1,t1⟩,S1⟩,e1,e⟩:=bind_some e
 obtain⟨⟨⟨ds2,t2⟩,S2⟩,e2,e⟩:=bind_some e
 dsimp only at e
 split at e
 ·rename_i c
  obtain⟨e3,rfl⟩:=cm e
  obtain⟨rfl,rfl⟩:=Prod.mk.inj e3
  refine⟨ρ,Γ,S,ds1,t1,S1,ok,e1,fun ρ1 a1 vs1 H1 x1 st1 h1 r1=>⟨ρ1,Γ,S1,ds2,t2,S2,ok.to x1 st1,e2,fun ρ2 b1 ws H2 x2 st2 h2 r2=> ?_⟩⟩
  obtain⟨vs',h3,r3⟩:=h1.to r1 x2 st2 c.1
  refine⟨_,_,a1,b1,vs',ws,rfl,h3.sqB,h2.sqB,q _ _ _ (x1.trans x2) st2 fun i ρ3 S3 H3 x3 st3 w=> ?_⟩
  obtain⟨us,g1,g2⟩:=h3.to r3 x3 st3 w.1
  obtain⟨zs,g3,g4⟩:=h2.to r2 x3 st3 w.2
  refine⟨fun d hd=> ?_,fun hi=>⟨us,g1.sqB,?_⟩⟩
  ·unfold vD at hd
   rw[List.getElem?_zipWith] at hd
   cases hx:ds1[i]? with
   |none=>rw[hx] at hd;cases hd
   | some x=>
     cases hy:ds2[i]? with
     |none=>rw[hx,hy] at hd;cases hd
     | some y=>
       rw[hx,hy] at hd
       cases hd
       obtain⟨u,hu,ru⟩:=g2.get hx
       obtain⟨z,hz,rz⟩:=g4.get hy
       refine⟨⟨us,zs,u,z,g1.sqB,g3.sqB,hu,hz⟩,fun v H4 hv=> ?_⟩
       obtain⟨p,rfl,hp,hq⟩:=hv
       have:=hq us zs u z g1.sqB g3.sqB hu hz
       subst this
       exact⟨bX.laid hp,st3.lay hp,.tup bJ ((aU.cons ru (.cons rz .nil)).ext (bX.laid hp))⟩
  ·rw[hi]
   unfold vD
   rw[List.length_zipWith,g2.length.symm]
   have:=c.2
   omega
 ·cases e
end
def qX:D->Option Key
 |.int i=>some (.inl i)
 |.str x=>some (.inr x)
 |_=>none
theorem oz{M:Md}{ρ:List Addr}{H:Hp}{d:D}{v:V}{k:Key}(r:Rel M ρ H d v)(e:qX d=some k):v=kV k:=by
 cases r <;>simp[qX] at e <;>subst e <;>rfl
def vk:List D->Option (List Key)
 | []=>some []
 |d::r=>(qX d).bind fun k=>(vk r).bind fun ks=>some (k::ks)
theorem uS{M:Md}{ρ:List Addr}{H:Hp}:∀{ds:List D} {vs:List V} {ks:List Key},aU M ρ H ds vs->vk ds=some ks->vs=ks.map kV
 |_,_,_,.nil,e=>by cases e;rfl
 | _,_,_,.cons h hs,e=>by
   obtain⟨k,e1,e⟩:=bind_some e
   obtain⟨ks,e2,e⟩:=bind_some e
   cases e
   rw[oz h e1,uS hs e2]
   rfl
def p7(kvs:List (Key×D))(k:Key):Option D:=(kvs.find? fun kv=>decide (kv.1=k)).map (·.2)
def putD(kvs:List (Key×D))(k:Key)(v:D):List (Key×D):=
 if (kvs.any fun kv=>decide (kv.1=k))=true then kvs.map (fun kv=>if kv.1=k then(kv.1,v) else kv) else kvs++ [(k,v)]
def cH(kvs more:List (Key×D)):List (Key×D):=more.foldl (fun acc kv=>putD acc kv.1 kv.2) kvs
section
variable{M:Md}{ρ:List Addr}{H:Hp}
theorem b_.append:∀{l m:List (Key×D)} {kv kw:List (Key×V)},b_ M ρ H l kv->b_ M ρ H m kw->b_ M ρ H (l++m) (kv++kw)
 | [],_,_,_,h,h'=>by cases h;exact h'
 |(_,_)::_,_,_,_,⟨v,t,e,h,hs⟩,h'=>by subst e;exact⟨v,_,rfl,h,b_.append hs h'⟩
theorem b_.any:∀{l:List (Key×D)} {kv:List (Key×V)} (k:Key),b_ M ρ H l kv->(l.any fun p=>decide (p.1=k))=kv.any fun p=>decide (p.1=k)
 | [],_,_,h=>by cases h;rfl
 |(_,_)::_,_,k,⟨v,t,e,h,hs⟩=>by subst e;simp only[List.any_cons,b_.any k hs]
theorem b_.mapP{d:D}{v:V}{k:Key}(r:Rel M ρ H d v):∀{l:List (Key×D)} {kv:List (Key×V)},b_ M ρ H l kv->b_ M ρ H (l.map fun p=>if p.1=k then(p.1,d) else p) (kv.map fun p=>if p.1=k then(p.1,v) else p)
 | [],_,h=>by cases h;rfl
 | (k',_)::_,_,⟨u,t,e,h,hs⟩=>by
   subst e
   simp only[List.map_cons]
   by_cases c:k'=k
   · simp only[c,if_true];exact⟨v,_,rfl,r,b_.mapP r hs⟩
   · simp only[c,if_false];exact⟨u,_,rfl,h,b_.mapP r hs⟩
theorem b_.put{l:List (Key×D)}{kv:List (Key×V)}{k:Key}{d:D}{v:V}(h:b_ M ρ H l kv)(r:Rel M ρ H d v):b_ M ρ H (putD l k d) (putK kv k v):=by
 unfold putD putK
 rw[h.any k]
 split
 ·exact h.mapP r
 ·exact h.append ⟨v,[],rfl,r,rfl⟩
theorem b_.merge:∀{m:List (Key×D)} {kw:List (Key×V)} {l:List (Key×D)} {kv:List (Key×V)},b_ M ρ H m kw->b_ M ρ H l kv->b_ M ρ H (cH l m) (iX kv kw)
 | [],_,_,_,h,h'=>by cases h;exact h'
 | (k,d)::m,_,_,_,⟨v,t,e,h,hs⟩,h'=>by
   subst e
   unfold cH iX
   rw[List.foldl_cons,List.foldl_cons]
   exact b_.merge (m:=m) (kw:=t) hs (h'.put h)
theorem b_.zip:∀{ks:List Key} {ds:List D} {vs:List V},aU M ρ H ds vs->b_ M ρ H (ks.zip ds) (ks.zip vs)
 | [],_,_,_=>rfl
 |_::_,_,_,.nil=>rfl
 |k::ks,_,_,.cons h hs=>⟨_,_,rfl,h,b_.zip hs⟩
theorem b_.val:∀{l:List (Key×D)} {kv:List (Key×V)} {k:Key} {d:D},b_ M ρ H l kv->p7 l k=some d->∃v,mX kv k=some v/\Rel M ρ H d v
 | [],_,_,_,_,e=>by cases e
 | (k',d')::_,_,k,d,⟨v,t,e,h,hs⟩,e'=>by
   subst e
   unfold p7 at e'
   unfold mX
   rw[List.find?_cons] at e'⊢
   by_cases c:k'=k
   · simp only[c,decide_true] at e'⊢
     cases e'
     exact⟨v,rfl,h⟩
   · simp only[c,decide_false] at e'⊢
     exact b_.val hs e'
theorem b_.ext'{ρ':List Addr}{H':Hp}{l:List (Key×D)}{kv:List (Key×V)}(h:b_ M ρ H l kv)(e:bX ρ H ρ' H'):b_ M ρ' H' l kv:=h.imp fun _ _ r=>r.ext e
theorem b_.pre'{ρ':List Addr}{l:List (Key×D)}{kv:List (Key×V)}(h:b_ M ρ H l kv)(e:ρ <+: ρ'):b_ M ρ' H l kv:=h.imp fun _ _ r=>r.pre e
end
section
variable{X:Cx}{a b c e:Expr}{pos:Pos}{st:Stmt}
theorem FQ{M:Md}{ρ ρ':List Addr}{H H':Hp}{S':az}{l:List (Key×D)}{kv:List (Key×V)}{p:Addr}{Q:VK}(x:bX ρ H ρ' H')(st:eV M ρ' S' H')(hp:H' p=none)(r:b_ M ρ' H' l kv)
  (q:∀ρ'' v H'',bX ρ H ρ'' H''->eV M ρ'' (S'++ [.dct l]) H''->Rel M ρ'' H'' (.ref S'.length) v->Q v H''):Q (.ref p) (upd H' p (.dK kv)):=by
 have np:p∉ρ':=da x st hp
 have x1:bX ρ' H' ρ' (upd H' p (.dK kv)):=bX.laid hp
 have st2:=(st.lay (u:=.dK kv) hp).box (o:=.dct l) np ⟨kv,bJ,(r.ext' x1).pre' (List.prefix_append _ _)⟩
 refine q (ρ'++ [p]) (.ref p) _ ⟨x.pre.trans (List.prefix_append _ _),fun c hc=> ?_,(x.trans x1).keep,(x.trans x1).grow⟩ st2 (.ref ?_)
 ·rcases mQa.mp hc with hc|hc
  ·exact x.new c hc
  ·rw[List.mem_singleton] at hc;subst hc;exact .inr (x.grow _ hp)
 ·rw[←st.len,List.getElem?_append_right (Nat.le_refl _)]
  simp
open Classical in
noncomputable def E1(f g:d_):bq:=fun Γ S=>(f Γ S).bind fun(p,S1)=>(g Γ S1).bind fun(r,S2)=>if p.2.stays S2 p.1/\p.1.length=r.1.length then(vk p.1).bind fun ks=>some (.ref S2.length,S2++ [.dct (cH [] (ks.zip r.1))]) else none
theorem m6{p1 p2 c1 c2:Pos}{f g:d_}(hc:X.calm=true)(hgD:Gl X "dict")(hmD:X.mg "dict"=none)(hg:Gl X "zip")(hm:X.mg "zip"=none)(ha:PE X a (tQ (md X) f))(hb:PE X b (tQ (md X) g))(hs:starEach [a,b] X.env= [(false,eval a X.env),(false,eval b X.env)]:=by rfl)(hs2:starEach [b] X.env= [(false,eval b X.env)]:=by rfl)
  (he:starEach [Expr.Call (.Name "zip" p2) [a,b] [] c2] X.env= [(false,eval (Expr.Call (.Name "zip" p2) [a,b] [] c2) X.env)]:=by rfl):
  PE X (.Call (.Name "dict" p1) [.Call (.Name "zip" p2) [a,b] [] c2] [] c1) (tD (md X) (E1 f g)):=jB (xo hc hgD hmD hg hm (dr ha (dr hb fm hs2) (by rw[hs,hs2])) hs hs2 he) fun σ H Q ⟨ρ,Γ,S,d,S',ok,e,q⟩=>by
 obtain⟨⟨⟨ds1,t1⟩,S1⟩,e1,e⟩:=bind_some e
 obtain⟨⟨⟨ds2,t2⟩,S2⟩,e2,e⟩:=bind_some e
 dsimp only at e
 split at e
 ·rename_i c
  obtain⟨ks,e3,e⟩:=bind_some e
  obtain⟨rfl,rfl⟩:=cm e
  refine⟨ρ,Γ,S,ds1,t1,S1,ok,e1,fun ρ1 a1 vs1 H1 x1 st1 h1 r1=>⟨ρ1,Γ,S1,ds2,t2,S2,ok.to x1 st1,e2,fun ρ2 b1 ws H2 x2 st2 h2 r2=> ?_⟩⟩
  obtain⟨vs',h3,r3⟩:=h1.to r1 x2 st2 c.1
  have ek:=uS r3 e3
  subst ek
  have hl:=r3.length
  rw[lQm] at hl
  refine⟨_,_,a1,b1,ks,ws,rfl,h3.sqB,h2.sqB,by rw[←hl,←r2.length];exact c.2,fun p hp=> ?_⟩
  exact FQ (x1.trans x2) st2 hp (b_.merge (l:= []) (b_.zip r2) rfl) q
 ·cases e
def GW:bq:=fun _ S=>some (.ref S.length,S++ [.dct []])
theorem EN:PE X (.Dict [] [] pos) (tD (md X) GW):=jB Ao fun σ H Q qq=>by
 obtain⟨ρ,Γ,S,d,S',ok,e,q⟩:=qq
 obtain⟨rfl,rfl⟩:=cm e
 exact fun p hp=>FQ bX.refl ok.st hp (l:= []) (kv:= []) rfl q
def Ge(f g:bq):bq:=fun Γ S=>(f Γ S).bind fun(x,S1)=>(g Γ S1).bind fun(y,S2)=>match x with
 | .ref k=>match S2[k]? with
   |some (.dct l)=>(qX y).bind fun ky=>(p7 l ky).bind fun d=>some (d,S2)
   |_=>none
 |_=>none
theorem Af{f g:bq}(hu:X.A.units+1<cLine)(ha:PE X a (tD (md X) f))(hb:PE X b (tD (md X) g))(hs:Cq b):PE X (.Subscript a b pos) (tD (md X) (Ge f g)):=jB (B7 hu ha hb hs) fun σ H Q qq=>by
 obtain⟨ρ,Γ,S,d,S',ok,e,q⟩:=qq
 obtain⟨⟨x,S1⟩,e1,e⟩:=bind_some e
 obtain⟨⟨y,S2⟩,e2,e⟩:=bind_some e
 cases x with
 | ref k=>
   dsimp only at e
   split at e
   · rename_i l hs
     obtain⟨ky,e3,e⟩:=bind_some e
     obtain⟨d',e4,e⟩:=bind_some e
     obtain⟨rfl,rfl⟩:=cm e
     refine⟨ρ,Γ,S,_,S1,ok,e1,fun ρ1 v1 H1 x1 st1 r1=>⟨ρ1,Γ,S1,y,S2,ok.to x1 st1,e2,fun ρ2 v2 H2 x2 st2 r2=> ?_⟩⟩
     cases oz r2 e3
     have r1:=r1.ext x2
     cases r1 with
     | ref ha=>
       obtain⟨kv,h1,h2⟩:=st2.obj k _ _ ha hs
       obtain⟨v,h3,h4⟩:=h2.val e4
       exact⟨_,v,rfl,by rw[←h3];exact y4.k h1,q _ _ _ (x1.trans x2) st2 h4⟩
   · cases e
 |_=>cases e
def GD(f g h:bq):cC:=fun Γ S=>(h Γ S).bind fun(d,S1)=>(f Γ S1).bind fun(x,S2)=>(g Γ S2).bind fun(y,S3)=>match x with
 | .ref k=>match S3[k]? with
   |some (.dct l)=>(qX y).bind fun ky=>if l.length<sizeLine then some (.nx Γ (S3.set k (.dct (putD l ky d)))) else none
   |_=>none
 |_=>none
mutual
theorem Rel.offK{M:Md}{ρ:List Addr}{H:Hp}{b:Addr}{us:List (Key×V)}{o:HO}(hb:H b=some (.dK us)):∀{d:D} {v:V},Rel M ρ H d v->Rel M ρ (upd H b o) d v
 |_,_,.non=>.non
 |_,_,.bl x=>.bl x
 |_,_,.int i=>.int i
 |_,_,.str x=>.str x
 |_,_,.tup h hs=>.tup (by rw[a_ (Ai h hb (by intro z;cases z))];exact h) (aU.offK hb hs)
 |_,_,.ref h=>.ref h
 |_,_,.fn h=>.fn h
theorem aU.offK{M:Md}{ρ:List Addr}{H:Hp}{b:Addr}{us:List (Key×V)}{o:HO}(hb:H b=some (.dK us)):∀{ds:List D} {vs:List V},aU M ρ H ds vs->aU M ρ (upd H b o) ds vs
 |_,_,.nil=>.nil
 |_,_,.cons h hs=>.cons (Rel.offK hb h) (aU.offK hb hs)
end
theorem eV.putKd{M:Md}{ρ:List Addr}{S:az}{H:Hp}{k:Nat}{a:Addr}{l l':List (Key×D)}{kw:List (Key×V)}(st:eV M ρ S H)(hk:ρ[k]?=some a)(hS:S[k]?=some (.dct l))(r:b_ M ρ H l' kw):eV M ρ (S.set k (.dct l')) (upd H a (.dK kw))/\bX ρ H ρ (upd H a (.dK kw)):=by
 obtain⟨vs,h1,h2⟩:=st.obj k a _ hk hS
 exact st.put hk hS ⟨kw,bJ,r.imp fun _ _ q=>q.offK h1⟩ fun x hx=>by rw[h1] at hx;cases hx;exact id
theorem EW{f g h:bq}{pos':Pos}{v:Expr}(hu:X.A.units+1<cLine)(ha:PE X a (tD (md X) f))(hb:PE X b (tD (md X) g))(hv:PE X v (tD (md X) h))(hs:swapsWith v (some (.Subscript a b pos')) pos.line X.env=pure false:=by rfl):PS X (.Assign [.Subscript a b pos'] v pos) (tS (md X) (GD f g h)):=
 yy (BQ hu ha hb hv hs) fun D σ H qq=>by
  obtain⟨ρ,Γ,S,o,ok,e,q⟩:=qq
  obtain⟨⟨d,S1⟩,e1,e⟩:=bind_some e
  obtain⟨⟨x,S2⟩,e2,e⟩:=bind_some e
  obtain⟨⟨y,S3⟩,e3,e⟩:=bind_some e
  cases x with
  | ref k=>
    dsimp only at e
    split at e
    · rename_i l hs
      obtain⟨ky,e4,e⟩:=bind_some e
      split at e
      · rename_i hl
        cases e
        refine⟨ρ,Γ,S,d,S1,ok,e1,fun ρ1 v1 H1 x1 st1 r1=>⟨ρ1,Γ,S1,_,S2,ok.to x1 st1,e2,fun ρ2 v2 H2 x2 st2 r2=>⟨ρ2,Γ,S2,y,S3,(ok.to x1 st1).to x2 st2,e3,fun ρ3 v3 H3 x3 st3 r3=> ?_⟩⟩⟩
        cases oz r3 e4
        have r2:=r2.ext x3
        have r1:=r1.ext (x2.trans x3)
        have x13:=(x1.trans x2).trans x3
        cases r2 with
        | ref ha=>
          obtain⟨kv,h1,h2⟩:=st3.obj k _ _ ha hs
          obtain⟨st4,x4⟩:=st3.putKd ha hs (h2.put (k:=ky) r1)
          exact⟨_,_,rfl,Ac.k h1 (by rw[←h2.length];exact hl),q _ _ _ (x13.trans x4) ((ok.to x13 st3).to x4 st4)⟩
      · cases e
    · cases e
  |_=>cases e
open Classical in
noncomputable def Ew(f:d_)(g:bq):bq:=fun Γ S=>(f Γ S).bind fun(p,S1)=>if p.2.isL=true then(g Γ S1).bind fun(y,S2)=>if p.2.stays S2 p.1 then(qL y).bind fun v=>(gk p.1).bind fun vs=>(lB v vs).bind fun j=>some (.int (j:Nat),S2) else none else none
theorem Cn{f:d_}{g:bq}{o:Expr}{apos cpos:Pos}(ho:PE X o (tQ (md X) f))(ha:PE X e (tD (md X) g))(hbase:attributeBase o "index" X.env (eval o X.env)=eval o X.env:=by rfl) (hfew:((backTo cpos (starEach [e] X.env)).all (fun x=> !x.1)&&(backToKw cpos (keywordEach [] X.env)).all (fun x=>x.1.isSome)
   &&decide ([e].length+([]:List Keyword).length+(if ([]:List Keyword).isEmpty then 0 else 1)<30))=true:=by rfl)
  (hline:(apos.endLine==cpos.line)=true:=by rfl) (hs:starEach [e] X.env= [(false,eval e X.env)]:=by rfl):PE X (.Call (.Attribute o "index" apos) [e] [] cpos) (tD (md X) (Ew f g)):=
 jB (sH PySem.F.plainAttrs_list PySem.F.slot_list_index PySem.F.type_list_index Ak ho (aa ha ah hs) hbase hfew hline hs) fun σ H Q qq=>by
  obtain⟨ρ,Γ,S,d,S',ok,e,q⟩:=qq
  obtain⟨⟨⟨ds,t⟩,S1⟩,e1,e⟩:=bind_some e
  dsimp only at e
  split at e
  ·rename_i cL
   obtain⟨⟨y,S2⟩,e2,e⟩:=bind_some e
   dsimp only at e
   split at e
   ·rename_i cS
    obtain⟨v,e3,e⟩:=bind_some e
    obtain⟨vs,e4,e⟩:=bind_some e
    obtain⟨j,e5,e⟩:=bind_some e
    obtain⟨rfl,rfl⟩:=cm e
    refine⟨ρ,Γ,S,ds,t,S1,ok,e1,fun ρ1 a us H1 x1 st1 h1 r1=>⟨.inl ⟨rfl,us,h1.sqL cL⟩,ρ1,Γ,S1,[y],S2,ok.to x1 st1,by simp only[ae,ai,e2,Option.bind_some],fun ρ2 ws H2 x2 st2 r2=> ?_⟩⟩
    obtain⟨us',h3,r3⟩:=h1.to r1 x2 st2 cS
    cases r2 with
    | cons r2 rr=>
      cases rr
      cases jq r2 e3
      obtain⟨rfl,f1⟩:=ib r3 e4
      exact⟨a,us',_,j,rfl,rfl,h3.sqL cL,lO e3,f1,e5,q _ _ _ (x1.trans x2) st2 (.int _)⟩
   ·cases e
  ·cases e
end
section
variable{X:Cx}{a b c e:Expr}{pos:Pos}{st:Stmt}
def GJ:V->List V->Hp->VK->Prop:=fun x vs H Q=>∃a b kvs more,x=.ref a/\vs= [.ref b]/\a≠b/\H a=some (.dK kvs)/\H b=some (.dK more)/\kvs.length+more.length<=sizeLine/\Q .non (upd H a (.dK (iX kvs more)))
theorem zr:FF X "dict.update" GJ:=by
 intro pins s σ H x vs v us Q I rx rv h
 obtain⟨a,b,kvs,more,rfl,rfl,ab,ha,hb,hz,q⟩:=h
 cases rx
 obtain⟨u,rfl,ru⟩:=rv.one
 cases ru
 obtain⟨z,hd,ks,rel,dd⟩:=xU I.hok ha
 obtain⟨z2,hd2,ms,rel2,dd2⟩:=xU I.hok hb
 refine call_meetsIn PySem.F.slot_dict_update dd.typeIs PySem.F.entry_dict_update (PySem.F.args_dict_update_2 _ _) (meets_dict_update (bF X.prog X.w) a b ab hd2) ⟨ks,ms,dd,dd2,by rw[←rel.length,←rel2.length];exact hz,fun h' dd' _ hs=> ?_⟩
 have he:∃q,h'.get? a=some q:=let ⟨q,_,_,hq,_⟩:=dd';⟨q,hq⟩
 have hl:=gW more kvs
 exact⟨.non,_,oI I (by rw[ha];exact True.intro) hs he (pD (by omega) hd (KV.merge rel2 rel) dd'),rfl,q⟩
def Cy(f g:bq):bq:=fun Γ S=>(f Γ S).bind fun(x,S1)=>(g Γ S1).bind fun(y,S2)=>match x,y with
 | .ref k,.ref j=>if k≠j then match S1[k]?,S2[k]?,S2[j]? with
   |some (.dct _),some (.dct l),some (.dct m)=>if l.length+m.length<=sizeLine then some (.non,S2.set k (.dct (cH l m))) else none
   |_,_,_=>none
   else none
 |_,_=>none
theorem AL{f g:bq}{o:Expr}{apos cpos:Pos}(ho:PE X o (tD (md X) f))(ha:PE X e (tD (md X) g))(hbase:attributeBase o "update" X.env (eval o X.env)=eval o X.env:=by rfl) (hfew:((backTo cpos (starEach [e] X.env)).all (fun x=> !x.1)&&(backToKw cpos (keywordEach [] X.env)).all (fun x=>x.1.isSome)
   &&decide ([e].length+([]:List Keyword).length+(if ([]:List Keyword).isEmpty then 0 else 1)<30))=true:=by rfl)
  (hline:(apos.endLine==cpos.line)=true:=by rfl) (hs:starEach [e] X.env= [(false,eval e X.env)]:=by rfl):PE X (.Call (.Attribute o "update" apos) [e] [] cpos) (tD (md X) (Cy f g)):=
 jB (sH PySem.F.plainAttrs_dict PySem.F.slot_dict_update PySem.F.type_dict_update zr ho (aa ha ah hs) hbase hfew hline hs) fun σ H Q qq=>by
  obtain⟨ρ,Γ,S,d,S',ok,e,q⟩:=qq
  obtain⟨⟨x,S1⟩,e1,e⟩:=bind_some e
  obtain⟨⟨y,S2⟩,e2,e⟩:=bind_some e
  cases x with
  | ref k=>
    cases y with
    | ref j=>
      dsimp only at e
      split at e
      · rename_i ne
        cases h1:S1[k]? with
        |none=>rw[h1] at e;cases e
        | some o1=>
          rw[h1] at e
          cases o1 with
          | dct l0=>
            cases h2:S2[k]? with
            |none=>rw[h2] at e;cases e
            | some o2=>
              rw[h2] at e
              cases o2 with
              | dct l=>
                cases h3:S2[j]? with
                |none=>rw[h3] at e;cases e
                | some o3=>
                  rw[h3] at e
                  cases o3 with
                  | dct m=>
                    dsimp only at e
                    split at e
                    · rename_i hl
                      obtain⟨rfl,rfl⟩:=cm e
                      refine⟨ρ,Γ,S,_,S1,ok,e1,fun ρ1 v H1 x1 st1 r1=> ?_⟩
                      cases r1 with
                      | ref ha=>
                        rename_i a
                        obtain⟨kv0,g0,_⟩:=st1.obj k a _ ha h1
                        refine⟨.inr (.inr (.inl ⟨rfl,.inl ⟨kv0,g0⟩⟩)),ρ1,Γ,S1,[.ref j],S2,ok.to x1 st1,by simp only[ae,ai,e2,Option.bind_some],fun ρ2 ws H2 x2 st2 r2=> ?_⟩
                        cases r2 with
                        | cons r2 rr=>
                          cases rr
                          cases r2 with
                          | ref hb=>
                            rename_i b
                            have ha2:=cE x2.pre ha
                            obtain⟨kv,g1,g2⟩:=st2.obj k a _ ha2 h2
                            obtain⟨kw,g3,g4⟩:=st2.obj j b _ hb h3
                            have ab:a≠b:=fun z=>by subst z;exact ne (ja st2.nd ha2 hb)
                            obtain⟨st3,x3⟩:=st2.putKd ha2 h2 (b_.merge g4 g2)
                            exact⟨a,b,kv,kw,rfl,rfl,ab,g1,g3,by rw[←g2.length,←g4.length];exact hl,q _ _ _ ((x1.trans x2).trans x3) st3 .non⟩
                    · cases e
                  |_=>cases e
              |_=>cases e
          |_=>cases e
      · cases e
    |_=>cases e
  |_=>cases e
end
end DL
namespace L2
open PySem PySem.Spec PyProof.Rows
section
variable{prog:Program}{w:World}{A:Around}{s:Shared}
theorem qV{kx vx target iter:Expr}{ifs:List Expr}{scope:Scope}{pos:Pos}{it:Value}{D:Addr}{env:Env}{R:Result->Shared->Prop}(I:Nat->Shared->Prop)
  (turn:∀n s,I n s->wpAny (model prog w) A (pyNext it) (fun r s₁=>match r with
   |none=>R (.ok .next) s₁
   |some v=>wpAny (model prog w) A (letOwnedTupleGo target it v) (fun _ s₁'=>wpAny (model prog w) A (assign target env v) (fun _ s₂=>
     wpAny (model prog w) A (forIn ifs true fun c r=>if r=true then do let ok←isTrue c env (eval c env);pure (ForInStep.yield ok) else pure (ForInStep.yield r)) (fun ok s₃=>
      if ok=true then wpAny (model prog w) A (eval kx env) (fun x s₄=>wpAny (model prog w) A (eval vx env) (fun y s₅=>
       wpAny (model prog w) A (dictSet D x y) (fun _ s₆=>∃m,m<n/\I m s₆) (fun _ _=>False) s₅) (fun _ _=>False) s₄) (fun _ _=>False) s₃
      else∃m,m<n/\I m s₃) (fun _ _=>False) s₂) (fun _ _=>False) s₁') (fun _ _=>False) s₁) (fun _ _=>False) s)
  (n:Nat) (h:I n s):codeAny (model prog w) A (.compLoop (.DictComp kx vx [⟨target,iter,ifs,0⟩] scope pos) 0 it (.ref D) env) R s:=by
 refine codeAny_loop rfl I (fun n s hI=> ?_) n h
 show wpAny _ A ((compTurn (.DictComp kx vx [⟨target,iter,ifs,0⟩] scope pos) 0 it (.ref D) env).onRaise (fun x=>do noteFrame x env;theTreesLotGoes x)) _ _ s
 refine wpAny_noted ?_
 rw[compTurn_dict]
 refine wpAny_bind (wpAny_standAt (wpAny_bind (wpAny_mono (turn n s hI) (fun r s₁ h₁=> ?_) fun _ _ h'=>h'.elim)))
 cases r with
 |none=>exact wpAny_pure h₁
 | some v=>
   refine wpAny_bind (wpAny_mono h₁ (fun _ s₁' h₁'=> ?_) fun _ _ h'=>h'.elim)
   refine wpAny_bind (wpAny_mono h₁' (fun _ s₂ h₂=>wpAny_bind (wpAny_mono h₂ (fun ok s₃ h₃=> ?_) fun _ _ h'=>h'.elim)) fun _ _ h'=>h'.elim)
   cases ok with
   |false=>exact wpAny_pure ⟨rfl,h₃⟩
   | true=>
     exact wpAny_bind (wpAny_bind (wpAny_mono h₃ (fun x s₄ h₄=>wpAny_bind (wpAny_holding (wpAny_mono h₄ (fun y s₅ h₅=>wpAny_bind (wpAny_standAt (wpAny_holding (wpAny_mono h₅ (fun _ s₆ h₆=>wpAny_pure ⟨rfl,h₆⟩) fun _ _ h'=>h'.elim)))) fun _ _ h'=>h'.elim))) fun _ _ h'=>h'.elim))
end
def DT(J:It)(g:TG)(tt:TT)(tk tv:TE)(Q:VK)(D:Addr)(σ:St)(H:Hp):Prop:=
 ∃ W:Nat->Nat->St->Hp->Prop,(∃m,W 0 m σ H)/\∀i m σ' H',W i m σ' H'→
   (J.stop i H'/\Q (.ref D) H')\/(J.go i H'/\∃Nx:St->Hp->Prop,(∀σ'' H'',Nx σ'' H''->∃m',m'<m/\W (i+1) m' σ'' H'')∧
     ∀ x H2,J.yld i H' x H2->g x σ' H2 fun σ3 H3=>tt σ3 H3 fun ok H4=>
       if ok=true then tk σ3 H4 fun k H5=>tv σ3 H5 fun y H6=>∃kvs ky,k=kV ky/\H6 D=some (.dK kvs)/\kvs.length<sizeLine/\Nx σ3 (upd H6 D (.dK (putK kvs ky y))) else Nx σ3 H4)
def z3(js:List (Option Nat))(wi:TI)(g:TG)(tt:TT)(tk tv:TE):TE:=fun σ H Q=>wi σ H fun J H1=>∀D,H1 D=none->DT J g tt tk tv Q D (iI js σ) (upd H1 D (.dK []))
theorem A1{X:Cx}{N:List Str}{js:List (Option Nat)}{scope:Scope}{cl:List (Str×Addr)}{tg iter kx vx tgt:Expr}{ifs:List Expr}{pos spos:Pos}{wi:TI}{g gt:TG}{tt:TT}{tk tv:TE}
  (S:aN X N js scope cl) (hc:X.calm=true) (hi:PI X tg iter wi)
  (hg:∀C s H fp,PG (aQ X N scope cl C s H fp) tg g) (ht:∀C s H fp,oa (aQ X N scope cl C s H fp) ifs tt) (hk:∀C s H fp,PE (aQ X N scope cl C s H fp) kx tk) (hv:∀C s H fp,PE (aQ X N scope cl C s H fp) vx tv) (hgt:PG X tgt gt)
  (hs:∀x,foldedSetIterable iter X.env x=pure x:=by intro _;rfl) (hsw:swapsWithSole [tgt] (.DictComp kx vx [⟨tg,iter,ifs,0⟩] scope pos) spos.line X.env=pure true:=by rfl)
  (h1:(assignEach [tgt] X.env).map (·.2)= [assign tgt X.env]:=by rfl):PS X (.Assign [tgt] (.DictComp kx vx [⟨tg,iter,ifs,0⟩] scope pos) spos) (yG (z3 js wi g tt tk tv) gt):=by
 intro pins s σ H Dn I h
 rw[exec_Assign_arm]
 refine wpAny_bind (wpAny_standAt (wpAny_bind (wpAny_of_eq hsw (wpAny_ite_true rfl (wpAny_bind ?_)))))
 rw[h1]
 show wpAny _ _ (do let _←comprehension _ _ _ _ _ _ _ (some fun v=>assignAll v [assign tgt X.env]);pure ()) _ _ _
 refine wpAny_bind ?_
 refine wpAny_comprehension_free (use:=some fun v=>assignAll v [assign tgt X.env]) rfl hs S.clos S.kind S.names (cz (hi pins s σ H _ I h) fun v s1 h1=>cz h1 fun itv s2 h2=> ?_)
 obtain⟨it,fp,tn,J,H2,e,I2,T,st2,f2,hD⟩:=h2
 subst e
 refine wpAny_newObj_type (wpAny_newFunctionEnv S.nocell (by intro y hy;simp at hy) (fun h₁ hns₁ hsb₁=> ?_) S.kind)
 dsimp only at hns₁ hsb₁⊢
 generalize hH2:s2.heap.push {cls:=.type "dict",data:=.dict #[]}=P2 at hns₁ hsb₁⊢
 have hC:P2.objs.size=s2.heap.objs.size+1:=by rw[←hH2,Heap.size_push]
 have hDC:s2.heap.objs.size≠P2.objs.size:=by rw[hC];exact Nat.ne_of_lt (Nat.lt_succ_self _)
 have hCle:s2.heap.objs.size<=P2.objs.size:=by rw[hC];exact Nat.le_succ _
 have below:∀b,b<s2.heap.objs.size->b≠P2.objs.size:=fun b hb=>by rw[hC];exact Nat.ne_of_lt (Nat.lt_succ_of_lt hb)
 have old:∀b o,s2.heap.get? b=some o->h₁.get? b=some o:=fun b o e=>hsb₁.extBut b o (below b (Heap.lt_size e)) (Heap.get?_push_of_some _ (hH2▸Heap.get?_push_of_some _ e))
 have hnew:h₁.get? s2.heap.objs.size=some {cls:=.type "dict",data:=.dict #[]}:=hsb₁.extBut _ _ hDC (Heap.get?_push_of_some _ (hH2▸Heap.get?_push_size _ rfl))
 have nD:H2 s2.heap.objs.size=none:=I2.fresh
 have nC:H2 P2.objs.size=none:=I2.hok.fresh hCle
 have fpo:∀b∈fp,b<s2.heap.objs.size:=fun b hb=>by
  obtain⟨o,e,_⟩:=T.obj _ _ st2 b hb
  exact Heap.lt_size e
 obtain⟨W,⟨m0,w0⟩,turn⟩:=hD s2.heap.objs.size nD
 have ok':(aQ X N scope cl P2.objs.size s2 H2 fp).Ok:=by
  refine⟨I2.ok.mod,S.kind,I2.ok.glob,I2.ok.blt,hCle,fun x y c h1 h2=>I2.ok.inj x y c (S.sub x c h1) (S.sub y c h2),S.has,(fun x c h=>by cases h),I2.ok.hd,I2.ok.frames,.inl rfl,
   fun b hb=>⟨below b (fpo b hb),fun x c h=>(f2 b hb).2.2.2.2.1 x c (S.sub x c h)⟩,I2.bs,Nat.le_trans I2.ok.bsz I2.sz,fun b o e hb=> ?_,fun b hb z=> ?_,I2.stack,I2.stkFree⟩
  ·rcases(f2 b hb).2.2.2.1 with z|z
   ·exact I2.ok.noex b o e z
   ·exact absurd (Nat.lt_of_lt_of_le (Nat.lt_of_lt_of_le (Heap.lt_size e) I2.ok.bsz) z) (Nat.lt_irrefl _)
  ·rcases List.mem_cons.mp (I2.stkSub b z) with q|q
   ·exact(f2 b hb).2.1 q
   ·exact(f2 b hb).2.2.1 q
 have hobj:cG X.prog X.w (upd H2 s2.heap.objs.size (.dK [])) h₁ s2.heap.objs.size (.dK []):=by
  obtain⟨o,es,ep,e1,e2⟩:=Heap.DictOf.new (knd:=bF X.prog X.w) s2.heap
  exact pD (Nat.zero_le _) (beq_eq_false_iff_ne.mpr (Ne.symm (Nat.ne_of_lt I2.big))) .nil ⟨o,es,ep,hsb₁.extBut _ _ hDC (Heap.get?_push_of_some _ (hH2▸e1)),e2⟩
 have I4:Inv (aQ X N scope cl P2.objs.size s2 H2 fp) [] (iI js σ) (upd H2 s2.heap.objs.size (.dK [])) {s2 with heap:=h₁,toks:=s2.toks+([]:List (Str×Value)).length}:=by
  refine⟨ok',rfl,I2.bare,Un.laid old (Nat.le_refl _) nD,⟨_,hns₁,fun i x v h1 h2 h3=> ?_⟩,fun x c h=> ?_,by show upd H2 _ _ P2.objs.size=none;rw[a_ hDC.symm];exact nC,fun x c h=> ?_,fun p hp=>absurd (show p∈([]:List (Addr×Obj)) from hp) (by simp),I2.hok.laid old (Nat.le_refl _) hobj,by show(iI js σ).length=N.length;unfold iI;rw[lQm];exact S.len⟩
  ·unfold iI at h2
   rw[gQm] at h2
   cases e:js[i]? with
   |none=>rw[e] at h2;cases h2
   | some o=>
     rw[e] at h2
     cases o with
     |none=>cases h2
     | some j=>
       have h2':σ.getD j none=some v:=Option.some.inj h2
       have hj:σ[j]?=some (some v):=by
         rw[List.getD_eq_getElem?_getD] at h2'
         cases q:σ[j]? with
         |none=>rw[q] at h2';cases h2'
         |some y=>rw[q] at h2';exact congrArg some h2'
       obtain⟨c1,c2,c3⟩:=S.cap i j x e h1
       obtain⟨m,hn,hl⟩:=I2.loc
       have vis:Dm X.env.scope x:=by
         rcases c2 with z|z
         · exact .inr (.inl z)
         · exact .inr (.inr z)
       obtain⟨u,r,l⟩:=hl j x v c1 hj vis
       refine⟨u,r,.inr ⟨c3,?_⟩⟩
       obtain⟨c,hc'⟩:=S.has x c3
       refine⟨c,hc',?_⟩
       rcases l with⟨z,_⟩|⟨_,c',e',z⟩
       · rcases c2 with y|y <;>rw[y] at z <;>cases z
       · rw[S.sub x c hc'] at e'
         cases e'
         obtain⟨o,ho,hd⟩:=z
         exact⟨o,old _ _ ho,hd⟩
  ·obtain⟨v,o,ho,hd⟩:=I2.cell x c (S.sub x c h)
   exact⟨v,o,old _ _ ho,hd⟩
  ·obtain⟨v,o,ho,hd⟩:=I2.cell x c (S.sub x c h)
   rw[a_ (Nat.ne_of_lt (Heap.lt_size ho))]
   exact I2.freeC x c (S.sub x c h)
 have stat:∀{pins':List (Addr×Obj)} {H':Hp},pins'= []->(∀b∈fp,H' b=none)->∀b∈fp,mU (aQ X N scope cl P2.objs.size s2 H2 fp) pins' H' b:=fun{pins' H'} ep hn b hb=>by
  subst ep
  refine⟨hn b hb,below b (fpo b hb),fun z=>ok'.exfs b hb z,.inl hb,fun x c h=>(f2 b hb).2.2.2.2.1 x c (S.sub x c h),fun p hp=>absurd (show p∈([]:List (Addr×Obj)) from hp) (by simp)⟩
 have loop:codeAny (model X.prog X.w) X.A (.compLoop (.DictComp kx vx [⟨tg,iter,ifs,0⟩] scope pos) 0 (.ref it) (.ref s2.heap.objs.size) (compEnvC scope cl P2.objs.size X.env))
   (compPost (model X.prog X.w) X.A X.xe (some fun v=>assignAll v [assign tgt X.env]) (fun _ s9=>wpAny (model X.prog X.w) X.A (pure ()) (fun _ s10=>wpAny (model X.prog X.w) X.A (pure Flow.next) (SP X pins Dn) X.xe s10) X.xe s9) (.ref s2.heap.objs.size) P2.objs.size) {s2 with heap:=h₁,toks:=s2.toks+([]:List (Str×Value)).length}:=by
  refine qV (fun n s'=>∃i σ' H',Inv (aQ X N scope cl P2.objs.size s2 H2 fp) [] σ' H' s'/\tn i s'.heap/\(∀b∈fp,H' b=none)/\W i n σ' H') ?_ m0
   ⟨0,_,_,I4,T.keep _ _ _ st2 fun b _ o e=>old b o e,fun b hb=>by rw[a_ (Nat.ne_of_lt (fpo b hb))];exact(f2 b hb).1,w0⟩
  rintro n s3 ⟨i,σ3,H3,I3,st3,fr3,w3⟩
  rcases turn i n σ3 H3 w3 with⟨stop,q⟩|⟨go,Nx,hN,step⟩
  ·refine cz (T.done (aQ X N scope cl P2.objs.size s2 H2 fp) rfl rfl rfl hc i [] s3 σ3 H3 _ I3 (stat rfl fr3) st3 stop) fun r s4 qr=> ?_
   obtain⟨hr,I5⟩:=qr
   subst hr
   obtain⟨m,hn,_⟩:=id I5.loc
   have toX:∀h',Heap.SameBut P2.objs.size s4.heap h'->Inv X pins σ H3 {s4 with heap:=h'}:=by
    intro h' hs'
    have u:=I5.base
    have ne:∀b o,s2.heap.get? b=some o->b≠P2.objs.size:=fun b o e=>below b (Heap.lt_size e)
    refine I2.call' (ch:=fp) I5.os ⟨fun b o e n hb hx=>(hs'.2 b (ne b o e)).trans (u.keep b o e n hb hx),fun b o e n hb hx=> ?_,u.free,fun b o e hx=> ?_,u.tups,u.frzs,u.tbls⟩ (fun b ob e=> ?_) I5.bare fun b hb=>⟨(f2 b hb).2.2.2.1,(f2 b hb).2.1,(f2 b hb).2.2.2.2.1,(f2 b hb).2.2.2.2.2⟩
    ·obtain⟨sl,e1⟩:=u.slot b o e n hb hx
     exact⟨sl,(hs'.2 b (ne b o e)).trans e1⟩
    ·obtain⟨o',e1⟩:=u.there b o e hx
     exact⟨o',(hs'.2 b (ne b o e)).trans e1⟩
    ·refine(I5.hok b ob e).stay (fun c w' hc q=>(hs'.2 c ?_).trans q) (fun _ q=>q) fun _ _ q=>q
     have fC:H3 P2.objs.size=none:=I5.free
     rintro rfl
     rcases hc with z|z
     ·rw[←z,fC] at e;cases e
     ·rw[fC] at z;cases z
   have IX:=toX s4.heap ⟨rfl,fun _ _=>rfl⟩
   have okC:mU X pins H3 P2.objs.size:=I2.fpOk hCle I5.free
   obtain⟨oC,es,ep,hoC,hdC,hrC⟩:=hn
   have IP:=IX.pinned (fp:= [P2.objs.size]) (fun b hb=>by rw[List.mem_singleton] at hb;rw[hb];exact okC) (fun b hb=>by rw[List.mem_singleton] at hb;rw[hb];exact⟨oC,hoC,fun v=>by rw[hdC];simp⟩)
   show wpAny _ _ (assignAll (.ref s2.heap.objs.size) [assign tgt X.env]) _ _ _
   rw[assignAll.eq_2]
   refine cz (hgt _ s4 σ H3 (.ref s2.heap.objs.size) (.ref s2.heap.objs.size) _ IP rfl q) fun _ s6 qr=> ?_
   obtain⟨σ6,H6,I6,q6⟩:=qr
   have pC:=I6.pin (P2.objs.size,oC) (List.mem_append_right _ (List.mem_append_right _ (cY (List.mem_singleton.mpr rfl) hoC)))
   refine⟨m,⟨oC,es,ep,pC.1,hdC,hrC⟩,fun h' hs'=>wpAny_pure (wpAny_pure ⟨σ6,H6,?_,q6⟩)⟩
   exact I6.unpinned.turned (it:=P2.objs.size) (t':=s6.toks) (fun b o' hb e=>(hs'.2 b hb).trans e) pC.2.1 pC.2.2.1 okC.2.2.2.1 okC.2.2.2.2.1 okC.2.2.2.2.2
  ·refine cz (T.item (aQ X N scope cl P2.objs.size s2 H2 fp) rfl rfl rfl hc i [] s3 σ3 H3 _ I3 (stat rfl fr3) st3 go) fun r s4 qr=> ?_
   obtain⟨u,hr,h4⟩:=qr
   subst hr
   refine cz h4 fun _ s5 qr=> ?_
   obtain⟨x,H5,I5,r5,y5,st5,fr5⟩:=qr
   have I5':=I5.pinned (stat rfl fr5) (T.obj _ _ st5)
   refine cz (hg P2.objs.size s2 H2 fp _ s5 σ3 H5 x u _ I5' r5 (step x H5 y5)) fun _ s6 qr=> ?_
   obtain⟨σ6,H6,I6,q6⟩:=qr
   refine cz (ht P2.objs.size s2 H2 fp _ s6 σ6 H6 _ I6 q6) fun ok s7 qr=> ?_
   obtain⟨H7,I7,q7⟩:=qr
   have again:∀{s8:Shared} {H8:Hp},Inv (aQ X N scope cl P2.objs.size s2 H2 fp) ([]++kM fp s5.heap) σ6 H8 s8->Nx σ6 H8->∃m,m<n/\∃i σ' H',Inv (aQ X N scope cl P2.objs.size s2 H2 fp) [] σ' H' s8/\tn i s8.heap/\(∀b∈fp,H' b=none)/\W i m σ' H':=fun{s8 H8} I8 n8=>by
    obtain⟨m',hm,w8⟩:=hN σ6 H8 n8
    refine⟨m',hm,i+1,σ6,H8,I8.unpinned,T.keep _ _ _ st5 fun b hb o e=>(I8.pin (b,o) (List.mem_append_right _ (List.mem_append_right _ (cY hb e)))).1,fun b hb=> ?_,w8⟩
    obtain⟨o,e,d⟩:=T.obj _ _ st5 b hb
    exact(I8.pin (b,o) (List.mem_append_right _ (List.mem_append_right _ (cY hb e)))).2.1
   cases ok with
   |false=>exact again I7 q7
   | true=>
     refine cz (hk P2.objs.size s2 H2 fp _ s7 σ6 H7 _ I7 q7) fun kv s8 qr=> ?_
     obtain⟨k,H8,I8,rk,q8⟩:=qr
     refine cz (hv P2.objs.size s2 H2 fp _ s8 σ6 H8 _ I8 q8) fun yv s9 qr=> ?_
     obtain⟨y,H9,I9,ry,kvs,ky,ek,hx,hl,n9⟩:=qr
     subst ek
     obtain⟨z,hd,vs,rel,dd⟩:=xU I9.hok hx
     refine wpAny_dictSet_pairs (vC rk) dd (fun h' dd' hs'=> ?_) (by rw[←rel.length];exact z)
     have he:∃q,h'.get? s2.heap.objs.size=some q:=let ⟨q,_,_,hq,_⟩:=dd';⟨q,hq⟩
     have hl':=gF kvs ky y
     exact again (oI I9 (by rw[hx];exact True.intro) hs' he (pD (by omega) hd (rel.put ky ry) dd')) n9
 exact codeAny_compStart_dict loop (T.self _ 0 _ _ _ (T.keep _ _ _ st2 fun b _ o e=>old b o e) loop)
end L2
namespace DL
open PySem PySem.Spec PyProof.Rows L2
section
variable{M:Md}{ρ:List Addr}{H:Hp}{b:Addr}{us:List (Key×V)}{o:HO}
theorem eV.offK{S:az}(st:eV M ρ S H)(hb:H b=some (.dK us))(n:b∉ρ):eV M ρ S (upd H b o):=⟨st.len,st.nd,fun k a p h1 h2=>by
 have q:=st.obj k a p h1 h2
 have ab:a≠b:=fun z=>n (z▸mQg h1)
 cases p with
 |lst ds=>obtain⟨vs,q1,q2⟩:=q;exact⟨vs,by rw[a_ ab];exact q1,q2.offK hb⟩
 |frz ds=>obtain⟨vs,o,q1,q2⟩:=q;exact⟨vs,o,by rw[a_ ab];exact q1,q2.offK hb⟩
 |dct kvs=>obtain⟨kv,q1,q2⟩:=q;exact⟨kv,by rw[a_ ab];exact q1,q2.imp fun _ _ r=>r.offK hb⟩⟩
theorem En.offK{Γ:cx}{σ:L2.St}(h:En M ρ H Γ σ)(hb:H b=some (.dK us)):En M ρ (upd H b o) Γ σ:=⟨h.len,fun i d q=>by obtain⟨v,h1,h2⟩:=h.get i d q;exact⟨v,h1,h2.offK hb⟩⟩
end
open Classical in
noncomputable def gR(g:kT)(t:iJ)(fk fv:bq)(W:az->Prop):List D->cx->az->List (Key×D)->Option (List (Key×D)×az)
 | [],Γ,S,acc=>if W S then some (acc,S) else none
 |d ::ds,Γ,S,acc=>if W S then(g d Γ S).bind fun(Γ1,S1)=>(t Γ1 S1).bind fun(k,S2)=>
    if k=true then(fk Γ1 S2).bind fun(x,S3)=>(fv Γ1 S3).bind fun(y,S4)=>(qX x).bind fun kk=>if acc.length<sizeLine then gR g t fk fv W ds Γ1 S4 (putD acc kk y) else none
    else gR g t fk fv W ds Γ1 S2 acc
  else none
noncomputable def pS(js:List (Option Nat))(i:vA)(g:kT)(t:iJ)(fk fv:bq):cx->az->Option (List (Key×D)×az):=fun Γ S=>(i Γ S).bind fun(p,S1)=>gR g t fk fv p.2 p.1 (kz js Γ) S1 []
theorem CJ{M:Md}{js:List (Option Nat)}{i:vA}{g:kT}{t:iJ}{fk fv:bq}{σ:L2.St}{H:Hp}{Q:VK}{ρ:List Addr}{Γ:cx}{S S':az}{l:List (Key×D)}(ok:Ok M ρ Γ S σ H)(e:pS js i g t fk fv Γ S=some (l,S'))
  (q:∀ρ' a kv H',bX ρ H ρ' H'->eV M ρ' S' H'->H a=none->a∉ρ'->H' a=some (.dK kv)->b_ M ρ' H' l kv->Q (.ref a) H'):z3 js (tI M i) (tG M g) (tB M t) (tD M fk) (tD M fv) σ H Q:=by
 obtain⟨⟨⟨ds,W⟩,S1⟩,e1,e⟩:=bind_some e
 refine⟨ρ,Γ,S,ds,W,S1,ok,e1,fun ρ1 J H1 x1 st1 wk D hD=> ?_⟩
 have n1:D∉ρ1:=da x1 st1 hD
 have ok1:Ok M ρ1 (kz js Γ) S1 (iI js σ) (upd H1 D (.dK [])):=⟨((ok.en.ext x1).ext (bX.laid hD)).sig js,st1.lay hD⟩
 refine⟨fun i m σ' H'=>m=ds.length-i/\i<=ds.length/\∃ρ2 Γ2 S2 acc vs,bX ρ1 H1 ρ2 H'/\Ok M ρ2 Γ2 S2 σ' H'/\D∉ρ2/\H' D=some (.dK vs)/\b_ M ρ2 H' acc vs/\gR g t fk fv W (ds.drop i) Γ2 S2 acc=some (l,S'),
  ⟨ds.length,by simp,Nat.zero_le _,ρ1,_,S1,[],[],bX.laid hD,ok1,n1,bJ,rfl,e⟩,?_⟩
 rintro i m σ2 H2 ⟨rfl,hi,ρ2,Γ2,S2,acc,vs,x2,ok2,n2,hD2,racc,e2⟩
 by_cases hlt:i<ds.length
 ·have hd:ds[i]?=some ds[i]:=gQe hlt
  rw[List.drop_eq_getElem_cons hlt] at e2
  unfold gR at e2
  split at e2
  ·rename_i w
   obtain⟨w1,w2⟩:=wk i ρ2 S2 H2 x2 ok2.st w
   obtain⟨go,yld⟩:=w1 _ hd
   refine .inr ⟨go,fun σ' H'=>∃ρ' Γ' S'' acc vs,bX ρ1 H1 ρ' H'/\Ok M ρ' Γ' S'' σ' H'/\D∉ρ'/\H' D=some (.dK vs)/\b_ M ρ' H' acc vs/\gR g t fk fv W (ds.drop (i+1)) Γ' S'' acc=some (l,S'),
    fun σ' H' ⟨ρ',Γ',S'',acc,vs,h1,h2,h3,h4,h5,h6⟩=>⟨ds.length-(i+1),by omega,rfl,hlt,ρ',Γ',S'',acc,vs,h1,h2,h3,h4,h5,h6⟩,fun x H3 hy=> ?_⟩
   obtain⟨x3,st3,r3⟩:=yld x H3 hy
   obtain⟨⟨Γ4,S4⟩,e4,e5⟩:=bind_some e2
   refine⟨ρ2,Γ2,S2,_,Γ4,S4,ok2.to x3 st3,r3,e4,fun ρ4 σ4 H4 x4 ok4=> ?_⟩
   obtain⟨⟨k,S5⟩,e6,e7⟩:=bind_some e5
   refine⟨ρ4,Γ4,S4,k,S5,ok4,e6,fun ρ5 H5 x5 st5=> ?_⟩
   have x25:=(x3.trans x4).trans x5
   have keep:∀{ρ' H'},bX ρ2 H2 ρ' H'->H' D=some (.dK vs)/\D∉ρ':=fun{ρ' H'} x=>⟨x.keep _ _ hD2 (.inl n2),fun m=>(x.new _ m).elim n2 fun z=>by rw[z] at hD2;cases hD2⟩
   dsimp only at e7⊢
   split at e7
   ·rename_i ck
    rw[if_pos ck]
    obtain⟨⟨kx,S6⟩,e8,e9⟩:=bind_some e7
    obtain⟨⟨y,S7⟩,e10,e11⟩:=bind_some e9
    obtain⟨kk,e12,e13⟩:=bind_some e11
    refine⟨ρ5,Γ4,S5,kx,S6,ok4.to x5 st5,e8,fun ρ6 kv H6 x6 st6 r6=>⟨ρ6,Γ4,S6,y,S7,(ok4.to x5 st5).to x6 st6,e10,fun ρ7 v H7 x7 st7 r7=> ?_⟩⟩
    have x27:=(x25.trans x6).trans x7
    obtain⟨hD7,n7⟩:=keep x27
    have racc7:=racc.ext' x27
    split at e13
    ·rename_i cl
     refine⟨vs,kk,oz r6 e12,hD7,by rw[←racc.length];exact cl,ρ7,Γ4,S7,putD acc kk y,_,(x2.trans x27).off hD _,⟨(((ok4.en.ext x5).ext x6).ext x7).offK hD7,st7.offK hD7 n7⟩,n7,bJ,(racc7.put r7).imp fun _ _ r=>r.offK hD7,e13⟩
    ·cases e13
   ·rename_i ck
    rw[if_neg ck]
    obtain⟨hD5,n5⟩:=keep x25
    exact⟨ρ5,Γ4,S5,acc,vs,x2.trans x25,ok4.to x5 st5,n5,hD5,racc.ext' x25,e7⟩
  ·cases e2
 ·have e3:i=ds.length:=by omega
  subst e3
  rw[List.drop_length] at e2
  unfold gR at e2
  split at e2
  ·rename_i w
   obtain⟨rfl,rfl⟩:=cm e2
   obtain⟨w1,w2⟩:=wk ds.length ρ2 S2 H2 x2 ok2.st w
   exact .inl ⟨w2 rfl,q ρ2 D vs H2 (x1.trans x2) ok2.st (x1.grow _ hD) n2 hD2 racc⟩
  ·cases e2
noncomputable def GB(n:Nat)(f:cx->az->Option (List (Key×D)×az)):cC:=fun Γ S=>(f Γ S).bind fun(l,S1)=>some (.nx (Γ.set n (some (.ref S1.length))) (S1++ [.dct l]))
section
variable{X:Cx}{pos:Pos}
theorem C2{N:List Str}{js:List (Option Nat)}{scope:Scope}{cl:List (Str×Addr)}{tg iter kx vx tgt:Expr}{ifs:List Expr}{i:vA}{g:kT}{t:iJ}{fk fv:bq}{n:Nat}{spos:Pos}
  (S:aN X N js scope cl) (hc:X.calm=true) (hi:PI X tg iter (tI (md X) i))
  (hg:∀C s H fp,PG (aQ X N scope cl C s H fp) tg (tG (md X) g)) (ht:∀C s H fp,oa (aQ X N scope cl C s H fp) ifs (tB (md X) t)) (hk:∀C s H fp,PE (aQ X N scope cl C s H fp) kx (tD (md X) fk)) (hv:∀C s H fp,PE (aQ X N scope cl C s H fp) vx (tD (md X) fv)) (hgt:PG X tgt (pM n))
  (hs:∀x,foldedSetIterable iter X.env x=pure x:=by intro _;rfl) (hsw:swapsWithSole [tgt] (.DictComp kx vx [⟨tg,iter,ifs,0⟩] scope pos) spos.line X.env=pure true:=by rfl)
  (h1:(assignEach [tgt] X.env).map (·.2)= [assign tgt X.env]:=by rfl):PS X (.Assign [tgt] (.DictComp kx vx [⟨tg,iter,ifs,0⟩] scope pos) spos) (tS (md X) (GB n (pS js i g t fk fv))):=
 yy (A1 S hc hi hg ht hk hv hgt hs hsw h1) fun D σ H qq=>by
  obtain⟨ρ,Γ,S,o,ok,e,q⟩:=qq
  obtain⟨⟨l,S1⟩,e1,e⟩:=bind_some e
  cases e
  refine CJ ok e1 fun ρ' a kv H' x st fr nr ha rs=> ?_
  have st':=st.box (o:=.dct l) nr ⟨kv,ha,rs.pre' (List.prefix_append ρ' [a])⟩
  have x':bX ρ H (ρ'++ [a]) H':=⟨x.pre.trans (List.prefix_append _ _),fun b hb=>by
   rcases mQa.mp hb with hb|hb
   ·exact x.new b hb
   ·rw[List.mem_singleton] at hb;subst hb;exact .inr fr,x.keep,x.grow⟩
  refine q (ρ'++ [a]) _ H' x' ⟨((ok.en.ext x').set (.ref ?_)),st'⟩
  rw[←st.len,List.getElem?_append_right (Nat.le_refl _)]
  simp
end
end DL
namespace Zp
open PySem PySem.W PyProof.Rows
def g5(lt:Nat->Nat->Bool):KasT (Array Nat)->Array Nat
 |.ret p=>p
 |.ask i j k=>g5 lt (k (lt i j))
theorem fX(lt:Nat->Nat->Bool):∀t:KasT (Array Nat),g5 lt t∈m4 t
 |.ret p=>by simp[g5,m4]
 | .ask i j k=>by
   unfold g5 m4
   cases lt i j with
   |true=>exact List.mem_append_left _ (fX lt (k true))
   |false=>exact List.mem_append_right _ (fX lt (k false))
theorem sT{cmp:Nat->Nat->(Bool->Shared->Prop)->Shared->Prop}{Q:Array Nat->Shared->Prop}{s:Shared}{n:Nat}{lt:Nat->Nat->Bool}(hc:∀i j C,i<n->j<n->i≠j->C (lt i j) s->cmp i j C s):
  ∀t:KasT (Array Nat),pe n t=true->Q (g5 lt t) s->t.kasWp cmp Q s
 |.ret p,_,h=>h
 | .ask i j k,ha,h=>by
   simp only[pe,Bool.and_eq_true,decide_eq_true_eq] at ha
   obtain⟨⟨⟨⟨h1,h2⟩,h3⟩,h4⟩,h5⟩:=ha
   refine hc i j _ h1 h2 h3 ?_
   cases e:lt i j with
   |true=>exact sT hc (k true) h4 (by unfold g5 at h;rw[e] at h;exact h)
   |false=>exact sT hc (k false) h5 (by unfold g5 at h;rw[e] at h;exact h)
def EZ(fs:List Str)(i j:Nat):Bool:=decide ((fs.getD i "").cps.toList<(fs.getD j "").cps.toList)
def sortBy{α:Type}(fs:List Str)(d:α)(xs:List α):List α:=if xs.length<2 then xs else(g5 (EZ fs) (kas_sort xs.length)).toList.map fun i=>xs.getD i d
theorem dQ{α:Type}{d:α}(fs:List Str)(xs:List α)(h:xs.length<=3):(sortBy fs d xs).Perm xs:=by
 unfold sortBy
 split
 ·exact List.Perm.refl _
 ·rename_i h2
  obtain⟨_,perm⟩:=oO xs.length h (by omega)
  have hp:(g5 (EZ fs) (kas_sort xs.length)).toList.Perm (List.range xs.length):=List.isPerm_iff.mp (List.all_eq_true.mp perm _ (fX _ _))
  have e:(List.range xs.length).map (fun i=>xs.getD i d)=xs:=by
   apply List.ext_getElem
   ·simp
   ·intro i h1 h2
    simp[List.getD_eq_getElem?_getD,h2]
  have:=hp.map fun i=>xs.getD i d
  rw[e] at this
  exact this
section
variable{prog:Program}{w:World}{A:Around}{E:Value->Shared->Prop}{s:Shared}
theorem xF{a:Addr}{vs:List Value}{fs:List Str}{n:Nat}{P:PySem.Fin->Shared->Prop}(ho:s.heap.get? a=some (seqObj "list" vs.toArray n))(h3:vs.length<=3)(ht:dN s.heap vs fs)(hd:fs.Nodup)
  (q:∀out:Array Value,out.toList=sortBy fs Value.none vs->P (.done (.ret .none)) {s with heap:=sortedHeap s.heap a vs out}):wpAny (model prog w) A (Builtin.«list.sort» ⟨[.ref a],[]⟩) P E s:=by
 rw[list_sort_plain]
 have ha:a<s.heap.objs.size:=Heap.lt_size ho
 refine wpAny_bind (listItems_at ho rfl (wpAny_bind (listUpdate_at ho rfl ?_ (by rw[List.size_toArray,sizeLine_eq];omega) (Nat.zero_le _))))
 obtain⟨e1,ho1⟩:∃e1,(s.heap.update a (Obj.mapSeq fun _=> #[])).get? a=some (seqObj "list" #[] e1):=⟨_,get?_update_seq ho (fun _=> #[])⟩
 refine wpAny_bind (seqEpoch_at ho1 rfl (wpAny_bind (wpAny_newTuple ?_ (by show vs.length<=_;rw[sizeLine_eq];omega))))
 refine wpAny_bind (wpAny_newList (wpAny_holding ?_) (Nat.zero_le _))
 have ho6:(((s.heap.update a (Obj.mapSeq fun _=> #[])).push (seqObj "tuple" vs.toArray 0)).push (seqObj "list" #[] 0)).get? a=some (seqObj "list" #[] e1):=Heap.get?_push_of_some _ (Heap.get?_push_of_some _ ho1)
 have ht6:dN (((s.heap.update a (Obj.mapSeq fun _=> #[])).push (seqObj "tuple" vs.toArray 0)).push (seqObj "list" #[] 0)) vs fs:=ht.keep fun b o e c=>by
  have nb:b≠a:=fun z=>by rw[z,ho] at e;cases e;simp[seqObj] at c
  exact Heap.get?_push_of_some _ (Heap.get?_push_of_some _ (by rw[Heap.get?_update_ne _ _ _ _ nb];exact e))
 refine(?_:wpAny (model prog w) A _ P E {s with heap:=((s.heap.update a (Obj.mapSeq fun _=> #[])).push (seqObj "tuple" vs.toArray 0)).push (seqObj "list" #[] 0)})
 dsimp only
 by_cases h2:vs.toArray.size<2
 ·rw[if_pos h2,if_pos h2]
  refine wpAny_bind (wpAny_pure ?_)
  rw[StateT.run_pure]
  refine wpAny_bind (wpAny_pure ?_)
  dsimp only
  have e2:((vs.toArray.zip vs.toArray).map (·.2))=vs.toArray:=by
   apply Array.toList_inj.mp
   simp
   exact List.map_snd_zip (Nat.le_refl _)
  refine wpAny_bind (seqEpoch_at ho6 rfl (wpAny_bind (listUpdate_at ho6 rfl ?_ (hsz2:=by
   refine Nat.le_trans (Nat.le_of_eq (congrArg Array.size e2)) ?_
   rw[List.size_toArray,sizeLine_eq]
   omega))))
  simp only[bne_self_eq_false,Bool.false_eq_true,if_false]
  refine wpAny_pure ?_
  have:=q vs.toArray (by unfold sortBy;rw[if_pos (by simpa using h2)])
  rw[←e2] at this
  exact this
 ·rw[if_neg h2,if_neg h2]
  have hn:2<=vs.length:=by simpa using h2
  obtain⟨gs,kt,lg,mg⟩:=ht6.firsts
  have lf:=ht.len
  refine wpAny_bind (kat_kind (T:=.type "str") kt (by omega) (fun v hv=> ?_) rfl ?_)
  ·obtain⟨x,t,rfl⟩:=mg v hv
   exact .now
  obtain⟨ok,perm⟩:=oO vs.length h3 hn
  have est:SortSt.mk' (tuples' true) (vs.toArray.zip vs.toArray) #[] 7 none=kas_st (tuples' true) (pairsOf vs) (List.toArray (List.range vs.length)):=by
   have e:=kas_range (pairsOf vs)
   rw[pairsOf_size] at e
   refine(?_:SortSt.mk' (tuples' true) (pairsOf vs) #[] 7 none=SortSt.mk' (tuples' true) ((List.toArray (List.range vs.length)).map (kas_item (pairsOf vs))) #[] 7 none)
   rw[e]
  refine(?_:wpAny (model prog w) A (StateT.run sortRuns' (SortSt.mk' (tuples' true) (vs.toArray.zip vs.toArray) #[] 7 none) >>= _) P E _)
  rw[est]
  have run:=kas_runs (prog:=prog) (w:=w) (A:=A) (E:=E) (κ:=tuples' true) (it:=pairsOf vs) (n:=vs.length)
   (s:={s with heap:=((s.heap.update a (Obj.mapSeq fun _=> #[])).push (seqObj "tuple" vs.toArray 0)).push (seqObj "list" #[] 0)})
   (G:=fun p s'=>p=g5 (EZ fs) (kas_sort vs.length)/\s'={s with heap:=((s.heap.update a (Obj.mapSeq fun _=> #[])).push (seqObj "tuple" vs.toArray 0)).push (seqObj "list" #[] 0)})
   (Q:=fun _ st' s'=>s'={s with heap:=((s.heap.update a (Obj.mapSeq fun _=> #[])).push (seqObj "tuple" vs.toArray 0)).push (seqObj "list" #[] 0)}/\failedOf st'=none/\∃p,p=g5 (EZ fs) (kas_sort vs.length)/\arrOf st'=p.map (kas_item (pairsOf vs)))
   hn (by omega) (fun p' st' s' a1 a2 a3 a4=>⟨a4.2,a3,p',a4.1,a2⟩) (sT (n:=vs.length) (fun i j C hi hj hij hC=> ?_) _ ok ⟨rfl,rfl⟩)
  ·refine wpAny_bind (wpAny_mono run ?_ fun _ _ e=>e)
   rintro⟨⟨⟩,st'⟩ s' ⟨rfl,hf,p,hp,har⟩
   dsimp only
   have hout:((arrOf st').map (·.2)).toList=sortBy fs Value.none vs:=by
    unfold sortBy
    rw[if_neg (by omega),har,Array.map_map,Array.toList_map,hp]
    refine List.map_congr_left fun k _=> ?_
    show(kas_item (pairsOf vs) k).2=_
    rw[kas_item_eq]
   have hperm2:=dQ (d:=Value.none) fs vs h3
   have hsz:((arrOf st').map (·.2)).size=vs.length:=by
    have:=congrArg List.length hout
    rw[hperm2.length_eq] at this
    simpa using this
   refine wpAny_bind (seqEpoch_at ho6 rfl (wpAny_bind (listUpdate_at ho6 rfl ?_ (hsz2:=by
    refine Nat.le_trans (Nat.le_of_eq hsz) ?_
    rw[sizeLine_eq]
    omega))))
   rw[hf]
   simp only[bne_self_eq_false,Bool.false_eq_true,if_false]
   exact wpAny_pure (q _ hout)
  ·unfold kas_cmp
   rw[kas_item_eq,kas_item_eq]
   obtain⟨x,ox,xs,nx,tx,ex,gx,dx,fx⟩:=ht6.get (i:=i) (by omega)
   obtain⟨y,oy,ys,ny,ty,ey,gy,dy,fy⟩:=ht6.get (i:=j) (by omega)
   dsimp only
   rw[ex,ey]
   have hne:¬fs.getD i ""=fs.getD j "":=fun z=>by
    have hi':i<fs.length:=by omega
    have hj':j<fs.length:=by omega
    rw[List.getD_eq_getElem?_getD,List.getD_eq_getElem?_getD,gQe hi',gQe hj'] at z
    have z':fs[i]=fs[j]:=z
    rcases Nat.lt_or_gt_of_ne hij with lt|lt
    ·exact List.pairwise_iff_getElem.mp hd i j hi' hj' lt z'
    ·exact List.pairwise_iff_getElem.mp hd j i hj' hi' lt z'.symm
   refine kat_lt gx dx gy dy ?_
   obtain⟨xr,hxr⟩:∃r,xs.toList=.str (fs.getD i "") tx::r:=by
    cases e:xs.toList with
    |nil=>have:=congrArg (·[0]?) e;simp[fx] at this
    |cons v r=>have:=congrArg (·[0]?) e;simp[fx] at this;exact⟨r,by rw[List.getD_eq_getElem?_getD,this]⟩
   obtain⟨yr,hyr⟩:∃r,ys.toList=.str (fs.getD j "") ty::r:=by
    cases e:ys.toList with
    |nil=>have:=congrArg (·[0]?) e;simp[fy] at this
    |cons v r=>have:=congrArg (·[0]?) e;simp[fy] at this;exact⟨r,by rw[List.getD_eq_getElem?_getD,this]⟩
   rw[hxr,hyr,List.zip_cons_cons]
   refine kat_cons (wpAny_eqBool_str ?_)
   rw[decide_eq_false hne]
   exact kat_no (oneLt_str hC)
theorem uB{l:Addr}{vs:List Value}{fs:List Str}{Q:Value->Shared->Prop}(hl:s.heap.IsList l vs.toArray)(h3:vs.length<=3)(ht:dN s.heap vs fs)(hd:fs.Nodup)
  (q:∀out:Array Value,out.toList=sortBy fs Value.none vs->Q (.ref (s.heap.objs.size+1)) {s with heap:=sortedAll s.heap vs out}):wpAny (model prog w) A (call (.builtin "sorted") [.ref l]) Q E s:=by
 refine Calls.call_function_entry kind_sorted plain_sorted entry_sorted (args_sorted1 _) ?_
 unfold Builtin.«sorted»
 refine wpAny_bind (m:=checkCount "sorted" 1 1 _) (wpAny_pure (wpAny_bind (collect_list hl (wpAny_bind (wpAny_newList ?_ (by rw[sizeLine_eq];omega))) (by rw[sizeLine_eq];omega))))
 have sz:((s.heap.push (seqObj "list" #[] 0)).update s.heap.objs.size (Obj.mapSeq (·++vs.toArray))).objs.size=s.heap.objs.size+1:=by rw[Heap.size_update,size_push']
 have gl:(((s.heap.push (seqObj "list" #[] 0)).update s.heap.objs.size (Obj.mapSeq (·++vs.toArray))).push (seqObj "list" vs.toArray 0)).get? (s.heap.objs.size+1)=some (seqObj "list" vs.toArray 0):=by
  rw[←sz]
  exact Heap.get?_push_size _ rfl
 have ht':dN (((s.heap.push (seqObj "list" #[] 0)).update s.heap.objs.size (Obj.mapSeq (·++vs.toArray))).push (seqObj "list" vs.toArray 0)) vs fs:=ht.keep fun b o e _=>by
  have lt:b<s.heap.objs.size:=Heap.lt_size e
  refine Heap.get?_push_of_some _ ?_
  rw[Heap.get?_update_ne _ _ _ _ (Nat.ne_of_lt lt)]
  exact Heap.get?_push_of_some _ e
 refine(?_:wpAny _ _ _ _ _ {s with heap:=((s.heap.push (seqObj "list" #[] 0)).update s.heap.objs.size (Obj.mapSeq (·++vs.toArray))).push (seqObj "list" vs.toArray 0)})
 rw[sz]
 refine wpAny_bind (wpAny_holding (wpAny_call_entry slot_list_sort ⟨_,gl,rfl⟩ entry_list_sort (xF gl h3 ht' hd fun out hp=>⟨_,rfl,?_⟩) (args_list_sort _)))
 exact wpAny_pure ⟨_,rfl,q out hp⟩
end
end Zp
namespace L2
open PySem PySem.Spec PyProof.Rows
section
variable{X:Cx}
def B6(K:PySem.W.Frag):List V->Hp->VK->Prop:=fun xs H Q=>∃(a:Addr) (rs:List Addr) (ss:List Str),xs= [.ref a]/\gX K H a (rs.map V.ref)/\rs.length<=3/\rg H rs ss/\ss.Nodup/\∀(l:Addr),H l=none->Q (.ref l) (upd H l (.lst ((Zp.sortBy ss 0 rs).map V.ref)))
theorem qH:i0 X (.builtin "sorted") (B6 X.K):=by
 intro pins s σ H xs us Q I r h
 obtain⟨a,rs,ss,rfl,ha,h3,hF,hd,q⟩:=h
 obtain⟨u,rfl,rx⟩:=vals1 r
 cases (show u=Value.ref a from rx)
 obtain⟨its,rv,pl,hz⟩:=I.list ha
 cases rF rv
 have big:s.heap.objs.size<=s.heap.objs.size+1:=Nat.le_succ _
 refine Zp.uB pl.isList (by simpa using h3) (vn I hF) hd fun out hp=> ?_
 have e1:out.toList=(Zp.sortBy ss 0 rs).map Value.ref:=by
  rw[hp]
  unfold Zp.sortBy
  rw[lQm]
  split
  ·rfl
  ·rename_i h2
   rw[List.map_map]
   obtain⟨_,perm⟩:=Zp.oO rs.length h3 (by omega)
   have hperm:(Zp.g5 (Zp.EZ ss) (PySem.W.kas_sort rs.length)).toList.Perm (List.range rs.length):=List.isPerm_iff.mp (List.all_eq_true.mp perm _ (Zp.fX _ _))
   refine List.map_congr_left fun i hi=> ?_
   have hl:i<rs.length:=List.mem_range.mp (hperm.mem_iff.mp hi)
   show(rs.map Value.ref).getD i Value.none=Value.ref (rs.getD i 0)
   rw[List.getD_eq_getElem?_getD,List.getD_eq_getElem?_getD,gQm,gQe hl]
   rfl
 obtain⟨e,he⟩:=sortedAll_at s.heap (rs.map Value.ref) out
 refine⟨.ref (s.heap.objs.size+1),_,I.laid (a:=s.heap.objs.size+1) (o:=.lst ((Zp.sortBy ss 0 rs).map V.ref)) (h':=sortedAll s.heap (rs.map Value.ref) out) (t':=s.toks) (fun b o hb=>sortedAll_old hb) big ⟨?_,out.toList,e,?_,?_⟩,rfl,q _ (I.hok.fresh big)⟩
 ·rw[lQm,(Zp.dQ ss rs h3).length_eq]
  exact Nat.le_trans h3 (by decide)
 ·have:=qC (Zp.sortBy ss 0 rs)
  rw[←e1] at this
  exact this
 ·simpa using he
end
end L2
namespace DL
open PySem PySem.Spec PyProof.Rows L2
def rK(a b:Str):Prop:=¬(b.cps.toList<a.cps.toList)
instance(a b:Str):Decidable (rK a b):=by unfold rK;infer_instance
theorem y7(a b:Str):rK a b\/rK b a:=by
 by_cases h:b.cps.toList<a.cps.toList
 ·exact .inr fun h'=>List.lt_asymm h h'
 ·exact .inl h
theorem sA{a b c:Str}(h1:rK a b)(h2:rK b c):rK a c:=by
 unfold rK at *
 rw[List.not_lt] at *
 exact List.le_trans h1 h2
theorem zN{a b:Str}(h1:rK a b)(h2:rK b a):a=b:=by
 unfold rK at *
 rw[List.not_lt] at *
 have:=List.le_antisymm h1 h2
 cases a
 cases b
 simp only[Str.mk.injEq]
 exact Array.toList_inj.mp this
def wy(x:Str):List Str->List Str
 | []=> [x]
 |y::r=>if rK x y then x::y::r else y::wy x r
def mR:List Str->List Str
 | []=> []
 |x::r=>wy x (mR r)
theorem mN(x:Str):∀l:List Str,(wy x l).Perm (x::l)
 | []=>List.Perm.refl _
 | y::r=>by
   unfold wy
   split
   · exact List.Perm.refl _
   · exact((mN x r).cons y).trans (List.Perm.swap _ _ _)
theorem gM:∀l:List Str,(mR l).Perm l
 | []=>List.Perm.refl _
 |x::r=>(mN x _).trans ((gM r).cons x)
theorem nT{x:Str}:∀{l:List Str},l.Pairwise rK->(wy x l).Pairwise rK
 | [],_=>by simp[wy]
 | y::r,h=>by
   rw[List.pairwise_cons] at h
   unfold wy
   split
   · rename_i c
     refine List.pairwise_cons.mpr ⟨fun z hz=> ?_,List.pairwise_cons.mpr h⟩
     rcases List.mem_cons.mp hz with rfl|hz
     · exact c
     · exact sA c (h.1 z hz)
   · rename_i c
     refine List.pairwise_cons.mpr ⟨fun z hz=> ?_,nT h.2⟩
     rcases List.mem_cons.mp ((mN x r).mem_iff.mp hz) with rfl|hz
     · exact(y7 _ _).resolve_left c
     · exact h.1 z hz
theorem j8:∀l:List Str,(mR l).Pairwise rK
 | []=>List.Pairwise.nil
 |x::r=>nT (j8 r)
theorem ub:∀{l:List Str},sortedS l=true->l.Pairwise rK
 | [],_=>List.Pairwise.nil
 | x::r,h=>by
   have go:∀(r:List Str) (x:Str),risingS x r=true->(x::r).Pairwise rK:=by
     intro r
     induction r with
     |nil=>intro x _;simp
     | cons y r ih=>
       intro x h
       unfold risingS at h
       simp only[Bool.and_eq_true] at h
       have h2:=ih y h.2
       have xy:rK x y:=by
         have:=h.1
         unfold rK
         rw[ltCps_eq] at this
         simpa using this
       refine List.pairwise_cons.mpr ⟨fun z hz=> ?_,h2⟩
       rcases List.mem_cons.mp hz with rfl|hz
       · exact xy
       · exact sA xy ((List.pairwise_cons.mp h2).1 z hz)
   exact go r x h
theorem yU{out ss:List Str}(h:sortedS out=true)(p:out.Perm ss):out=mR ss:=
 List.Perm.eq_of_pairwise (le:=rK) (fun a b _ _ h1 h2=>zN h1 h2) (ub h) (j8 ss) (p.trans (gM ss).symm)
end DL
namespace L2
open PySem PySem.Spec PyProof.Rows
section
variable{X:Cx}
theorem zp:FF X "tuple.count" (fun x vs H Q=>∃a xs y,x=.ref a/\vs= [y]/\gD X.K H a xs/\eS y=true/\xs.all eS=true/\Q (.int ((xs.countP fun z=>jQ z y:Nat):Int)) H):=by
 intro pins s σ H x vs v us Q I rx rv h
 obtain⟨a,xs,y,rfl,rfl,hq,fy,fs,q⟩:=h
 cases rx
 obtain⟨u,rfl,ru⟩:=rv.one
 obtain⟨its,r,pl,hz⟩:=I.tuple hq
 obtain⟨⟨cls,dd,dat,sl⟩,e,hc,n,hd⟩:=pl
 simp only at hc hd
 subst hc hd
 have cnt:∀{xs:List V} {its:List Value},bt xs its->xs.all eS=true->its.countP (uF y)=xs.countP fun z=>jQ z y:=by
  intro xs its r
  induction r with
  |nil=>intro _;rfl
  | cons h t ih=>
    intro f
    simp only[List.all_cons,Bool.and_eq_true] at f
    rw[List.countP_cons,List.countP_cons,ih f.2,qe h f.1]
 refine call_meets PySem.F.slot_tuple_count ⟨_,e,rfl⟩ PySem.F.entry_tuple_count (PySem.F.args_tuple_count_2 _ _)
  (SeqAt.tuple_countAt a its.toArray n dd sl u (uF y))
  ⟨e,fun w hw=>fV ru fy r fs w (by simpa using hw),⟨.int _,H,I.tok _,⟨_,rfl⟩,?_⟩⟩
 rw[cnt r fs]
 exact q
end
end L2
namespace DL
open PySem PySem.Spec L2
section
variable{X:Cx}{a b e:Expr}{pos:Pos}
def sr:List D->Option (List Str)
 | []=>some []
 |.str x::r=>(sr r).bind fun xs=>some (x::xs)
 |_::_=>none
theorem vh{M:Md}{ρ:List Addr}{H:Hp}:∀{ds:List D} {vs:List V} {xs:List Str},aU M ρ H ds vs->sr ds=some xs->vs=xs.map V.str
 | [],_,_,h,e=>by cases h;cases e;rfl
 | d::ds,_,_,h,e=>by
   cases d with
   | str b=>
     simp only[sr] at e
     obtain⟨bs',e1,e⟩:=bind_some e
     cases e
     cases h with
     | cons h hs=>
       cases h
       rw[vh hs e1]
       rfl
   |_=>cases e
theorem rP{M:Md}{ρ:List Addr}{H:Hp}:∀ss:List Str,aU M ρ H (ss.map D.str) (ss.map V.str)
 | []=>.nil
 |s::ss=>.cons (.str s) (rP ss)
def yq(f:d_):fo:=fun Γ S=>(f Γ S).bind fun(p,S1)=>if p.2.isL=true then(sr p.1).bind fun ss=>if ss.length<64 then some ((mR ss).map D.str,S1) else none else none
theorem Bi{f:d_}{p:Pos}(hg:Gl X "sorted")(hm:X.mg "sorted"=none)(ha:PE X a (tQ (md X) f))(hs:starEach [a] X.env= [(false,eval a X.env)]:=by rfl):
  PE X (.Call (.Name "sorted" p) [a] [] pos) (tL (md X) (yq f)):=
 jB (dH t8 hg hm PyProof.Rows.boot_sorted (dr ha fm hs) (he:=hs)) fun σ H Q qq=>by
  obtain⟨ρ,Γ,S,d,S',ok,e,q⟩:=qq
  obtain⟨⟨⟨ds,t⟩,S1⟩,e1,e⟩:=bind_some e
  dsimp only at e
  split at e
  ·rename_i c
   obtain⟨ss,e2,e⟩:=bind_some e
   split at e
   ·rename_i c2
    obtain⟨rfl,rfl⟩:=cm e
    refine⟨ρ,Γ,S,ds,t,S1,ok,e1,fun ρ' a vs H' x st h r=>⟨a,ss,rfl,?_,c2,fun l out hl h1 h2=> ?_⟩⟩
    ·rw[←vh r e2];exact h.sqL c
    ·cases yU h1 h2
     exact q _ _ _ _ (x.trans (bX.laid hl)) (st.lay hl) (x.grow _ hl) (da x st hl) bJ (rP _)
   ·cases e
  ·cases e
def m_:List D->Option (List Str)
 | []=>some []
 |.tup (.str x::_)::r=>(m_ r).bind fun xs=>some (x::xs)
 |_::_=>none
theorem v7{M:Md}{ρ:List Addr}{H:Hp}:∀{ds:List D} {vs:List V} {xs:List Str},aU M ρ H ds vs->m_ ds=some xs->∃rs:List Addr,vs=rs.map V.ref/\rg H rs xs
 | [],_,_,h,e=>by cases h;cases e;exact⟨[],rfl,.nil⟩
 | .tup (.str x::us)::r,_,_,h,e=>by
   simp only[m_] at e
   obtain⟨bs',e1,e⟩:=bind_some e
   cases e
   cases h with
   | cons h hs=>
     cases h with
     | tup h hr=>
       obtain⟨rs,rfl,F⟩:=v7 hs e1
       cases hr with
       | cons hx hr=>
         cases hx
         exact⟨_::rs,rfl,.cons h F⟩
 |.tup (.non::_)::_,_,_,_,e=>by cases e
 |.tup (.bl _::_)::_,_,_,_,e=>by cases e
 |.tup (.int _::_)::_,_,_,_,e=>by cases e
 |.tup (.tup _::_)::_,_,_,_,e=>by cases e
 |.tup (.ref _::_)::_,_,_,_,e=>by cases e
 |.tup (.fn _::_)::_,_,_,_,e=>by cases e
 |.tup []::_,_,_,_,e=>by cases e
 |.non::_,_,_,_,e=>by cases e
 |.bl _::_,_,_,_,e=>by cases e
 |.int _::_,_,_,_,e=>by cases e
 |.str _::_,_,_,_,e=>by cases e
 |.ref _::_,_,_,_,e=>by cases e
 |.fn _::_,_,_,_,e=>by cases e
def pO(ss:List Str)(ds:List D):List D:=Zp.sortBy ss .non ds
theorem pq{α β:Type}{R:α->β->Prop}{ss:List Str}{xs:List α}{ys:List β}{d:α}{d':β}(hl:xs.length=ys.length)(h3:xs.length<=3)(h:∀(i:Nat) (x:α),xs[i]?=some x->∃y,ys[i]?=some y/\R x y):
  ∀(i:Nat) (x:α),(Zp.sortBy ss d xs)[i]?=some x->∃y,(Zp.sortBy ss d' ys)[i]?=some y/\R x y:=by
 intro i x e
 unfold Zp.sortBy at *
 rw[←hl]
 split at e
 ·rename_i c;rw[if_pos c];exact h i x e
 ·rename_i h2
  obtain⟨_,perm⟩:=Zp.oO xs.length h3 (by omega)
  have hperm:(Zp.g5 (Zp.EZ ss) (PySem.W.kas_sort xs.length)).toList.Perm (List.range xs.length):=List.isPerm_iff.mp (List.all_eq_true.mp perm _ (Zp.fX _ _))
  rw[gQm] at e
  obtain⟨k,hk,e⟩:=oQm.mp e
  have hlt:k<xs.length:=List.mem_range.mp (hperm.mem_iff.mp (mQg hk))
  have ex:xs[k]?=some x:=by
   rw[List.getD_eq_getElem?_getD,gQe hlt] at e
   rw[gQe hlt]
   exact congrArg some e
  obtain⟨y,ey,r⟩:=h k x ex
  refine⟨y,?_,r⟩
  rw[if_neg (by omega),gQm,hk]
  simp[List.getD_eq_getElem?_getD,ey]
theorem aU.of_get{M:Md}{ρ:List Addr}{H:Hp}:∀{ds:List D} {vs:List V},ds.length=vs.length->(∀(i:Nat) (d:D),ds[i]?=some d->∃v,vs[i]?=some v/\Rel M ρ H d v)->aU M ρ H ds vs
 | [],[],_,_=>.nil
 | [],_::_,h,_=>by cases h
 |_::_,[],h,_=>by cases h
 | d::ds,v::vs,h,g=>by
   obtain⟨v',e,r⟩:=g 0 d rfl
   cases e
   exact .cons r (aU.of_get (Nat.succ.inj h) fun i d hd=>by
     obtain⟨v,e,r⟩:=g (i+1) d (by simpa using hd)
     exact⟨v,by simpa using e,r⟩)
def uD(f:d_):fo:=fun Γ S=>(f Γ S).bind fun(p,S1)=>if p.2.isL=true then(m_ p.1).bind fun ss=>if p.1.length<=3/\ss.Nodup then some (pO ss p.1,S1) else none else none
theorem yT{f:d_}{p:Pos}(hg:Gl X "sorted")(hm:X.mg "sorted"=none)(ha:PE X a (tQ (md X) f))(hs:starEach [a] X.env= [(false,eval a X.env)]:=by rfl):
  PE X (.Call (.Name "sorted" p) [a] [] pos) (tL (md X) (uD f)):=
 jB (dH qH hg hm PyProof.Rows.boot_sorted (dr ha fm hs) (he:=hs)) fun σ H Q qq=>by
  obtain⟨ρ,Γ,S,d,S',ok,e,q⟩:=qq
  obtain⟨⟨⟨ds,t⟩,S1⟩,e1,e⟩:=bind_some e
  dsimp only at e
  split at e
  ·rename_i c
   obtain⟨ss,e2,e⟩:=bind_some e
   split at e
   ·rename_i c2
    obtain⟨rfl,rfl⟩:=cm e
    refine⟨ρ,Γ,S,ds,t,S1,ok,e1,fun ρ' a vs H' x st h r=> ?_⟩
    obtain⟨rs,rfl,F⟩:=v7 r e2
    have hl:ds.length=rs.length:=by have:=r.length;simpa using this
    refine⟨a,rs,ss,rfl,h.sqL c,by omega,F,c2.2,fun l hl'=> ?_⟩
    refine q _ _ _ _ (x.trans (bX.laid hl')) (st.lay hl') (x.grow _ hl') (da x st hl') bJ (aU.ext (bX.laid hl') ?_)
    refine aU.of_get ?_ fun i d hd=> ?_
    ·rw[lQm]
     unfold pO
     rw[(Zp.dQ ss ds c2.1).length_eq,(Zp.dQ ss rs (by omega)).length_eq,hl]
    ·obtain⟨y,ey,r'⟩:=pq (R:=fun(d:D) (a:Addr)=>Rel (md X) ρ' H' d (.ref a)) (d':=0) hl c2.1 (fun i d hd=>by
      obtain⟨v,ev,rv⟩:=r.get hd
      rw[gQm] at ev
      obtain⟨y,ey,rfl⟩:=oQm.mp ev
      exact⟨y,ey,rv⟩) i d hd
     exact⟨.ref y,by rw[gQm,ey];rfl,r'⟩
   ·cases e
  ·cases e
end
theorem xV{P:Program}{w:World}{K:PySem.W.Frag}{mg:Str->Option Value}{base:Heap}{f:Addr}{fd:FuncData}{ps:List Str}{k n:Nat}:bh P w K mg base dt k f fd ps (dG ⟨K,mg⟩ n fun _ _=>none):=
 {len:=fun vs H Q E h=>by
   obtain⟨_,_,_,_,_,_,_,_,e,_⟩:=h
   cases e
  run:=fun A outer s H args us vs Q E _ _ _ _ h=>by
   obtain⟨_,_,_,_,_,_,_,_,e,_⟩:=h
   cases e}
end DL
namespace Zq
open PySem PyProof.Rows
end Zq
namespace L2
open PySem PyProof.Rows Zq
end L2
namespace DL
open PySem PySem.Spec L2
structure x9(P:Program)(w:World)(K:PySem.W.Frag)(mg:Str->Option Value)(x:Str)(tbl:List (Str×Str)):Prop where
 at_:∃a,mg x=some (.ref a)/\∀h:Heap,K.In h->∃vs,h.DictOf (bF P w) a vs/\∀k nm,tbl.lookup k=some nm->∃f,valueAt vs (Sum.inr k:Key)=some (.ref f)/\mg nm=some (.ref f)
section
variable{X:Cx}{a b c e:Expr}{pos:Pos}
def GE(tbl:List (Str×Str))(g:bq):bq:=fun Γ S=>(g Γ S).bind fun(y,S1)=>match y with
 |.str x=>(tbl.lookup x).bind fun nm=>some (.fn nm,S1)
 |_=>none
theorem Ci{x:Str}{tbl:List (Str×Str)}{g:bq}{p:Pos}(hD:x9 X.prog X.w X.K X.mg x tbl)(hg:Gl X x)(hb:PE X b (tD (md X) g))(hs:Cq b)(hd:(x==("__debug__":Str))=false:=by decide):
  PE X (.Subscript (.Name x p) b pos) (tD (md X) (GE tbl g)):=by
 rintro pins s σ H Q I ⟨ρ,Γ,S,d,S',ok,e,q⟩
 obtain⟨a,hm,hK⟩:=hD.at_
 obtain⟨⟨y,S1⟩,e1,e⟩:=bind_some e
 cases y with
 | str z=>
   obtain⟨nm,e2,e⟩:=bind_some e
   obtain⟨rfl,rfl⟩:=cm e
   refine xO PySem.F.slot_dict_getitem.lookup hs (sR I hg hm ?_ hd)
   refine cz (hb pins s σ H (fun v H'=>∃ρ',bX ρ H ρ' H'/\eV (md X) ρ' S1 H'/\Rel (md X) ρ' H' (.str z) v) I ⟨ρ,Γ,S,_,S1,ok,e1,fun ρ' v H' x st r=>⟨ρ',x,st,r⟩⟩) fun iv s2 qr=> ?_
   obtain⟨v,H2,I2,rv,ρ',x2,st2,r2⟩:=qr
   obtain⟨vs,dd,hv⟩:=hK _ I2.kIn
   obtain⟨f,hf,hmf⟩:=hv z nm e2
   cases r2
   have ty:s2.TypeIs (.ref a) "dict":=by
     obtain⟨o,es,ep,h1,h2,h3,_⟩:=dd
     exact⟨o,h1,h2.1⟩
   refine⟨ty,wpAny_getItem_of (vC (k:=Sum.inr z) rv) dd.mapOf hf ?_⟩
   exact⟨.ref f,H2,I2.tok _,rfl,q _ _ _ x2 st2 (.fn hmf)⟩
 |_=>cases e
noncomputable def pQ(i:Nat)(T:List (Str×cZ))(g:fo):bq:=fun Γ S=>match Γ[i]? with
 |some (some (.fn x))=>(T.lookup x).bind fun F=>ao F g Γ S
 |_=>none
theorem CH{i k:Nat}{y:Str}{ps:List Str}{T:List (Str×cZ)}{es:List Expr}{g:fo}{p:Pos}(hT:∀x F,T.lookup x=some F->bH X.prog X.w X.K X.mg X.base k x ps F)(hr:eL k X.A)(hN:X.N[i]?=some y)(hv:Dm X.env.scope y)
  (ha:PA X (e::es) (vy (md X) g)) (hn:nA ps.length g) (hdb:(y==("__debug__":Str))=false:=by decide) (hcd:(y==("__classdict__":Str))=false:=by decide) (he:starEach (e::es) X.env=(false,eval e X.env)::starEach es X.env:=by rfl) (hpl:(backTo pos (starEach es X.env)).any (·.1)=false:=by rfl):
  PE X (.Call (.Name y p) (e::es) [] pos) (tD (md X) (pQ i T g)):=by
 rintro pins s σ H Q I ⟨ρ,Γ,S,d,S',ok,e,q⟩
 unfold pQ at e
 split at e
 ·rename_i x hx
  obtain⟨F,e1,e⟩:=bind_some e
  obtain⟨f,fd,G,bb,kp,m⟩:=(hT x F e1).ex
  obtain⟨v,hσ,rv⟩:=ok.en.get i _ hx
  cases rv with
  | fn hm=>
    have hh:(md X).mg x=some (.ref f):=m
    rw[hm] at hh
    cases hh
    refine wpAny_Call_Name_kw (cz (z4 hN hv hdb hcd pins s σ H (fun v' H'=>v'=.ref f/\H'=H) I ⟨_,hσ,rfl,rfl⟩) fun u s1 qr=> ?_)
    obtain⟨v',H',I1,r1,e1,e2⟩:=qr
    subst e1 e2
    cases (show u=Value.ref f from r1)
    refine PySem.W.callWith_K (h₀:=X.base) I.ok.mod.kin kp (cz (ha pos pins s1 σ H' _ I1 (xZ hn σ H' Q ⟨ρ,Γ,S,d,S',ok,e,q⟩)) fun us s2 ⟨vs,H1,I2,r,q2⟩=>⟨I2.kIn,?_⟩) he hpl
    exact BA G hr bb .nil AE I2 r q2
 ·cases e
end
theorem wW(w:World)(x:Str):PyData.keyHash w.params x=hashStr w x:=by
 unfold PyData.keyHash hashStr
 first|rfl|simp
inductive Al(w:World)(mg:Str->Option Value):List DictEntry->List (Str×Str)->Prop
 |nil:Al w mg [] []
 |cons {x nm:Str} {t:Tok} {f:Addr} {es:List DictEntry} {tbl:List (Str×Str)}:mg nm=some (.ref f)->Al w mg es tbl->Al w mg (⟨PyData.keyHash w.params x,.str x t,.ref f⟩::es) ((x,nm)::tbl)
theorem Al.keys{P:Program}{w:World}{mg:Str->Option Value}{es:List DictEntry}{tbl:List (Str×Str)}(al:Al w mg es tbl):∀e∈es,∃k,(bF P w).is k e.key=true/\e.hash=(bF P w).hash k:=by
 induction al with
 |nil=>intro e h;cases h
 | @cons x nm t f es tbl hm al ih=>
   intro e h
   rcases List.mem_cons.mp h with rfl|h
   · exact⟨Sum.inr x,mC x t,wW w x⟩
   · exact ih e h
theorem Al.pairs{P:Program}{w:World}{mg:Str->Option Value}{es:List DictEntry}{tbl:List (Str×Str)}(al:Al w mg es tbl):∃vs:List (Key×Value),Pairs (bF P w) es vs/\vs.map (·.1)=tbl.map (fun p=>Sum.inr p.1)∧
  ∀k nm,tbl.lookup k=some nm->∃f,valueAt vs (Sum.inr k:Key)=some (.ref f)/\mg nm=some (.ref f):=by
 induction al with
 |nil=>exact⟨[],.nil,rfl,fun k nm h=>by cases h⟩
 | @cons x nm t f es tbl hm al ih=>
   obtain⟨vs,h1,h2,h3⟩:=ih
   refine⟨(Sum.inr x,.ref f)::vs,.cons (mC x t) rfl h1,by simp[h2],fun k n h=> ?_⟩
   by_cases c:k=x
   · subst c
     rw[List.lookup_cons_self] at h
     cases h
     refine⟨f,?_,hm⟩
     unfold valueAt
     rw[List.find?_cons_of_pos (by simp)]
     rfl
   · have hb:(k==x)=false:=by simpa using c
     rw[List.lookup_cons,hb] at h
     obtain⟨g,g1,g2⟩:=h3 k n h
     refine⟨g,?_,g2⟩
     unfold valueAt at g1⊢
     rw[List.find?_cons_of_neg]
     · exact g1
     · intro z
       have:(Sum.inr x:Key)=Sum.inr k:=by simpa using z
       exact c (Sum.inr.inj this).symm
theorem Bs{P:Program}{w:World}{K:PySem.W.Frag}{mg:Str->Option Value}{x:Str}{tbl:List (Str×Str)}{a:Addr}{es:List DictEntry}{ep:Nat}(hm:mg x=some (.ref a))(l:K.lookup a=some ⟨.type "dict",none,.dict es.toArray ep,#[]⟩)(al:Al w mg es tbl)(nd:(tbl.map (·.1)).Nodup):x9 P w K mg x tbl:=by
 obtain⟨vs,h1,h2,h3⟩:=al.pairs (P:=P)
 refine⟨a,hm,fun h hk=>⟨vs,⟨_,_,_,hk _ _ l,⟨rfl,rfl,rfl⟩,rfl,fun e he=>al.keys e (by simpa using he),by simpa using h1,?_⟩,h3⟩⟩
 rw[h2]
 have:tbl.map (fun p=>(Sum.inr p.1:Key))=(tbl.map (·.1)).map Sum.inr:=by rw[List.map_map];rfl
 rw[this]
 exact List.Pairwise.map _ (fun a b n e=>n (Sum.inr.inj e)) nd
theorem zP{P:Program}{w:World}{K:PySem.W.Frag}{mg:Str->Option Value}{base:Heap}{k:Nat}{ps:List Str}:∀{T:List (Str×cZ)},(∀p∈T,bH P w K mg base k p.1 ps p.2)->∀x F,T.lookup x=some F->bH P w K mg base k x ps F
 | [],_,x,F,h=>by cases h
 | p::T,g,x,F,h=>by
   by_cases c:x=p.1
   · subst c
     rw[List.lookup_cons_self] at h
     cases h
     exact g p (List.mem_cons_self ..)
   · have hb:(x==p.1)=false:=by simpa using c
     rw[List.lookup_cons,hb] at h
     exact zP (fun q hq=>g q (List.mem_cons_of_mem _ hq)) x F h
def vQ:Sp:=fun vs H Q _=>∃(a:Addr) (ns:List Int) (o:Obj),vs= [.ref a]/\H a=some (.frz o (.lst (ns.map V.int)))/\ns.length<=63/\∀H',Q (.bl true) H'
theorem rD{M:Md}{ρ:List Addr}{H:Hp}:∀ns:List Int,aU M ρ H (ns.map D.int) (ns.map V.int)
 | []=>.nil
 |s::ss=>.cons (.int s) (rD ss)
theorem CV{P:Program}{w:World}{K:PySem.W.Frag}{mg:Str->Option Value}{base:Heap}{k:Nat}{f:Addr}{fd:FuncData}{ps:List Str}{F:cZ}(G:bh P w K mg base dt k f fd ps (dG ⟨K,mg⟩ 1 F))
  (h:∀ns:List Int,ns.length<=63->∃S',F [.ref 0] [.frz (ns.map D.int)]=some (.d (.bl true),S')):bh P w K mg base dt k f fd ps vQ:=
 G.imp fun vs H Q E qq=>by
  obtain⟨a,ns,o,e,ha,hl,q⟩:=qq
  subst e
  obtain⟨S',e⟩:=h ns hl
  refine⟨[a],[.frz (ns.map D.int)],[.ref 0],_,S',rfl,.cons (.ref rfl) .nil,⟨rfl,by simp,fun k b o' h1 h2=> ?_⟩,e,fun ρ' v H' x st r=> ?_⟩
  ·cases k with
   |zero=>cases h1;cases h2;exact⟨_,o,ha,rD ns⟩
   |succ k=>simp at h1
  ·cases r
   exact q H'
def wj(K:PySem.W.Frag):Bool:=K.all fun p=>match p.2.data with|.seq _ _=>(match p.2.cls with|.type s=>s !="list" |_=>true)|_=>true
theorem zz{K:PySem.W.Frag}(h:wj K=true){a:Addr}{o:Obj}(e:K.lookup a=some o){its:Array Value}{n:Nat}(hd:o.data=.seq its n):o.cls≠.type "list":=by
 intro hc
 have gen:∀(K:List (Addr×Obj)),K.all (fun p=>match p.2.data with|.seq _ _=>(match p.2.cls with|.type s=>s !="list" |_=>true)|_=>true)=true->K.lookup a=some o->False:=by
  intro K
  induction K with
  |nil=>intro _ e;cases e
  | cons p K ih=>
    intro h e
    rw[List.all_cons,Bool.and_eq_true] at h
    obtain⟨b,q⟩:=p
    rw[List.lookup_cons] at e
    by_cases c:a=b
    · subst c
      simp only[BEq.rfl] at e
      cases e
      have h1:=h.1
      simp only[hd,hc] at h1
      simp at h1
    · have hb:(a==b)=false:=by simpa using c
      rw[hb] at e
      exact ih h.2 e
 exact gen K h e
theorem Fx{K:PySem.W.Frag}{H:Hp}{a:Addr}{ns:List Int}(nl:wj K=true)(hl:ns.length<=63)(hO:Cr H)(hS:gX K H a (ns.map V.int)):vQ [.ref a] H (fun v _=>v=.bl true) fun _ _ _=>False:=by
 rcases hS with(h|⟨o,h⟩)|⟨o,its,n,h,hc,_,hd,_⟩
 ·rcases hO a with z|⟨o,xs,z⟩
  ·rw[h] at z;cases z
  ·rw[h] at z;cases z
 ·exact⟨a,ns,o,rfl,h,hl,fun _=>rfl⟩
 ·exact absurd hc (zz nl h hd)
theorem Ff{l:PySem.W.OpenLaw}{q:Program}{loose:List Str}{XP:(Str->Option Value)->Heap->Prop}{YP:World->Heap->Prop}{d:DefRec}{K:Params->PySem.W.Frag}{k:Nat}(hn:l.most=some 63)(hdf:d.params.defaults= [])(hr:eL k PySem.callerA)
  (hY:∀(w:World) (h:Heap),YP w h->(K w.params).In h) (nl:∀w:World,wj (K w.params)=true)
  (F:∀(w:World) (mg:Str->Option Value) (fa:Addr) (h:Heap),(K w.params).In h->h.Ns mainGlobals mg->mg d.name=some (.ref fa)→
   ∃fd:FuncData,(∀(s:Shared) (u:Value),BindsTo s fd ⟨[u],[]⟩ [("_law_script",u)])/\∀base:Heap,(K w.params).In base->base.Ns mainGlobals mg->bh l.prog w (K w.params) mg base dt k fa fd ["_law_script"] vQ):
  PySem.W.WalkO q loose XP YP l.row.toRowW d [] (fun f vs=>PySem.call f vs):=
 L2.CL (n:=63) (k:=k) (x:="_law_script") (CX:=fun _=>dt) (sp:=fun _=>vQ) hn (by decide) hdf hr hY F (fun w H a ns hl hO hS=>Fx (nl w) hl hO hS) fun _ _ _ _ _ z=>z
end DL
namespace DL
open PySem PySem.Spec L2 PyProof.Rows
section
variable{X:Cx}{x:Str}{e:Expr}{f:bq}{pos pos':Pos}
theorem bg(i:Nat)(hN:X.N.Nodup)(he:PE X e (tD (md X) f))(hi:X.N[i]?=some x:=by rfl)(hx:Loc X.env.scope x:=by first|exact Or.inl rfl|exact Or.inr rfl)(hs:swapsWith e (some (.Name x pos')) pos.line X.env=pure false:=by rfl)
  (hf:X.fn x=true\/X.env.scope.names.lookup x=some .local:=by first|exact .inl rfl|exact .inr rfl|assumption):PS X (.Assign [.Name x pos'] e pos) (tS (md X) (aV i f)):=F2 (EA hN hi hx he hs hf)
theorem F6(i:Nat)(hN:X.N.Nodup)(hi:X.N[i]?=some x:=by rfl)(hx:Loc X.env.scope x:=by first|exact Or.inl rfl|exact Or.inr rfl)(hf:X.fn x=true\/X.env.scope.names.lookup x=some .local:=by first|exact .inl rfl|exact .inr rfl|assumption):PG X (.Name x pos) (pM i):=uf hN hi hx hf
theorem bj(i:Nat)(hN:X.N.Nodup)(hi:X.N[i]?=some x:=by rfl)(hx:Loc X.env.scope x:=by first|exact Or.inl rfl|exact Or.inr rfl)(hf:X.fn x=true\/X.env.scope.names.lookup x=some .local:=by first|exact .inl rfl|exact .inr rfl|assumption):PG X (.Name x pos) (tG (md X) (bR i)):=Ae (uf hN hi hx hf)
theorem eU{N:List Str}{scope:Scope}{cl:List (Str×Addr)}{C:Addr}{s:Shared}{H:Hp}{fp:List Addr}(i:Nat)(hN:N.Nodup:=by decide +kernel)(hi:(aQ X N scope cl C s H fp).N[i]?=some x:=by rfl)(hx:Loc (aQ X N scope cl C s H fp).env.scope x:=by first|exact Or.inl rfl|exact Or.inr rfl)
  (hf:(aQ X N scope cl C s H fp).fn x=true\/(aQ X N scope cl C s H fp).env.scope.names.lookup x=some .local:=by first|exact .inl rfl|exact .inr rfl|assumption):PG (aQ X N scope cl C s H fp) (.Name x pos) (tG (md (aQ X N scope cl C s H fp)) (bR i)):=Ae (uf hN hi hx hf)
theorem v_(i:Nat)(hN:X.N[i]?=some x:=by rfl)(hv:Dm X.env.scope x:=by first|exact Or.inl rfl|exact Or.inr (Or.inl rfl)|exact Or.inr (Or.inr rfl))(hd:(x==("__debug__":Str))=false:=by decide)(hcd:(x==("__classdict__":Str))=false:=by decide):PE X (.Name x pos) (tD (md X) (af i)):=FO (pv i hN hv hd hcd)
end
section
variable{X:Cx}{x:Str}{k k':Nat}{ps:List Str}{F:cZ}{e:Expr}{es:List Expr}{g:fo}{p pos:Pos}
theorem aD(C:bH X.prog X.w X.K X.mg X.base k x ps F)(hr:eL k' X.A)(ha:PA X (e::es) (vy (md X) g))(hk:k<=k':=by first|decide|omega)(hg:Gl X x:=by rfl)
  (hn:nA ps.length g:=by first|exact bG f_|exact bG (bG f_)|exact bG (bG (bG f_))|exact bG (bG (bG (bG f_)))|repeat (first|exact f_|refine bG ?_))
  (hdb:(x==("__debug__":Str))=false:=by decide) (he:starEach (e::es) X.env=(false,eval e X.env)::starEach es X.env:=by rfl) (hpl:(backTo pos (starEach es X.env)).any (·.1)=false:=by rfl):
  PE X (.Call (.Name x p) (e::es) [] pos) (tD (md X) (ao F g)):=Gf C (hr.mono hk) hg ha hn hdb he hpl
theorem gE(C:bH X.prog X.w X.K X.mg X.base k x ps F)(hr:eL k' X.A)(ha:PA X (e::es) (vy (md X) g))(hk:k<=k':=by first|decide|omega)(hg:Gl X x:=by rfl)
  (hn:nA ps.length g:=by first|exact bG f_|exact bG (bG f_)|exact bG (bG (bG f_))|exact bG (bG (bG (bG f_)))|repeat (first|exact f_|refine bG ?_))
  (hdb:(x==("__debug__":Str))=false:=by decide) (he:starEach (e::es) X.env=(false,eval e X.env)::starEach es X.env:=by rfl) (hpl:(backTo pos (starEach es X.env)).any (·.1)=false:=by rfl):
  PE X (.Call (.Name x p) (e::es) [] pos) (tL (md X) (cV F g)):=FC C (hr.mono hk) hg ha hn hdb he hpl
end
theorem D2{us:List Value}(h:us.length=1):∃a0,us= [a0]:=by
 cases us with
 |nil=>simp at h
 | cons x0 us=>
   cases us with
   |cons y us=>simp at h
   |nil=>exact⟨x0,rfl⟩
theorem BP{us:List Value}(h:us.length=2):∃a0 a1,us= [a0,a1]:=by
 cases us with
 |nil=>simp at h
 | cons x0 us=>
   cases us with
   |nil=>simp at h
   | cons x1 us=>
     cases us with
     |cons y us=>simp at h
     |nil=>exact⟨x0,x1,rfl⟩
theorem uj{us:List Value}(h:us.length=3):∃a0 a1 a2,us= [a0,a1,a2]:=by
 cases us with
 |nil=>simp at h
 | cons x0 us=>
   cases us with
   |nil=>simp at h
   | cons x1 us=>
     cases us with
     |nil=>simp at h
     | cons x2 us=>
       cases us with
       |cons y us=>simp at h
       |nil=>exact⟨x0,x1,x2,rfl⟩
theorem oJ{us:List Value}(h:us.length=4):∃a0 a1 a2 a3,us= [a0,a1,a2,a3]:=by
 cases us with
 |nil=>simp at h
 | cons x0 us=>
   cases us with
   |nil=>simp at h
   | cons x1 us=>
     cases us with
     |nil=>simp at h
     | cons x2 us=>
       cases us with
       |nil=>simp at h
       | cons x3 us=>
         cases us with
         |cons y us=>simp at h
         |nil=>exact⟨x0,x1,x2,x3,rfl⟩
theorem G4{us:List Value}(h:us.length=5):∃a0 a1 a2 a3 a4,us= [a0,a1,a2,a3,a4]:=by
 cases us with
 |nil=>simp at h
 | cons x0 us=>
   cases us with
   |nil=>simp at h
   | cons x1 us=>
     cases us with
     |nil=>simp at h
     | cons x2 us=>
       cases us with
       |nil=>simp at h
       | cons x3 us=>
         cases us with
         |nil=>simp at h
         | cons x4 us=>
           cases us with
           |cons y us=>simp at h
           |nil=>exact⟨x0,x1,x2,x3,x4,rfl⟩
structure aW(K:PySem.W.Frag)(x:Str)(st:Stmt)(f:Addr):Prop where
 ex:∃(oc:Value) (od:Option Addr) (kV dc pm:Value) (an:Option Addr) (cd ct:Value) (sl:Array (Option Value)),PySem.W.nsIn K mainGlobals x=some (some (.ref f))∧
  K.lookup f=some ⟨oc,od,.func (PySem.W.fnOf x x (fI st) (eQ st) (ar st) .none kV dc pm an cd ct),sl⟩/\PySem.W.codeIn K cd x=true/\PySem.W.keepIn K (.ref f)=true
theorem aW.of{K:PySem.W.Frag}{x:Str}{st:Stmt}{f:Addr}{oc:Value}{od:Option Addr}{kV dc pm:Value}{an:Option Addr}{cd ct:Value}{sl:Array (Option Value)}(a:PySem.W.nsIn K mainGlobals x=some (some (.ref f)))
  (l:K.lookup f=some ⟨oc,od,.func (PySem.W.fnOf x x (fI st) (eQ st) (ar st) .none kV dc pm an cd ct),sl⟩) (c:PySem.W.codeIn K cd x=true) (k:PySem.W.keepIn K (.ref f)=true):aW K x st f:=⟨oc,od,kV,dc,pm,an,cd,ct,sl,a,l,c,k⟩
structure GQ(K:PySem.W.Frag)(mg:Str->Option Value)(x:Str)(st:Stmt)(ps:List Str)(f:Addr):Prop where
 ex:∃fd,dR K x x st f fd/\Binds K fd ps []/\PySem.W.keepIn K (.ref f)=true
 m:mg x=some (.ref f)
theorem aW.ok1{K:PySem.W.Frag}{mg:Str->Option Value}{x:Str}{st:Stmt}{ps:List Str}{f:Addr}{h:Heap}(D:aW K x st f)(X:K.In h)(G:h.Ns mainGlobals mg)
  (hb:∀(kV doc pm:Value) (an:Option Addr) (cdv ct:Value) (us:List Value),us.length=ps.length->bindArgs (PySem.W.fnOf x x (fI st) (eQ st) (ar st) .none kV doc pm an cdv ct) ⟨us,[]⟩=pure (ps.zip us)):GQ K mg x st ps f:=by
 obtain⟨oc,od,kV,dc,pm,an,cd,ct,sl,h1,h2,h3,h4⟩:=D.ex
 exact⟨⟨_,xG h2 h3 h4,(xG h2 h3 h4).binds hb,h4⟩,PySem.W.mg_of X G h1⟩
structure Pk(P:Program)(w:World)(base:Heap):Prop where
theorem GQ.cal{P:Program}{w:World}{base:Heap}{K:PySem.W.Frag}{mg:Str->Option Value}{x:Str}{st:Stmt}{ps:List Str}{f:Addr}{k:Nat}{F:cZ}(O:GQ K mg x st ps f)(Z:Pk P w base)
  (h:∀fd,dR K x x st f fd->Binds K fd ps []->PySem.W.keepIn K (.ref f)=true->mg x=some (.ref f)->bh P w K mg base dt k f fd ps (dG ⟨K,mg⟩ ps.length F)):bH P w K mg base k x ps F:=by
 obtain⟨fd,h1,h2,h3⟩:=O.ex
 exact⟨f,fd,h fd h1 h2 h3 O.m,h2,h3,O.m⟩
end DL
namespace DL
open PySem PySem.Spec L2
def E{α:Type}(f:cx->az->Option (α×az))(Γ:cx)(S:az)(Q:α->az->Prop):Prop:=∃a S',f Γ S=some (a,S')/\Q a S'
def T(f:cC)(Γ:cx)(S:az)(Q:Out->Prop):Prop:=∃o,f Γ S=some o/\Q o
def Fn(F:cZ)(ds:List D)(S:az)(Q:Res->az->Prop):Prop:=∃r S',F ds S=some (r,S')/\Q r S'
def Tg(g:kT)(d:D)(Γ:cx)(S:az)(Q:cx->az->Prop):Prop:=∃Γ' S',g d Γ S=some (Γ',S')/\Q Γ' S'
def Gx(g:nW)(d:List D)(Γ:cx)(S:az)(Q:cx->az->Prop):Prop:=∃Γ' S',g d Γ S=some (Γ',S')/\Q Γ' S'
def Op{α:Type}(o:Option α)(Q:α->Prop):Prop:=∃d,o=some d/\Q d
section
variable{Γ:cx}{S:az}
theorem E.mono{α:Type}{f:cx->az->Option (α×az)}{Q R:α->az->Prop}(h:E f Γ S Q)(i:∀a S,Q a S->R a S):E f Γ S R:=by
 obtain⟨a,S',e,q⟩:=h
 exact⟨a,S',e,i _ _ q⟩
theorem T.mono{f:cC}{Q R:Out->Prop}(h:T f Γ S Q)(i:∀o,Q o->R o):T f Γ S R:=by
 obtain⟨a,e,q⟩:=h
 exact⟨a,e,i _ q⟩
theorem dM{i:Nat}{d:D}{Q:D->az->Prop}(h:Γ[i]?=some (some d))(q:Q d S):E (af i) Γ S Q:=⟨d,S,by unfold af;rw[h],q⟩
theorem E7{d:D}{Q:D->az->Prop}(q:Q d S):E (cF d) Γ S Q:=⟨d,S,rfl,q⟩
theorem Fv{Q:List D->az->Prop}(q:Q [] S):E ai Γ S Q:=⟨[],S,rfl,q⟩
theorem DM{f:bq}{g:fo}{Q:List D->az->Prop}(h:E f Γ S fun d S1=>E g Γ S1 fun ds S2=>Q (d::ds) S2):E (ae f g) Γ S Q:=by
 obtain⟨d,S1,e1,ds,S2,e2,q⟩:=h
 exact⟨_,_,by unfold ae;rw[e1];simp only[Option.bind_some];rw[e2];rfl,q⟩
theorem xJ{o:qM}{f g:bq}{Q:D->az->Prop}(h:E f Γ S fun x S1=>E g Γ S1 fun y S2=>Op (o S2 x y) fun d=>Q d S2):E (ay o f g) Γ S Q:=by
 obtain⟨x,S1,e1,y,S2,e2,d,e3,q⟩:=h
 exact⟨d,S2,by unfold ay;rw[e1];simp only[Option.bind_some];rw[e2];simp only[Option.bind_some];rw[e3];rfl,q⟩
theorem Hz{f:fo}{Q:D->az->Prop}(h:E f Γ S fun ds S1=>ds.length<=sizeLine/\Q (.tup ds) S1):E (aX f) Γ S Q:=by
 obtain⟨ds,S1,e1,l,q⟩:=h
 exact⟨_,_,by unfold aX;rw[e1];simp only[Option.bind_some];rw[if_pos l],q⟩
theorem Gp{f:fo}{Q:List D->az->Prop}(h:E f Γ S fun ds S1=>ds.length<=sizeLine/\Q ds S1):E (bp f) Γ S Q:=by
 obtain⟨ds,S1,e1,l,q⟩:=h
 exact⟨_,_,by unfold bp;rw[e1];simp only[Option.bind_some];rw[if_pos l],q⟩
theorem Hy{f:fo}{Q:D->az->Prop}(h:E f Γ S fun ds S1=>Q (.ref S1.length) (S1++ [.lst ds])):E (bT f) Γ S Q:=by
 obtain⟨ds,S1,e1,q⟩:=h
 exact⟨_,_,by unfold bT;rw[e1];rfl,q⟩
theorem G_{o:Dh}{f:fo}{Q:D->az->Prop}(h:E f Γ S fun ds S1=>Op (o ds) fun d=>Q d S1):E (ud o f) Γ S Q:=by
 obtain⟨ds,S1,e1,d,e2,q⟩:=h
 exact⟨d,S1,by unfold ud;rw[e1];simp only[Option.bind_some];rw[e2];rfl,q⟩
theorem qA{f:bq}{Q:(List D×Tag)->az->Prop}(h:E f Γ S fun d S1=>Op (p9 S1 d) fun p=>Q p S1):E (bc f) Γ S Q:=by
 obtain⟨ds,S1,e1,d,e2,q⟩:=h
 exact⟨d,S1,by unfold bc;rw[e1];simp only[Option.bind_some];rw[e2];rfl,q⟩
theorem ue{f:fo}{Q:(List D×Tag)->az->Prop}(h:E f Γ S fun ds S1=>Q (ds,.fr) S1):E (gC f) Γ S Q:=by
 obtain⟨ds,S1,e1,q⟩:=h
 exact⟨_,S1,by unfold gC;rw[e1];rfl,q⟩
theorem Fi{f:d_}{Q:D->az->Prop}(h:E f Γ S fun p S1=>Q (.int p.1.length) S1):E (h_ f) Γ S Q:=by
 obtain⟨p,S1,e1,q⟩:=h
 exact⟨_,S1,by unfold h_;rw[e1];rfl,q⟩
theorem DV{f:d_}{Q:D->az->Prop}(h:E f Γ S fun p S1=>Q (.tup p.1) S1):E (tupQ f) Γ S Q:=by
 obtain⟨p,S1,e1,q⟩:=h
 exact⟨_,S1,by unfold tupQ;rw[e1];rfl,q⟩
theorem E5{f:d_}{Q:(List D×Tag)->az->Prop}(h:E f Γ S fun p S1=>p.2.isL=true/\Q p S1):E (fJ f) Γ S Q:=by
 obtain⟨p,S1,e1,l,q⟩:=h
 exact⟨_,S1,by unfold fJ;rw[e1];simp only[Option.bind_some];rw[if_pos l],q⟩
theorem yz{f:d_}{Q:D->az->Prop}(h:E f Γ S fun p S1=>(p.2.isL=true/\p.2.stays S1 p.1)/\Q (.bl (!p.1.isEmpty)) S1):E (cW f) Γ S Q:=by
 obtain⟨p,S1,e1,l,q⟩:=h
 exact⟨_,S1,by unfold cW;rw[e1];simp only[Option.bind_some];rw[if_pos l],q⟩
theorem He{F:cZ}{g:fo}{Q:D->az->Prop}(h:E g Γ S fun ds S1=>Fn F ds S1 fun r S2=>match r with|.d x=>Q x S2|.l _=>False):E (ao F g) Γ S Q:=by
 obtain⟨ds,S1,e1,r,S2,e2,q⟩:=h
 cases r with
 |d x=>exact⟨x,S2,by unfold ao;rw[e1];simp only[Option.bind_some];rw[e2];rfl,q⟩
 |l x=>exact q.elim
theorem Gw{F:cZ}{g:fo}{Q:List D->az->Prop}(h:E g Γ S fun ds S1=>Fn F ds S1 fun r S2=>match r with|.d _=>False|.l x=>Q x S2):E (cV F g) Γ S Q:=by
 obtain⟨ds,S1,e1,r,S2,e2,q⟩:=h
 cases r with
 |d x=>exact q.elim
 |l x=>exact⟨x,S2,by unfold cV;rw[e1];simp only[Option.bind_some];rw[e2];rfl,q⟩
theorem fw{f:bq}{Q:Bool->az->Prop}(h:E f Γ S fun d S1=>match d with|.bl k=>Q k S1|_=>False):E (aE f) Γ S Q:=by
 obtain⟨d,S1,e1,q⟩:=h
 cases d with
 |bl k=>exact⟨k,S1,by unfold aE;rw[e1];rfl,q⟩
 |_=>exact q.elim
theorem Dc{f:bq}{Q:Bool->az->Prop}(h:E f Γ S fun d S1=>Op (wN S1 d) fun k=>Q k S1):E (mq f) Γ S Q:=by
 obtain⟨d,S1,e1,k,e2,q⟩:=h
 exact⟨k,S1,by unfold mq;rw[e1];simp only[Option.bind_some];rw[e2];rfl,q⟩
theorem GF{f:iJ}{Q:Bool->az->Prop}(h:E f Γ S fun k S1=>Q (!k) S1):E (wL f) Γ S Q:=by
 obtain⟨k,S1,e1,q⟩:=h
 exact⟨_,S1,by unfold wL;rw[e1];rfl,q⟩
theorem sX{f g:iJ}{Q:Bool->az->Prop}(h:E f Γ S fun k S1=>if k=true then E g Γ S1 Q else Q false S1):E (gf f g) Γ S Q:=by
 obtain⟨k,S1,e1,q⟩:=h
 cases k with
 |true=>obtain⟨j,S2,e2,q⟩:=(q:E g Γ S1 Q);exact⟨j,S2,by unfold gf;rw[e1];exact e2,q⟩
 |false=>exact⟨false,S1,by unfold gf;rw[e1];rfl,q⟩
theorem Ga{f g:iJ}{Q:Bool->az->Prop}(h:E f Γ S fun k S1=>if k=true then Q true S1 else E g Γ S1 Q):E (Ez f g) Γ S Q:=by
 obtain⟨k,S1,e1,q⟩:=h
 cases k with
 |true=>exact⟨true,S1,by unfold Ez;rw[e1];rfl,q⟩
 |false=>obtain⟨j,S2,e2,q⟩:=(q:E g Γ S1 Q);exact⟨j,S2,by unfold Ez;rw[e1];exact e2,q⟩
theorem Ho{c:iJ}{f g:bq}{Q:D->az->Prop}(h:E c Γ S fun k S1=>if k=true then E f Γ S1 Q else E g Γ S1 Q):E (uz c f g) Γ S Q:=by
 obtain⟨k,S1,e1,q⟩:=h
 cases k with
 |true=>obtain⟨j,S2,e2,q⟩:=(q:E f Γ S1 Q);exact⟨j,S2,by unfold uz;rw[e1];exact e2,q⟩
 |false=>obtain⟨j,S2,e2,q⟩:=(q:E g Γ S1 Q);exact⟨j,S2,by unfold uz;rw[e1];exact e2,q⟩
theorem A3{i:Nat}{f:bq}{Q:Out->Prop}(h:E f Γ S fun d S1=>Q (.nx (Γ.set i (some d)) S1)):T (aV i f) Γ S Q:=by
 obtain⟨d,S1,e1,q⟩:=h
 exact⟨_,by unfold aV;rw[e1];rfl,q⟩
theorem vI{f:bq}{Q:Out->Prop}(h:E f Γ S fun d S1=>Q (.rt d S1)):T (cn f) Γ S Q:=by
 obtain⟨d,S1,e1,q⟩:=h
 exact⟨_,by unfold cn;rw[e1];rfl,q⟩
theorem G6{f:fo}{Q:Out->Prop}(h:E f Γ S fun d S1=>Q (.rl d S1)):T (AN f) Γ S Q:=by
 obtain⟨d,S1,e1,q⟩:=h
 exact⟨_,by unfold AN;rw[e1];rfl,q⟩
theorem fq{f:bq}{Q:Out->Prop}(h:E f Γ S fun d S1=>Q (.nx Γ S1)):T (jF f) Γ S Q:=by
 obtain⟨d,S1,e1,q⟩:=h
 exact⟨_,by unfold jF;rw[e1];rfl,q⟩
theorem cA{Q:Out->Prop}(q:Q (.nx Γ S)):T fS Γ S Q:=⟨_,rfl,q⟩
theorem HI{f:bq}{g:kT}{Q:Out->Prop}(h:E f Γ S fun d S1=>Tg g d Γ S1 fun Γ1 S2=>Q (.nx Γ1 S2)):T (oN f g) Γ S Q:=by
 obtain⟨d,S1,e1,Γ1,S2,e2,q⟩:=h
 exact⟨_,by unfold oN;rw[e1];simp only[Option.bind_some];rw[e2];rfl,q⟩
theorem bQ{f g:cC}{Q:Out->Prop}(h:T f Γ S fun o=>match o with|.nx Γ1 S1=>T g Γ1 S1 Q|o=>Q o):T (aA f g) Γ S Q:=by
 obtain⟨o,e1,q⟩:=h
 cases o with
 |nx Γ1 S1=>obtain⟨o,e2,q⟩:=(q:T g Γ1 S1 Q);exact⟨o,by unfold aA;rw[e1];exact e2,q⟩
 |_=>exact⟨_,by unfold aA;rw[e1];rfl,q⟩
theorem eZ{c:iJ}{f g:cC}{Q:Out->Prop}(h:E c Γ S fun k S1=>if k=true then T f Γ S1 Q else T g Γ S1 Q):T (eF c f g) Γ S Q:=by
 obtain⟨k,S1,e1,q⟩:=h
 cases k with
 |true=>obtain⟨j,e2,q⟩:=(q:T f Γ S1 Q);exact⟨j,by unfold eF;rw[e1];exact e2,q⟩
 |false=>obtain⟨j,e2,q⟩:=(q:T g Γ S1 Q);exact⟨j,by unfold eF;rw[e1];exact e2,q⟩
theorem aZ{i:Nat}{d:D}{Q:cx->az->Prop}(q:Q (Γ.set i (some d)) S):Tg (bR i) d Γ S Q:=⟨_,_,rfl,q⟩
theorem HN{f g:bq}{d:D}{Q:cx->az->Prop}(h:E f Γ S fun x S1=>E g Γ S1 fun y S2=>∃k i ds j,x=.ref k/\y=.int i/\S2[k]?=some (.lst ds)/\yK ds.length i=some j/\Q Γ (S2.set k (.lst (ds.set j d)))):Tg (E4 f g) d Γ S Q:=by
 obtain⟨x,S1,e1,y,S2,e2,k,i,ds,j,rfl,rfl,h1,h2,q⟩:=h
 exact⟨_,_,by unfold E4;rw[e1];simp only[Option.bind_some];rw[e2];simp only[Option.bind_some,h1,h2],q⟩
theorem HC{f g h:bq}{Q:Out->Prop}(w:E f Γ S fun x S1=>E g Γ S1 fun y S2=>∃k i ds m,x=.ref k/\y=.int i/\S2[k]?=some (.lst ds)/\0<=i/\ds[i.toNat]?=some (.int m)/\E h Γ S2 fun z S3=>∃n es j,z=.int n/\S3[k]?=some (.lst es)/\yK es.length i=some j/\Q (.nx Γ (S3.set k (.lst (es.set j (.int (m+n))))))):T (GA f g h) Γ S Q:=by
 obtain⟨x,S1,e1,y,S2,e2,k,i,ds,m,rfl,rfl,h1,h2,h3,z,S3,e3,n,es,j,rfl,h4,h5,q⟩:=w
 exact⟨_,by unfold GA;rw[e1];simp only[Option.bind_some];rw[e2];simp only[Option.bind_some,h1,if_pos h2,h3,e3,h4,h5],q⟩
theorem fY{i:vA}{g:kT}{b:cC}{Q:Out->Prop} (h:E i Γ S fun p S1=>∃I:Nat->cx->az->Prop,I 0 Γ S1/\(∀n Γ' S',I n Γ' S'->p.2 S')∧
   (∀(n:Nat) (d:D) (Γ':cx) (S':az),p.1[n]?=some d->I n Γ' S'->Tg g d Γ' S' fun Γ1 S2=>T b Γ1 S2 fun o=>match o with|.nx Γ2 S3=>I (n+1) Γ2 S3|.ct Γ2 S3=>I (n+1) Γ2 S3|.bk Γ2 S3=>Q (.nx Γ2 S3)|o=>Q o)∧
   ∀Γ' S',I p.1.length Γ' S'->Q (.nx Γ' S')):T (ig i g b) Γ S Q:=by
 obtain⟨⟨ds,W⟩,S1,e1,I,h0,hW,hstep,hend⟩:=h
 have go:∀(k n:Nat) (Γ':cx) (S':az),n+k=ds.length->I n Γ' S'->∃o,forL g b W (ds.drop n) Γ' S'=some o/\Q o:=by
  intro k
  induction k with
  | zero=>
    intro n Γ' S' hn hi
    rw[List.drop_of_length_le (by omega)]
    refine⟨.nx Γ' S',by simp only[forL];rw[if_pos (hW _ _ _ hi)],hend _ _ (by rw[←hn];exact hi)⟩
  | succ k ih=>
    intro n Γ' S' hn hi
    have hlt:n<ds.length:=by omega
    rw[List.drop_eq_getElem_cons hlt]
    obtain⟨Γ1,S2,e2,o,e3,q⟩:=hstep n ds[n] Γ' S' (gQe hlt) hi
    simp only[forL]
    rw[if_pos (hW _ _ _ hi),e2]
    simp only[Option.bind_some]
    rw[e3]
    simp only[Option.bind_some]
    cases o with
    |nx Γ2 S3=>exact ih (n+1) Γ2 S3 (by omega) q
    |ct Γ2 S3=>exact ih (n+1) Γ2 S3 (by omega) q
    |bk Γ2 S3=>exact⟨_,rfl,q⟩
    |rt d S3=>exact⟨_,rfl,q⟩
    |rl d S3=>exact⟨_,rfl,q⟩
 obtain⟨o,e2,q⟩:=go ds.length 0 Γ S1 (by omega) h0
 exact⟨o,by unfold ig;rw[e1];exact e2,q⟩
theorem i8{js:List (Option Nat)}{i:vA}{g:kT}{t:iJ}{f:bq}{Q:List D->az->Prop} (h:E i Γ S fun p S1=>∃I:Nat->cx->az->List D->Prop,I 0 (kz js Γ) S1 []/\(∀n Γ' S' acc,I n Γ' S' acc->p.2 S')∧
   (∀(n:Nat) (d:D) (Γ':cx) (S':az) (acc:List D),p.1[n]?=some d->I n Γ' S' acc->Tg g d Γ' S' fun Γ1 S2=>E t Γ1 S2 fun k S3=>if k=true then E f Γ1 S3 fun y S4=>acc.length<sizeLine/\I (n+1) Γ1 S4 (acc++ [y]) else I (n+1) Γ1 S3 acc)∧
   ∀Γ' S' acc,I p.1.length Γ' S' acc->Q acc S'):E (cu js i g t f) Γ S Q:=by
 obtain⟨⟨ds,W⟩,S1,e1,I,h0,hW,hstep,hend⟩:=h
 have go:∀(k n:Nat) (Γ':cx) (S':az) (acc:List D),n+k=ds.length->I n Γ' S' acc->∃r S'',jY g t f W (ds.drop n) Γ' S' acc=some (r,S'')/\Q r S'':=by
  intro k
  induction k with
  | zero=>
    intro n Γ' S' acc hn hi
    rw[List.drop_of_length_le (by omega)]
    refine⟨acc,S',by simp only[jY];rw[if_pos (hW _ _ _ _ hi)],hend _ _ _ (by rw[←hn];exact hi)⟩
  | succ k ih=>
    intro n Γ' S' acc hn hi
    have hlt:n<ds.length:=by omega
    rw[List.drop_eq_getElem_cons hlt]
    obtain⟨Γ1,S2,e2,c,S3,e3,q⟩:=hstep n ds[n] Γ' S' acc (gQe hlt) hi
    simp only[jY]
    rw[if_pos (hW _ _ _ _ hi),e2]
    simp only[Option.bind_some]
    rw[e3]
    simp only[Option.bind_some]
    cases c with
    | true=>
      rw[if_pos rfl] at q⊢
      obtain⟨y,S4,e4,hl,q⟩:=q
      rw[e4]
      simp only[Option.bind_some]
      rw[if_pos hl]
      exact ih (n+1) Γ1 S4 _ (by omega) q
    | false=>
      rw[if_neg (by decide)] at q⊢
      exact ih (n+1) Γ1 S3 _ (by omega) q
 obtain⟨r,S'',e2,q⟩:=go ds.length 0 _ S1 [] (by omega) h0
 exact⟨r,S'',by unfold cu;rw[e1];exact e2,q⟩
theorem ya{f:bq}{Q:(List D×(az->Prop))->az->Prop}(h:E f Γ S fun d S1=>∃j,d=.int j/\(-(2^62)<=j/\j<2^62)/\Q (ie 0 j,fun _=>True) S1):E (ow f) Γ S Q:=by
 obtain⟨d,S1,e1,j,rfl,hj,q⟩:=h
 exact⟨_,S1,by unfold ow;rw[e1];simp only[Option.bind_some];rw[if_pos hj],q⟩
theorem q_{f:d_}{Q:(List D×(az->Prop))->az->Prop}(h:E f Γ S fun p S1=>Q (p.1,fun S'=>p.2.stays S' p.1) S1):E (i6 f) Γ S Q:=by
 obtain⟨p,S1,e1,q⟩:=h
 exact⟨_,S1,by unfold i6;rw[e1];rfl,q⟩
theorem hU{m:List D->List D->Option (List D×D)}{f:bq}{g:fo}{Q:D->az->Prop}(h:E f Γ S fun x S1=>∃k ds0,x=.ref k/\S1[k]?=some (.lst ds0)/\E g Γ S1 fun ys S2=>∃ds,S2[k]?=some (.lst ds)/\Op (m ds ys) fun p=>Q p.2 (S2.set k (.lst p.1))):E (m5 m f g) Γ S Q:=by
 obtain⟨x,S1,e1,k,ds0,rfl,h1,ys,S2,e2,ds,h2,p,e3,q⟩:=h
 exact⟨_,_,by unfold m5;rw[e1];simp only[Option.bind_some,e2,h1,h2,e3],q⟩
end
theorem bE{n:Nat}{b:cC}{ds:List D}{S:az}{Q:Res->az->Prop} (h:T b (ds.map some++List.replicate (n-ds.length) none) S fun o=>match o with
   |.nx _ S'=>Op (settle S .non S') fun p=>Q p.1 p.2|.rt d S'=>Op (settle S d S') fun p=>Q p.1 p.2|.rl l S'=>Op (dm S l S') fun p=>Q p.1 p.2|_=>False):Fn (dY n b) ds S Q:=by
 obtain⟨o,e1,q⟩:=h
 cases o with
 |nx Γ S'=>obtain⟨⟨r,S2⟩,e2,q⟩:=q;exact⟨r,S2,by unfold dY;rw[e1];exact e2,q⟩
 |rt d S'=>obtain⟨⟨r,S2⟩,e2,q⟩:=q;exact⟨r,S2,by unfold dY;rw[e1];exact e2,q⟩
 |rl d S'=>obtain⟨⟨r,S2⟩,e2,q⟩:=q;exact⟨r,S2,by unfold dY;rw[e1];exact e2,q⟩
 |bk=>exact q.elim
 |ct=>exact q.elim
theorem fO{S S' S2:az}{d:D}{Q:Res×az->Prop}(hc:lZ S S')(ht:S'.take S.length=S2)(hd:∀k,d≠.ref k)(hl:bI S.length d=true)(q:Q (.d d,S2)):Op (settle S d S') Q:=by
 refine⟨_,?_,q⟩
 unfold settle
 rw[if_pos hc,ht]
 cases d with
 |ref k=>exact absurd rfl (hd k)
 |_=>simp only[hl,if_true]
theorem kP{S S' S2:az}{ds:List D}{Q:Res×az->Prop}(hc:lZ S S')(ht:S'.take S.length=S2)(hl:bB S.length ds=true)(q:Q (.l ds,S2)):Op (dm S ds S') Q:=by
 refine⟨_,?_,q⟩
 unfold dm
 rw[if_pos ⟨hc,hl⟩,ht]
theorem pF{S:az}:lZ S S:=⟨Nat.le_refl _,fun k o _ h=>.inl h⟩
theorem rT{S:az}{k:Nat}{o:O}(h:B_ S.length o=true):lZ S (S.set k o):=by
 refine⟨by simp,fun j u _ e=> ?_⟩
 rw[List.getElem?_set] at e
 split at e
 ·split at e
  ·cases e;exact .inr h
  ·cases e
 ·exact .inl e
end DL
namespace L2
open PySem PySem.Spec PyProof.Rows
section
variable{X:Cx}{o e:Expr}{es:List Expr}{to:TE}{t:TA}{name:Str}{apos cpos:Pos}{id:String}{r:V->List V->Hp->VK->Prop}
def HK(r:V->List V->Hp->VK->Prop)(to:TE)(t:TA):TE:=fun σ H Q=>to σ H fun x H1=>(∃p xs,x=.ref p/\H1 p=some (.tup xs))/\t σ H1 fun xs H2=>r x xs H2 Q
theorem EB(pa:PlainAttrs "tuple")(slot:Slot "tuple" name id)(hty:typeOf (.builtin id)=pure (.type "method_descriptor"))(hm:FF X id r)(ho:PE X o to)(ha:PA X (e::es) t)
  (hbase:attributeBase o name X.env (eval o X.env)=eval o X.env:=by rfl)
  (hfew:((backTo cpos (starEach (e::es) X.env)).all (fun x=> !x.1)&&(backToKw cpos (keywordEach [] X.env)).all (fun x=>x.1.isSome)
   &&decide ((e::es).length+([]:List Keyword).length+(if ([]:List Keyword).isEmpty then 0 else 1)<30))=true:=by rfl)
  (hline:(apos.endLine==cpos.line)=true:=by rfl) (hs:starEach (e::es) X.env=(false,eval e X.env)::starEach es X.env:=by rfl) (hplain:(backTo cpos (starEach es X.env)).any (·.1)=false:=by rfl):
  PE X (.Call (.Attribute o name apos) (e::es) [] cpos) (HK r to t):=by
 intro pins s σ H Q I h
 refine wpAny_Call_method_late hbase hfew hline rfl (cz (ho pins s σ H _ I h) fun v s1 qr=> ?_)
 obtain⟨x,H1,I1,r1,⟨p,xs,e1,hp⟩,q1⟩:=qr
 subst e1
 cases r1
 obtain⟨_,its,_,ob,e1,c1,d1,_⟩:=(show cG X.prog X.w H1 s1.heap p (.tup xs) from I1.hok p _ hp)
 refine⟨"tuple",id,pa,slot,hty,⟨ob,e1,c1⟩,fun a e=>by cases e;exact⟨ob,e1,d1⟩,?_⟩
 have hA:=ha cpos pins s1 σ H1 _ I1 q1
 rw[hs] at hA⊢
 refine Calls.callWith_builtin (by show(false||(backTo cpos (starEach es X.env)).any (·.1))=false;rw[hplain] <;>rfl) (Calls.evalArgs_plain ?_)
 exact cz hA fun us s2 ⟨vs,H2,I2,r2,q2⟩=>hm pins s2 σ H2 (.ref p) vs (.ref p) us Q I2 rfl r2 q2
end
end L2
namespace DL
open PySem PySem.Spec L2
section
variable{X:Cx}{e:Expr}
def mO(f g:bq):bq:=fun Γ S=>(f Γ S).bind fun(x,S1)=>match x with
 |.tup ds=>(g Γ S1).bind fun(y,S2)=>(qL y).bind fun v=>(gk ds).bind fun vs=>some (.int ((vs.countP fun z=>jQ z v:Nat):Int),S2)
 |_=>none
theorem t7{f g:bq}{o:Expr}{apos cpos:Pos}(ho:PE X o (tD (md X) f))(ha:PE X e (tD (md X) g))(hbase:attributeBase o "count" X.env (eval o X.env)=eval o X.env:=by rfl) (hfew:((backTo cpos (starEach [e] X.env)).all (fun x=> !x.1)&&(backToKw cpos (keywordEach [] X.env)).all (fun x=>x.1.isSome)
   &&decide ([e].length+([]:List Keyword).length+(if ([]:List Keyword).isEmpty then 0 else 1)<30))=true:=by rfl)
  (hline:(apos.endLine==cpos.line)=true:=by rfl) (hs:starEach [e] X.env= [(false,eval e X.env)]:=by rfl):PE X (.Call (.Attribute o "count" apos) [e] [] cpos) (tD (md X) (mO f g)):=
 jB (EB PySem.F.plainAttrs_tuple PySem.F.slot_tuple_count PySem.F.type_tuple_count zp ho (dr ha fm hs) hbase hfew hline hs) fun σ H Q qq=>by
  obtain⟨ρ,Γ,S,d,S',ok,e,q⟩:=qq
  obtain⟨⟨x,S1⟩,e1,e⟩:=bind_some e
  cases x with
  | tup ds=>
    dsimp only at e
    obtain⟨⟨y,S2⟩,e2,e⟩:=bind_some e
    obtain⟨v,e3,e⟩:=bind_some e
    obtain⟨vs,e4,e⟩:=bind_some e
    obtain⟨rfl,rfl⟩:=cm e
    refine⟨ρ,Γ,S,_,S1,ok,e1,fun ρ1 v1 H1 x1 st1 r1=> ?_⟩
    cases r1 with
    | tup ht hr=>
      refine⟨⟨_,_,rfl,ht⟩,ρ1,Γ,S1,y,S2,ok.to x1 st1,e2,fun ρ2 w H2 x2 st2 r2=> ?_⟩
      obtain⟨f1,f2⟩:=ib (hr.ext x2) e4
      subst f1
      cases jq r2 e3
      exact⟨_,_,_,rfl,rfl,gD.of (x2.keep _ _ ht (.inr trivial)),lO e3,f2,q _ _ _ (x1.trans x2) st2 (.int _)⟩
  |_=>cases e
theorem tW{Γ:cx}{S:az}{f g:bq}{Q:D->az->Prop}(h:E f Γ S fun x S1=>∃ds,x=.tup ds/\E g Γ S1 fun y S2=>∃v vs,qL y=some v/\gk ds=some vs/\Q (.int ((vs.countP fun z=>jQ z v:Nat):Int)) S2):E (mO f g) Γ S Q:=by
 obtain⟨x,S1,e1,ds,rfl,y,S2,e2,v,vs,h1,h2,q⟩:=h
 exact⟨_,S2,by unfold mO;rw[e1];simp only[Option.bind_some];rw[e2];simp only[Option.bind_some,h1,h2],q⟩
end
end DL
namespace W28
open PySem PySem.Spec L2 DL
noncomputable def sE:cC:=
 (aA (aV 2 (cF (.int 0)))
 (aA (eF (aE (ay zL (af 1) (h_ (bc (af 0))))) (aV 2 (ud CA (ae (ay aI (af 0) (af 1)) ai))) fS)
 (aA (aV 3 (ay kE (ay oo (af 2) (ay kE (ay uo (cF (.int 10)) (cF (.int 60))) (ay uo (cF (.int 10)) (cF (.int 60))))) (ud intOfD (ae (ay Hc (af 2) (ay uo (cF (.int 10)) (cF (.int 18)))) ai))))
 (AN (bp (ae (af 3) (ae (ay oo (ay cc (ay cc (af 2) (ay kE (cF (.int 104729)) (af 1))) (cF (.int 7))) (cF (.int 2305843009213693951))) (ae (cF (.int 0)) ai))))))))
noncomputable def jG:cZ:=dY 4 sE
noncomputable def qh:cC:=
 (aA (eF (aE (ay E6 (ay aI (af 0) (cF (.int 0))) (cF (.int 0)))) (aA (aV 2 (ay oo (ay aI (af 0) (cF (.int 0))) (af 1)))
 (aA (oN (ay uL (ay aI (af 0) (cF (.int 0))) (af 1)) (E4 (af 0) (cF (.int 0))))
 (cn (af 2)))) fS)
 (aA (GA (af 0) (cF (.int 2)) (cF (.int 1)))
 (aA (aV 3 (ay oo (ay cc (ay cc (ay kE (ay aI (af 0) (cF (.int 1))) (cF (.int 69069))) (ay kE (cF (.int 9973)) (ay aI (af 0) (cF (.int 2))))) (cF (.int 5))) (cF (.int 2305843009213693921))))
 (aA (oN (ay oo (ay kE (af 3) (ay cc (ay cc (ay oo (af 3) (cF (.int 999983))) (ay kE (cF (.int 2)) (ay aI (af 0) (cF (.int 2))))) (cF (.int 3)))) (cF (.int 2305843009213693907))) (E4 (af 0) (cF (.int 1))))
 (cn (ay oo (ay uL (ay aI (af 0) (cF (.int 1))) (cF (.int 65537))) (af 1)))))))
noncomputable def au:cZ:=dY 4 qh
noncomputable def nN:cC:=
 (aA (aV 3 (bT (cu [none,some 1] (i6 (gC (bp (ae (cF (.str "a")) (ae (cF (.str "b")) (ae (cF (.str "c")) (ae (cF (.str "d")) (ae (cF (.str "e")) (ae (cF (.str "zz")) ai))))))))) (bR 0) cM (ay cc (af 1) (af 0)))))
 (AN (yq (gC (cu [none,some 0,some 3] (ow (af 2)) (bR 0) cM (m5 kJ (af 2) (ae (ao au (ae (af 1) (ae (h_ (bc (af 2))) ai))) ai)))))))
noncomputable def cb:cZ:=dY 4 nN
noncomputable def qp:cC:=
 (cn (ay aI (af 1) (ao au (ae (af 0) (ae (h_ (bc (af 1))) ai)))))
noncomputable def aS:cZ:=dY 2 qp
noncomputable def sJ(self:cZ):cC:=
 (aA (aV 4 (ao au (ae (af 0) (ae (cF (.int 9)) ai))))
 (aA (eF (Ez (aE (ay zL (af 3) (cF (.int 1)))) (aE (ay zL (af 4) (cF (.int 3))))) (aA (eF (gf (aE (cW (bc (af 1)))) (aE (ay E6 (ao au (ae (af 0) (ae (cF (.int 3)) ai))) (cF (.int 0))))) (cn (ao aS (ae (af 0) (ae (af 1) ai)))) fS)
 (cn (ao au (ae (af 0) (ae (ay aI (bT (bp (ae (cF (.int 3)) (ae (cF (.int 10)) ai)))) (ud intOfD (ae (ay (eC false) (ao au (ae (af 0) (ae (cF (.int 5)) ai))) (cF (.int 0))) ai))) ai))))) fS)
 (aA (eF (gf (aE (ay (eC false) (af 4) (cF (.int 3)))) (aE (cW (bc (af 2))))) (cn (aX (ae (cF (.str "waits")) (ae (ao aS (ae (af 0) (ae (af 2) ai))) ai)))) fS)
 (aA (eF (aE (ay (eC false) (af 4) (cF (.int 4)))) (cn (aX (ae (cF (.str "not")) (ae (ao self (ae (af 0) (ae (af 1) (ae (af 2) (ae (ay jU (af 3) (cF (.int 1))) ai))))) ai)))) fS)
 (aA (aV 5 (ay aI (bT (bp (ae (cF (.str "plus")) (ae (cF (.str "minus")) (ae (cF (.str "less")) (ae (cF (.str "same")) (ae (cF (.str "both")) ai))))))) (ao au (ae (af 0) (ae (cF (.int 5)) ai)))))
 (cn (aX (ae (af 5) (ae (ao self (ae (af 0) (ae (af 1) (ae (af 2) (ae (ay jU (af 3) (cF (.int 1))) ai))))) (ae (ao self (ae (af 0) (ae (af 1) (ae (af 2) (ae (ay jU (af 3) (cF (.int 1))) ai))))) ai))))))))))
noncomputable def aY:Nat->cZ
 |0=>fun _ _=>none
 |n+1=>dY 6 (sJ (aY n))
noncomputable def m9:cC:=
 (aA (aV 4 (ay aI (bT (bp (ae (cF (.int 0)) (ae (cF (.str "given")) (ae (ao (aY 4) (ae (af 0) (ae (af 1) (ae (af 2) (ae (cF (.int 1)) ai))))) ai))))) (ao au (ae (af 0) (ae (cF (.int 3)) ai)))))
 (aA (aV 5 (aX (ae (cF (.str "wait")) (ae (ao aS (ae (af 0) (ae (af 2) ai))) (ae (af 4) ai)))))
 (aA (aV 6 (ao au (ae (af 0) (ae (cF (.int 3)) ai))))
 (aA (eF (aE (ay (eC false) (af 6) (cF (.int 0)))) (AN (bp (ae (af 5) ai))) fS)
 (aA (aV 7 (aX (ae (cF (.str "not")) (ae (ao (aY 4) (ae (af 0) (ae (af 1) (ae (af 2) (ae (cF (.int 2)) ai))))) ai))))
 (AN (bp (ae (aX (ae (cF (.str "unless")) (ae (af 7) (ae (ay cc (af 3) (cF (.int 3))) ai)))) (ae (af 5) (ae (aX (ae (cF (.str "go")) (ae (ay aI (bT (bp (ae (af 3) (ae (ay cc (af 3) (cF (.int 3))) ai)))) (ay jU (af 6) (cF (.int 1)))) ai))) ai))))))))))
noncomputable def gQ:cZ:=dY 8 m9
noncomputable def uQ:cC:=
 (aA (oN (ao aS (ae (af 0) (ae (af 1) ai))) (jS (nG 2 (aG (bR 4) (aG (bR 5) ed)))))
 (aA (aV 6 (ao aS (ae (af 0) (ae (bT (vp (gC (bp (ae (cF .non) ai))) (bc (af 2)))) ai))))
 (cn (aX (ae (cF (.str "do")) (ae (af 6) (ae (af 4) (ae (af 5) (ae (ao (aY 4) (ae (af 0) (ae (af 3) (ae (bT (bp ai)) (ae (cF (.int 1)) ai))))) ai)))))))))
noncomputable def ij:cZ:=dY 7 uQ
noncomputable def qt:cC:=
 (aA (oN (af 1) (jS (nG 3 (aG (bR 4) (aG (bR 5) (aG (bR 6) ed))))))
 (aA (aV 7 (bT (vp (bc (af 5)) (gC (bp (ae (cF (.str "given")) ai))))))
 (aA (aV 8 (bT (bp ai)))
 (aA (ig (ow (ay cc (cF (.int 1)) (ao au (ae (af 0) (ae (af 3) ai))))) (bR 9) (aA (aV 10 (ao au (ae (af 0) (ae (cF (.int 9)) ai))))
 (eF (gf (aE (ay zL (af 10) (cF (.int 2)))) (aE (cW (bc (af 6))))) (jF (oh (af 8) (gC (cV gQ (ae (af 0) (ae (af 7) (ae (af 6) (ae (h_ (bc (af 8))) ai)))))))) (eF (gf (aE (ay zL (af 10) (cF (.int 4)))) (aE (cW (bc (af 6))))) (aA (aV 11 (ay aI (bT (bp (ae (cF (.str "call")) (ae (cF (.str "all")) ai)))) (ud intOfD (ae (wH (ay (eC false) (af 4) (cF (.str "when free"))) (ay (eC false) (af 10) (cF (.int 3)))) ai))))
 (jF (m5 eY (af 8) (ae (aX (ae (af 11) (ae (ao aS (ae (af 0) (ae (af 6) ai))) ai))) ai)))) (eF (gf (aE (ay (eC false) (af 10) (cF (.int 4)))) (aE (cW (bc (af 2))))) (jF (m5 eY (af 8) (ae (ao ij (ae (af 0) (ae (af 2) (ae (af 5) (ae (af 7) ai))))) ai))) (eF (aE (ay (eC false) (af 10) (cF (.int 5)))) (aA (jF (m5 eY (af 8) (ae (aX (ae (cF (.str "unless")) (ae (ao (aY 4) (ae (af 0) (ae (af 7) (ae (af 6) (ae (cF (.int 2)) ai))))) (ae (ay cc (h_ (bc (af 8))) (cF (.int 2))) ai)))) ai)))
 (jF (m5 eY (af 8) (ae (aX (ae (cF (.str "tell")) (ae (ao au (ae (af 0) (ae (cF (.int 10)) ai))) ai))) ai)))) (eF (gf (aE (ay zL (af 10) (cF (.int 8)))) (aE (cW (bc (af 5))))) (jF (m5 eY (af 8) (ae (aX (ae (cF (.str "put")) (ae (ao aS (ae (af 0) (ae (af 5) ai))) (ae (ao (aY 4) (ae (af 0) (ae (af 7) (ae (af 6) (ae (cF (.int 2)) ai))))) ai)))) ai))) (jF (m5 eY (af 8) (ae (aX (ae (cF (.str "tell")) (ae (ao (aY 4) (ae (af 0) (ae (af 7) (ae (af 6) (ae (cF (.int 1)) ai))))) ai))) ai))))))))))
 (cn (tupQ (fJ (bc (af 8)))))))))
noncomputable def iH:cZ:=dY 12 qt
noncomputable def pG:cC:=
 (aA (aV 5 (ao aS (ae (af 0) (ae (af 3) ai))))
 (aA (aV 6 (bT (cV cb (ae (af 0) (ae (cF (.str "")) (ae (ay aI (bT (bp (ae (cF (.int 1)) (ae (cF (.int 1)) (ae (cF (.int 2)) (ae (cF (.int 0)) ai)))))) (ao au (ae (af 0) (ae (cF (.int 4)) ai)))) ai))))))
 (aA (aV 7 (bT (cV cb (ae (af 0) (ae (cF (.str "")) (ae (ao au (ae (af 0) (ae (ay cc (af 4) (cF (.int 1))) ai))) ai))))))
 (aA (aV 8 (bT (bp ai)))
 (aA (ig (i6 (gC (cV cb (ae (af 0) (ae (cF (.str "")) (ae (ay cc (cF (.int 1)) (ao au (ae (af 0) (ae (cF (.int 3)) ai)))) ai)))))) (bR 9) (aA (aV 10 (bT (cu [none,some 1] (i6 (bc (af 8))) (bR 0) cM (aX (ae (af 1) (ae (ay aI (af 0) (cF (.int 0))) ai))))))
 (aA (aV 11 (bT (vp (bc (af 2)) (gC (qS (bc (af 10)) (ud intOfD (ae (ay (eC false) (ao au (ae (af 0) (ae (cF (.int 5)) ai))) (cF (.int 0))) ai)))))))
 (jF (m5 eY (af 8) (ae (aX (ae (af 9) (ae (ao iH (ae (af 0) (ae (aX (ae (af 5) (ae (af 6) (ae (af 7) ai)))) (ae (af 11) (ae (cF (.int 4)) ai))))) ai))) ai))))))
 (aA (aV 12 (tupQ (gC (cu [none,some 0] (i6 (bc (af 7))) (bR 0) cM (aX (ae (af 0) (ae (ay aI (bT (bp (ae (cF (.str "row")) (ae (cF (.str "turns")) ai)))) (ao au (ae (af 1) (ae (cF (.int 2)) ai)))) ai)))))))
 (cn (aX (ae (af 1) (ae (af 5) (ae (tupQ (gC (cu [none,some 0] (i6 (bc (af 6))) (bR 0) cM (aX (ae (af 0) (ae (ao au (ae (af 1) (ae (cF (.int 3)) ai))) ai)))))) (ae (af 12) (ae (tupQ (fJ (bc (af 8)))) ai)))))))))))))
noncomputable def iz:cZ:=dY 13 pG
noncomputable def nR:cC:=
 (aA (aV 4 (bT (cV cb (ae (af 0) (ae (cF (.str "")) (ae (af 1) ai))))))
 (aA (aV 5 (bT (bp ai)))
 (aA (BG (aE (cW (bc (af 4)))) (aA (aV 6 (bT (bp ai)))
 (aA (ig (i6 (bc (af 5))) (bR 7) (jF (oh (af 6) (gC (cu [none,some 7] (i6 (bc (ay aI (af 7) (cF (.int 4))))) (bR 0) cM (aX (ae (ay aI (af 1) (cF (.int 0))) (ae (ay aI (af 0) (cF (.int 0))) ai))))))))
 (aA (aV 8 (m5 kJ (af 4) (ae (ao au (ae (af 0) (ae (h_ (bc (af 4))) ai))) ai)))
 (jF (m5 eY (af 5) (ae (ao iz (ae (af 0) (ae (af 8) (ae (af 6) (ae (af 2) (ae (af 3) ai)))))) ai)))))) 4)
 (cn (tupQ (gC (uD (bc (af 5)))))))))
noncomputable def gG:cZ:=dY 9 nR
noncomputable def rV:cC:=
 (aA (aV 5 (bT (bp ai)))
 (aA (ig (ow (ay cc (cF (.int 1)) (ao au (ae (af 0) (ae (af 4) ai))))) (bR 6) (aA (aV 7 (ao au (ae (af 0) (ae (cF (.int 10)) ai))))
 (eF (gf (aE (ay zL (af 7) (cF (.int 5)))) (aE (cW (bc (af 1))))) (jF (m5 eY (af 5) (ae (ao ij (ae (af 0) (ae (af 1) (ae (af 2) (ae (af 2) ai))))) ai))) (eF (gf (aE (ay (eC false) (af 7) (cF (.int 5)))) (aE (cW (bc (af 3))))) (jF (m5 eY (af 5) (ae (aX (ae (ay aI (bT (bp (ae (cF (.str "take")) (ae (cF (.str "give")) ai)))) (ao au (ae (af 0) (ae (cF (.int 2)) ai)))) (ae (ao aS (ae (af 0) (ae (af 3) ai))) ai))) ai))) (eF (gf (aE (ay (eC false) (af 7) (cF (.int 6)))) (aE (cW (bc (af 3))))) (jF (m5 eY (af 5) (ae (aX (ae (cF (.str "pass")) (ae (ao aS (ae (af 0) (ae (af 3) ai))) (ae (ao aS (ae (af 0) (ae (af 3) ai))) ai)))) ai))) (eF (gf (aE (ay (eC false) (af 7) (cF (.int 7)))) (aE (cW (bc (af 2))))) (jF (m5 eY (af 5) (ae (aX (ae (cF (.str "put")) (ae (ao aS (ae (af 0) (ae (af 2) ai))) (ae (ao (aY 4) (ae (af 0) (ae (af 2) (ae (bT (bp ai)) (ae (cF (.int 2)) ai))))) ai)))) ai))) (eF (aE (ay (eC false) (af 7) (cF (.int 8)))) (aA (jF (m5 eY (af 5) (ae (aX (ae (cF (.str "unless")) (ae (ao (aY 4) (ae (af 0) (ae (af 2) (ae (bT (bp ai)) (ae (cF (.int 2)) ai))))) (ae (ay cc (h_ (bc (af 5))) (cF (.int 2))) ai)))) ai)))
 (jF (m5 eY (af 5) (ae (aX (ae (cF (.str "say")) (ae (ao (aY 4) (ae (af 0) (ae (af 2) (ae (bT (bp ai)) (ae (cF (.int 1)) ai))))) ai))) ai)))) (jF (m5 eY (af 5) (ae (aX (ae (cF (.str "say")) (ae (ao (aY 4) (ae (af 0) (ae (af 2) (ae (bT (bp ai)) (ae (cF (.int 1)) ai))))) ai))) ai))))))))))
 (aA (eF (aE (ay (eC false) (ao au (ae (af 0) (ae (cF (.int 5)) ai))) (cF (.int 0)))) (jF (m5 eY (af 5) (ae (aX (ae (cF (.str "go")) (ae (ao au (ae (af 0) (ae (ay cc (h_ (bc (af 5))) (cF (.int 2))) ai))) ai))) ai))) fS)
 (cn (tupQ (fJ (bc (af 5))))))))
noncomputable def jJ:cZ:=dY 8 rV
noncomputable def nU:cC:=
 (aA (aV 4 (bT (bp ai)))
 (aA (ig (i6 (bc (af 1))) (bR 5) (jF (oh (af 4) (gC (cu [none,some 5] (i6 (bc (ay aI (af 5) (cF (.int 4))))) (bR 0) cM (aX (ae (ay aI (af 1) (cF (.int 0))) (ae (ay aI (af 0) (cF (.int 0))) ai))))))))
 (aA (aV 6 (bT (cV cb (ae (af 0) (ae (cF (.str "p")) (ae (ao au (ae (af 0) (ae (ay cc (af 3) (cF (.int 1))) ai))) ai))))))
 (aA (aV 7 (bT (cV cb (ae (af 0) (ae (cF (.str "o")) (ae (ay aI (bT (bp (ae (cF (.int 0)) (ae (cF (.int 0)) (ae (cF (.int 1)) (ae (cF (.int 2)) ai)))))) (ao au (ae (af 0) (ae (cF (.int 4)) ai)))) ai))))))
 (aA (aV 8 (bT (bp ai)))
 (aA (ig (ow (af 2)) (bR 9) (aA (aV 10 (bT (cV cb (ae (af 0) (ae (cF (.str "")) (ae (ay aI (bT (bp (ae (cF (.int 0)) (ae (cF (.int 1)) (ae (cF (.int 1)) (ae (cF (.int 2)) ai)))))) (ao au (ae (af 0) (ae (cF (.int 4)) ai)))) ai))))))
 (aA (aV 11 (ao jJ (ae (af 0) (ae (af 4) (ae (bT (vp (bc (af 10)) (bc (af 7)))) (ae (af 6) (ae (cF (.int 4)) ai)))))))
 (jF (m5 eY (af 8) (ae (aX (ae (tupQ (gC (cu [none,some 0] (i6 (bc (af 10))) (bR 0) cM (aX (ae (af 0) (ae (ao au (ae (af 1) (ae (cF (.int 3)) ai))) ai)))))) (ae (af 11) ai))) ai))))))
 (aA (aV 12 (tupQ (gC (cu [none,some 0] (i6 (bc (af 6))) (bR 0) cM (aX (ae (af 0) (ae (ao au (ae (af 1) (ae (cF (.int 3)) ai))) ai)))))))
 (cn (aX (ae (af 1) (ae (af 12) (ae (tupQ (gC (cu [none,some 0] (i6 (bc (af 7))) (bR 0) cM (aX (ae (af 0) (ae (ao au (ae (af 1) (ae (cF (.int 3)) ai))) ai)))))) (ae (tupQ (fJ (bc (af 8)))) ai)))))))))))))
noncomputable def gJ:cZ:=dY 13 nU
noncomputable def iZ:cC:=
 (aA (aV 1 (ao gG (ae (af 0) (ae (ay aI (bT (bp (ae (cF (.int 1)) (ae (cF (.int 2)) (ae (cF (.int 3)) (ae (cF (.int 1)) (ae (cF (.int 2)) (ae (cF (.int 0)) ai)))))))) (ao au (ae (af 0) (ae (cF (.int 6)) ai)))) (ae (bT (bp (ae (cF (.str "at once")) (ae (cF (.str "when free")) ai)))) (ae (cF (.int 2)) ai))))))
 (cn (ao gJ (ae (af 0) (ae (af 1) (ae (ay cc (cF (.int 1)) (ao au (ae (af 0) (ae (cF (.int 4)) ai)))) (ae (cF (.int 2)) ai)))))))
noncomputable def dv:cZ:=dY 2 iZ
noncomputable def qi:cC:=
 (cn (tupQ (gC (cu [none,none] (i6 (bc (af 0))) (jS (nG 2 (aG (bR 0) (aG (bR 1) ed)))) cM (af 1)))))
noncomputable def eA:cZ:=dY 1 qi
noncomputable def nj:cC:=
 (aA (oN (af 0) (jS (nG 5 (aG (bR 1) (aG (bR 2) (aG (bR 3) (aG (bR 4) (aG (bR 5) ed))))))))
 (cn (aX (ae (ao eA (ae (af 3) ai)) (ae (cF (.int (-1))) (ae (aX ai) (ae (aX ai) (ae (tupQ (gC (cu [none] (i6 (bc (af 4))) (bR 0) cM (aX ai)))) ai))))))))
noncomputable def gP:cZ:=dY 6 nj
noncomputable def zY:cC:=
 (aA (oN (af 0) (jS (nG 4 (aG (bR 1) (aG (bR 2) (aG (bR 3) (aG (bR 4) ed)))))))
 (aA (aV 5 (aX (ae (cF (.int (-1))) (ae (cF (.int (-1))) (ae (cF (.int 0)) (ae (cF (.int 0)) (ae (cF (.int 0)) ai)))))))
 (cn (aX (ae (tupQ (gC (cu [none] (i6 (bc (af 1))) (bR 0) cM (ao gP (ae (af 0) ai))))) (ae (tupQ (gC (cu [none,none] (i6 (bc (af 2))) (jS (nG 2 (aG (bR 0) (aG (bR 1) ed)))) cM (aX (ae (af 1) (ae (aX ai) ai)))))) (ae (ao eA (ae (af 3) ai)) (ae (tupQ (gC (cu [none,none,some 5] (i6 (bc (af 4))) (jS (nG 2 (aG (bR 0) (aG (bR 1) ed)))) cM (aX (ae (ao eA (ae (af 0) ai)) (ae (aX (ae (af 2) ai)) ai)))))) ai))))))))
noncomputable def tj:cZ:=dY 6 zY
noncomputable def nI:cC:=
 (aA (aV 3 (bT (bp ai)))
 (aA (ig (wq (bc (ay aI (af 0) (cF (.int 1)))) (bc (ay aI (af 1) (cF (.int 1))))) (jS (nG 2 (aG (bR 4) (aG (bR 5) ed)))) (jF (oh (af 3) (gC (qS (gC (bp (ae (aX (ae (cF (.str "pass")) (ae (ay aI (af 4) (cF (.int 0))) ai))) ai))) (mO (ay aI (af 5) (cF (.int 1))) (af 2)))))))
 (aA (ig (wq (bc (ay aI (af 0) (cF (.int 0)))) (bc (ay aI (af 1) (cF (.int 0))))) (jS (nG 2 (aG (bR 6) (aG (bR 5) ed)))) (aA (jF (oh (af 3) (gC (vp (gC (qS (gC (bp (ae (aX (ae (cF (.str "row")) (ae (ay aI (af 6) (cF (.int 0))) ai))) ai))) (mO (ay aI (af 5) (cF (.int 2))) (af 2)))) (gC (qS (gC (bp (ae (aX (ae (cF (.str "late")) (ae (ay aI (af 6) (cF (.int 0))) ai))) ai))) (mO (ay aI (af 5) (cF (.int 3))) (af 2))))))))
 (ig (wq (bc (ay aI (af 6) (cF (.int 3)))) (bc (ay aI (af 5) (cF (.int 4))))) (jS (nG 2 (aG (bR 7) (aG (bR 8) ed)))) (jF (oh (af 3) (gC (qS (gC (bp (ae (aX (ae (cF (.str "bell")) (ae (ay aI (af 6) (cF (.int 0))) (ae (ay aI (af 7) (cF (.int 0))) ai)))) ai))) (h_ (gC (cu [none,some 2] (i6 (bc (af 8))) (bR 0) (aE (ay (eC false) (ay aI (af 0) (cF (.int 1))) (af 1))) (af 0)))))))))))
 (cn (af 3)))))
noncomputable def gN:cZ:=dY 9 nI
noncomputable def pE:cC:=
 (aA (oN (ay aI (ay aI (ay aI (ay aI (af 1) (cF (.int 3))) (af 2)) (cF (.int 1))) (nY (cF (.int 1)))) (jS (nG 5 (aG (bR 3) (aG (bR 4) (aG (bR 5) (aG (bR 6) (aG (bR 7) ed))))))))
 (aA (eF (aE (ay zL (af 3) (cF (.int 0)))) (cn (ay aI (bT (bp (ae (cF (.str "out")) (ae (cF (.str "done")) ai)))) (ud intOfD (ae (ay (eC false) (af 5) (h_ (bc (ay aI (ay aI (ay aI (af 0) (cF (.int 3))) (af 2)) (cF (.int 1)))))) ai)))) fS)
 (cn (ay aI (bT (bp (ae (cF (.str "called")) (ae (cF (.str "within")) ai)))) (ud intOfD (ae (ay (eC false) (ay aI (ay aI (ay aI (af 1) (cF (.int 0))) (af 3)) (cF (.int 1))) (af 2)) ai))))))
noncomputable def iL:cZ:=dY 8 pE
noncomputable def lQ:cC:=
 (aA (aV 3 (bT (cV gN (ae (af 0) (ae (af 1) (ae (af 2) ai))))))
 (aA (eF (aE (cW (bc (af 3)))) (cn (ay aI (af 3) (cF (.int 0)))) fS)
 (aA (aV 4 (ao iL (ae (af 0) (ae (af 1) (ae (af 2) ai)))))
 (aA (eF (aE (AJ false (af 4) (bc (aX (ae (cF (.str "out")) (ae (cF (.str "done")) ai)))))) (cn (aX (ae (af 4) ai))) fS)
 (cn (aX (ae (af 4) (ae (ay aI (ay aI (ay aI (af 0) (cF (.int 0))) (ay aI (ay aI (ay aI (ay aI (ay aI (af 1) (cF (.int 3))) (af 2)) (cF (.int 1))) (nY (cF (.int 1)))) (cF (.int 0)))) (cF (.int 0))) ai))))))))
noncomputable def fK:cZ:=dY 5 lQ
noncomputable def rL:cC:=
 (aA (aV 2 (bT (bp ai)))
 (aA (ig (ow (h_ (bc (ay aI (af 0) (cF (.int 3)))))) (bR 3) (eF (aE (AJ false (ay aI (ao fK (ae (af 0) (ae (af 1) (ae (af 3) ai)))) (cF (.int 0))) (bc (aX (ae (cF (.str "out")) (ae (cF (.str "within")) (ae (cF (.str "called")) ai))))))) (jF (m5 eY (af 2) (ae (af 3) ai))) fS))
 (cn (af 2))))
noncomputable def fN:cZ:=dY 4 rL
noncomputable def rA:cC:=
 (AN (cu [none,none] (i6 (bc (af 0))) (jS (nG 2 (aG (bR 0) (aG (bR 1) ed)))) cM (af 1)))
noncomputable def jO:cZ:=dY 1 rA
noncomputable def jj:cC:=
 (aA (aV 1 (bT (bp ai)))
 (aA (ig (i6 (bc (ay aI (af 0) (cF (.int 1))))) (jS (nG 2 (aG (bR 2) (aG (bR 3) ed)))) (jF (rJ (af 1) (bc (af 3)))))
 (aA (ig (i6 (bc (ay aI (af 0) (cF (.int 0))))) (jS (nG 5 (aG (bR 4) (aG (bR 5) (aG (bR 3) (aG (bR 6) (aG (bR 7) ed))))))) (aA (jF (rJ (af 1) (bc (ay cc (af 3) (af 6)))))
 (ig (i6 (bc (af 7))) (bR 8) (jF (oh (af 1) (gC (cV jO (ae (af 8) ai))))))))
 (cn (af 1)))))
noncomputable def dI:cZ:=dY 9 jj
noncomputable def nH:cC:=
 (cn (ay aI (ay aI (ay aI (ay aI (af 0) (cF (.int 3))) (af 1)) (cF (.int 1))) (nY (cF (.int 1)))))
noncomputable def bx:cZ:=dY 2 nH
noncomputable def nq:cC:=
 (aA (B2 3 4 (ae (ay aI (af 2) (cF (.int 0))) (ae (ay aI (af 2) (cF (.int 1))) ai)))
 (aA (eF (aE (ay (eC false) (af 3) (cF (.int (-1))))) (cn (ay aI (ay aI (ay aI (af 0) (cF (.int 3))) (af 1)) (cF (.int 1)))) fS)
 (cn (ay aI (ay aI (ay aI (ay aI (ay aI (af 0) (cF (.int 0))) (af 3)) (cF (.int 4))) (af 4)) (cF (.int 1))))))
noncomputable def dg:cZ:=dY 5 nq
noncomputable def jf:cC:=
 (aA (aV 3 (ao bx (ae (af 1) (ae (af 2) ai))))
 (cn (wH (ay (eC false) (ay aI (af 3) (cF (.int 0))) (cF (.int (-1)))) (ay (eC false) (ay aI (af 3) (cF (.int 2))) (h_ (bc (ao dg (ae (af 0) (ae (af 2) (ae (af 3) ai))))))))))
noncomputable def eP:cZ:=dY 4 jf
noncomputable def rR:cC:=
 (aA (aV 2 (bT (cV dI (ae (af 1) ai))))
 (AN (cu [none,some 0,some 1,some 2] (ow (h_ (bc (ay aI (af 1) (cF (.int 3)))))) (bR 0) (gf (aE (AJ true (af 0) (bc (af 3)))) (wL (mq (ao eP (ae (af 1) (ae (af 2) (ae (af 0) ai))))))) (af 0))))
noncomputable def fR:cZ:=dY 3 rR
noncomputable def nc:cC:=
 (aA (aV 2 (bT (cV fN (ae (af 0) (ae (af 1) ai)))))
 (aA (ig (ow (cF (.int 2))) (bR 3) (aA (aV 4 (bT (cV fR (ae (af 0) (ae (af 1) ai)))))
 (aA (eF (Ez (wL (mq (uZ "list" (af 4)))) (Ez (aE (eqQ true (bc (af 4)) (bc (af 2)))) (mq (BS (gC (cu [none] (i6 (bc (af 4))) (bR 0) cM (uZ "bool" (af 0)))))))) (cn (cF (.bl false))) fS)
 (jF (m5 eY (af 4) (ae (cF (.int 9)) ai))))))
 (cn (cF (.bl true)))))
noncomputable def gK:cZ:=dY 5 nc
noncomputable def p0:cC:=
 (aA (eF (gf (aE (AJ false (af 2) (bc (af 1)))) (aE (ay (eC false) (ao au (ae (af 0) (ae (cF (.int 2)) ai))) (cF (.int 0))))) (cn (af 2)) fS)
 (cn (ao aS (ae (af 0) (ae (af 1) ai)))))
noncomputable def iu:cZ:=dY 3 p0
noncomputable def sm:cC:=
 (AN (cu [none] (i6 (bc (af 0))) (bR 0) cM (ay aI (af 0) (cF (.int 0)))))
noncomputable def cN:cZ:=dY 1 sm
noncomputable def rO:cC:=
 (cn (Ew (gC (cV cN (ae (af 0) ai))) (af 1)))
noncomputable def b9:cZ:=dY 2 rO
noncomputable def ph:cC:=
 (cn (ay cc (ay cc (qy (af 0) qE (oU (af 1))) (aX (ae (af 2) ai))) (qy (af 0) (oU (ay cc (af 1) (cF (.int 1)))) qE)))
noncomputable def bS:cZ:=dY 3 ph
noncomputable def oW:cC:=
 (cn (ay cc (qy (af 0) qE (oU (cF (.int 3)))) (aX (ae (ao bS (ae (ay aI (af 0) (cF (.int 3))) (ae (af 1) (ae (aX (ae (af 2) (ae (af 3) ai))) ai)))) ai))))
noncomputable def cX:cZ:=dY 4 oW
noncomputable def p5:cC:=
 (cn (ay cc (aX (ae (ao bS (ae (ay aI (af 0) (cF (.int 0))) (ae (af 1) (ae (af 2) ai)))) ai)) (qy (af 0) (oU (cF (.int 1))) qE)))
noncomputable def bN:cZ:=dY 3 p5
noncomputable def ki:cC:=
 (aA (aV 5 (ay aI (ao bx (ae (af 1) (ae (af 2) ai))) (cF (.int 0))))
 (aA (eF (aE (ay (eC true) (af 5) (cF (.int (-1))))) (aA (aV 6 (ao b9 (ae (ay aI (ay aI (ay aI (af 0) (cF (.int 0))) (af 5)) (cF (.int 2))) (ae (af 3) ai))))
 (aA (aV 7 (ao bS (ae (ay aI (ay aI (ay aI (af 1) (cF (.int 0))) (af 5)) (cF (.int 0))) (ae (af 6) (ae (af 4) ai)))))
 (cn (ao bN (ae (af 1) (ae (af 5) (ae (ay cc (aX (ae (af 7) ai)) (qy (ay aI (ay aI (af 1) (cF (.int 0))) (af 5)) (oU (cF (.int 1))) qE)) ai))))))) fS)
 (aA (eF (aE (AJ false (af 3) (gC (cV cN (ae (ay aI (af 0) (cF (.int 2))) ai))))) (aA (aV 8 (ao bS (ae (ay aI (af 1) (cF (.int 2))) (ae (ao b9 (ae (ay aI (af 0) (cF (.int 2))) (ae (af 3) ai))) (ae (af 4) ai)))))
 (cn (aX (ae (ay aI (af 1) (cF (.int 0))) (ae (ay aI (af 1) (cF (.int 1))) (ae (af 8) (ae (ay aI (af 1) (cF (.int 3))) ai))))))) fS)
 (aA (oN (ay aI (ay aI (af 1) (cF (.int 3))) (af 2)) (jS (nG 2 (aG (bR 7) (aG (bR 9) ed)))))
 (aA (aV 6 (ao b9 (ae (ay aI (ay aI (ay aI (af 0) (cF (.int 3))) (af 2)) (cF (.int 0))) (ae (af 3) ai))))
 (cn (ao cX (ae (af 1) (ae (af 2) (ae (ao bS (ae (af 7) (ae (af 6) (ae (af 4) ai)))) (ae (af 9) ai)))))))))))
noncomputable def dP:cZ:=dY 10 ki
noncomputable def j6:cC:=
 (aA (eF (aE (ay (eC false) (af 0) (cF (.str "plus")))) (cn (ud minD (ae (ay cc (af 1) (af 2)) (ae (cF (.int (9))) ai)))) fS)
 (aA (eF (aE (ay (eC false) (af 0) (cF (.str "minus")))) (cn (ud maxD (ae (ay jU (af 1) (af 2)) (ae (cF (.int 0)) ai)))) fS)
 (aA (eF (aE (ay (eC false) (af 0) (cF (.str "less")))) (cn (uz (aE (ay zL (af 1) (af 2))) (cF (.int 1)) (cF (.int 0)))) fS)
 (aA (eF (aE (ay (eC false) (af 0) (cF (.str "same")))) (cn (uz (aE (ay (eC false) (af 1) (af 2))) (cF (.int 1)) (cF (.int 0)))) fS)
 (cn (uz (gf (aE (ay (eC true) (af 1) (cF (.int 0)))) (aE (ay (eC true) (af 2) (cF (.int 0))))) (cF (.int 1)) (cF (.int 0))))))))
noncomputable def fe:cZ:=dY 3 j6
noncomputable def rC(self:cZ):cC:=
 (aA (eF (mq (uZ "int" (af 0))) (cn (af 0)) fS)
 (aA (eF (mq (uZ "str" (af 0))) (cn (Ge (af 1) (af 0))) fS)
 (aA (eF (aE (ay (eC false) (ay aI (af 0) (cF (.int 0))) (cF (.str "waits")))) (cn (uz (aE (ay E6 (Ge (af 2) (ay aI (af 0) (cF (.int 1)))) (cF (.int 0)))) (cF (.int 1)) (cF (.int 0)))) fS)
 (aA (aV 3 (ao self (ae (ay aI (af 0) (cF (.int 1))) (ae (af 1) (ae (af 2) ai)))))
 (aA (eF (aE (ay (eC false) (ay aI (af 0) (cF (.int 0))) (cF (.str "not")))) (cn (uz (aE (ay (eC false) (af 3) (cF (.int 0)))) (cF (.int 1)) (cF (.int 0)))) fS)
 (cn (ao fe (ae (ay aI (af 0) (cF (.int 0))) (ae (af 3) (ae (ao self (ae (ay aI (af 0) (cF (.int 2))) (ae (af 1) (ae (af 2) ai)))) ai))))))))))
noncomputable def e_:Nat->cZ
 |0=>fun _ _=>none
 |n+1=>dY 4 (rC (e_ n))
noncomputable def m7:cC:=
 (aA (aV 4 (ao bx (ae (af 1) (ae (af 2) ai))))
 (aA (aV 5 (ay aI (af 4) (cF (.int 0))))
 (aA (eF (aE (ay (eC false) (af 5) (cF (.int (-1))))) (aA (aV 6 (E1 (gC (cV cN (ae (ay aI (af 0) (cF (.int 2))) ai))) (bc (ay aI (af 1) (cF (.int 2))))))
 (aA (jF (Cy (af 6) (E1 (gC (cV cN (ae (ay aI (ay aI (ay aI (af 0) (cF (.int 3))) (af 2)) (cF (.int 0))) ai))) (bc (ay aI (ay aI (ay aI (af 1) (cF (.int 3))) (af 2)) (cF (.int 0)))))))
 (cn (ao (e_ 6) (ae (af 3) (ae (af 6) (ae GW ai))))))) fS)
 (aA (aV 6 (E1 (gC (cV cN (ae (ay aI (ay aI (ay aI (af 0) (cF (.int 0))) (af 5)) (cF (.int 2))) ai))) (bc (ay aI (ay aI (ay aI (af 1) (cF (.int 0))) (af 5)) (cF (.int 0))))))
 (aA (GD (af 6) (cF (.str "given")) (ay aI (af 4) (cF (.int 3))))
 (aA (GB 7 (pS [none,none] (wq (gC (cV cN (ae (ay aI (ay aI (ay aI (af 0) (cF (.int 0))) (af 5)) (cF (.int 3))) ai))) (bc (ay aI (ay aI (ay aI (af 1) (cF (.int 0))) (af 5)) (cF (.int 4))))) (jS (nG 2 (aG (bR 0) (aG (bR 1) ed)))) cM (af 0) (h_ (bc (af 1)))))
 (cn (ao (e_ 6) (ae (af 3) (ae (af 6) (ae (af 7) ai)))))))))))
noncomputable def bZ:cZ:=dY 8 m7
noncomputable def yc:cC:=
 (cn (ao dP (ae (af 0) (ae (af 1) (ae (af 2) (ae (ay aI (af 3) (cF (.int 1))) (ae (ao bZ (ae (af 0) (ae (af 1) (ae (af 2) (ae (ay aI (af 3) (cF (.int 2))) ai))))) ai)))))))
noncomputable def oM:cZ:=dY 4 yc
noncomputable def gY:cC:=
 (aA (oN (ay aI (ay aI (af 0) (cF (.int 3))) (af 1)) (jS (nG 2 (aG (bR 3) (aG (bR 4) ed)))))
 (cn (ao cX (ae (af 0) (ae (af 1) (ae (af 3) (ae (ay cc (qy (af 4) qE (oU (nY (cF (.int 1))))) (aX (ae (af 2) ai))) ai)))))))
noncomputable def cD:cZ:=dY 5 gY
noncomputable def xX:cC:=
 (aA (aV 3 (ao bx (ae (af 0) (ae (af 1) ai))))
 (cn (ao cD (ae (af 0) (ae (af 1) (ae (ay cc (ay cc (qy (af 3) qE (oU (cF (.int 2)))) (aX (ae (af 2) ai))) (qy (af 3) (oU (cF (.int 3))) qE)) ai))))))
noncomputable def fL:cZ:=dY 4 xX
noncomputable def pz:cC:=
 (aA (eF (aE (ay (eC false) (ao bZ (ae (af 0) (ae (af 1) (ae (af 2) (ae (ay aI (af 3) (cF (.int 1))) ai))))) (cF (.int 0)))) (cn (ao fL (ae (af 1) (ae (af 2) (ae (ay aI (af 3) (cF (.int 2))) ai))))) fS)
 (cn (af 1)))
noncomputable def iM:cZ:=dY 4 pz
noncomputable def Ad:cC:=
 (cn (ao fL (ae (af 1) (ae (af 2) (ae (ay aI (af 3) (cF (.int 1))) ai)))))
noncomputable def s_:cZ:=dY 4 Ad
noncomputable def ve:cC:=
 (aA (oN (ay aI (ay aI (af 0) (cF (.int 0))) (af 1)) (jS (nG 5 (aG (bR 3) (aG (bR 4) (aG (bR 5) (aG (bR 6) (aG (bR 7) ed))))))))
 (aA (eF (aE (ay (eC false) (af 4) (cF (.int (-1))))) (cn (ao bN (ae (af 0) (ae (af 1) (ae (aX (ae (af 3) (ae (af 2) (ae (af 5) (ae (af 6) (ae (af 7) ai)))))) ai))))) fS)
 (cn (ao bN (ae (af 0) (ae (af 1) (ae (aX (ae (af 3) (ae (af 4) (ae (ay cc (af 5) (aX (ae (af 2) ai))) (ae (af 6) (ae (af 7) ai)))))) ai)))))))
noncomputable def hJ:cZ:=dY 8 ve
noncomputable def AM:cC:=
 (aA (aV 4 (ao b9 (ae (ay aI (af 0) (cF (.int 0))) (ae (ay aI (af 3) (cF (.int 2))) ai))))
 (aA (aV 5 (ao b9 (ae (ay aI (ay aI (ay aI (af 0) (cF (.int 0))) (af 4)) (cF (.int 4))) (ae (ay aI (af 3) (cF (.int 3))) ai))))
 (aA (aV 6 (aX (ae (af 4) (ae (af 5) (ae (cF (.int 0)) (ae (ao bZ (ae (af 0) (ae (af 1) (ae (af 2) (ae (ay aI (af 3) (cF (.int 4))) ai))))) (ae (cF (.int 0)) ai)))))))
 (aA (oN (ay aI (ay aI (af 1) (cF (.int 3))) (af 2)) (jS (nG 2 (aG (bR 7) (aG (bR 8) ed)))))
 (cn (ao hJ (ae (ao cX (ae (af 1) (ae (af 2) (ae (af 7) (ae (ay cc (af 8) (aX (ae (af 6) ai))) ai))))) (ae (af 4) (ae (af 2) ai)))))))))
noncomputable def tm:cZ:=dY 9 AM
noncomputable def vo:cC:=
 (aA (aV 4 (ay aI (ao bx (ae (af 1) (ae (af 2) ai))) (cF (.int 0))))
 (cn (aX (ae (af 4) (ae (ao b9 (ae (ay aI (ay aI (ay aI (af 0) (cF (.int 0))) (af 4)) (cF (.int 3))) (ae (af 3) ai))) ai)))))
noncomputable def fg:cZ:=dY 5 vo
noncomputable def pK:cC:=
 (aA (aV 4 (ay aI (ay aI (af 0) (cF (.int 0))) (af 1)))
 (cn (ao bN (ae (af 0) (ae (af 1) (ae (ay cc (qy (af 4) qE (oU (cF (.int 4)))) (aX (ae (ao bS (ae (ay aI (af 4) (cF (.int 4))) (ae (af 2) (ae (af 3) ai)))) ai))) ai))))))
noncomputable def dq:cZ:=dY 5 pK
noncomputable def Bg:cC:=
 (aA (oN (ay aI (ay aI (af 0) (cF (.int 0))) (af 1)) (jS (nG 5 (aG (bR 2) (aG (bR 3) (aG (bR 4) (aG (bR 5) (aG (bR 6) ed))))))))
 (aA (eF (mq (af 5)) (cn (ao bN (ae (af 0) (ae (af 1) (ae (aX (ae (af 2) (ae (ay aI (af 5) (cF (.int 0))) (ae (af 4) (ae (qy (af 5) (oU (cF (.int 1))) qE) (ae (af 6) ai)))))) ai))))) fS)
 (aA (eF (mq (af 4)) (cn (ao bN (ae (af 0) (ae (af 1) (ae (aX (ae (af 2) (ae (ay aI (af 4) (cF (.int 0))) (ae (qy (af 4) (oU (cF (.int 1))) qE) (ae (af 5) (ae (af 6) ai)))))) ai))))) fS)
 (cn (ao bN (ae (af 0) (ae (af 1) (ae (aX (ae (af 2) (ae (cF (.int (-1))) (ae (af 4) (ae (af 5) (ae (af 6) ai)))))) ai))))))))
noncomputable def kQ:cZ:=dY 7 Bg
noncomputable def we:cC:=
 (aA (oN (ao fg (ae (af 0) (ae (af 1) (ae (af 2) (ae (ay aI (af 3) (cF (.int 1))) ai))))) (jS (nG 2 (aG (bR 4) (aG (bR 5) ed)))))
 (aA (aV 6 (cF (.int 0)))
 (aA (eF (aE (ay (eC false) (ay aI (ay aI (ay aI (ay aI (ay aI (af 0) (cF (.int 0))) (af 4)) (cF (.int 3))) (af 5)) (cF (.int 1))) (cF (.str "turns")))) (aV 6 (ao bZ (ae (af 0) (ae (af 1) (ae (af 2) (ae (ay aI (af 3) (cF (.int 2))) ai)))))) fS)
 (aA (aV 7 (ay aI (ay aI (ay aI (ay aI (af 1) (cF (.int 0))) (af 4)) (cF (.int 4))) (af 5)))
 (aA (aV 8 (h_ (gC (cu [none,none,some 6] (i6 (bc (af 7))) (jS (nG 2 (aG (bR 0) (aG (bR 1) ed)))) (aE (ay Hj (af 0) (af 2))) (af 0)))))
 (aA (aV 9 (ao dq (ae (af 1) (ae (af 4) (ae (af 5) (ae (ay cc (ay cc (qy (af 7) qE (oU (af 8))) (aX (ae (aX (ae (af 6) (ae (af 2) ai))) ai))) (qy (af 7) (oU (af 8)) qE)) ai))))))
 (cn (ao kQ (ae (af 9) (ae (af 4) ai))))))))))
noncomputable def lN:cZ:=dY 10 we
noncomputable def vb:cC:=
 (aA (oN (ao fg (ae (af 0) (ae (af 1) (ae (af 2) (ae (ay aI (af 3) (cF (.int 1))) ai))))) (jS (nG 2 (aG (bR 4) (aG (bR 5) ed)))))
 (aA (aV 6 (ay aI (ay aI (ay aI (ay aI (af 1) (cF (.int 0))) (af 4)) (cF (.int 4))) (af 5)))
 (aA (eF (wL (mq (af 6))) (cn (af 1)) fS)
 (aA (aV 7 (ao dq (ae (af 1) (ae (af 4) (ae (af 5) (ae (qy (af 6) (oU (cF (.int 1))) qE) ai))))))
 (aA (eF (aE (ay (eC false) (ay aI (ay aI (ay aI (af 0) (cF (.int 0))) (af 4)) (cF (.int 1))) (cF (.str "when free")))) (cn (af 7)) fS)
 (aA (oN (ay aI (ay aI (af 7) (cF (.int 0))) (af 4)) (jS (nG 5 (aG (bR 8) (aG (bR 9) (aG (bR 10) (aG (bR 11) (aG (bR 12) ed))))))))
 (cn (ao bN (ae (af 7) (ae (af 4) (ae (aX (ae (af 8) (ae (ay aI (ay aI (af 6) (cF (.int 0))) (cF (.int 1))) (ae (af 10) (ae (ay cc (af 11) (aX (ae (af 2) ai))) (ae (af 12) ai)))))) ai)))))))))))
noncomputable def lS:cZ:=dY 13 vb
noncomputable def xM:cC:=
 (aA (oN (ao fg (ae (af 0) (ae (af 1) (ae (af 2) (ae (ay aI (af 3) (cF (.int 1))) ai))))) (jS (nG 2 (aG (bR 4) (aG (bR 5) ed)))))
 (cn (ao dq (ae (af 1) (ae (af 4) (ae (af 5) (ae (aX ai) ai)))))))
noncomputable def oA:cZ:=dY 6 xM
noncomputable def vR:cC:=
 (aA (aV 4 (ao bZ (ae (af 0) (ae (af 1) (ae (af 2) (ae (ay aI (af 3) (cF (.int 1))) ai))))))
 (cn (ao cD (ae (af 1) (ae (af 2) (ae (ay cc (qy (ao bx (ae (af 1) (ae (af 2) ai))) qE (oU (cF (.int 4)))) (aX (ae (af 4) ai))) ai))))))
noncomputable def lj:cZ:=dY 5 vR
noncomputable def pd:cC:=
 (cn (ay cc (aX (ae (ay aI (af 0) (cF (.int 0))) (ae (ao bS (ae (ay aI (af 0) (cF (.int 1))) (ae (af 1) (ae (af 2) ai)))) ai))) (qy (af 0) (oU (cF (.int 2))) qE)))
noncomputable def dJ:cZ:=dY 3 pd
noncomputable def z_:cC:=
 (aA (aV 4 (ao b9 (ae (ay aI (af 0) (cF (.int 1))) (ae (af 3) ai))))
 (aA (oN (ay aI (ay aI (af 1) (cF (.int 1))) (af 4)) (jS (nG 2 (aG (bR 5) (aG (bR 6) ed)))))
 (aA (eF (aE (ay E6 (af 5) (cF (.int 0)))) (cn (ao dJ (ae (af 1) (ae (af 4) (ae (aX (ae (ay jU (af 5) (cF (.int 1))) (ae (af 6) ai))) ai))))) fS)
 (cn (ao dJ (ae (af 1) (ae (af 4) (ae (aX (ae (af 5) (ae (ay cc (af 6) (aX (ae (af 2) ai))) ai))) ai))))))))
noncomputable def my:cZ:=dY 7 z_
noncomputable def vE:cC:=
 (cn (ao my (ae (af 0) (ae (af 1) (ae (af 2) (ae (ay aI (af 3) (cF (.int 1))) ai))))))
noncomputable def me:cZ:=dY 4 vE
noncomputable def nz:cC:=
 (aA (aV 3 (ao b9 (ae (ay aI (af 0) (cF (.int 1))) (ae (af 2) ai))))
 (aA (oN (ay aI (ay aI (af 1) (cF (.int 1))) (af 3)) (jS (nG 2 (aG (bR 4) (aG (bR 5) ed)))))
 (aA (eF (mq (af 5)) (cn (ao dJ (ae (af 1) (ae (af 3) (ae (aX (ae (af 4) (ae (qy (af 5) (oU (cF (.int 1))) qE) ai))) ai))))) fS)
 (cn (ao dJ (ae (af 1) (ae (af 3) (ae (aX (ae (ud minD (ae (ay cc (af 4) (cF (.int 1))) (ae (cF (.int (9))) ai))) (ae (af 5) ai))) ai))))))))
noncomputable def eD:cZ:=dY 6 nz
noncomputable def vM:cC:=
 (cn (ao eD (ae (af 0) (ae (af 1) (ae (ay aI (af 3) (cF (.int 1))) ai)))))
noncomputable def lD:cZ:=dY 4 vM
noncomputable def vq:cC:=
 (cn (ao my (ae (af 0) (ae (ao eD (ae (af 0) (ae (af 1) (ae (ay aI (af 3) (cF (.int 1))) ai)))) (ae (af 2) (ae (ay aI (af 3) (cF (.int 2))) ai))))))
noncomputable def l_:cZ:=dY 4 vq
noncomputable def xP:cC:=
 (cn (af 1))
noncomputable def oF:cZ:=dY 4 xP
def jL:List (Str×Str):= [("put","by_put"),("unless","by_unless"),("go","by_go"),("do","by_do"),("wait","by_wait"),("call","by_call"),("all","by_all"),("tell","by_tell"),("take","by_take"),("give","by_give"),("pass","by_pass"),("say","by_say")]
noncomputable def pJ:List (Str×cZ):= [("by_put",oM),("by_unless",iM),("by_go",s_),("by_do",tm),("by_wait",lN),("by_call",lS),("by_all",oA),("by_tell",lj),("by_take",me),("by_give",lD),("by_pass",l_),("by_say",oF)]
noncomputable def rN:cC:=
 (aA (aV 4 (GE jL (ay aI (af 3) (cF (.int 0)))))
 (cn (pQ 4 pJ (ae (af 0) (ae (af 1) (ae (af 2) (ae (af 3) ai)))))))
noncomputable def ia:cZ:=dY 5 rN
noncomputable def sF:cC:=
 (aA (oN (ay aI (ay aI (af 1) (cF (.int 3))) (af 2)) (jS (nG 2 (aG (bR 3) (aG (bR 4) ed)))))
 (aA (oN (ay aI (af 4) (nY (cF (.int 1)))) (jS (nG 5 (aG (bR 5) (aG (bR 6) (aG (bR 7) (aG (bR 8) (aG (bR 9) ed))))))))
 (aA (aV 10 (ao cX (ae (ao kQ (ae (af 1) (ae (af 5) ai))) (ae (af 2) (ae (af 3) (ae (qy (af 4) qE (oU (nY (cF (.int 1))))) ai))))))
 (aA (aV 11 (ay aI (ao dg (ae (af 0) (ae (af 2) (ae (ay aI (af 4) (nY (cF (.int 2)))) ai)))) (ay jU (ay aI (ay aI (af 4) (nY (cF (.int 2)))) (cF (.int 2))) (cF (.int 1)))))
 (aA (eF (aE (ay (CD false) (ay aI (af 11) (cF (.int 1))) (cF .non))) (cn (af 10)) fS)
 (cn (ao dP (ae (af 0) (ae (af 10) (ae (af 2) (ae (ay aI (af 11) (cF (.int 1))) (ae (af 9) ai))))))))))))
noncomputable def hV:cZ:=dY 12 sF
noncomputable def lW:cC:=
 (aA (aV 3 (ao bx (ae (af 1) (ae (af 2) ai))))
 (aA (aV 4 (ay aI (af 3) (cF (.int 0))))
 (aA (eF (gf (aE (ay (eC true) (af 4) (cF (.int (-1))))) (aE (ay (eC true) (ay aI (ay aI (ay aI (af 1) (cF (.int 0))) (af 4)) (cF (.int 1))) (af 2)))) (cn (aX (ae (ao hJ (ae (af 1) (ae (af 4) (ae (af 2) ai)))) (ae (cF .non) ai)))) fS)
 (aA (aV 5 (ao dg (ae (af 0) (ae (af 2) (ae (af 3) ai)))))
 (aA (eF (aE (ay (eC false) (ay aI (af 3) (cF (.int 2))) (h_ (bc (af 5))))) (cn (aX (ae (ao hV (ae (af 0) (ae (af 1) (ae (af 2) ai)))) (ae (cF .non) ai)))) fS)
 (aA (aV 6 (ay aI (af 5) (ay aI (af 3) (cF (.int 2)))))
 (aA (aV 7 (cF .non))
 (aA (eF (aE (ay (eC false) (ay aI (af 6) (cF (.int 0))) (cF (.str "say")))) (aV 7 (aX (ae (af 2) (ae (ao bZ (ae (af 0) (ae (af 1) (ae (af 2) (ae (ay aI (af 6) (cF (.int 1))) ai))))) ai)))) fS)
 (cn (aX (ae (ao ia (ae (af 0) (ae (ao fL (ae (af 1) (ae (af 2) (ae (ay cc (ay aI (af 3) (cF (.int 2))) (cF (.int 1))) ai)))) (ae (af 2) (ae (af 6) ai))))) (ae (af 7) ai))))))))))))
noncomputable def lX:cZ:=dY 8 lW
noncomputable def uY:cC:=
 (aA (eF (aE (AJ true (af 2) (gC (cV fR (ae (af 0) (ae (af 1) ai)))))) never fS)
 (cn (ao lX (ae (af 0) (ae (af 1) (ae (af 2) ai))))))
noncomputable def lT:cZ:=dY 3 uY
noncomputable def Fm:cC:=
 (aA (ig (ow (ud maxD (ae (cF (.int 1)) (ae (ud minD (ae (h_ (bc (af 0))) (ae (cF (.int 5)) ai))) ai)))) (bR 1) (aA (aV 2 (bT (cV jG (ae (af 0) (ae (af 1) ai)))))
 (aA (aV 3 (ao dv (ae (af 2) ai)))
 (aA (aV 4 (ao tj (ae (af 3) ai)))
 (aA (aV 5 (nY (cF (.int 1))))
 (ig (ow (cF (.int 40))) (bR 6) (aA (eF (wL (mq (ao gK (ae (af 3) (ae (af 4) ai))))) (cn (cF (.bl false))) fS)
 (aA (aV 7 (bT (cV fN (ae (af 3) (ae (af 4) ai)))))
 (eF (aE (cW (bc (af 7)))) (aA (aV 5 (ao iu (ae (af 2) (ae (af 7) (ae (af 5) ai)))))
 (aV 4 (ay aI (ao lT (ae (af 3) (ae (af 4) (ae (af 5) ai)))) (cF (.int 0))))) fS)))))))))
 (cn (cF (.bl true))))
noncomputable def CG:cZ:=dY 8 Fm
def top(i:Nat):Stmt:=PySem.Challenge.pw_calledroom_k19_who_may_step.main.body.getD i (.Pass ⟨0,0,0,0⟩)
abbrev kB:Stmt:=top 56
abbrev jA:Stmt:=top 57
abbrev iQ:Stmt:=top 59
abbrev jw:Stmt:=top 58
abbrev kH:Stmt:=top 60
abbrev iB:Stmt:=top 61
abbrev mL:Stmt:=top 62
abbrev jo:Stmt:=top 63
abbrev ju:Stmt:=top 64
abbrev iG:Stmt:=top 65
abbrev kA:Stmt:=top 66
abbrev iO:Stmt:=top 67
abbrev eX:Stmt:=top 68
abbrev jg:Stmt:=top 10
abbrev iK:Stmt:=top 12
abbrev um:Stmt:=top 11
abbrev iy:Stmt:=top 70
abbrev jn:Stmt:=top 71
abbrev gU:Stmt:=top 72
abbrev kD:Stmt:=top 73
abbrev km:Stmt:=top 21
abbrev ft:Stmt:=top 51
abbrev iR:Stmt:=top 13
abbrev iP:Stmt:=top 14
abbrev fu:Stmt:=top 52
abbrev ko:Stmt:=top 50
abbrev iC:Stmt:=top 74
abbrev jc:Stmt:=top 69
abbrev kj:Stmt:=top 23
abbrev kL:Stmt:=top 25
abbrev i7:Stmt:=top 15
abbrev i9:Stmt:=top 18
abbrev jr:Stmt:=top 16
abbrev jz:Stmt:=top 27
abbrev gn:Stmt:=top 6
abbrev kI:Stmt:=top 5
abbrev kG:Stmt:=top 26
abbrev pT:Stmt:=top 31
abbrev eJ:Stmt:=top 19
abbrev pX:Stmt:=top 20
abbrev jv:Stmt:=top 32
abbrev sO:Stmt:=top 33
abbrev mK:Stmt:=top 28
abbrev tf:Stmt:=top 34
abbrev mv:Stmt:=top 35
abbrev jm:Stmt:=top 36
abbrev sM:Stmt:=top 29
abbrev mW:Stmt:=top 37
abbrev mY:Stmt:=top 38
abbrev qd:Stmt:=top 39
abbrev mS:Stmt:=top 40
abbrev jk:Stmt:=top 17
abbrev tJ:Stmt:=top 42
abbrev mJ:Stmt:=top 41
abbrev ix:Stmt:=top 44
abbrev mG:Stmt:=top 43
abbrev mP:Stmt:=top 45
abbrev pB:Stmt:=top 46
abbrev kn:Stmt:=top 48
abbrev ku:Stmt:=top 30
abbrev m3:Stmt:=top 54
abbrev mH:Stmt:=top 53
abbrev lL:Stmt:=top 75
end W28
namespace W28
open PySem PySem.Spec L2 DL PyProof.Rows
section
variable{P:Program}{w:World}{K:PySem.W.Frag}{mg:Str->Option Value}{base:Heap}{f:Addr}{fd:FuncData}
theorem ni:aB ["_law_script","_law_k","_law_cell","_law_digits"] ["_law_script","_law_k"] (ar kB):=⟨rfl,rfl,rfl,by decide +kernel,rfl,by decide +kernel,by decide +kernel⟩
theorem vY(F:dR K "_law_pot" "_law_pot" kB f fd)(B:Bl mg):bh P w K mg base dt 1 f fd ["_law_script","_law_k"] (dG ⟨K,mg⟩ 2 jG):=by
 have nd:=ni.nd
 refine a9 F ni fun cdv A outer s H E hr=> ?_
 exact(aj (bg 2 nd ag)
  (aj (cq (bA lI mj (v_ 1) (fh rfl B.len (df (v_ 0))) (aK _)) (aw (bg 2 nd (n_ DY (dH AZ rfl B.abs (by rfl) (aa (av (v_ 0) (v_ 1)) ah))))) bL)
  (aj (bg 3 nd (p_ (qx (v_ 2) (p_ (zO ag ag) (zO ag ag))) (n_ hZ (eW fM rfl B.int (by rfl) (aa (kY Gk Fq (v_ 2) (zO ag ag) (aK _)) ah)))))
  (aw (kK (bP (aa (v_ 3) (aa (qx (bO (bO (v_ 2) (p_ ag (v_ 1))) ag) ag) (aa ag ah)))))))))
theorem lz:aB ["_law_pot_here","_law_many","_law_digit","_law_mixed"] ["_law_pot_here","_law_many"] (ar jA):=⟨rfl,rfl,rfl,by decide +kernel,rfl,by decide +kernel,by decide +kernel⟩
theorem uw(F:dR K "_law_take" "_law_take" jA f fd)(B:Bl mg):bh P w K mg base dt 1 f fd ["_law_pot_here","_law_many"] (dG ⟨K,mg⟩ 2 au):=by
 have nd:=lz.nd
 refine a9 F lz fun cdv A outer s H E hr=> ?_
 exact(aj (cq (bA yu xT (av (v_ 0) ag) ag (aK _)) (aj (bg 2 nd (qx (av (v_ 0) ag) (v_ 1)))
  (aj (eE (zW (av (v_ 0) ag) (v_ 1)) (Df (v_ 0) ag))
  (aw (aF (v_ 2))))) bL)
  (aj (ET (v_ 0) ag ag)
  (aj (bg 3 nd (qx (bO (bO (p_ (av (v_ 0) ag) ag) (p_ ag (av (v_ 0) ag))) ag) ag))
  (aj (eE (qx (p_ (v_ 3) (bO (bO (qx (v_ 3) ag) (p_ ag (av (v_ 0) ag))) ag)) ag) (Df (v_ 0) ag))
  (aw (aF (qx (zW (av (v_ 0) ag) ag) (v_ 1))))))))
theorem jZ:aB ["_law_pot_here","_law_stem","_law_many","_law_left"] ["_law_pot_here","_law_stem","_law_many"] (ar iQ):=⟨rfl,rfl,rfl,by decide +kernel,rfl,by decide +kernel,by decide +kernel⟩
theorem qP(F:dR K "_law_words" "_law_words" iQ f fd)(B:Bl mg)(c__law_take:bH P w K mg base 1 "_law_take" ["_law_pot_here","_law_many"] au):bh P w K mg base dt 2 f fd ["_law_pot_here","_law_stem","_law_many"] (dG ⟨K,mg⟩ 3 cb):=by
 have nd:=jZ.nd
 refine a9 F jZ fun cdv A outer s H E hr=> ?_
 exact(aj (bg 3 nd (bC (c_ (N:= ["_law_one","_law_stem"]) (js:= [none,some 1]) (aN.gen rfl rfl rfl rfl rfl rfl) rfl (du (ip (bP (aa aR (aa aR (aa aR (aa aR (aa aR (aa aR ah))))))))) (fun _ _ _ _=>(eU 0)) (fun _ _ _ _=>eR) (fun _ _ _ _=>(bO (v_ 1) (v_ 0))))))
  (aw (kK (Bi rfl B.sorted (ip (c_ (N:= ["_law_k","_law_pot_here","_law_left"]) (js:= [none,some 0,some 3]) (aN.gen rfl rfl rfl rfl rfl rfl) rfl (iW rfl B.range (v_ 2)) (fun _ _ _ _=>(eU 0)) (fun _ _ _ _=>eR) (fun _ _ _ _=>(yt (v_ 2) (aD c__law_take hr (aa (v_ 1) (aa (fh rfl B.len (df (v_ 2))) ah)))))))))))
theorem tU:aB ["_law_pot_here","_law_some"] ["_law_pot_here","_law_some"] (ar jw):=⟨rfl,rfl,rfl,by decide +kernel,rfl,by decide +kernel,by decide +kernel⟩
theorem ua(F:dR K "_law_pick" "_law_pick" jw f fd)(B:Bl mg)(c__law_take:bH P w K mg base 1 "_law_take" ["_law_pot_here","_law_many"] au):bh P w K mg base dt 2 f fd ["_law_pot_here","_law_some"] (dG ⟨K,mg⟩ 2 aS):=by
 refine a9 F tU fun cdv A outer s H E hr=> ?_
 exact(aw (aF (av (v_ 1) (aD c__law_take hr (aa (v_ 0) (aa (fh rfl B.len (df (v_ 1))) ah))))))
theorem nk:aB ["_law_pot_here","_law_words_here","_law_bells","_law_deep","_law_way","_law_word"] ["_law_pot_here","_law_words_here","_law_bells","_law_deep"] (ar kH):=⟨rfl,rfl,rfl,by decide +kernel,rfl,by decide +kernel,by decide +kernel⟩
theorem nu(F:dR K "_law_sum" "_law_sum" kH f fd)(B:Bl mg)(c__law_take:bH P w K mg base 1 "_law_take" ["_law_pot_here","_law_many"] au)(c__law_pick:bH P w K mg base 2 "_law_pick" ["_law_pot_here","_law_some"] aS)(b:Binds K fd ["_law_pot_here","_law_words_here","_law_bells","_law_deep"] [])(kp:PySem.W.keepIn K (.ref f)=true)(m:mg "_law_sum"=some (.ref f)):∀n,bh P w K mg base dt (3+n) f fd ["_law_pot_here","_law_words_here","_law_bells","_law_deep"] (dG ⟨K,mg⟩ 4 (aY n))
 |0=>xV
 | n+1=>by
   have c__law_sum:bH P w K mg base (3+n) "_law_sum" ["_law_pot_here","_law_words_here","_law_bells","_law_deep"] (aY n):=⟨f,fd,nu F B c__law_take c__law_pick b kp m n,b,kp,m⟩
   have nd:=nk.nd
   refine a9 (k:=3+n) F nk fun cdv A outer s H E hr=> ?_
   have hu:=hr.units0
   exact(aj (bg 4 nd (aD c__law_take hr (aa (v_ 0) (aa ag ah))))
   (aj (cq (PW.pt (w_or (bA lI mj (v_ 3) ag (aK _)) (De (bA lI mj (v_ 4) ag (aK _))))) (aj (cq (PW.pt (w_and (dU hu (df (v_ 1))) (eM (bA yu xT (aD c__law_take hr (aa (v_ 0) (aa ag ah))) ag (aK _))))) (aw (aF (aD c__law_pick hr (aa (v_ 0) (aa (v_ 1) ah))))) bL)
   (aw (aF (aD c__law_take hr (aa (v_ 0) (aa (av (bC (bP (aa ag (aa ag ah)))) (n_ hZ (eW fM rfl B.int (by rfl) (aa (kY cg cf (aD c__law_take hr (aa (v_ 0) (aa ag ah))) ag (aK _)) ah)))) ah)))))) bL)
   (aj (cq (PW.pt (w_and (bA cg cf (v_ 4) ag (aK _)) (eM (dU hu (df (v_ 2)))))) (aw (aF (aH (aa aR (aa (aD c__law_pick hr (aa (v_ 0) (aa (v_ 2) ah))) ah))))) bL)
   (aj (cq (bA cg cf (v_ 4) ag (aK _)) (aw (aF (aH (aa aR (aa (aD c__law_sum hr (aa (v_ 0) (aa (v_ 1) (aa (v_ 2) (aa (pW (v_ 3) ag) ah))))) ah))))) bL)
   (aj (bg 5 nd (av (bC (bP (aa aR (aa aR (aa aR (aa aR (aa aR ah))))))) (aD c__law_take hr (aa (v_ 0) (aa ag ah)))))
   (aw (aF (aH (aa (v_ 5) (aa (aD c__law_sum hr (aa (v_ 0) (aa (v_ 1) (aa (v_ 2) (aa (pW (v_ 3) ag) ah))))) (aa (aD c__law_sum hr (aa (v_ 0) (aa (v_ 1) (aa (v_ 2) (aa (pW (v_ 3) ag) ah))))) ah)))))))))))
theorem ke:aB ["_law_pot_here","_law_words_here","_law_bells","_law_at","_law_turn","_law_row","_law_way","_law_test"] ["_law_pot_here","_law_words_here","_law_bells","_law_at"] (ar iB):=⟨rfl,rfl,rfl,by decide +kernel,rfl,by decide +kernel,by decide +kernel⟩
theorem q0(F:dR K "_law_waits" "_law_waits" iB f fd)(B:Bl mg)(c__law_sum:bH P w K mg base 7 "_law_sum" ["_law_pot_here","_law_words_here","_law_bells","_law_deep"] (aY 4))(c__law_take:bH P w K mg base 1 "_law_take" ["_law_pot_here","_law_many"] au)(c__law_pick:bH P w K mg base 2 "_law_pick" ["_law_pot_here","_law_some"] aS):bh P w K mg base dt 8 f fd ["_law_pot_here","_law_words_here","_law_bells","_law_at"] (dG ⟨K,mg⟩ 4 gQ):=by
 have nd:=ke.nd
 refine a9 F ke fun cdv A outer s H E hr=> ?_
 exact(aj (bg 4 nd (av (bC (bP (aa ag (aa aR (aa (aD c__law_sum hr (aa (v_ 0) (aa (v_ 1) (aa (v_ 2) (aa ag ah))))) ah))))) (aD c__law_take hr (aa (v_ 0) (aa ag ah)))))
  (aj (bg 5 nd (aH (aa aR (aa (aD c__law_pick hr (aa (v_ 0) (aa (v_ 2) ah))) (aa (v_ 4) ah)))))
  (aj (bg 6 nd (aD c__law_take hr (aa (v_ 0) (aa ag ah))))
  (aj (cq (bA cg cf (v_ 6) ag (aK _)) (aw (kK (bP (aa (v_ 5) ah)))) bL)
  (aj (bg 7 nd (aH (aa aR (aa (aD c__law_sum hr (aa (v_ 0) (aa (v_ 1) (aa (v_ 2) (aa ag ah))))) ah))))
  (aw (kK (bP (aa (aH (aa aR (aa (v_ 7) (aa (bO (v_ 3) ag) ah)))) (aa (v_ 5) (aa (aH (aa aR (aa (av (bC (bP (aa (v_ 3) (aa (bO (v_ 3) ag) ah)))) (pW (v_ 6) ag)) ah))) ah)))))))))))
theorem pw:aB ["_law_pot_here","_law_goals","_law_things","_law_words_here","_law_room_here","_law_deed_here","_law_goal"] ["_law_pot_here","_law_goals","_law_things","_law_words_here"] (ar mL):=⟨rfl,rfl,rfl,by decide +kernel,rfl,by decide +kernel,by decide +kernel⟩
theorem wV(F:dR K "_law_do" "_law_do" mL f fd)(B:Bl mg)(c__law_pick:bH P w K mg base 2 "_law_pick" ["_law_pot_here","_law_some"] aS)(c__law_sum:bH P w K mg base 7 "_law_sum" ["_law_pot_here","_law_words_here","_law_bells","_law_deep"] (aY 4)):bh P w K mg base dt 8 f fd ["_law_pot_here","_law_goals","_law_things","_law_words_here"] (dG ⟨K,mg⟩ 4 ij):=by
 have nd:=pw.nd
 refine a9 F pw fun cdv A outer s H E hr=> ?_
 exact(aj (eE (aD c__law_pick hr (aa (v_ 0) (aa (v_ 1) ah))) (cU rfl (ax (bj 4 nd) (ax (bj 5 nd) bW))))
  (aj (bg 6 nd (aD c__law_pick hr (aa (v_ 0) (aa (bC (vz (ip (bP (aa u0 ah))) (df (v_ 2)))) ah))))
  (aw (aF (aH (aa aR (aa (v_ 6) (aa (v_ 4) (aa (v_ 5) (aa (aD c__law_sum hr (aa (v_ 0) (aa (v_ 3) (aa (bC (bP ah)) (aa ag ah))))) ah))))))))))
theorem mi:aB ["_law_pot_here","_law_room_here","_law_goals","_law_most","_law_manner","_law_things","_law_bells","_law_words_here","_law_rows","_law_k","_law_way","_law_word"] ["_law_pot_here","_law_room_here","_law_goals","_law_most"] (ar jo):=⟨rfl,rfl,rfl,by decide +kernel,rfl,by decide +kernel,by decide +kernel⟩
theorem tM(F:dR K "_law_deed" "_law_deed" jo f fd)(B:Bl mg)(c__law_take:bH P w K mg base 1 "_law_take" ["_law_pot_here","_law_many"] au)(c__law_waits:bH P w K mg base 8 "_law_waits" ["_law_pot_here","_law_words_here","_law_bells","_law_at"] gQ)(c__law_pick:bH P w K mg base 2 "_law_pick" ["_law_pot_here","_law_some"] aS)(c__law_do:bH P w K mg base 8 "_law_do" ["_law_pot_here","_law_goals","_law_things","_law_words_here"] ij)(c__law_sum:bH P w K mg base 7 "_law_sum" ["_law_pot_here","_law_words_here","_law_bells","_law_deep"] (aY 4)):bh P w K mg base dt 9 f fd ["_law_pot_here","_law_room_here","_law_goals","_law_most"] (dG ⟨K,mg⟩ 4 iH):=by
 have nd:=mi.nd
 refine a9 F mi fun cdv A outer s H E hr=> ?_
 have hu:=hr.units0
 exact(aj (eE (v_ 1) (cU rfl (ax (bj 4 nd) (ax (bj 5 nd) (ax (bj 6 nd) bW)))))
  (aj (bg 7 nd (bC (vz (df (v_ 5)) (ip (bP (aa aR ah))))))
  (aj (bg 8 nd (bC (bP ah)))
  (aj (fD PassesOwn.never rfl (iW rfl B.range (bO ag (aD c__law_take hr (aa (v_ 0) (aa (v_ 3) ah))))) (bj 9 nd) (aj (bg 10 nd (aD c__law_take hr (aa (v_ 0) (aa ag ah))))
  (aw (cq (PW.pt (w_and (bA lI mj (v_ 10) ag (aK _)) (eM (dU hu (df (v_ 6)))))) (aw (bU (gc (v_ 8) (ip (gE c__law_waits hr (aa (v_ 0) (aa (v_ 7) (aa (v_ 6) (aa (fh rfl B.len (df (v_ 8))) ah))))))))) (aw (cq (PW.pt (w_and (bA lI mj (v_ 10) ag (aK _)) (eM (dU hu (df (v_ 6)))))) (aj (bg 11 nd (av (bC (bP (aa aR (aa aR ah)))) (n_ hZ (eW fM rfl B.int (by rfl) (aa (C6 (kY cg cf (v_ 4) aR (aK _)) (C5 (kY cg cf (v_ 10) ag (aK _)))) ah)))))
  (aw (bU (bV (v_ 8) (aH (aa (v_ 11) (aa (aD c__law_pick hr (aa (v_ 0) (aa (v_ 6) ah))) ah))))))) (aw (cq (PW.pt (w_and (bA cg cf (v_ 10) ag (aK _)) (eM (dU hu (df (v_ 2)))))) (aw (bU (bV (v_ 8) (aD c__law_do hr (aa (v_ 0) (aa (v_ 2) (aa (v_ 5) (aa (v_ 7) ah)))))))) (aw (cq (bA cg cf (v_ 10) ag (aK _)) (aj (bU (bV (v_ 8) (aH (aa aR (aa (aD c__law_sum hr (aa (v_ 0) (aa (v_ 7) (aa (v_ 6) (aa ag ah))))) (aa (bO (fh rfl B.len (df (v_ 8))) ag) ah))))))
  (aw (bU (bV (v_ 8) (aH (aa aR (aa (aD c__law_take hr (aa (v_ 0) (aa ag ah))) ah))))))) (aw (cq (PW.pt (w_and (bA lI mj (v_ 10) ag (aK _)) (eM (dU hu (df (v_ 5)))))) (aw (bU (bV (v_ 8) (aH (aa aR (aa (aD c__law_pick hr (aa (v_ 0) (aa (v_ 5) ah))) (aa (aD c__law_sum hr (aa (v_ 0) (aa (v_ 7) (aa (v_ 6) (aa ag ah))))) ah))))))) (aw (bU (bV (v_ 8) (aH (aa aR (aa (aD c__law_sum hr (aa (v_ 0) (aa (v_ 7) (aa (v_ 6) (aa ag ah))))) ah))))))))))))))))))
  (aw (aF (dh rfl B.tuple (xQ (df (v_ 8))) (ht:=gL))))))))
theorem lR:aB ["_law_pot_here","_law_name","_law_goals","_law_manners","_law_bells_most","_law_manner","_law_things","_law_bells","_law_deeds","_law_word","_law_here","_law_some","_law_sorts"] ["_law_pot_here","_law_name","_law_goals","_law_manners","_law_bells_most"] (ar ju):=⟨rfl,rfl,rfl,by decide +kernel,rfl,by decide +kernel,by decide +kernel⟩
theorem sY(F:dR K "_law_room" "_law_room" ju f fd)(B:Bl mg)(c__law_pick:bH P w K mg base 2 "_law_pick" ["_law_pot_here","_law_some"] aS)(c__law_words:bH P w K mg base 2 "_law_words" ["_law_pot_here","_law_stem","_law_many"] cb)(c__law_take:bH P w K mg base 1 "_law_take" ["_law_pot_here","_law_many"] au)(c__law_deed:bH P w K mg base 9 "_law_deed" ["_law_pot_here","_law_room_here","_law_goals","_law_most"] iH):bh P w K mg base dt 10 f fd ["_law_pot_here","_law_name","_law_goals","_law_manners","_law_bells_most"] (dG ⟨K,mg⟩ 5 iz):=by
 have nd:=lR.nd
 refine a9 F lR fun cdv A outer s H E hr=> ?_
 exact(aj (bg 5 nd (aD c__law_pick hr (aa (v_ 0) (aa (v_ 3) ah))))
  (aj (bg 6 nd (bC (gE c__law_words hr (aa (v_ 0) (aa aR (aa (av (bC (bP (aa ag (aa ag (aa ag (aa ag ah)))))) (aD c__law_take hr (aa (v_ 0) (aa ag ah)))) ah))))))
  (aj (bg 7 nd (bC (gE c__law_words hr (aa (v_ 0) (aa aR (aa (aD c__law_take hr (aa (v_ 0) (aa (bO (v_ 4) ag) ah))) ah))))))
  (aj (bg 8 nd (bC (bP ah)))
  (aj (fD PassesOwn.never rfl (du (ip (gE c__law_words hr (aa (v_ 0) (aa aR (aa (bO ag (aD c__law_take hr (aa (v_ 0) (aa ag ah)))) ah)))))) (bj 9 nd) (aj (EH (n:=10) (N:= ["_law_deed_here","_law_name"]) (js:= [none,some 1]) (aN.gen rfl rfl rfl rfl rfl rfl) rfl (du (df (v_ 8))) (fun _ _ _ _=>(eU 0)) (fun _ _ _ _=>eR) (fun _ _ _ _=>(aH (aa (v_ 1) (aa (av (v_ 0) ag) ah)))) (F6 10 nd))
  (aj (bg 11 nd (bC (vz (df (v_ 2)) (ip (uN (df (v_ 10)) (n_ hZ (eW fM rfl B.int (by rfl) (aa (kY cg cf (aD c__law_take hr (aa (v_ 0) (aa ag ah))) ag (aK _)) ah))))))))
  (aw (bU (bV (v_ 8) (aH (aa (v_ 9) (aa (aD c__law_deed hr (aa (v_ 0) (aa (aH (aa (v_ 5) (aa (v_ 6) (aa (v_ 7) ah)))) (aa (v_ 11) (aa ag ah))))) ah)))))))))
  (aj (bg 12 nd (dh rfl B.tuple (ip (c_ (N:= ["_law_bell","_law_pot_here"]) (js:= [none,some 0]) (aN.gen rfl rfl rfl rfl rfl rfl) rfl (du (df (v_ 7))) (fun _ _ _ _=>(eU 0)) (fun _ _ _ _=>eR) (fun _ _ _ _=>(aH (aa (v_ 0) (aa (av (bC (bP (aa aR (aa aR ah)))) (aD c__law_take hr (aa (v_ 1) (aa ag ah)))) ah)))))) (ht:=eI)))
  (aw (aF (aH (aa (v_ 1) (aa (v_ 5) (aa (dh rfl B.tuple (ip (c_ (N:= ["_law_thing","_law_pot_here"]) (js:= [none,some 0]) (aN.gen rfl rfl rfl rfl rfl rfl) rfl (du (df (v_ 6))) (fun _ _ _ _=>(eU 0)) (fun _ _ _ _=>eR) (fun _ _ _ _=>(aH (aa (v_ 0) (aa (aD c__law_take hr (aa (v_ 1) (aa ag ah))) ah)))))) (ht:=eI)) (aa (v_ 12) (aa (dh rfl B.tuple (xQ (df (v_ 8))) (ht:=gL)) ah))))))))))))))
end
section
variable{P:Program}{w:World}{K:PySem.W.Frag}{mg:Str->Option Value}{base:Heap}{f:Addr}{fd:FuncData}
theorem kb:aB ["_law_pot_here","_law_many","_law_manners","_law_bells_most","_law_names","_law_rooms_here","_law_goals","_law_room_here","_law_name"] ["_law_pot_here","_law_many","_law_manners","_law_bells_most"] (ar iG):=⟨rfl,rfl,rfl,by decide +kernel,rfl,by decide +kernel,by decide +kernel⟩
theorem qU(F:dR K "_law_rooms" "_law_rooms" iG f fd)(B:Bl mg)(c__law_words:bH P w K mg base 2 "_law_words" ["_law_pot_here","_law_stem","_law_many"] cb)(c__law_take:bH P w K mg base 1 "_law_take" ["_law_pot_here","_law_many"] au)(c__law_room:bH P w K mg base 10 "_law_room" ["_law_pot_here","_law_name","_law_goals","_law_manners","_law_bells_most"] iz):bh P w K mg base dt 11 f fd ["_law_pot_here","_law_many","_law_manners","_law_bells_most"] (dG ⟨K,mg⟩ 4 gG):=by
 have nd:=kb.nd
 refine a9 F kb fun cdv A outer s H E hr=> ?_
 have hu:=hr.units0
 exact(aj (bg 4 nd (bC (gE c__law_words hr (aa (v_ 0) (aa aR (aa (v_ 1) ah))))))
  (aj (bg 5 nd (bC (bP ah)))
  (aj (BR 4 PassesOwn.never (dU hu (df (v_ 4))) (aj (bg 6 nd (bC (bP ah)))
  (aj (fD PassesOwn.never rfl (du (df (v_ 5))) (bj 7 nd) (aw (bU (gc (v_ 6) (ip (c_ (N:= ["_law_deed_here","_law_room_here"]) (js:= [none,some 7]) (aN.gen rfl rfl rfl rfl rfl rfl) rfl (du (df (av (v_ 7) ag))) (fun _ _ _ _=>(eU 0)) (fun _ _ _ _=>eR) (fun _ _ _ _=>(aH (aa (av (v_ 1) ag) (aa (av (v_ 0) ag) ah))))))))))
  (aj (bg 8 nd (yt (v_ 4) (aD c__law_take hr (aa (v_ 0) (aa (fh rfl B.len (df (v_ 4))) ah)))))
  (aw (bU (bV (v_ 5) (aD c__law_room hr (aa (v_ 0) (aa (v_ 8) (aa (v_ 6) (aa (v_ 2) (aa (v_ 3) ah)))))))))))))
  (aw (aF (dh rfl B.tuple (ip (yT rfl B.sorted (df (v_ 5)))) (ht:=eI)))))))
theorem nK:aB ["_law_pot_here","_law_goals","_law_words_here","_law_passes","_law_most","_law_rows","_law_k","_law_way"] ["_law_pot_here","_law_goals","_law_words_here","_law_passes","_law_most"] (ar kA):=⟨rfl,rfl,rfl,by decide +kernel,rfl,by decide +kernel,by decide +kernel⟩
theorem uR(F:dR K "_law_own" "_law_own" kA f fd)(B:Bl mg)(c__law_take:bH P w K mg base 1 "_law_take" ["_law_pot_here","_law_many"] au)(c__law_do:bH P w K mg base 8 "_law_do" ["_law_pot_here","_law_goals","_law_things","_law_words_here"] ij)(c__law_pick:bH P w K mg base 2 "_law_pick" ["_law_pot_here","_law_some"] aS)(c__law_sum:bH P w K mg base 7 "_law_sum" ["_law_pot_here","_law_words_here","_law_bells","_law_deep"] (aY 4)):bh P w K mg base dt 9 f fd ["_law_pot_here","_law_goals","_law_words_here","_law_passes","_law_most"] (dG ⟨K,mg⟩ 5 jJ):=by
 have nd:=nK.nd
 refine a9 F nK fun cdv A outer s H E hr=> ?_
 have hu:=hr.units0
 exact(aj (bg 5 nd (bC (bP ah)))
  (aj (fD PassesOwn.never rfl (iW rfl B.range (bO ag (aD c__law_take hr (aa (v_ 0) (aa (v_ 4) ah))))) (bj 6 nd) (aj (bg 7 nd (aD c__law_take hr (aa (v_ 0) (aa ag ah))))
  (aw (cq (PW.pt (w_and (bA lI mj (v_ 7) ag (aK _)) (eM (dU hu (df (v_ 1)))))) (aw (bU (bV (v_ 5) (aD c__law_do hr (aa (v_ 0) (aa (v_ 1) (aa (v_ 2) (aa (v_ 2) ah)))))))) (aw (cq (PW.pt (w_and (bA cg cf (v_ 7) ag (aK _)) (eM (dU hu (df (v_ 3)))))) (aw (bU (bV (v_ 5) (aH (aa (av (bC (bP (aa aR (aa aR ah)))) (aD c__law_take hr (aa (v_ 0) (aa ag ah)))) (aa (aD c__law_pick hr (aa (v_ 0) (aa (v_ 3) ah))) ah)))))) (aw (cq (PW.pt (w_and (bA cg cf (v_ 7) ag (aK _)) (eM (dU hu (df (v_ 3)))))) (aw (bU (bV (v_ 5) (aH (aa aR (aa (aD c__law_pick hr (aa (v_ 0) (aa (v_ 3) ah))) (aa (aD c__law_pick hr (aa (v_ 0) (aa (v_ 3) ah))) ah))))))) (aw (cq (PW.pt (w_and (bA cg cf (v_ 7) ag (aK _)) (eM (dU hu (df (v_ 2)))))) (aw (bU (bV (v_ 5) (aH (aa aR (aa (aD c__law_pick hr (aa (v_ 0) (aa (v_ 2) ah))) (aa (aD c__law_sum hr (aa (v_ 0) (aa (v_ 2) (aa (bC (bP ah)) (aa ag ah))))) ah))))))) (aw (cq (bA cg cf (v_ 7) ag (aK _)) (aj (bU (bV (v_ 5) (aH (aa aR (aa (aD c__law_sum hr (aa (v_ 0) (aa (v_ 2) (aa (bC (bP ah)) (aa ag ah))))) (aa (bO (fh rfl B.len (df (v_ 5))) ag) ah))))))
  (aw (bU (bV (v_ 5) (aH (aa aR (aa (aD c__law_sum hr (aa (v_ 0) (aa (v_ 2) (aa (bC (bP ah)) (aa ag ah))))) ah))))))) (aw (bU (bV (v_ 5) (aH (aa aR (aa (aD c__law_sum hr (aa (v_ 0) (aa (v_ 2) (aa (bC (bP ah)) (aa ag ah))))) ah))))))))))))))))))
  (aj (cq (bA cg cf (aD c__law_take hr (aa (v_ 0) (aa ag ah))) ag (aK _)) (aw (bU (bV (v_ 5) (aH (aa aR (aa (aD c__law_take hr (aa (v_ 0) (aa (bO (fh rfl B.len (df (v_ 5))) ag) ah))) ah)))))) bL)
  (aw (aF (dh rfl B.tuple (xQ (df (v_ 5))) (ht:=gL)))))))
theorem jW:aB ["_law_pot_here","_law_rooms_here","_law_hands","_law_passes_most","_law_goals","_law_room_here","_law_passes","_law_shared","_law_made","_law_k","_law_own_here","_law_program","_law_counted"] ["_law_pot_here","_law_rooms_here","_law_hands","_law_passes_most"] (ar iO):=⟨rfl,rfl,rfl,by decide +kernel,rfl,by decide +kernel,by decide +kernel⟩
theorem qG(F:dR K "_law_world" "_law_world" iO f fd)(B:Bl mg)(c__law_words:bH P w K mg base 2 "_law_words" ["_law_pot_here","_law_stem","_law_many"] cb)(c__law_take:bH P w K mg base 1 "_law_take" ["_law_pot_here","_law_many"] au)(c__law_own:bH P w K mg base 9 "_law_own" ["_law_pot_here","_law_goals","_law_words_here","_law_passes","_law_most"] jJ):bh P w K mg base dt 10 f fd ["_law_pot_here","_law_rooms_here","_law_hands","_law_passes_most"] (dG ⟨K,mg⟩ 4 gJ):=by
 have nd:=jW.nd
 refine a9 F jW fun cdv A outer s H E hr=> ?_
 exact(aj (bg 4 nd (bC (bP ah)))
  (aj (fD PassesOwn.never rfl (du (df (v_ 1))) (bj 5 nd) (aw (bU (gc (v_ 4) (ip (c_ (N:= ["_law_deed_here","_law_room_here"]) (js:= [none,some 5]) (aN.gen rfl rfl rfl rfl rfl rfl) rfl (du (df (av (v_ 5) ag))) (fun _ _ _ _=>(eU 0)) (fun _ _ _ _=>eR) (fun _ _ _ _=>(aH (aa (av (v_ 1) ag) (aa (av (v_ 0) ag) ah))))))))))
  (aj (bg 6 nd (bC (gE c__law_words hr (aa (v_ 0) (aa aR (aa (aD c__law_take hr (aa (v_ 0) (aa (bO (v_ 3) ag) ah))) ah))))))
  (aj (bg 7 nd (bC (gE c__law_words hr (aa (v_ 0) (aa aR (aa (av (bC (bP (aa ag (aa ag (aa ag (aa ag ah)))))) (aD c__law_take hr (aa (v_ 0) (aa ag ah)))) ah))))))
  (aj (bg 8 nd (bC (bP ah)))
  (aj (fD PassesOwn.never rfl (iW rfl B.range (v_ 2)) (bj 9 nd) (aj (bg 10 nd (bC (gE c__law_words hr (aa (v_ 0) (aa aR (aa (av (bC (bP (aa ag (aa ag (aa ag (aa ag ah)))))) (aD c__law_take hr (aa (v_ 0) (aa ag ah)))) ah))))))
  (aj (bg 11 nd (aD c__law_own hr (aa (v_ 0) (aa (v_ 4) (aa (bC (vz (df (v_ 10)) (df (v_ 7)))) (aa (v_ 6) (aa ag ah)))))))
  (aw (bU (bV (v_ 8) (aH (aa (dh rfl B.tuple (ip (c_ (N:= ["_law_word","_law_pot_here"]) (js:= [none,some 0]) (aN.gen rfl rfl rfl rfl rfl rfl) rfl (du (df (v_ 10))) (fun _ _ _ _=>(eU 0)) (fun _ _ _ _=>eR) (fun _ _ _ _=>(aH (aa (v_ 0) (aa (aD c__law_take hr (aa (v_ 1) (aa ag ah))) ah)))))) (ht:=eI)) (aa (v_ 11) ah)))))))))
  (aj (bg 12 nd (dh rfl B.tuple (ip (c_ (N:= ["_law_word","_law_pot_here"]) (js:= [none,some 0]) (aN.gen rfl rfl rfl rfl rfl rfl) rfl (du (df (v_ 6))) (fun _ _ _ _=>(eU 0)) (fun _ _ _ _=>eR) (fun _ _ _ _=>(aH (aa (v_ 0) (aa (aD c__law_take hr (aa (v_ 1) (aa ag ah))) ah)))))) (ht:=eI)))
  (aw (aF (aH (aa (v_ 1) (aa (v_ 12) (aa (dh rfl B.tuple (ip (c_ (N:= ["_law_word","_law_pot_here"]) (js:= [none,some 0]) (aN.gen rfl rfl rfl rfl rfl rfl) rfl (du (df (v_ 7))) (fun _ _ _ _=>(eU 0)) (fun _ _ _ _=>eR) (fun _ _ _ _=>(aH (aa (v_ 0) (aa (aD c__law_take hr (aa (v_ 1) (aa ag ah))) ah)))))) (ht:=eI)) (aa (dh rfl B.tuple (xQ (df (v_ 8))) (ht:=gL)) ah))))))))))))))
theorem gH:aB ["_law_pot_here","_law_rooms_here"] ["_law_pot_here"] (ar eX):=⟨rfl,rfl,rfl,by decide +kernel,rfl,by decide +kernel,by decide +kernel⟩
theorem lJ(F:dR K "_law_any_world" "_law_any_world" eX f fd)(B:Bl mg)(c__law_rooms:bH P w K mg base 11 "_law_rooms" ["_law_pot_here","_law_many","_law_manners","_law_bells_most"] gG)(c__law_take:bH P w K mg base 1 "_law_take" ["_law_pot_here","_law_many"] au)(c__law_world:bH P w K mg base 10 "_law_world" ["_law_pot_here","_law_rooms_here","_law_hands","_law_passes_most"] gJ):bh P w K mg base dt 12 f fd ["_law_pot_here"] (dG ⟨K,mg⟩ 1 dv):=by
 have nd:=gH.nd
 refine a9 F gH fun cdv A outer s H E hr=> ?_
 exact(aj (bg 1 nd (aD c__law_rooms hr (aa (v_ 0) (aa (av (bC (bP (aa ag (aa ag (aa ag (aa ag (aa ag (aa ag ah)))))))) (aD c__law_take hr (aa (v_ 0) (aa ag ah)))) (aa (bC (bP (aa aR (aa aR ah)))) (aa ag ah))))))
  (aw (aF (aD c__law_world hr (aa (v_ 0) (aa (v_ 1) (aa (bO ag (aD c__law_take hr (aa (v_ 0) (aa ag ah)))) (aa ag ah))))))))
theorem tZ:aB ["things"] ["things"] (ar jg):=⟨rfl,rfl,rfl,by decide +kernel,rfl,by decide +kernel,by decide +kernel⟩
theorem tO(F:dR K "values_of" "values_of" jg f fd)(B:Bl mg):bh P w K mg base dt 1 f fd ["things"] (dG ⟨K,mg⟩ 1 eA):=by
 refine a9 F tZ fun cdv A outer s H E hr=> ?_
 exact(aw (aF (dh rfl B.tuple (ip (c_ (N:= ["word","value"]) (js:= [none,none]) (aN.gen rfl rfl rfl rfl rfl rfl) rfl (du (df (v_ 0))) (fun _ _ _ _=>(cU rfl (ax (eU 0) (ax (eU 1) bW)))) (fun _ _ _ _=>eR) (fun _ _ _ _=>(v_ 1)))) (ht:=eI))))
theorem jV:aB ["room","name","manner","things","bells","deeds"] ["room"] (ar iK):=⟨rfl,rfl,rfl,by decide +kernel,rfl,by decide +kernel,by decide +kernel⟩
theorem qT(F:dR K "begun_room" "begun_room" iK f fd)(B:Bl mg)(c_values_of:bH P w K mg base 1 "values_of" ["things"] eA){t_NOBODY:Tok}(h_NOBODY:mg "NOBODY"=some (.int (-1) t_NOBODY)):bh P w K mg base dt 2 f fd ["room"] (dG ⟨K,mg⟩ 1 gP):=by
 have nd:=jV.nd
 refine a9 F jV fun cdv A outer s H E hr=> ?_
 exact(aj (eE (v_ 0) (cU rfl (ax (bj 1 nd) (ax (bj 2 nd) (ax (bj 3 nd) (ax (bj 4 nd) (ax (bj 5 nd) bW)))))))
  (aw (aF (aH (aa (aD c_values_of hr (aa (v_ 3) ah)) (aa (c7 (eg (v:=.int (-1)) rfl h_NOBODY ⟨_,rfl⟩) fun _ _=>.int (-1)) (aa (aH ah) (aa (aH ah) (aa (dh rfl B.tuple (ip (c_ (N:= ["bell"]) (js:= [none]) (aN.gen rfl rfl rfl rfl rfl rfl) rfl (du (df (v_ 4))) (fun _ _ _ _=>(eU 0)) (fun _ _ _ _=>eR) (fun _ _ _ _=>(aH ah)))) (ht:=eI)) ah)))))))))
theorem u4:aB ["world","rooms","passes","shared","hands","own"] ["world"] (ar um):=⟨rfl,rfl,rfl,by decide +kernel,rfl,by decide +kernel,by decide +kernel⟩
theorem AG(F:dR K "begun" "begun" um f fd)(B:Bl mg)(c_values_of:bH P w K mg base 1 "values_of" ["things"] eA)(c_begun_room:bH P w K mg base 2 "begun_room" ["room"] gP){t_OWN:Tok}(h_OWN:mg "OWN"=some (.int (-1) t_OWN)):bh P w K mg base dt 3 f fd ["world"] (dG ⟨K,mg⟩ 1 tj):=by
 have nd:=u4.nd
 refine a9 F u4 fun cdv A outer s H E hr=> ?_
 exact(aj (eE (v_ 0) (cU rfl (ax (bj 1 nd) (ax (bj 2 nd) (ax (bj 3 nd) (ax (bj 4 nd) bW))))))
  (aj (bg 5 nd (aH (aa (c7 (eg (v:=.int (-1)) rfl h_OWN ⟨_,rfl⟩) fun _ _=>.int (-1)) (aa (c7 (eg (v:=.int (-1)) rfl h_OWN ⟨_,rfl⟩) fun _ _=>.int (-1)) (aa ag (aa ag (aa ag ah)))))))
  (aw (aF (aH (aa (dh rfl B.tuple (ip (c_ (N:= ["room"]) (js:= [none]) (aN.gen rfl rfl rfl rfl rfl rfl) rfl (du (df (v_ 1))) (fun _ _ _ _=>(eU 0)) (fun _ _ _ _=>eR) (fun _ _ _ _=>(aD c_begun_room hr (aa (v_ 0) ah))))) (ht:=eI)) (aa (dh rfl B.tuple (ip (c_ (N:= ["name","value"]) (js:= [none,none]) (aN.gen rfl rfl rfl rfl rfl rfl) rfl (du (df (v_ 2))) (fun _ _ _ _=>(cU rfl (ax (eU 0) (ax (eU 1) bW)))) (fun _ _ _ _=>eR) (fun _ _ _ _=>(aH (aa (v_ 1) (aa (aH ah) ah)))))) (ht:=eI)) (aa (aD c_values_of hr (aa (v_ 3) ah)) (aa (dh rfl B.tuple (ip (c_ (N:= ["things","program","own"]) (js:= [none,none,some 5]) (aN.gen rfl rfl rfl rfl rfl rfl) rfl (du (df (v_ 4))) (fun _ _ _ _=>(cU rfl (ax (eU 0) (ax (eU 1) bW)))) (fun _ _ _ _=>eR) (fun _ _ _ _=>(aH (aa (aD c_values_of hr (aa (v_ 0) ah)) (aa (aH (aa (v_ 2) ah)) ah)))))) (ht:=eI)) ah)))))))))
theorem kc:aB ["_law_world_here","_law_scene","_law_own_here","_law_found","_law_told","_law_here","_law_room_here","_law_bell","_law_rows"] ["_law_world_here","_law_scene","_law_own_here"] (ar iy):=⟨rfl,rfl,rfl,by decide +kernel,rfl,by decide +kernel,by decide +kernel⟩
theorem qI(F:dR K "_law_bound" "_law_bound" iy f fd)(B:Bl mg):bh P w K mg base dt 1 f fd ["_law_world_here","_law_scene","_law_own_here"] (dG ⟨K,mg⟩ 3 gN):=by
 have nd:=kc.nd
 refine a9 F kc fun cdv A outer s H E hr=> ?_
 exact(aj (bg 3 nd (bC (bP ah)))
  (aj (fD PassesOwn.never rfl (xR rfl B.zip (df (av (v_ 0) ag)) (df (av (v_ 1) ag))) (cU rfl (ax (bj 4 nd) (ax (bj 5 nd) bW))) (aw (bU (gc (v_ 3) (ip (uN (ip (bP (aa (aH (aa aR (aa (av (v_ 4) ag) ah))) ah))) (t7 (av (v_ 5) ag) (v_ 2))))))))
  (aj (fD PassesOwn.never rfl (xR rfl B.zip (df (av (v_ 0) ag)) (df (av (v_ 1) ag))) (cU rfl (ax (bj 6 nd) (ax (bj 5 nd) bW))) (aj (bU (gc (v_ 3) (ip (vz (ip (uN (ip (bP (aa (aH (aa aR (aa (av (v_ 6) ag) ah))) ah))) (t7 (av (v_ 5) ag) (v_ 2)))) (ip (uN (ip (bP (aa (aH (aa aR (aa (av (v_ 6) ag) ah))) ah))) (t7 (av (v_ 5) ag) (v_ 2))))))))
  (aw (fD PassesOwn.never rfl (xR rfl B.zip (df (av (v_ 6) ag)) (df (av (v_ 5) ag))) (cU rfl (ax (bj 7 nd) (ax (bj 8 nd) bW))) (aw (bU (gc (v_ 3) (ip (uN (ip (bP (aa (aH (aa aR (aa (av (v_ 6) ag) (aa (av (v_ 7) ag) ah)))) ah))) (fh rfl B.len (ip (c_ (N:= ["_law_one","_law_own_here"]) (js:= [none,some 2]) (aN.gen rfl rfl rfl rfl rfl rfl) rfl (du (df (v_ 8))) (fun _ _ _ _=>(eU 0)) (fun _ _ _ _=>(Bz (bA cg cf (av (v_ 0) ag) (v_ 1) (aK _)))) (fun _ _ _ _=>(v_ 0))))))))))))))
  (aw (aF (v_ 3))))))
end
section
variable{P:Program}{w:World}{K:PySem.W.Frag}{mg:Str->Option Value}{base:Heap}{f:Addr}{fd:FuncData}
theorem lK:aB ["_law_world_here","_law_scene","_law_own_here","_law_room_here","_law_deed_here","_law_row","_law_given","_law_told"] ["_law_world_here","_law_scene","_law_own_here"] (ar jn):=⟨rfl,rfl,rfl,by decide +kernel,rfl,by decide +kernel,by decide +kernel⟩
theorem ur(F:dR K "_law_free" "_law_free" jn f fd)(B:Bl mg):bh P w K mg base dt 1 f fd ["_law_world_here","_law_scene","_law_own_here"] (dG ⟨K,mg⟩ 3 iL):=by
 have nd:=lK.nd
 refine a9 F lK fun cdv A outer s H E hr=> ?_
 exact(aj (eE (av (av (av (av (v_ 1) ag) (v_ 2)) ag) (lP ag)) (cU rfl (ax (bj 3 nd) (ax (bj 4 nd) (ax (bj 5 nd) (ax (bj 6 nd) (ax (bj 7 nd) bW)))))))
  (aj (cq (bA lI mj (v_ 3) ag (aK _)) (aw (aF (av (bC (bP (aa aR (aa aR ah)))) (n_ hZ (eW fM rfl B.int (by rfl) (aa (kY cg cf (v_ 5) (fh rfl B.len (df (av (av (av (v_ 0) ag) (v_ 2)) ag))) (aK _)) ah)))))) bL)
  (aw (aF (av (bC (bP (aa aR (aa aR ah)))) (n_ hZ (eW fM rfl B.int (by rfl) (aa (kY cg cf (av (av (av (v_ 1) ag) (v_ 3)) ag) (v_ 2) (aK _)) ah))))))))
theorem jx:aB ["_law_world_here","_law_scene","_law_own_here","_law_found","_law_word"] ["_law_world_here","_law_scene","_law_own_here"] (ar gU):=⟨rfl,rfl,rfl,by decide +kernel,rfl,by decide +kernel,by decide +kernel⟩
theorem qm(F:dR K "_law_stands" "_law_stands" gU f fd)(B:Bl mg)(c__law_bound:bH P w K mg base 1 "_law_bound" ["_law_world_here","_law_scene","_law_own_here"] gN)(c__law_free:bH P w K mg base 1 "_law_free" ["_law_world_here","_law_scene","_law_own_here"] iL):bh P w K mg base dt 2 f fd ["_law_world_here","_law_scene","_law_own_here"] (dG ⟨K,mg⟩ 3 fK):=by
 have nd:=jx.nd
 refine a9 F jx fun cdv A outer s H E hr=> ?_
 have hu:=hr.units0
 exact(aj (bg 3 nd (bC (gE c__law_bound hr (aa (v_ 0) (aa (v_ 1) (aa (v_ 2) ah))))))
  (aj (cq (dU hu (df (v_ 3))) (aw (aF (av (v_ 3) ag))) bL)
  (aj (bg 4 nd (aD c__law_free hr (aa (v_ 0) (aa (v_ 1) (aa (v_ 2) ah)))))
  (aj (cq (Cd (v_ 4) (df (aH (aa aR (aa aR ah))))) (aw (aF (aH (aa (v_ 4) ah)))) bL)
  (aw (aF (aH (aa (v_ 4) (aa (av (av (av (v_ 0) ag) (av (av (av (av (av (v_ 1) ag) (v_ 2)) ag) (lP ag)) ag)) ag) ah)))))))))
theorem nP:aB ["_law_world_here","_law_scene","_law_found","_law_own_here"] ["_law_world_here","_law_scene"] (ar kD):=⟨rfl,rfl,rfl,by decide +kernel,rfl,by decide +kernel,by decide +kernel⟩
theorem vg(F:dR K "_law_due" "_law_due" kD f fd)(B:Bl mg)(c__law_stands:bH P w K mg base 2 "_law_stands" ["_law_world_here","_law_scene","_law_own_here"] fK):bh P w K mg base dt 3 f fd ["_law_world_here","_law_scene"] (dG ⟨K,mg⟩ 2 fN):=by
 have nd:=nP.nd
 refine a9 F nP fun cdv A outer s H E hr=> ?_
 exact(aj (bg 2 nd (bC (bP ah)))
  (aj (fD PassesOwn.never rfl (iW rfl B.range (fh rfl B.len (df (av (v_ 0) ag)))) (bj 3 nd) (aw (cq (Cd (av (aD c__law_stands hr (aa (v_ 0) (aa (v_ 1) (aa (v_ 3) ah)))) ag) (df (aH (aa aR (aa aR (aa aR ah)))))) (aw (bU (bV (v_ 2) (v_ 3)))) bL)))
  (aw (aF (v_ 2)))))
theorem uJ:aB ["line"] ["line"] (ar km):=⟨rfl,rfl,rfl,by decide +kernel,rfl,by decide +kernel,by decide +kernel⟩
theorem vd(F:dR K "hands_at" "hands_at" km f fd)(B:Bl mg):bh P w K mg base dt 1 f fd ["line"] (dG ⟨K,mg⟩ 1 jO):=by
 refine a9 F uJ fun cdv A outer s H E hr=> ?_
 exact(aw (kK (c_ (N:= ["turn","hand"]) (js:= [none,none]) (aN.gen rfl rfl rfl rfl rfl rfl) rfl (du (df (v_ 0))) (fun _ _ _ _=>(cU rfl (ax (eU 0) (ax (eU 1) bW)))) (fun _ _ _ _=>eR) (fun _ _ _ _=>(v_ 1)))))
theorem g8:aB ["scene","hands","value","row","values","within","late","bells","line"] ["scene"] (ar ft):=⟨rfl,rfl,rfl,by decide +kernel,rfl,by decide +kernel,by decide +kernel⟩
theorem mT(F:dR K "hands_in_rows" "hands_in_rows" ft f fd)(B:Bl mg)(c_hands_at:bH P w K mg base 1 "hands_at" ["line"] jO):bh P w K mg base dt 2 f fd ["scene"] (dG ⟨K,mg⟩ 1 dI):=by
 have nd:=g8.nd
 refine a9 F g8 fun cdv A outer s H E hr=> ?_
 exact(aj (bg 1 nd (bC (bP ah)))
  (aj (fD PassesOwn.never rfl (du (df (av (v_ 0) ag))) (cU rfl (ax (bj 2 nd) (ax (bj 3 nd) bW))) (aw (bU (rG (v_ 1) (df (v_ 3))))))
  (aj (fD PassesOwn.never rfl (du (df (av (v_ 0) ag))) (cU rfl (ax (bj 4 nd) (ax (bj 5 nd) (ax (bj 3 nd) (ax (bj 6 nd) (ax (bj 7 nd) bW)))))) (aj (bU (rG (v_ 1) (df (bO (v_ 3) (v_ 6)))))
  (aw (fD PassesOwn.never rfl (du (df (v_ 7))) (bj 8 nd) (aw (bU (gc (v_ 1) (ip (gE c_hands_at hr (aa (v_ 8) ah))))))))))
  (aw (aF (v_ 1))))))
theorem qN:aB ["scene","hand"] ["scene","hand"] (ar iR):=⟨rfl,rfl,rfl,by decide +kernel,rfl,by decide +kernel,by decide +kernel⟩
theorem qF(F:dR K "last_frame" "last_frame" iR f fd)(B:Bl mg):bh P w K mg base dt 1 f fd ["scene","hand"] (dG ⟨K,mg⟩ 2 bx):=by
 refine a9 F qN fun cdv A outer s H E hr=> ?_
 exact(aw (aF (av (av (av (av (v_ 0) ag) (v_ 1)) ag) (lP ag))))
theorem j9:aB ["world","hand","frame","room","deed"] ["world","hand","frame"] (ar iP):=⟨rfl,rfl,rfl,by decide +kernel,rfl,by decide +kernel,by decide +kernel⟩
theorem qR(F:dR K "program_of" "program_of" iP f fd)(B:Bl mg){t_OWN:Tok}(h_OWN:mg "OWN"=some (.int (-1) t_OWN)):bh P w K mg base dt 1 f fd ["world","hand","frame"] (dG ⟨K,mg⟩ 3 dg):=by
 have nd:=j9.nd
 refine a9 F j9 fun cdv A outer s H E hr=> ?_
 exact(aj (FZ (D5 (i:=3) (j:=4) rfl nd rfl rfl (by decide) rfl rfl (aa (av (v_ 2) ag) (aa (av (v_ 2) ag) ah)) rfl))
  (aj (cq (bA cg cf (v_ 3) (c7 (eg (v:=.int (-1)) rfl h_OWN ⟨_,rfl⟩) fun _ _=>.int (-1)) (aK _)) (aw (aF (av (av (av (v_ 0) ag) (v_ 1)) ag))) bL)
  (aw (aF (av (av (av (av (av (v_ 0) ag) (v_ 3)) ag) (v_ 4)) ag)))))
theorem g7:aB ["world","scene","hand","frame"] ["world","scene","hand"] (ar fu):=⟨rfl,rfl,rfl,by decide +kernel,rfl,by decide +kernel,by decide +kernel⟩
theorem mE(F:dR K "is_behind_all" "is_behind_all" fu f fd)(B:Bl mg)(c_last_frame:bH P w K mg base 1 "last_frame" ["scene","hand"] bx)(c_program_of:bH P w K mg base 1 "program_of" ["world","hand","frame"] dg){t_OWN:Tok}(h_OWN:mg "OWN"=some (.int (-1) t_OWN)):bh P w K mg base dt 2 f fd ["world","scene","hand"] (dG ⟨K,mg⟩ 3 eP):=by
 have nd:=g7.nd
 refine a9 F g7 fun cdv A outer s H E hr=> ?_
 exact(aj (bg 3 nd (aD c_last_frame hr (aa (v_ 1) (aa (v_ 2) ah))))
  (aw (aF (C6 (kY cg cf (av (v_ 3) ag) (c7 (eg (v:=.int (-1)) rfl h_OWN ⟨_,rfl⟩) fun _ _=>.int (-1)) (aK _)) (C5 (kY cg cf (av (v_ 3) ag) (fh rfl B.len (df (aD c_program_of hr (aa (v_ 0) (aa (v_ 2) (aa (v_ 3) ah)))))) (aK _)))))))
theorem nB:aB ["world","scene","held_up"] ["world","scene"] (ar ko):=⟨rfl,rfl,rfl,by decide +kernel,rfl,by decide +kernel,by decide +kernel⟩
theorem vV(F:dR K "may_step" "may_step" ko f fd)(B:Bl mg)(c_hands_in_rows:bH P w K mg base 2 "hands_in_rows" ["scene"] dI)(c_is_behind_all:bH P w K mg base 2 "is_behind_all" ["world","scene","hand"] eP):bh P w K mg base dt 3 f fd ["world","scene"] (dG ⟨K,mg⟩ 2 fR):=by
 have nd:=nB.nd
 refine a9 F nB fun cdv A outer s H E hr=> ?_
 exact(aj (bg 2 nd (bC (gE c_hands_in_rows hr (aa (v_ 1) ah))))
  (aw (kK (c_ (N:= ["hand","world","scene","held_up"]) (js:= [none,some 0,some 1,some 2]) (aN.gen rfl rfl rfl rfl rfl rfl) rfl (iW rfl B.range (fh rfl B.len (df (av (v_ 1) ag)))) (fun _ _ _ _=>(eU 0)) (fun _ _ _ _=>(Bz (PW.pt (w_and (x_ (v_ 0) (df (v_ 3))) (eM (yA (j_ (aD c_is_behind_all hr (aa (v_ 1) (aa (v_ 2) (aa (v_ 0) ah))))))))))) (fun _ _ _ _=>(v_ 0))))))
theorem j2:aB ["_law_world_here","_law_scene","_law_due_here","_law_turn","_law_found"] ["_law_world_here","_law_scene"] (ar iC):=⟨rfl,rfl,rfl,by decide +kernel,rfl,by decide +kernel,by decide +kernel⟩
theorem qO(F:dR K "_law_right" "_law_right" iC f fd)(B:Bl mg)(c__law_due:bH P w K mg base 3 "_law_due" ["_law_world_here","_law_scene"] fN)(c_may_step:bH P w K mg base 3 "may_step" ["world","scene"] fR):bh P w K mg base dt 4 f fd ["_law_world_here","_law_scene"] (dG ⟨K,mg⟩ 2 gK):=by
 have nd:=j2.nd
 refine a9 F j2 fun cdv A outer s H E hr=> ?_
 have hu:=hr.units0
 exact(aj (bg 2 nd (bC (gE c__law_due hr (aa (v_ 0) (aa (v_ 1) ah)))))
  (aj (fD PassesOwn.never rfl (iW rfl B.range ag) (bj 3 nd) (aj (bg 4 nd (bC (gE c_may_step hr (aa (v_ 0) (aa (v_ 1) ah)))))
  (aj (cq (PW.pt (w_or (yA (j_ (xS (T:="list") ⟨rfl,rfl,rfl,rfl,rfl,rfl,rfl⟩ rfl B.isi (v_ 4) (oK (v:=.ty "list") rfl B.list PyProof.Rows.boot_list rfl)))) (w_or (E8 hu (df (v_ 4)) (df (v_ 2))) (De (j_ (FH rfl rfl B.any (ip (c_ (N:= ["_law_own_here"]) (js:= [none]) (aN.gen rfl rfl rfl rfl rfl rfl) rfl (du (df (v_ 4))) (fun _ _ _ _=>(eU 0)) (fun _ _ _ _=>eR) (fun _ _ _ _=>(xS (T:="bool") ⟨rfl,rfl,rfl,rfl,rfl,rfl,rfl⟩ rfl B.isi (v_ 0) (oK (v:=.ty "bool") rfl B.bool PyProof.Rows.boot_bool rfl))))))))))) (aw (aF BL)) bL)
  (aw (bU (bV (v_ 4) ag))))))
  (aw (aF BL))))
theorem sQ:aB ["_law_pot_here","_law_some","_law_last"] ["_law_pot_here","_law_some","_law_last"] (ar jc):=⟨rfl,rfl,rfl,by decide +kernel,rfl,by decide +kernel,by decide +kernel⟩
theorem uk(F:dR K "_law_next" "_law_next" jc f fd)(B:Bl mg)(c__law_take:bH P w K mg base 1 "_law_take" ["_law_pot_here","_law_many"] au)(c__law_pick:bH P w K mg base 2 "_law_pick" ["_law_pot_here","_law_some"] aS):bh P w K mg base dt 3 f fd ["_law_pot_here","_law_some","_law_last"] (dG ⟨K,mg⟩ 3 iu):=by
 refine a9 F sQ fun cdv A outer s H E hr=> ?_
 exact(aj (cq (PW.pt (w_and (Cd (v_ 2) (df (v_ 1))) (eM (bA cg cf (aD c__law_take hr (aa (v_ 0) (aa ag ah))) ag (aK _))))) (aw (aF (v_ 2))) bL)
  (aw (aF (aD c__law_pick hr (aa (v_ 0) (aa (v_ 1) ah))))))
theorem uV:aB ["roll"] ["roll"] (ar kj):=⟨rfl,rfl,rfl,by decide +kernel,rfl,by decide +kernel,by decide +kernel⟩
theorem wc(F:dR K "names_of" "names_of" kj f fd)(B:Bl mg):bh P w K mg base dt 1 f fd ["roll"] (dG ⟨K,mg⟩ 1 cN):=by
 refine a9 F uV fun cdv A outer s H E hr=> ?_
 exact(aw (kK (c_ (N:= ["row"]) (js:= [none]) (aN.gen rfl rfl rfl rfl rfl rfl) rfl (du (df (v_ 0))) (fun _ _ _ _=>(eU 0)) (fun _ _ _ _=>eR) (fun _ _ _ _=>(av (v_ 0) ag)))))
theorem vT:aB ["roll","name"] ["roll","name"] (ar kL):=⟨rfl,rfl,rfl,by decide +kernel,rfl,by decide +kernel,by decide +kernel⟩
theorem vm(F:dR K "place_of" "place_of" kL f fd)(B:Bl mg)(c_names_of:bH P w K mg base 1 "names_of" ["roll"] cN):bh P w K mg base dt 2 f fd ["roll","name"] (dG ⟨K,mg⟩ 2 b9):=by
 refine a9 F vT fun cdv A outer s H E hr=> ?_
 exact(aw (aF (Cn (ip (gE c_names_of hr (aa (v_ 0) ah))) (v_ 1))))
theorem uE:aB ["parts","at","part"] ["parts","at","part"] (ar i7):=⟨rfl,rfl,rfl,by decide +kernel,rfl,by decide +kernel,by decide +kernel⟩
theorem ug(F:dR K "with_part" "with_part" i7 f fd)(B:Bl mg):bh P w K mg base dt 1 f fd ["parts","at","part"] (dG ⟨K,mg⟩ 3 bS):=by
 refine a9 F uE fun cdv A outer s H E hr=> ?_
 exact(aw (aF (bO (bO (cK (v_ 0) dC (dD (v_ 1))) (aH (aa (v_ 2) ah))) (cK (v_ 0) (dD (bO (v_ 1) ag)) dC))))
theorem uq:aB ["scene","hand","values","frames"] ["scene","hand","values","frames"] (ar i9):=⟨rfl,rfl,rfl,by decide +kernel,rfl,by decide +kernel,by decide +kernel⟩
theorem sU(F:dR K "with_hand" "with_hand" i9 f fd)(B:Bl mg)(c_with_part:bH P w K mg base 1 "with_part" ["parts","at","part"] bS):bh P w K mg base dt 2 f fd ["scene","hand","values","frames"] (dG ⟨K,mg⟩ 4 cX):=by
 refine a9 F uq fun cdv A outer s H E hr=> ?_
 exact(aw (aF (bO (cK (v_ 0) dC (dD ag)) (aH (aa (aD c_with_part hr (aa (av (v_ 0) ag) (aa (v_ 1) (aa (aH (aa (v_ 2) (aa (v_ 3) ah))) ah)))) ah)))))
theorem sP:aB ["scene","at","room"] ["scene","at","room"] (ar jr):=⟨rfl,rfl,rfl,by decide +kernel,rfl,by decide +kernel,by decide +kernel⟩
theorem sV(F:dR K "with_room" "with_room" jr f fd)(B:Bl mg)(c_with_part:bH P w K mg base 1 "with_part" ["parts","at","part"] bS):bh P w K mg base dt 2 f fd ["scene","at","room"] (dG ⟨K,mg⟩ 3 bN):=by
 refine a9 F sP fun cdv A outer s H E hr=> ?_
 exact(aw (aF (bO (aH (aa (aD c_with_part hr (aa (av (v_ 0) ag) (aa (v_ 1) (aa (v_ 2) ah)))) ah)) (cK (v_ 0) (dD ag) dC))))
end
section
variable{P:Program}{w:World}{K:PySem.W.Frag}{mg:Str->Option Value}{base:Heap}{f:Addr}{fd:FuncData}
theorem lG:aB ["world","scene","hand","word","value","room","place","values","shared","frames"] ["world","scene","hand","word","value"] (ar jz):=⟨rfl,rfl,rfl,by decide +kernel,rfl,by decide +kernel,by decide +kernel⟩
theorem sS(F:dR K "put_thing" "put_thing" jz f fd)(B:Bl mg)(c_last_frame:bH P w K mg base 1 "last_frame" ["scene","hand"] bx)(c_place_of:bH P w K mg base 2 "place_of" ["roll","name"] b9)(c_with_part:bH P w K mg base 1 "with_part" ["parts","at","part"] bS)(c_with_room:bH P w K mg base 2 "with_room" ["scene","at","room"] bN)(c_names_of:bH P w K mg base 1 "names_of" ["roll"] cN)(c_with_hand:bH P w K mg base 2 "with_hand" ["scene","hand","values","frames"] cX){t_OWN:Tok}(h_OWN:mg "OWN"=some (.int (-1) t_OWN)):bh P w K mg base dt 3 f fd ["world","scene","hand","word","value"] (dG ⟨K,mg⟩ 5 dP):=by
 have nd:=lG.nd
 refine a9 F lG fun cdv A outer s H E hr=> ?_
 exact(aj (bg 5 nd (av (aD c_last_frame hr (aa (v_ 1) (aa (v_ 2) ah))) ag))
  (aj (cq (bA vS vw (v_ 5) (c7 (eg (v:=.int (-1)) rfl h_OWN ⟨_,rfl⟩) fun _ _=>.int (-1)) (aK _)) (aj (bg 6 nd (aD c_place_of hr (aa (av (av (av (v_ 0) ag) (v_ 5)) ag) (aa (v_ 3) ah))))
  (aj (bg 7 nd (aD c_with_part hr (aa (av (av (av (v_ 1) ag) (v_ 5)) ag) (aa (v_ 6) (aa (v_ 4) ah)))))
  (aw (aF (aD c_with_room hr (aa (v_ 1) (aa (v_ 5) (aa (bO (aH (aa (v_ 7) ah)) (cK (av (av (v_ 1) ag) (v_ 5)) (dD ag) dC)) ah)))))))) bL)
  (aj (cq (Cd (v_ 3) (ip (gE c_names_of hr (aa (av (v_ 0) ag) ah)))) (aj (bg 8 nd (aD c_with_part hr (aa (av (v_ 1) ag) (aa (aD c_place_of hr (aa (av (v_ 0) ag) (aa (v_ 3) ah))) (aa (v_ 4) ah)))))
  (aw (aF (aH (aa (av (v_ 1) ag) (aa (av (v_ 1) ag) (aa (v_ 8) (aa (av (v_ 1) ag) ah)))))))) bL)
  (aj (eE (av (av (v_ 1) ag) (v_ 2)) (cU rfl (ax (bj 7 nd) (ax (bj 9 nd) bW))))
  (aj (bg 6 nd (aD c_place_of hr (aa (av (av (av (v_ 0) ag) (v_ 2)) ag) (aa (v_ 3) ah))))
  (aw (aF (aD c_with_hand hr (aa (v_ 1) (aa (v_ 2) (aa (aD c_with_part hr (aa (v_ 7) (aa (v_ 6) (aa (v_ 4) ah)))) (aa (v_ 9) ah))))))))))))
theorem nV:aB ["form","first","second"] ["form","first","second"] (ar gn):=⟨rfl,rfl,rfl,by decide +kernel,rfl,by decide +kernel,by decide +kernel⟩
theorem om(F:dR K "value_of_two" "value_of_two" gn f fd)(B:Bl mg){t_HIGHEST:Tok}(h_HIGHEST:mg "HIGHEST"=some (.int (9) t_HIGHEST)):bh P w K mg base dt 1 f fd ["form","first","second"] (dG ⟨K,mg⟩ 3 fe):=by
 refine a9 F nV fun cdv A outer s H E hr=> ?_
 exact(aj (cq (bA cg cf (v_ 0) aR (aK _)) (aw (aF (n_ xA (dH (mw rfl) rfl B.min (by rfl) (aa (bO (v_ 1) (v_ 2)) (aa (c7 (eg (v:=.int (9)) rfl h_HIGHEST ⟨_,rfl⟩) fun _ _=>.int (9)) ah)))))) bL)
  (aj (cq (bA cg cf (v_ 0) aR (aK _)) (aw (aF (n_ Bq (dH (r8 rfl) rfl B.max (by rfl) (aa (pW (v_ 1) (v_ 2)) (aa ag ah)))))) bL)
  (aj (cq (bA cg cf (v_ 0) aR (aK _)) (aw (aF (uI (bA lI mj (v_ 1) (v_ 2) (aK _)) ag ag))) bL)
  (aj (cq (bA cg cf (v_ 0) aR (aK _)) (aw (aF (uI (bA cg cf (v_ 1) (v_ 2) (aK _)) ag ag))) bL)
  (aw (aF (uI (PW.pt (w_and (bA vS vw (v_ 1) ag (aK _)) (eM (bA vS vw (v_ 2) ag (aK _))))) ag ag)))))))
theorem nL:aB ["tree","things","waiting","first"] ["tree","things","waiting"] (ar kI):=⟨rfl,rfl,rfl,by decide +kernel,rfl,by decide +kernel,by decide +kernel⟩
theorem nE(F:dR K "value_of" "value_of" kI f fd)(B:Bl mg)(c_value_of_two:bH P w K mg base 1 "value_of_two" ["form","first","second"] fe)(b:Binds K fd ["tree","things","waiting"] [])(kp:PySem.W.keepIn K (.ref f)=true)(m:mg "value_of"=some (.ref f)):∀n,bh P w K mg base dt (2+n) f fd ["tree","things","waiting"] (dG ⟨K,mg⟩ 3 (e_ n))
 |0=>xV
 | n+1=>by
   have c_value_of:bH P w K mg base (2+n) "value_of" ["tree","things","waiting"] (e_ n):=⟨f,fd,nE F B c_value_of_two b kp m n,b,kp,m⟩
   have nd:=nL.nd
   refine a9 (k:=2+n) F nL fun cdv A outer s H E hr=> ?_
   have hu1:=C4 hr
   exact(aj (cq (j_ (xS (T:="int") ⟨rfl,rfl,rfl,rfl,rfl,rfl,rfl⟩ rfl B.isi (v_ 0) (oK (v:=.ty "int") rfl B.int PyProof.Rows.boot_int rfl))) (aw (aF (v_ 0))) bL)
   (aj (cq (j_ (xS (T:="str") ⟨rfl,rfl,rfl,rfl,rfl,rfl,rfl⟩ rfl B.isi (v_ 0) (oK (v:=.ty "str") rfl B.str PyProof.Rows.boot_str rfl))) (aw (aF (Af hu1 (v_ 1) (v_ 0) (fun _ _=>rfl)))) bL)
   (aj (cq (bA cg cf (av (v_ 0) ag) aR (aK _)) (aw (aF (uI (bA yu xT (Af hu1 (v_ 2) (av (v_ 0) ag) (fun _ _=>rfl)) ag (aK _)) ag ag))) bL)
   (aj (bg 3 nd (aD c_value_of hr (aa (av (v_ 0) ag) (aa (v_ 1) (aa (v_ 2) ah)))))
   (aj (cq (bA cg cf (av (v_ 0) ag) aR (aK _)) (aw (aF (uI (bA cg cf (v_ 3) ag (aK _)) ag ag))) bL)
   (aw (aF (aD c_value_of_two hr (aa (av (v_ 0) ag) (aa (v_ 3) (aa (aD c_value_of hr (aa (av (v_ 0) ag) (aa (v_ 1) (aa (v_ 2) ah)))) ah)))))))))))
theorem nM:aB ["world","scene","hand","tree","frame","room","things","waiting"] ["world","scene","hand","tree"] (ar kG):=⟨rfl,rfl,rfl,by decide +kernel,rfl,by decide +kernel,by decide +kernel⟩
theorem wb(F:dR K "reckoned" "reckoned" kG f fd)(B:Bl mg)(c_last_frame:bH P w K mg base 1 "last_frame" ["scene","hand"] bx)(c_names_of:bH P w K mg base 1 "names_of" ["roll"] cN)(c_value_of:bH P w K mg base 8 "value_of" ["tree","things","waiting"] (e_ 6)){t_OWN:Tok}(h_OWN:mg "OWN"=some (.int (-1) t_OWN)):bh P w K mg base dt 9 f fd ["world","scene","hand","tree"] (dG ⟨K,mg⟩ 4 bZ):=by
 have nd:=nM.nd
 refine a9 F nM fun cdv A outer s H E hr=> ?_
 have hu1:=C4 hr
 exact(aj (bg 4 nd (aD c_last_frame hr (aa (v_ 1) (aa (v_ 2) ah))))
  (aj (bg 5 nd (av (v_ 4) ag))
  (aj (cq (bA cg cf (v_ 5) (c7 (eg (v:=.int (-1)) rfl h_OWN ⟨_,rfl⟩) fun _ _=>.int (-1)) (aK _)) (aj (bg 6 nd (m6 rfl rfl B.dict rfl B.zip (ip (gE c_names_of hr (aa (av (v_ 0) ag) ah))) (df (av (v_ 1) ag))))
  (aj (bU (AL (v_ 6) (m6 rfl rfl B.dict rfl B.zip (ip (gE c_names_of hr (aa (av (av (av (v_ 0) ag) (v_ 2)) ag) ah))) (df (av (av (av (v_ 1) ag) (v_ 2)) ag)))))
  (aw (aF (aD c_value_of hr (aa (v_ 3) (aa (v_ 6) (aa EN ah)))))))) bL)
  (aj (bg 6 nd (m6 rfl rfl B.dict rfl B.zip (ip (gE c_names_of hr (aa (av (av (av (v_ 0) ag) (v_ 5)) ag) ah))) (df (av (av (av (v_ 1) ag) (v_ 5)) ag))))
  (aj (EW hu1 (v_ 6) aR (av (v_ 4) ag))
  (aj (C2 (n:=7) (N:= ["bell","line"]) (js:= [none,none]) (aN.gen rfl rfl rfl rfl rfl rfl) rfl (xR rfl B.zip (ip (gE c_names_of hr (aa (av (av (av (v_ 0) ag) (v_ 5)) ag) ah))) (df (av (av (av (v_ 1) ag) (v_ 5)) ag))) (fun _ _ _ _=>(cU rfl (ax (eU 0) (ax (eU 1) bW)))) (fun _ _ _ _=>eR) (fun _ _ _ _=>(v_ 0)) (fun _ _ _ _=>(fh rfl B.len (df (v_ 1)))) (F6 7 nd))
  (aw (aF (aD c_value_of hr (aa (v_ 3) (aa (v_ 6) (aa (v_ 7) ah))))))))))))
theorem zg:aB ["world","scene","hand","row"] ["world","scene","hand","row"] (ar pT):=⟨rfl,rfl,rfl,by decide +kernel,rfl,by decide +kernel,by decide +kernel⟩
theorem y8(F:dR K "by_put" "by_put" pT f fd)(B:Bl mg)(c_put_thing:bH P w K mg base 3 "put_thing" ["world","scene","hand","word","value"] dP)(c_reckoned:bH P w K mg base 9 "reckoned" ["world","scene","hand","tree"] bZ):bh P w K mg base dt 10 f fd ["world","scene","hand","row"] (dG ⟨K,mg⟩ 4 oM):=by
 refine a9 F zg fun cdv A outer s H E hr=> ?_
 exact(aw (aF (aD c_put_thing hr (aa (v_ 0) (aa (v_ 1) (aa (v_ 2) (aa (av (v_ 3) ag) (aa (aD c_reckoned hr (aa (v_ 0) (aa (v_ 1) (aa (v_ 2) (aa (av (v_ 3) ag) ah))))) ah))))))))
theorem gA:aB ["scene","hand","frame","values","frames"] ["scene","hand","frame"] (ar eJ):=⟨rfl,rfl,rfl,by decide +kernel,rfl,by decide +kernel,by decide +kernel⟩
theorem kN(F:dR K "with_last_frame" "with_last_frame" eJ f fd)(B:Bl mg)(c_with_hand:bH P w K mg base 2 "with_hand" ["scene","hand","values","frames"] cX):bh P w K mg base dt 3 f fd ["scene","hand","frame"] (dG ⟨K,mg⟩ 3 cD):=by
 have nd:=gA.nd
 refine a9 F gA fun cdv A outer s H E hr=> ?_
 exact(aj (eE (av (av (v_ 0) ag) (v_ 1)) (cU rfl (ax (bj 3 nd) (ax (bj 4 nd) bW))))
  (aw (aF (aD c_with_hand hr (aa (v_ 0) (aa (v_ 1) (aa (v_ 3) (aa (bO (cK (v_ 4) dC (dD (lP ag))) (aH (aa (v_ 2) ah))) ah))))))))
theorem sx:aB ["scene","hand","row","frame"] ["scene","hand","row"] (ar pX):=⟨rfl,rfl,rfl,by decide +kernel,rfl,by decide +kernel,by decide +kernel⟩
theorem zq(F:dR K "at_row" "at_row" pX f fd)(B:Bl mg)(c_last_frame:bH P w K mg base 1 "last_frame" ["scene","hand"] bx)(c_with_last_frame:bH P w K mg base 3 "with_last_frame" ["scene","hand","frame"] cD):bh P w K mg base dt 4 f fd ["scene","hand","row"] (dG ⟨K,mg⟩ 3 fL):=by
 have nd:=sx.nd
 refine a9 F sx fun cdv A outer s H E hr=> ?_
 exact(aj (bg 3 nd (aD c_last_frame hr (aa (v_ 0) (aa (v_ 1) ah))))
  (aw (aF (aD c_with_last_frame hr (aa (v_ 0) (aa (v_ 1) (aa (bO (bO (cK (v_ 3) dC (dD ag)) (aH (aa (v_ 2) ah))) (cK (v_ 3) (dD ag) dC)) ah)))))))
theorem tP:aB ["world","scene","hand","row"] ["world","scene","hand","row"] (ar jv):=⟨rfl,rfl,rfl,by decide +kernel,rfl,by decide +kernel,by decide +kernel⟩
theorem tH(F:dR K "by_unless" "by_unless" jv f fd)(B:Bl mg)(c_reckoned:bH P w K mg base 9 "reckoned" ["world","scene","hand","tree"] bZ)(c_at_row:bH P w K mg base 4 "at_row" ["scene","hand","row"] fL):bh P w K mg base dt 10 f fd ["world","scene","hand","row"] (dG ⟨K,mg⟩ 4 iM):=by
 refine a9 F tP fun cdv A outer s H E hr=> ?_
 exact(aj (cq (bA cg cf (aD c_reckoned hr (aa (v_ 0) (aa (v_ 1) (aa (v_ 2) (aa (av (v_ 3) ag) ah))))) ag (aK _)) (aw (aF (aD c_at_row hr (aa (v_ 1) (aa (v_ 2) (aa (av (v_ 3) ag) ah)))))) bL)
  (aw (aF (v_ 1))))
theorem zI:aB ["world","scene","hand","row"] ["world","scene","hand","row"] (ar sO):=⟨rfl,rfl,rfl,by decide +kernel,rfl,by decide +kernel,by decide +kernel⟩
theorem A7(F:dR K "by_go" "by_go" sO f fd)(B:Bl mg)(c_at_row:bH P w K mg base 4 "at_row" ["scene","hand","row"] fL):bh P w K mg base dt 5 f fd ["world","scene","hand","row"] (dG ⟨K,mg⟩ 4 s_):=by
 refine a9 F zI fun cdv A outer s H E hr=> ?_
 exact(aw (aF (aD c_at_row hr (aa (v_ 1) (aa (v_ 2) (aa (av (v_ 3) ag) ah))))))
theorem oS:aB ["scene","room","hand","values","within","row","late","bells"] ["scene","room","hand"] (ar mK):=⟨rfl,rfl,rfl,by decide +kernel,rfl,by decide +kernel,by decide +kernel⟩
theorem w4(F:dR K "come_in" "come_in" mK f fd)(B:Bl mg)(c_with_room:bH P w K mg base 2 "with_room" ["scene","at","room"] bN){t_NOBODY:Tok}(h_NOBODY:mg "NOBODY"=some (.int (-1) t_NOBODY)):bh P w K mg base dt 3 f fd ["scene","room","hand"] (dG ⟨K,mg⟩ 3 hJ):=by
 have nd:=oS.nd
 refine a9 F oS fun cdv A outer s H E hr=> ?_
 exact(aj (eE (av (av (v_ 0) ag) (v_ 1)) (cU rfl (ax (bj 3 nd) (ax (bj 4 nd) (ax (bj 5 nd) (ax (bj 6 nd) (ax (bj 7 nd) bW)))))))
  (aj (cq (bA cg cf (v_ 4) (c7 (eg (v:=.int (-1)) rfl h_NOBODY ⟨_,rfl⟩) fun _ _=>.int (-1)) (aK _)) (aw (aF (aD c_with_room hr (aa (v_ 0) (aa (v_ 1) (aa (aH (aa (v_ 3) (aa (v_ 2) (aa (v_ 5) (aa (v_ 6) (aa (v_ 7) ah)))))) ah)))))) bL)
  (aw (aF (aD c_with_room hr (aa (v_ 0) (aa (v_ 1) (aa (aH (aa (v_ 3) (aa (v_ 4) (aa (bO (v_ 5) (aH (aa (v_ 2) ah))) (aa (v_ 6) (aa (v_ 7) ah)))))) ah))))))))
theorem vF:aB ["world","scene","hand","row","room","deed","frame","values","frames"] ["world","scene","hand","row"] (ar tf):=⟨rfl,rfl,rfl,by decide +kernel,rfl,by decide +kernel,by decide +kernel⟩
theorem Br(F:dR K "by_do" "by_do" tf f fd)(B:Bl mg)(c_place_of:bH P w K mg base 2 "place_of" ["roll","name"] b9)(c_reckoned:bH P w K mg base 9 "reckoned" ["world","scene","hand","tree"] bZ)(c_come_in:bH P w K mg base 3 "come_in" ["scene","room","hand"] hJ)(c_with_hand:bH P w K mg base 2 "with_hand" ["scene","hand","values","frames"] cX):bh P w K mg base dt 10 f fd ["world","scene","hand","row"] (dG ⟨K,mg⟩ 4 tm):=by
 have nd:=vF.nd
 refine a9 F vF fun cdv A outer s H E hr=> ?_
 exact(aj (bg 4 nd (aD c_place_of hr (aa (av (v_ 0) ag) (aa (av (v_ 3) ag) ah))))
  (aj (bg 5 nd (aD c_place_of hr (aa (av (av (av (v_ 0) ag) (v_ 4)) ag) (aa (av (v_ 3) ag) ah))))
  (aj (bg 6 nd (aH (aa (v_ 4) (aa (v_ 5) (aa ag (aa (aD c_reckoned hr (aa (v_ 0) (aa (v_ 1) (aa (v_ 2) (aa (av (v_ 3) ag) ah))))) (aa ag ah)))))))
  (aj (eE (av (av (v_ 1) ag) (v_ 2)) (cU rfl (ax (bj 7 nd) (ax (bj 8 nd) bW))))
  (aw (aF (aD c_come_in hr (aa (aD c_with_hand hr (aa (v_ 1) (aa (v_ 2) (aa (v_ 7) (aa (bO (v_ 8) (aH (aa (v_ 6) ah))) ah))))) (aa (v_ 4) (aa (v_ 2) ah))))))))))
end
section
variable{P:Program}{w:World}{K:PySem.W.Frag}{mg:Str->Option Value}{base:Heap}{f:Addr}{fd:FuncData}
theorem qo:aB ["world","scene","hand","word","room"] ["world","scene","hand","word"] (ar mv):=⟨rfl,rfl,rfl,by decide +kernel,rfl,by decide +kernel,by decide +kernel⟩
theorem wU(F:dR K "bell_of" "bell_of" mv f fd)(B:Bl mg)(c_last_frame:bH P w K mg base 1 "last_frame" ["scene","hand"] bx)(c_place_of:bH P w K mg base 2 "place_of" ["roll","name"] b9):bh P w K mg base dt 3 f fd ["world","scene","hand","word"] (dG ⟨K,mg⟩ 4 fg):=by
 have nd:=qo.nd
 refine a9 F qo fun cdv A outer s H E hr=> ?_
 exact(aj (bg 4 nd (av (aD c_last_frame hr (aa (v_ 1) (aa (v_ 2) ah))) ag))
  (aw (aF (aH (aa (v_ 4) (aa (aD c_place_of hr (aa (av (av (av (v_ 0) ag) (v_ 4)) ag) (aa (v_ 3) ah))) ah))))))
theorem mf:aB ["scene","room","bell","line","state"] ["scene","room","bell","line"] (ar jm):=⟨rfl,rfl,rfl,by decide +kernel,rfl,by decide +kernel,by decide +kernel⟩
theorem ui(F:dR K "with_line" "with_line" jm f fd)(B:Bl mg)(c_with_room:bH P w K mg base 2 "with_room" ["scene","at","room"] bN)(c_with_part:bH P w K mg base 1 "with_part" ["parts","at","part"] bS):bh P w K mg base dt 3 f fd ["scene","room","bell","line"] (dG ⟨K,mg⟩ 4 dq):=by
 have nd:=mf.nd
 refine a9 F mf fun cdv A outer s H E hr=> ?_
 exact(aj (bg 4 nd (av (av (v_ 0) ag) (v_ 1)))
  (aw (aF (aD c_with_room hr (aa (v_ 0) (aa (v_ 1) (aa (bO (cK (v_ 4) dC (dD ag)) (aH (aa (aD c_with_part hr (aa (av (v_ 4) ag) (aa (v_ 2) (aa (v_ 3) ah)))) ah))) ah)))))))
theorem v8:aB ["scene","room","values","within","row","late","bells"] ["scene","room"] (ar sM):=⟨rfl,rfl,rfl,by decide +kernel,rfl,by decide +kernel,by decide +kernel⟩
theorem AF(F:dR K "leave" "leave" sM f fd)(B:Bl mg)(c_with_room:bH P w K mg base 2 "with_room" ["scene","at","room"] bN){t_NOBODY:Tok}(h_NOBODY:mg "NOBODY"=some (.int (-1) t_NOBODY)):bh P w K mg base dt 3 f fd ["scene","room"] (dG ⟨K,mg⟩ 2 kQ):=by
 have nd:=v8.nd
 refine a9 F v8 fun cdv A outer s H E hr=> ?_
 exact(aj (eE (av (av (v_ 0) ag) (v_ 1)) (cU rfl (ax (bj 2 nd) (ax (bj 3 nd) (ax (bj 4 nd) (ax (bj 5 nd) (ax (bj 6 nd) bW)))))))
  (aj (cq (j_ (v_ 5)) (aw (aF (aD c_with_room hr (aa (v_ 0) (aa (v_ 1) (aa (aH (aa (v_ 2) (aa (av (v_ 5) ag) (aa (v_ 4) (aa (cK (v_ 5) (dD ag) dC) (aa (v_ 6) ah)))))) ah)))))) bL)
  (aj (cq (j_ (v_ 4)) (aw (aF (aD c_with_room hr (aa (v_ 0) (aa (v_ 1) (aa (aH (aa (v_ 2) (aa (av (v_ 4) ag) (aa (cK (v_ 4) (dD ag) dC) (aa (v_ 5) (aa (v_ 6) ah)))))) ah)))))) bL)
  (aw (aF (aD c_with_room hr (aa (v_ 0) (aa (v_ 1) (aa (aH (aa (v_ 2) (aa (c7 (eg (v:=.int (-1)) rfl h_NOBODY ⟨_,rfl⟩) fun _ _=>.int (-1)) (aa (v_ 4) (aa (v_ 5) (aa (v_ 6) ah)))))) ah)))))))))
theorem p6:aB ["world","scene","hand","row","room","bell","turn","line","ahead","waiting"] ["world","scene","hand","row"] (ar mW):=⟨rfl,rfl,rfl,by decide +kernel,rfl,by decide +kernel,by decide +kernel⟩
theorem xl(F:dR K "by_wait" "by_wait" mW f fd)(B:Bl mg)(c_bell_of:bH P w K mg base 3 "bell_of" ["world","scene","hand","word"] fg)(c_reckoned:bH P w K mg base 9 "reckoned" ["world","scene","hand","tree"] bZ)(c_with_line:bH P w K mg base 3 "with_line" ["scene","room","bell","line"] dq)(c_leave:bH P w K mg base 3 "leave" ["scene","room"] kQ):bh P w K mg base dt 10 f fd ["world","scene","hand","row"] (dG ⟨K,mg⟩ 4 lN):=by
 have nd:=p6.nd
 refine a9 F p6 fun cdv A outer s H E hr=> ?_
 exact(aj (eE (aD c_bell_of hr (aa (v_ 0) (aa (v_ 1) (aa (v_ 2) (aa (av (v_ 3) ag) ah))))) (cU rfl (ax (bj 4 nd) (ax (bj 5 nd) bW))))
  (aj (bg 6 nd ag)
  (aj (cq (bA cg cf (av (av (av (av (av (v_ 0) ag) (v_ 4)) ag) (v_ 5)) ag) aR (aK _)) (aw (bg 6 nd (aD c_reckoned hr (aa (v_ 0) (aa (v_ 1) (aa (v_ 2) (aa (av (v_ 3) ag) ah))))))) bL)
  (aj (bg 7 nd (av (av (av (av (v_ 1) ag) (v_ 4)) ag) (v_ 5)))
  (aj (bg 8 nd (fh rfl B.len (ip (c_ (N:= ["other","waiter","turn"]) (js:= [none,none,some 6]) (aN.gen rfl rfl rfl rfl rfl rfl) rfl (du (df (v_ 7))) (fun _ _ _ _=>(cU rfl (ax (eU 0) (ax (eU 1) bW)))) (fun _ _ _ _=>(Bz (bA Fd FI (v_ 0) (v_ 2) (aK _)))) (fun _ _ _ _=>(v_ 0))))))
  (aj (bg 9 nd (aD c_with_line hr (aa (v_ 1) (aa (v_ 4) (aa (v_ 5) (aa (bO (bO (cK (v_ 7) dC (dD (v_ 8))) (aH (aa (aH (aa (v_ 6) (aa (v_ 2) ah))) ah))) (cK (v_ 7) (dD (v_ 8)) dC)) ah))))))
  (aw (aF (aD c_leave hr (aa (v_ 9) (aa (v_ 4) ah)))))))))))
theorem oZ:aB ["world","scene","hand","row","room","bell","line","called","values","within","queue","late","bells"] ["world","scene","hand","row"] (ar mY):=⟨rfl,rfl,rfl,by decide +kernel,rfl,by decide +kernel,by decide +kernel⟩
theorem xq(F:dR K "by_call" "by_call" mY f fd)(B:Bl mg)(c_bell_of:bH P w K mg base 3 "bell_of" ["world","scene","hand","word"] fg)(c_with_line:bH P w K mg base 3 "with_line" ["scene","room","bell","line"] dq)(c_with_room:bH P w K mg base 2 "with_room" ["scene","at","room"] bN):bh P w K mg base dt 4 f fd ["world","scene","hand","row"] (dG ⟨K,mg⟩ 4 lS):=by
 have nd:=oZ.nd
 refine a9 F oZ fun cdv A outer s H E hr=> ?_
 exact(aj (eE (aD c_bell_of hr (aa (v_ 0) (aa (v_ 1) (aa (v_ 2) (aa (av (v_ 3) ag) ah))))) (cU rfl (ax (bj 4 nd) (ax (bj 5 nd) bW))))
  (aj (bg 6 nd (av (av (av (av (v_ 1) ag) (v_ 4)) ag) (v_ 5)))
  (aj (cq (yA (j_ (v_ 6))) (aw (aF (v_ 1))) bL)
  (aj (bg 7 nd (aD c_with_line hr (aa (v_ 1) (aa (v_ 4) (aa (v_ 5) (aa (cK (v_ 6) (dD ag) dC) ah))))))
  (aj (cq (bA cg cf (av (av (av (v_ 0) ag) (v_ 4)) ag) aR (aK _)) (aw (aF (v_ 7))) bL)
  (aj (eE (av (av (v_ 7) ag) (v_ 4)) (cU rfl (ax (bj 8 nd) (ax (bj 9 nd) (ax (bj 10 nd) (ax (bj 11 nd) (ax (bj 12 nd) bW)))))))
  (aw (aF (aD c_with_room hr (aa (v_ 7) (aa (v_ 4) (aa (aH (aa (v_ 8) (aa (av (av (v_ 6) ag) ag) (aa (v_ 10) (aa (bO (v_ 11) (aH (aa (v_ 2) ah))) (aa (v_ 12) ah)))))) ah))))))))))))
theorem rZ:aB ["world","scene","hand","row","room","bell"] ["world","scene","hand","row"] (ar qd):=⟨rfl,rfl,rfl,by decide +kernel,rfl,by decide +kernel,by decide +kernel⟩
theorem ze(F:dR K "by_all" "by_all" qd f fd)(B:Bl mg)(c_bell_of:bH P w K mg base 3 "bell_of" ["world","scene","hand","word"] fg)(c_with_line:bH P w K mg base 3 "with_line" ["scene","room","bell","line"] dq):bh P w K mg base dt 4 f fd ["world","scene","hand","row"] (dG ⟨K,mg⟩ 4 oA):=by
 have nd:=rZ.nd
 refine a9 F rZ fun cdv A outer s H E hr=> ?_
 exact(aj (eE (aD c_bell_of hr (aa (v_ 0) (aa (v_ 1) (aa (v_ 2) (aa (av (v_ 3) ag) ah))))) (cU rfl (ax (bj 4 nd) (ax (bj 5 nd) bW))))
  (aw (aF (aD c_with_line hr (aa (v_ 1) (aa (v_ 4) (aa (v_ 5) (aa (aH ah) ah))))))))
theorem qk:aB ["world","scene","hand","row","told"] ["world","scene","hand","row"] (ar mS):=⟨rfl,rfl,rfl,by decide +kernel,rfl,by decide +kernel,by decide +kernel⟩
theorem xm(F:dR K "by_tell" "by_tell" mS f fd)(B:Bl mg)(c_reckoned:bH P w K mg base 9 "reckoned" ["world","scene","hand","tree"] bZ)(c_with_last_frame:bH P w K mg base 3 "with_last_frame" ["scene","hand","frame"] cD)(c_last_frame:bH P w K mg base 1 "last_frame" ["scene","hand"] bx):bh P w K mg base dt 10 f fd ["world","scene","hand","row"] (dG ⟨K,mg⟩ 4 lj):=by
 have nd:=qk.nd
 refine a9 F qk fun cdv A outer s H E hr=> ?_
 exact(aj (bg 4 nd (aD c_reckoned hr (aa (v_ 0) (aa (v_ 1) (aa (v_ 2) (aa (av (v_ 3) ag) ah))))))
  (aw (aF (aD c_with_last_frame hr (aa (v_ 1) (aa (v_ 2) (aa (bO (cK (aD c_last_frame hr (aa (v_ 1) (aa (v_ 2) ah))) dC (dD ag)) (aH (aa (v_ 4) ah))) ah)))))))
theorem uh:aB ["scene","at","turnstile"] ["scene","at","turnstile"] (ar jk):=⟨rfl,rfl,rfl,by decide +kernel,rfl,by decide +kernel,by decide +kernel⟩
theorem tF(F:dR K "with_pass" "with_pass" jk f fd)(B:Bl mg)(c_with_part:bH P w K mg base 1 "with_part" ["parts","at","part"] bS):bh P w K mg base dt 2 f fd ["scene","at","turnstile"] (dG ⟨K,mg⟩ 3 dJ):=by
 refine a9 F uh fun cdv A outer s H E hr=> ?_
 exact(aw (aF (bO (aH (aa (av (v_ 0) ag) (aa (aD c_with_part hr (aa (av (v_ 0) ag) (aa (v_ 1) (aa (v_ 2) ah)))) ah))) (cK (v_ 0) (dD ag) dC))))
theorem v5:aB ["world","scene","hand","name","place","value","row"] ["world","scene","hand","name"] (ar tJ):=⟨rfl,rfl,rfl,by decide +kernel,rfl,by decide +kernel,by decide +kernel⟩
theorem Ay(F:dR K "taken" "taken" tJ f fd)(B:Bl mg)(c_place_of:bH P w K mg base 2 "place_of" ["roll","name"] b9)(c_with_pass:bH P w K mg base 2 "with_pass" ["scene","at","turnstile"] dJ):bh P w K mg base dt 3 f fd ["world","scene","hand","name"] (dG ⟨K,mg⟩ 4 my):=by
 have nd:=v5.nd
 refine a9 F v5 fun cdv A outer s H E hr=> ?_
 exact(aj (bg 4 nd (aD c_place_of hr (aa (av (v_ 0) ag) (aa (v_ 3) ah))))
  (aj (eE (av (av (v_ 1) ag) (v_ 4)) (cU rfl (ax (bj 5 nd) (ax (bj 6 nd) bW))))
  (aj (cq (bA yu xT (v_ 5) ag (aK _)) (aw (aF (aD c_with_pass hr (aa (v_ 1) (aa (v_ 4) (aa (aH (aa (pW (v_ 5) ag) (aa (v_ 6) ah))) ah)))))) bL)
  (aw (aF (aD c_with_pass hr (aa (v_ 1) (aa (v_ 4) (aa (aH (aa (v_ 5) (aa (bO (v_ 6) (aH (aa (v_ 2) ah))) ah))) ah)))))))))
theorem wG:aB ["world","scene","hand","row"] ["world","scene","hand","row"] (ar mJ):=⟨rfl,rfl,rfl,by decide +kernel,rfl,by decide +kernel,by decide +kernel⟩
theorem wX(F:dR K "by_take" "by_take" mJ f fd)(B:Bl mg)(c_taken:bH P w K mg base 3 "taken" ["world","scene","hand","name"] my):bh P w K mg base dt 4 f fd ["world","scene","hand","row"] (dG ⟨K,mg⟩ 4 me):=by
 refine a9 F wG fun cdv A outer s H E hr=> ?_
 exact(aw (aF (aD c_taken hr (aa (v_ 0) (aa (v_ 1) (aa (v_ 2) (aa (av (v_ 3) ag) ah)))))))
theorem kf:aB ["world","scene","name","place","value","row"] ["world","scene","name"] (ar ix):=⟨rfl,rfl,rfl,by decide +kernel,rfl,by decide +kernel,by decide +kernel⟩
theorem qQ(F:dR K "given_back" "given_back" ix f fd)(B:Bl mg)(c_place_of:bH P w K mg base 2 "place_of" ["roll","name"] b9)(c_with_pass:bH P w K mg base 2 "with_pass" ["scene","at","turnstile"] dJ){t_HIGHEST:Tok}(h_HIGHEST:mg "HIGHEST"=some (.int (9) t_HIGHEST)):bh P w K mg base dt 3 f fd ["world","scene","name"] (dG ⟨K,mg⟩ 3 eD):=by
 have nd:=kf.nd
 refine a9 F kf fun cdv A outer s H E hr=> ?_
 exact(aj (bg 3 nd (aD c_place_of hr (aa (av (v_ 0) ag) (aa (v_ 2) ah))))
  (aj (eE (av (av (v_ 1) ag) (v_ 3)) (cU rfl (ax (bj 4 nd) (ax (bj 5 nd) bW))))
  (aj (cq (j_ (v_ 5)) (aw (aF (aD c_with_pass hr (aa (v_ 1) (aa (v_ 3) (aa (aH (aa (v_ 4) (aa (cK (v_ 5) (dD ag) dC) ah))) ah)))))) bL)
  (aw (aF (aD c_with_pass hr (aa (v_ 1) (aa (v_ 3) (aa (aH (aa (n_ xA (dH (mw rfl) rfl B.min (by rfl) (aa (bO (v_ 4) ag) (aa (c7 (eg (v:=.int (9)) rfl h_HIGHEST ⟨_,rfl⟩) fun _ _=>.int (9)) ah)))) (aa (v_ 5) ah))) ah)))))))))
theorem xn:aB ["world","scene","hand","row"] ["world","scene","hand","row"] (ar mG):=⟨rfl,rfl,rfl,by decide +kernel,rfl,by decide +kernel,by decide +kernel⟩
theorem wx(F:dR K "by_give" "by_give" mG f fd)(B:Bl mg)(c_given_back:bH P w K mg base 3 "given_back" ["world","scene","name"] eD):bh P w K mg base dt 4 f fd ["world","scene","hand","row"] (dG ⟨K,mg⟩ 4 lD):=by
 refine a9 F xn fun cdv A outer s H E hr=> ?_
 exact(aw (aF (aD c_given_back hr (aa (v_ 0) (aa (v_ 1) (aa (av (v_ 3) ag) ah))))))
theorem xv:aB ["world","scene","hand","row"] ["world","scene","hand","row"] (ar mP):=⟨rfl,rfl,rfl,by decide +kernel,rfl,by decide +kernel,by decide +kernel⟩
theorem w_(F:dR K "by_pass" "by_pass" mP f fd)(B:Bl mg)(c_taken:bH P w K mg base 3 "taken" ["world","scene","hand","name"] my)(c_given_back:bH P w K mg base 3 "given_back" ["world","scene","name"] eD):bh P w K mg base dt 4 f fd ["world","scene","hand","row"] (dG ⟨K,mg⟩ 4 l_):=by
 refine a9 F xv fun cdv A outer s H E hr=> ?_
 exact(aw (aF (aD c_taken hr (aa (v_ 0) (aa (aD c_given_back hr (aa (v_ 0) (aa (v_ 1) (aa (av (v_ 3) ag) ah)))) (aa (v_ 2) (aa (av (v_ 3) ag) ah)))))))
end
section
variable{P:Program}{w:World}{K:PySem.W.Frag}{mg:Str->Option Value}{base:Heap}{f:Addr}{fd:FuncData}
theorem yS:aB ["world","scene","hand","row"] ["world","scene","hand","row"] (ar pB):=⟨rfl,rfl,rfl,by decide +kernel,rfl,by decide +kernel,by decide +kernel⟩
theorem y2(F:dR K "by_say" "by_say" pB f fd)(B:Bl mg):bh P w K mg base dt 1 f fd ["world","scene","hand","row"] (dG ⟨K,mg⟩ 4 oF):=by
 refine a9 F yS fun cdv A outer s H E hr=> ?_
 exact(aw (aF (v_ 1)))
theorem nQ:aB ["world","scene","hand","row","deed"] ["world","scene","hand","row"] (ar kn):=⟨rfl,rfl,rfl,by decide +kernel,rfl,by decide +kernel,by decide +kernel⟩
theorem uU(F:dR K "row_done" "row_done" kn f fd)(B:Bl mg)(T_doneBy:∀x F,pJ.lookup x=some F->bH P w K mg base 10 x ["world","scene","hand","row"] F)(D_DONE_BY:x9 P w K mg "DONE_BY" jL):bh P w K mg base dt 11 f fd ["world","scene","hand","row"] (dG ⟨K,mg⟩ 4 ia):=by
 have nd:=nQ.nd
 refine a9 F nQ fun cdv A outer s H E hr=> ?_
 exact(aj (bg 4 nd (Ci D_DONE_BY rfl (av (v_ 3) ag) (fun _ _=>rfl)))
  (aw (aF (CH T_doneBy (hr.mono (by decide)) rfl (by first|exact Or.inl rfl|exact Or.inr (Or.inl rfl)) (aa (v_ 0) (aa (v_ 1) (aa (v_ 2) (aa (v_ 3) ah)))) (bG (bG (bG (bG f_))))))))
theorem nJ:aB ["world","scene","hand","values","frames","room","deed","row","given","told","outside","came_by"] ["world","scene","hand"] (ar ku):=⟨rfl,rfl,rfl,by decide +kernel,rfl,by decide +kernel,by decide +kernel⟩
theorem u3(F:dR K "end_deed" "end_deed" ku f fd)(B:Bl mg)(c_with_hand:bH P w K mg base 2 "with_hand" ["scene","hand","values","frames"] cX)(c_leave:bH P w K mg base 3 "leave" ["scene","room"] kQ)(c_program_of:bH P w K mg base 1 "program_of" ["world","hand","frame"] dg)(c_put_thing:bH P w K mg base 3 "put_thing" ["world","scene","hand","word","value"] dP):bh P w K mg base dt 4 f fd ["world","scene","hand"] (dG ⟨K,mg⟩ 3 hV):=by
 have nd:=nJ.nd
 refine a9 F nJ fun cdv A outer s H E hr=> ?_
 exact(aj (eE (av (av (v_ 1) ag) (v_ 2)) (cU rfl (ax (bj 3 nd) (ax (bj 4 nd) bW))))
  (aj (eE (av (v_ 4) (lP ag)) (cU rfl (ax (bj 5 nd) (ax (bj 6 nd) (ax (bj 7 nd) (ax (bj 8 nd) (ax (bj 9 nd) bW)))))))
  (aj (bg 10 nd (aD c_with_hand hr (aa (aD c_leave hr (aa (v_ 1) (aa (v_ 5) ah))) (aa (v_ 2) (aa (v_ 3) (aa (cK (v_ 4) dC (dD (lP ag))) ah))))))
  (aj (bg 11 nd (av (aD c_program_of hr (aa (v_ 0) (aa (v_ 2) (aa (av (v_ 4) (lP ag)) ah)))) (pW (av (av (v_ 4) (lP ag)) ag) ag)))
  (aj (cq (bA EM EY (av (v_ 11) ag) u0 (aK _)) (aw (aF (v_ 10))) bL)
  (aw (aF (aD c_put_thing hr (aa (v_ 0) (aa (v_ 10) (aa (v_ 2) (aa (av (v_ 11) ag) (aa (v_ 9) ah)))))))))))))
theorem qw:aB ["world","scene","hand","frame","room","program","row","event"] ["world","scene","hand"] (ar m3):=⟨rfl,rfl,rfl,by decide +kernel,rfl,by decide +kernel,by decide +kernel⟩
theorem wo(F:dR K "step_of" "step_of" m3 f fd)(B:Bl mg)(c_last_frame:bH P w K mg base 1 "last_frame" ["scene","hand"] bx)(c_come_in:bH P w K mg base 3 "come_in" ["scene","room","hand"] hJ)(c_program_of:bH P w K mg base 1 "program_of" ["world","hand","frame"] dg)(c_end_deed:bH P w K mg base 4 "end_deed" ["world","scene","hand"] hV)(c_reckoned:bH P w K mg base 9 "reckoned" ["world","scene","hand","tree"] bZ)(c_row_done:bH P w K mg base 11 "row_done" ["world","scene","hand","row"] ia)(c_at_row:bH P w K mg base 4 "at_row" ["scene","hand","row"] fL){t_OWN:Tok}(h_OWN:mg "OWN"=some (.int (-1) t_OWN)):bh P w K mg base dt 12 f fd ["world","scene","hand"] (dG ⟨K,mg⟩ 3 lX):=by
 have nd:=qw.nd
 refine a9 F qw fun cdv A outer s H E hr=> ?_
 exact(aj (bg 3 nd (aD c_last_frame hr (aa (v_ 1) (aa (v_ 2) ah))))
  (aj (bg 4 nd (av (v_ 3) ag))
  (aj (cq (PW.pt (w_and (bA vS vw (v_ 4) (c7 (eg (v:=.int (-1)) rfl h_OWN ⟨_,rfl⟩) fun _ _=>.int (-1)) (aK _)) (eM (bA vS vw (av (av (av (v_ 1) ag) (v_ 4)) ag) (v_ 2) (aK _))))) (aw (aF (aH (aa (aD c_come_in hr (aa (v_ 1) (aa (v_ 4) (aa (v_ 2) ah)))) (aa u0 ah))))) bL)
  (aj (bg 5 nd (aD c_program_of hr (aa (v_ 0) (aa (v_ 2) (aa (v_ 3) ah)))))
  (aj (cq (bA cg cf (av (v_ 3) ag) (fh rfl B.len (df (v_ 5))) (aK _)) (aw (aF (aH (aa (aD c_end_deed hr (aa (v_ 0) (aa (v_ 1) (aa (v_ 2) ah)))) (aa u0 ah))))) bL)
  (aj (bg 6 nd (av (v_ 5) (av (v_ 3) ag)))
  (aj (bg 7 nd u0)
  (aj (cq (bA cg cf (av (v_ 6) ag) aR (aK _)) (aw (bg 7 nd (aH (aa (v_ 2) (aa (aD c_reckoned hr (aa (v_ 0) (aa (v_ 1) (aa (v_ 2) (aa (av (v_ 6) ag) ah))))) ah))))) bL)
  (aw (aF (aH (aa (aD c_row_done hr (aa (v_ 0) (aa (aD c_at_row hr (aa (v_ 1) (aa (v_ 2) (aa (bO (av (v_ 3) ag) ag) ah)))) (aa (v_ 2) (aa (v_ 6) ah))))) (aa (v_ 7) ah)))))))))))))
theorem wI:aB ["world","scene","hand"] ["world","scene","hand"] (ar mH):=⟨rfl,rfl,rfl,by decide +kernel,rfl,by decide +kernel,by decide +kernel⟩
theorem xi(F:dR K "stepped" "stepped" mH f fd)(B:Bl mg)(c_may_step:bH P w K mg base 3 "may_step" ["world","scene"] fR)(c_step_of:bH P w K mg base 12 "step_of" ["world","scene","hand"] lX):bh P w K mg base dt 13 f fd ["world","scene","hand"] (dG ⟨K,mg⟩ 3 lT):=by
 refine a9 F wI fun cdv A outer s H E hr=> ?_
 exact(aj (cq (x_ (v_ 2) (ip (gE c_may_step hr (aa (v_ 0) (aa (v_ 1) ah))))) (aw Cc) bL)
  (aw (aF (aD c_step_of hr (aa (v_ 0) (aa (v_ 1) (aa (v_ 2) ah)))))))
theorem zH:aB ["_law_script","_law_k","_law_pot_here","_law_world_here","_law_scene","_law_last","_law_turn","_law_some"] ["_law_script"] (ar lL):=⟨rfl,rfl,rfl,by decide +kernel,rfl,by decide +kernel,by decide +kernel⟩
theorem Dq(F:dR K "law" "law" lL f fd)(B:Bl mg)(c__law_pot:bH P w K mg base 1 "_law_pot" ["_law_script","_law_k"] jG)(c__law_any_world:bH P w K mg base 12 "_law_any_world" ["_law_pot_here"] dv)(c_begun:bH P w K mg base 3 "begun" ["world"] tj)(c__law_right:bH P w K mg base 4 "_law_right" ["_law_world_here","_law_scene"] gK)(c__law_due:bH P w K mg base 3 "_law_due" ["_law_world_here","_law_scene"] fN)(c__law_next:bH P w K mg base 3 "_law_next" ["_law_pot_here","_law_some","_law_last"] iu)(c_stepped:bH P w K mg base 13 "stepped" ["world","scene","hand"] lT):bh P w K mg base dt 14 f fd ["_law_script"] (dG ⟨K,mg⟩ 1 CG):=by
 have nd:=zH.nd
 refine a9 F zH fun cdv A outer s H E hr=> ?_
 have hu:=hr.units0
 exact(aj (fD PassesOwn.never rfl (iW rfl B.range (n_ Bq (dH (r8 rfl) rfl B.max (by rfl) (aa ag (aa (n_ xA (dH (mw rfl) rfl B.min (by rfl) (aa (fh rfl B.len (df (v_ 0))) (aa ag ah)))) ah))))) (bj 1 nd) (aj (bg 2 nd (bC (gE c__law_pot hr (aa (v_ 0) (aa (v_ 1) ah)))))
  (aj (bg 3 nd (aD c__law_any_world hr (aa (v_ 2) ah)))
  (aj (bg 4 nd (aD c_begun hr (aa (v_ 3) ah)))
  (aj (bg 5 nd (lP ag))
  (aw (fD PassesOwn.never rfl (iW rfl B.range ag) (bj 6 nd) (aj (cq (yA (j_ (aD c__law_right hr (aa (v_ 3) (aa (v_ 4) ah))))) (aw (aF BL)) bL)
  (aj (bg 7 nd (bC (gE c__law_due hr (aa (v_ 3) (aa (v_ 4) ah)))))
  (aw (cq (dU hu (df (v_ 7))) (aj (bg 5 nd (aD c__law_next hr (aa (v_ 2) (aa (v_ 7) (aa (v_ 5) ah)))))
  (aw (bg 4 nd (av (aD c_stepped hr (aa (v_ 3) (aa (v_ 4) (aa (v_ 5) ah)))) ag)))) bL)))))))))))
  (aw (aF BL)))
end
theorem all_mk{l:PySem.W.OpenLaw}{w:World}{K:PySem.W.Frag}{h:Heap}{mg:Str->Option Value}{fa f1 f2 f3 f4 f5 f6 f7 f8 f9 f10 f11 f12 f13 f14 f15 f16 f17 f18 f19 f20 f21 f22 f23 f24 f25 f26 f27 f28 f29 f30 f31 f32 f33 f34 f35 f36 f37 f38 f39 f40 f41 f42 f43 f44 f45 f46 f47 f48 f49 f50 f51 f52 f53 f54 f55 f56 f57 f58 f59 f60 f61 f62 f63:Addr}(X:K.In h)(G:h.Ns mainGlobals mg)(hfa:mg "law"=some (.ref fa))
  (d1:aW K "_law_pot" kB f1)
  (d2:aW K "_law_take" jA f2)
  (d3:aW K "_law_words" iQ f3)
  (d4:aW K "_law_pick" jw f4)
  (d5:aW K "_law_sum" kH f5)
  (d6:aW K "_law_waits" iB f6)
  (d7:aW K "_law_do" mL f7)
  (d8:aW K "_law_deed" jo f8)
  (d9:aW K "_law_room" ju f9)
  (d10:aW K "_law_rooms" iG f10)
  (d11:aW K "_law_own" kA f11)
  (d12:aW K "_law_world" iO f12)
  (d13:aW K "_law_any_world" eX f13)
  (d14:aW K "values_of" jg f14)
  (d15:aW K "begun_room" iK f15)
  (d16:aW K "begun" um f16)
  (d17:aW K "_law_bound" iy f17)
  (d18:aW K "_law_free" jn f18)
  (d19:aW K "_law_stands" gU f19)
  (d20:aW K "_law_due" kD f20)
  (d21:aW K "hands_at" km f21)
  (d22:aW K "hands_in_rows" ft f22)
  (d23:aW K "last_frame" iR f23)
  (d24:aW K "program_of" iP f24)
  (d25:aW K "is_behind_all" fu f25)
  (d26:aW K "may_step" ko f26)
  (d27:aW K "_law_right" iC f27)
  (d28:aW K "_law_next" jc f28)
  (d29:aW K "names_of" kj f29)
  (d30:aW K "place_of" kL f30)
  (d31:aW K "with_part" i7 f31)
  (d32:aW K "with_hand" i9 f32)
  (d33:aW K "with_room" jr f33)
  (d34:aW K "put_thing" jz f34)
  (d35:aW K "value_of_two" gn f35)
  (d36:aW K "value_of" kI f36)
  (d37:aW K "reckoned" kG f37)
  (d38:aW K "by_put" pT f38)
  (d39:aW K "with_last_frame" eJ f39)
  (d40:aW K "at_row" pX f40)
  (d41:aW K "by_unless" jv f41)
  (d42:aW K "by_go" sO f42)
  (d43:aW K "come_in" mK f43)
  (d44:aW K "by_do" tf f44)
  (d45:aW K "bell_of" mv f45)
  (d46:aW K "with_line" jm f46)
  (d47:aW K "leave" sM f47)
  (d48:aW K "by_wait" mW f48)
  (d49:aW K "by_call" mY f49)
  (d50:aW K "by_all" qd f50)
  (d51:aW K "by_tell" mS f51)
  (d52:aW K "with_pass" jk f52)
  (d53:aW K "taken" tJ f53)
  (d54:aW K "by_take" mJ f54)
  (d55:aW K "given_back" ix f55)
  (d56:aW K "by_give" mG f56)
  (d57:aW K "by_pass" mP f57)
  (d58:aW K "by_say" pB f58)
  (d59:aW K "row_done" kn f59)
  (d60:aW K "end_deed" ku f60)
  (d61:aW K "step_of" m3 f61)
  (d62:aW K "stepped" mH f62)
  {oc kV dc pm cd ct:Value} {od an:Option Addr} {sl:Array (Option Value)} (a63:PySem.W.nsIn K mainGlobals "law"=some (some (.ref f63))) (l63:K.lookup f63=some ⟨oc,od,.func (PySem.W.fnOf "law" "law" (fI lL) (eQ lL) (ar lL) .none kV dc pm an cd ct),sl⟩) (c63:PySem.W.codeIn K cd "law"=true) (k63:PySem.W.keepIn K (.ref f63)=true)
  {t_NOBODY:Tok} (g_NOBODY:PySem.W.nsIn K mainGlobals "NOBODY"=some (some (.int (-1) t_NOBODY)))
  {t_OWN:Tok} (g_OWN:PySem.W.nsIn K mainGlobals "OWN"=some (some (.int (-1) t_OWN)))
  {t_HIGHEST:Tok} (g_HIGHEST:PySem.W.nsIn K mainGlobals "HIGHEST"=some (some (.int (9) t_HIGHEST)))
  {a_DONE_BY ep_DONE_BY:Nat} {tk_DONE_BY_0 tk_DONE_BY_1 tk_DONE_BY_2 tk_DONE_BY_3 tk_DONE_BY_4 tk_DONE_BY_5 tk_DONE_BY_6 tk_DONE_BY_7 tk_DONE_BY_8 tk_DONE_BY_9 tk_DONE_BY_10 tk_DONE_BY_11:Tok} (g_DONE_BY:PySem.W.nsIn K mainGlobals "DONE_BY"=some (some (.ref a_DONE_BY))) (lk_DONE_BY:K.lookup a_DONE_BY=some ⟨.type "dict",none,.dict (List.toArray [⟨PyData.keyHash w.params "put",.str "put" tk_DONE_BY_0,.ref f38⟩,⟨PyData.keyHash w.params "unless",.str "unless" tk_DONE_BY_1,.ref f41⟩,⟨PyData.keyHash w.params "go",.str "go" tk_DONE_BY_2,.ref f42⟩,⟨PyData.keyHash w.params "do",.str "do" tk_DONE_BY_3,.ref f44⟩,⟨PyData.keyHash w.params "wait",.str "wait" tk_DONE_BY_4,.ref f48⟩,⟨PyData.keyHash w.params "call",.str "call" tk_DONE_BY_5,.ref f49⟩,⟨PyData.keyHash w.params "all",.str "all" tk_DONE_BY_6,.ref f50⟩,⟨PyData.keyHash w.params "tell",.str "tell" tk_DONE_BY_7,.ref f51⟩,⟨PyData.keyHash w.params "take",.str "take" tk_DONE_BY_8,.ref f54⟩,⟨PyData.keyHash w.params "give",.str "give" tk_DONE_BY_9,.ref f56⟩,⟨PyData.keyHash w.params "pass",.str "pass" tk_DONE_BY_10,.ref f57⟩,⟨PyData.keyHash w.params "say",.str "say" tk_DONE_BY_11,.ref f58⟩]) ep_DONE_BY,#[]⟩)
  (z_len:PySem.W.nsIn K mainGlobals "len"=some none) (z_tuple:PySem.W.nsIn K mainGlobals "tuple"=some none) (z_list:PySem.W.nsIn K mainGlobals "list"=some none) (z_dict:PySem.W.nsIn K mainGlobals "dict"=some none) (z_set:PySem.W.nsIn K mainGlobals "set"=some none) (z_int:PySem.W.nsIn K mainGlobals "int"=some none) (z_str:PySem.W.nsIn K mainGlobals "str"=some none) (z_bool:PySem.W.nsIn K mainGlobals "bool"=some none) (z_all:PySem.W.nsIn K mainGlobals "all"=some none) (z_any:PySem.W.nsIn K mainGlobals "any"=some none) (z_range:PySem.W.nsIn K mainGlobals "range"=some none) (z_zip:PySem.W.nsIn K mainGlobals "zip"=some none) (z_sorted:PySem.W.nsIn K mainGlobals "sorted"=some none) (z_isinstance:PySem.W.nsIn K mainGlobals "isinstance"=some none) (z_min:PySem.W.nsIn K mainGlobals "min"=some none) (z_max:PySem.W.nsIn K mainGlobals "max"=some none) (z_abs:PySem.W.nsIn K mainGlobals "abs"=some none) (z_enumerate:PySem.W.nsIn K mainGlobals "enumerate"=some none)
  (T:∀ns:List Int,ns.length<=63->∃S',CG [.ref 0] [.frz (ns.map D.int)]=some (.d (.bl true),S')):
  ∃fd:FuncData,(∀(s:Shared) (v:Value),BindsTo s fd ⟨[v],[]⟩ [("_law_script",v)])/\∀base:Heap,K.In base->base.Ns mainGlobals mg->bh l.prog w K mg base dt 14 fa fd ["_law_script"] vQ:=by
 have e:=hfa.symm.trans (PySem.W.mg_of X G a63)
 cases e
 have F63:=xG (st:=lL) l63 c63 k63
 have O1:=d1.ok1 (ps:= ["_law_script","_law_k"]) X G fun _ _ _ _ _ _ us hl=>by obtain⟨_,_,rfl⟩:=BP hl;rfl
 have O2:=d2.ok1 (ps:= ["_law_pot_here","_law_many"]) X G fun _ _ _ _ _ _ us hl=>by obtain⟨_,_,rfl⟩:=BP hl;rfl
 have O3:=d3.ok1 (ps:= ["_law_pot_here","_law_stem","_law_many"]) X G fun _ _ _ _ _ _ us hl=>by obtain⟨_,_,_,rfl⟩:=uj hl;rfl
 have O4:=d4.ok1 (ps:= ["_law_pot_here","_law_some"]) X G fun _ _ _ _ _ _ us hl=>by obtain⟨_,_,rfl⟩:=BP hl;rfl
 have O5:=d5.ok1 (ps:= ["_law_pot_here","_law_words_here","_law_bells","_law_deep"]) X G fun _ _ _ _ _ _ us hl=>by obtain⟨_,_,_,_,rfl⟩:=oJ hl;rfl
 have O6:=d6.ok1 (ps:= ["_law_pot_here","_law_words_here","_law_bells","_law_at"]) X G fun _ _ _ _ _ _ us hl=>by obtain⟨_,_,_,_,rfl⟩:=oJ hl;rfl
 have O7:=d7.ok1 (ps:= ["_law_pot_here","_law_goals","_law_things","_law_words_here"]) X G fun _ _ _ _ _ _ us hl=>by obtain⟨_,_,_,_,rfl⟩:=oJ hl;rfl
 have O8:=d8.ok1 (ps:= ["_law_pot_here","_law_room_here","_law_goals","_law_most"]) X G fun _ _ _ _ _ _ us hl=>by obtain⟨_,_,_,_,rfl⟩:=oJ hl;rfl
 have O9:=d9.ok1 (ps:= ["_law_pot_here","_law_name","_law_goals","_law_manners","_law_bells_most"]) X G fun _ _ _ _ _ _ us hl=>by obtain⟨_,_,_,_,_,rfl⟩:=G4 hl;rfl
 have O10:=d10.ok1 (ps:= ["_law_pot_here","_law_many","_law_manners","_law_bells_most"]) X G fun _ _ _ _ _ _ us hl=>by obtain⟨_,_,_,_,rfl⟩:=oJ hl;rfl
 have O11:=d11.ok1 (ps:= ["_law_pot_here","_law_goals","_law_words_here","_law_passes","_law_most"]) X G fun _ _ _ _ _ _ us hl=>by obtain⟨_,_,_,_,_,rfl⟩:=G4 hl;rfl
 have O12:=d12.ok1 (ps:= ["_law_pot_here","_law_rooms_here","_law_hands","_law_passes_most"]) X G fun _ _ _ _ _ _ us hl=>by obtain⟨_,_,_,_,rfl⟩:=oJ hl;rfl
 have O13:=d13.ok1 (ps:= ["_law_pot_here"]) X G fun _ _ _ _ _ _ us hl=>by obtain⟨_,rfl⟩:=D2 hl;rfl
 have O14:=d14.ok1 (ps:= ["things"]) X G fun _ _ _ _ _ _ us hl=>by obtain⟨_,rfl⟩:=D2 hl;rfl
 have O15:=d15.ok1 (ps:= ["room"]) X G fun _ _ _ _ _ _ us hl=>by obtain⟨_,rfl⟩:=D2 hl;rfl
 have O16:=d16.ok1 (ps:= ["world"]) X G fun _ _ _ _ _ _ us hl=>by obtain⟨_,rfl⟩:=D2 hl;rfl
 have O17:=d17.ok1 (ps:= ["_law_world_here","_law_scene","_law_own_here"]) X G fun _ _ _ _ _ _ us hl=>by obtain⟨_,_,_,rfl⟩:=uj hl;rfl
 have O18:=d18.ok1 (ps:= ["_law_world_here","_law_scene","_law_own_here"]) X G fun _ _ _ _ _ _ us hl=>by obtain⟨_,_,_,rfl⟩:=uj hl;rfl
 have O19:=d19.ok1 (ps:= ["_law_world_here","_law_scene","_law_own_here"]) X G fun _ _ _ _ _ _ us hl=>by obtain⟨_,_,_,rfl⟩:=uj hl;rfl
 have O20:=d20.ok1 (ps:= ["_law_world_here","_law_scene"]) X G fun _ _ _ _ _ _ us hl=>by obtain⟨_,_,rfl⟩:=BP hl;rfl
 have O21:=d21.ok1 (ps:= ["line"]) X G fun _ _ _ _ _ _ us hl=>by obtain⟨_,rfl⟩:=D2 hl;rfl
 have O22:=d22.ok1 (ps:= ["scene"]) X G fun _ _ _ _ _ _ us hl=>by obtain⟨_,rfl⟩:=D2 hl;rfl
 have O23:=d23.ok1 (ps:= ["scene","hand"]) X G fun _ _ _ _ _ _ us hl=>by obtain⟨_,_,rfl⟩:=BP hl;rfl
 have O24:=d24.ok1 (ps:= ["world","hand","frame"]) X G fun _ _ _ _ _ _ us hl=>by obtain⟨_,_,_,rfl⟩:=uj hl;rfl
 have O25:=d25.ok1 (ps:= ["world","scene","hand"]) X G fun _ _ _ _ _ _ us hl=>by obtain⟨_,_,_,rfl⟩:=uj hl;rfl
 have O26:=d26.ok1 (ps:= ["world","scene"]) X G fun _ _ _ _ _ _ us hl=>by obtain⟨_,_,rfl⟩:=BP hl;rfl
 have O27:=d27.ok1 (ps:= ["_law_world_here","_law_scene"]) X G fun _ _ _ _ _ _ us hl=>by obtain⟨_,_,rfl⟩:=BP hl;rfl
 have O28:=d28.ok1 (ps:= ["_law_pot_here","_law_some","_law_last"]) X G fun _ _ _ _ _ _ us hl=>by obtain⟨_,_,_,rfl⟩:=uj hl;rfl
 have O29:=d29.ok1 (ps:= ["roll"]) X G fun _ _ _ _ _ _ us hl=>by obtain⟨_,rfl⟩:=D2 hl;rfl
 have O30:=d30.ok1 (ps:= ["roll","name"]) X G fun _ _ _ _ _ _ us hl=>by obtain⟨_,_,rfl⟩:=BP hl;rfl
 have O31:=d31.ok1 (ps:= ["parts","at","part"]) X G fun _ _ _ _ _ _ us hl=>by obtain⟨_,_,_,rfl⟩:=uj hl;rfl
 have O32:=d32.ok1 (ps:= ["scene","hand","values","frames"]) X G fun _ _ _ _ _ _ us hl=>by obtain⟨_,_,_,_,rfl⟩:=oJ hl;rfl
 have O33:=d33.ok1 (ps:= ["scene","at","room"]) X G fun _ _ _ _ _ _ us hl=>by obtain⟨_,_,_,rfl⟩:=uj hl;rfl
 have O34:=d34.ok1 (ps:= ["world","scene","hand","word","value"]) X G fun _ _ _ _ _ _ us hl=>by obtain⟨_,_,_,_,_,rfl⟩:=G4 hl;rfl
 have O35:=d35.ok1 (ps:= ["form","first","second"]) X G fun _ _ _ _ _ _ us hl=>by obtain⟨_,_,_,rfl⟩:=uj hl;rfl
 have O36:=d36.ok1 (ps:= ["tree","things","waiting"]) X G fun _ _ _ _ _ _ us hl=>by obtain⟨_,_,_,rfl⟩:=uj hl;rfl
 have O37:=d37.ok1 (ps:= ["world","scene","hand","tree"]) X G fun _ _ _ _ _ _ us hl=>by obtain⟨_,_,_,_,rfl⟩:=oJ hl;rfl
 have O38:=d38.ok1 (ps:= ["world","scene","hand","row"]) X G fun _ _ _ _ _ _ us hl=>by obtain⟨_,_,_,_,rfl⟩:=oJ hl;rfl
 have O39:=d39.ok1 (ps:= ["scene","hand","frame"]) X G fun _ _ _ _ _ _ us hl=>by obtain⟨_,_,_,rfl⟩:=uj hl;rfl
 have O40:=d40.ok1 (ps:= ["scene","hand","row"]) X G fun _ _ _ _ _ _ us hl=>by obtain⟨_,_,_,rfl⟩:=uj hl;rfl
 have O41:=d41.ok1 (ps:= ["world","scene","hand","row"]) X G fun _ _ _ _ _ _ us hl=>by obtain⟨_,_,_,_,rfl⟩:=oJ hl;rfl
 have O42:=d42.ok1 (ps:= ["world","scene","hand","row"]) X G fun _ _ _ _ _ _ us hl=>by obtain⟨_,_,_,_,rfl⟩:=oJ hl;rfl
 have O43:=d43.ok1 (ps:= ["scene","room","hand"]) X G fun _ _ _ _ _ _ us hl=>by obtain⟨_,_,_,rfl⟩:=uj hl;rfl
 have O44:=d44.ok1 (ps:= ["world","scene","hand","row"]) X G fun _ _ _ _ _ _ us hl=>by obtain⟨_,_,_,_,rfl⟩:=oJ hl;rfl
 have O45:=d45.ok1 (ps:= ["world","scene","hand","word"]) X G fun _ _ _ _ _ _ us hl=>by obtain⟨_,_,_,_,rfl⟩:=oJ hl;rfl
 have O46:=d46.ok1 (ps:= ["scene","room","bell","line"]) X G fun _ _ _ _ _ _ us hl=>by obtain⟨_,_,_,_,rfl⟩:=oJ hl;rfl
 have O47:=d47.ok1 (ps:= ["scene","room"]) X G fun _ _ _ _ _ _ us hl=>by obtain⟨_,_,rfl⟩:=BP hl;rfl
 have O48:=d48.ok1 (ps:= ["world","scene","hand","row"]) X G fun _ _ _ _ _ _ us hl=>by obtain⟨_,_,_,_,rfl⟩:=oJ hl;rfl
 have O49:=d49.ok1 (ps:= ["world","scene","hand","row"]) X G fun _ _ _ _ _ _ us hl=>by obtain⟨_,_,_,_,rfl⟩:=oJ hl;rfl
 have O50:=d50.ok1 (ps:= ["world","scene","hand","row"]) X G fun _ _ _ _ _ _ us hl=>by obtain⟨_,_,_,_,rfl⟩:=oJ hl;rfl
 have O51:=d51.ok1 (ps:= ["world","scene","hand","row"]) X G fun _ _ _ _ _ _ us hl=>by obtain⟨_,_,_,_,rfl⟩:=oJ hl;rfl
 have O52:=d52.ok1 (ps:= ["scene","at","turnstile"]) X G fun _ _ _ _ _ _ us hl=>by obtain⟨_,_,_,rfl⟩:=uj hl;rfl
 have O53:=d53.ok1 (ps:= ["world","scene","hand","name"]) X G fun _ _ _ _ _ _ us hl=>by obtain⟨_,_,_,_,rfl⟩:=oJ hl;rfl
 have O54:=d54.ok1 (ps:= ["world","scene","hand","row"]) X G fun _ _ _ _ _ _ us hl=>by obtain⟨_,_,_,_,rfl⟩:=oJ hl;rfl
 have O55:=d55.ok1 (ps:= ["world","scene","name"]) X G fun _ _ _ _ _ _ us hl=>by obtain⟨_,_,_,rfl⟩:=uj hl;rfl
 have O56:=d56.ok1 (ps:= ["world","scene","hand","row"]) X G fun _ _ _ _ _ _ us hl=>by obtain⟨_,_,_,_,rfl⟩:=oJ hl;rfl
 have O57:=d57.ok1 (ps:= ["world","scene","hand","row"]) X G fun _ _ _ _ _ _ us hl=>by obtain⟨_,_,_,_,rfl⟩:=oJ hl;rfl
 have O58:=d58.ok1 (ps:= ["world","scene","hand","row"]) X G fun _ _ _ _ _ _ us hl=>by obtain⟨_,_,_,_,rfl⟩:=oJ hl;rfl
 have O59:=d59.ok1 (ps:= ["world","scene","hand","row"]) X G fun _ _ _ _ _ _ us hl=>by obtain⟨_,_,_,_,rfl⟩:=oJ hl;rfl
 have O60:=d60.ok1 (ps:= ["world","scene","hand"]) X G fun _ _ _ _ _ _ us hl=>by obtain⟨_,_,_,rfl⟩:=uj hl;rfl
 have O61:=d61.ok1 (ps:= ["world","scene","hand"]) X G fun _ _ _ _ _ _ us hl=>by obtain⟨_,_,_,rfl⟩:=uj hl;rfl
 have O62:=d62.ok1 (ps:= ["world","scene","hand"]) X G fun _ _ _ _ _ _ us hl=>by obtain⟨_,_,_,rfl⟩:=uj hl;rfl
 have h_NOBODY:=PySem.W.mg_of X G g_NOBODY
 have h_OWN:=PySem.W.mg_of X G g_OWN
 have h_HIGHEST:=PySem.W.mg_of X G g_HIGHEST
 have D_DONE_BY:x9 l.prog w K mg "DONE_BY" jL:=Bs (PySem.W.mg_of X G g_DONE_BY) lk_DONE_BY (.cons O38.m (.cons O41.m (.cons O42.m (.cons O44.m (.cons O48.m (.cons O49.m (.cons O50.m (.cons O51.m (.cons O54.m (.cons O56.m (.cons O57.m (.cons O58.m .nil)))))))))))) (by decide +kernel)
 have B:Bl mg:=⟨PySem.W.mg_none_of X G z_len,PySem.W.mg_none_of X G z_tuple,PySem.W.mg_none_of X G z_list,PySem.W.mg_none_of X G z_dict,PySem.W.mg_none_of X G z_set,PySem.W.mg_none_of X G z_int,PySem.W.mg_none_of X G z_str,PySem.W.mg_none_of X G z_bool,PySem.W.mg_none_of X G z_all,PySem.W.mg_none_of X G z_any,PySem.W.mg_none_of X G z_range,PySem.W.mg_none_of X G z_zip,PySem.W.mg_none_of X G z_sorted,PySem.W.mg_none_of X G z_isinstance,PySem.W.mg_none_of X G z_min,PySem.W.mg_none_of X G z_max,PySem.W.mg_none_of X G z_abs,PySem.W.mg_none_of X G z_enumerate⟩
 refine⟨PySem.W.fnOf "law" "law" (fI lL) (eQ lL) (ar lL) .none kV dc pm an cd ct,fun s v=>.of_eq rfl,fun base _ _=> ?_⟩
 have Z:Pk l.prog w base:=⟨⟩
 have c__law_pot:=O1.cal Z fun _ F _ _ _=>vY F B
 have c__law_take:=O2.cal Z fun _ F _ _ _=>uw F B
 have c__law_words:=O3.cal Z fun _ F _ _ _=>qP F B c__law_take
 have c__law_pick:=O4.cal Z fun _ F _ _ _=>ua F B c__law_take
 have c__law_sum:=O5.cal Z fun _ F b k m=>nu F B c__law_take c__law_pick b k m 4
 have c__law_waits:=O6.cal Z fun _ F _ _ _=>q0 F B c__law_sum c__law_take c__law_pick
 have c__law_do:=O7.cal Z fun _ F _ _ _=>wV F B c__law_pick c__law_sum
 have c__law_deed:=O8.cal Z fun _ F _ _ _=>tM F B c__law_take c__law_waits c__law_pick c__law_do c__law_sum
 have c__law_room:=O9.cal Z fun _ F _ _ _=>sY F B c__law_pick c__law_words c__law_take c__law_deed
 have c__law_rooms:=O10.cal Z fun _ F _ _ _=>qU F B c__law_words c__law_take c__law_room
 have c__law_own:=O11.cal Z fun _ F _ _ _=>uR F B c__law_take c__law_do c__law_pick c__law_sum
 have c__law_world:=O12.cal Z fun _ F _ _ _=>qG F B c__law_words c__law_take c__law_own
 have c__law_any_world:=O13.cal Z fun _ F _ _ _=>lJ F B c__law_rooms c__law_take c__law_world
 have c_values_of:=O14.cal Z fun _ F _ _ _=>tO F B
 have c_begun_room:=O15.cal Z fun _ F _ _ _=>qT F B c_values_of h_NOBODY
 have c_begun:=O16.cal Z fun _ F _ _ _=>AG F B c_values_of c_begun_room h_OWN
 have c__law_bound:=O17.cal Z fun _ F _ _ _=>qI F B
 have c__law_free:=O18.cal Z fun _ F _ _ _=>ur F B
 have c__law_stands:=O19.cal Z fun _ F _ _ _=>qm F B c__law_bound c__law_free
 have c__law_due:=O20.cal Z fun _ F _ _ _=>vg F B c__law_stands
 have c_hands_at:=O21.cal Z fun _ F _ _ _=>vd F B
 have c_hands_in_rows:=O22.cal Z fun _ F _ _ _=>mT F B c_hands_at
 have c_last_frame:=O23.cal Z fun _ F _ _ _=>qF F B
 have c_program_of:=O24.cal Z fun _ F _ _ _=>qR F B h_OWN
 have c_is_behind_all:=O25.cal Z fun _ F _ _ _=>mE F B c_last_frame c_program_of h_OWN
 have c_may_step:=O26.cal Z fun _ F _ _ _=>vV F B c_hands_in_rows c_is_behind_all
 have c__law_right:=O27.cal Z fun _ F _ _ _=>qO F B c__law_due c_may_step
 have c__law_next:=O28.cal Z fun _ F _ _ _=>uk F B c__law_take c__law_pick
 have c_names_of:=O29.cal Z fun _ F _ _ _=>wc F B
 have c_place_of:=O30.cal Z fun _ F _ _ _=>vm F B c_names_of
 have c_with_part:=O31.cal Z fun _ F _ _ _=>ug F B
 have c_with_hand:=O32.cal Z fun _ F _ _ _=>sU F B c_with_part
 have c_with_room:=O33.cal Z fun _ F _ _ _=>sV F B c_with_part
 have c_put_thing:=O34.cal Z fun _ F _ _ _=>sS F B c_last_frame c_place_of c_with_part c_with_room c_names_of c_with_hand h_OWN
 have c_value_of_two:=O35.cal Z fun _ F _ _ _=>om F B h_HIGHEST
 have c_value_of:=O36.cal Z fun _ F b k m=>nE F B c_value_of_two b k m 6
 have c_reckoned:=O37.cal Z fun _ F _ _ _=>wb F B c_last_frame c_names_of c_value_of h_OWN
 have c_by_put:=O38.cal Z fun _ F _ _ _=>y8 F B c_put_thing c_reckoned
 have c_with_last_frame:=O39.cal Z fun _ F _ _ _=>kN F B c_with_hand
 have c_at_row:=O40.cal Z fun _ F _ _ _=>zq F B c_last_frame c_with_last_frame
 have c_by_unless:=O41.cal Z fun _ F _ _ _=>tH F B c_reckoned c_at_row
 have c_by_go:=O42.cal Z fun _ F _ _ _=>A7 F B c_at_row
 have c_come_in:=O43.cal Z fun _ F _ _ _=>w4 F B c_with_room h_NOBODY
 have c_by_do:=O44.cal Z fun _ F _ _ _=>Br F B c_place_of c_reckoned c_come_in c_with_hand
 have c_bell_of:=O45.cal Z fun _ F _ _ _=>wU F B c_last_frame c_place_of
 have c_with_line:=O46.cal Z fun _ F _ _ _=>ui F B c_with_room c_with_part
 have c_leave:=O47.cal Z fun _ F _ _ _=>AF F B c_with_room h_NOBODY
 have c_by_wait:=O48.cal Z fun _ F _ _ _=>xl F B c_bell_of c_reckoned c_with_line c_leave
 have c_by_call:=O49.cal Z fun _ F _ _ _=>xq F B c_bell_of c_with_line c_with_room
 have c_by_all:=O50.cal Z fun _ F _ _ _=>ze F B c_bell_of c_with_line
 have c_by_tell:=O51.cal Z fun _ F _ _ _=>xm F B c_reckoned c_with_last_frame c_last_frame
 have c_with_pass:=O52.cal Z fun _ F _ _ _=>tF F B c_with_part
 have c_taken:=O53.cal Z fun _ F _ _ _=>Ay F B c_place_of c_with_pass
 have c_by_take:=O54.cal Z fun _ F _ _ _=>wX F B c_taken
 have c_given_back:=O55.cal Z fun _ F _ _ _=>qQ F B c_place_of c_with_pass h_HIGHEST
 have c_by_give:=O56.cal Z fun _ F _ _ _=>wx F B c_given_back
 have c_by_pass:=O57.cal Z fun _ F _ _ _=>w_ F B c_taken c_given_back
 have c_by_say:=O58.cal Z fun _ F _ _ _=>y2 F B
 have T_doneBy:∀x F,pJ.lookup x=some F->bH l.prog w K mg base 10 x ["world","scene","hand","row"] F:=by
  refine zP fun p hp=> ?_
  simp only[pJ,List.mem_cons,List.not_mem_nil,or_false] at hp
  rcases hp with rfl|rfl|rfl|rfl|rfl|rfl|rfl|rfl|rfl|rfl|rfl|rfl
  ·exact c_by_put.mono (by decide)
  ·exact c_by_unless.mono (by decide)
  ·exact c_by_go.mono (by decide)
  ·exact c_by_do.mono (by decide)
  ·exact c_by_wait.mono (by decide)
  ·exact c_by_call.mono (by decide)
  ·exact c_by_all.mono (by decide)
  ·exact c_by_tell.mono (by decide)
  ·exact c_by_take.mono (by decide)
  ·exact c_by_give.mono (by decide)
  ·exact c_by_pass.mono (by decide)
  ·exact c_by_say.mono (by decide)
 have c_row_done:=O59.cal Z fun _ F _ _ _=>uU F B T_doneBy D_DONE_BY
 have c_end_deed:=O60.cal Z fun _ F _ _ _=>u3 F B c_with_hand c_leave c_program_of c_put_thing
 have c_step_of:=O61.cal Z fun _ F _ _ _=>wo F B c_last_frame c_come_in c_program_of c_end_deed c_reckoned c_row_done c_at_row h_OWN
 have c_stepped:=O62.cal Z fun _ F _ _ _=>xi F B c_may_step c_step_of
 exact CV (Dq F63 B c__law_pot c__law_any_world c_begun c__law_right c__law_due c__law_next c_stepped) T
end W28
namespace DL
open PySem PySem.Spec L2
theorem xI{Γ:cx}{S:az}{Q:Bool->az->Prop}(q:Q true S):E cM Γ S Q:=⟨_,_,rfl,q⟩
section
variable{S:az}
theorem HD{i j:Int}{Q:D->Prop}(q:Q (.int (i+j))):Op (cc S (.int i) (.int j)) Q:=⟨_,rfl,q⟩
theorem DF{i j:Str}{Q:D->Prop}(h:i.length+j.length<=sizeLine)(q:Q (.str (i++j))):Op (cc S (.str i) (.str j)) Q:=⟨_,by simp only[cc];rw[if_pos h],q⟩
theorem dB{i j:List D}{Q:D->Prop}(h:i.length+j.length<=sizeLine)(q:Q (.tup (i++j))):Op (cc S (.tup i) (.tup j)) Q:=⟨_,by simp only[cc];rw[if_pos h],q⟩
theorem DP{k:Int->Int->D}{i j:Int}{Q:D->Prop}(q:Q (k i j)):Op (intD (fun _ _=>True) k S (.int i) (.int j)) Q:=⟨_,by simp only[intD,if_true],q⟩
theorem ql{i j:Int}{Q:D->Prop}(h:0<j)(q:Q (.int (i%j))):Op (oo S (.int i) (.int j)) Q:=⟨_,by simp only[oo,intD];rw[if_pos h],q⟩
theorem A9{i j:Int}{Q:D->Prop}(h:Aj i j)(q:Q (.int (i/j))):Op (uL S (.int i) (.int j)) Q:=⟨_,by simp only[uL,intD];rw[if_pos h],q⟩
theorem rB{i j:Int}{Q:D->Prop}(h:CU i j)(q:Q (.int (i*j))):Op (kE S (.int i) (.int j)) Q:=⟨_,by simp only[kE,intD];rw[if_pos h.ok],q⟩
theorem ak{ds:List D}{i:Int}{d:D}{Q:D->Prop}(h:i3 ds i=some d)(q:Q d):Op (aI S (.tup ds) (.int i)) Q:=⟨_,h,q⟩
theorem dE{k:Nat}{ds:List D}{i:Int}{d:D}{Q:D->Prop}(hS:S[k]?=some (.lst ds))(h:i3 ds i=some d)(q:Q d):Op (aI S (.ref k) (.int i)) Q:=⟨_,by simp only[aI,hS];exact h,q⟩
theorem c9{ds:List D}{Q:List D×Tag->Prop}(q:Q (ds,.tu)):Op (p9 S (.tup ds)) Q:=⟨_,rfl,q⟩
theorem bD{k:Nat}{ds:List D}{Q:List D×Tag->Prop}(hS:S[k]?=some (.lst ds))(q:Q (ds,.st k)):Op (p9 S (.ref k)) Q:=⟨_,by simp only[p9,hS],q⟩
theorem FA{α:Type}{o:Option α}{d:α}{Q:α->Prop}(h:o=some d)(q:Q d):Op o Q:=⟨d,h,q⟩
end
theorem bf{b:Bool}{p q:Prop}(h1:b=true->p)(h2:b=false->q):if b=true then p else q:=by
 cases b with
 |true=>exact h1 rfl
 |false=>exact h2 rfl
end DL
local macro_rules|`(tactic|symm)=>`(tactic|repeat(first|with_reducible refine DL.bQ ?_|with_reducible refine DL.eZ ?_|with_reducible refine DL.vI ?_|with_reducible refine DL.G6 ?_|with_reducible refine DL.A3 ?_|with_reducible refine DL.HI ?_|with_reducible refine DL.fq ?_|with_reducible refine DL.cA ?_|with_reducible refine DL.HC ?_|with_reducible refine DL.xJ ?_|with_reducible refine DL.E7 ?_|((with_reducible refine DL.dM (d := ?_) ?_ ?_); rotate_left; rfl)|with_reducible refine DL.DM ?_|with_reducible refine DL.Fv ?_|with_reducible refine DL.Hz ?_|with_reducible refine DL.Gp ?_|with_reducible refine DL.Hy ?_|with_reducible refine DL.G_ ?_|with_reducible refine DL.qA ?_|with_reducible refine DL.ue ?_|with_reducible refine DL.Fi ?_|with_reducible refine DL.DV ?_|with_reducible refine DL.E5 ?_|with_reducible refine DL.yz ?_|with_reducible refine DL.He ?_|with_reducible refine DL.Gw ?_|with_reducible refine DL.fw ?_|with_reducible refine DL.Dc ?_|with_reducible refine DL.GF ?_|with_reducible refine DL.sX ?_|with_reducible refine DL.Ga ?_|with_reducible refine DL.Ho ?_|with_reducible refine DL.xI ?_|with_reducible refine DL.aZ ?_|with_reducible refine DL.HN ?_|with_reducible refine DL.ya ?_|with_reducible refine DL.q_ ?_|with_reducible refine DL.HD ?_|with_reducible refine DL.DP ?_|with_reducible refine DL.c9 ?_|dsimp only))
namespace W28
open PySem PySem.Spec L2 DL
def lC(a b c:Int):O:=.lst [.int a,.int b,.int c]
theorem yI{S:az}{k:Nat}{a b c0 m:Int}{Q:Res->az->Prop}(hS:S[k]?=some (lC a b c0))(m0:0<m)(m1:m<1000000)
  (h:∀(d a' b' c':Int),0<=d->d<m->Q (.d (.int d)) (S.set k (lC a' b' c'))):Fn au [.ref k,.int m] S Q:=by
 have hk:k<S.length:=(gQs.mp hS).1
 have tk:∀(o:O),(S.set k o).take S.length=S.set k o:=fun o=>by rw[List.take_of_length_le];simp
 refine bE ?_
 unfold qh
 symm
 refine dE hS rfl ?_
 symm
 refine bf (fun c=> ?_) (fun c=> ?_)
 ·symm
  refine dE hS rfl ?_
  symm
  refine ql m0 ?_
  symm
  refine dE hS rfl ?_
  symm
  refine A9 ⟨m0,by omega⟩ ?_
  symm
  refine⟨_,_,_,_,rfl,rfl,hS,rfl,?_⟩
  symm
  refine fO (rT (by rfl)) (tk _) (fun _ z=>by cases z) rfl ?_
  exact h _ _ _ _ (Int.emod_nonneg _ (by omega)) (Int.emod_lt_of_pos _ m0)
 ·symm
  refine⟨_,_,_,_,rfl,rfl,hS,by decide,rfl,?_⟩
  symm
  refine⟨_,_,_,rfl,hS,rfl,?_⟩
  have s1:∀o:O,(S.set k o)[k]?=some o:=fun o=>by rw[List.getElem?_set_self hk]
  symm
  refine dE (s1 _) rfl ?_
  symm
  refine rB (.inr ⟨by decide,by decide⟩) ?_
  symm
  refine dE (s1 _) rfl ?_
  refine rB (.inl ⟨by decide,by decide⟩) ?_
  symm
  refine ql (by decide) ?_
  generalize hmx:(b*69069+9973*_+5)%2305843009213693921=mx
  have b0:0<=mx:=by rw[←hmx];exact Int.emod_nonneg _ (by decide)
  have b1:mx<2305843009213693921:=by rw[←hmx];exact Int.emod_lt_of_pos _ (by decide)
  symm
  refine ql (by decide) ?_
  symm
  refine dE (s1 _) rfl ?_
  refine rB (.inl ⟨by decide,by decide⟩) ?_
  symm
  refine rB (.inl ⟨by omega,by omega⟩) ?_
  symm
  refine ql (by decide) ?_
  symm
  refine⟨_,_,_,_,rfl,rfl,s1 _,rfl,?_⟩
  symm
  refine dE (by rw[List.set_set];exact s1 _) rfl ?_
  symm
  refine A9 ⟨by decide,by decide⟩ ?_
  symm
  refine ql m0 ?_
  symm
  rw[List.set_set]
  refine fO (rT (by rfl)) (tk _) (fun _ z=>by cases z) rfl ?_
  exact h _ _ _ _ (Int.emod_nonneg _ (by omega)) (Int.emod_lt_of_pos _ m0)
structure Ex(k:Nat)(S S':az):Prop where
 len:S.length<=S'.length
 keep:∀(j:Nat) (o:O),j≠k->S[j]?=some o->S'[j]?=some o
 pot:∃a b c,S'[k]?=some (lC a b c)
theorem Ex.refl{k:Nat}{S:az}{a b c:Int}(h:S[k]?=some (lC a b c)):Ex k S S:=⟨Nat.le_refl _,fun _ _ _ h=>h,_,_,_,h⟩
theorem Ex.trans{k:Nat}{S S1 S2:az}(x:Ex k S S1)(y:Ex k S1 S2):Ex k S S2:=⟨Nat.le_trans x.len y.len,fun j o n h=>y.keep j o n (x.keep j o n h),y.pot⟩
theorem Ex.set{k:Nat}{S S1:az}{a b c:Int}(x:Ex k S S1):Ex k S (S1.set k (lC a b c)):=by
 obtain⟨_,_,_,h⟩:=x.pot
 refine⟨by simpa using x.len,fun j o n h=> ?_,a,b,c,List.getElem?_set_self (gQs.mp h).1⟩
 rw[List.getElem?_set_ne (Ne.symm n)]
 exact x.keep j o n h
theorem Ex.app{k:Nat}{S S1 G:az}(x:Ex k S S1):Ex k S (S1++G):=by
 obtain⟨a,b,c,h⟩:=x.pot
 refine⟨by rw[lQa];have:=x.len;omega,fun j o n h=> ?_,a,b,c,?_⟩
 ·have:=x.keep j o n h
  rw[List.getElem?_append_left (gQs.mp this).1]
  exact this
 ·rw[List.getElem?_append_left (gQs.mp h).1]
  exact h
theorem Ex.put{k r:Nat}{S S1:az}{o:O}(x:Ex k S S1)(hr:S.length<=r)(hk:k<S.length):Ex k S (S1.set r o):=by
 obtain⟨a,b,c,h⟩:=x.pot
 refine⟨by simpa using x.len,fun j o' n h=> ?_,a,b,c,?_⟩
 ·have hj:=(gQs.mp h).1
  rw[List.getElem?_set_ne (by omega)]
  exact x.keep j o' n h
 ·rw[List.getElem?_set_ne (by omega)]
  exact h
theorem Ex.lt{k:Nat}{S S1:az}(x:Ex k S S1):k<S1.length:=by
 obtain⟨a,b,c,h⟩:=x.pot
 exact(gQs.mp h).1
theorem aM{S G:az}{j:Nat}{o:O}(h:S[j]?=some o):(S++G)[j]?=some o:=by
 rw[List.getElem?_append_left (gQs.mp h).1]
 exact h
theorem aC{S:az}{o:O}:(S++ [o])[S.length]?=some o:=by simp
theorem d0{S:az}{k j:Nat}{o o':O}(n:j≠k)(h:S[j]?=some o):(S.set k o')[j]?=some o:=by
 rw[List.getElem?_set_ne (Ne.symm n)]
 exact h
theorem cp{S:az}{j:Nat}{o o':O}(h:S[j]?=some o):(S.set j o')[j]?=some o':=List.getElem?_set_self (gQs.mp h).1
theorem Ex.clean{k:Nat}{S S':az}(x:Ex k S S')(hk:k<S.length):lZ S S'/\∃a b c,S'.take S.length=S.set k (lC a b c):=by
 obtain⟨a,b,c,h⟩:=x.pot
 have key:∀j,j<S.length->S'[j]?=(S.set k (lC a b c))[j]? :=fun j hj=>by
  by_cases e:j=k
  ·subst e
   rw[h,List.getElem?_set_self hj]
  ·rw[List.getElem?_set_ne (Ne.symm e),x.keep j _ e (gQe hj),gQe hj]
 refine⟨⟨x.len,fun j o hj e=> ?_⟩,a,b,c,?_⟩
 ·by_cases e':j=k
  ·subst e'
   rw[h] at e
   cases e
   exact .inr rfl
  ·rw[x.keep j _ e' (gQe hj)] at e
   rw[gQe hj]
   exact .inl e
 ·apply List.ext_getElem?
  intro j
  by_cases hj:j<S.length
  ·rw[List.getElem?_take_of_lt hj]
   exact key j hj
  ·rw[List.getElem?_eq_none (by rw[List.length_take];omega),List.getElem?_eq_none (by simp;omega)]
theorem jy{k:Nat}{S S':az}{d:D}{Q:Res->az->Prop}(x:Ex k S S')(hk:k<S.length)(hd:∀k,d≠.ref k)(hl:bI S.length d=true)(q:∀a b c,Q (.d d) (S.set k (lC a b c))):Op (settle S d S') fun p=>Q p.1 p.2:=by
 obtain⟨hc,a,b,c,ht⟩:=x.clean hk
 exact fO hc ht hd hl (q a b c)
theorem C9{k:Nat}{S S':az}{ds:List D}{Q:Res->az->Prop}(x:Ex k S S')(hk:k<S.length)(hl:bB S.length ds=true)(q:∀a b c,Q (.l ds) (S.set k (lC a b c))):Op (dm S ds S') fun p=>Q p.1 p.2:=by
 obtain⟨hc,a,b,c,ht⟩:=x.clean hk
 exact kP hc ht hl (q a b c)
theorem bu{S S0:az}{k:Nat}{m:Int}{Q:Res->az->Prop}(x:Ex k S0 S)(m0:0<m)(m1:m<1000000)
  (h:∀(d:Nat) (S':az),(d:Int)<m->Ex k S0 S'->Ex k S S'->S'.length=S.length->Q (.d (.int d)) S'):Fn au [.ref k,.int m] S Q:=by
 obtain⟨a,b,c,hS⟩:=x.pot
 refine yI hS m0 m1 fun d a' b' c' h0 h1=> ?_
 obtain⟨n,rfl⟩:∃n:Nat,d=n:=⟨d.toNat,by omega⟩
 exact h n _ h1 x.set (Ex.refl hS).set (by simp)
theorem aP{α:Type}{xs:List α}{j:Nat}{x:α}(h:xs[j]?=some x):i3 xs (j:Int)=some x:=by
 have hj:=(gQs.mp h).1
 unfold i3 yK
 rw[if_pos (by omega),if_pos (by omega)]
 simpa using h
theorem dW{S S0:az}{k i:Nat}{xs:List D}{Q:Res->az->Prop}(x:Ex k S0 S)(hi:i≠k)(hS:S[i]?=some (.lst xs))(h0:0<xs.length)(h1:xs.length<1000)(hl:∀d∈xs,(∀k,d≠.ref k)/\bI 0 d=true)
  (hlow:∀d∈xs,bI S.length d=true)
  (h:∀(d:D) (S':az),d∈xs->Ex k S0 S'->Ex k S S'->S'.length=S.length->Q (.d d) S'):Fn aS [.ref k,.ref i] S Q:=by
 have y:Ex k S S:=by obtain⟨a,b,c,hh⟩:=x.pot;exact Ex.refl hh
 refine bE ?_
 unfold qp
 symm
 refine bD hS ?_
 symm
 refine bu y (by show(0:Int)<xs.length;omega) (by show(xs.length:Int)<1000000;omega) fun d S' hd e1 e2 hl2=> ?_
 dsimp only
 have hd':d<xs.length:=by have:(d:Int)<(xs.length:Int):=hd;omega
 refine dE (e1.keep _ _ hi hS) (aP (gQe hd')) ?_
 have hm:=List.getElem_mem hd'
 refine jy e1 x.lt (hl _ hm).1 (hlow _ hm) fun a b c=> ?_
 exact h _ _ hm x.set y.set (by simp)
end W28
namespace DL
open PySem PySem.Spec L2
mutual
theorem cT{m:Nat}:∀{d:D},bI 0 d=true->bI m d=true
 |.non,_=>rfl
 |.bl _,_=>rfl
 |.int _,_=>rfl
 |.str _,_=>rfl
 |.tup ds,h=>by simp only[bI] at h⊢;exact hX h
 |.ref k,h=>by simp[bI] at h
 |.fn _,_=>rfl
theorem hX{m:Nat}:∀{ds:List D},bB 0 ds=true->bB m ds=true
 | [],_=>rfl
 | d::ds,h=>by
   simp only[bB,Bool.and_eq_true] at h⊢
   exact⟨cT h.1,hX h.2⟩
end
theorem oH{m:Nat}:∀{ds:List D},(∀d∈ds,bI m d=true)->bB m ds=true
 | [],_=>rfl
 | d::ds,h=>by
   simp only[bB,Bool.and_eq_true]
   exact⟨h d (List.mem_cons_self ..),oH fun e he=>h e (List.mem_cons_of_mem _ he)⟩
theorem aO{α:Type}{m:Nat}{f:α->D}{l:List α}(h:∀a∈l,bI m (f a)=true):bB m (l.map f)=true:=oH fun d hd=>by
 obtain⟨a,ha,rfl⟩:=List.mem_map.mp hd
 exact h a ha
theorem sI:∀ss:List Str,sr (ss.map D.str)=some ss
 | []=>rfl
 |s::ss=>by simp only[List.map_cons,sr];rw[sI ss];rfl
theorem EF{Γ:cx}{S:az}{f:d_}{Q:List D->az->Prop}(h:E f Γ S fun p S1=>p.2.isL=true/\∃ss:List Str,p.1=ss.map D.str/\ss.length<64/\Q ((mR ss).map D.str) S1):E (yq f) Γ S Q:=by
 obtain⟨p,S1,e1,l,ss,h1,h2,q⟩:=h
 exact⟨_,S1,by unfold yq;rw[e1];simp only[Option.bind_some];rw[if_pos l,h1,sI];simp only[Option.bind_some];rw[if_pos h2],q⟩
end DL
namespace W28
open PySem PySem.Spec L2 DL
def six:List Str:= ["a","b","c","d","e","zz"]
theorem mM{α β:Type}(g:α->β):∀(l:List α) (k:Nat),(l.map g).eraseIdx k=(l.eraseIdx k).map g
 | [],_=>rfl
 |_::_,0=>rfl
 |x::l,k+1=>congrArg (g x::·) (mM g l k)
theorem wa{α:Type}{acc left all:List α}{j:Nat}(hj:j<left.length)(h:(acc++left).Perm all):((acc++ [left[j]])++left.eraseIdx j).Perm all:=by
 refine List.Perm.trans ?_ h
 rw[List.append_assoc]
 refine List.Perm.append_left acc ?_
 show(left[j]::left.eraseIdx j).Perm left
 rw[List.eraseIdx_eq_take_drop_succ]
 have e:left=left.take j++left[j]::left.drop (j+1):=by rw[←List.drop_eq_getElem_cons hj,List.take_append_drop]
 refine List.Perm.trans ?_ (List.Perm.of_eq e.symm)
 exact List.perm_middle.symm
theorem C7{n j:Nat}(h:j<n)(h2:n<1000):seqIndex? (j:Int) n=some j:=(uA (by unfold yK;rw[if_pos (by omega),if_pos (by omega)];simp)).1
theorem gB{S S0:az}{k:Nat}{stem:Str}{many:Int}{Q:Res->az->Prop}(x:Ex k S0 S)(hm:0<=many)(hm6:many<=6)(hst:stem.length<=1)
  (h:∀(ws:List Str) (S':az),(∃l,(ws++l).Perm (six.map (stem++·)))->(ws.length:Int)=many->Ex k S0 S'->Ex k S S'->S'.length=S.length->Q (.l (ws.map D.str)) S'):Fn cb [.ref k,.str stem,.int many] S Q:=by
 have y:Ex k S S:=by obtain⟨a,b,c,hh⟩:=x.pot;exact Ex.refl hh
 refine bE ?_
 unfold nN
 symm
 refine i8 ?_
 symm
 refine⟨by decide,⟨fun n Γ' S' acc=>Γ'= [Γ'.getD 0 none,some (.str stem)]/\S'=S/\acc=((six.take n).map (stem++·)).map D.str,⟨rfl,rfl,rfl⟩,fun n Γ' S' acc h=>trivial,fun n d Γ' S' acc hd ⟨hΓ,hS,hacc⟩=> ?_,fun Γ' S' acc ⟨_,hS,hacc⟩=> ?_⟩⟩
 ·have hS:=hS.symm
  subst hS hacc
  obtain⟨o,rfl⟩:∃o,Γ'= [o,some (.str stem)]:=⟨_,hΓ⟩
  have hd':∃z,six[n]?=some z/\d=.str z:=by
   rcases n with _|_|_|_|_|_|n <;>first|(cases hd;exact⟨_,rfl,rfl⟩)|(simp at hd)
  obtain⟨z,hz,rfl⟩:=hd'
  have hzl:z.length<=2:=by
   have:=mQg hz
   simp only[six,List.mem_cons,List.not_mem_nil,or_false] at this
   rcases this with rfl|rfl|rfl|rfl|rfl|rfl <;>decide
  symm
  rw[if_pos rfl]
  symm
  refine DF (Nat.le_trans (show stem.length+z.length<=3 by omega) (by decide)) ?_
  have hn:n<6:=(gQs.mp hz).1
  refine⟨?_,rfl,rfl,?_⟩
  ·simp only[lQm,List.length_take]
   exact Nat.lt_of_le_of_lt (Nat.min_le_left _ _) (Nat.lt_trans hn (by decide))
  ·rw[List.take_add_one,hz]
   simp
 ·have hS:=hS.symm
  subst hS hacc
  symm
  refine EF ?_
  symm
  refine i8 ?_
  symm
  refine⟨many,rfl,⟨by omega,by omega⟩,fun n Γ' S2 acc=>∃(ac lf:List Str),Γ'= [Γ'.getD 0 none,some (.ref k),some (.ref S.length)]/\Ex k S S2/\S2.length=S.length+1/\S2[S.length]?=some (.lst (lf.map D.str))/\acc=ac.map D.str/\ac.length=n/\(ac++lf).Perm (six.map (stem++·)),?_,fun _ _ _ _ _=>trivial,?_,?_⟩
  ·refine⟨[],six.map (stem++·),rfl,y.app,by simp,?_,rfl,rfl,List.Perm.refl _⟩
   exact aC
  ·rintro n d Γ' S2 acc hd ⟨ac,lf,hΓ,e2,hl2,hr,rfl,hn,hp⟩
   obtain⟨o,rfl⟩:∃o,Γ'= [o,some (.ref k),some (.ref S.length)]:=⟨_,hΓ⟩
   have hlen:=hp.length_eq
   simp only[lQa,lQm] at hlen
   have h6:six.length=6:=rfl
   have hn6:n<6:=by
    have:=(gQs.mp hd).1
    simp only[ie,lQm,List.length_range] at this
    omega
   have hlf:0<lf.length:=by omega
   symm
   rw[if_pos rfl]
   refine hU ?_
   symm
   refine⟨_,_,rfl,hr,?_⟩
   symm
   refine bD hr ?_
   symm
   refine bu e2 (by simp only[lQm];omega) (by simp only[lQm];omega) fun j S3 hj e3 e3' hl3=> ?_
   dsimp only
   symm
   have hj':j<lf.length:=by simpa using hj
   have hne:S.length≠k:=by have:=x.lt;omega
   have hr3:=e3'.keep _ _ hne hr
   refine⟨_,hr3,?_⟩
   refine FA (d:=((lf.map D.str).eraseIdx j,D.str lf[j])) ?_ ?_
   ·simp only[kJ]
    rw[if_pos ⟨by omega,by omega⟩,lQm,C7 hj' (by omega)]
    simp[gQe hj']
   ·refine⟨?_,ac++ [lf[j]],lf.eraseIdx j,rfl,e3.put (Nat.le_refl _) x.lt,by simp[hl3,hl2],?_,by simp,by simp[hn],wa hj' hp⟩
    ·simp only[lQm]
     exact Nat.lt_trans (show ac.length<6 by omega) (by decide)
    ·rw[cp hr3,mM]
  ·rintro Γ' S2 acc ⟨ac,lf,hΓ,e2,hl2,hr,rfl,hn,hp⟩
   have hlen:=hp.length_eq
   simp only[lQa,lQm] at hlen
   have h6:six.length=6:=rfl
   refine⟨rfl,ac,rfl,by omega,?_⟩
   refine C9 e2 x.lt (aO fun _ _=>rfl) fun a b c=> ?_
   refine h _ _ ⟨lf,(List.Perm.append_right lf (gM ac)).trans hp⟩ ?_ x.set y.set (by simp)
   rw[(gM ac).length_eq,hn]
   simp only[ie,lQm,List.length_range]
   omega
end W28
namespace DL
open PySem PySem.Spec L2
theorem uW{Γ:cx}{S:az}{f g:d_}{Q:List D->az->Prop}(h:E f Γ S fun p S1=>E g Γ S1 fun r S2=>(p.2.isM=true/\r.2.isM=true/\p.2.stays S2 p.1/\p.1.length+r.1.length<=sizeLine)/\Q (p.1++r.1) S2):E (vp f g) Γ S Q:=by
 obtain⟨p,S1,e1,r,S2,e2,l,q⟩:=h
 exact⟨_,S2,by unfold vp;rw[e1];simp only[Option.bind_some];rw[e2];simp only[Option.bind_some];rw[if_pos l],q⟩
theorem dF{S:az}{i j:Int}{Q:D->Prop}(q:Q (.bl (decide (i=j)))):Op (eC false S (.int i) (.int j)) Q:=⟨_,by simp[eC,qL,w6],q⟩
theorem gI{S:az}{i j:Str}{Q:D->Prop}(q:Q (.bl (decide (i=j)))):Op (eC false S (.str i) (.str j)) Q:=⟨_,by simp[eC,qL,w6],q⟩
theorem eO{Γ:cx}{S:az}{n:Nat}{g:nW}{ds:List D}{Q:cx->az->Prop}(hn:ds.length=n)(h:Gx g ds Γ S Q):Tg (jS (nG n g)) (.tup ds) Γ S Q:=by
 obtain⟨Γ',S',e,q⟩:=h
 exact⟨Γ',S',by show nG n g ds Γ S=_;unfold nG;rw[if_pos hn];exact e,q⟩
theorem bz{Γ:cx}{S:az}{Q:cx->az->Prop}(q:Q Γ S):Gx ed [] Γ S Q:=⟨_,_,rfl,q⟩
theorem aq{Γ:cx}{S:az}{f:kT}{g:nW}{d:D}{ds:List D}{Q:cx->az->Prop}(h:Tg f d Γ S fun Γ1 S1=>Gx g ds Γ1 S1 Q):Gx (aG f g) (d::ds) Γ S Q:=by
 obtain⟨Γ1,S1,e1,Γ2,S2,e2,q⟩:=h
 exact⟨Γ2,S2,by show(f d Γ S).bind _=_;rw[e1];exact e2,q⟩
end DL
namespace W28
open PySem PySem.Spec L2 DL
def ops:List Str:= ["plus","minus","less","same","both"]
inductive Tr where
 |num (n:Nat)|word (x:Str)|waits (b:Str)|no (t:Tr)|two (o:Str) (a b:Tr)
def Tr.d:Tr->D
 |.num n=>.int n
 |.word x=>.str x
 |.waits b=>.tup [.str "waits",.str b]
 |.no t=>.tup [.str "not",t.d]
 |.two o a b=>.tup [.str o,a.d,b.d]
def Tr.Ok(ws bs:List Str):Tr->Prop
 |.num n=>n<=9
 |.word x=>x∈ws
 |.waits b=>b∈bs
 |.no t=>t.Ok ws bs
 |.two o a b=>o∈ops/\a.Ok ws bs/\b.Ok ws bs
def Tr.dep:Tr->Nat
 |.num _=>1
 |.word _=>1
 |.waits _=>1
 |.no t=>t.dep+1
 |.two _ a b=>max a.dep b.dep+1
theorem Tr.low:∀t:Tr,bI 0 t.d=true
 |.num _=>rfl
 |.word _=>rfl
 |.waits _=>rfl
 |.no t=>by simp only[Tr.d,bI,bB];rw[t.low];rfl
 |.two _ a b=>by simp only[Tr.d,bI,bB];rw[a.low,b.low];rfl
theorem Tr.noref(t:Tr):∀k,t.d≠.ref k:=by
 intro k
 cases t <;>simp[Tr.d]
theorem dk{ws:List Str}:∀d∈ws.map D.str,(∀k,d≠.ref k)/\bI 0 d=true:=fun d hd=>by
 obtain⟨a,_,rfl⟩:=List.mem_map.mp hd
 exact⟨fun k z=>(nomatch z),rfl⟩
theorem eT{ws:List Str}{m:Nat}:∀d∈ws.map D.str,bI m d=true:=fun d hd=>by
 obtain⟨a,_,rfl⟩:=List.mem_map.mp hd
 rfl
theorem EL{n:Nat}(h:(n:Int)<5):∃o,o∈ops/\i3 ([.str "plus",.str "minus",.str "less",.str "same",.str "both"]:List D) (n:Int)=some (.str o):=by
 rcases n with _|_|_|_|_|n
 ·exact⟨"plus",by simp[ops],rfl⟩
 ·exact⟨"minus",by simp[ops],rfl⟩
 ·exact⟨"less",by simp[ops],rfl⟩
 ·exact⟨"same",by simp[ops],rfl⟩
 ·exact⟨"both",by simp[ops],rfl⟩
 ·omega
theorem gV:∀(n:Nat) {S S0:az} {k i j:Nat} {ws bs:List Str} {deep:Nat} {Q:Res->az->Prop} (x:Ex k S0 S) (hi:i≠k) (hj:j≠k) (hw:S[i]?=some (.lst (ws.map D.str))) (hb:S[j]?=some (.lst (bs.map D.str))) (lw:ws.length<1000) (lb:bs.length<1000) (hn:deep<n)
  (h:∀(t:Tr) (S':az),t.Ok ws bs->t.dep<=deep+1->Ex k S0 S'->Ex k S S'->S'.length=S.length->Q (.d t.d) S'),Fn (aY n) [.ref k,.ref i,.ref j,.int deep] S Q
 |0,_,_,_,_,_,_,_,_,_,_,_,_,_,_,_,_,hn,_=>absurd hn (Nat.not_lt_zero _)
 | n+1,S,S0,k,i,j,ws,bs,deep,Q,x,hi,hj,hw,hb,lw,lb,hn,h=>by
   have y:Ex k S S:=by obtain⟨a,b,c,hh⟩:=x.pot;exact Ex.refl hh
   have fin:∀(t:Tr) (S':az),t.Ok ws bs->t.dep<=deep+1->Ex k S S'->Op (settle S t.d S') fun p=>Q p.1 p.2:=fun t S' h1 h2 e=>jy e x.lt t.noref (cT t.low) fun a b c=>h _ _ h1 h2 x.set y.set (by simp)
   refine bE ?_
   unfold sJ
   symm
   refine bu y (by decide) (by decide) fun way S1 hway e1 _ l1=> ?_
   symm
   have hw1:=e1.keep _ _ hi hw
   have hb1:=e1.keep _ _ hj hb
   have bare:∀S2,Ex k S S2->T (aA (eF (gf (aE (cW (bc (af 1)))) (aE (ay E6 (ao au (ae (af 0) (ae (cF (.int 3)) ai))) (cF (.int 0))))) (cn (ao aS (ae (af 0) (ae (af 1) ai)))) fS)
     (cn (ao au (ae (af 0) (ae (ay aI (bT (bp (ae (cF (.int 3)) (ae (cF (.int 10)) ai)))) (ud intOfD (ae (ay (eC false) (ao au (ae (af 0) (ae (cF (.int 5)) ai))) (cF (.int 0))) ai))) ai)))))
     [some (.ref k),some (.ref i),some (.ref j),some (.int deep),some (.int way),none] S2 fun o=>match o with|.rt d S'=>Op (settle S d S') fun p=>Q p.1 p.2|_=>False:=by
     intro S2 e2
     have hw2:=e2.keep _ _ hi hw
     have plain:∀S3,Ex k S S3->T (cn (ao au (ae (af 0) (ae (ay aI (bT (bp (ae (cF (.int 3)) (ae (cF (.int 10)) ai)))) (ud intOfD (ae (ay (eC false) (ao au (ae (af 0) (ae (cF (.int 5)) ai))) (cF (.int 0))) ai))) ai))))
       [some (.ref k),some (.ref i),some (.ref j),some (.int deep),some (.int way),none] S3 fun o=>match o with|.rt d S'=>Op (settle S d S') fun p=>Q p.1 p.2|_=>False:=by
       intro S3 e3
       symm
       refine⟨by decide,?_⟩
       symm
       refine bu (e3.app (G:= [O.lst [D.int 3,D.int 10]])) (by decide) (by decide) fun d S4 hd e4 e4' l4=> ?_
       symm
       refine dF ?_
       symm
       have hnew:S4[S3.length]?=some (.lst [.int 3,.int 10]):=e4'.keep _ _ (by have:=e3.lt;omega) aC
       have hm:∃m:Int,(m=3\/m=10)/\Op (intOfD [D.bl (decide ((d:Int)=0))]) (fun z=>∃r,z=.int r/\i3 ([.int 3,.int 10]:List D) r=some (.int m)):=by
         by_cases c:(d:Int)=0
         · exact⟨10,.inr rfl,_,rfl,1,by rw[decide_eq_true c];rfl,rfl⟩
         · exact⟨3,.inl rfl,_,rfl,0,by rw[decide_eq_false c];rfl,rfl⟩
       obtain⟨m,hm,z,e5,r,rfl,e6⟩:=hm
       refine⟨_,e5,?_⟩
       refine dE hnew e6 ?_
       symm
       refine bu e4 (by omega) (by omega) fun v S5 hv e5 _ l5=> ?_
       dsimp only
       exact fin (.num v) _ (by show v<=9;omega) (by show 1<=deep+1;omega) e5
     symm
     refine bD hw2 ?_
     refine⟨⟨rfl,hw2⟩,?_⟩
     dsimp only
     refine bf (fun c=> ?_) (fun c=> ?_)
     · symm
       refine bu e2 (by decide) (by decide) fun d S3 hd e3 _ l3=> ?_
       symm
       refine bf (fun c2=> ?_) (fun c2=> ?_)
       · symm
         have hne:0<(ws.map D.str).length:=by
           cases ws with
           |nil=>simp at c
           |cons a b=>simp
         refine dW e3 hi (e3.keep _ _ hi hw) hne (by simpa using lw) dk eT fun v S4 hv e4 _ l4=> ?_
         obtain⟨z,hz,rfl⟩:=List.mem_map.mp hv
         exact fin (.word z) _ hz (by show 1<=deep+1;omega) e4
       · exact cA (plain S3 e3)
     · rw[if_neg (by decide)]
       exact cA (plain S2 e2)
   have go:∀{R:Res->az->Prop} {S2:az},Ex k S S2->1<=deep->(∀(t:Tr) (S':az),t.Ok ws bs->t.dep<=deep->Ex k S S'->R (.d t.d) S')->Fn (aY n) [.ref k,.ref i,.ref j,.int ((deep:Int)-1)] S2 R:=by
     intro R S2 e2 hd hR
     have e:((deep:Int)-1)=((deep-1:Nat):Int):=by omega
     rw[e]
     exact gV n e2 hi hj (e2.keep _ _ hi hw) (e2.keep _ _ hj hb) lw lb (by omega) fun t S' h1 h2 h3 _ _=>hR t S' h1 (by omega) h3
   have rest:∀S2,Ex k S S2->1<=deep->T (aA (eF (gf (aE (ay (eC false) (af 4) (cF (.int 3)))) (aE (cW (bc (af 2))))) (cn (aX (ae (cF (.str "waits")) (ae (ao aS (ae (af 0) (ae (af 2) ai))) ai)))) fS)
     (aA (eF (aE (ay (eC false) (af 4) (cF (.int 4)))) (cn (aX (ae (cF (.str "not")) (ae (ao (aY n) (ae (af 0) (ae (af 1) (ae (af 2) (ae (ay jU (af 3) (cF (.int 1))) ai))))) ai)))) fS)
     (aA (aV 5 (ay aI (bT (bp (ae (cF (.str "plus")) (ae (cF (.str "minus")) (ae (cF (.str "less")) (ae (cF (.str "same")) (ae (cF (.str "both")) ai))))))) (ao au (ae (af 0) (ae (cF (.int 5)) ai)))))
     (cn (aX (ae (af 5) (ae (ao (aY n) (ae (af 0) (ae (af 1) (ae (af 2) (ae (ay jU (af 3) (cF (.int 1))) ai))))) (ae (ao (aY n) (ae (af 0) (ae (af 1) (ae (af 2) (ae (ay jU (af 3) (cF (.int 1))) ai))))) ai))))))))
     [some (.ref k),some (.ref i),some (.ref j),some (.int deep),some (.int way),none] S2 fun o=>match o with|.rt d S'=>Op (settle S d S') fun p=>Q p.1 p.2|_=>False:=by
     intro S2 e2 hd1
     have hb2:=e2.keep _ _ hj hb
     have third:T (aA (aV 5 (ay aI (bT (bp (ae (cF (.str "plus")) (ae (cF (.str "minus")) (ae (cF (.str "less")) (ae (cF (.str "same")) (ae (cF (.str "both")) ai))))))) (ao au (ae (af 0) (ae (cF (.int 5)) ai)))))
       (cn (aX (ae (af 5) (ae (ao (aY n) (ae (af 0) (ae (af 1) (ae (af 2) (ae (ay jU (af 3) (cF (.int 1))) ai))))) (ae (ao (aY n) (ae (af 0) (ae (af 1) (ae (af 2) (ae (ay jU (af 3) (cF (.int 1))) ai))))) ai))))))
       [some (.ref k),some (.ref i),some (.ref j),some (.int deep),some (.int way),none] S2 fun o=>match o with|.rt d S'=>Op (settle S d S') fun p=>Q p.1 p.2|_=>False:=by
       symm
       refine⟨by decide,?_⟩
       symm
       refine bu (e2.app (G:= [O.lst [.str "plus",.str "minus",.str "less",.str "same",.str "both"]])) (by decide) (by decide) fun d S4 hd e4 e4' l4=> ?_
       dsimp only
       obtain⟨o,ho,e5⟩:=EL hd
       refine dE (e4'.keep _ _ (by have:=e2.lt;omega) aC) e5 ?_
       symm
       refine go e4 hd1 fun t1 S5 h1 h2 e5=> ?_
       symm
       refine go e5 hd1 fun t2 S6 h3 h4 e6=> ?_
       symm
       refine⟨by show 3<=sizeLine;decide,?_⟩
       exact fin (.two o t1 t2) _ ⟨ho,h1,h3⟩ (by simp only[Tr.dep];omega) e6
     have second:T (aA (eF (aE (ay (eC false) (af 4) (cF (.int 4)))) (cn (aX (ae (cF (.str "not")) (ae (ao (aY n) (ae (af 0) (ae (af 1) (ae (af 2) (ae (ay jU (af 3) (cF (.int 1))) ai))))) ai)))) fS)
       (aA (aV 5 (ay aI (bT (bp (ae (cF (.str "plus")) (ae (cF (.str "minus")) (ae (cF (.str "less")) (ae (cF (.str "same")) (ae (cF (.str "both")) ai))))))) (ao au (ae (af 0) (ae (cF (.int 5)) ai)))))
       (cn (aX (ae (af 5) (ae (ao (aY n) (ae (af 0) (ae (af 1) (ae (af 2) (ae (ay jU (af 3) (cF (.int 1))) ai))))) (ae (ao (aY n) (ae (af 0) (ae (af 1) (ae (af 2) (ae (ay jU (af 3) (cF (.int 1))) ai))))) ai)))))))
       [some (.ref k),some (.ref i),some (.ref j),some (.int deep),some (.int way),none] S2 fun o=>match o with|.rt d S'=>Op (settle S d S') fun p=>Q p.1 p.2|_=>False:=by
       symm
       refine dF ?_
       dsimp only
       refine bf (fun c=> ?_) (fun c=> ?_)
       · symm
         refine go e2 hd1 fun t S5 h1 h2 e5=> ?_
         symm
         refine⟨by show 2<=sizeLine;decide,?_⟩
         exact fin (.no t) _ h1 (by simp only[Tr.dep];omega) e5
       · exact cA third
     symm
     refine dF ?_
     dsimp only
     refine bf (fun c=> ?_) (fun c=> ?_)
     · symm
       refine bD hb2 ?_
       refine⟨⟨rfl,hb2⟩,?_⟩
       dsimp only
       refine bf (fun c=> ?_) (fun c=> ?_)
       · symm
         have hne:0<(bs.map D.str).length:=by
           cases bs with
           |nil=>simp at c
           |cons a b=>simp
         refine dW e2 hj hb2 hne (by simpa using lb) dk eT fun v S4 hv e4 _ l4=> ?_
         obtain⟨z,hz,rfl⟩:=List.mem_map.mp hv
         symm
         refine⟨by show 2<=sizeLine;decide,?_⟩
         exact fin (.waits z) _ hz (by show 1<=deep+1;omega) e4
       · exact cA second
     · rw[if_neg (by decide)]
       exact cA second
   refine bf (fun c=> ?_) (fun c=> ?_)
   · rw[if_pos rfl]
     exact(bare S1 e1).mono fun o ho=>by
       cases o with
       |rt d S'=>exact ho
       |_=>exact ho.elim
   · symm
     refine bf (fun c2=> ?_) (fun c2=> ?_)
     · exact(bare S1 e1).mono fun o ho=>by
         cases o with
         |rt d S'=>exact ho
         |_=>exact ho.elim
     · have hd1:1<=deep:=by
         have:=of_decide_eq_false c
         omega
       refine cA ?_
       exact(rest S1 e1 hd1).mono fun o ho=>by
         cases o with
         |rt d S'=>exact ho
         |_=>exact ho.elim
inductive Rw where
 |put (x:Str) (t:Tr)|unl (t:Tr) (n:Nat)|go (n:Nat)|do_ (g:Option Str) (r d:Str) (t:Tr)|wait (b:Str) (t:Tr)|call (b:Str)|all (b:Str)|tell (t:Tr)
 |take (p:Str)|give (p:Str)|pass (p q:Str)|say (t:Tr)
def CM:Option Str->D
 |none=>.non
 |some x=>.str x
def Rw.d:Rw->D
 |.put x t=>.tup [.str "put",.str x,t.d]
 |.unl t n=>.tup [.str "unless",t.d,.int n]
 |.go n=>.tup [.str "go",.int n]
 |.do_ g r d t=>.tup [.str "do",CM g,.str r,.str d,t.d]
 |.wait b t=>.tup [.str "wait",.str b,t.d]
 |.call b=>.tup [.str "call",.str b]
 |.all b=>.tup [.str "all",.str b]
 |.tell t=>.tup [.str "tell",t.d]
 |.take p=>.tup [.str "take",.str p]
 |.give p=>.tup [.str "give",.str p]
 |.pass p q=>.tup [.str "pass",.str p,.str q]
 |.say t=>.tup [.str "say",t.d]
structure Sc where
 own:Bool
 ws:List Str
 ps:List Str
 bs:List Str
 gs:List (Str×Str)
 ts:List Str
def Am(sc:Sc)(t:Tr):Prop:=t.Ok sc.ws sc.bs/\t.dep<=4
def Rw.Ok(sc:Sc)(n:Nat):Rw->Prop
 |.put x t=>x∈sc.ps/\Am sc t
 |.unl t m=>Am sc t/\m<=n
 |.go m=>m<=n
 |.do_ g r d t=>(∀x,g=some x->x∈sc.ps)/\(r,d)∈sc.gs/\Am sc t
 |.wait b t=>sc.own=false/\b∈sc.bs/\Am sc t
 |.call b=>sc.own=false/\b∈sc.bs
 |.all b=>sc.own=false/\b∈sc.bs
 |.tell t=>sc.own=false/\Am sc t
 |.take p=>sc.own=true/\p∈sc.ts
 |.give p=>sc.own=true/\p∈sc.ts
 |.pass p q=>sc.own=true/\p∈sc.ts/\q∈sc.ts
 |.say t=>sc.own=true/\Am sc t
theorem Rw.Ok.mono{sc:Sc}{n m:Nat}{r:Rw}(h:r.Ok sc n)(l:n<=m):r.Ok sc m:=by
 cases r with
 |unl t k=>exact⟨h.1,Nat.le_trans h.2 l⟩
 |go k=>exact Nat.le_trans h l
 |_=>exact h
theorem Rw.low(r:Rw):bI 0 r.d=true:=by
 cases r with
 |do_ g r d t=>cases g <;>simp only[Rw.d,bI,bB,CM,t.low,Bool.and_true,Bool.true_and]
 |_=>simp only[Rw.d,bI,bB,Tr.low,Bool.and_true,Bool.true_and]
def pR(sc:Sc)(rs:List Rw):Prop:=∀r∈rs,r.Ok sc rs.length
theorem Bf{S S0:az}{k i j:Nat}{at_:Nat}{sc:Sc}{Q:Res->az->Prop}(x:Ex k S0 S)(hi:i≠k)(hj:j≠k)(hw:S[i]?=some (.lst (sc.ws.map D.str)))(hb:S[j]?=some (.lst (sc.bs.map D.str)))(lw:sc.ws.length<1000)(lb:sc.bs.length<1000)(b0:0<sc.bs.length)(hg:(("given":Str))∈sc.ws)(ho:sc.own=false)
  (h:∀(rs:List Rw) (S':az),(∀r∈rs,r.Ok sc (at_+rs.length))->1<=rs.length->rs.length<=3->Ex k S0 S'->Ex k S S'->S'.length=S.length->Q (.l (rs.map Rw.d)) S'):Fn gQ [.ref k,.ref i,.ref j,.int at_] S Q:=by
 have y:Ex k S S:=by obtain⟨a,b,c,hh⟩:=x.pot;exact Ex.refl hh
 have fin:∀(rs:List Rw) (S':az),(∀r∈rs,r.Ok sc (at_+rs.length))->1<=rs.length->rs.length<=3->Ex k S S'->Op (dm S (rs.map Rw.d) S') fun p=>Q p.1 p.2:=fun rs S' h1 h2 h2' e=>C9 e x.lt (aO fun r _=>cT r.low) fun a b c=>h _ _ h1 h2 h2' x.set y.set (by simp)
 refine bE ?_
 unfold m9
 symm
 refine gV 4 (deep:=1) y hi hj hw hb lw lb (by decide) fun t S1 h1 h2 e1 _ l1=> ?_
 symm
 refine⟨by show 3<=sizeLine;decide,?_⟩
 symm
 refine bu (e1.app (G:= [O.lst [.int 0,.str "given",t.d]])) (by decide) (by decide) fun d S2 hd e2 e2' l2=> ?_
 dsimp only
 have ht:∃t2:Tr,Am sc t2/\i3 ([.int 0,.str "given",t.d]:List D) (d:Int)=some t2.d:=by
  rcases d with _|_|_|d
  ·exact⟨.num 0,⟨by show 0<=9;omega,by show 1<=4;omega⟩,rfl⟩
  ·exact⟨.word "given",⟨hg,by show 1<=4;omega⟩,rfl⟩
  ·exact⟨t,⟨h1,by omega⟩,rfl⟩
  ·omega
 obtain⟨t2,ht2,ha⟩:=ht
 refine dE (e2'.keep _ _ (by have:=e1.lt;omega) aC) ha ?_
 symm
 refine dW e2 hj (e2.keep _ _ hj hb) (by simpa using b0) (by simpa using lb) dk eT fun v S3 hv e3 _ l3=> ?_
 obtain⟨z,hz,rfl⟩:=List.mem_map.mp hv
 symm
 refine⟨by show 3<=sizeLine;decide,?_⟩
 symm
 refine bu e3 (by decide) (by decide) fun way S4 hway e4 _ l4=> ?_
 symm
 refine dF ?_
 dsimp only
 refine bf (fun c=> ?_) (fun c=> ?_)
 ·symm
  refine⟨by show 1<=sizeLine;decide,?_⟩
  refine fin [.wait z t2] _ (fun r hr=> ?_) (by simp) (by simp) e4
  rw[List.mem_singleton.mp hr]
  exact⟨ho,hz,ht2⟩
 ·symm
  refine gV 4 (deep:=2) e4 hi hj (e4.keep _ _ hi hw) (e4.keep _ _ hj hb) lw lb (by decide) fun t3 S5 h3 h4 e5 _ l5=> ?_
  symm
  refine⟨by show 2<=sizeLine;decide,?_⟩
  symm
  refine⟨by show 3<=sizeLine;decide,?_⟩
  symm
  refine⟨by show 2<=sizeLine;decide,?_⟩
  symm
  have hw3:∃g:Nat,(g=at_\/g=at_+3)/\i3 ([.int at_,.int ((at_:Int)+3)]:List D) ((way:Int)-1)=some (.int (g:Nat)):=by
   have:=of_decide_eq_false c
   rcases way with _|_|_|way
   ·exact absurd rfl this
   ·exact⟨at_,.inl rfl,rfl⟩
   ·exact⟨at_+3,.inr rfl,rfl⟩
   ·omega
  obtain⟨g,hg',hga⟩:=hw3
  refine dE aC hga ?_
  symm
  refine⟨by show 2<=sizeLine;decide,?_⟩
  symm
  refine⟨by show 3<=sizeLine;decide,?_⟩
  refine fin [.unl (.no t3) (at_+3),.wait z t2,.go g] _ (fun r hr=> ?_) (by simp) (by simp) e5.app
  simp only[List.mem_cons,List.not_mem_nil,or_false] at hr
  have hl:([.unl (.no t3) (at_+3),.wait z t2,.go g]:List Rw).length=3:=rfl
  rcases hr with rfl|rfl|rfl
  ·exact⟨⟨h3,by show t3.dep+1<=4;omega⟩,by rw[hl];exact Nat.le_refl _⟩
  ·exact⟨ho,hz,ht2⟩
  ·show g<=at_+3
   omega
def cO(g:Str×Str):D:=.tup [.str g.1,.str g.2]
theorem vL{gs:List (Str×Str)}:∀d∈gs.map cO,(∀k,d≠.ref k)/\bI 0 d=true:=fun d hd=>by
 obtain⟨a,_,rfl⟩:=List.mem_map.mp hd
 exact⟨fun k z=>(nomatch z),rfl⟩
theorem zD{gs:List (Str×Str)}{m:Nat}:∀d∈gs.map cO,bI m d=true:=fun d hd=>by
 obtain⟨a,_,rfl⟩:=List.mem_map.mp hd
 rfl
theorem Dj{S S0:az}{k g t i:Nat}{sc:Sc}{Q:Res->az->Prop}{n:Nat}(x:Ex k S0 S)(hg:g≠k)(ht:t≠k)(hi:i≠k)(gg:S[g]?=some (.lst (sc.gs.map cO)))(gt:S[t]?=some (.lst (sc.ps.map D.str)))(gw:S[i]?=some (.lst (sc.ws.map D.str)))
  (g0:0<sc.gs.length) (lg:sc.gs.length<1000) (lt:sc.ps.length<900) (lw:sc.ws.length<1000)
  (h:∀(r:Rw) (S':az),r.Ok sc n->Ex k S0 S'->Ex k S S'->S'.length=S.length->Q (.d r.d) S'):Fn ij [.ref k,.ref g,.ref t,.ref i] S Q:=by
 have y:Ex k S S:=by obtain⟨a,b,c,hh⟩:=x.pot;exact Ex.refl hh
 refine bE ?_
 unfold uQ
 symm
 refine dW y hg gg (by simpa using g0) (by simpa using lg) vL zD fun v S1 hv e1 _ l1=> ?_
 obtain⟨⟨rm,dd⟩,hm,rfl⟩:=List.mem_map.mp hv
 dsimp only
 refine eO rfl (aq (aZ (aq (aZ (bz ?_)))))
 symm
 refine uW ?_
 symm
 refine⟨by decide,?_⟩
 symm
 refine bD (e1.keep _ _ ht gt) ?_
 refine⟨⟨rfl,rfl,trivial,by simp only[lQm,List.length_cons,List.length_nil];exact Nat.le_trans (show 0+1+sc.ps.length<=1000 by omega) (by decide)⟩,?_⟩
 symm
 have hnr:∀d∈([.non]++sc.ps.map D.str:List D),(∃o:Option Str,d=CM o/\∀z,o=some z->z∈sc.ps):=fun d hd=>by
  rcases mQa.mp hd with hd|hd
  ·rw[List.mem_singleton.mp hd]
   exact⟨none,rfl,fun z hz=>by cases hz⟩
  ·obtain⟨a,ha,rfl⟩:=List.mem_map.mp hd
   exact⟨some a,rfl,fun z hz=>by cases hz;exact ha⟩
 have hnr2:∀(m:Nat),∀d∈([.non]++sc.ps.map D.str:List D),(∀k,d≠.ref k)/\bI m d=true:=fun m d hd=>by
  obtain⟨o,rfl,_⟩:=hnr d hd
  cases o <;>exact⟨fun k z=>(nomatch z),rfl⟩
 refine dW (i:=S1.length) (e1.app (G:= [O.lst ([.non]++sc.ps.map D.str)])) (by have:=e1.lt;omega) aC (by simp) (by simp;omega) (hnr2 0) (fun d hd=>(hnr2 _ d hd).2) fun v2 S2 hv2 e2 _ l2=> ?_
 obtain⟨o,rfl,ho⟩:=hnr v2 hv2
 symm
 refine⟨by decide,?_⟩
 symm
 refine gV 4 (deep:=1) (bs:= []) (e2.app (G:= [O.lst []])) hi (j:=S2.length) (by have:=e2.lt;omega) (aM (e2.keep _ _ hi gw)) aC lw (by decide) (by decide) fun t3 S3 h3 h4 e3 _ l3=> ?_
 symm
 refine⟨by show 5<=sizeLine;decide,?_⟩
 have hsub:t3.Ok sc.ws sc.bs:=by
  have gen:∀t:Tr,t.Ok sc.ws []->t.Ok sc.ws sc.bs:=by
   intro t
   induction t with
   |num n=>exact id
   |word x=>exact id
   |waits b=>intro z;exact absurd z (by simp[Tr.Ok])
   |no t ih=>exact ih
   |two o a b iha ihb=>exact fun z=>⟨z.1,iha z.2.1,ihb z.2.2⟩
  exact gen t3 h3
 refine jy (d:=(Rw.do_ o rm dd t3).d) e3 x.lt (fun k z=>(nomatch z)) (cT (Rw.low _)) fun a b c=> ?_
 exact h (.do_ o rm dd t3) _ ⟨ho,hm,hsub,by omega⟩ x.set y.set (by simp)
end W28
namespace DL
open PySem PySem.Spec L2
theorem rX{Γ:cx}{S:az}{f:bq}{g:d_}{Q:D->az->Prop}(h:E f Γ S fun x S1=>∃k ds0,x=.ref k/\S1[k]?=some (.lst ds0)/\E g Γ S1 fun p S2=>∃ds,S2[k]?=some (.lst ds)/\(p.2.isM=true/\ds.length+p.1.length<=sizeLine)/\Q .non (S2.set k (.lst (ds++p.1)))):E (oh f g) Γ S Q:=by
 obtain⟨x,S1,e1,k,ds0,rfl,h1,p,S2,e2,ds,h2,h3,q⟩:=h
 exact⟨_,_,by unfold oh;rw[e1];simp only[Option.bind_some,e2,h1,h2];rw[if_pos h3],q⟩
theorem AU{Γ:cx}{S:az}{f g:bq}{Q:D->az->Prop}(h:E f Γ S fun d S1=>∃k,d=.bl k/\if k=true then E g Γ S1 Q else Q (.bl false) S1):E (wH f g) Γ S Q:=by
 obtain⟨d,S1,e1,k,rfl,q⟩:=h
 cases k with
 |true=>obtain⟨j,S2,e2,q⟩:=(q:E g Γ S1 Q);exact⟨j,S2,by unfold wH;rw[e1];exact e2,q⟩
 |false=>exact⟨_,S1,by unfold wH;rw[e1];rfl,q⟩
theorem dZ{ds:List D}{y:D}{Q:List D×D->Prop}(h:ds.length<sizeLine)(q:Q (ds++ [y],.non)):Op (eY ds [y]) Q:=⟨_,by simp only[eY];rw[if_pos h],q⟩
end DL
namespace W28
open PySem PySem.Spec L2 DL
def eK:List Str:= ["given"]
theorem oE{Γ:cx}{S:az}{i j l:Nat}{w m:Int}{ds:List D}{Q:Bool->az->Prop}(hi:Γ[i]?=some (some (.int w)))(hj:Γ[j]?=some (some (.ref l)))(hS:S[l]?=some (.lst ds))(q:∀c,(c=true->0<ds.length)->Q c S):
  E (gf (aE (ay zL (af i) (cF (.int m)))) (aE (cW (bc (af j))))) Γ S Q:=by
 refine sX (fw (xJ (dM hi (E7 (DP ?_)))))
 refine bf (fun c=> ?_) fun c=>q false fun z=>(nomatch z)
 refine fw (yz (qA (dM hj (bD hS ⟨⟨rfl,hS⟩,q _ fun z=> ?_⟩))))
 cases ds with
 |nil=>cases z
 |cons a b=>simp
theorem oG{Γ:cx}{S:az}{i j l:Nat}{w m:Int}{ds:List D}{Q:Bool->az->Prop}(hi:Γ[i]?=some (some (.int w)))(hj:Γ[j]?=some (some (.ref l)))(hS:S[l]?=some (.lst ds))(q:∀c,(c=true->0<ds.length)->Q c S):
  E (gf (aE (ay (eC false) (af i) (cF (.int m)))) (aE (cW (bc (af j))))) Γ S Q:=by
 refine sX (fw (xJ (dM hi (E7 (dF ?_)))))
 refine bf (fun c=> ?_) fun c=>q false fun z=>(nomatch z)
 refine fw (yz (qA (dM hj (bD hS ⟨⟨rfl,hS⟩,q _ fun z=> ?_⟩))))
 cases ds with
 |nil=>cases z
 |cons a b=>simp
theorem C8{Γ:cx}{S:az}{i:Nat}{w m:Int}{Q:Bool->az->Prop}(hi:Γ[i]?=some (some (.int w)))(q:∀c,Q c S):E (aE (ay (eC false) (af i) (cF (.int m)))) Γ S Q:=fw (xJ (dM hi (E7 (dF (q _)))))
theorem CT{Γ:cx}{S:az}{i j:Nat}{m s:Str}{w n:Int}{Q:D->az->Prop}(hi:Γ[i]?=some (some (.str m)))(hj:Γ[j]?=some (some (.int w)))(q:∀b:Nat,b<=1->Q (.int b) S):
  E (ud intOfD (ae (wH (ay (eC false) (af i) (cF (.str s))) (ay (eC false) (af j) (cF (.int n)))) ai)) Γ S Q:=by
 refine G_ (DM (AU (xJ (dM hi (E7 (gI ⟨_,rfl,?_⟩))))))
 have fin:∀b:Bool,E ai Γ S fun ds S2=>Op (intOfD (.bl b::ds)) fun d=>Q d S2:=fun b=>Fv (by
  cases b with
  |true=>exact⟨_,rfl,q 1 (by omega)⟩
  |false=>exact⟨_,rfl,q 0 (by omega)⟩)
 refine bf (fun c=> ?_) (fun c=> ?_)
 ·exact xJ (dM hj (E7 (dF (fin _))))
 ·exact fin false
theorem C1{S S0:az}{k t b g:Nat}{manner:Str}{things bells:List Str}{goals:List (Str×Str)}{Q:Res->az->Prop}(x:Ex k S0 S)(nt:t≠k)(nb:b≠k)(ng:g≠k)(gt:S[t]?=some (.lst (things.map D.str)))(gb:S[b]?=some (.lst (bells.map D.str)))(gg:S[g]?=some (.lst (goals.map cO)))
  (lt:things.length<500) (lb:bells.length<500) (lg:goals.length<500)
  (h:∀(rs:List Rw) (S':az),pR ⟨false,things++eK,things,bells,goals,[]⟩ rs->0<rs.length->rs.length<=12->Ex k S0 S'->Ex k S S'->S'.length=S.length->Q (.d (.tup (rs.map Rw.d))) S'):
  Fn iH [.ref k,.tup [.str manner,.ref t,.ref b],.ref g,.int 4] S Q:=by
 have y:Ex k S S:=by obtain⟨a,b,c,hh⟩:=x.pot;exact Ex.refl hh
 have kl:=x.lt
 have tl:=(gQs.mp gt).1
 have bl:=(gQs.mp gb).1
 have gl:=(gQs.mp gg).1
 generalize hsc:(⟨false,things++eK,things,bells,goals,[]⟩:Sc)=sc at h
 have so:sc.own=false:=by rw[←hsc]
 have sw:sc.ws=things++eK:=by rw[←hsc]
 have sp:sc.ps=things:=by rw[←hsc]
 have sb:sc.bs=bells:=by rw[←hsc]
 have sg:sc.gs=goals:=by rw[←hsc]
 refine bE ?_
 unfold qt
 symm
 refine eO rfl (aq (aZ (aq (aZ (aq (aZ (bz ?_)))))))
 symm
 refine uW ?_
 symm
 refine bD gt ?_
 symm
 refine⟨by decide,?_⟩
 refine⟨⟨rfl,rfl,gt,by simp only[lQm,List.length_cons,List.length_nil];exact Nat.le_trans (show things.length+(0+1)<=1000 by omega) (by decide)⟩,?_⟩
 symm
 refine⟨by decide,?_⟩
 have ew:things.map D.str++ [D.str "given"]=sc.ws.map D.str:=by rw[sw];simp[eK]
 rw[ew]
 have e0:Ex k S (S++ [O.lst (sc.ws.map D.str)]++ [O.lst []]):=y.app.app
 generalize hr:S.length+1=r
 have hlen0:(S++ [O.lst (sc.ws.map D.str)]).length=r:=by simp[hr]
 rw[hlen0]
 have iw:(S++ [O.lst (sc.ws.map D.str)]++ [O.lst []])[S.length]?=some (.lst (sc.ws.map D.str)):=aM aC
 have ir:(S++ [O.lst (sc.ws.map D.str)]++ [O.lst []])[r]?=some (.lst []):=by rw[←hlen0];exact aC
 have il:(S++ [O.lst (sc.ws.map D.str)]++ [O.lst []]).length=r+1:=by simp[←hr]
 generalize (S++ [O.lst (sc.ws.map D.str)]++ [O.lst []])=S1 at e0 iw ir il⊢
 refine bQ (fY ?_)
 symm
 refine bu e0 (by decide) (by decide) fun many S2 hmany e2 e2' l2=> ?_
 symm
 refine⟨_,rfl,⟨by omega,by omega⟩,?_⟩
 have nr:r≠k:=by omega
 have nw:S.length≠k:=by omega
 let Inv:Nat->cx->az->Prop:=fun n Γ' S'=>∃(o9 o10 o11:Option D) (rs:List Rw),Γ'= [some (.ref k),some (.tup [.str manner,.ref t,.ref b]),some (.ref g),some (.int 4),some (.str manner),some (.ref t),some (.ref b),some (.ref S.length),some (.ref r),o9,o10,o11]∧
  Ex k S S'/\S'[S.length]?=some (.lst (sc.ws.map D.str))/\S'[r]?=some (.lst (rs.map Rw.d))/\rs.length<=3*n/\n<=rs.length/\n<=4/\∀q∈rs,q.Ok sc rs.length
 refine⟨Inv,⟨_,_,_,[],rfl,e2,e2'.keep _ _ nw iw,e2'.keep _ _ nr ir,by simp,by simp,by omega,by simp⟩,fun _ _ _ _=>trivial,?_,?_⟩
 ·rintro n d Γ' S3 hd ⟨o9,o10,o11,rs,rfl,e3,hw3,hr3,hl1,hl2,hn4,hok⟩
  have hn4':n<4:=by
   have:=(gQs.mp hd).1
   simp only[ie,lQm,List.length_range] at this
   omega
  refine aZ ?_
  symm
  refine bu e3 (by decide) (by decide) fun way S4 hway e4 e4' l4=> ?_
  dsimp only
  have hw4:=e4'.keep _ _ nw hw3
  have hr4:=e4'.keep _ _ nr hr3
  have gt4:=e4.keep _ _ nt gt
  have gb4:=e4.keep _ _ nb gb
  have gg4:=e4.keep _ _ ng gg
  rw[←sp] at gt4
  rw[←sb] at gb4
  rw[←sg] at gg4
  have more:∀(ms:List Rw) (o11':Option D) (S5:az),Ex k S S5->S5[S.length]?=some (.lst (sc.ws.map D.str))->S5[r]?=some (.lst (rs.map Rw.d++ms.map Rw.d))->1<=ms.length->ms.length<=3->(∀q∈ms,q.Ok sc (rs.length+ms.length))→
    Inv (n+1) [some (.ref k),some (.tup [.str manner,.ref t,.ref b]),some (.ref g),some (.int 4),some (.str manner),some (.ref t),some (.ref b),some (.ref S.length),some (.ref r),some d,some (.int way),o11'] S5:=by
   intro ms o11' S5 e5 h1 h2 h3 h4 h5
   refine⟨_,_,_,rs++ms,rfl,e5,h1,by rw[h2,List.map_append],by rw[lQa];omega,by rw[lQa];omega,by omega,fun q hq=> ?_⟩
   rw[lQa]
   rcases mQa.mp hq with hq|hq
   ·exact(hok q hq).mono (by omega)
   ·exact h5 q hq
  have small:∀m:Nat,m<=100->m<sizeLine:=fun m hm=>Nat.lt_of_le_of_lt hm (by decide)
  have l9:rs.length<=9:=by omega
  have lr:(rs.map Rw.d).length=rs.length:=by simp
  have sok:∀{t':Tr},t'.Ok sc.ws sc.bs->t'.dep<=3->Am sc t':=fun h1 h2=>⟨h1,by omega⟩
  have lw':sc.ws.length<1000:=by rw[sw];simp[eK];omega
  have lb':sc.bs.length<1000:=by rw[sb];omega
  have lp':sc.ps.length<900:=by rw[sp];omega
  have lg':sc.gs.length<1000:=by rw[sg];omega
  refine eZ (oE rfl rfl gb4 fun c hc=>bf (fun c1=> ?_) (fun c1=> ?_))
  ·
   refine fq (rX ?_)
   symm
   refine⟨_,_,rfl,hr4,?_⟩
   symm
   refine bD hr4 ?_
   symm
   rw[lr]
   refine Bf (sc:=sc) e4 nw nb hw4 gb4 lw' lb' (by simpa using hc c1) (by rw[sw];simp[eK]) so fun ms S5 h1 h1' h2 e5 e5' l5=> ?_
   dsimp only
   have hr5:=e5'.keep _ _ nr hr4
   have hlen:=ms.length
   refine⟨_,hr5,⟨rfl,?_⟩,?_⟩
   ·simp only[lQm]
    exact nQl (small _ (by omega))
   ·exact more ms _ _ (e5.put (by omega) kl) (d0 (by omega) (e5'.keep _ _ nw hw4)) (cp hr5) h1' h2 h1
  refine eZ (oE rfl rfl gb4 fun c hc=>bf (fun c1=> ?_) (fun c1=> ?_))
  ·refine bQ (A3 ?_)
   symm
   refine⟨by decide,?_⟩
   refine CT rfl rfl fun v hv=> ?_
   have hc2:∃(f:Str->Rw) (s:Str),(∀z,(f z).d=.tup [.str s,.str z])/\(∀z n,z∈sc.bs->(f z).Ok sc n)/\i3 ([.str "call",.str "all"]:List D) (v:Int)=some (.str s):=by
    rcases v with _|_|v
    ·exact⟨.call,"call",fun _=>rfl,fun z n hz=>⟨so,hz⟩,rfl⟩
    ·exact⟨.all,"all",fun _=>rfl,fun z n hz=>⟨so,hz⟩,rfl⟩
    ·omega
   obtain⟨f,s,hf,hfo,hs⟩:=hc2
   refine dE aC hs ?_
   refine fq (hU ?_)
   symm
   refine⟨_,_,rfl,aM hr4,?_⟩
   symm
   refine dW (e4.app (G:= [O.lst [.str "call",.str "all"]])) nb (aM gb4) (hc c1) (by simp;omega) dk eT fun v2 S5 hv2 e5 e5' l5=> ?_
   obtain⟨z,hz,rfl⟩:=List.mem_map.mp hv2
   symm
   refine⟨by show 2<=sizeLine;decide,?_⟩
   symm
   have hr5:=e5'.keep _ _ nr (aM hr4)
   refine⟨_,hr5,dZ (small _ (by rw[lr];omega)) ?_⟩
   refine more [f z] _ _ (e5.put (by omega) kl) (d0 (by omega) (e5'.keep _ _ nw (aM hw4))) ?_ (by simp) (by simp) fun q' hq'=>by rw[List.mem_singleton.mp hq'];exact hfo _ _ hz
   rw[cp hr5]
   simp[hf]
  refine eZ (oG rfl rfl gg4 fun c hc=>bf (fun c1=> ?_) (fun c1=> ?_))
  ·refine fq (hU ?_)
   symm
   refine⟨_,_,rfl,hr4,?_⟩
   symm
   refine Dj (n:=rs.length+1) (sc:=sc) e4 ng nt nw gg4 gt4 hw4 (by simpa using hc c1) lg' lp' lw' fun q S5 h1 e5 e5' l5=> ?_
   symm
   have hr5:=e5'.keep _ _ nr hr4
   refine⟨_,hr5,dZ (small _ (by rw[lr];omega)) ?_⟩
   exact more [q] _ _ (e5.put (by omega) kl) (d0 (by omega) (e5'.keep _ _ nw hw4)) (cp hr5) (by simp) (by simp) fun q' hq'=>by rw[List.mem_singleton.mp hq'];exact h1
  refine eZ (C8 rfl fun c=>bf (fun c1=> ?_) (fun c1=> ?_))
  ·refine bQ (fq (hU ?_))
   symm
   refine⟨_,_,rfl,hr4,?_⟩
   symm
   refine gV 4 (deep:=2) e4 nw nb hw4 gb4 lw' lb' (by decide) fun t3 S5 h3 h4 e5 e5' l5=> ?_
   symm
   have hr5:=e5'.keep _ _ nr hr4
   refine bD hr5 ?_
   symm
   refine⟨by show 3<=sizeLine;decide,?_⟩
   symm
   refine⟨_,hr5,dZ (small _ (by rw[lr];omega)) ?_⟩
   dsimp only
   refine fq (hU ?_)
   symm
   refine⟨_,_,rfl,cp hr5,?_⟩
   symm
   refine bu (e5.put (r:=r) (by omega) kl) (by decide) (by decide) fun v S6 hv e6 e6' l6=> ?_
   symm
   refine⟨by show 2<=sizeLine;decide,?_⟩
   symm
   have hr6:=e6'.keep _ _ nr (cp hr5)
   refine⟨_,hr6,dZ (small _ (by simp;omega)) ?_⟩
   refine more [.unl t3 (rs.length+2),.tell (.num v)] _ _ (e6.put (by omega) kl) (d0 (by omega) (e6'.keep _ _ nw (d0 (by omega) (e5'.keep _ _ nw hw4)))) ?_ (by simp) (by simp) fun q hq=> ?_
   ·rw[cp hr6]
    simp[Rw.d,Tr.d]
   ·simp only[List.mem_cons,List.not_mem_nil,or_false] at hq
    rcases hq with rfl|rfl
    ·exact⟨sok h3 (by omega),by show rs.length+2<=rs.length+2;omega⟩
    ·exact⟨so,by show v<=9;omega,by show 1<=4;omega⟩
  refine eZ (oE rfl rfl gt4 fun c hc=>bf (fun c1=> ?_) (fun c1=> ?_))
  ·refine fq (hU ?_)
   symm
   refine⟨_,_,rfl,hr4,?_⟩
   symm
   refine dW e4 nt gt4 (hc c1) (by simp;omega) dk eT fun v S5 hv e5 e5' l5=> ?_
   obtain⟨z,hz,rfl⟩:=List.mem_map.mp hv
   symm
   refine gV 4 (deep:=2) e5 nw nb (e5'.keep _ _ nw hw4) (e5'.keep _ _ nb gb4) lw' lb' (by decide) fun t3 S6 h3 h4 e6 e6' l6=> ?_
   symm
   refine⟨by show 3<=sizeLine;decide,?_⟩
   symm
   have hr6:=e6'.keep _ _ nr (e5'.keep _ _ nr hr4)
   refine⟨_,hr6,dZ (small _ (by rw[lr];omega)) ?_⟩
   exact more [.put z t3] _ _ (e6.put (by omega) kl) (d0 (by omega) (e6'.keep _ _ nw (e5'.keep _ _ nw hw4))) (cp hr6) (by simp) (by simp) fun q' hq'=>by rw[List.mem_singleton.mp hq'];exact⟨hz,sok h3 (by omega)⟩
  ·refine fq (hU ?_)
   symm
   refine⟨_,_,rfl,hr4,?_⟩
   symm
   refine gV 4 (deep:=1) e4 nw nb hw4 gb4 lw' lb' (by decide) fun t3 S6 h3 h4 e6 e6' l6=> ?_
   symm
   refine⟨by show 2<=sizeLine;decide,?_⟩
   symm
   have hr6:=e6'.keep _ _ nr hr4
   refine⟨_,hr6,dZ (small _ (by rw[lr];omega)) ?_⟩
   exact more [.tell t3] _ _ (e6.put (by omega) kl) (d0 (by omega) (e6'.keep _ _ nw hw4)) (cp hr6) (by simp) (by simp) fun q' hq'=>by rw[List.mem_singleton.mp hq'];exact⟨so,sok h3 (by omega)⟩
 ·rintro Γ' S3 ⟨o9,o10,o11,rs,rfl,e3,hw3,hr3,hl1,hl2,hn4,hok⟩
  have hlen:(ie 0 (1+(many:Int))).length=many+1:=by simp only[ie,lQm,List.length_range];omega
  rw[hlen] at hl1 hl2 hn4
  symm
  refine bD hr3 ?_
  refine⟨rfl,?_⟩
  dsimp only
  refine jy e3 x.lt (fun k z=>(nomatch z)) (by simp only[bI];exact aO fun q _=>cT q.low) fun a b c=> ?_
  exact h rs _ hok (by omega) (by omega) x.set y.set (by simp)
end W28
namespace DL
open PySem PySem.Spec L2
theorem Hg{Γ' Γ0:cx}{d:D}(h:Γ'.set 0 none=Γ0.set 0 none):Γ'.set 0 (some d)=Γ0.set 0 (some d):=by
 have:=congrArg (fun Γ:cx=>Γ.set 0 (some d)) h
 simpa using this
theorem wD{Γ:cx}{S:az}{js:List (Option Nat)}{f:d_}{elt:bq}{Q:List D->az->Prop}(F:D->D)(h:E f Γ S fun p S1=>p.2.stays S1 p.1/\p.1.length<=1000/\(∀d∈p.1,E elt ((kz js Γ).set 0 (some d)) S1 fun y S2=>y=F d/\S2=S1)/\Q (p.1.map F) S1):
  E (cu js (i6 f) (bR 0) cM elt) Γ S Q:=by
 refine i8 (q_ (h.mono fun p S1 hp=> ?_))
 obtain⟨hs,hl,he,q⟩:=hp
 refine⟨fun n Γ' S' acc=>S'=S1/\acc=(p.1.take n).map F/\Γ'.set 0 none=(kz js Γ).set 0 none,⟨rfl,rfl,rfl⟩,fun n Γ' S' acc h=>by rw[h.1];exact hs,fun n d Γ' S' acc hd h=> ?_,fun Γ' S' acc h=> ?_⟩
 ·obtain⟨rfl,rfl,h3⟩:=h
  refine aZ (xI ?_)
  rw[if_pos rfl,Hg h3]
  refine(he d (mQg hd)).mono fun y S2 qr=> ?_
  obtain⟨e1,e2⟩:=qr
  subst e1 e2
  have hn:=(gQs.mp hd).1
  refine⟨?_,rfl,?_,by simp⟩
  ·rw[lQm,List.length_take]
   exact a8 (by omega)
  ·rw[List.take_add_one,hd]
   simp
 ·obtain⟨rfl,rfl,_⟩:=h
  rw[List.take_length]
  exact q
end DL
namespace W28
open PySem PySem.Spec L2 DL
def qY(p:Str×Nat):D:=.tup [.str p.1,.int p.2]
def BI(p:Str×Str):D:=.tup [.str p.1,.str p.2]
def g6(p:Str×List Rw):D:=.tup [.str p.1,.tup (p.2.map Rw.d)]
theorem yD{Γ:cx}{S S0:az}{k j l:Nat}{m:Nat}{ws:List Str}{Q:List D->az->Prop}(x:Ex k S0 S)(h0:Γ.getD 0 none=some (.ref k))(hj:Γ[j]?=some (some (.ref l)))(hl:S[l]?=some (.lst (ws.map D.str)))(nl:l≠k)(m0:0<m)(m1:m<1000)(lw:ws.length<=1000)
  (h:∀(ps:List (Str×Nat)) (S':az),ps.map (·.1)=ws->(∀p∈ps,p.2<m)->Ex k S0 S'->Ex k S S'->S'.length=S.length->Q (ps.map qY) S'):
  E (cu [none,some 0] (i6 (bc (af j))) (bR 0) cM (aX (ae (af 0) (ae (ao au (ae (af 1) (ae (cF (.int m)) ai))) ai)))) Γ S Q:=by
 have y:Ex k S S:=by obtain⟨a,b,c,hh⟩:=x.pot;exact Ex.refl hh
 refine i8 (q_ (qA (dM hj (bD hl ?_))))
 refine⟨fun n Γ' S' acc=>∃(o:Option D) (ps:List (Str×Nat)),Γ'= [o,some (.ref k)]/\Ex k S0 S'/\Ex k S S'/\S'.length=S.length/\ps.map (·.1)=ws.take n/\(∀p∈ps,p.2<m)/\acc=ps.map qY,⟨none,[],by show [none,Γ.getD 0 none]=_;rw[h0],x,y,rfl,rfl,by simp,rfl⟩,?_,?_,?_⟩
 ·rintro n Γ' S' acc ⟨o,ps,_,_,e,_⟩
  exact e.keep _ _ nl hl
 ·rintro n d Γ' S' acc hd ⟨o,ps,rfl,e0,e1,el,h1,h2,rfl⟩
  obtain⟨z,hz,rfl⟩:∃z,ws[n]?=some z/\d=.str z:=by
   rw[gQm] at hd
   obtain⟨z,hz,e⟩:=oQm.mp hd
   exact⟨z,hz,e.symm⟩
  symm
  rw[if_pos rfl]
  symm
  refine bu e0 (by omega) (by omega) fun v S2 hv e2 e2' l2=> ?_
  symm
  refine⟨by show 2<=sizeLine;decide,?_⟩
  have hn:=(gQs.mp hz).1
  have hlen:ps.length=n:=by
   have:=congrArg List.length h1
   rw[lQm,List.length_take] at this
   omega
  refine⟨?_,_,ps++ [(z,v)],rfl,e2,e1.trans e2',by omega,?_,fun p hp=> ?_,by simp[qY]⟩
  ·rw[lQm]
   exact a8 (by omega)
  ·rw[List.map_append,h1,List.take_add_one,hz]
   rfl
  ·rcases mQa.mp hp with hp|hp
   ·exact h2 p hp
   ·rw[List.mem_singleton.mp hp]
    show v<m
    omega
 ·rintro Γ' S' acc ⟨o,ps,rfl,e0,e1,el,h1,h2,rfl⟩
  exact h ps S' (by rw[h1];simp) h2 e0 e1 el
theorem Dx{Γ:cx}{S S0:az}{k j l:Nat}{ws:List Str}{Q:List D->az->Prop}(x:Ex k S0 S)(h0:Γ.getD 0 none=some (.ref k))(hj:Γ[j]?=some (some (.ref l)))(hl:S[l]?=some (.lst (ws.map D.str)))(nl:l≠k)(lw:ws.length<=1000)
  (h:∀(ps:List (Str×Str)) (S':az),ps.map (·.1)=ws->(∀p∈ps,p.2="row" \/p.2="turns")->Ex k S0 S'->Ex k S S'->Q (ps.map BI) S'):
  E (cu [none,some 0] (i6 (bc (af j))) (bR 0) cM (aX (ae (af 0) (ae (ay aI (bT (bp (ae (cF (.str "row")) (ae (cF (.str "turns")) ai)))) (ao au (ae (af 1) (ae (cF (.int 2)) ai)))) ai)))) Γ S Q:=by
 have y:Ex k S S:=by obtain⟨a,b,c,hh⟩:=x.pot;exact Ex.refl hh
 refine i8 (q_ (qA (dM hj (bD hl ?_))))
 refine⟨fun n Γ' S' acc=>∃(o:Option D) (ps:List (Str×Str)),Γ'= [o,some (.ref k)]/\Ex k S0 S'/\Ex k S S'/\ps.map (·.1)=ws.take n/\(∀p∈ps,p.2="row" \/p.2="turns")/\acc=ps.map BI,⟨none,[],by show [none,Γ.getD 0 none]=_;rw[h0],x,y,rfl,by simp,rfl⟩,?_,?_,?_⟩
 ·rintro n Γ' S' acc ⟨o,ps,_,_,e,_⟩
  exact e.keep _ _ nl hl
 ·rintro n d Γ' S' acc hd ⟨o,ps,rfl,e0,e1,h1,h2,rfl⟩
  obtain⟨z,hz,rfl⟩:∃z,ws[n]?=some z/\d=.str z:=by
   rw[gQm] at hd
   obtain⟨z,hz,e⟩:=oQm.mp hd
   exact⟨z,hz,e.symm⟩
  symm
  rw[if_pos rfl]
  symm
  refine⟨by decide,?_⟩
  symm
  refine bu (e0.app (G:= [O.lst [.str "row",.str "turns"]])) (by decide) (by decide) fun v S2 hv e2 e2' l2=> ?_
  dsimp only
  have hs:∃s:Str,(s="row" \/s="turns")/\i3 ([.str "row",.str "turns"]:List D) (v:Int)=some (.str s):=by
   rcases v with _|_|v
   ·exact⟨"row",.inl rfl,rfl⟩
   ·exact⟨"turns",.inr rfl,rfl⟩
   ·omega
  obtain⟨s,hs,ha⟩:=hs
  refine dE (e2'.keep _ _ (by have:=e0.lt;omega) aC) ha ?_
  symm
  refine⟨by show 2<=sizeLine;decide,?_⟩
  have hn:=(gQs.mp hz).1
  have hlen:ps.length=n:=by
   have:=congrArg List.length h1
   rw[lQm,List.length_take] at this
   omega
  refine⟨?_,_,ps++ [(z,s)],rfl,e2,(e1.app).trans e2',?_,fun p hp=> ?_,by simp[BI]⟩
  ·rw[lQm]
   exact a8 (by omega)
  ·rw[List.map_append,h1,List.take_add_one,hz]
   rfl
  ·rcases mQa.mp hp with hp|hp
   ·exact h2 p hp
   ·rw[List.mem_singleton.mp hp]
    exact hs
 ·rintro Γ' S' acc ⟨o,ps,rfl,e0,e1,h1,h2,rfl⟩
  exact h ps S' (by rw[h1];simp) h2 e0 e1
theorem Rw.Ok.sub{a:Bool}{ws ps bs ts:List Str}{gs gs':List (Str×Str)}{n:Nat}{r:Rw}(h:r.Ok ⟨a,ws,ps,bs,gs,ts⟩ n)(hs:∀g∈gs,g∈gs'):r.Ok ⟨a,ws,ps,bs,gs',ts⟩ n:=by
 cases r with
 |do_ g r d t=>exact⟨h.1,hs _ h.2.1,h.2.2⟩
 |_=>exact h
theorem pR.sub{a:Bool}{ws ps bs ts:List Str}{gs gs':List (Str×Str)}{rs:List Rw}(h:pR ⟨a,ws,ps,bs,gs,ts⟩ rs)(hs:∀g∈gs,g∈gs'):pR ⟨a,ws,ps,bs,gs',ts⟩ rs:=fun r hr=>(h r hr).sub hs
structure Rm where
 name:Str
 manner:Str
 things:List (Str×Nat)
 bells:List (Str×Str)
 deeds:List (Str×List Rw)
def Rm.d(r:Rm):D:=.tup [.str r.name,.str r.manner,.tup (r.things.map qY),.tup (r.bells.map BI),.tup (r.deeds.map g6)]
structure sW(gs:List (Str×Str))(r:Rm):Prop where
 mn:r.manner="at once" \/r.manner="when free"
 tv:∀p∈r.things,p.2<=9
 l1:r.things.length<=6
 l2:r.bells.length<=6
 l3:r.deeds.length<=6
 bv:∀p∈r.bells,p.2="row" \/p.2="turns"
 pr:∀p∈r.deeds,pR ⟨false,r.things.map (·.1)++eK,r.things.map (·.1),r.bells.map (·.1),gs,[]⟩ p.2/\p.2.length<=12
theorem AS(p:Str×List Rw):bI 0 (g6 p)=true:=by
 simp only[g6,bI,bB,Bool.and_true,Bool.true_and]
 exact aO fun r _=>r.low
theorem Rm.low(r:Rm):bI 0 r.d=true:=by
 simp only[Rm.d,bI,bB,Bool.and_true,Bool.true_and,Bool.and_eq_true]
 exact⟨aO fun _ _=>rfl,aO fun _ _=>rfl,aO fun p _=>AS p⟩
end W28
namespace DL
open PySem PySem.Spec L2
theorem Fg{Γ:cx}{S:az}{f:d_}{g:bq}{Q:List D->az->Prop}(h:E f Γ S fun p S1=>E g Γ S1 fun r S2=>∃n:Nat,r=.int n/\(p.2.isM=true/\p.2.stays S2 p.1/\p.1.length*n<=1000/\n<=1)/\Q ((List.replicate n p.1).flatten) S2):E (qS f g) Γ S Q:=by
 obtain⟨p,S1,e1,r,S2,e2,n,rfl,⟨h1,h2,h3,h4⟩,q⟩:=h
 refine⟨_,S2,?_,q⟩
 unfold qS
 rw[e1]
 simp only[Option.bind_some]
 rw[e2]
 simp only[Option.bind_some]
 rw[if_pos ⟨h1,h2,by omega,by omega,by simpa using Nat.le_trans h3 (by decide)⟩]
 simp
end DL
namespace W28
open PySem PySem.Spec L2 DL
theorem B1{S S0:az}{k g m:Nat}{name:Str}{goals:List (Str×Str)}{Q:Res->az->Prop}(x:Ex k S0 S)(ng:g≠k)(nm:m≠k)(gg:S[g]?=some (.lst (goals.map cO)))(gm:S[m]?=some (.lst [.str "at once",.str "when free"]))(lg:goals.length<=100)
  (h:∀(r:Rm) (S':az),r.name=name->sW (goals++r.deeds.map fun p=>(name,p.1)) r->Ex k S0 S'->Ex k S S'->S'.length=S.length->Q (.d r.d) S'):
  Fn iz [.ref k,.str name,.ref g,.ref m,.int 2] S Q:=by
 have y:Ex k S S:=by obtain⟨a,b,c,hh⟩:=x.pot;exact Ex.refl hh
 have kl:=x.lt
 refine bE ?_
 unfold pG
 symm
 refine dW y nm gm (by decide) (by decide) (fun d hd=> ?_) (fun d hd=> ?_) fun mn S1 hmn e1 _ l1=> ?_
 ·simp only[List.mem_cons,List.not_mem_nil,or_false] at hd
  rcases hd with rfl|rfl <;>exact⟨fun k z=>(nomatch z),rfl⟩
 ·simp only[List.mem_cons,List.not_mem_nil,or_false] at hd
  rcases hd with rfl|rfl <;>rfl
 obtain⟨manner,hman,rfl⟩:∃s:Str,(s="at once" \/s="when free")/\mn=.str s:=by
  simp only[List.mem_cons,List.not_mem_nil,or_false] at hmn
  rcases hmn with rfl|rfl
  ·exact⟨_,.inl rfl,rfl⟩
  ·exact⟨_,.inr rfl,rfl⟩
 symm
 refine⟨by decide,?_⟩
 symm
 refine bu (e1.app (G:= [O.lst [.int 1,.int 1,.int 2,.int 0]])) (by decide) (by decide) fun v S2 hv e2 e2' l2=> ?_
 dsimp only
 obtain⟨nt,hnt,ha⟩:∃n:Nat,n<=2/\i3 ([.int 1,.int 1,.int 2,.int 0]:List D) (v:Int)=some (.int n):=by
  rcases v with _|_|_|_|v
  ·exact⟨1,by omega,rfl⟩
  ·exact⟨1,by omega,rfl⟩
  ·exact⟨2,by omega,rfl⟩
  ·exact⟨0,by omega,rfl⟩
  ·omega
 refine dE (e2'.keep _ _ (by have:=e1.lt;omega) aC) ha ?_
 symm
 refine gB e2 (by omega) (by omega) (by decide) fun things S3 _ hth e3 e3' l3=> ?_
 symm
 refine bu (e3.app (G:= [O.lst (things.map D.str)])) (by decide) (by decide) fun nb S4 hnb e4 e4' l4=> ?_
 symm
 refine gB e4 (by omega) (by omega) (by decide) fun bells S5 _ hbe e5 e5' l5=> ?_
 symm
 refine⟨by decide,?_⟩
 have k3:S3.length≠k:=by have:=e3.lt;omega
 have k5:S5.length≠k:=by have:=e5.lt;omega
 have gt:(S5++ [O.lst (bells.map D.str)]++ [O.lst []])[S3.length]?=some (.lst (things.map D.str)):=aM (aM (e5'.keep _ _ k3 (e4'.keep _ _ k3 aC)))
 have gb:(S5++ [O.lst (bells.map D.str)]++ [O.lst []])[S5.length]?=some (.lst (bells.map D.str)):=aM aC
 have hl3:S.length<=S3.length:=e3.len
 have hl5:S.length<=S5.length:=e5.len
 have h35:S3.length<S5.length:=by
  have:=e5'.len
  have:=e4'.len
  simp only[lQa,List.length_cons,List.length_nil] at *
  omega
 have e6:Ex k S (S5++ [O.lst (bells.map D.str)]++ [O.lst []]):=e5.app.app
 generalize hr:S5.length+1=r
 have hlen0:(S5++ [O.lst (bells.map D.str)]).length=r:=by simp[hr]
 rw[hlen0]
 have gr:(S5++ [O.lst (bells.map D.str)]++ [O.lst []])[r]?=some (.lst []):=by rw[←hlen0];exact aC
 generalize (S5++ [O.lst (bells.map D.str)]++ [O.lst []])=S6 at e6 gt gb gr⊢
 have hth':things.length=nt:=by omega
 have hbe':bells.length=nb:=by omega
 refine bQ (fY ?_)
 symm
 refine bu e6 (by decide) (by decide) fun nd S7 hnd e7 e7' l7=> ?_
 symm
 refine gB e7 (by omega) (by omega) (by decide) fun dws S8 _ hdw e8 e8' l8=> ?_
 symm
 have kr:r≠k:=by omega
 let Inv:Nat->cx->az->Prop:=fun n Γ' S'=>∃(o9 o10 o11:Option D) (ds:List (Str×List Rw)),Γ'= [some (.ref k),some (.str name),some (.ref g),some (.ref m),some (.int 2),some (.str manner),some (.ref S3.length),some (.ref S5.length),some (.ref r),o9,o10,o11,none]∧
  Ex k S S'/\S'[S3.length]?=some (.lst (things.map D.str))/\S'[S5.length]?=some (.lst (bells.map D.str))/\S'[r]?=some (.lst (ds.map g6))/\ds.length=n/\(∀p∈ds,pR ⟨false,things++eK,things,bells,goals++ds.map fun p=>(name,p.1),[]⟩ p.2/\p.2.length<=12)
 refine⟨Inv,⟨none,none,none,[],rfl,e8,e8'.keep _ _ k3 (e7'.keep _ _ k3 gt),e8'.keep _ _ k5 (e7'.keep _ _ k5 gb),e8'.keep _ _ kr (e7'.keep _ _ kr gr),rfl,by simp⟩,fun _ _ _ _=>trivial,?_,?_⟩
 ·rintro n d Γ' S9 hd ⟨o9,o10,o11,ds,rfl,e9,gt9,gb9,gr9,hn,hpr⟩
  obtain⟨w,hw,rfl⟩:∃z,dws[n]?=some z/\d=.str z:=by
   rw[gQm] at hd
   obtain⟨z,hz,e⟩:=oQm.mp hd
   exact⟨z,hz,e.symm⟩
  have hn6:n<3:=by
   have:=(gQs.mp hw).1
   omega
  refine aZ ?_
  symm
  refine wD (fun d=>match d with|.tup (a::_)=>.tup [.str name,a]|d=>d) ?_
  symm
  refine bD gr9 ?_
  refine⟨gr9,by simp;omega,fun d hd=> ?_,?_⟩
  ·obtain⟨p,_,rfl⟩:=List.mem_map.mp hd
   symm
   refine ak rfl ?_
   symm
   exact⟨by show 2<=sizeLine;decide,rfl,rfl⟩
  have eh:(ds.map g6).map (fun d=>match d with|.tup (a::_)=>.tup [.str name,a]|d=>d)=(ds.map fun p=>(name,p.1)).map cO:=by
   rw[List.map_map,List.map_map]
   rfl
  rw[eh]
  generalize hh:(ds.map fun p=>(name,p.1))=here
  have lh:here.length=n:=by rw[←hh];simpa using hn
  symm
  refine uW ?_
  symm
  have gg9:=e9.keep _ _ ng gg
  refine bD (aM gg9) ?_
  symm
  refine Fg ?_
  symm
  refine bD aC ?_
  symm
  refine bu (e9.app (G:= [O.lst (here.map cO)])) (by decide) (by decide) fun v2 S10 hv2 e10 e10' l10=> ?_
  symm
  refine dF ?_
  symm
  have k9:S9.length≠k:=by have:=e9.lt;omega
  have g10:=e10'.keep _ _ k9 aC
  obtain⟨q,hq,hqe⟩:∃q:Nat,q<=1/\intOfD [D.bl (decide ((v2:Int)=0))]=some (.int q):=by
   by_cases c:(v2:Int)=0
   ·exact⟨1,by omega,by rw[decide_eq_true c];rfl⟩
   ·exact⟨0,by omega,by rw[decide_eq_false c];rfl⟩
  refine⟨_,hqe,?_⟩
  refine⟨q,rfl,⟨rfl,g10,?_,hq⟩,?_⟩
  ·simp only[lQm]
   have:here.length*q<=here.length*1:=Nat.mul_le_mul_left _ hq
   omega
  obtain⟨some_,hso,hsub,hsl⟩:∃l:List (Str×Str),goals.map cO++(List.replicate q (here.map cO)).flatten=l.map cO/\(∀g∈l,g∈goals++here)/\l.length<=goals.length+10:=by
   rcases q with _|_|q
   ·exact⟨goals,by simp,fun g hg=>List.mem_append_left _ hg,by omega⟩
   ·exact⟨goals++here,by simp,fun g hg=>hg,by rw[lQa];omega⟩
   ·omega
  refine⟨⟨rfl,rfl,e10.keep _ _ ng gg,?_⟩,?_⟩
  ·have:=congrArg List.length hso
   rw[lQa] at this
   rw[this,lQm]
   exact nQl (a8 (by omega))
  rw[hso]
  symm
  refine hU ?_
  symm
  have gr11:(S10++ [O.lst (some_.map cO)])[r]?=some (.lst (ds.map g6)):=aM (e10'.keep _ _ kr (aM gr9))
  refine⟨_,_,rfl,gr11,?_⟩
  symm
  refine⟨by show 3<=sizeLine;decide,?_⟩
  symm
  refine C1 (goals:=some_) (e10.app (G:= [O.lst (some_.map cO)])) k3 k5 (by have:=e10.lt;omega) (aM (e10'.keep _ _ k3 (aM gt9))) (aM (e10'.keep _ _ k5 (aM gb9))) aC (by omega) (by omega) (by omega) fun rs S11 h1 h2 h3 e11 e11' l11=> ?_
  symm
  refine⟨by show 2<=sizeLine;decide,?_⟩
  symm
  have gr12:=e11'.keep _ _ kr gr11
  refine⟨_,gr12,dZ (a8 (by simp;omega)) ?_⟩
  refine⟨_,_,_,ds++ [(w,rs)],rfl,e11.put (by omega) kl,d0 (by omega) (e11'.keep _ _ k3 (aM (e10'.keep _ _ k3 (aM gt9)))),d0 (by omega) (e11'.keep _ _ k5 (aM (e10'.keep _ _ k5 (aM gb9)))),?_,by simp[hn],fun p hp=> ?_⟩
  ·rw[cp gr12]
   simp[g6]
  ·rcases mQa.mp hp with hp|hp
   ·refine⟨(hpr p hp).1.sub fun g hg=> ?_,(hpr p hp).2⟩
    rw[List.map_append,←List.append_assoc]
    exact List.mem_append_left _ hg
   ·rw[List.mem_singleton.mp hp]
    refine⟨h1.sub fun g hg=> ?_,h3⟩
    rw[List.map_append,←List.append_assoc]
    refine List.mem_append_left _ ?_
    rw[hh]
    exact hsub g hg
 ·rintro Γ' S9 ⟨o9,o10,o11,ds,rfl,e9,gt9,gb9,gr9,hn,hpr⟩
  have hn4:ds.length<=3:=by
   rw[hn]
   simp only[lQm]
   omega
  symm
  refine Dx e9 rfl rfl gb9 k5 (by omega) fun bs S10 hb1 hb2 e10 e10'=> ?_
  symm
  refine yD (m:=3) e10 rfl rfl (e10'.keep _ _ k3 gt9) k3 (by decide) (by decide) (by omega) fun ts S11 ht1 ht2 e11 e11' l11=> ?_
  symm
  refine bD (e11'.keep _ _ kr (e10'.keep _ _ kr gr9)) ?_
  refine⟨rfl,?_⟩
  symm
  refine⟨by show 5<=sizeLine;decide,?_⟩
  have lt1:ts.length=things.length:=by rw[←ht1];simp
  have lb1:bs.length=bells.length:=by rw[←hb1];simp
  refine jy (d:=(Rm.mk name manner ts bs ds).d) e11 x.lt (fun k z=>(nomatch z)) (cT (Rm.low _)) fun a b c=> ?_
  refine h ⟨name,manner,ts,bs,ds⟩ _ rfl ⟨hman,fun p hp=>by have:=ht2 p hp;omega,by show ts.length<=6;omega,by show bs.length<=6;omega,by show ds.length<=6;omega,hb2,?_⟩ x.set y.set (by simp)
  intro p hp
  show pR ⟨false,ts.map (·.1)++eK,ts.map (·.1),bs.map (·.1),_,[]⟩ p.2/\_
  rw[ht1,hb1]
  exact hpr p hp
end W28
namespace DL
open PySem PySem.Spec L2
theorem FM{c:iJ}{b:cC}{Q:Out->Prop}(I:Nat->cx->az->Prop)(hc:∀m Γ S,I m Γ S->E c Γ S fun k S1=>if k=true then∃m',m=m'+1/\T b Γ S1 fun o=>match o with|.nx Γ2 S2=>I m' Γ2 S2|_=>False else Q (.nx Γ S1)):
  ∀(n m:Nat) (Γ:cx) (S:az),m<n->I m Γ S->T (BG c b n) Γ S Q
 |0,_,_,_,h,_=>absurd h (Nat.not_lt_zero _)
 | n+1,m,Γ,S,h,hi=>by
   obtain⟨k,S1,e1,q⟩:=hc m Γ S hi
   cases k with
   |false=>exact⟨_,by simp only[BG];rw[e1];rfl,q⟩
   | true=>
     obtain⟨m',rfl,o,e2,q⟩:=(q:∃m',m=m'+1/\T b Γ S1 _)
     cases o with
     | nx Γ2 S2=>
       obtain⟨o,e3,q⟩:=FM I hc n m' Γ2 S2 (by omega) q
       exact⟨o,by simp only[BG];rw[e1];simp only[Option.bind_some,if_true];rw[e2];exact e3,q⟩
     |_=>exact q.elim
theorem B3{Γ:cx}{S:az}{f:d_}{Q:List D->az->Prop}(h:E f Γ S fun p S1=>p.2.isL=true/\∃ss,m_ p.1=some ss/\(p.1.length<=3/\ss.Nodup)/\Q (pO ss p.1) S1):E (uD f) Γ S Q:=by
 obtain⟨p,S1,e1,l,ss,h1,h2,q⟩:=h
 exact⟨_,S1,by unfold uD;rw[e1];simp only[Option.bind_some];rw[if_pos l,h1];simp only[Option.bind_some];rw[if_pos h2],q⟩
theorem zt{α:Type}{f:α->D}{ss:List Str}{xs:List α}(a0:α)(h3:xs.length<=3):∃ys:List α,ys.Perm xs/\pO ss (xs.map f)=ys.map f:=by
 refine⟨Zp.sortBy ss a0 xs,Zp.dQ ss xs h3,?_⟩
 have hl:(pO ss (xs.map f)).length=((Zp.sortBy ss a0 xs).map f).length:=by
  unfold pO
  rw[(Zp.dQ ss (xs.map f) (by simpa using h3)).length_eq,lQm,lQm,(Zp.dQ ss xs h3).length_eq]
 apply List.ext_getElem?
 intro i
 cases e:(pO ss (xs.map f))[i]? with
 | none=>
   rw[List.getElem?_eq_none_iff] at e
   rw[eq_comm,List.getElem?_eq_none_iff]
   omega
 | some d=>
   obtain⟨y,hy,r⟩:=pq (R:=fun(d:D) (a:α)=>d=f a) (ss:=ss) (xs:=xs.map f) (ys:=xs) (d:=.non) (d':=a0) (by simp) (by simpa using h3) (fun i d hd=>by
     rw[gQm] at hd
     obtain⟨y,hy,e⟩:=oQm.mp hd
     exact⟨y,hy,e.symm⟩) i d e
   rw[gQm,hy,r]
   rfl
end DL
namespace W28
open PySem PySem.Spec L2 DL
def aJ(rs:List Rm):List (Str×Str):=rs.flatMap fun r=>r.deeds.map fun p=>(r.name,p.1)
theorem sW.sub{gs gs':List (Str×Str)}{r:Rm}(h:sW gs r)(hs:∀g∈gs,g∈gs'):sW gs' r:={h with pr:=fun p hp=>⟨(h.pr p hp).1.sub hs,(h.pr p hp).2⟩}
theorem yC:∀rs:List Rm,m_ (rs.map Rm.d)=some (rs.map (·.name))
 | []=>rfl
 | r::rs=>by
   show m_ (Rm.d r::rs.map Rm.d)=_
   simp only[Rm.d,m_]
   rw[yC rs]
   rfl
theorem u7{S:az}{Γ:cx}{i j v:Nat}{rs:List Rm}{f:d_}{Q:Out->Prop}{tg:Tag}(hv:v<Γ.length)(hj:Γ[j]?=some (some (.ref i)))(hS:S[i]?=some (.lst []))
  (hf:∀(R:List D×Tag->az->Prop),R (rs.map Rm.d,tg) S->E f Γ S R) (hs:∀o,tg.stays (S.set i o) (rs.map Rm.d)) (nvj:v≠j) (hd:∀r∈rs,r.deeds.length<=6) (hl:rs.length<=3)
  (q:∀o,Q (.nx (Γ.set v o) (S.set i (.lst ((aJ rs).map cO))))):
  T (ig (i6 f) (bR v) (jF (oh (af j) (gC (cu [none,some v] (i6 (bc (ay aI (af v) (cF (.int 4))))) (bR 0) cM (aX (ae (ay aI (af 1) (cF (.int 0))) (ae (ay aI (af 0) (cF (.int 0))) ai)))))))) Γ S Q:=by
 refine fY (q_ (hf _ ?_))
 have si:i<S.length:=(gQs.mp hS).1
 have vget:∀o:Option D,(Γ.set v o)[v]?=some o:=fun o=>List.getElem?_set_self hv
 have jget:∀o:Option D,(Γ.set v o)[j]?=some (some (.ref i)):=fun o=>by rw[List.getElem?_set_ne nvj];exact hj
 refine⟨fun n Γ' S'=>(n=0->Γ'=Γ)/\(∃o,Γ'=Γ.set v o)/\S'=S.set i (.lst ((aJ (rs.take n)).map cO)),⟨fun _=>rfl,?_,?_⟩,fun n Γ' S' h=> ?_,fun n d Γ' S' hd' ⟨_,⟨o,hΓ⟩,hS'⟩=> ?_,fun Γ' S' ⟨h0,⟨o,hΓ⟩,hS'⟩=> ?_⟩
 ·exact⟨Γ[v],by rw[List.set_getElem_self]⟩
 ·apply List.ext_getElem?
  intro x
  rw[List.getElem?_set]
  split
  ·rename_i e
   subst e
   rw[hS]
   rfl
  ·rfl
 ·rw[h.2.2];exact hs _
 ·obtain⟨r,hr,rfl⟩:∃r,rs[n]?=some r/\d=r.d:=by
   rw[gQm] at hd'
   obtain⟨z,hz,e⟩:=oQm.mp hd'
   exact⟨z,hz,e.symm⟩
  subst hΓ hS'
  have hn:=(gQs.mp hr).1
  refine aZ (fq (rX ?_))
  rw[List.set_set]
  refine dM (jget _) ?_
  refine⟨_,_,rfl,cp hS,ue (wD (fun d=>match d with|.tup (a::_)=>.tup [.str r.name,a]|d=>d) ?_)⟩
  refine qA (xJ (dM (vget _) (E7 (ak rfl (c9 ?_)))))
  have hdl:=hd r (mQg hr)
  refine⟨trivial,by simp;omega,fun d hd=> ?_,?_⟩
  ·obtain⟨p,_,rfl⟩:=List.mem_map.mp hd
   have sg:(kz [none,some v] (Γ.set v (some r.d))).set 0 (some (g6 p))= [some (g6 p),some r.d]:=by
    show [some (g6 p),(Γ.set v (some r.d)).getD v none]=_
    rw[List.getD_eq_getElem?_getD,vget]
    rfl
   rw[sg]
   symm
   refine ak rfl ?_
   symm
   refine ak rfl ?_
   symm
   exact⟨by show 2<=sizeLine;decide,rfl,rfl⟩
  ·have lg:∀l:List Rm,(∀r∈l,r.deeds.length<=6)->(aJ l).length<=6*l.length:=by
    intro l
    induction l with
    |nil=>intro _;simp[aJ]
    | cons a l ih=>
      intro h
      have:=ih fun r hr=>h r (List.mem_cons_of_mem _ hr)
      have:=h a (List.mem_cons_self ..)
      simp only[aJ,List.flatMap_cons,lQa,lQm,List.length_cons] at *
      omega
   have lt:=lg (rs.take n) fun r hr=>hd r (List.mem_of_mem_take hr)
   rw[List.length_take] at lt
   refine⟨_,cp hS,⟨rfl,?_⟩,fun z=>absurd z (by omega),⟨_,rfl⟩,?_⟩
   ·simp only[lQm]
    exact nQl (a8 (by omega))
   ·rw[List.set_set,List.take_add_one,hr]
    congr 2
    simp only[aJ,List.flatMap_append,List.map_append,Option.toList_some,List.flatMap_cons,List.flatMap_nil,List.append_nil,List.map_map]
    rfl
 ·subst hΓ hS'
  rw[lQm,List.take_length]
  exact q o
theorem Cu(stem:Str):∀a b:Str,stem++a=stem++b->a=b:=by
 intro a b h
 have h1:(stem++a).cps.toList=(stem++b).cps.toList:=by rw[h]
 have e:∀c:Str,(stem++c).cps.toList=stem.cps.toList++c.cps.toList:=fun c=>by
  show(stem.cps++c.cps).toList=_
  simp
 rw[e,e] at h1
 exact Str.ext' (Array.toList_inj.mp (List.append_cancel_left h1))
theorem y9(stem:Str):(six.map (stem++·)).Nodup:=by
 have base:six.Nodup:=by decide +kernel
 exact List.Pairwise.map (R:=(·≠·)) (S:=(·≠·)) _ (fun a b n e=>n (Cu stem a b e)) base
theorem A8{S S0:az}{k m many:Nat}{Q:Res->az->Prop}(x:Ex k S0 S)(nm:m≠k)(gm:S[m]?=some (.lst [.str "at once",.str "when free"]))(hm:many<=3)
  (h:∀(rs:List Rm) (S':az),(rs.map (·.name)).Nodup->rs.length<=3->(∀r∈rs,sW (aJ rs) r)->Ex k S0 S'->Ex k S S'->S'.length=S.length->Q (.d (.tup (rs.map Rm.d))) S'):
  Fn gG [.ref k,.int many,.ref m,.int 2] S Q:=by
 have y:Ex k S S:=by obtain⟨a,b,c,hh⟩:=x.pot;exact Ex.refl hh
 have kl:=x.lt
 have ml:=(gQs.mp gm).1
 refine bE ?_
 unfold nR
 symm
 refine gB y (by omega) (by omega) (by decide) fun names S1 hp hnl e1 e1' l1=> ?_
 symm
 refine⟨by decide,?_⟩
 have nn:names.Nodup:=by
  obtain⟨l,hp⟩:=hp
  exact(List.nodup_append.mp (hp.nodup_iff.mpr (y9 _))).1
 generalize ha:S1.length=a
 generalize hr:a+1=r
 have hlen0:(S1++ [O.lst (names.map D.str)]).length=r:=by simp[ha,hr]
 rw[hlen0]
 have e2:Ex k S (S1++ [O.lst (names.map D.str)]++ [O.lst []]):=e1.app.app
 have ga:(S1++ [O.lst (names.map D.str)]++ [O.lst []])[a]?=some (.lst (names.map D.str)):=by rw[←ha];exact aM aC
 have gr:(S1++ [O.lst (names.map D.str)]++ [O.lst []])[r]?=some (.lst []):=by rw[←hlen0];exact aC
 have hk1:=e1.lt
 generalize (S1++ [O.lst (names.map D.str)]++ [O.lst []])=S2 at e2 ga gr⊢
 have sa:S.length<=a:=by rw[←ha];exact e1.len
 have ka:a≠k:=by omega
 have kr:r≠k:=by omega
 refine bQ (FM (fun q Γ' S'=>∃(o6 o7 o8:Option D) (lf:List Str) (rs:List Rm),Γ'= [some (.ref k),some (.int many),some (.ref m),some (.int 2),some (.ref a),some (.ref r),o6,o7,o8]/\Ex k S S'/\S'[a]?=some (.lst (lf.map D.str))/\S'[r]?=some (.lst (rs.map Rm.d))/\lf.length=q/\(rs.map (·.name)++lf).Perm names/\∀x∈rs,sW (aJ rs) x) ?_ 4 names.length _ _ (by omega) ?_)
 ·rintro q Γ' S3 ⟨o6,o7,o8,lf,rs,rfl,e3,ga3,gr3,hq,hpm,hok⟩
  have hlen:=hpm.length_eq
  rw[lQa,lQm] at hlen
  symm
  refine bD ga3 ?_
  refine⟨⟨rfl,ga3⟩,?_⟩
  dsimp only
  refine bf (fun c=> ?_) (fun c=> ?_)
  ·have hl0:0<lf.length:=by
    cases lf with
    |nil=>simp at c
    |cons a b=>simp
   refine⟨lf.length-1,by omega,?_⟩
   symm
   refine⟨by decide,?_⟩
   refine bQ ?_
   have k3:S3.length≠k:=by have:=e3.lt;omega
   have r3:=(gQs.mp gr3).1
   have a3:=(gQs.mp ga3).1
   have stay:∀o,Tag.stays ((S3++ [O.lst []]).set S3.length o) (rs.map Rm.d) (.st r):=fun o=>d0 (by omega) (aM gr3)
   refine u7 (i:=S3.length) (j:=6) (v:=7) (rs:=rs) (tg:=.st r) (by simp) rfl aC (fun R hR=>qA (dM rfl (bD (aM gr3) hR))) stay (by decide) (fun r hr=>(hok r hr).l3) (by omega) (fun o=> ?_)
   have e4:Ex k S ((S3++ [O.lst []]).set S3.length (.lst ((aJ rs).map cO))):=e3.app.put e3.len kl
   have ga4:((S3++ [O.lst []]).set S3.length (.lst ((aJ rs).map cO)))[a]?=some (.lst (lf.map D.str)):=d0 (by omega) (aM ga3)
   have gr4:((S3++ [O.lst []]).set S3.length (.lst ((aJ rs).map cO)))[r]?=some (.lst (rs.map Rm.d)):=d0 (by omega) (aM gr3)
   have gg4:((S3++ [O.lst []]).set S3.length (.lst ((aJ rs).map cO)))[S3.length]?=some (.lst ((aJ rs).map cO)):=cp aC
   have lg:(aJ rs).length<=100:=by
    have gen:∀l:List Rm,(∀r∈l,r.deeds.length<=6)->(aJ l).length<=6*l.length:=by
     intro l
     induction l with
     |nil=>intro _;simp[aJ]
     | cons a l ih=>
       intro h
       have:=ih fun r hr=>h r (List.mem_cons_of_mem _ hr)
       have:=h a (List.mem_cons_self ..)
       simp only[aJ,List.flatMap_cons,lQa,lQm,List.length_cons] at *
       omega
    have:=gen rs fun r hr=>(hok r hr).l3
    omega
   generalize ((S3++ [O.lst []]).set S3.length (.lst ((aJ rs).map cO)))=S4 at e4 ga4 gr4 gg4⊢
   dsimp only
   refine bQ (A3 (hU ?_))
   symm
   refine⟨_,_,rfl,ga4,?_⟩
   symm
   refine bD ga4 ?_
   symm
   refine bu e4 (by simp only[lQm];omega) (by simp only[lQm];omega) fun j S5 hj e5 e5' l5=> ?_
   dsimp only
   symm
   have hj':j<lf.length:=by simpa using hj
   have ga5:=e5'.keep _ _ ka ga4
   refine⟨_,ga5,?_⟩
   refine FA (d:=((lf.map D.str).eraseIdx j,D.str lf[j])) ?_ ?_
   ·simp only[kJ]
    rw[if_pos ⟨by omega,by omega⟩,lQm,C7 hj' (by omega)]
    simp[gQe hj']
   dsimp only
   refine fq (hU ?_)
   have e6:Ex k S (S5.set a (.lst ((lf.map D.str).eraseIdx j))):=e5.put sa kl
   have ga6:(S5.set a (.lst ((lf.map D.str).eraseIdx j)))[a]?=some (.lst ((lf.eraseIdx j).map D.str)):=by rw[cp ga5,mM]
   have gr6:(S5.set a (.lst ((lf.map D.str).eraseIdx j)))[r]?=some (.lst (rs.map Rm.d)):=d0 (by omega) (e5'.keep _ _ kr gr4)
   have gg6:(S5.set a (.lst ((lf.map D.str).eraseIdx j)))[S3.length]?=some (.lst ((aJ rs).map cO)):=d0 (by omega) (e5'.keep _ _ k3 gg4)
   generalize (S5.set a (.lst ((lf.map D.str).eraseIdx j)))=S6 at e6 ga6 gr6 gg6⊢
   symm
   refine⟨_,_,rfl,gr6,?_⟩
   symm
   refine B1 (goals:=aJ rs) e6 k3 nm gg6 (e6.keep _ _ nm gm) lg fun rm S7 hrn hro e7 e7' l7=> ?_
   symm
   have gr7:=e7'.keep _ _ kr gr6
   refine⟨_,gr7,dZ (a8 (by simp only[lQm];omega)) ?_⟩
   have hgo:aJ (rs++ [rm])=aJ rs++rm.deeds.map fun p=>(rm.name,p.1):=by simp[aJ]
   refine⟨_,_,_,lf.eraseIdx j,rs++ [rm],rfl,e7.put (by omega) kl,d0 (by omega) (e7'.keep _ _ ka ga6),?_,?_,?_,fun q hq=> ?_⟩
   ·rw[cp gr7]
    simp
   ·rw[List.length_eraseIdx_of_lt hj']
   ·rw[List.map_append]
    show((rs.map (·.name)++ [rm.name])++lf.eraseIdx j).Perm names
    rw[hrn]
    exact wa hj' hpm
   ·rw[hgo]
    rcases mQa.mp hq with hq|hq
    ·exact(hok q hq).sub fun g hg=>List.mem_append_left _ hg
    ·rw[List.mem_singleton.mp hq,hrn]
     exact hro
  ·have hl0:lf= []:=by
    cases lf with
    |nil=>rfl
    |cons a b=>simp at c
   subst hl0
   rw[List.append_nil] at hpm
   refine vI (DV (ue (B3 ?_)))
   symm
   refine bD gr3 ?_
   have l3:rs.length<=3:=by simp at hlen;omega
   refine⟨rfl,_,yC rs,⟨by simpa using l3,hpm.nodup_iff.mpr nn⟩,?_⟩
   obtain⟨ys,hy,he⟩:=zt (f:=Rm.d) (ss:=rs.map (·.name)) (xs:=rs) ⟨"","",[],[],[]⟩ l3
   rw[he]
   refine jy e3 x.lt (fun k z=>(nomatch z)) (by simp only[bI];exact aO fun q _=>cT q.low) fun a b c=> ?_
   refine h ys _ ((hy.map _).nodup_iff.mpr (hpm.nodup_iff.mpr nn)) (by rw[hy.length_eq];exact l3) (fun q hq=>(hok q (hy.mem_iff.mp hq)).sub fun g hg=> ?_) x.set y.set (by simp)
   simp only[aJ,List.mem_flatMap] at hg⊢
   obtain⟨z,hz,hg⟩:=hg
   exact⟨z,hy.mem_iff.mpr hz,hg⟩
 ·exact⟨none,none,none,names,[],rfl,e2,ga,gr,rfl,by simp,by simp⟩
theorem Dw{S S0:az}{k g w p:Nat}{words passes:List Str}{goals:List (Str×Str)}{Q:Res->az->Prop}(x:Ex k S0 S)(ng:g≠k)(nw:w≠k)(np:p≠k)(gg:S[g]?=some (.lst (goals.map cO)))(gw:S[w]?=some (.lst (words.map D.str)))(gp:S[p]?=some (.lst (passes.map D.str)))
  (lg:goals.length<500) (lw:words.length<500) (lp:passes.length<500)
  (h:∀(rs:List Rw) (S':az),pR ⟨true,words,words,[],goals,passes⟩ rs->0<rs.length->rs.length<=9->Ex k S0 S'->Ex k S S'->S'.length=S.length->Q (.d (.tup (rs.map Rw.d))) S'):
  Fn jJ [.ref k,.ref g,.ref w,.ref p,.int 4] S Q:=by
 have y:Ex k S S:=by obtain⟨a,b,c,hh⟩:=x.pot;exact Ex.refl hh
 have kl:=x.lt
 have gl:=(gQs.mp gg).1
 have wl:=(gQs.mp gw).1
 have pl:=(gQs.mp gp).1
 generalize hsc:(⟨true,words,words,[],goals,passes⟩:Sc)=sc at h
 have so:sc.own=true:=by rw[←hsc]
 have sw:sc.ws=words:=by rw[←hsc]
 have sp:sc.ps=words:=by rw[←hsc]
 have sb:sc.bs= []:=by rw[←hsc]
 have sg:sc.gs=goals:=by rw[←hsc]
 have st:sc.ts=passes:=by rw[←hsc]
 refine bE ?_
 unfold rV
 symm
 refine⟨by decide,?_⟩
 generalize hr:S.length=r
 have ir:(S++ [O.lst []])[r]?=some (.lst []):=by rw[←hr];exact aC
 have e0:Ex k S (S++ [O.lst []]):=y.app
 generalize (S++ [O.lst []])=S1 at e0 ir⊢
 have nr:r≠k:=by omega
 refine bQ (fY ?_)
 symm
 refine bu e0 (by decide) (by decide) fun many S2 hmany e2 e2' l2=> ?_
 symm
 refine⟨_,rfl,⟨by omega,by omega⟩,?_⟩
 let Inv:Nat->cx->az->Prop:=fun n Γ' S'=>∃(o6 o7:Option D) (rs:List Rw),Γ'= [some (.ref k),some (.ref g),some (.ref w),some (.ref p),some (.int 4),some (.ref r),o6,o7]∧
  Ex k S S'/\S'[r]?=some (.lst (rs.map Rw.d))/\rs.length<=2*n/\n<=rs.length/\n<=4/\∀q∈rs,q.Ok sc rs.length
 have small:∀m:Nat,m<=100->m<sizeLine:=fun m hm=>Nat.lt_of_le_of_lt hm (by decide)
 have lw':sc.ws.length<1000:=by rw[sw];omega
 have lp':sc.ps.length<900:=by rw[sp];omega
 have lg':sc.gs.length<1000:=by rw[sg];omega
 have up:∀{t':Tr} {d:Nat},t'.Ok sc.ws []->t'.dep<=d+1->d<=3->Am sc t':=fun h1 h2 h3=>⟨by rw[sb];exact h1,by omega⟩
 refine⟨Inv,⟨_,_,[],rfl,e2,e2'.keep _ _ nr ir,by simp,by simp,by omega,by simp⟩,fun _ _ _ _=>trivial,?_,?_⟩
 ·rintro n d Γ' S3 hd ⟨o6,o7,rs,rfl,e3,hr3,hl1,hl2,hn4,hok⟩
  have hn4':n<4:=by
   have:=(gQs.mp hd).1
   simp only[ie,lQm,List.length_range] at this
   omega
  refine aZ ?_
  symm
  refine bu e3 (by decide) (by decide) fun way S4 hway e4 e4' l4=> ?_
  dsimp only
  have hr4:=e4'.keep _ _ nr hr3
  have gw4:=e4.keep _ _ nw gw
  have gg4:=e4.keep _ _ ng gg
  have gp4:=e4.keep _ _ np gp
  rw[←sw] at gw4
  rw[←sg] at gg4
  rw[←st] at gp4
  have gw4':=gw4
  rw[sw,←sp] at gw4'
  have more:∀(ms:List Rw) (S5:az),Ex k S S5->S5[r]?=some (.lst (rs.map Rw.d++ms.map Rw.d))->1<=ms.length->ms.length<=2->(∀q∈ms,q.Ok sc (rs.length+ms.length))→
    Inv (n+1) [some (.ref k),some (.ref g),some (.ref w),some (.ref p),some (.int 4),some (.ref r),some d,some (.int way)] S5:=by
   intro ms S5 e5 h2 h3 h4 h5
   refine⟨_,_,rs++ms,rfl,e5,by rw[h2,List.map_append],by rw[lQa];omega,by rw[lQa];omega,by omega,fun q hq=> ?_⟩
   rw[lQa]
   rcases mQa.mp hq with hq|hq
   ·exact(hok q hq).mono (by omega)
   ·exact h5 q hq
  have lr:(rs.map Rw.d).length=rs.length:=by simp
  have said:∀S5 (q5:List Rw),Ex k S S5->S5[r]?=some (.lst (q5.map Rw.d))->q5.length<=50->∀(R:Out->Prop),(∀(t:Tr) (S6:az),Am sc t->Ex k S S6->S6[r]?=some (.lst ((q5++ [Rw.say t]).map Rw.d))->R (.nx [some (.ref k),some (.ref g),some (.ref w),some (.ref p),some (.int 4),some (.ref r),some d,some (.int way)] S6))→
    T (jF (m5 eY (af 5) (ae (aX (ae (cF (.str "say")) (ae (ao (aY 4) (ae (af 0) (ae (af 2) (ae (bT (bp ai)) (ae (cF (.int 1)) ai))))) ai))) ai))) [some (.ref k),some (.ref g),some (.ref w),some (.ref p),some (.int 4),some (.ref r),some d,some (.int way)] S5 R:=by
   intro S5 q5 e5 hr5 hl5 R hR
   refine fq (hU ?_)
   symm
   refine⟨_,_,rfl,hr5,?_⟩
   symm
   refine⟨by decide,?_⟩
   symm
   have w5:=e5.keep _ _ nw gw
   rw[←sw] at w5
   refine gV 4 (deep:=1) (bs:= []) (e5.app (G:= [O.lst []])) nw (j:=S5.length) (by have:=e5.lt;omega) (aM w5) aC lw' (by decide) (by decide) fun t3 S6 h3 h4 e6 e6' l6=> ?_
   symm
   refine⟨by show 2<=sizeLine;decide,?_⟩
   symm
   have hr6:=e6'.keep _ _ nr (aM hr5)
   refine⟨_,hr6,dZ (small _ (by simp;omega)) ?_⟩
   refine hR t3 _ (up h3 h4 (by omega)) (e6.put (by omega) kl) ?_
   rw[cp hr6]
   simp[Rw.d]
  refine eZ (oE rfl rfl gg4 fun c hc=>bf (fun c1=> ?_) (fun c1=> ?_))
  ·refine fq (hU ?_)
   symm
   refine⟨_,_,rfl,hr4,?_⟩
   symm
   refine Dj (n:=rs.length+1) (sc:=sc) e4 ng nw nw gg4 gw4' gw4 (by simpa using hc c1) lg' lp' lw' fun q S5 h1 e5 e5' l5=> ?_
   symm
   have hr5:=e5'.keep _ _ nr hr4
   refine⟨_,hr5,dZ (small _ (by rw[lr];omega)) ?_⟩
   exact more [q] _ (e5.put (by omega) kl) (cp hr5) (by simp) (by simp) fun q' hq'=>by rw[List.mem_singleton.mp hq'];exact h1
  refine eZ (oG rfl rfl gp4 fun c hc=>bf (fun c1=> ?_) (fun c1=> ?_))
  ·refine fq (hU ?_)
   symm
   refine⟨_,_,rfl,hr4,?_⟩
   symm
   refine⟨by decide,?_⟩
   symm
   refine bu (e4.app (G:= [O.lst [.str "take",.str "give"]])) (by decide) (by decide) fun v S5 hv e5 e5' l5=> ?_
   dsimp only
   have hc2:∃(f:Str->Rw) (s:Str),(∀z,(f z).d=.tup [.str s,.str z])/\(∀z n,z∈sc.ts->(f z).Ok sc n)/\i3 ([.str "take",.str "give"]:List D) (v:Int)=some (.str s):=by
    rcases v with _|_|v
    ·exact⟨.take,"take",fun _=>rfl,fun z n hz=>⟨so,hz⟩,rfl⟩
    ·exact⟨.give,"give",fun _=>rfl,fun z n hz=>⟨so,hz⟩,rfl⟩
    ·omega
   obtain⟨f,s,hf,hfo,hs⟩:=hc2
   refine dE (e5'.keep _ _ (by have:=e4.lt;omega) aC) hs ?_
   symm
   refine dW e5 np (e5'.keep _ _ np (aM gp4)) (hc c1) (by rw[st];simp;omega) dk eT fun v2 S6 hv2 e6 e6' l6=> ?_
   obtain⟨z,hz,rfl⟩:=List.mem_map.mp hv2
   symm
   refine⟨by show 2<=sizeLine;decide,?_⟩
   symm
   have hr6:=e6'.keep _ _ nr (e5'.keep _ _ nr (aM hr4))
   refine⟨_,hr6,dZ (small _ (by rw[lr];omega)) ?_⟩
   refine more [f z] _ (e6.put (by omega) kl) ?_ (by simp) (by simp) fun q' hq'=>by rw[List.mem_singleton.mp hq'];exact hfo _ _ hz
   rw[cp hr6]
   simp[hf]
  refine eZ (oG rfl rfl gp4 fun c hc=>bf (fun c1=> ?_) (fun c1=> ?_))
  ·refine fq (hU ?_)
   symm
   refine⟨_,_,rfl,hr4,?_⟩
   symm
   refine dW e4 np gp4 (hc c1) (by rw[st];simp;omega) dk eT fun v2 S5 hv2 e5 e5' l5=> ?_
   obtain⟨z,hz,rfl⟩:=List.mem_map.mp hv2
   symm
   refine dW e5 np (e5'.keep _ _ np gp4) (hc c1) (by rw[st];simp;omega) dk eT fun v3 S6 hv3 e6 e6' l6=> ?_
   obtain⟨z2,hz2,rfl⟩:=List.mem_map.mp hv3
   symm
   refine⟨by show 3<=sizeLine;decide,?_⟩
   symm
   have hr6:=e6'.keep _ _ nr (e5'.keep _ _ nr hr4)
   refine⟨_,hr6,dZ (small _ (by rw[lr];omega)) ?_⟩
   exact more [.pass z z2] _ (e6.put (by omega) kl) (cp hr6) (by simp) (by simp) fun q' hq'=>by rw[List.mem_singleton.mp hq'];exact⟨so,hz,hz2⟩
  refine eZ (oG rfl rfl gw4 fun c hc=>bf (fun c1=> ?_) (fun c1=> ?_))
  ·refine fq (hU ?_)
   symm
   refine⟨_,_,rfl,hr4,?_⟩
   symm
   refine dW e4 nw gw4 (hc c1) (by simp;omega) dk eT fun v2 S5 hv2 e5 e5' l5=> ?_
   obtain⟨z,hz,rfl⟩:=List.mem_map.mp hv2
   symm
   refine⟨by decide,?_⟩
   symm
   refine gV 4 (deep:=2) (bs:= []) (e5.app (G:= [O.lst []])) nw (j:=S5.length) (by have:=e5.lt;omega) (aM (e5'.keep _ _ nw gw4)) aC lw' (by decide) (by decide) fun t3 S6 h3 h4 e6 e6' l6=> ?_
   symm
   refine⟨by show 3<=sizeLine;decide,?_⟩
   symm
   have hr6:=e6'.keep _ _ nr (aM (e5'.keep _ _ nr hr4))
   refine⟨_,hr6,dZ (small _ (by rw[lr];omega)) ?_⟩
   exact more [.put z t3] _ (e6.put (by omega) kl) (cp hr6) (by simp) (by simp) fun q' hq'=>by rw[List.mem_singleton.mp hq'];exact⟨by rw[sp,←sw];exact hz,up h3 h4 (by omega)⟩
  refine eZ (C8 rfl fun c=>bf (fun c1=> ?_) (fun c1=> ?_))
  ·refine bQ (fq (hU ?_))
   symm
   refine⟨_,_,rfl,hr4,?_⟩
   symm
   refine⟨by decide,?_⟩
   symm
   refine gV 4 (deep:=2) (bs:= []) (e4.app (G:= [O.lst []])) nw (j:=S4.length) (by have:=e4.lt;omega) (aM gw4) aC lw' (by decide) (by decide) fun t3 S5 h3 h4 e5 e5' l5=> ?_
   symm
   have hr5:=e5'.keep _ _ nr (aM hr4)
   refine bD hr5 ?_
   symm
   refine⟨by show 3<=sizeLine;decide,?_⟩
   symm
   refine⟨_,hr5,dZ (small _ (by rw[lr];omega)) ?_⟩
   dsimp only
   have hr6:(S5.set r (.lst (rs.map Rw.d++ [.tup [.str "unless",t3.d,.int (((rs.map Rw.d).length:Int)+2)]])))[r]?=some (.lst ((rs++ [Rw.unl t3 (rs.length+2)]).map Rw.d)):=by
    rw[cp hr5]
    simp[Rw.d]
   refine said _ (rs++ [Rw.unl t3 (rs.length+2)]) (e5.put (by omega) kl) hr6 (by simp;omega) _ fun t4 S6 h5 e6 hr7=> ?_
   refine more [.unl t3 (rs.length+2),.say t4] _ e6 (by rw[hr7];simp) (by simp) (by simp) fun q hq=> ?_
   simp only[List.mem_cons,List.not_mem_nil,or_false] at hq
   rcases hq with rfl|rfl
   ·exact⟨up h3 h4 (by omega),Nat.le_refl _⟩
   ·exact⟨so,h5⟩
  ·refine said _ rs e4 hr4 (by omega) _ fun t4 S6 h5 e6 hr7=> ?_
   exact more [.say t4] _ e6 (by rw[hr7];simp) (by simp) (by simp) fun q' hq'=>by rw[List.mem_singleton.mp hq'];exact⟨so,h5⟩
 ·rintro Γ' S3 ⟨o6,o7,rs,rfl,e3,hr3,hl1,hl2,hn4,hok⟩
  have hlen:(ie 0 (1+(many:Int))).length=many+1:=by simp only[ie,lQm,List.length_range];omega
  rw[hlen] at hl1 hl2 hn4
  have fin:∀(rs:List Rw) (S4:az),Ex k S S4->S4[r]?=some (.lst (rs.map Rw.d))->(∀q∈rs,q.Ok sc rs.length)->0<rs.length->rs.length<=9->T (cn (tupQ (fJ (bc (af 5))))) [some (.ref k),some (.ref g),some (.ref w),some (.ref p),some (.int 4),some (.ref r),o6,o7] S4 fun o=>match o with
    |.nx _ S'=>Op (settle S .non S') fun p=>Q p.1 p.2|.rt d S'=>Op (settle S d S') fun p=>Q p.1 p.2|.rl l S'=>Op (dm S l S') fun p=>Q p.1 p.2|_=>False:=by
   intro rs S4 e4 hr4 hok h1 h2
   symm
   refine bD hr4 ?_
   refine⟨rfl,?_⟩
   dsimp only
   refine jy e4 x.lt (fun k z=>(nomatch z)) (by simp only[bI];exact aO fun q _=>cT q.low) fun a b c=> ?_
   exact h rs _ hok h1 h2 x.set y.set (by simp)
  refine bQ (eZ ?_)
  symm
  refine bu e3 (by decide) (by decide) fun v S4 hv e4 e4' l4=> ?_
  symm
  refine dF ?_
  dsimp only
  have hr4:=e4'.keep _ _ nr hr3
  refine bf (fun c=> ?_) (fun c=> ?_)
  ·refine fq (hU ?_)
   symm
   refine⟨_,_,rfl,hr4,?_⟩
   symm
   refine bD hr4 ?_
   symm
   refine bu e4 (by simp only[lQm];omega) (by simp only[lQm];omega) fun v2 S5 hv2 e5 e5' l5=> ?_
   symm
   refine⟨by show 2<=sizeLine;decide,?_⟩
   symm
   have hr5:=e5'.keep _ _ nr hr4
   refine⟨_,hr5,dZ (small _ (by simp;omega)) ?_⟩
   dsimp only
   simp only[lQm] at hv2
   refine fin (rs++ [Rw.go v2]) _ (e5.put (by omega) kl) (by rw[cp hr5];simp[Rw.d]) (fun q hq=> ?_) (by simp) (by simp;omega)
   rw[lQa]
   rcases mQa.mp hq with hq|hq
   ·exact(hok q hq).mono (by simp)
   ·rw[List.mem_singleton.mp hq]
    show v2<=rs.length+1
    omega
  ·exact cA (fin rs S4 e4 hr4 hok (by omega) (by omega))
def j0(p:List (Str×Nat)×List Rw):D:=.tup [.tup (p.1.map qY),.tup (p.2.map Rw.d)]
structure de where
 rooms:List Rm
 passes:List (Str×Nat)
 shared:List (Str×Nat)
 hands:List (List (Str×Nat)×List Rw)
def de.d(w:de):D:=.tup [.tup (w.rooms.map Rm.d),.tup (w.passes.map qY),.tup (w.shared.map qY),.tup (w.hands.map j0)]
structure xh(gs:List (Str×Str))(shared passes:List Str)(h:List (Str×Nat)×List Rw):Prop where
 tv:∀p∈h.1,p.2<=9
 l1:h.1.length<=6
 l2:h.2.length<=9
 l0:0<h.2.length
 pr:pR ⟨true,h.1.map (·.1)++shared,h.1.map (·.1)++shared,[],gs,passes⟩ h.2
structure eN(w:de):Prop where
 nd:(w.rooms.map (·.name)).Nodup
 l1:w.rooms.length<=3
 l2:w.passes.length<=6
 l3:w.shared.length<=6
 l4:w.hands.length<=4
 l0:0<w.hands.length
 pv:∀p∈w.passes,p.2<=9
 sv:∀p∈w.shared,p.2<=9
 rm:∀r∈w.rooms,sW (aJ w.rooms) r
 hd:∀h∈w.hands,xh (aJ w.rooms) (w.shared.map (·.1)) (w.passes.map (·.1)) h
theorem zQ(p:List (Str×Nat)×List Rw):bI 0 (j0 p)=true:=by
 simp only[j0,bI,bB,Bool.and_true,Bool.true_and,Bool.and_eq_true]
 exact⟨aO fun _ _=>rfl,aO fun r _=>r.low⟩
theorem de.low(w:de):bI 0 w.d=true:=by
 simp only[de.d,bI,bB,Bool.and_true,Bool.true_and,Bool.and_eq_true]
 exact⟨aO fun r _=>r.low,aO fun _ _=>rfl,aO fun _ _=>rfl,aO fun p _=>zQ p⟩
theorem y3{rs:List Rm}(hd:∀r∈rs,r.deeds.length<=6):(aJ rs).length<=6*rs.length:=by
 induction rs with
 |nil=>simp[aJ]
 | cons a l ih=>
   have:=ih fun r hr=>hd r (List.mem_cons_of_mem _ hr)
   have:=hd a (List.mem_cons_self ..)
   simp only[aJ,List.flatMap_cons,lQa,lQm,List.length_cons] at *
   omega
theorem zK{S S0:az}{k hands:Nat}{rs:List Rm}{Q:Res->az->Prop}(x:Ex k S0 S)(h0:0<hands)(h4:hands<=4)(nd:(rs.map (·.name)).Nodup)(hl:rs.length<=3)(hok:∀r∈rs,sW (aJ rs) r)
  (h:∀(w:de) (S':az),eN w->Ex k S0 S'->Ex k S S'->S'.length=S.length->Q (.d w.d) S'):
  Fn gJ [.ref k,.tup (rs.map Rm.d),.int hands,.int 2] S Q:=by
 have y:Ex k S S:=by obtain⟨a,b,c,hh⟩:=x.pot;exact Ex.refl hh
 have kl:=x.lt
 have gln:=y3 fun r hr=>(hok r hr).l3
 refine bE ?_
 unfold nU
 symm
 refine⟨by decide,?_⟩
 refine bQ ?_
 refine u7 (i:=S.length) (j:=4) (v:=5) (rs:=rs) (tg:=.tu) (by simp) rfl aC (fun R hR=>qA (dM rfl (c9 hR))) (fun _=>trivial) (by decide) (fun r hr=>(hok r hr).l3) hl (fun o=> ?_)
 have e1:Ex k S ((S++ [O.lst []]).set S.length (.lst ((aJ rs).map cO))):=y.app.put (Nat.le_refl _) kl
 have gg1:((S++ [O.lst []]).set S.length (.lst ((aJ rs).map cO)))[S.length]?=some (.lst ((aJ rs).map cO)):=cp aC
 generalize ((S++ [O.lst []]).set S.length (.lst ((aJ rs).map cO)))=S1 at e1 gg1⊢
 generalize hg:S.length=g at gg1⊢
 have ng:g≠k:=by omega
 symm
 refine bu e1 (by decide) (by decide) fun np S2 hnp e2 e2' l2=> ?_
 symm
 refine gB e2 (by omega) (by omega) (by decide) fun passes S3 _ hpl e3 e3' l3=> ?_
 symm
 refine⟨by decide,?_⟩
 symm
 have k3:S3.length≠k:=by have:=e3.lt;omega
 have gg3:(S3++ [O.lst (passes.map D.str)])[g]?=some (.lst ((aJ rs).map cO)):=aM (e3'.keep _ _ ng (e2'.keep _ _ ng gg1))
 have gp3:(S3++ [O.lst (passes.map D.str)])[S3.length]?=some (.lst (passes.map D.str)):=aC
 have e3a:Ex k S (S3++ [O.lst (passes.map D.str)]):=e3.app
 have sl3:S.length<=S3.length:=e3.len
 have l3a:(S3++ [O.lst (passes.map D.str)]).length=S3.length+1:=by simp
 generalize (S3++ [O.lst (passes.map D.str)])=T3 at gg3 gp3 e3a l3a⊢
 refine bu (e3a.app (G:= [O.lst [.int 0,.int 0,.int 1,.int 2]])) (by decide) (by decide) fun v S4 hv e4 e4' l4=> ?_
 dsimp only
 obtain⟨ns,hns,ha⟩:∃n:Nat,n<=2/\i3 ([.int 0,.int 0,.int 1,.int 2]:List D) (v:Int)=some (.int n):=by
  rcases v with _|_|_|_|v
  ·exact⟨0,by omega,rfl⟩
  ·exact⟨0,by omega,rfl⟩
  ·exact⟨1,by omega,rfl⟩
  ·exact⟨2,by omega,rfl⟩
  ·omega
 refine dE (e4'.keep _ _ (by have:=e3a.lt;omega) aC) ha ?_
 symm
 refine gB e4 (by omega) (by omega) (by decide) fun shared S5 _ hsl e5 e5' l5=> ?_
 symm
 refine⟨by decide,?_⟩
 have k5:S5.length≠k:=by have:=e5.lt;omega
 have gg5:(S5++ [O.lst (shared.map D.str)]++ [O.lst []])[g]?=some (.lst ((aJ rs).map cO)):=aM (aM (e5'.keep _ _ ng (e4'.keep _ _ ng (aM gg3))))
 have gp5:(S5++ [O.lst (shared.map D.str)]++ [O.lst []])[S3.length]?=some (.lst (passes.map D.str)):=aM (aM (e5'.keep _ _ k3 (e4'.keep _ _ k3 (aM gp3))))
 have gs5:(S5++ [O.lst (shared.map D.str)]++ [O.lst []])[S5.length]?=some (.lst (shared.map D.str)):=aM aC
 have h35:S3.length<S5.length:=by
  have:=e5'.len
  have:=e4'.len
  simp only[lQa,List.length_cons,List.length_nil] at *
  omega
 have e6:Ex k S (S5++ [O.lst (shared.map D.str)]++ [O.lst []]):=e5.app.app
 generalize hr:S5.length+1=r
 have hlen0:(S5++ [O.lst (shared.map D.str)]).length=r:=by simp[hr]
 rw[hlen0]
 have gr:(S5++ [O.lst (shared.map D.str)]++ [O.lst []])[r]?=some (.lst []):=by rw[←hlen0];exact aC
 generalize (S5++ [O.lst (shared.map D.str)]++ [O.lst []])=S6 at e6 gg5 gp5 gs5 gr⊢
 have kr:r≠k:=by have:=e5.lt;omega
 refine bQ (fY ?_)
 symm
 refine⟨_,rfl,⟨by omega,by omega⟩,?_⟩
 let Inv:Nat->cx->az->Prop:=fun n Γ' S'=>∃(o9 o10 o11:Option D) (hs:List (List (Str×Nat)×List Rw)),Γ'= [some (.ref k),some (.tup (rs.map Rm.d)),some (.int hands),some (.int 2),some (.ref g),o,some (.ref S3.length),some (.ref S5.length),some (.ref r),o9,o10,o11,none]∧
  Ex k S S'/\S'[g]?=some (.lst ((aJ rs).map cO))/\S'[S3.length]?=some (.lst (passes.map D.str))/\S'[S5.length]?=some (.lst (shared.map D.str))/\S'[r]?=some (.lst (hs.map j0))/\hs.length=n/\(∀p∈hs,xh (aJ rs) shared passes p)
 refine⟨Inv,⟨none,none,none,[],rfl,e6,gg5,gp5,gs5,gr,rfl,by simp⟩,fun _ _ _ _=>trivial,?_,?_⟩
 ·rintro n d Γ' S7 hd ⟨o9,o10,o11,hs,rfl,e7,gg7,gp7,gs7,gr7,hn,hpr⟩
  have hn4:n<4:=by
   have:=(gQs.mp hd).1
   simp only[ie,lQm,List.length_range] at this
   omega
  refine aZ ?_
  symm
  refine⟨by decide,?_⟩
  symm
  refine bu (e7.app (G:= [O.lst [.int 0,.int 1,.int 1,.int 2]])) (by decide) (by decide) fun v S8 hv e8 e8' l8=> ?_
  dsimp only
  obtain⟨nw,hnw,ha⟩:∃n:Nat,n<=2/\i3 ([.int 0,.int 1,.int 1,.int 2]:List D) (v:Int)=some (.int n):=by
   rcases v with _|_|_|_|v
   ·exact⟨0,by omega,rfl⟩
   ·exact⟨1,by omega,rfl⟩
   ·exact⟨1,by omega,rfl⟩
   ·exact⟨2,by omega,rfl⟩
   ·omega
  refine dE (e8'.keep _ _ (by have:=e7.lt;omega) aC) ha ?_
  symm
  refine gB e8 (by omega) (by omega) (by decide) fun own S9 _ hol e9 e9' l9=> ?_
  symm
  have k9:S9.length≠k:=by have:=e9.lt;omega
  have keep9:∀{i:Nat} {o:O},i≠k->S7[i]?=some o->(S9++ [O.lst (own.map D.str)])[i]?=some o:=fun n h=>aM (e9'.keep _ _ n (e8'.keep _ _ n (aM h)))
  have go9:(S9++ [O.lst (own.map D.str)])[S9.length]?=some (.lst (own.map D.str)):=aC
  have e9a:Ex k S (S9++ [O.lst (own.map D.str)]):=e9.app
  have gg9:=keep9 ng gg7
  have gp9:=keep9 k3 gp7
  have gs9:=keep9 k5 gs7
  have gr9:=keep9 kr gr7
  have r9:r<S9.length:=by
   have:=(gQs.mp gr7).1
   have:=e8'.len
   have:=e9'.len
   simp only[lQa,List.length_cons,List.length_nil] at *
   omega
  generalize (S9++ [O.lst (own.map D.str)])=T9 at go9 e9a gg9 gp9 gs9 gr9⊢
  refine uW ?_
  symm
  refine bD go9 ?_
  symm
  refine bD gs9 ?_
  refine⟨⟨rfl,rfl,go9,by simp only[lQm];exact nQl (a8 (by omega))⟩,?_⟩
  rw[←List.map_append]
  symm
  refine Dw (words:=own++shared) (passes:=passes) (goals:=aJ rs) (e9a.app (G:= [O.lst ((own++shared).map D.str)])) ng (by have:=e9a.lt;omega) k3 (aM gg9) aC (aM gp9) (by omega) (by rw[lQa];omega) (by omega) fun pr S10 h1 h2 h3 e10 e10' l10=> ?_
  symm
  refine hU ?_
  symm
  have gr10:=e10'.keep _ _ kr (aM gr9)
  refine⟨_,_,rfl,gr10,?_⟩
  symm
  refine yD (m:=3) e10 rfl rfl (e10'.keep _ _ k9 (aM go9)) k9 (by decide) (by decide) (by omega) fun ts S11 ht1 ht2 e11 e11' l11=> ?_
  symm
  refine⟨by show 2<=sizeLine;decide,?_⟩
  symm
  have gr11:=e11'.keep _ _ kr gr10
  refine⟨_,gr11,dZ (a8 (by simp only[lQm];omega)) ?_⟩
  have kp:∀{i:Nat} {o:O},i≠k->i≠r->T9[i]?=some o->∀o',(S11.set r o')[i]?=some o:=fun n n2 h o'=>d0 n2 (e11'.keep _ _ n (e10'.keep _ _ n (aM h)))
  have lt1:ts.length=own.length:=by rw[←ht1];simp
  refine⟨_,_,_,hs++ [(ts,pr)],rfl,e11.put (by omega) kl,kp ng (by omega) gg9 _,kp k3 (by omega) gp9 _,kp k5 (by omega) gs9 _,?_,by simp[hn],fun p hp=> ?_⟩
  ·rw[cp gr11]
   simp[j0]
  ·rcases mQa.mp hp with hp|hp
   ·exact hpr p hp
   ·rw[List.mem_singleton.mp hp]
    refine⟨fun p hp=>by have:=ht2 p hp;omega,by show ts.length<=6;omega,h3,h2,?_⟩
    show pR ⟨true,ts.map (·.1)++shared,ts.map (·.1)++shared,[],_,_⟩ pr
    rw[ht1]
    exact h1
 ·rintro Γ' S7 ⟨o9,o10,o11,hs,rfl,e7,gg7,gp7,gs7,gr7,hn,hpr⟩
  have hn4:hs.length=hands:=by
   rw[hn]
   simp only[ie,lQm,List.length_range]
   omega
  symm
  refine yD (m:=3) e7 rfl rfl gp7 k3 (by decide) (by decide) (by omega) fun ps S8 hp1 hp2 e8 e8' l8=> ?_
  symm
  refine yD (m:=3) e8 rfl rfl (e8'.keep _ _ k5 gs7) k5 (by decide) (by decide) (by omega) fun ss S9 hs1 hs2 e9 e9' l9=> ?_
  symm
  refine bD (e9'.keep _ _ kr (e8'.keep _ _ kr gr7)) ?_
  refine⟨rfl,?_⟩
  symm
  refine⟨by show 4<=sizeLine;decide,?_⟩
  have lp1:ps.length=passes.length:=by rw[←hp1];simp
  have ls1:ss.length=shared.length:=by rw[←hs1];simp
  refine jy (d:=(de.mk rs ps ss hs).d) e9 x.lt (fun k z=>(nomatch z)) (cT (de.low _)) fun a b c=> ?_
  refine h ⟨rs,ps,ss,hs⟩ _ ⟨nd,hl,by show ps.length<=6;omega,by show ss.length<=6;omega,by show hs.length<=4;omega,by show 0<hs.length;omega,fun p hp=>by have:=hp2 p hp;omega,fun p hp=>by have:=hs2 p hp;omega,hok,?_⟩ x.set y.set (by simp)
  show∀h∈hs,xh (aJ rs) (ss.map (·.1)) (ps.map (·.1)) h
  rw[hs1,hp1]
  exact hpr
theorem uu{S S0:az}{k:Nat}{Q:Res->az->Prop}(x:Ex k S0 S)(h:∀(w:de) (S':az),eN w->Ex k S0 S'->Ex k S S'->S'.length=S.length->Q (.d w.d) S'):Fn dv [.ref k] S Q:=by
 have y:Ex k S S:=by obtain⟨a,b,c,hh⟩:=x.pot;exact Ex.refl hh
 have kl:=x.lt
 refine bE ?_
 unfold iZ
 symm
 refine⟨by decide,?_⟩
 symm
 refine bu (y.app (G:= [O.lst [.int 1,.int 2,.int 3,.int 1,.int 2,.int 0]])) (by decide) (by decide) fun v S1 hv e1 e1' l1=> ?_
 dsimp only
 obtain⟨n,hn,ha⟩:∃n:Nat,n<=3/\i3 ([.int 1,.int 2,.int 3,.int 1,.int 2,.int 0]:List D) (v:Int)=some (.int n):=by
  rcases v with _|_|_|_|_|_|v
  ·exact⟨1,by omega,rfl⟩
  ·exact⟨2,by omega,rfl⟩
  ·exact⟨3,by omega,rfl⟩
  ·exact⟨1,by omega,rfl⟩
  ·exact⟨2,by omega,rfl⟩
  ·exact⟨0,by omega,rfl⟩
  ·omega
 refine dE (e1'.keep _ _ (by omega) aC) ha ?_
 symm
 refine⟨by decide,?_⟩
 symm
 refine A8 (m:=S1.length) (e1.app (G:= [O.lst [.str "at once",.str "when free"]])) (by have:=e1.lt;omega) aC hn fun rs S2 nd hl hok e2 e2' l2=> ?_
 symm
 refine bu e2 (by decide) (by decide) fun v2 S3 hv2 e3 e3' l3=> ?_
 symm
 rw[show(1:Int)+(v2:Int)=((1+v2:Nat):Int) by omega]
 refine zK e3 (by omega) (by omega) nd hl hok fun w S4 hw e4 e4' l4=> ?_
 dsimp only
 refine jy e4 x.lt (fun k z=>(nomatch z)) (cT (de.low _)) fun a b c=> ?_
 exact h w _ hw x.set y.set (by simp)
end W28
namespace DL
open PySem PySem.Spec L2
theorem DI{Γ:cx}{S:az}{js:List (Option Nat)}{f:d_}{g:kT}{elt:bq}{Q:List D->az->Prop}(P:cx->Prop)(F:D->D)(h0:P (kz js Γ)) (h:E f Γ S fun p S1=>p.2.stays S1 p.1/\p.1.length<=1000∧
   (∀d∈p.1,∀Γ',P Γ'->Tg g d Γ' S1 fun Γ1 S2=>S2=S1/\P Γ1/\E elt Γ1 S1 fun y S3=>y=F d/\S3=S1)/\Q (p.1.map F) S1):E (cu js (i6 f) g cM elt) Γ S Q:=by
 refine i8 (q_ (h.mono fun p S1 hp=> ?_))
 obtain⟨hs,hl,he,q⟩:=hp
 refine⟨fun n Γ' S' acc=>S'=S1/\acc=(p.1.take n).map F/\P Γ',⟨rfl,rfl,h0⟩,fun n Γ' S' acc h=>by rw[h.1];exact hs,fun n d Γ' S' acc hd h=> ?_,fun Γ' S' acc h=> ?_⟩
 ·obtain⟨rfl,rfl,h3⟩:=h
  obtain⟨Γ1,S2,e1,rfl,h4,h5⟩:=he d (mQg hd) Γ' h3
  refine⟨Γ1,S2,e1,xI ?_⟩
  rw[if_pos rfl]
  refine h5.mono fun y S3 qr=> ?_
  obtain⟨e2,e3⟩:=qr
  subst e2 e3
  have hn:=(gQs.mp hd).1
  refine⟨?_,rfl,?_,h4⟩
  ·rw[lQm,List.length_take]
   exact a8 (by omega)
  ·rw[List.take_add_one,hd]
   simp
 ·obtain⟨rfl,rfl,_⟩:=h
  rw[List.take_length]
  exact q
theorem mz{α:Type}{Γ:cx}{S:az}{js:List (Option Nat)}{f:d_}{g:kT}{elt:bq}{Q:List D->az->Prop}(P:cx->Prop)(enc G:α->D)(h0:P (kz js Γ)) (h:E f Γ S fun p S1=>∃xs:List α,p.1=xs.map enc/\p.2.stays S1 p.1/\xs.length<=1000∧
   (∀x∈xs,∀Γ',P Γ'->Tg g (enc x) Γ' S1 fun Γ1 S2=>S2=S1/\P Γ1/\E elt Γ1 S1 fun y S3=>y=G x/\S3=S1)/\Q (xs.map G) S1):E (cu js (i6 f) g cM elt) Γ S Q:=by
 refine i8 (q_ (h.mono fun p S1 hp=> ?_))
 obtain⟨xs,hx,hs,hl,he,q⟩:=hp
 refine⟨fun n Γ' S' acc=>S'=S1/\acc=(xs.take n).map G/\P Γ',⟨rfl,rfl,h0⟩,fun n Γ' S' acc h=>by rw[h.1];exact hs,fun n d Γ' S' acc hd h=> ?_,fun Γ' S' acc h=> ?_⟩
 ·obtain⟨rfl,rfl,h3⟩:=h
  have hd:p.1[n]?=some d:=hd
  rw[hx,gQm] at hd
  obtain⟨x,hxn,rfl⟩:=oQm.mp hd
  obtain⟨Γ1,S2,e1,rfl,h4,h5⟩:=he x (mQg hxn) Γ' h3
  refine⟨Γ1,S2,e1,xI ?_⟩
  rw[if_pos rfl]
  refine h5.mono fun y S3 qr=> ?_
  obtain⟨e2,e3⟩:=qr
  subst e2 e3
  have hn:=(gQs.mp hxn).1
  refine⟨?_,rfl,?_,h4⟩
  ·rw[lQm,List.length_take]
   exact a8 (by omega)
  ·rw[List.take_add_one,hxn]
   simp
 ·obtain⟨rfl,rfl,_⟩:=h
  have e:p.1.length=xs.length:=by rw[hx,lQm]
  show Q ((xs.take p.1.length).map G) _
  rw[e,List.take_length]
  exact q
theorem cB{S:az}{d:D}{Q:Res->az->Prop}(hd:∀k,d≠.ref k)(hl:bI 0 d=true)(q:Q (.d d) S):Op (settle S d S) fun p=>Q p.1 p.2:=fO pF (List.take_length) hd (cT hl) q
theorem zR{S:az}{ds:List D}{Q:Res->az->Prop}(hl:bB 0 ds=true)(q:Q (.l ds) S):Op (dm S ds S) fun p=>Q p.1 p.2:=kP pF (List.take_length) (hX hl) q
end DL
namespace W28
open PySem PySem.Spec L2 DL
structure cv where
 room:Int
 deed:Int
 row:Int
 given:Int
 told:Int
structure ee where
 vals:List Int
 within:Int
 row:List Int
 late:List Int
 bells:List (List (Int×Int))
structure bo where
 rooms:List ee
 passes:List (Int×List Int)
 shared:List Int
 hands:List (List Int×List cv)
def cy(l:List Int):D:=.tup (l.map D.int)
def cv.d(f:cv):D:=.tup [.int f.room,.int f.deed,.int f.row,.int f.given,.int f.told]
def pairD(p:Int×Int):D:=.tup [.int p.1,.int p.2]
def dS(l:List (Int×Int)):D:=.tup (l.map pairD)
def ee.d(r:ee):D:=.tup [cy r.vals,.int r.within,cy r.row,cy r.late,.tup (r.bells.map dS)]
def xk(p:Int×List Int):D:=.tup [.int p.1,cy p.2]
def xf(h:List Int×List cv):D:=.tup [cy h.1,.tup (h.2.map cv.d)]
def bo.d(s:bo):D:=.tup [.tup (s.rooms.map ee.d),.tup (s.passes.map xk),cy s.shared,.tup (s.hands.map xf)]
theorem ji(l:List Int):bI 0 (cy l)=true:=by simp only[cy,bI];exact aO fun _ _=>rfl
theorem qf(l:List (Int×Int)):bI 0 (dS l)=true:=by simp only[dS,bI];exact aO fun _ _=>rfl
theorem ee.low(r:ee):bI 0 r.d=true:=by
 simp only[ee.d,bI,bB,ji,Bool.and_true,Bool.true_and]
 exact aO fun l _=>qf l
theorem xp(p:Int×List Int):bI 0 (xk p)=true:=by simp only[xk,bI,bB,ji,Bool.and_true]
theorem wF(h:List Int×List cv):bI 0 (xf h)=true:=by
 simp only[xf,bI,bB,ji,Bool.and_true,Bool.true_and]
 exact aO fun _ _=>rfl
theorem bo.low(s:bo):bI 0 s.d=true:=by
 simp only[bo.d,bI,bB,ji,Bool.and_true,Bool.true_and,Bool.and_eq_true]
 exact⟨aO fun r _=>r.low,aO fun p _=>xp p,aO fun h _=>wF h⟩
def eo(ts:List (Str×Nat)):List Int:=ts.map fun p=>(p.2:Int)
def dX(r:Rm):ee:=⟨eo r.things,-1,[],[],r.bells.map fun _=> []⟩
def AW:cv:=⟨-1,-1,0,0,0⟩
def dA(w:de):bo:=⟨w.rooms.map dX,w.passes.map fun p=>((p.2:Int),[]),eo w.shared,w.hands.map fun h=>(eo h.1,[AW])⟩
section
variable{S:az}{Q:Res->az->Prop}
theorem iD{ts:List (Str×Nat)}(l:ts.length<=1000)(h:Q (.d (cy (eo ts))) S):Fn eA [.tup (ts.map qY)] S Q:=by
 refine bE ?_
 unfold qi
 symm
 refine DI (fun Γ'=>∃a b,Γ'= [a,b]) (fun d=>match d with|.tup [_,v]=>v|d=>d) ⟨none,none,rfl⟩ ?_
 symm
 refine⟨trivial,by simpa using l,fun d hd Γ' hΓ=> ?_,?_⟩
 ·obtain⟨p,_,rfl⟩:=List.mem_map.mp hd
  obtain⟨a,b,rfl⟩:=hΓ
  refine eO rfl (aq (aZ (aq (aZ (bz ?_)))))
  refine⟨rfl,⟨_,_,rfl⟩,?_⟩
  symm
  exact⟨rfl,rfl⟩
 ·have e:(ts.map qY).map (fun d=>match d with|.tup [_,v]=>v|d=>d)=(eo ts).map D.int:=by
   simp only[eo,List.map_map]
   rfl
  rw[e]
  exact cB (d:=cy (eo ts)) (fun k z=>(nomatch z)) (ji _) h
theorem qK{r:Rm}(l1:r.things.length<=6)(l2:r.bells.length<=6)(h:Q (.d (dX r).d) S):Fn gP [r.d] S Q:=by
 refine bE ?_
 unfold nj
 symm
 refine eO rfl (aq (aZ (aq (aZ (aq (aZ (aq (aZ (aq (aZ (bz ?_)))))))))))
 symm
 refine iD (by omega) ?_
 symm
 refine⟨by decide,?_⟩
 symm
 refine⟨by decide,?_⟩
 symm
 refine wD (fun _=>.tup []) ?_
 symm
 refine⟨trivial,by simp;omega,fun d hd=> ?_,?_⟩
 ·symm
  exact⟨by decide,rfl,rfl⟩
 ·symm
  refine⟨by show 5<=sizeLine;decide,?_⟩
  have e:D.tup ((r.bells.map BI).map fun _=>D.tup [])=D.tup ((dX r).bells.map dS):=by
   simp only[dX,List.map_map]
   rfl
  rw[e]
  exact cB (d:=(dX r).d) (fun k z=>(nomatch z)) (ee.low _) h
theorem BC{w:de}(o:eN w)(h:Q (.d (dA w).d) S):Fn tj [w.d] S Q:=by
 refine bE ?_
 unfold zY
 symm
 refine eO rfl (aq (aZ (aq (aZ (aq (aZ (aq (aZ (bz ?_)))))))))
 symm
 refine⟨by decide,?_⟩
 symm
 have l1:=o.l1
 have l2:=o.l2
 have l3:=o.l3
 have l4:=o.l4
 refine mz (α:=Rm) (fun Γ'=>∃a,Γ'= [a]) Rm.d (fun r=>(dX r).d) ⟨none,rfl⟩ ?_
 symm
 refine⟨w.rooms,rfl,trivial,by omega,fun r hr Γ' hΓ=> ?_,?_⟩
 ·obtain⟨a,rfl⟩:=hΓ
  refine aZ ⟨rfl,⟨_,rfl⟩,?_⟩
  symm
  exact qK (o.rm r hr).l1 (o.rm r hr).l2 ⟨rfl,rfl⟩
 symm
 refine mz (α:=Str×Nat) (fun Γ'=>∃a b,Γ'= [a,b]) qY (fun p=>xk ((p.2:Int),[])) ⟨none,none,rfl⟩ ?_
 symm
 refine⟨w.passes,rfl,trivial,by omega,fun r hr Γ' hΓ=> ?_,?_⟩
 ·obtain⟨a,b,rfl⟩:=hΓ
  refine eO rfl (aq (aZ (aq (aZ (bz ?_)))))
  refine⟨rfl,⟨_,_,rfl⟩,?_⟩
  symm
  refine⟨by decide,?_⟩
  symm
  exact⟨by show 2<=sizeLine;decide,rfl,rfl⟩
 symm
 refine iD (by omega) ?_
 symm
 refine mz (α:=List (Str×Nat)×List Rw) (fun Γ'=>∃a b,Γ'= [a,b,some AW.d]) j0 (fun h=>xf (eo h.1,[AW])) ⟨none,none,rfl⟩ ?_
 symm
 refine⟨w.hands,rfl,trivial,by omega,fun r hr Γ' hΓ=> ?_,?_⟩
 ·obtain⟨a,b,rfl⟩:=hΓ
  refine eO rfl (aq (aZ (aq (aZ (bz ?_)))))
  refine⟨rfl,⟨_,_,rfl⟩,?_⟩
  symm
  refine iD (by have:=(o.hd r hr).l1;omega) ?_
  symm
  refine⟨by show 1<=sizeLine;decide,?_⟩
  symm
  exact⟨by show 2<=sizeLine;decide,rfl,rfl⟩
 symm
 refine⟨by show 4<=sizeLine;decide,?_⟩
 have e1:w.rooms.map (fun r=>(dX r).d)=(dA w).rooms.map ee.d:=by simp only[dA,List.map_map];rfl
 have e2:w.passes.map (fun p=>xk ((p.2:Int),[]))=(dA w).passes.map xk:=by simp only[dA,List.map_map];rfl
 have e3:w.hands.map (fun h=>xf (eo h.1,[AW]))=(dA w).hands.map xf:=by simp only[dA,List.map_map];rfl
 rw[e1,e2,e3]
 exact cB (d:=(dA w).d) (fun k z=>(nomatch z)) (bo.low _) h
end
end W28
namespace DL
open PySem PySem.Spec L2
section
variable{Γ:cx}{S:az}
theorem k_{f:bq}{Q:D->az->Prop}(h:E f Γ S fun d S1=>∃i,d=.int i/\Q (.int (-i)) S1):E (nY f) Γ S Q:=by
 obtain⟨d,S1,e1,i,rfl,q⟩:=h
 exact⟨_,S1,by unfold nY;rw[e1];rfl,q⟩
theorem cI{Q:Option Int->az->Prop}(q:Q none S):E qE Γ S Q:=⟨_,_,rfl,q⟩
theorem cJ{f:bq}{Q:Option Int->az->Prop}(h:E f Γ S fun d S1=>∃i,d=.int i/\Q (some i) S1):E (oU f) Γ S Q:=by
 obtain⟨d,S1,e1,i,rfl,q⟩:=h
 exact⟨_,S1,by unfold oU;rw[e1];rfl,q⟩
theorem i4{f:bq}{lo hi:E2}{Q:D->az->Prop}(h:E f Γ S fun d S1=>E lo Γ S1 fun l S2=>E hi Γ S2 fun u S3=>∃ds,d=.tup ds/\Q (.tup (iT ds l u)) S3):E (qy f lo hi) Γ S Q:=by
 obtain⟨d,S1,e1,l,S2,e2,u,S3,e3,ds,rfl,q⟩:=h
 exact⟨_,S3,by unfold qy;rw[e1];simp only[Option.bind_some];rw[e2];simp only[Option.bind_some];rw[e3];rfl,q⟩
theorem F_{i j:Nat}{f:fo}{Q:Out->Prop}(h:E f Γ S fun ds S1=>∃a b,ds= [a,b]/\Q (.nx ((Γ.set i (some a)).set j (some b)) S1)):T (B2 i j f) Γ S Q:=by
 obtain⟨ds,S1,e1,a,b,rfl,q⟩:=h
 exact⟨_,by unfold B2;rw[e1];rfl,q⟩
end
theorem AA{α:Type}{xs:List α}{i:Nat}(h:i<=xs.length):iT xs none (some (i:Int))=xs.take i:=by
 unfold iT
 rw[HT.qj,HT.xN,Nat.min_eq_left h]
 simp
theorem ic{α:Type}{xs:List α}{i:Nat}(h:i<=xs.length):iT xs (some (i:Int)) none=xs.drop i:=by
 unfold iT
 rw[HT.qj,HT.xN,Nat.min_eq_left h]
 rw[List.take_of_length_le]
 simp
theorem u_{α:Type}{xs:List α}(h:0<xs.length):iT xs none (some (-1))=xs.dropLast:=by
 unfold iT
 rw[HT.qj]
 show(xs.drop 0).take (HT.er xs.length xs.length (some (-1))-0)=_
 rw[show HT.er xs.length xs.length (some (-1))=xs.length-1 by simp only[HT.er];rw[if_pos (by omega)];omega]
 simp[List.dropLast_eq_take]
theorem lu{α:Type}{xs:List α}{x:α}(h:xs.getLast? =some x):i3 xs (-1)=some x:=by
 have h0:0<xs.length:=by
  cases xs with
  |nil=>cases h
  |cons a b=>simp
 unfold i3 yK
 rw[if_neg (by omega),if_pos (by omega)]
 rw[List.getLast?_eq_getElem?] at h
 simp only[Option.bind_some]
 rw[show((-1:Int)+(xs.length:Int)).toNat=xs.length-1 by omega]
 exact h
end DL
namespace W28
open PySem PySem.Spec L2 DL
section
variable{S:az}{Q:Res->az->Prop}
theorem bK{s:bo}{h:Nat}{vs:List Int}{fs:List cv}{f:cv}(h1:s.hands[h]?=some (vs,fs))(h2:fs.getLast? =some f)(q:Q (.d f.d) S):Fn bx [s.d,.int h] S Q:=by
 refine bE ?_
 unfold nH
 symm
 refine ak rfl ?_
 symm
 refine ak (d:=xf (vs,fs)) (aP (by rw[gQm,h1];rfl)) ?_
 symm
 refine ak rfl ?_
 refine k_ ?_
 symm
 refine⟨1,rfl,?_⟩
 refine ak (d:=f.d) (lu (by rw[List.getLast?_map,h2];rfl)) ?_
 exact cB (fun k z=>(nomatch z)) rfl q
def progOf(w:de)(h:Nat)(f:cv):Option (List Rw):=
 if f.room= -1 then(w.hands[h]?).map (·.2) else if 0<=f.room/\0<=f.deed then(w.rooms[f.room.toNat]?).bind fun r=>(r.deeds[f.deed.toNat]?).map (·.2) else none
theorem jE{α:Type}{xs:List α}{i:Int}{x:α}(h0:0<=i)(h:xs[i.toNat]?=some x):i3 xs i=some x:=by
 obtain⟨n,rfl⟩:∃n:Nat,i=n:=⟨i.toNat,by omega⟩
 exact aP (by simpa using h)
theorem vB(rs:List Rw):bI 0 (.tup (rs.map Rw.d))=true:=by simp only[bI];exact aO fun r _=>r.low
theorem fc{w:de}{h:Nat}{f:cv}{pr:List Rw}(hp:progOf w h f=some pr)(q:Q (.d (.tup (pr.map Rw.d))) S):Fn dg [w.d,.int h,f.d] S Q:=by
 refine bE ?_
 unfold nq
 refine bQ (F_ ?_)
 symm
 refine ak rfl ?_
 symm
 refine ak rfl ?_
 symm
 refine⟨_,_,rfl,?_⟩
 symm
 refine dF ?_
 dsimp only
 unfold progOf at hp
 by_cases c:f.room= -1
 ·rw[if_pos c] at hp
  obtain⟨hh,h1,rfl⟩:=oQm.mp hp
  rw[decide_eq_true c,if_pos rfl]
  symm
  refine ak rfl ?_
  symm
  refine ak (d:=j0 hh) (aP (by rw[gQm,h1];rfl)) ?_
  symm
  refine ak rfl ?_
  exact cB (fun k z=>(nomatch z)) (vB _) q
 ·rw[if_neg c] at hp
  split at hp
  ·rename_i c2
   obtain⟨r,h1,hp⟩:=bind_some hp
   obtain⟨dd,h2,rfl⟩:=oQm.mp hp
   rw[decide_eq_false c,if_neg (by decide)]
   symm
   refine ak rfl ?_
   symm
   refine ak (d:=r.d) (jE c2.1 (by rw[gQm,h1];rfl)) ?_
   symm
   refine ak rfl ?_
   symm
   refine ak (d:=g6 dd) (jE c2.2 (by rw[gQm,h2];rfl)) ?_
   symm
   refine ak rfl ?_
   exact cB (fun k z=>(nomatch z)) (vB _) q
  ·cases hp
theorem di{xs:List D}{i:Nat}{d:D}(hi:i<xs.length)(hl:xs.length<=900)(h1:bB 0 xs=true)(h2:bI 0 d=true)(q:Q (.d (.tup (xs.set i d))) S):Fn bS [.tup xs,.int i,d] S Q:=by
 refine bE ?_
 unfold ph
 symm
 refine i4 ?_
 symm
 refine cI (cJ ?_)
 symm
 refine⟨_,rfl,_,rfl,?_⟩
 symm
 refine⟨by show 1<=sizeLine;decide,?_⟩
 rw[AA (by omega)]
 refine dB (by simp only[List.length_take,List.length_cons,List.length_nil];exact nQl (a8 (by omega))) ?_
 refine i4 ?_
 symm
 refine cJ ?_
 symm
 refine⟨_,rfl,cI ⟨_,rfl,?_⟩⟩
 rw[show((i:Int)+1)=((i+1:Nat):Int) by omega,ic (by omega)]
 refine dB (by simp only[lQa,List.length_take,List.length_drop,List.length_cons,List.length_nil];exact nQl (a8 (by omega))) ?_
 have e:xs.take i++ [d]++xs.drop (i+1)=xs.set i d:=by
  rw[List.set_eq_take_append_cons_drop,if_pos hi]
  simp
 rw[e]
 refine cB (fun k z=>(nomatch z)) ?_ q
 simp only[bI]
 refine oH fun z hz=> ?_
 rcases List.mem_or_eq_of_mem_set hz with hz|rfl
 ·have gen:∀l:List D,bB 0 l=true->∀z∈l,bI 0 z=true:=by
   intro l
   induction l with
   |nil=>intro _ z hz;cases hz
   | cons a l ih=>
     intro h z hz
     simp only[bB,Bool.and_eq_true] at h
     rcases List.mem_cons.mp hz with rfl|hz
     · exact h.1
     · exact ih h.2 z hz
  exact gen xs h1 z hz
 ·exact h2
end
section
variable{S:az}{Q:Res->az->Prop}
theorem map_set{α β:Type}(f:α->β)(l:List α)(i:Nat)(a:α):(l.set i a).map f=(l.map f).set i (f a):=by
 rw[List.map_set]
theorem aL(s:bo):∀k,s.d≠.ref k:=fun k z=>(nomatch z)
theorem cQ{s:bo}{i:Nat}{r:ee}(hi:i<s.rooms.length)(hl:s.rooms.length<=900)(q:Q (.d ({s with rooms:=s.rooms.set i r}:bo).d) S):Fn bN [s.d,.int i,r.d] S Q:=by
 refine bE ?_
 unfold p5
 symm
 refine ak rfl ?_
 symm
 refine di (by simpa using hi) (by simpa using hl) (aO fun r _=>r.low) r.low ?_
 symm
 refine⟨by show 1<=sizeLine;decide,?_⟩
 refine i4 ?_
 symm
 refine cJ ?_
 symm
 refine⟨_,rfl,cI ⟨_,rfl,?_⟩⟩
 refine dB (by show 4<=sizeLine;decide) ?_
 refine cB (d:=({s with rooms:=s.rooms.set i r}:bo).d) (aL _) (bo.low _) q|>fun z=> ?_
 rw[←map_set]
 exact z
theorem fF{s:bo}{i:Nat}{p:Int×List Int}(hi:i<s.passes.length)(hl:s.passes.length<=900)(q:Q (.d ({s with passes:=s.passes.set i p}:bo).d) S):Fn dJ [s.d,.int i,xk p] S Q:=by
 refine bE ?_
 unfold pd
 symm
 refine ak rfl ?_
 symm
 refine ak rfl ?_
 symm
 refine di (by simpa using hi) (by simpa using hl) (aO fun r _=>xp r) (xp p) ?_
 symm
 refine⟨by show 2<=sizeLine;decide,?_⟩
 refine i4 ?_
 symm
 refine cJ ?_
 symm
 refine⟨_,rfl,cI ⟨_,rfl,?_⟩⟩
 refine dB (by show 4<=sizeLine;decide) ?_
 refine cB (d:=({s with passes:=s.passes.set i p}:bo).d) (aL _) (bo.low _) q|>fun z=> ?_
 rw[←map_set]
 exact z
theorem fE{s:bo}{i:Nat}{vs:List Int}{fs:List cv}(hi:i<s.hands.length)(hl:s.hands.length<=900)(q:Q (.d ({s with hands:=s.hands.set i (vs,fs)}:bo).d) S):Fn cX [s.d,.int i,cy vs,.tup (fs.map cv.d)] S Q:=by
 refine bE ?_
 unfold oW
 refine vI (xJ (i4 ?_))
 symm
 refine cI (cJ ?_)
 symm
 refine⟨_,rfl,_,rfl,?_⟩
 symm
 refine ak rfl ?_
 symm
 refine⟨by show 2<=sizeLine;decide,?_⟩
 symm
 refine di (d:=xf (vs,fs)) (by simpa using hi) (by simpa using hl) (aO fun r _=>wF r) (wF (vs,fs)) ?_
 symm
 refine⟨by show 1<=sizeLine;decide,?_⟩
 refine dB (by show 4<=sizeLine;decide) ?_
 refine cB (d:=({s with hands:=s.hands.set i (vs,fs)}:bo).d) (aL _) (bo.low _) q|>fun z=> ?_
 rw[←map_set]
 exact z
theorem gq{s:bo}{h:Nat}{vs:List Int}{fs:List cv}{f:cv}(h1:s.hands[h]?=some (vs,fs))(h0:0<fs.length)(lf:fs.length<=900)(hl:s.hands.length<=900)(q:Q (.d ({s with hands:=s.hands.set h (vs,fs.dropLast++ [f])}:bo).d) S):Fn cD [s.d,.int h,f.d] S Q:=by
 refine bE ?_
 unfold gY
 symm
 refine ak rfl ?_
 symm
 refine ak (d:=xf (vs,fs)) (aP (by rw[gQm,h1];rfl)) ?_
 refine eO rfl (aq (aZ (aq (aZ (bz ?_)))))
 symm
 refine i4 ?_
 symm
 refine cI (cJ (k_ ?_))
 symm
 refine⟨1,rfl,_,rfl,_,rfl,?_⟩
 symm
 refine⟨by show 1<=sizeLine;decide,?_⟩
 rw[u_ (by simpa using h0)]
 refine dB (by simp only[List.length_dropLast,lQm,List.length_cons,List.length_nil];exact nQl (a8 (by omega))) ?_
 symm
 have e:(fs.map cv.d).dropLast++ [f.d]=(fs.dropLast++ [f]).map cv.d:=by rw[List.map_append,List.map_dropLast];rfl
 rw[e]
 refine fE (gQs.mp h1).1 hl ?_
 exact cB (aL _) (bo.low _) q
theorem mV{s:bo}{h:Nat}{vs:List Int}{fs:List cv}{f:cv}{n:Int}(h1:s.hands[h]?=some (vs,fs))(h2:fs.getLast? =some f)(lf:fs.length<=900)(hl:s.hands.length<=900)(q:Q (.d ({s with hands:=s.hands.set h (vs,fs.dropLast++ [{f with row:=n}])}:bo).d) S):Fn fL [s.d,.int h,.int n] S Q:=by
 refine bE ?_
 unfold xX
 symm
 refine bK h1 h2 ?_
 symm
 refine i4 ?_
 symm
 refine cI (cJ ?_)
 symm
 refine⟨_,rfl,_,rfl,?_⟩
 symm
 refine⟨by show 1<=sizeLine;decide,?_⟩
 refine dB (by show 3<=sizeLine;decide) ?_
 refine i4 ?_
 symm
 refine cJ ?_
 symm
 refine⟨_,rfl,cI ⟨_,rfl,?_⟩⟩
 refine dB (by show 5<=sizeLine;decide) ?_
 symm
 have h0:0<fs.length:=by
  cases fs with
  |nil=>cases h2
  |cons a b=>simp
 refine gq (f:={f with row:=n}) h1 h0 lf hl ?_
 exact cB (aL _) (bo.low _) q
def oV(r:ee)(h:Int):ee:=if r.within= -1 then{r with within:=h} else{r with row:=r.row++ [h]}
def gS(r:ee):ee:=match r.late,r.row with
 |a::l,_=>{r with within:=a,late:=l}
 | [],a::l=>{r with within:=a,row:=l}
 | [],[]=>{r with within:= -1}
theorem pP{s:bo}{i:Nat}{h:Int}{r:ee}(h1:s.rooms[i]?=some r)(hl:s.rooms.length<=900)(lr:r.row.length<=900)(q:Q (.d ({s with rooms:=s.rooms.set i (oV r h)}:bo).d) S):Fn hJ [s.d,.int i,.int h] S Q:=by
 have hi:=(gQs.mp h1).1
 refine bE ?_
 unfold ve
 symm
 refine ak rfl ?_
 symm
 refine ak (d:=r.d) (aP (by rw[gQm,h1];rfl)) ?_
 refine eO rfl (aq (aZ (aq (aZ (aq (aZ (aq (aZ (aq (aZ (bz ?_)))))))))))
 symm
 refine dF ?_
 dsimp only
 unfold oV at q
 by_cases c:r.within= -1
 ·rw[if_pos c] at q
  rw[decide_eq_true c,if_pos rfl]
  symm
  refine⟨by show 5<=sizeLine;decide,?_⟩
  symm
  refine cQ (r:={r with within:=h}) hi hl ?_
  exact cB (aL _) (bo.low _) q
 ·rw[if_neg c] at q
  rw[decide_eq_false c,if_neg (by decide)]
  symm
  refine⟨by show 1<=sizeLine;decide,?_⟩
  refine dB (by simp only[lQm,List.length_cons,List.length_nil];exact nQl (a8 (by omega))) ?_
  symm
  refine⟨by show 5<=sizeLine;decide,?_⟩
  symm
  have e:D.tup (r.row.map D.int++ [D.int h])=cy (r.row++ [h]):=by simp[cy]
  rw[e]
  refine cQ (r:={r with row:=r.row++ [h]}) hi hl ?_
  exact cB (aL _) (bo.low _) q
end
section
variable{S:az}{Q:Res->az->Prop}
theorem xj{α:Type}{a:α}{l:List α}:i3 (a::l) 0=some a:=aP (j:=0) rfl
theorem t_{S:az}{ds:List D}{Q:Bool->Prop}(q:Q (!ds.isEmpty)):Op (wN S (.tup ds)) Q:=⟨_,rfl,q⟩
theorem vK{s:bo}{i:Nat}{r:ee}(h1:s.rooms[i]?=some r)(hl:s.rooms.length<=900)(q:Q (.d ({s with rooms:=s.rooms.set i (gS r)}:bo).d) S):Fn kQ [s.d,.int i] S Q:=by
 have hi:=(gQs.mp h1).1
 refine bE ?_
 unfold Bg
 symm
 refine ak rfl ?_
 symm
 refine ak (d:=r.d) (aP (by rw[gQm,h1];rfl)) ?_
 refine eO rfl (aq (aZ (aq (aZ (aq (aZ (aq (aZ (aq (aZ (bz ?_)))))))))))
 obtain⟨vals,within,row,late,bells⟩:=r
 symm
 refine t_ ?_
 cases late with
 | cons a l=>
   refine bf (fun _=> ?_) (fun c=>by cases c)
   symm
   refine ak (d:=.int a) xj ?_
   symm
   refine i4 ?_
   symm
   refine cJ ?_
   symm
   refine⟨_,rfl,cI ⟨_,rfl,?_⟩⟩
   symm
   refine⟨by show 5<=sizeLine;decide,?_⟩
   symm
   have e:D.tup (iT ((a::l).map D.int) (some 1) none)=cy l:=by
     rw[show(some (1:Int))=some ((1:Nat):Int) from rfl,ic (by simp)]
     rfl
   rw[e]
   refine cQ (r:=⟨vals,a,row,l,bells⟩) hi hl ?_
   exact cB (aL _) (bo.low _) q
 | nil=>
   refine bf (fun c=>by cases c) (fun _=> ?_)
   refine cA ?_
   symm
   refine t_ ?_
   cases row with
   | cons a l=>
     refine bf (fun _=> ?_) (fun c=>by cases c)
     symm
     refine ak (d:=.int a) xj ?_
     symm
     refine i4 ?_
     symm
     refine cJ ?_
     symm
     refine⟨_,rfl,cI ⟨_,rfl,?_⟩⟩
     symm
     refine⟨by show 5<=sizeLine;decide,?_⟩
     symm
     have e:D.tup (iT ((a::l).map D.int) (some 1) none)=cy l:=by
       rw[show(some (1:Int))=some ((1:Nat):Int) from rfl,ic (by simp)]
       rfl
     rw[e]
     refine cQ (r:=⟨vals,a,l,[],bells⟩) hi hl ?_
     exact cB (aL _) (bo.low _) q
   | nil=>
     refine bf (fun c=>by cases c) (fun _=> ?_)
     refine cA ?_
     symm
     refine⟨by show 5<=sizeLine;decide,?_⟩
     symm
     refine cQ (r:=⟨vals,-1,[],[],bells⟩) hi hl ?_
     exact cB (aL _) (bo.low _) q
theorem eB{α:Type}{enc:α->D}{nm:α->Str}{xs:List α}(he:∀a,∃r,enc a=.tup (.str (nm a)::r))(hl:xs.length<=1000)(q:Q (.l ((xs.map nm).map D.str)) S):Fn cN [.tup (xs.map enc)] S Q:=by
 refine bE ?_
 unfold sm
 symm
 refine mz (α:=α) (fun Γ'=>∃a,Γ'= [a]) enc (fun a=>.str (nm a)) ⟨none,rfl⟩ ?_
 symm
 refine⟨xs,rfl,trivial,hl,fun r hr Γ' hΓ=> ?_,?_⟩
 ·obtain⟨a,rfl⟩:=hΓ
  refine aZ ⟨rfl,⟨_,rfl⟩,?_⟩
  obtain⟨rr,e⟩:=he r
  rw[e]
  symm
  exact ak xj ⟨rfl,rfl⟩
 ·have e:xs.map (fun a=>D.str (nm a))=(xs.map nm).map D.str:=by rw[List.map_map];rfl
  rw[e]
  exact zR (aO fun _ _=>rfl) q
theorem gh:∀ss:List Str,gk (ss.map D.str)=some (ss.map V.str)
 | []=>rfl
 |s::ss=>by simp only[List.map_cons,gk,qL,Option.bind_some];rw[gh ss];rfl
theorem sZ{x:Str}:∀{ns:List Str},x∈ns->∃j,lB (.str x) (ns.map V.str)=some j/\ns[j]?=some x
 | [],h=>by cases h
 | n::ns,h=>by
   by_cases c:n=x
   · subst c
     exact⟨0,by simp[lB,jQ],rfl⟩
   · obtain⟨j,h1,h2⟩:=sZ (ns:=ns) ((List.mem_cons.mp h).resolve_left (Ne.symm c))
     exact⟨j+1,by simp only[List.map_cons,lB];rw[h1];simp[jQ,c],by simpa using h2⟩
end
end W28
namespace DL
open PySem PySem.Spec L2
section
variable{Γ:cx}{S:az}
theorem BD{T:String}{f:bq}{Q:D->az->Prop}(h:E f Γ S fun d S1=>Op (zh S1 T d) fun k=>Q (.bl k) S1):E (uZ T f) Γ S Q:=by
 obtain⟨d,S1,e1,k,e2,q⟩:=h
 exact⟨_,S1,by unfold uZ;rw[e1];simp only[Option.bind_some];rw[e2];rfl,q⟩
theorem p8{b:Bool}{Q:Bool->Prop}(q:Q b):Op (wN S (.bl b)) Q:=⟨_,rfl,q⟩
theorem FB{f g:bq}{Q:D->az->Prop}(h:E f Γ S fun x S1=>E g Γ S1 fun y S2=>∃k kvs z v,x=.ref k/\y=.str z/\S2[k]?=some (.dct kvs)/\p7 kvs (.inr z)=some v/\Q v S2):E (Ge f g) Γ S Q:=by
 obtain⟨x,S1,e1,y,S2,e2,k,kvs,z,v,rfl,rfl,h1,h2,q⟩:=h
 exact⟨v,S2,by unfold Ge;rw[e1];simp only[Option.bind_some];rw[e2];simp only[Option.bind_some,h1,qX,h2],q⟩
theorem mh{i j:Int}{Q:D->Prop}(q:Q (.bl (!decide (i=j)))):Op (eC true S (.int i) (.int j)) Q:=⟨_,by simp[eC,qL,w6],q⟩
theorem AR{i j:Int}{Q:D->Prop}(q:Q (.int (if j<i then j else i))):Op (minD [.int i,.int j]) Q:=⟨_,rfl,q⟩
theorem Dd{i j:Int}{Q:D->Prop}(q:Q (.int (if j>i then j else i))):Op (maxD [.int i,.int j]) Q:=⟨_,rfl,q⟩
end
end DL
namespace W28
open PySem PySem.Spec L2 DL
def E3(o:Str)(a b:Int):Int:=
 if o="plus" then(if 9<a+b then 9 else a+b) else if o="minus" then(if 0>a-b then 0 else a-b) else if o="less" then(if a<b then 1 else 0)
 else if o="same" then(if a=b then 1 else 0) else(if a≠0/\b≠0 then 1 else 0)
def wg(th wt:Str->Int):Tr->Int
 |.num n=>n
 |.word x=>th x
 |.waits b=>if 0<wt b then 1 else 0
 |.no t=>if wg th wt t=0 then 1 else 0
 |.two o a b=>E3 o (wg th wt a) (wg th wt b)
theorem yX{o:Str}{a b:Int}(ha:0<=a/\a<=9)(hb:0<=b/\b<=9):0<=E3 o a b/\E3 o a b<=9:=by
 unfold E3
 repeat' split
 all_goals omega
theorem jD{th wt:Str->Int}{ws bs:List Str}(h:∀x∈ws,0<=th x/\th x<=9):∀{t:Tr},t.Ok ws bs->0<=wg th wt t/\wg th wt t<=9
 |.num n,ho=>by have:n<=9:=ho;simp only[wg];omega
 |.word x,ho=>h x ho
 |.waits b,_=>by simp only[wg];split <;>omega
 |.no t,_=>by simp only[wg];split <;>omega
 |.two o a b,ho=>yX (jD h ho.2.1) (jD h ho.2.2)
section
variable{S:az}{Q:Res->az->Prop}
theorem c8{S:az}{i:Int}{Q:Res->az->Prop}(q:Q (.d (.int i)) S):Op (settle S (.int i) S) fun p=>Q p.1 p.2:=cB (fun k z=>(nomatch z)) rfl q
theorem og{o:Str}{a b:Int}(q:Q (.d (.int (E3 o a b))) S):Fn fe [.str o,.int a,.int b] S Q:=by
 refine bE ?_
 unfold j6
 unfold E3 at q
 symm
 refine gI ?_
 dsimp only
 by_cases c1:o="plus"
 ·rw[if_pos c1] at q
  rw[decide_eq_true c1,if_pos rfl]
  symm
  refine AR ?_
  exact c8 q
 rw[if_neg c1] at q
 rw[decide_eq_false c1,if_neg (by decide)]
 refine cA ?_
 symm
 refine gI ?_
 dsimp only
 by_cases c2:o="minus"
 ·rw[if_pos c2] at q
  rw[decide_eq_true c2,if_pos rfl]
  symm
  refine Dd ?_
  exact c8 q
 rw[if_neg c2] at q
 rw[decide_eq_false c2,if_neg (by decide)]
 refine cA ?_
 symm
 refine gI ?_
 dsimp only
 by_cases c3:o="less"
 ·rw[if_pos c3] at q
  rw[decide_eq_true c3,if_pos rfl]
  symm
  by_cases c:a<b
  ·rw[if_pos c] at q
   rw[decide_eq_true c,if_pos rfl]
   symm
   exact c8 q
  ·rw[if_neg c] at q
   rw[decide_eq_false c,if_neg (by decide)]
   symm
   exact c8 q
 rw[if_neg c3] at q
 rw[decide_eq_false c3,if_neg (by decide)]
 refine cA ?_
 symm
 refine gI ?_
 dsimp only
 by_cases c4:o="same"
 ·rw[if_pos c4] at q
  rw[decide_eq_true c4,if_pos rfl]
  symm
  refine dF ?_
  dsimp only
  by_cases c:a=b
  ·rw[if_pos c] at q
   rw[decide_eq_true c,if_pos rfl]
   symm
   exact c8 q
  ·rw[if_neg c] at q
   rw[decide_eq_false c,if_neg (by decide)]
   symm
   exact c8 q
 rw[if_neg c4] at q
 rw[decide_eq_false c4,if_neg (by decide)]
 refine cA ?_
 symm
 refine mh ?_
 dsimp only
 by_cases c5:a=0
 ·rw[if_neg (fun z=>z.1 c5)] at q
  rw[decide_eq_true c5]
  show if (false=true) then _ else _
  rw[if_neg (by decide)]
  show if (false=true) then _ else _
  rw[if_neg (by decide)]
  symm
  exact c8 q
 ·rw[decide_eq_false c5]
  show if (true=true) then _ else _
  rw[if_pos rfl]
  symm
  refine mh ?_
  dsimp only
  by_cases c6:b=0
  ·rw[if_neg (fun z=>z.2 c6)] at q
   rw[decide_eq_true c6]
   show if (false=true) then _ else _
   rw[if_neg (by decide)]
   symm
   exact c8 q
  ·rw[if_pos ⟨c5,c6⟩] at q
   rw[decide_eq_false c6]
   show if (true=true) then _ else _
   rw[if_pos rfl]
   symm
   exact c8 q
end
theorem fG{Γ:cx}{S:az}{T:String}{f:bq}{d:D}{b:Bool}{Q:Bool->az->Prop}(h:E f Γ S fun x S1=>x=d/\S1=S)(hd:zh S T d=some b)(q:Q b S):E (mq (uZ T f)) Γ S Q:=by
 refine Dc (BD (h.mono fun x S1 qr=> ?_))
 obtain⟨e1,e2⟩:=qr
 subst e1 e2
 exact⟨b,hd,p8 q⟩
theorem CY{o:Str}(h:o∈ops):o≠"waits" /\o≠"not":=by
 simp only[ops,List.mem_cons,List.not_mem_nil,or_false] at h
 rcases h with rfl|rfl|rfl|rfl|rfl <;>exact⟨by decide +kernel,by decide +kernel⟩
theorem fj{th wt:Str->Int}{ws bs:List Str}{i j:Nat}{kvs kws:List (Key×D)}{S:az}(hi:S[i]?=some (.dct kvs))(hj:S[j]?=some (.dct kws))(h1:∀x∈ws,p7 kvs (.inr x)=some (.int (th x)))(h2:∀b∈bs,p7 kws (.inr b)=some (.int (wt b))):
  ∀(n:Nat) (t:Tr) {Q:Res->az->Prop},t.Ok ws bs->t.dep<=n->Q (.d (.int (wg th wt t))) S->Fn (e_ n) [t.d,.ref i,.ref j] S Q
 |0,t,Q,_,hd,_=>by cases t <;>simp[Tr.dep] at hd
 | n+1,t,Q,ho,hd,q=>by
   refine bE ?_
   unfold rC
   cases t with
   | num v=>
     refine bQ (eZ (fG (d:=.int v) (dM rfl ⟨rfl,rfl⟩) rfl ?_))
     refine bf (fun _=> ?_) (fun c=>by cases c)
     symm
     exact c8 q
   | word x=>
     refine bQ (eZ (fG (d:=.str x) (dM rfl ⟨rfl,rfl⟩) rfl ?_))
     refine bf (fun c=>by cases c) (fun _=>cA ?_)
     refine bQ (eZ (fG (d:=.str x) (dM rfl ⟨rfl,rfl⟩) rfl ?_))
     refine bf (fun _=> ?_) (fun c=>by cases c)
     refine vI (FB ?_)
     symm
     refine⟨_,_,_,_,rfl,rfl,hi,h1 x ho,?_⟩
     exact c8 q
   | waits b=>
     refine bQ (eZ (fG (d:=.tup [.str "waits",.str b]) (dM rfl ⟨rfl,rfl⟩) rfl ?_))
     refine bf (fun c=>by cases c) (fun _=>cA ?_)
     refine bQ (eZ (fG (d:=.tup [.str "waits",.str b]) (dM rfl ⟨rfl,rfl⟩) rfl ?_))
     refine bf (fun c=>by cases c) (fun _=>cA ?_)
     symm
     refine ak rfl ?_
     symm
     refine gI ?_
     dsimp only
     rw[decide_eq_true rfl,if_pos rfl]
     symm
     refine FB ?_
     symm
     refine ak rfl ?_
     refine⟨_,_,_,_,rfl,rfl,hj,h2 b ho,?_⟩
     symm
     simp only[wg] at q
     by_cases c:0<wt b
     · rw[if_pos c] at q
       rw[decide_eq_true c,if_pos rfl]
       symm
       exact c8 q
     · rw[if_neg c] at q
       rw[decide_eq_false c,if_neg (by decide)]
       symm
       exact c8 q
   | no t=>
     have hd':t.dep<=n:=by simp only[Tr.dep] at hd;omega
     refine bQ (eZ (fG (d:=.tup [.str "not",t.d]) (dM rfl ⟨rfl,rfl⟩) rfl ?_))
     refine bf (fun c=>by cases c) (fun _=>cA ?_)
     refine bQ (eZ (fG (d:=.tup [.str "not",t.d]) (dM rfl ⟨rfl,rfl⟩) rfl ?_))
     refine bf (fun c=>by cases c) (fun _=>cA ?_)
     symm
     refine ak rfl ?_
     symm
     refine gI ?_
     dsimp only
     rw[decide_eq_false (show¬(("not":Str)="waits") by decide +kernel),if_neg (by decide)]
     refine cA ?_
     symm
     refine ak rfl ?_
     symm
     refine fj hi hj h1 h2 n t ho hd' ?_
     symm
     refine ak rfl ?_
     symm
     refine gI ?_
     dsimp only
     rw[decide_eq_true rfl,if_pos rfl]
     symm
     refine dF ?_
     dsimp only
     simp only[wg] at q
     by_cases c:wg th wt t=0
     · rw[if_pos c] at q
       rw[decide_eq_true c,if_pos rfl]
       symm
       exact c8 q
     · rw[if_neg c] at q
       rw[decide_eq_false c,if_neg (by decide)]
       symm
       exact c8 q
   | two o a b=>
     have hda:a.dep<=n:=by simp only[Tr.dep] at hd;omega
     have hdb:b.dep<=n:=by simp only[Tr.dep] at hd;omega
     obtain⟨n1,n2⟩:=CY ho.1
     refine bQ (eZ (fG (d:=.tup [.str o,a.d,b.d]) (dM rfl ⟨rfl,rfl⟩) rfl ?_))
     refine bf (fun c=>by cases c) (fun _=>cA ?_)
     refine bQ (eZ (fG (d:=.tup [.str o,a.d,b.d]) (dM rfl ⟨rfl,rfl⟩) rfl ?_))
     refine bf (fun c=>by cases c) (fun _=>cA ?_)
     symm
     refine ak rfl ?_
     symm
     refine gI ?_
     dsimp only
     rw[decide_eq_false n1,if_neg (by decide)]
     refine cA ?_
     symm
     refine ak rfl ?_
     symm
     refine fj hi hj h1 h2 n a ho.2.1 hda ?_
     symm
     refine ak rfl ?_
     symm
     refine gI ?_
     dsimp only
     rw[decide_eq_false n2,if_neg (by decide)]
     refine cA ?_
     symm
     refine ak rfl ?_
     symm
     refine ak rfl ?_
     symm
     refine fj hi hj h1 h2 n b ho.2.2 hdb ?_
     symm
     refine og ?_
     exact c8 q
end W28
namespace DL
open PySem PySem.Spec L2
theorem sj{l:List (Key×D)}{k:Key}(h:k∈l.map (·.1)):∃d,p7 l k=some d/\(k,d)∈l:=by
 unfold p7
 cases e:l.find? fun kv=>decide (kv.1=k) with
 | none=>
   obtain⟨p,hp,rfl⟩:=List.mem_map.mp h
   have:=List.find?_eq_none.mp e p hp
   simp at this
 | some p=>
   have h1:=List.find?_some e
   have h2:=List.mem_of_find?_eq_some e
   have h3:p.1=k:=by simpa using h1
   exact⟨p.2,rfl,by rw[←h3];exact h2⟩
theorem vi{l:List (Key×D)}{k:Key}{v:D}{p:Key×D}(h:p∈putD l k v):p∈l\/p=(k,v):=by
 unfold putD at h
 split at h
 ·obtain⟨q,hq,e⟩:=List.mem_map.mp h
  split at e
  ·rename_i c
   rw[←e,c]
   exact .inr rfl
  ·rw[←e]
   exact .inl hq
 ·rcases mQa.mp h with h|h
  ·exact .inl h
  ·exact .inr (List.mem_singleton.mp h)
theorem jI{l:List (Key×D)}{k x:Key}{v:D}(h:x=k\/x∈l.map (·.1)):x∈(putD l k v).map (·.1):=by
 unfold putD
 split
 ·rename_i c
  have key:∀p∈l,(if p.1=k then(p.1,v) else p).1=p.1:=fun p _=>by split <;>rfl
  have e:(l.map fun p=>if p.1=k then(p.1,v) else p).map (·.1)=l.map (·.1):=by
   rw[List.map_map]
   exact List.map_congr_left key
  rw[e]
  rcases h with rfl|h
  ·obtain⟨p,hp,hc⟩:=List.any_eq_true.mp c
   exact List.mem_map.mpr ⟨p,hp,by simpa using hc⟩
  ·exact h
 ·rw[List.map_append]
  rcases h with rfl|h
  ·exact List.mem_append_right _ (by simp)
  ·exact List.mem_append_left _ h
theorem kh:∀{more l:List (Key×D)} {p:Key×D},p∈cH l more->p∈l\/p∈more
 | [],l,p,h=>.inl h
 | q::more,l,p,h=>by
   rcases kh (more:=more) (l:=putD l q.1 q.2) h with h|h
   · rcases vi h with h|rfl
     · exact .inl h
     · exact .inr (List.mem_cons_self ..)
   · exact .inr (List.mem_cons_of_mem _ h)
theorem ff:∀{more l:List (Key×D)} {x:Key},x∈l.map (·.1)\/x∈more.map (·.1)->x∈(cH l more).map (·.1)
 | [],l,x,h=>h.elim id fun z=>by cases z
 | q::more,l,x,h=>by
   refine ff (more:=more) (l:=putD l q.1 q.2) ?_
   rcases h with h|h
   · exact .inl (jI (.inr h))
   · rcases List.mem_cons.mp h with rfl|h
     · exact .inl (jI (.inl rfl))
     · exact .inr h
theorem pV:∀ss:List Str,vk (ss.map D.str)=some (ss.map Sum.inr)
 | []=>rfl
 |s::ss=>by simp only[List.map_cons,vk,qX,Option.bind_some];rw[pV ss];rfl
section
variable{Γ:cx}{S:az}
theorem Ha{Q:D->az->Prop}(q:Q (.ref S.length) (S++ [.dct []])):E GW Γ S Q:=⟨_,_,rfl,q⟩
theorem DB{f g:d_}{Q:D->az->Prop}(h:E f Γ S fun p S1=>E g Γ S1 fun r S2=>∃ss:List Str,p.1=ss.map D.str/\(p.2.stays S2 p.1/\p.1.length=r.1.length)/\Q (.ref S2.length) (S2++ [.dct (cH [] ((ss.map Sum.inr).zip r.1))])):E (E1 f g) Γ S Q:=by
 obtain⟨p,S1,e1,r,S2,e2,ss,h1,h2,q⟩:=h
 refine⟨_,_,?_,q⟩
 unfold E1
 rw[e1]
 simp only[Option.bind_some]
 rw[e2]
 simp only[Option.bind_some]
 rw[if_pos h2,h1,pV]
 rfl
theorem Fs{f g:bq}{Q:D->az->Prop}(h:E f Γ S fun x S1=>E g Γ S1 fun y S2=>∃k j l0 l m,x=.ref k/\y=.ref j/\k≠j/\S1[k]?=some (.dct l0)/\S2[k]?=some (.dct l)/\S2[j]?=some (.dct m)/\l.length+m.length<=sizeLine/\Q .non (S2.set k (.dct (cH l m)))):E (Cy f g) Γ S Q:=by
 obtain⟨x,S1,e1,y,S2,e2,k,j,l0,l,m,rfl,rfl,hn,h0,h1,h2,h3,q⟩:=h
 exact⟨_,_,by unfold Cy;rw[e1];simp only[Option.bind_some];rw[e2];simp only[Option.bind_some];rw[if_pos hn];simp only[h0,h1,h2];rw[if_pos h3],q⟩
theorem GR{f g h:bq}{Q:Out->Prop}(w:E h Γ S fun d S1=>E f Γ S1 fun x S2=>E g Γ S2 fun y S3=>∃k l z,x=.ref k/\y=.str z/\S3[k]?=some (.dct l)/\l.length<sizeLine/\Q (.nx Γ (S3.set k (.dct (putD l (.inr z) d))))):T (GD f g h) Γ S Q:=by
 obtain⟨d,S1,e1,x,S2,e2,y,S3,e3,k,l,z,rfl,rfl,h1,h2,q⟩:=w
 exact⟨_,by unfold GD;rw[e1];simp only[Option.bind_some];rw[e2];simp only[Option.bind_some];rw[e3];simp only[Option.bind_some,h1,qX];rw[if_pos h2],q⟩
theorem GL{α:Type}{n:Nat}{js:List (Option Nat)}{i:vA}{g:kT}{fk fv:bq}{Q:Out->Prop}(P:cx->Prop)(enc:α->D)(key:α->Str)(val:α->D)(h0:P (kz js Γ)) (h:E i Γ S fun p S1=>∃xs:List α,p.1=xs.map enc/\p.2 S1/\xs.length<=1000∧
   (∀x∈xs,∀Γ',P Γ'->Tg g (enc x) Γ' S1 fun Γ1 S2=>S2=S1/\P Γ1/\E fk Γ1 S1 fun y S3=>y=.str (key x)/\S3=S1/\E fv Γ1 S1 fun z S4=>z=val x/\S4=S1)∧
   Q (.nx (Γ.set n (some (.ref S1.length))) (S1++ [.dct (cH [] (xs.map fun x=>(Sum.inr (key x),val x)))]))):T (GB n (pS js i g cM fk fv)) Γ S Q:=by
 obtain⟨⟨ds,W⟩,S1,e1,xs,rfl,hW,hl,hs,q⟩:=h
 have lp:∀(l:List (Key×D)) (k:Key) (v:D),(putD l k v).length<=l.length+1:=fun l k v=>by
  unfold putD
  split <;>simp
 have go:∀(ys:List α) (Γ':cx) (acc:List (Key×D)),(∀y∈ys,y∈xs)->P Γ'->acc.length+ys.length<=1000->∃r,gR g cM fk fv W (ys.map enc) Γ' S1 acc=some (r,S1)/\r=cH acc (ys.map fun x=>(Sum.inr (key x),val x)):=by
  intro ys
  induction ys with
  |nil=>intro Γ' acc _ _ _;exact⟨acc,by simp only[List.map_nil,gR];rw[if_pos hW],rfl⟩
  | cons a ys ih=>
    intro Γ' acc hm hp hlen
    obtain⟨Γ1,S2,e2,rfl,hp1,y,S3,e3,rfl,rfl,z,S4,e4,rfl,rfl⟩:=hs a (hm a (List.mem_cons_self ..)) Γ' hp
    have hlen2:=lp acc (Sum.inr (key a)) (val a)
    simp only[List.length_cons] at hlen
    obtain⟨r,e5,hr⟩:=ih Γ1 (putD acc (Sum.inr (key a)) (val a)) (fun y hy=>hm y (List.mem_cons_of_mem _ hy)) hp1 (by omega)
    refine⟨r,?_,hr⟩
    simp only[List.map_cons,gR]
    rw[if_pos hW,e2]
    simp only[Option.bind_some,cM,if_true]
    rw[e3]
    simp only[Option.bind_some]
    rw[e4]
    simp only[Option.bind_some,qX]
    rw[if_pos (a8 (by omega))]
    exact e5
 obtain⟨r,e2,rfl⟩:=go xs _ [] (fun _ h=>h) h0 (by simpa using hl)
 exact⟨_,by unfold GB pS;rw[e1];simp only[Option.bind_some];rw[e2];rfl,q⟩
end
theorem uC{Γ:cx}{S:az}{f g:d_}{Q:(List D×(az->Prop))->az->Prop}(h:E f Γ S fun p S1=>E g Γ S1 fun r S2=>(p.2.stays S2 p.1/\p.1.length<=r.1.length)/\Q (vD p.1 r.1,fun S=>p.2.stays S p.1/\r.2.stays S r.1) S2):E (wq f g) Γ S Q:=by
 obtain⟨p,S1,e1,r,S2,e2,hc,q⟩:=h
 exact⟨_,S2,by unfold wq;rw[e1];simp only[Option.bind_some];rw[e2];simp only[Option.bind_some];rw[if_pos hc],q⟩
def i_(l:List (Key×D)):Prop:=∀p∈l,∃v:Int,p.2=.int v/\0<=v/\v<=9
theorem i_.merge{l m:List (Key×D)}(h1:i_ l)(h2:i_ m):i_ (cH l m):=fun p hp=>(kh hp).elim (h1 p) (h2 p)
theorem i_.put{l:List (Key×D)}{k:Key}{v:Int}(h:i_ l)(h0:0<=v)(h9:v<=9):i_ (putD l k (.int v)):=fun p hp=>by
 rcases vi hp with hp|rfl
 ·exact h p hp
 ·exact⟨v,rfl,h0,h9⟩
def numAt(l:List (Key×D))(x:Str):Int:=match p7 l (.inr x) with|some (.int v)=>v|_=>0
theorem lV{l:List (Key×D)}(h:i_ l){x:Str}(hx:(Sum.inr x:Key)∈l.map (·.1)):p7 l (.inr x)=some (.int (numAt l x))/\0<=numAt l x/\numAt l x<=9:=by
 obtain⟨d,h1,h2⟩:=sj hx
 obtain⟨v,h3,h4,h5⟩:=h _ h2
 have h3:d=.int v:=h3
 subst h3
 have e:numAt l x=v:=by unfold numAt;rw[h1]
 rw[e]
 exact⟨h1,h4,h5⟩
theorem Ab{ss:List Str}{vs:List Int}(h:∀v∈vs,0<=v/\v<=9):i_ ((ss.map (Sum.inr:Str->Key)).zip (vs.map D.int)):=fun p hp=>by
 have h2:p.2∈vs.map D.int:=(List.of_mem_zip (show(p.1,p.2)∈_ from hp)).2
 obtain⟨v,hv,e⟩:=List.mem_map.mp h2
 exact⟨v,e.symm,h v hv⟩
theorem Av{ss:List Str}{ds:List D}(h:ss.length=ds.length):((ss.map (Sum.inr:Str->Key)).zip ds).map (·.1)=ss.map Sum.inr:=by
 rw[List.map_fst_zip]
 simpa using Nat.le_of_eq h
end DL
namespace W28
open PySem PySem.Spec L2 DL
def dw(ts:List (Str×Nat))(vs:List Int):List (Key×D):=cH [] (((ts.map (·.1)).map Sum.inr).zip (vs.map D.int))
def zy(w:de)(s:bo)(ts:List (Str×Nat))(vs:List Int):List (Key×D):=cH (dw w.shared s.shared) (dw ts vs)
def rY(r:Rm)(rs:ee)(given:Int):List (Key×D):=putD (dw r.things rs.vals) (.inr "given") (.int given)
def yl(r:Rm)(rs:ee):List (Key×D):=cH [] ((r.bells.zip rs.bells).map fun p=>(Sum.inr p.1.1,D.int (p.2.length:Nat)))
theorem fP{ts:List (Str×Nat)}{vs:List Int}(h:∀v∈vs,0<=v/\v<=9):i_ (dw ts vs):=i_.merge (fun p hp=>by cases hp) (Ab h)
theorem fT{ts:List (Str×Nat)}{vs:List Int}(hl:ts.length=vs.length){x:Str}(h:x∈ts.map (·.1)):(Sum.inr x:Key)∈(dw ts vs).map (·.1):=by
 refine ff (.inr ?_)
 rw[Av (by simpa using hl)]
 exact List.mem_map.mpr ⟨x,h,rfl⟩
structure jT(S S':az):Prop where
 len:S.length<=S'.length
 eq:∀j,j<S.length->S'[j]?=S[j]?
theorem jT.refl{S:az}:jT S S:=⟨Nat.le_refl _,fun _ _=>rfl⟩
theorem jT.app{S S1 G:az}(x:jT S S1):jT S (S1++G):=⟨by rw[lQa];have:=x.len;omega,fun j hj=>by rw[List.getElem?_append_left (by have:=x.len;omega)];exact x.eq j hj⟩
theorem jT.put{S S1:az}{r:Nat}{o:O}(x:jT S S1)(hr:S.length<=r):jT S (S1.set r o):=⟨by simpa using x.len,fun j hj=>by rw[List.getElem?_set_ne (by omega)];exact x.eq j hj⟩
theorem jX{S S':az}{d:D}{Q:Res->az->Prop}(x:jT S S')(hd:∀k,d≠.ref k)(hl:bI 0 d=true)(q:Q (.d d) S):Op (settle S d S') fun p=>Q p.1 p.2:=by
 refine fO ⟨x.len,fun k o hk e=>.inl (by rw[←x.eq k hk];exact e)⟩ ?_ hd (cT hl) q
 apply List.ext_getElem?
 intro j
 by_cases hj:j<S.length
 ·rw[List.getElem?_take_of_lt hj]
  exact x.eq j hj
 ·rw[List.getElem?_eq_none (by rw[List.length_take];omega),List.getElem?_eq_none (by omega)]
theorem fH:∀a:Str×Nat,∃r,qY a=.tup (.str a.1::r):=fun a=>⟨_,rfl⟩
theorem xK:∀a:Str×Str,∃r,BI a=.tup (.str a.1::r):=fun a=>⟨_,rfl⟩
section
variable{S:az}{Q:Res->az->Prop}
theorem pY:∀{m l:List (Key×D)},(cH l m).length<=l.length+m.length
 | [],l=>Nat.le_refl _
 | q::m,l=>by
   have h1:(cH (putD l q.1 q.2) m).length<=(putD l q.1 q.2).length+m.length:=pY
   have h2:(putD l q.1 q.2).length<=l.length+1:=by unfold putD;split <;>simp
   show(cH (putD l q.1 q.2) m).length<=_
   simp only[List.length_cons]
   omega
theorem pL{ts:List (Str×Nat)}{vs:List Int}:(dw ts vs).length<=ts.length:=by
 refine Nat.le_trans pY ?_
 simp only[List.length_nil,List.length_zip,lQm]
 omega
theorem tE{w:de}{s:bo}{h:Nat}{ts:List (Str×Nat)}{pr:List Rw}{vs:List Int}{fs:List cv}{f:cv}{t:Tr}(hw:w.hands[h]?=some (ts,pr))(hs:s.hands[h]?=some (vs,fs))(hf:fs.getLast? =some f)(hr:f.room= -1)
  (l1:w.shared.length=s.shared.length) (l2:ts.length=vs.length) (b1:w.shared.length<=100) (b2:ts.length<=100) (v1:∀v∈s.shared,0<=v/\v<=9) (v2:∀v∈vs,0<=v/\v<=9)
  (ho:t.Ok (ts.map (·.1)++w.shared.map (·.1)) []) (hd:t.dep<=6) (q:Q (.d (.int (wg (numAt (zy w s ts vs)) (fun _=>0) t))) S):Fn bZ [w.d,s.d,.int h,t.d] S Q:=by
 have nine:i_ (zy w s ts vs):=i_.merge (fP v1) (fP v2)
 refine bE ?_
 unfold m7
 symm
 refine bK hs hf ?_
 symm
 refine ak (d:=.int f.room) rfl ?_
 symm
 refine dF ?_
 dsimp only
 rw[decide_eq_true hr,if_pos rfl]
 symm
 refine DB ?_
 symm
 refine ak rfl ?_
 symm
 refine eB (enc:=qY) (nm:=(·.1)) fH (by omega) ?_
 symm
 refine ak rfl ?_
 refine c9 (ds:=s.shared.map D.int) ?_
 refine⟨_,rfl,⟨trivial,by simp only[lQm];exact l1⟩,?_⟩
 dsimp only
 rw[show cH [] (((w.shared.map (·.1)).map (Sum.inr:Str->Key)).zip (s.shared.map D.int))=dw w.shared s.shared from rfl]
 refine bQ (fq (Fs ?_))
 symm
 refine DB ?_
 symm
 refine ak rfl ?_
 symm
 refine ak (d:=j0 (ts,pr)) (aP (by rw[gQm,hw];rfl)) ?_
 symm
 refine ak rfl ?_
 symm
 refine eB (enc:=qY) (nm:=(·.1)) fH (by omega) ?_
 symm
 refine ak rfl ?_
 symm
 refine ak (d:=xf (vs,fs)) (aP (by rw[gQm,hs];rfl)) ?_
 symm
 refine ak rfl ?_
 refine c9 (ds:=vs.map D.int) ?_
 refine⟨_,rfl,⟨trivial,by simp only[lQm];exact l2⟩,?_⟩
 dsimp only
 rw[show cH [] (((ts.map (·.1)).map (Sum.inr:Str->Key)).zip (vs.map D.int))=dw ts vs from rfl]
 have ga:(S++ [O.dct (dw w.shared s.shared)])[S.length]?=some (.dct (dw w.shared s.shared)):=aC
 have hlen:(S++ [O.dct (dw w.shared s.shared)]).length=S.length+1:=by simp
 have x1:jT S (S++ [O.dct (dw w.shared s.shared)]):=jT.refl.app
 show∃k j l0 l m,D.ref S.length=.ref k/\D.ref (S++ [O.dct (dw w.shared s.shared)]).length=.ref j/\k≠j/\(S++ [O.dct (dw w.shared s.shared)])[k]?=some (.dct l0)/\(S++ [O.dct (dw w.shared s.shared)]++ [O.dct (dw ts vs)])[k]?=some (.dct l)/\(S++ [O.dct (dw w.shared s.shared)]++ [O.dct (dw ts vs)])[j]?=some (.dct m)/\_
 refine⟨_,_,_,_,_,rfl,rfl,by omega,ga,aM ga,aC,?_,?_⟩
 ·have h1:=pL (ts:=w.shared) (vs:=s.shared)
  have h2:=pL (ts:=ts) (vs:=vs)
  exact nQl (a8 (by omega))
 have gm:((S++ [O.dct (dw w.shared s.shared)]++ [O.dct (dw ts vs)]).set S.length (.dct (cH (dw w.shared s.shared) (dw ts vs))))[S.length]?=some (.dct (zy w s ts vs)):=cp (aM ga)
 have x2:jT S ((S++ [O.dct (dw w.shared s.shared)]++ [O.dct (dw ts vs)]).set S.length (.dct (cH (dw w.shared s.shared) (dw ts vs)))):=x1.app.put (Nat.le_refl _)
 generalize ((S++ [O.dct (dw w.shared s.shared)]++ [O.dct (dw ts vs)]).set S.length (.dct (cH (dw w.shared s.shared) (dw ts vs))))=S2 at gm x2⊢
 symm
 refine Ha ?_
 symm
 refine fj (th:=numAt (zy w s ts vs)) (wt:=fun _=>0) (ws:=ts.map (·.1)++w.shared.map (·.1)) (bs:= []) (aM gm) aC (fun x hx=> ?_) (fun b hb=>by cases hb) 6 t ho hd ?_
 ·refine(lV nine ?_).1
  refine ff ?_
  rcases mQa.mp hx with hx|hx
  ·exact .inr (fT l2 hx)
  ·exact .inl (fT l1 hx)
 ·exact jX x2.app (fun k z=>(nomatch z)) rfl q
end
section
variable{S:az}{Q:Res->az->Prop}
theorem uX:∀(bs:List (Str×Str)) (ls:List (List (Int×Int))),vD ((bs.map (·.1)).map D.str) (ls.map dS)=(bs.zip ls).map fun p=>D.tup [.str p.1.1,dS p.2]
 | [],_=>rfl
 |_::_,[]=>rfl
 | b::bs,l::ls=>by
   have:=uX bs ls
   simp only[vD,List.map_cons,List.zipWith_cons_cons,List.zip_cons_cons] at this⊢
   rw[this]
def uP(r:Rm)(rs:ee)(x:Str):Int:=numAt (yl r rs) x
theorem An{r:Rm}{rs:ee}(hl:r.bells.length=rs.bells.length){x:Str}(h:x∈r.bells.map (·.1)):p7 (yl r rs) (.inr x)=some (.int (uP r rs x)):=by
 have hk:(Sum.inr x:Key)∈(yl r rs).map (·.1):=by
  refine ff (.inr ?_)
  rw[List.map_map]
  obtain⟨b,hb,rfl⟩:=List.mem_map.mp h
  obtain⟨i,hi,e⟩:=List.getElem_of_mem hb
  refine List.mem_map.mpr ⟨(b,rs.bells[i]'(by omega)),?_,rfl⟩
  rw[←e]
  have:(r.bells.zip rs.bells)[i]?=some (r.bells[i],rs.bells[i]'(by omega)):=by
   rw[List.getElem?_zip_eq_some]
   exact⟨gQe hi,gQe (by omega)⟩
  exact mQg this
 obtain⟨d,h1,h2⟩:=sj hk
 have hi:∃v:Int,d=.int v:=by
  rcases kh h2 with h2|h2
  ·cases h2
  ·obtain⟨p,_,e⟩:=List.mem_map.mp h2
   exact⟨_,(congrArg (·.2) e).symm⟩
 obtain⟨v,rfl⟩:=hi
 unfold uP DL.numAt
 rw[h1]
theorem qJ{w:de}{s:bo}{h i:Nat}{vs:List Int}{fs:List cv}{f:cv}{r:Rm}{rs:ee}{t:Tr}(hs:s.hands[h]?=some (vs,fs))(hf:fs.getLast? =some f)(hr:f.room=i)(hw:w.rooms[i]?=some r)(hsr:s.rooms[i]?=some rs)
  (l1:r.things.length=rs.vals.length) (l2:r.bells.length=rs.bells.length) (b1:r.things.length<=100) (b2:r.bells.length<=100) (v1:∀v∈rs.vals,0<=v/\v<=9) (v2:0<=f.given/\f.given<=9)
  (ho:t.Ok (r.things.map (·.1)++eK) (r.bells.map (·.1))) (hd:t.dep<=6) (q:Q (.d (.int (wg (numAt (rY r rs f.given)) (uP r rs) t))) S):Fn bZ [w.d,s.d,.int h,t.d] S Q:=by
 have nine:i_ (rY r rs f.given):=(fP v1).put v2.1 v2.2
 refine bE ?_
 unfold m7
 symm
 refine bK hs hf ?_
 symm
 refine ak (d:=.int f.room) rfl ?_
 symm
 refine dF ?_
 dsimp only
 rw[decide_eq_false (show¬f.room= -1 by omega),if_neg (by decide),hr]
 refine cA ?_
 symm
 refine DB ?_
 symm
 refine ak rfl ?_
 symm
 refine ak (d:=r.d) (aP (by rw[gQm,hw];rfl)) ?_
 symm
 refine ak rfl ?_
 symm
 refine eB (enc:=qY) (nm:=(·.1)) fH (by omega) ?_
 symm
 refine ak rfl ?_
 symm
 refine ak (d:=rs.d) (aP (by rw[gQm,hsr];rfl)) ?_
 symm
 refine ak rfl ?_
 refine c9 (ds:=rs.vals.map D.int) ?_
 refine⟨_,rfl,⟨trivial,by simp only[lQm];exact l1⟩,?_⟩
 dsimp only
 rw[show cH [] (((r.things.map (·.1)).map (Sum.inr:Str->Key)).zip (rs.vals.map D.int))=dw r.things rs.vals from rfl]
 have x1:jT S (S++ [O.dct (dw r.things rs.vals)]):=jT.refl.app
 refine bQ (GR ?_)
 symm
 refine ak (d:=.int f.given) rfl ?_
 symm
 refine⟨_,_,_,rfl,rfl,aC,a8 (by have:=pL (ts:=r.things) (vs:=rs.vals);omega),?_⟩
 have gm:((S++ [O.dct (dw r.things rs.vals)]).set S.length (.dct (putD (dw r.things rs.vals) (.inr "given") (.int f.given))))[S.length]?=some (.dct (rY r rs f.given)):=cp aC
 have x2:jT S ((S++ [O.dct (dw r.things rs.vals)]).set S.length (.dct (putD (dw r.things rs.vals) (.inr "given") (.int f.given)))):=x1.put (Nat.le_refl _)
 generalize ((S++ [O.dct (dw r.things rs.vals)]).set S.length (.dct (putD (dw r.things rs.vals) (.inr "given") (.int f.given))))=S2 at gm x2⊢
 refine bQ (GL (α:=(Str×Str)×List (Int×Int)) (fun Γ'=>∃a b,Γ'= [a,b]) (fun p=>D.tup [.str p.1.1,dS p.2]) (fun p=>p.1.1) (fun p=>.int (p.2.length:Nat)) ⟨none,none,rfl⟩ (uC ?_))
 symm
 refine ak rfl ?_
 symm
 refine ak (d:=r.d) (aP (by rw[gQm,hw];rfl)) ?_
 symm
 refine ak rfl ?_
 symm
 refine eB (enc:=BI) (nm:=(·.1)) xK (by omega) ?_
 symm
 refine ak rfl ?_
 symm
 refine ak (d:=rs.d) (aP (by rw[gQm,hsr];rfl)) ?_
 symm
 refine ak rfl ?_
 refine c9 (ds:=rs.bells.map dS) ?_
 refine⟨⟨trivial,by simp only[lQm];omega⟩,r.bells.zip rs.bells,uX _ _,⟨trivial,trivial⟩,by rw[List.length_zip];omega,fun p hp Γ' hΓ=> ?_,?_⟩
 ·obtain⟨a,b,rfl⟩:=hΓ
  refine eO rfl (aq (aZ (aq (aZ (bz ?_)))))
  refine⟨rfl,⟨_,_,rfl⟩,?_⟩
  symm
  refine⟨rfl,rfl,?_⟩
  symm
  refine c9 (ds:=p.2.map pairD) ?_
  exact⟨by simp,rfl⟩
 symm
 refine fj (th:=numAt (rY r rs f.given)) (wt:=uP r rs) (ws:=r.things.map (·.1)++eK) (bs:=r.bells.map (·.1)) (kws:=yl r rs) (aM gm) aC (fun x hx=> ?_) (fun b hb=>An l2 hb) 6 t ho hd ?_
 ·refine(lV nine ?_).1
  refine jI ?_
  rcases mQa.mp hx with hx|hx
  ·exact .inr (fT l1 hx)
  ·left
   rw[List.mem_singleton.mp hx]
 ·exact jX x2.app (fun k z=>(nomatch z)) rfl q
end
end W28
namespace DL
open PySem PySem.Spec L2
theorem yN{Γ:cx}{S:az}{neg:Bool}{f:bq}{g:d_}{Q:D->az->Prop}(h:E f Γ S fun x S1=>E g Γ S1 fun p S2=>∃v vs,qL x=some v/\gk p.1=some vs/\Q (.bl (if neg then !Bb v vs else Bb v vs)) S2):E (AJ neg f g) Γ S Q:=by
 obtain⟨x,S1,e1,p,S2,e2,v,vs,h1,h2,q⟩:=h
 exact⟨_,S2,by unfold AJ;rw[e1];simp only[Option.bind_some];rw[e2];simp only[Option.bind_some];rw[h1,h2];rfl,q⟩
theorem uv{x:Str}{ss:List Str}:Bb (.str x) (ss.map V.str)=decide (x∈ss):=by
 induction ss with
 |nil=>rfl
 | cons a ss ih=>
   show(jQ (.str a) (.str x)||Bb (.str x) (ss.map V.str))=_
   rw[ih]
   simp only[jQ,List.mem_cons]
   by_cases c:a=x
   · subst c;simp
   · have c':¬x=a:=fun z=>c z.symm
     simp[c,c']
end DL
namespace W28
open PySem PySem.Spec L2 DL
section
variable{S:az}{Q:Res->az->Prop}
def ef(ns:List Str)(vs:List Int)(x:Str)(v:Int):List Int:=vs.set ((lB (.str x) (ns.map V.str)).getD 0) v
theorem kZ{α:Type}{enc:α->D}{nm:α->Str}{xs:List α}{x:Str}(he:∀a,∃r,enc a=.tup (.str (nm a)::r))(hl:xs.length<=1000)(hx:x∈xs.map nm)(q:((lB (.str x) ((xs.map nm).map V.str)).getD 0)<xs.length->Q (.d (.int ((lB (.str x) ((xs.map nm).map V.str)).getD 0:Nat))) S):Fn b9 [.tup (xs.map enc),.str x] S Q:=by
 refine bE ?_
 unfold rO
 obtain⟨j,h1,h2⟩:=sZ hx
 have hj:j<xs.length:=by have:=(gQs.mp h2).1;simpa using this
 rw[h1] at q
 refine vI ?_
 have key:E (gC (cV cN (ae (af 0) ai))) ([D.tup (xs.map enc),D.str x].map some++List.replicate (2- [D.tup (xs.map enc),D.str x].length) none) S fun p S1=>p=((xs.map nm).map D.str,.fr)/\S1=S:=by
  symm
  exact eB he hl ⟨rfl,rfl⟩
 obtain⟨p,S1,e1,rfl,rfl⟩:=key
 refine⟨.int j,S1,?_,cB (fun k z=>(nomatch z)) rfl (q hj)⟩
 unfold Ew
 rw[e1]
 simp only[Option.bind_some]
 rw[if_pos (show Tag.fr.isL=true from rfl)]
 show((af 1 _ S1).bind _)=_
 rw[show af 1 ([D.tup (xs.map enc),D.str x].map some++List.replicate (2- [D.tup (xs.map enc),D.str x].length) none) S1=some (.str x,S1) from rfl]
 simp only[Option.bind_some]
 rw[if_pos (show Tag.stays S1 _ .fr from trivial)]
 show(qL (.str x)).bind _=_
 simp only[qL,Option.bind_some]
 rw[gh]
 simp only[Option.bind_some]
 rw[h1]
 rfl
theorem Bo{w:de}{s:bo}{h i:Nat}{vs:List Int}{fs:List cv}{f:cv}{r:Rm}{rs:ee}{x:Str}{v:Int}(hs:s.hands[h]?=some (vs,fs))(hf:fs.getLast? =some f)(hr:f.room=i)(hw:w.rooms[i]?=some r)(hsr:s.rooms[i]?=some rs)
  (l1:r.things.length=rs.vals.length) (b1:r.things.length<=100) (b2:s.rooms.length<=100) (hx:x∈r.things.map (·.1))
  (q:Q (.d ({s with rooms:=s.rooms.set i {rs with vals:=ef (r.things.map (·.1)) rs.vals x v}}:bo).d) S):Fn dP [w.d,s.d,.int h,.str x,.int v] S Q:=by
 refine bE ?_
 unfold ki
 symm
 refine bK hs hf ?_
 symm
 refine ak (d:=.int f.room) rfl ?_
 symm
 refine mh ?_
 dsimp only
 rw[decide_eq_false (show¬f.room= -1 by omega),hr]
 show if (true=true) then _ else _
 rw[if_pos rfl]
 symm
 refine ak rfl ?_
 symm
 refine ak (d:=r.d) (aP (by rw[gQm,hw];rfl)) ?_
 symm
 refine ak rfl ?_
 symm
 refine kZ (enc:=qY) (nm:=(·.1)) fH (by omega) hx fun hj=> ?_
 symm
 refine ak rfl ?_
 symm
 refine ak (d:=rs.d) (aP (by rw[gQm,hsr];rfl)) ?_
 symm
 refine ak rfl ?_
 symm
 refine di (xs:=rs.vals.map D.int) (by rw[lQm];omega) (by rw[lQm];omega) (aO fun _ _=>rfl) rfl ?_
 symm
 refine⟨by show 1<=sizeLine;decide,?_⟩
 refine i4 ?_
 symm
 refine ak rfl ?_
 symm
 refine ak (d:=rs.d) (aP (by rw[gQm,hsr];rfl)) ?_
 refine cJ ?_
 symm
 refine⟨_,rfl,cI ⟨_,rfl,?_⟩⟩
 refine dB (by show 5<=sizeLine;decide) ?_
 symm
 have e:({rs with vals:=ef (r.things.map (·.1)) rs.vals x v}:ee).d=.tup ([.tup ((rs.vals.map D.int).set ((lB (.str x) ((r.things.map (·.1)).map V.str)).getD 0) (.int v))]++iT [cy rs.vals,.int rs.within,cy rs.row,cy rs.late,.tup (rs.bells.map dS)] (some 1) none):=by
  show D.tup [cy (ef _ _ _ _),_,_,_,_]=_
  unfold ef cy
  rw[map_set]
  rfl
 rw[←e]
 refine cQ (gQs.mp hsr).1 (by omega) ?_
 exact cB (aL _) (bo.low _) q
end
section
variable{S:az}{Q:Res->az->Prop}
def tX(w:de)(s:bo)(h:Nat)(ts:List (Str×Nat))(vs:List Int)(fs:List cv)(x:Str)(v:Int):bo:=
 if x∈w.shared.map (·.1) then{s with shared:=ef (w.shared.map (·.1)) s.shared x v} else{s with hands:=s.hands.set h (ef (ts.map (·.1)) vs x v,fs)}
theorem BW{w:de}{s:bo}{h:Nat}{ts:List (Str×Nat)}{pr:List Rw}{vs:List Int}{fs:List cv}{f:cv}{x:Str}{v:Int}(hw:w.hands[h]?=some (ts,pr))(hs:s.hands[h]?=some (vs,fs))(hf:fs.getLast? =some f)(hr:f.room= -1)
  (l1:w.shared.length=s.shared.length) (l2:ts.length=vs.length) (b1:w.shared.length<=100) (b2:ts.length<=100) (b3:s.hands.length<=100) (hx:x∈ts.map (·.1)++w.shared.map (·.1))
  (q:Q (.d (tX w s h ts vs fs x v).d) S):Fn dP [w.d,s.d,.int h,.str x,.int v] S Q:=by
 refine bE ?_
 unfold ki
 symm
 refine bK hs hf ?_
 symm
 refine ak (d:=.int f.room) rfl ?_
 symm
 refine mh ?_
 dsimp only
 rw[decide_eq_true hr]
 refine bf (fun c=>by cases c) (fun _=>cA ?_)
 refine bQ (eZ (fw (yN ?_)))
 symm
 refine ak rfl ?_
 symm
 refine eB (enc:=qY) (nm:=(·.1)) fH (by omega) ?_
 symm
 refine⟨_,_,rfl,gh _,?_⟩
 unfold tX at q
 show if Bb (.str x) ((w.shared.map (·.1)).map V.str)=true then _ else _
 rw[uv]
 by_cases c:x∈w.shared.map (·.1)
 ·rw[if_pos c] at q
  rw[decide_eq_true c,if_pos rfl]
  symm
  refine ak rfl ?_
  symm
  refine ak rfl ?_
  symm
  refine kZ (enc:=qY) (nm:=(·.1)) fH (by omega) c fun hj=> ?_
  symm
  refine di (xs:=s.shared.map D.int) (by rw[lQm];omega) (by rw[lQm];omega) (aO fun _ _=>rfl) rfl ?_
  symm
  refine ak rfl ?_
  symm
  refine ak rfl ?_
  symm
  refine ak rfl ?_
  symm
  refine⟨by show 4<=sizeLine;decide,?_⟩
  rw[←map_set]
  exact cB (d:=({s with shared:=ef (w.shared.map (·.1)) s.shared x v}:bo).d) (aL _) (bo.low _) q
 ·rw[if_neg c] at q
  rw[decide_eq_false c,if_neg (by decide)]
  refine cA ?_
  have hx':x∈ts.map (·.1):=(mQa.mp hx).resolve_right c
  symm
  refine ak rfl ?_
  symm
  refine ak (d:=xf (vs,fs)) (aP (by rw[gQm,hs];rfl)) ?_
  refine eO rfl (aq (aZ (aq (aZ (bz ?_)))))
  symm
  refine ak rfl ?_
  symm
  refine ak (d:=j0 (ts,pr)) (aP (by rw[gQm,hw];rfl)) ?_
  symm
  refine ak rfl ?_
  symm
  refine kZ (enc:=qY) (nm:=(·.1)) fH (by omega) hx' fun hj=> ?_
  symm
  refine di (xs:=vs.map D.int) (by rw[lQm];omega) (by rw[lQm];omega) (aO fun _ _=>rfl) rfl ?_
  symm
  rw[←map_set]
  rw[show D.tup ((vs.set ((lB (.str x) ((ts.map (·.1)).map V.str)).getD 0) v).map D.int)=cy (ef (ts.map (·.1)) vs x v) from rfl]
  generalize ef (ts.map (·.1)) vs x v=nv at q⊢
  have hh:h<s.hands.length:=(gQs.mp hs).1
  have hb:s.hands.length<=900:=by omega
  have q2:Op (settle S ({s with hands:=s.hands.set h (nv,fs)}:bo).d S) fun p=>Q p.1 p.2:=cB (aL _) (bo.low _) q
  exact fE hh hb q2
end
section
variable{S:az}{Q:Res->az->Prop}
def fB(ns:List Str)(x:Str):Nat:=(lB (.str x) (ns.map V.str)).getD 0
theorem kq{ns:List Str}{x:Str}(h:x∈ns):fB ns x<ns.length/\ns[fB ns x]?=some x:=by
 obtain⟨j,h1,h2⟩:=sZ h
 unfold fB
 rw[h1]
 exact⟨(gQs.mp h2).1,h2⟩
theorem gZ{α:Type}{enc:α->D}{nm:α->Str}{xs:List α}{x:Str}(he:∀a,∃r,enc a=.tup (.str (nm a)::r))(hl:xs.length<=1000)(hx:x∈xs.map nm)(q:Q (.d (.int (fB (xs.map nm) x:Nat))) S):Fn b9 [.tup (xs.map enc),.str x] S Q:=kZ he hl hx fun _=>q
theorem kF{w:de}{s:bo}{h i:Nat}{vs:List Int}{fs:List cv}{f:cv}{r:Rm}{x:Str}(hs:s.hands[h]?=some (vs,fs))(hf:fs.getLast? =some f)(hr:f.room=i)(hw:w.rooms[i]?=some r)(b2:r.bells.length<=100)(hx:x∈r.bells.map (·.1))
  (q:Q (.d (.tup [.int i,.int (fB (r.bells.map (·.1)) x:Nat)])) S):Fn fg [w.d,s.d,.int h,.str x] S Q:=by
 refine bE ?_
 unfold vo
 symm
 refine bK hs hf ?_
 symm
 refine ak (d:=.int f.room) rfl ?_
 rw[hr]
 symm
 refine ak rfl ?_
 symm
 refine ak (d:=r.d) (aP (by rw[gQm,hw];rfl)) ?_
 symm
 refine ak rfl ?_
 symm
 refine gZ (enc:=BI) (nm:=(·.1)) xK (by omega) hx ?_
 symm
 refine⟨by show 2<=sizeLine;decide,?_⟩
 exact cB (fun k z=>(nomatch z)) rfl q
theorem iV{s:bo}{i b:Nat}{rs:ee}{l:List (Int×Int)}(hsr:s.rooms[i]?=some rs)(hb:b<rs.bells.length)(b1:rs.bells.length<=100)(b2:s.rooms.length<=100)
  (q:Q (.d ({s with rooms:=s.rooms.set i {rs with bells:=rs.bells.set b l}}:bo).d) S):Fn dq [s.d,.int i,.int b,dS l] S Q:=by
 refine bE ?_
 unfold pK
 symm
 refine ak rfl ?_
 symm
 refine ak (d:=rs.d) (aP (by rw[gQm,hsr];rfl)) ?_
 symm
 refine i4 ?_
 symm
 refine cI (cJ ?_)
 symm
 refine⟨_,rfl,_,rfl,?_⟩
 symm
 refine ak rfl ?_
 symm
 refine di (xs:=rs.bells.map dS) (by rw[lQm];omega) (by rw[lQm];omega) (aO fun l _=>qf l) (qf l) ?_
 symm
 refine⟨by show 1<=sizeLine;decide,?_⟩
 refine dB (by show 5<=sizeLine;decide) ?_
 symm
 rw[←map_set]
 generalize hnb:rs.bells.set b l=nb at q⊢
 have e:({rs with bells:=nb}:ee).d=.tup (iT [cy rs.vals,.int rs.within,cy rs.row,cy rs.late,.tup (rs.bells.map dS)] none (some 4)++ [.tup (nb.map dS)]):=rfl
 rw[←e]
 have hi:i<s.rooms.length:=(gQs.mp hsr).1
 have hl:s.rooms.length<=900:=by omega
 have q2:Op (settle S ({s with rooms:=s.rooms.set i {rs with bells:=nb}}:bo).d S) fun p=>Q p.1 p.2:=cB (aL _) (bo.low _) q
 exact cQ hi hl q2
def lF(p:Int×List Int)(h:Int):Int×List Int:=if 0<p.1 then(p.1-1,p.2) else(p.1,p.2++ [h])
def jb(p:Int×List Int):Int×List Int:=match p.2 with
 |_::l=>(p.1,l)
 | []=>(if 9<p.1+1 then 9 else p.1+1,[])
theorem vX{w:de}{s:bo}{h:Int}{x:Str}{p:Int×List Int}(hx:x∈w.passes.map (·.1))(hp:s.passes[fB (w.passes.map (·.1)) x]?=some p)(b1:w.passes.length<=100)(b2:s.passes.length<=100)(b3:p.2.length<=900)
  (q:Q (.d ({s with passes:=s.passes.set (fB (w.passes.map (·.1)) x) (lF p h)}:bo).d) S):Fn my [w.d,s.d,.int h,.str x] S Q:=by
 refine bE ?_
 unfold z_
 symm
 refine ak rfl ?_
 symm
 refine gZ (enc:=qY) (nm:=(·.1)) fH (by omega) hx ?_
 generalize fB (w.passes.map (·.1)) x=j at hp q⊢
 have hj:j<s.passes.length:=(gQs.mp hp).1
 have hl:s.passes.length<=900:=by omega
 symm
 refine ak rfl ?_
 symm
 refine ak (d:=xk p) (aP (by rw[gQm,hp];rfl)) ?_
 refine eO rfl (aq (aZ (aq (aZ (bz ?_)))))
 have q2:Op (settle S ({s with passes:=s.passes.set j (lF p h)}:bo).d S) fun p=>Q p.1 p.2:=cB (aL _) (bo.low _) q
 unfold lF at q2
 symm
 by_cases c:0<p.1
 ·rw[if_pos c] at q2
  rw[decide_eq_true c,if_pos rfl]
  symm
  refine⟨by show 2<=sizeLine;decide,?_⟩
  symm
  exact fF (p:=(p.1-1,p.2)) hj hl q2
 ·rw[if_neg c] at q2
  rw[decide_eq_false c,if_neg (by decide)]
  refine cA ?_
  symm
  refine⟨by show 1<=sizeLine;decide,?_⟩
  refine dB (by simp only[lQm,List.length_cons,List.length_nil];exact nQl (a8 (by omega))) ?_
  symm
  refine⟨by show 2<=sizeLine;decide,?_⟩
  symm
  have e:D.tup [.int p.1,.tup (p.2.map D.int++ [.int h])]=xk (p.1,p.2++ [h]):=by simp[xk,cy]
  rw[e]
  exact fF hj hl q2
end
section
variable{S:az}{Q:Res->az->Prop}
theorem j7{w:de}{s:bo}{x:Str}{p:Int×List Int}(hx:x∈w.passes.map (·.1))(hp:s.passes[fB (w.passes.map (·.1)) x]?=some p)(b1:w.passes.length<=100)(b2:s.passes.length<=100)
  (q:Q (.d ({s with passes:=s.passes.set (fB (w.passes.map (·.1)) x) (jb p)}:bo).d) S):Fn eD [w.d,s.d,.str x] S Q:=by
 refine bE ?_
 unfold nz
 symm
 refine ak rfl ?_
 symm
 refine gZ (enc:=qY) (nm:=(·.1)) fH (by omega) hx ?_
 generalize fB (w.passes.map (·.1)) x=j at hp q⊢
 have hj:j<s.passes.length:=(gQs.mp hp).1
 have hl:s.passes.length<=900:=by omega
 symm
 refine ak rfl ?_
 symm
 refine ak (d:=xk p) (aP (by rw[gQm,hp];rfl)) ?_
 refine eO rfl (aq (aZ (aq (aZ (bz ?_)))))
 have q2:Op (settle S ({s with passes:=s.passes.set j (jb p)}:bo).d S) fun p=>Q p.1 p.2:=cB (aL _) (bo.low _) q
 obtain⟨v,row⟩:=p
 symm
 refine t_ ?_
 cases row with
 | cons a l=>
   refine bf (fun _=> ?_) (fun c=>by cases c)
   symm
   refine i4 ?_
   symm
   refine cJ ?_
   symm
   refine⟨_,rfl,cI ⟨_,rfl,?_⟩⟩
   symm
   refine⟨by show 2<=sizeLine;decide,?_⟩
   symm
   have e:D.tup (iT ((a::l).map D.int) (some 1) none)=cy l:=by
     rw[show(some (1:Int))=some ((1:Nat):Int) from rfl,ic (by simp)]
     rfl
   rw[e]
   exact fF (p:=(v,l)) hj hl q2
 | nil=>
   refine bf (fun c=>by cases c) (fun _=>cA ?_)
   symm
   refine AR ?_
   symm
   refine⟨by show 2<=sizeLine;decide,?_⟩
   symm
   exact fF (p:=(if 9<v+1 then 9 else v+1,[])) hj hl q2
theorem yY{wd sd hd rd:D}{s:bo}(q:Q (.d s.d) S):Fn oF [wd,s.d,hd,rd] S Q:=by
 refine bE ?_
 unfold xP
 symm
 exact cB (aL _) (bo.low _) q
theorem AV{wd:D}{s:bo}{h n:Nat}{vs:List Int}{fs:List cv}{f:cv}(h1:s.hands[h]?=some (vs,fs))(h2:fs.getLast? =some f)(lf:fs.length<=900)(hl:s.hands.length<=900)(q:Q (.d ({s with hands:=s.hands.set h (vs,fs.dropLast++ [{f with row:=n}])}:bo).d) S):Fn s_ [wd,s.d,.int h,(Rw.go n).d] S Q:=by
 refine bE ?_
 unfold Ad
 symm
 refine ak (d:=.int n) rfl ?_
 symm
 have q2:Op (settle S ({s with hands:=s.hands.set h (vs,fs.dropLast++ [{f with row:=n}])}:bo).d S) fun p=>Q p.1 p.2:=cB (aL _) (bo.low _) q
 exact mV h1 h2 lf hl q2
end
section
variable{S:az}{Q:Res->az->Prop}
theorem xC{w:de}{s:bo}{h:Int}{x:Str}{p:Int×List Int}(hx:x∈w.passes.map (·.1))(hp:s.passes[fB (w.passes.map (·.1)) x]?=some p)(b1:w.passes.length<=100)(b2:s.passes.length<=100)(b3:p.2.length<=900)
  (q:Q (.d ({s with passes:=s.passes.set (fB (w.passes.map (·.1)) x) (lF p h)}:bo).d) S):Fn me [w.d,s.d,.int h,(Rw.take x).d] S Q:=by
 refine bE ?_
 unfold vE
 symm
 refine ak (d:=.str x) rfl ?_
 symm
 have q2:Op (settle S ({s with passes:=s.passes.set (fB (w.passes.map (·.1)) x) (lF p h)}:bo).d S) fun p=>Q p.1 p.2:=cB (aL _) (bo.low _) q
 exact vX hx hp b1 b2 b3 q2
theorem wZ{w:de}{s:bo}{hd:D}{x:Str}{p:Int×List Int}(hx:x∈w.passes.map (·.1))(hp:s.passes[fB (w.passes.map (·.1)) x]?=some p)(b1:w.passes.length<=100)(b2:s.passes.length<=100)
  (q:Q (.d ({s with passes:=s.passes.set (fB (w.passes.map (·.1)) x) (jb p)}:bo).d) S):Fn lD [w.d,s.d,hd,(Rw.give x).d] S Q:=by
 refine bE ?_
 unfold vM
 symm
 refine ak (d:=.str x) rfl ?_
 symm
 have q2:Op (settle S ({s with passes:=s.passes.set (fB (w.passes.map (·.1)) x) (jb p)}:bo).d S) fun p=>Q p.1 p.2:=cB (aL _) (bo.low _) q
 exact j7 hx hp b1 b2 q2
end
section
variable{S:az}{Q:Res->az->Prop}
def xB(w:de)(s:bo)(h:Nat)(t:Tr)(v:Int):Prop:=∀(S:az) (Q:Res->az->Prop),Q (.d (.int v)) S->Fn bZ [w.d,s.d,.int h,t.d] S Q
def Puts(w:de)(s:bo)(h:Nat)(x:Str)(v:Int)(s':bo):Prop:=∀(S:az) (Q:Res->az->Prop),Q (.d s'.d) S->Fn dP [w.d,s.d,.int h,.str x,.int v] S Q
theorem xw{w:de}{s:bo}{h:Int}{x y:Str}{p p2:Int×List Int}(hx:x∈w.passes.map (·.1))(hy:y∈w.passes.map (·.1))(hp:s.passes[fB (w.passes.map (·.1)) x]?=some p)(b1:w.passes.length<=100)(b2:s.passes.length<=100)(b3:p2.2.length<=900)
  (hp2:(s.passes.set (fB (w.passes.map (·.1)) x) (jb p))[fB (w.passes.map (·.1)) y]?=some p2)
  (q:Q (.d ({s with passes:=(s.passes.set (fB (w.passes.map (·.1)) x) (jb p)).set (fB (w.passes.map (·.1)) y) (lF p2 h)}:bo).d) S):Fn l_ [w.d,s.d,.int h,(Rw.pass x y).d] S Q:=by
 refine bE ?_
 unfold vq
 symm
 refine ak (d:=.str x) rfl ?_
 symm
 refine j7 hx hp b1 b2 ?_
 symm
 refine ak (d:=.str y) rfl ?_
 symm
 have q2:Op (settle S ({s with passes:=(s.passes.set (fB (w.passes.map (·.1)) x) (jb p)).set (fB (w.passes.map (·.1)) y) (lF p2 h)}:bo).d S) fun p=>Q p.1 p.2:=cB (aL _) (bo.low _) q
 exact vX (s:={s with passes:=s.passes.set (fB (w.passes.map (·.1)) x) (jb p)}) hy hp2 b1 (by simpa using b2) b3 q2
theorem zc{w:de}{s s':bo}{h:Nat}{x:Str}{t:Tr}{v:Int}(hr:xB w s h t v)(hp:Puts w s h x v s')(q:Q (.d s'.d) S):Fn oM [w.d,s.d,.int h,(Rw.put x t).d] S Q:=by
 refine bE ?_
 unfold yc
 symm
 refine ak (d:=.str x) rfl ?_
 symm
 refine ak (d:=t.d) rfl ?_
 symm
 refine hr _ _ ?_
 symm
 refine hp _ _ ?_
 exact cB (aL _) (bo.low _) q
theorem t6{w:de}{s:bo}{h n:Nat}{t:Tr}{v:Int}{vs:List Int}{fs:List cv}{f:cv}(hr:xB w s h t v)(h1:s.hands[h]?=some (vs,fs))(h2:fs.getLast? =some f)(lf:fs.length<=900)(hl:s.hands.length<=900)
  (q:Q (.d (if v=0 then({s with hands:=s.hands.set h (vs,fs.dropLast++ [{f with row:=n}])}:bo) else s).d) S):Fn iM [w.d,s.d,.int h,(Rw.unl t n).d] S Q:=by
 refine bE ?_
 unfold pz
 symm
 refine ak (d:=t.d) rfl ?_
 symm
 refine hr _ _ ?_
 symm
 refine dF ?_
 dsimp only
 by_cases c:v=0
 ·rw[if_pos c] at q
  rw[decide_eq_true c,if_pos rfl]
  symm
  refine ak (d:=.int n) rfl ?_
  symm
  have q2:Op (settle S ({s with hands:=s.hands.set h (vs,fs.dropLast++ [{f with row:=n}])}:bo).d S) fun p=>Q p.1 p.2:=cB (aL _) (bo.low _) q
  exact mV h1 h2 lf hl q2
 ·rw[if_neg c] at q
  rw[decide_eq_false c,if_neg (by decide)]
  refine cA ?_
  symm
  exact cB (aL _) (bo.low _) q
end
section
variable{S:az}{Q:Res->az->Prop}
theorem xa{w:de}{s:bo}{h:Nat}{t:Tr}{v:Int}{vs:List Int}{fs:List cv}{f:cv}(hr:xB w s h t v)(h1:s.hands[h]?=some (vs,fs))(h2:fs.getLast? =some f)(lf:fs.length<=900)(hl:s.hands.length<=900)
  (q:Q (.d ({s with hands:=s.hands.set h (vs,fs.dropLast++ [{f with told:=v}])}:bo).d) S):Fn lj [w.d,s.d,.int h,(Rw.tell t).d] S Q:=by
 refine bE ?_
 unfold vR
 symm
 refine ak (d:=t.d) rfl ?_
 symm
 refine hr _ _ ?_
 symm
 refine i4 ?_
 symm
 refine bK h1 h2 ?_
 refine cI (cJ ?_)
 symm
 refine⟨_,rfl,_,rfl,?_⟩
 symm
 refine⟨by show 1<=sizeLine;decide,?_⟩
 refine dB (by show 5<=sizeLine;decide) ?_
 symm
 have h0:0<fs.length:=by
  cases fs with
  |nil=>cases h2
  |cons a b=>simp
 have q2:Op (settle S ({s with hands:=s.hands.set h (vs,fs.dropLast++ [{f with told:=v}])}:bo).d S) fun p=>Q p.1 p.2:=cB (aL _) (bo.low _) q
 exact gq (f:={f with told:=v}) h1 h0 lf hl q2
theorem yQ{w:de}{s:bo}{h i:Nat}{vs:List Int}{fs:List cv}{f:cv}{r:Rm}{rs:ee}{x:Str}(hs:s.hands[h]?=some (vs,fs))(hf:fs.getLast? =some f)(hr:f.room=i)(hw:w.rooms[i]?=some r)(hsr:s.rooms[i]?=some rs)(b2:r.bells.length<=100)(l2:r.bells.length=rs.bells.length)(b3:s.rooms.length<=100)(hx:x∈r.bells.map (·.1))
  (q:Q (.d ({s with rooms:=s.rooms.set i {rs with bells:=rs.bells.set (fB (r.bells.map (·.1)) x) []}}:bo).d) S):Fn oA [w.d,s.d,.int h,(Rw.all x).d] S Q:=by
 have hp:=(kq hx).1
 rw[lQm] at hp
 refine bE ?_
 unfold xM
 symm
 refine ak (d:=.str x) rfl ?_
 symm
 refine kF hs hf hr hw b2 hx ?_
 refine eO rfl (aq (aZ (aq (aZ (bz ?_)))))
 generalize fB (r.bells.map (·.1)) x=b at hp q⊢
 symm
 refine⟨by decide,?_⟩
 symm
 have q2:Op (settle S ({s with rooms:=s.rooms.set i {rs with bells:=rs.bells.set b []}}:bo).d S) fun p=>Q p.1 p.2:=cB (aL _) (bo.low _) q
 exact iV (l:= []) hsr (by omega) (by omega) b3 q2
end
section
variable{S:az}{Q:Res->az->Prop}
theorem D4:∀a:Rm,∃r,a.d=.tup (.str a.name::r):=fun a=>⟨_,rfl⟩
theorem AI:∀a:Str×List Rw,∃r,g6 a=.tup (.str a.1::r):=fun a=>⟨_,rfl⟩
theorem Az{w:de}{s:bo}{h:Nat}{g:Option Str}{rn dn:Str}{t:Tr}{v:Int}{vs:List Int}{fs:List cv}{r:Rm}{rs:ee}(hr:xB w s h t v)(hs:s.hands[h]?=some (vs,fs))(hrn:rn∈w.rooms.map (·.name))(hw:w.rooms[fB (w.rooms.map (·.name)) rn]?=some r)(hsr:s.rooms[fB (w.rooms.map (·.name)) rn]?=some rs)(hdn:dn∈r.deeds.map (·.1))
  (b1:w.rooms.length<=100) (b2:r.deeds.length<=100) (b3:s.rooms.length<=100) (b4:rs.row.length<=900) (b5:fs.length<=900) (b6:s.hands.length<=100)
  (q:Q (.d ({s with hands:=s.hands.set h (vs,fs++ [⟨(fB (w.rooms.map (·.name)) rn:Nat),(fB (r.deeds.map (·.1)) dn:Nat),0,v,0⟩]),rooms:=s.rooms.set (fB (w.rooms.map (·.name)) rn) (oV rs h)}:bo).d) S):Fn tm [w.d,s.d,.int h,(Rw.do_ g rn dn t).d] S Q:=by
 refine bE ?_
 unfold AM
 symm
 refine ak rfl ?_
 symm
 refine ak (d:=.str rn) rfl ?_
 symm
 refine gZ (enc:=Rm.d) (nm:=(·.name)) D4 (by omega) hrn ?_
 generalize fB (w.rooms.map (·.name)) rn=i at hw hsr q⊢
 symm
 refine ak rfl ?_
 symm
 refine ak (d:=r.d) (aP (by rw[gQm,hw];rfl)) ?_
 symm
 refine ak rfl ?_
 symm
 refine ak (d:=.str dn) rfl ?_
 symm
 refine gZ (enc:=g6) (nm:=(·.1)) AI (by omega) hdn ?_
 generalize fB (r.deeds.map (·.1)) dn=dd at q⊢
 symm
 refine ak (d:=t.d) rfl ?_
 symm
 refine hr _ _ ?_
 symm
 refine⟨by show 5<=sizeLine;decide,?_⟩
 symm
 refine ak rfl ?_
 symm
 refine ak (d:=xf (vs,fs)) (aP (by rw[gQm,hs];rfl)) ?_
 refine eO rfl (aq (aZ (aq (aZ (bz ?_)))))
 symm
 refine⟨by show 1<=sizeLine;decide,?_⟩
 refine dB (by simp only[lQm,List.length_cons,List.length_nil];exact nQl (a8 (by omega))) ?_
 symm
 have e:fs.map cv.d++ [D.tup [.int i,.int dd,.int 0,.int v,.int 0]]=(fs++ [(⟨i,dd,0,v,0⟩:cv)]).map cv.d:=by rw[List.map_append];rfl
 rw[e]
 generalize hnf:fs++ [(⟨i,dd,0,v,0⟩:cv)]=nf at q⊢
 have hh:h<s.hands.length:=(gQs.mp hs).1
 refine fE (vs:=vs) (fs:=nf) hh (by omega) ?_
 symm
 have q2:Op (settle S ({s with hands:=s.hands.set h (vs,nf),rooms:=s.rooms.set i (oV rs h)}:bo).d S) fun p=>Q p.1 p.2:=cB (aL _) (bo.low _) q
 exact pP (s:={s with hands:=s.hands.set h (vs,nf)}) hsr (by show s.rooms.length<=900;omega) b4 q2
end
section
variable{S:az}{Q:Res->az->Prop}
def vU(free:Bool)(rs:ee)(b:Nat)(h:Int):ee:=match rs.bells[b]? with
 |some (p::l)=>if free then{rs with bells:=rs.bells.set b l} else{rs with bells:=rs.bells.set b l,within:=p.2,late:=rs.late++ [h]}
 |_=>rs
theorem wJ{w:de}{s:bo}{h i:Nat}{vs:List Int}{fs:List cv}{f:cv}{r:Rm}{rs:ee}{x:Str}(hs:s.hands[h]?=some (vs,fs))(hf:fs.getLast? =some f)(hr:f.room=i)(hw:w.rooms[i]?=some r)(hsr:s.rooms[i]?=some rs)(b2:r.bells.length<=100)(l2:r.bells.length=rs.bells.length)(b3:s.rooms.length<=100)(b4:rs.late.length<=900)(hx:x∈r.bells.map (·.1))
  (q:Q (.d ({s with rooms:=s.rooms.set i (vU (decide (r.manner="when free")) rs (fB (r.bells.map (·.1)) x) h)}:bo).d) S):Fn lS [w.d,s.d,.int h,(Rw.call x).d] S Q:=by
 have hp:=(kq hx).1
 rw[lQm] at hp
 have hi:i<s.rooms.length:=(gQs.mp hsr).1
 refine bE ?_
 unfold vb
 symm
 refine ak (d:=.str x) rfl ?_
 symm
 refine kF hs hf hr hw b2 hx ?_
 refine eO rfl (aq (aZ (aq (aZ (bz ?_)))))
 generalize fB (r.bells.map (·.1)) x=b at hp q⊢
 have hb:b<rs.bells.length:=by omega
 obtain⟨line,hline⟩:∃l,rs.bells[b]?=some l:=⟨_,gQe hb⟩
 have q2:Op (settle S ({s with rooms:=s.rooms.set i (vU (decide (r.manner="when free")) rs b h)}:bo).d S) fun p=>Q p.1 p.2:=cB (aL _) (bo.low _) q
 unfold vU at q2
 rw[hline] at q2
 symm
 refine ak rfl ?_
 symm
 refine ak (d:=rs.d) (aP (by rw[gQm,hsr];rfl)) ?_
 symm
 refine ak rfl ?_
 symm
 refine ak (d:=dS line) (aP (by rw[gQm,hline];rfl)) ?_
 symm
 refine t_ ?_
 cases line with
 | nil=>
   refine bf (fun _=> ?_) (fun c=>by cases c)
   symm
   have e:s.rooms.set i rs=s.rooms:=by
     apply List.ext_getElem?
     intro j
     rw[List.getElem?_set]
     split
     · rename_i c
       subst c
       rw[hsr]
       first|done|simp[hi]
     · rfl
   have e2:({s with rooms:=s.rooms.set i rs}:bo)=s:=by rw[e]
   have q3:Op (settle S ({s with rooms:=s.rooms.set i rs}:bo).d S) fun p=>Q p.1 p.2:=q2
   rw[e2] at q3
   exact q3
 | cons p l=>
   refine bf (fun c=>by cases c) (fun _=>cA ?_)
   symm
   refine i4 ?_
   symm
   refine cJ ?_
   symm
   refine⟨_,rfl,cI ⟨_,rfl,?_⟩⟩
   symm
   have e:D.tup (iT ((p::l).map pairD) (some 1) none)=dS l:=by
     rw[show(some (1:Int))=some ((1:Nat):Int) from rfl,ic (by simp)]
     rfl
   rw[e]
   refine iV hsr hb (by omega) b3 ?_
   dsimp only at q2
   generalize hnb:rs.bells.set b l=nb at q2⊢
   symm
   refine ak rfl ?_
   symm
   refine ak (d:=r.d) (aP (by rw[gQm,hw];rfl)) ?_
   symm
   refine ak (d:=.str r.manner) rfl ?_
   symm
   refine gI ?_
   dsimp only
   by_cases c:r.manner="when free"
   · rw[decide_eq_true c] at q2⊢
     rw[if_pos rfl] at q2
     rw[if_pos rfl]
     symm
     exact q2
   · rw[decide_eq_false c] at q2⊢
     rw[if_neg (by decide)] at q2
     rw[if_neg (by decide)]
     refine cA ?_
     symm
     refine ak rfl ?_
     have g1:((s.rooms.set i {rs with bells:=nb}).map ee.d)[i]?=some ({rs with bells:=nb}:ee).d:=by rw[gQm,List.getElem?_set_self hi];rfl
     symm
     refine ak (d:=({rs with bells:=nb}:ee).d) (aP g1) ?_
     refine eO rfl (aq (aZ (aq (aZ (aq (aZ (aq (aZ (aq (aZ (bz ?_)))))))))))
     symm
     refine ak (d:=pairD p) xj ?_
     symm
     refine ak (d:=.int p.2) rfl ?_
     symm
     refine⟨by show 1<=sizeLine;decide,?_⟩
     refine dB (by simp only[lQm,List.length_cons,List.length_nil];exact nQl (a8 (by omega))) ?_
     symm
     refine⟨by show 5<=sizeLine;decide,?_⟩
     symm
     have e3:D.tup [cy rs.vals,.int p.2,cy rs.row,.tup (rs.late.map D.int++ [.int h]),.tup (nb.map dS)]=({rs with bells:=nb,within:=p.2,late:=rs.late++ [(h:Int)]}:ee).d:=by simp[ee.d,cy]
     rw[e3]
     have q3:Op (settle S ({s with rooms:=(s.rooms.set i {rs with bells:=nb}).set i {rs with bells:=nb,within:=p.2,late:=rs.late++ [(h:Int)]}}:bo).d S) fun p=>Q p.1 p.2:=by rw[List.set_set];exact q2
     exact cQ (s:={s with rooms:=s.rooms.set i {rs with bells:=nb}}) (by simpa using hi) (by simp;omega) q3
end
end W28
namespace DL
open PySem PySem.Spec L2
theorem t5{α:Type}{Γ:cx}{S:az}{js:List (Option Nat)}{i:vA}{g:kT}{t:iJ}{elt:bq}{Q:List D->az->Prop}(P:cx->Prop)(enc G:α->D)(c:α->Bool)(h0:P (kz js Γ)) (h:E i Γ S fun p S1=>∃xs:List α,p.1=xs.map enc/\p.2 S1/\xs.length<=1000∧
   (∀x∈xs,∀Γ',P Γ'->Tg g (enc x) Γ' S1 fun Γ1 S2=>S2=S1/\P Γ1/\E t Γ1 S1 fun k S3=>S3=S1/\k=c x/\(c x=true->E elt Γ1 S1 fun y S4=>y=G x/\S4=S1))/\Q ((xs.filter c).map G) S1):E (cu js i g t elt) Γ S Q:=by
 refine i8 (h.mono fun p S1 hp=> ?_)
 obtain⟨xs,hx,hs,hl,he,q⟩:=hp
 refine⟨fun n Γ' S' acc=>S'=S1/\acc=((xs.take n).filter c).map G/\P Γ',⟨rfl,rfl,h0⟩,fun n Γ' S' acc h=>by rw[h.1];exact hs,fun n d Γ' S' acc hd h=> ?_,fun Γ' S' acc h=> ?_⟩
 ·obtain⟨rfl,rfl,h3⟩:=h
  have hd:p.1[n]?=some d:=hd
  rw[hx,gQm] at hd
  obtain⟨x,hxn,rfl⟩:=oQm.mp hd
  obtain⟨Γ1,S2,e1,rfl,h4,h5⟩:=he x (mQg hxn) Γ' h3
  refine⟨Γ1,S2,e1,?_⟩
  refine h5.mono fun k S3 qr=> ?_
  obtain⟨e2,e3,h6⟩:=qr
  subst e2 e3
  have hn:=(gQs.mp hxn).1
  have tk:((xs.take (n+1)).filter c).map G=((xs.take n).filter c).map G++if c x=true then [G x] else []:=by
   rw[List.take_add_one,hxn]
   cases hc:c x <;>simp[hc]
  by_cases hc:c x=true
  ·rw[if_pos hc]
   refine(h6 hc).mono fun y S4 qr=> ?_
   obtain⟨e4,e5⟩:=qr
   subst e4 e5
   refine⟨?_,rfl,?_,h4⟩
   ·rw[lQm]
    have:=List.length_filter_le c (xs.take n)
    rw[List.length_take] at this
    exact a8 (by omega)
   ·rw[tk,if_pos hc]
  ·rw[if_neg hc]
   refine⟨rfl,?_,h4⟩
   rw[tk,if_neg hc,List.append_nil]
 ·obtain⟨rfl,rfl,_⟩:=h
  have e:p.1.length=xs.length:=by rw[hx,lQm]
  show Q (((xs.take p.1.length).filter c).map G) _
  rw[e,List.take_length]
  exact q
end DL
namespace W28
open PySem PySem.Spec L2 DL
section
variable{S:az}{Q:Res->az->Prop}
def CP(l:List (Int×Int))(t h:Int):List (Int×Int):=l.take (l.filter fun p=>decide (p.1<=t)).length++ [(t,h)]++l.drop (l.filter fun p=>decide (p.1<=t)).length
theorem xt{w:de}{s:bo}{h i:Nat}{vs:List Int}{fs:List cv}{f:cv}{r:Rm}{rs:ee}{x so:Str}{t:Tr}{v:Int}{line:List (Int×Int)}(hs:s.hands[h]?=some (vs,fs))(hf:fs.getLast? =some f)(hr:f.room=i)(hw:w.rooms[i]?=some r)(hsr:s.rooms[i]?=some rs)(b2:r.bells.length<=100)(l2:r.bells.length=rs.bells.length)(b3:s.rooms.length<=100)(hx:x∈r.bells.map (·.1))
  (hso:r.bells[fB (r.bells.map (·.1)) x]?=some (x,so)) (hline:rs.bells[fB (r.bells.map (·.1)) x]?=some line) (b4:line.length<=900) (hre:xB w s h t v)
  (q:Q (.d ({s with rooms:=s.rooms.set i (gS {rs with bells:=rs.bells.set (fB (r.bells.map (·.1)) x) (CP line (if so="turns" then v else 0) h)})}:bo).d) S):Fn lN [w.d,s.d,.int h,(Rw.wait x t).d] S Q:=by
 have hp:=(kq hx).1
 rw[lQm] at hp
 have hi:i<s.rooms.length:=(gQs.mp hsr).1
 refine bE ?_
 unfold we
 symm
 refine ak (d:=.str x) rfl ?_
 symm
 refine kF hs hf hr hw b2 hx ?_
 refine eO rfl (aq (aZ (aq (aZ (bz ?_)))))
 generalize fB (r.bells.map (·.1)) x=b at hp q hso hline⊢
 have hb:b<rs.bells.length:=by omega
 symm
 refine ak rfl ?_
 symm
 refine ak (d:=r.d) (aP (by rw[gQm,hw];rfl)) ?_
 symm
 refine ak rfl ?_
 symm
 refine ak (d:=BI (x,so)) (aP (by rw[gQm,hso];rfl)) ?_
 symm
 refine ak (d:=.str so) rfl ?_
 symm
 refine gI ?_
 dsimp only
 have key:∀tv:Int,tv=(if so="turns" then v else 0)->T (aA (aV 7 (ay aI (ay aI (ay aI (ay aI (af 1) (cF (.int 0))) (af 4)) (cF (.int 4))) (af 5)))
   (aA (aV 8 (h_ (gC (cu [none,none,some 6] (i6 (bc (af 7))) (jS (nG 2 (aG (bR 0) (aG (bR 1) ed)))) (aE (ay Hj (af 0) (af 2))) (af 0)))))
   (aA (aV 9 (ao dq (ae (af 1) (ae (af 4) (ae (af 5) (ae (ay cc (ay cc (qy (af 7) qE (oU (af 8))) (aX (ae (aX (ae (af 6) (ae (af 2) ai))) ai))) (qy (af 7) (oU (af 8)) qE)) ai))))))
   (cn (ao kQ (ae (af 9) (ae (af 4) ai)))))))
   [some w.d,some s.d,some (.int h),some (Rw.wait x t).d,some (.int i),some (.int b),some (.int tv),none,none,none] S (fun o=>match o with
   |.nx _ S'=>Op (settle S .non S') fun p=>Q p.1 p.2|.rt d S'=>Op (settle S d S') fun p=>Q p.1 p.2|.rl l S'=>Op (dm S l S') fun p=>Q p.1 p.2|_=>False):=by
  intro tv htv
  rw[←htv] at q
  symm
  refine ak rfl ?_
  symm
  refine ak (d:=rs.d) (aP (by rw[gQm,hsr];rfl)) ?_
  symm
  refine ak rfl ?_
  symm
  refine ak (d:=dS line) (aP (by rw[gQm,hline];rfl)) ?_
  symm
  refine t5 (α:=Int×Int) (fun Γ'=>∃a b,Γ'= [a,b,some (.int tv)]) pairD (fun p=>.int p.1) (fun p=>decide (p.1<=tv)) ⟨none,none,rfl⟩ ?_
  symm
  refine c9 (ds:=line.map pairD) ?_
  refine⟨line,rfl,trivial,by omega,fun p hp Γ' hΓ=> ?_,?_⟩
  ·obtain⟨a,b,rfl⟩:=hΓ
   refine eO rfl (aq (aZ (aq (aZ (bz ?_)))))
   refine⟨rfl,⟨_,_,rfl⟩,?_⟩
   symm
   refine⟨rfl,rfl,fun _=> ?_⟩
   symm
   exact⟨rfl,rfl⟩
  have el:((line.filter fun p=>decide (p.1<=tv)).map fun p=>D.int p.1).length=(line.filter fun p=>decide (p.1<=tv)).length:=lQm ..
  have ln:=List.length_filter_le (fun p=>decide (p.1<=tv)) line
  unfold CP at q
  symm
  rw[el]
  generalize (line.filter fun p=>decide (p.1<=tv)).length=n at q ln⊢
  refine i4 ?_
  symm
  refine cI (cJ ?_)
  symm
  refine⟨_,rfl,line.map pairD,rfl,?_⟩
  rw[AA (by rw[lQm];exact ln)]
  symm
  refine⟨by show 2<=sizeLine;decide,?_⟩
  symm
  refine⟨by show 1<=sizeLine;decide,?_⟩
  refine dB (by simp only[lQm,List.length_take,List.length_cons,List.length_nil];exact nQl (a8 (by omega))) ?_
  refine i4 ?_
  symm
  refine cJ ?_
  symm
  refine⟨_,rfl,cI ⟨line.map pairD,rfl,?_⟩⟩
  rw[ic (by rw[lQm];exact ln)]
  refine dB (by simp only[lQa,lQm,List.length_take,List.length_drop,List.length_cons,List.length_nil];exact nQl (a8 (by omega))) ?_
  symm
  have e:D.tup ((line.map pairD).take n++ [D.tup [.int tv,.int h]]++(line.map pairD).drop n)=dS (line.take n++ [(tv,(h:Int))]++line.drop n):=by
   simp only[dS,List.map_append,List.map_take,List.map_drop]
   rfl
  rw[e]
  generalize line.take n++ [(tv,(h:Int))]++line.drop n=nl at q⊢
  refine iV hsr hb (by omega) b3 ?_
  symm
  have q2:Op (settle S ({s with rooms:=s.rooms.set i (gS {rs with bells:=rs.bells.set b nl})}:bo).d S) fun p=>Q p.1 p.2:=cB (aL _) (bo.low _) q
  generalize hnr:({rs with bells:=rs.bells.set b nl}:ee)=nr at q2⊢
  have q3:Op (settle S ({s with rooms:=(s.rooms.set i nr).set i (gS nr)}:bo).d S) fun p=>Q p.1 p.2:=by rw[List.set_set];exact q2
  exact vK (s:={s with rooms:=s.rooms.set i nr}) (List.getElem?_set_self hi) (by simp;omega) q3
 by_cases c:so="turns"
 ·rw[decide_eq_true c,if_pos rfl]
  symm
  refine ak (d:=t.d) rfl ?_
  symm
  refine hre _ _ ?_
  exact key v (by rw[if_pos c])
 ·rw[decide_eq_false c,if_neg (by decide)]
  refine cA ?_
  exact key 0 (by rw[if_neg c])
end
end W28
namespace DL
open PySem PySem.Spec L2
section
variable{Γ:cx}{S:az}
theorem GI{tbl:List (Str×Str)}{g:bq}{Q:D->az->Prop}(h:E g Γ S fun y S1=>∃x nm,y=.str x/\tbl.lookup x=some nm/\Q (.fn nm) S1):E (GE tbl g) Γ S Q:=by
 obtain⟨y,S1,e1,x,nm,rfl,e2,q⟩:=h
 exact⟨_,S1,by unfold GE;rw[e1];simp only[Option.bind_some];rw[e2];rfl,q⟩
theorem Cs{i:Nat}{T:List (Str×cZ)}{g:fo}{x:Str}{F:cZ}{Q:D->az->Prop}(h1:Γ[i]?=some (some (.fn x)))(h2:T.lookup x=some F)(h:E (ao F g) Γ S Q):E (pQ i T g) Γ S Q:=by
 obtain⟨y,S1,e1,q⟩:=h
 exact⟨_,S1,by unfold pQ;rw[h1];show(T.lookup x).bind _=_;rw[h2];exact e1,q⟩
theorem Fl{neg:Bool}{x:D}{Q:D->Prop}(q:Q (.bl (if neg then !isNone x else isNone x))):Op (CD neg S x .non) Q:=⟨_,rfl,q⟩
end
theorem rH{α:Type}{xs:List α}{a b:α}:i3 (xs++ [a,b]) (-2)=some a:=by
 unfold i3 yK
 rw[if_neg (by omega),if_pos (by simp;omega)]
 simp only[Option.bind_some]
 rw[show((-2:Int)+((xs++ [a,b]).length:Int)).toNat=xs.length by simp;omega]
 simp
end DL
namespace W28
open PySem PySem.Spec L2 DL
section
variable{S:az}{Q:Res->az->Prop}
noncomputable def HB:Rw->cZ
 |.put _ _=>oM
 |.unl _ _=>iM
 |.go _=>s_
 |.do_ _ _ _ _=>tm
 |.wait _ _=>lN
 |.call _=>lS
 |.all _=>oA
 |.tell _=>lj
 |.take _=>me
 |.give _=>lD
 |.pass _ _=>l_
 |.say _=>oF
def Rw.kind:Rw->Str
 |.put _ _=>"put"
 |.unl _ _=>"unless"
 |.go _=>"go"
 |.do_ _ _ _ _=>"do"
 |.wait _ _=>"wait"
 |.call _=>"call"
 |.all _=>"all"
 |.tell _=>"tell"
 |.take _=>"take"
 |.give _=>"give"
 |.pass _ _=>"pass"
 |.say _=>"say"
theorem Rw.d_kind(r:Rw):∃l,r.d=.tup (.str r.kind::l):=by cases r <;>exact⟨_,rfl⟩
theorem BK(r:Rw):∃nm,jL.lookup r.kind=some nm/\pJ.lookup nm=some (HB r):=by
 cases r
 ·exact⟨"by_put",rfl,rfl⟩
 ·exact⟨"by_unless",rfl,rfl⟩
 ·exact⟨"by_go",rfl,rfl⟩
 ·exact⟨"by_do",rfl,rfl⟩
 ·exact⟨"by_wait",rfl,rfl⟩
 ·exact⟨"by_call",rfl,rfl⟩
 ·exact⟨"by_all",rfl,rfl⟩
 ·exact⟨"by_tell",rfl,rfl⟩
 ·exact⟨"by_take",rfl,rfl⟩
 ·exact⟨"by_give",rfl,rfl⟩
 ·exact⟨"by_pass",rfl,rfl⟩
 ·exact⟨"by_say",rfl,rfl⟩
def Eh(w:de)(s:bo)(h:Nat)(r:Rw)(s':bo):Prop:=∀(S:az) (Q:Res->az->Prop),Q (.d s'.d) S->Fn (HB r) [w.d,s.d,.int h,r.d] S Q
theorem v9{w:de}{s s':bo}{h:Nat}{r:Rw}(hd:Eh w s h r s')(q:Q (.d s'.d) S):Fn ia [w.d,s.d,.int h,r.d] S Q:=by
 obtain⟨nm,n1,n2⟩:=BK r
 obtain⟨l,hl⟩:=r.d_kind
 refine bE ?_
 unfold rN
 refine bQ (A3 (GI ?_))
 symm
 rw[hl]
 refine ak (d:=.str r.kind) xj ?_
 rw[←hl]
 refine⟨_,nm,rfl,n1,?_⟩
 refine vI (Cs (x:=nm) rfl n2 ?_)
 symm
 refine hd _ _ ?_
 exact cB (aL _) (bo.low _) q
theorem nh{w:de}{s s':bo}{h i:Nat}{vs:List Int}{gs:List cv}{f2 f:cv}{rs:ee}{pr:List Rw}{g:Option Str}{rn dn:Str}{t:Tr}(hs:s.hands[h]?=some (vs,gs++ [f2,f]))(hr:f.room=i)(hsr:s.rooms[i]?=some rs)(b3:s.rooms.length<=900)(b4:s.hands.length<=900)
  (hp:progOf w h f2=some pr) (h1:1<=f2.row) (hrow:pr[(f2.row-1).toNat]?=some (.do_ g rn dn t))
  (hg:∀outside:bo,outside={s with rooms:=s.rooms.set i (gS rs),hands:=s.hands.set h (vs,gs++ [f2])}->match g with|none=>s'=outside|some x=>Puts w outside h x f.told s')
  (q:Q (.d s'.d) S):Fn hV [w.d,s.d,.int h] S Q:=by
 have hh:h<s.hands.length:=(gQs.mp hs).1
 refine bE ?_
 unfold sF
 symm
 refine ak rfl ?_
 symm
 refine ak (d:=xf (vs,gs++ [f2,f])) (aP (by rw[gQm,hs];rfl)) ?_
 refine eO rfl (aq (aZ (aq (aZ (bz ?_)))))
 have hml:(gs++ [f2,f]).map cv.d=gs.map cv.d++ [f2.d,f.d]:=by simp
 dsimp only
 rw[hml]
 symm
 refine k_ ?_
 symm
 refine⟨1,rfl,?_⟩
 refine ak (d:=f.d) (lu (by simp)) ?_
 refine eO rfl (aq (aZ (aq (aZ (aq (aZ (aq (aZ (aq (aZ (bz ?_)))))))))))
 rw[hr]
 symm
 refine vK hsr b3 ?_
 symm
 refine i4 ?_
 symm
 refine cI (cJ (k_ ?_))
 symm
 refine⟨1,rfl,_,rfl,_,rfl,?_⟩
 rw[u_ (by simp)]
 have hdl:D.tup ((gs.map cv.d++ [f2.d,f.d]).dropLast)=.tup ((gs++ [f2]).map cv.d):=by
  rw[show gs.map cv.d++ [f2.d,f.d]=(gs.map cv.d++ [f2.d])++ [f.d] by simp,List.dropLast_concat]
  simp
 rw[hdl]
 symm
 refine fE (s:={s with rooms:=s.rooms.set i (gS rs)}) hh b4 ?_
 have hg:=hg _ rfl
 dsimp only at hg⊢
 generalize ({s with rooms:=s.rooms.set i (gS rs),hands:=s.hands.set h (vs,gs++ [f2])}:bo)=outside at hg⊢
 symm
 refine k_ ?_
 symm
 refine⟨2,rfl,?_⟩
 refine ak (d:=f2.d) rH ?_
 symm
 refine fc hp ?_
 symm
 refine k_ ?_
 symm
 refine⟨2,rfl,?_⟩
 refine ak (d:=f2.d) rH ?_
 symm
 refine ak (d:=.int f2.row) rfl ?_
 symm
 refine ak (d:=(Rw.do_ g rn dn t).d) (jE (by omega) (by rw[gQm,hrow];rfl)) ?_
 symm
 refine ak (d:=CM g) rfl ?_
 symm
 refine Fl ?_
 cases g with
 | none=>
   dsimp only at hg
   subst hg
   refine bf (fun _=> ?_) (fun c=>by cases c)
   symm
   exact cB (aL _) (bo.low _) q
 | some x=>
   refine bf (fun c=>by cases c) (fun _=>cA ?_)
   symm
   refine ak (d:=.str x) rfl ?_
   symm
   refine hg _ _ ?_
   exact cB (aL _) (bo.low _) q
end
section
variable{S:az}{Q:Res->az->Prop}
def GU(h:Nat):Option Int->D
 |none=>.non
 |some v=>.tup [.int h,.int v]
theorem BM(h:Nat)(e:Option Int):bI 0 (GU h e)=true:=by cases e <;>rfl
def Ej(s:bo)(h:Nat)(e:Option Int):D:=.tup [s.d,GU h e]
theorem oP(s:bo)(h:Nat)(e:Option Int):bI 0 (Ej s h e)=true:=by
 simp only[Ej,bI,bB,BM,bo.low,Bool.and_true]
def vJ(w:de)(s:bo)(h:Nat)(s':bo)(e:Option Int):Prop:=∀(S:az) (Q:Res->az->Prop),Q (.d (Ej s' h e)) S->Fn lX [w.d,s.d,.int h] S Q
theorem zd{w:de}{s:bo}{h i:Nat}{vs:List Int}{fs:List cv}{f:cv}{rs:ee}(hs:s.hands[h]?=some (vs,fs))(hf:fs.getLast? =some f)(hr:f.room=i)(hsr:s.rooms[i]?=some rs)(hn:rs.within≠h)(b3:s.rooms.length<=900)(b4:rs.row.length<=900):
  vJ w s h {s with rooms:=s.rooms.set i (oV rs h)} none:=by
 intro S Q q
 refine bE ?_
 unfold lW
 symm
 refine bK hs hf ?_
 symm
 refine ak (d:=.int f.room) rfl ?_
 symm
 refine mh ?_
 dsimp only
 rw[decide_eq_false (show¬f.room= -1 by omega),hr]
 show if (true=true) then _ else _
 rw[if_pos rfl]
 symm
 refine ak rfl ?_
 symm
 refine ak (d:=rs.d) (aP (by rw[gQm,hsr];rfl)) ?_
 symm
 refine ak (d:=.int rs.within) rfl ?_
 symm
 refine mh ?_
 dsimp only
 rw[decide_eq_false hn]
 show if (true=true) then _ else _
 rw[if_pos rfl]
 symm
 refine pP hsr b3 b4 ?_
 symm
 refine⟨by show 2<=sizeLine;decide,?_⟩
 exact cB (d:=Ej _ h none) (fun k z=>(nomatch z)) (oP _ _ _) q
def Here(s:bo)(h:Nat)(f:cv):Prop:=f.room= -1\/∃(i:Nat) (rs:ee),f.room=i/\s.rooms[i]?=some rs/\rs.within=h
theorem sG{w:de}{s:bo}{h:Nat}{f:cv}{a b c d:Option D}{Q:Bool->az->Prop}(hh:Here s h f)(q:Q false S):E (gf (aE (ay (eC true) (af 4) (cF (.int (-1))))) (aE (ay (eC true) (ay aI (ay aI (ay aI (af 1) (cF (.int 0))) (af 4)) (cF (.int 1))) (af 2)))) [some w.d,some s.d,some (.int h),some f.d,some (.int f.room),a,b,c] S Q:=by
 rcases hh with hr|⟨i,rs,hr,hsr,hi⟩
 ·symm
  refine mh ?_
  dsimp only
  rw[decide_eq_true hr]
  show if (false=true) then _ else _
  rw[if_neg (by decide)]
  exact q
 ·symm
  refine mh ?_
  dsimp only
  rw[decide_eq_false (show¬f.room= -1 by omega),hr]
  show if (true=true) then _ else _
  rw[if_pos rfl]
  symm
  refine ak rfl ?_
  symm
  refine ak (d:=rs.d) (aP (by rw[gQm,hsr];rfl)) ?_
  symm
  refine ak (d:=.int rs.within) rfl ?_
  symm
  refine mh ?_
  dsimp only
  rw[decide_eq_true hi]
  exact q
theorem uH{w:de}{s s':bo}{h:Nat}{vs:List Int}{fs:List cv}{f:cv}{pr:List Rw}(hs:s.hands[h]?=some (vs,fs))(hf:fs.getLast? =some f)(hh:Here s h f)(hp:progOf w h f=some pr)(hrow:f.row=pr.length)
  (he:∀(S:az) (Q:Res->az->Prop),Q (.d s'.d) S->Fn hV [w.d,s.d,.int h] S Q):vJ w s h s' none:=by
 intro S Q q
 refine bE ?_
 unfold lW
 symm
 refine bK hs hf ?_
 symm
 refine ak (d:=.int f.room) rfl ?_
 refine bQ (eZ (sG (d:=none) hh ?_))
 refine bf (fun c=>by cases c) (fun _=>cA ?_)
 symm
 refine fc hp ?_
 symm
 refine ak (d:=.int f.row) rfl ?_
 symm
 refine dF ?_
 dsimp only
 rw[lQm,decide_eq_true hrow,if_pos rfl]
 symm
 refine he _ _ ?_
 symm
 refine⟨by show 2<=sizeLine;decide,?_⟩
 exact cB (d:=Ej _ h none) (fun k z=>(nomatch z)) (oP _ _ _) q
def D8(w:de)(s:bo)(h:Nat)(r:Rw)(e:Option Int):Prop:=match r with
 |.say t=>∃v,e=some v/\xB w s h t v
 |_=>e=none
theorem vt{w:de}{s s':bo}{h:Nat}{vs:List Int}{fs:List cv}{f:cv}{pr:List Rw}{r:Rw}{e:Option Int}(hs:s.hands[h]?=some (vs,fs))(hf:fs.getLast? =some f)(hh:Here s h f)(hp:progOf w h f=some pr)(h0:0<=f.row)(hrow:pr[f.row.toNat]?=some r)(b1:fs.length<=900)(b2:s.hands.length<=900)
  (hsay:D8 w s h r e) (hd:Eh w {s with hands:=s.hands.set h (vs,fs.dropLast++ [{f with row:=f.row+1}])} h r s'):vJ w s h s' e:=by
 intro S Q q
 have hlt:=(gQs.mp hrow).1
 refine bE ?_
 unfold lW
 symm
 refine bK hs hf ?_
 symm
 refine ak (d:=.int f.room) rfl ?_
 refine bQ (eZ (sG (d:=none) hh ?_))
 refine bf (fun c=>by cases c) (fun _=>cA ?_)
 symm
 refine fc hp ?_
 symm
 refine ak (d:=.int f.row) rfl ?_
 symm
 refine dF ?_
 dsimp only
 rw[lQm,decide_eq_false (show¬f.row=(pr.length:Int) by omega),if_neg (by decide)]
 refine cA ?_
 symm
 refine ak (d:=.int f.row) rfl ?_
 refine ak (d:=r.d) (jE h0 (by rw[gQm,hrow];rfl)) ?_
 symm
 obtain⟨l,hl⟩:=r.d_kind
 have key:T (cn (aX (ae (ao ia (ae (af 0) (ae (ao fL (ae (af 1) (ae (af 2) (ae (ay cc (ay aI (af 3) (cF (.int 2))) (cF (.int 1))) ai)))) (ae (af 2) (ae (af 6) ai))))) (ae (af 7) ai))))
   [some w.d,some s.d,some (.int h),some f.d,some (.int f.room),some (.tup (pr.map Rw.d)),some r.d,some (GU h e)] S (fun o=>match o with
   |.nx _ S'=>Op (settle S .non S') fun p=>Q p.1 p.2|.rt d S'=>Op (settle S d S') fun p=>Q p.1 p.2|.rl l S'=>Op (dm S l S') fun p=>Q p.1 p.2|_=>False):=by
  symm
  refine ak (d:=.int f.row) rfl ?_
  symm
  refine mV hs hf b1 b2 ?_
  symm
  refine v9 hd ?_
  symm
  refine⟨by show 2<=sizeLine;decide,?_⟩
  exact cB (d:=Ej _ h e) (fun k z=>(nomatch z)) (oP _ _ _) q
 cases r with
 | say t=>
   obtain⟨v,rfl,hv⟩:=hsay
   refine ak (d:=.str "say") rfl ?_
   symm
   refine gI ?_
   dsimp only
   rw[decide_eq_true rfl,if_pos rfl]
   symm
   refine ak (d:=t.d) rfl ?_
   symm
   refine hv _ _ ?_
   symm
   refine⟨by show 2<=sizeLine;decide,?_⟩
   exact key
 | _=>
   have hsay:e=none:=hsay
   subst hsay
   refine ak rfl ?_
   symm
   refine gI ?_
   dsimp only
   refine bf (fun c=>absurd (of_decide_eq_true c) (by decide +kernel)) (fun _=>cA ?_)
   exact key
end
end W28
namespace DL
open PySem PySem.Spec L2
section
variable{Γ:cx}{S:az}
theorem BE{f:bq}{g:d_}{Q:D->az->Prop}(h:E f Γ S fun x S1=>∃k ds0,x=.ref k/\S1[k]?=some (.lst ds0)/\E g Γ S1 fun p S2=>∃ds,S2[k]?=some (.lst ds)/\(p.2.isL=false/\ds.length+p.1.length<=sizeLine)/\Q .non (S2.set k (.lst (ds++p.1)))):E (rJ f g) Γ S Q:=by
 obtain⟨x,S1,e1,k,ds0,rfl,h1,p,S2,e2,ds,h2,h3,q⟩:=h
 exact⟨_,_,by unfold rJ;rw[e1];simp only[Option.bind_some,e2,h1,h2];rw[if_pos h3],q⟩
end
theorem wz{S S':az}{k:Nat}{ds:List D}{Q:Res×az->Prop}(hc:lZ S S')(hk:S.length<=k)(hS:S'[k]?=some (.lst ds))(hl:bB S.length ds=true)(q:Q (.l ds,S'.take S.length)):Op (settle S (.ref k) S') Q:=by
 refine⟨_,?_,q⟩
 unfold settle
 rw[if_pos hc]
 show(if k<S.length then _ else _)=_
 rw[if_neg (by omega),hS]
 show(if bB S.length ds=true then _ else _)=_
 rw[if_pos hl]
theorem jt{n:Nat}(h:n<=100000):n<=sizeLine:=Nat.le_trans h (by decide)
theorem dj:∀ss:List Int,gk (ss.map D.int)=some (ss.map V.int)
 | []=>rfl
 |s::ss=>by simp only[List.map_cons,gk,qL,Option.bind_some];rw[dj ss];rfl
theorem t9{x:Int}{ss:List Int}:Bb (.int x) (ss.map V.int)=decide (x∈ss):=by
 induction ss with
 |nil=>rfl
 | cons a ss ih=>
   show(jQ (.int a) (.int x)||Bb (.int x) (ss.map V.int))=_
   rw[ih]
   simp only[jQ,List.mem_cons]
   by_cases c:a=x
   · subst c;simp
   · have c':¬x=a:=fun z=>c z.symm
     simp[c,c']
end DL
namespace W28
open PySem PySem.Spec L2 DL
section
variable{S:az}{Q:Res->az->Prop}
theorem vN{S S':az}(x:jT S S'):S'.take S.length=S:=by
 apply List.ext_getElem?
 intro j
 by_cases hj:j<S.length
 ·rw[List.getElem?_take_of_lt hj]
  exact x.eq j hj
 ·rw[List.getElem?_eq_none (by rw[List.length_take];omega),List.getElem?_eq_none (by omega)]
theorem EJ{S S':az}{ds:List D}{Q:Res->az->Prop}(x:jT S S')(hl:bB 0 ds=true)(q:Q (.l ds) S):Op (dm S ds S') fun p=>Q p.1 p.2:=
 kP ⟨x.len,fun k o hk e=>.inl (by rw[←x.eq k hk];exact e)⟩ (vN x) (hX hl) q
theorem wQ{S S':az}{k:Nat}{ds:List D}{Q:Res->az->Prop}(x:jT S S')(hk:S.length<=k)(hS:S'[k]?=some (.lst ds))(hl:bB 0 ds=true)(q:Q (.l ds) S):Op (settle S (.ref k) S') fun p=>Q p.1 p.2:=
 wz ⟨x.len,fun k o hk e=>.inl (by rw[←x.eq k hk];exact e)⟩ hk hS (hX hl) (by rw[vN x];exact q)
theorem uM{l:List (Int×Int)}(hl:l.length<=1000)(q:Q (.l ((l.map (·.2)).map D.int)) S):Fn jO [dS l] S Q:=by
 refine bE ?_
 unfold rA
 symm
 refine mz (α:=Int×Int) (fun Γ'=>∃a b,Γ'= [a,b]) pairD (fun p=>.int p.2) ⟨none,none,rfl⟩ ?_
 symm
 refine c9 (ds:=l.map pairD) ?_
 refine⟨l,rfl,trivial,hl,fun p hp Γ' hΓ=> ?_,?_⟩
 ·obtain⟨a,b,rfl⟩:=hΓ
  refine eO rfl (aq (aZ (aq (aZ (bz ?_)))))
  refine⟨rfl,⟨_,_,rfl⟩,?_⟩
  symm
  exact⟨rfl,rfl⟩
 ·have e:l.map (fun p=>D.int p.2)=(l.map (·.2)).map D.int:=by rw[List.map_map];rfl
  rw[e]
  exact zR (aO fun _ _=>rfl) q
def fU(r:ee):List Int:=r.row++r.late++r.bells.flatMap fun l=>l.map (·.2)
def held(s:bo):List Int:=s.passes.flatMap (·.2)++s.rooms.flatMap fU
theorem gu{α β:Type}{f:α->List β}{n:Nat}:∀{l:List α},(∀a∈l,(f a).length<=n)->(l.flatMap f).length<=n*l.length
 | [],_=>by simp
 | a::l,h=>by
   have h1:=h a (List.mem_cons_self ..)
   have h2:=gu (f:=f) (l:=l) fun b hb=>h b (List.mem_cons_of_mem _ hb)
   rw[List.flatMap_cons,lQa,List.length_cons,Nat.mul_add]
   omega
theorem fQ{α β:Type}{f:α->List β}{l:List α}{n:Nat}{a:α}(h:l[n]?=some a):(l.take (n+1)).flatMap f=(l.take n).flatMap f++f a:=by
 rw[List.take_add_one,h]
 simp
theorem mF{s:bo}{n:Nat}(hn:n<=100)(b1:s.passes.length<=100)(b2:s.rooms.length<=20)(p1:∀p∈s.passes,p.2.length<=n)(r1:∀r∈s.rooms,r.row.length<=n/\r.late.length<=n/\r.bells.length<=10/\∀l∈r.bells,l.length<=n)
  (q:Q (.l ((held s).map D.int)) S):Fn dI [s.d] S Q:=by
 have bw:∀acc:List D,jT S (S++ [.lst acc]):=fun acc=>jT.refl.app
 have hr:∀r∈s.rooms,∀j:Nat,((r.bells.take j).flatMap fun l=>l.map (·.2)).length<=1000:=fun r hr j=>by
  obtain⟨_,_,h3,h4⟩:=r1 r hr
  have h5:=gu (f:=fun l:List (Int×Int)=>l.map (·.2)) (n:=n) (l:=r.bells.take j) fun l hl=>by rw[lQm];exact h4 l (List.mem_of_mem_take hl)
  have h6:(r.bells.take j).length<=10:=by rw[List.length_take];omega
  have h7:n*(r.bells.take j).length<=100*10:=Nat.mul_le_mul hn h6
  omega
 have hrm:∀r∈s.rooms,(fU r).length<=1200:=fun r h=>by
  have h1:=hr r h r.bells.length
  obtain⟨h2,h3,_⟩:=r1 r h
  rw[List.take_length] at h1
  simp only[fU,lQa]
  omega
 have hpl:∀j:Nat,((s.passes.take j).flatMap (·.2)).length<=10000:=fun j=>by
  have h5:=gu (f:=fun p:Int×List Int=>p.2) (n:=n) (l:=s.passes.take j) fun l hl=>p1 l (List.mem_of_mem_take hl)
  have h6:(s.passes.take j).length<=100:=by rw[List.length_take];omega
  have h7:n*(s.passes.take j).length<=100*100:=Nat.mul_le_mul hn h6
  omega
 have hrl:∀j:Nat,((s.rooms.take j).flatMap fU).length<=24000:=fun j=>by
  have h5:=gu (f:=fU) (n:=1200) (l:=s.rooms.take j) fun l hl=>hrm l (List.mem_of_mem_take hl)
  have h6:(s.rooms.take j).length<=20:=by rw[List.length_take];omega
  omega
 refine bE ?_
 unfold jj
 symm
 refine⟨by decide,?_⟩
 refine bQ (fY (q_ ?_))
 symm
 refine ak rfl ?_
 refine c9 (ds:=s.passes.map xk) ?_
 refine⟨fun j Γ' S'=>(∃a b c d e f g,Γ'= [some s.d,some (.ref S.length),a,b,c,d,e,f,g])/\S'=S++ [.lst (((s.passes.take j).flatMap (·.2)).map D.int)],⟨⟨_,_,_,_,_,_,_,rfl⟩,rfl⟩,fun _ _ _ _=>trivial,?_,?_⟩
 ·rintro j d Γ' S' hd ⟨⟨a,b,c,d1,e,f,g,rfl⟩,rfl⟩
  have hd:(s.passes.map xk)[j]?=some d:=hd
  rw[gQm] at hd
  obtain⟨p,hp,rfl⟩:=oQm.mp hd
  refine eO rfl (aq (aZ (aq (aZ (bz ?_)))))
  refine fq (BE ?_)
  symm
  refine⟨_,_,rfl,aC,?_⟩
  symm
  refine c9 (ds:=p.2.map D.int) ?_
  refine⟨_,aC,⟨rfl,?_⟩,⟨_,_,_,_,_,_,_,rfl⟩,?_⟩
  ·have:=hpl j
   have:=p1 p (mQg hp)
   simp only[lQm]
   exact jt (by omega)
  ·rw[fQ hp,List.map_append]
   simp
 rintro Γ' S' ⟨⟨a,b,c,d1,e,f,g,rfl⟩,rfl⟩
 have hl:(s.passes.map xk).length=s.passes.length:=lQm ..
 rw[hl,List.take_length]
 refine bQ (fY (q_ ?_))
 symm
 refine ak rfl ?_
 refine c9 (ds:=s.rooms.map ee.d) ?_
 refine⟨fun j Γ' S'=>(∃a b c d e f g,Γ'= [some s.d,some (.ref S.length),a,b,c,d,e,f,g])/\S'=S++ [.lst ((s.passes.flatMap (·.2)++(s.rooms.take j).flatMap fU).map D.int)],⟨⟨_,_,_,_,_,_,_,rfl⟩,by simp⟩,fun _ _ _ _=>trivial,?_,?_⟩
 ·rintro j d Γ' S' hd ⟨⟨a,b,c,d1,e,f,g,rfl⟩,rfl⟩
  have hd:(s.rooms.map ee.d)[j]?=some d:=hd
  rw[gQm] at hd
  obtain⟨r,hrj,rfl⟩:=oQm.mp hd
  have hrm':=mQg hrj
  obtain⟨h2,h3,h4,h5⟩:=r1 r hrm'
  have hlen:(s.passes.flatMap (·.2)++(s.rooms.take j).flatMap fU).length<=34000:=by
   have:=hpl s.passes.length
   rw[List.take_length] at this
   have:=hrl j
   rw[lQa]
   omega
  generalize hacc:s.passes.flatMap (·.2)++(s.rooms.take j).flatMap fU=acc at hlen⊢
  refine eO rfl (aq (aZ (aq (aZ (aq (aZ (aq (aZ (aq (aZ (bz ?_)))))))))))
  refine bQ (fq (BE ?_))
  symm
  refine⟨_,_,rfl,aC,?_⟩
  symm
  refine dB (i:=r.row.map D.int) (j:=r.late.map D.int) (by simp only[lQm];exact jt (by omega)) ?_
  refine c9 ?_
  refine⟨_,aC,⟨rfl,?_⟩,?_⟩
  ·simp only[lQa,lQm]
   exact jt (by omega)
  dsimp only
  have e1:(S++ [O.lst (acc.map D.int)]).set S.length (.lst (acc.map D.int++(r.row.map D.int++r.late.map D.int)))=S++ [.lst ((acc++(r.row++r.late)).map D.int)]:=by simp
  rw[e1]
  refine fY (q_ ?_)
  symm
  refine⟨fun j Γ' S'=>(∃a b c d e f g,Γ'= [some s.d,some (.ref S.length),a,b,c,d,e,f,g])/\S'=S++ [.lst ((acc++(r.row++r.late)++(r.bells.take j).flatMap fun l=>l.map (·.2)).map D.int)],⟨⟨_,_,_,_,_,_,_,rfl⟩,by simp⟩,fun _ _ _ _=>trivial,?_,?_⟩
  ·rintro m d Γ' S' hd ⟨⟨a,b,c,d1,e,f,g,rfl⟩,rfl⟩
   have hd:(r.bells.map dS)[m]?=some d:=hd
   rw[gQm] at hd
   obtain⟨l,hlm,rfl⟩:=oQm.mp hd
   have hll:=h5 l (mQg hlm)
   refine aZ ?_
   refine fq (rX ?_)
   symm
   refine⟨_,_,rfl,aC,?_⟩
   symm
   refine uM (by omega) ?_
   symm
   refine⟨_,aC,⟨rfl,?_⟩,⟨_,_,_,_,_,_,_,rfl⟩,?_⟩
   ·have:=hr r hrm' m
    simp only[lQa,lQm]
    exact jt (by omega)
   ·rw[fQ hlm,←List.append_assoc,List.map_append]
    simp
  ·rintro Γ' S' ⟨h1,rfl⟩
   refine⟨h1,?_⟩
   have hl:(r.bells.map dS).length=r.bells.length:=lQm ..
   rw[hl,List.take_length,fQ hrj]
   subst hacc
   simp only[fU,List.append_assoc]
 ·rintro Γ' S' ⟨⟨a,b,c,d1,e,f,g,rfl⟩,rfl⟩
  have hl:(s.rooms.map ee.d).length=s.rooms.length:=lQm ..
  rw[hl,List.take_length]
  symm
  exact wQ (bw _) (Nat.le_refl _) aC (aO fun _ _=>rfl) q
end
section
variable{S:az}{Q:Res->az->Prop}
def ye(s:bo)(h:Nat):Option cv:=(s.hands[h]?).bind fun p=>p.2.getLast?
def iA(w:de)(s:bo)(h:Nat):Bool:=match ye s h with
 |some f=>decide (f.room= -1)&&decide (f.row=(((progOf w h f).getD []).length:Int))
 |none=>false
theorem mZ{w:de}{s:bo}{h:Nat}{vs:List Int}{fs:List cv}{f:cv}{pr:List Rw}(hs:s.hands[h]?=some (vs,fs))(hf:fs.getLast? =some f)(hp:progOf w h f=some pr)(q:Q (.d (.bl (iA w s h))) S):Fn eP [w.d,s.d,.int h] S Q:=by
 have hb:iA w s h=(decide (f.room= -1)&&decide (f.row=(pr.length:Int))):=by
  unfold iA ye
  rw[hs]
  show(match fs.getLast? with|some f=>_|none=>_)=_
  rw[hf]
  simp only[hp,Option.getD_some]
 rw[hb] at q
 refine bE ?_
 unfold jf
 symm
 refine bK hs hf ?_
 symm
 refine AU ?_
 symm
 refine ak (d:=.int f.room) rfl ?_
 symm
 refine dF ?_
 refine⟨_,rfl,?_⟩
 by_cases c:f.room= -1
 ·rw[decide_eq_true c] at q⊢
  rw[if_pos rfl]
  symm
  refine ak (d:=.int f.row) rfl ?_
  symm
  refine fc hp ?_
  symm
  refine dF ?_
  rw[lQm]
  exact cB (fun k z=>(nomatch z)) rfl q
 ·rw[decide_eq_false c] at q⊢
  rw[if_neg (by decide)]
  exact cB (fun k z=>(nomatch z)) rfl q
def iE(w:de)(s:bo):List Nat:=(List.range s.hands.length).filter fun h=> !decide ((h:Int)∈held s)&& !iA w s h
def jP(h:Nat):D:=.int h
def EK(w:de)(s:bo):Prop:=∀(S:az) (Q:Res->az->Prop),Q (.l ((iE w s).map jP)) S->Fn fR [w.d,s.d] S Q
theorem vW{w:de}{s:bo}(hh:∀(S:az) (Q:Res->az->Prop),Q (.l ((held s).map D.int)) S->Fn dI [s.d] S Q)(hp:∀h<s.hands.length,∃vs fs f pr,s.hands[h]?=some (vs,fs)/\fs.getLast? =some f/\progOf w h f=some pr)(b1:s.hands.length<=100):EK w s:=by
 intro S Q q
 refine bE ?_
 unfold rR
 symm
 refine hh _ _ ?_
 symm
 refine t5 (α:=Nat) (fun Γ'=>∃a,Γ'= [a,some w.d,some s.d,some (.ref S.length)]) (fun(i:Nat)=>D.int (0+(i:Int))) jP (fun h=> !decide ((h:Int)∈held s)&& !iA w s h) ⟨none,rfl⟩ ?_
 symm
 refine ak rfl ?_
 symm
 refine⟨_,rfl,?_,?_⟩
 ·simp only[lQm]
  omega
 refine⟨List.range s.hands.length,?_,trivial,by simp;omega,fun h hm Γ' hΓ=> ?_,?_⟩
 ·simp only[ie,lQm]
  rfl
 ·obtain⟨a,rfl⟩:=hΓ
  obtain⟨vs,fs,f,pr,h1,h2,h3⟩:=hp h (List.mem_range.mp hm)
  refine aZ ⟨rfl,⟨_,rfl⟩,?_⟩
  rw[Int.zero_add]
  refine sX (fw (yN ?_))
  symm
  refine bD (ds:=(held s).map D.int) aC ?_
  refine⟨_,_,rfl,dj _,?_⟩
  rw[t9]
  by_cases c:(h:Int)∈held s
  ·rw[decide_eq_true c]
   refine bf (fun c=>by cases c) (fun _=> ?_)
   exact⟨rfl,rfl,fun c=>by cases c⟩
  ·rw[decide_eq_false c]
   refine bf (fun _=> ?_) (fun c=>by cases c)
   symm
   refine mZ h1 h2 h3 ?_
   dsimp only
   refine p8 ?_
   refine⟨rfl,rfl,fun _=> ?_⟩
   symm
   exact⟨rfl,rfl⟩
 ·refine EJ (jT.refl.app) (aO fun _ _=>rfl) q
theorem wY{w:de}{s s':bo}{h:Nat}{e:Option Int}(hm:EK w s)(hh:h∈iE w s)(hst:vJ w s h s' e)(q:Q (.d (Ej s' h e)) S):Fn lT [w.d,s.d,.int h] S Q:=by
 refine bE ?_
 unfold uY
 refine bQ (eZ (fw (yN ?_)))
 symm
 refine hm _ _ ?_
 dsimp only
 have e1:(iE w s).map jP=((iE w s).map fun h:Nat=>(h:Int)).map D.int:=by rw[List.map_map];rfl
 refine⟨_,_,rfl,by rw[e1];exact dj _,?_⟩
 rw[t9,decide_eq_true (List.mem_map.mpr ⟨h,hh,rfl⟩)]
 refine bf (fun c=>by cases c) (fun _=>cA ?_)
 symm
 refine hst _ _ ?_
 exact cB (fun k z=>(nomatch z)) (oP _ _ _) q
end
structure fW(n:Nat)(r:Rm)(rs:ee):Prop where
 lv:r.things.length=rs.vals.length
 lb:r.bells.length=rs.bells.length
 vv:∀v∈rs.vals,0<=v/\v<=9
 br:rs.row.length<=n
 bl:rs.late.length<=n
 bb:∀l∈rs.bells,l.length<=n
structure zT(w:de)(h:Nat)(f:cv):Prop where
 pr:∃pr,progOf w h f=some pr/\0<=f.row/\f.row<=pr.length
 gv:0<=f.given/\f.given<=9
 tv:0<=f.told/\f.told<=9
def G3(w:de)(h:Nat)(f:cv):Prop:=∃pr g rn dn t,progOf w h f=some pr/\1<=f.row/\pr[(f.row-1).toNat]?=some (.do_ g rn dn t)
def g_:List cv->Prop
 | []=>False
 |f0::tl=>f0.room= -1/\∀f∈tl,f.room≠-1
structure hG(w:de)(n h:Nat)(ts:List (Str×Nat))(vs:List Int)(fs:List cv):Prop where
 lv:ts.length=vs.length
 vv:∀v∈vs,0<=v/\v<=9
 lf:fs.length<=n
 fr:∀f∈fs,zT w h f
 hd:g_ fs
 ch:∀f∈fs.dropLast,G3 w h f
structure cj(w:de)(n:Nat)(s:bo):Prop where
 lr:w.rooms.length=s.rooms.length
 rm:∀(i:Nat) (r:Rm) (rs:ee),w.rooms[i]?=some r->s.rooms[i]?=some rs->fW n r rs
 lp:w.passes.length=s.passes.length
 ps:∀p∈s.passes,p.2.length<=n
 ls:w.shared.length=s.shared.length
 sv:∀v∈s.shared,0<=v/\v<=9
 lh:w.hands.length=s.hands.length
 hd:∀(h:Nat) (ts:List (Str×Nat)) (pr:List Rw) (vs:List Int) (fs:List cv),w.hands[h]?=some (ts,pr)->s.hands[h]?=some (vs,fs)->hG w n h ts vs fs
theorem fW.mono{n m:Nat}{r:Rm}{rs:ee}(h:fW n r rs)(l:n<=m):fW m r rs:=⟨h.lv,h.lb,h.vv,Nat.le_trans h.br l,Nat.le_trans h.bl l,fun x hx=>Nat.le_trans (h.bb x hx) l⟩
theorem hG.mono{w:de}{n m h:Nat}{ts:List (Str×Nat)}{vs:List Int}{fs:List cv}(x:hG w n h ts vs fs)(l:n<=m):hG w m h ts vs fs:=⟨x.lv,x.vv,Nat.le_trans x.lf l,x.fr,x.hd,x.ch⟩
theorem cj.mono{w:de}{n m:Nat}{s:bo}(x:cj w n s)(l:n<=m):cj w m s:=⟨x.lr,fun i r rs h1 h2=>(x.rm i r rs h1 h2).mono l,x.lp,fun p hp=>Nat.le_trans (x.ps p hp) l,x.ls,x.sv,x.lh,fun h ts pr vs fs h1 h2=>(x.hd h ts pr vs fs h1 h2).mono l⟩
theorem get_set{α:Type}{l:List α}{i j:Nat}{a b:α}(h:(l.set i a)[j]?=some b):(j=i/\b=a)\/(j≠i/\l[j]?=some b):=by
 rw[List.getElem?_set] at h
 split at h
 ·rename_i c
  split at h
  ·cases h;exact .inl ⟨c.symm,rfl⟩
  ·cases h
 ·rename_i c
  exact .inr ⟨fun z=>c z.symm,h⟩
theorem cj.room{w:de}{n i:Nat}{s:bo}{r:Rm}{nr:ee}(x:cj w n s)(hw:w.rooms[i]?=some r)(hr:fW n r nr):cj w n {s with rooms:=s.rooms.set i nr} where
 lr:=by simpa using x.lr
 rm:=fun j r2 rs2 h1 h2=>by
  rcases get_set h2 with⟨rfl,rfl⟩|⟨_,h2⟩
  ·rw[hw] at h1;cases h1;exact hr
  ·exact x.rm j r2 rs2 h1 h2
 lp:=x.lp
 ps:=x.ps
 ls:=x.ls
 sv:=x.sv
 lh:=x.lh
 hd:=x.hd
theorem cj.pass{w:de}{n i:Nat}{s:bo}{p:Int×List Int}(x:cj w n s)(hp:p.2.length<=n):cj w n {s with passes:=s.passes.set i p} where
 lr:=x.lr
 rm:=x.rm
 lp:=by simpa using x.lp
 ps:=fun q hq=>by
  rcases List.mem_or_eq_of_mem_set hq with hq|rfl
  ·exact x.ps q hq
  ·exact hp
 ls:=x.ls
 sv:=x.sv
 lh:=x.lh
 hd:=x.hd
theorem cj.share{w:de}{n:Nat}{s:bo}{vs:List Int}(x:cj w n s)(hl:vs.length=s.shared.length)(hv:∀v∈vs,0<=v/\v<=9):cj w n {s with shared:=vs}:=⟨x.lr,x.rm,x.lp,x.ps,by rw[x.ls,←hl],hv,x.lh,x.hd⟩
theorem cj.hand{w:de}{n h:Nat}{s:bo}{ts:List (Str×Nat)}{pr:List Rw}{vs:List Int}{fs:List cv}(x:cj w n s)(hw:w.hands[h]?=some (ts,pr))(hr:hG w n h ts vs fs):cj w n {s with hands:=s.hands.set h (vs,fs)} where
 lr:=x.lr
 rm:=x.rm
 lp:=x.lp
 ps:=x.ps
 ls:=x.ls
 sv:=x.sv
 lh:=by simpa using x.lh
 hd:=fun j ts2 pr2 vs2 fs2 h1 h2=>by
  rcases get_set h2 with⟨rfl,e⟩|⟨_,h2⟩
  ·rw[hw] at h1;cases h1;cases e;exact hr
  ·exact x.hd j ts2 pr2 vs2 fs2 h1 h2
theorem kS{α:Type}{l:List α}{a:α}(h:l.getLast? =some a):l=l.dropLast++ [a]:=by
 cases l with
 |nil=>cases h
 | cons x y=>
   have hn:x::y≠[]:=by simp
   rw[List.getLast?_eq_some_getLast hn] at h
   cases h
   exact(List.dropLast_concat_getLast hn).symm
theorem g_.last{fs:List cv}{f f':cv}:∀{ini:List cv},g_ (ini++ [f])->f'.room=f.room->g_ (ini++ [f'])
 | [],h,e=>⟨by rw[e];exact h.1,fun _ z=>by cases z⟩
 | a::l,h,e=>⟨h.1,fun x hx=>by
   rcases mQa.mp hx with hx|hx
   · exact h.2 x (mQa.mpr (.inl hx))
   · rw[List.mem_singleton.mp hx,e];exact h.2 f (mQa.mpr (.inr (List.mem_singleton.mpr rfl)))⟩
theorem g_.push{f':cv}:∀{fs:List cv},g_ fs->f'.room≠-1->g_ (fs++ [f'])
 | [],h,_=>h.elim
 | a::l,h,e=>⟨h.1,fun x hx=>by
   rcases mQa.mp hx with hx|hx
   · exact h.2 x hx
   · rw[List.mem_singleton.mp hx];exact e⟩
theorem g_.pop{f2 f:cv}:∀{gs:List cv},g_ (gs++ [f2,f])->g_ (gs++ [f2])
 | [],h=>⟨h.1,fun _ z=>by cases z⟩
 | a::l,h=>⟨h.1,fun x hx=>h.2 x (by
   rcases mQa.mp hx with hx|hx
   · exact mQa.mpr (.inl hx)
   · exact mQa.mpr (.inr (by rw[List.mem_singleton.mp hx];simp)))⟩
theorem g_.two{f:cv}:∀{ini:List cv},g_ (ini++ [f])->f.room≠-1->∃gs f2,ini=gs++ [f2]
 | [],h,e=>absurd h.1 e
 |a::l,h,e=>⟨(a::l).dropLast,(a::l).getLast (by simp),(List.dropLast_concat_getLast (by simp)).symm⟩
section
variable{w:de}{n h:Nat}{ts:List (Str×Nat)}{vs:List Int}{fs:List cv}{f f' f2:cv}
theorem hG.setLast(x:hG w n h ts vs fs)(hf:fs.getLast? =some f)(e:f'.room=f.room)(i:zT w h f'):hG w n h ts vs (fs.dropLast++ [f']):=by
 have hs:=kS hf
 have hd:=x.hd
 rw[hs] at hd
 refine⟨x.lv,x.vv,?_,fun g hg=> ?_,g_.last (fs:=fs) hd e,fun g hg=> ?_⟩
 ·have:=congrArg List.length hs
  have:=x.lf
  simp only[lQa,List.length_cons,List.length_nil] at *
  omega
 ·rcases mQa.mp hg with hg|hg
  ·exact x.fr g (List.dropLast_subset _ hg)
  ·rw[List.mem_singleton.mp hg];exact i
 ·rw[List.dropLast_concat] at hg
  exact x.ch g hg
theorem hG.push(x:hG w n h ts vs fs)(hf:fs.getLast? =some f)(d:G3 w h f)(e:f'.room≠-1)(i:zT w h f'):hG w (n+1) h ts vs (fs++ [f']):=by
 refine⟨x.lv,x.vv,?_,fun g hg=> ?_,x.hd.push e,fun g hg=> ?_⟩
 ·have:=x.lf
  simp only[lQa,List.length_cons,List.length_nil]
  omega
 ·rcases mQa.mp hg with hg|hg
  ·exact x.fr g hg
  ·rw[List.mem_singleton.mp hg];exact i
 ·rw[List.dropLast_concat,kS hf] at hg
  rcases mQa.mp hg with hg|hg
  ·exact x.ch g hg
  ·rw[List.mem_singleton.mp hg];exact d
theorem hG.pop{gs:List cv}(x:hG w n h ts vs (gs++ [f2,f])):hG w n h ts vs (gs++ [f2])/\G3 w h f2:=by
 have e:(gs++ [f2,f]).dropLast=gs++ [f2]:=by rw[show gs++ [f2,f]=(gs++ [f2])++ [f] by simp,List.dropLast_concat]
 have hd:=x.ch
 rw[e] at hd
 refine⟨⟨x.lv,x.vv,?_,fun g hg=>x.fr g ?_,x.hd.pop,fun g hg=>hd g ?_⟩,hd f2 (by simp)⟩
 ·have:=x.lf
  simp only[lQa,List.length_cons,List.length_nil] at *
  omega
 ·rcases mQa.mp hg with hg|hg
  ·exact mQa.mpr (.inl hg)
  ·exact mQa.mpr (.inr (by rw[List.mem_singleton.mp hg];simp))
 ·rw[List.dropLast_concat] at hg
  exact mQa.mpr (.inl hg)
theorem hG.vals{nv:List Int}(x:hG w n h ts vs fs)(hl:nv.length=vs.length)(hv:∀v∈nv,0<=v/\v<=9):hG w n h ts nv fs:=⟨by rw[x.lv,hl],hv,x.lf,x.fr,x.hd,x.ch⟩
theorem hG.last(x:hG w n h ts vs fs):∃f,fs.getLast? =some f/\zT w h f:=by
 have:=x.hd
 cases fs with
 |nil=>exact this.elim
 | cons a l=>
   refine⟨_,List.getLast?_eq_some_getLast (by simp),x.fr _ (List.getLast_mem (by simp))⟩
end
theorem iq{w:de}{h:Nat}{f:cv}{pr:List Rw}(hp:progOf w h f=some pr):(f.room= -1/\∃ts,w.hands[h]?=some (ts,pr))\/∃(i j:Nat) (r:Rm) (dn:Str),f.room=i/\f.deed=j/\w.rooms[i]?=some r/\r.deeds[j]?=some (dn,pr):=by
 unfold progOf at hp
 split at hp
 ·rename_i c
  obtain⟨⟨ts,pr'⟩,h1,h2⟩:=oQm.mp hp
  cases h2
  exact .inl ⟨c,ts,h1⟩
 ·split at hp
  ·rename_i c
   obtain⟨r,h1,h2⟩:=bind_some hp
   obtain⟨⟨dn,pr'⟩,h3,h4⟩:=oQm.mp h2
   cases h4
   exact .inr ⟨f.room.toNat,f.deed.toNat,r,dn,by omega,by omega,h1,h3⟩
  ·cases hp
theorem yL{w:de}{h i j:Nat}{f:cv}{r:Rm}{dn:Str}{pr:List Rw}(h1:f.room=i)(h2:f.deed=j)(h3:w.rooms[i]?=some r)(h4:r.deeds[j]?=some (dn,pr)):progOf w h f=some pr:=by
 unfold progOf
 rw[if_neg (by omega),if_pos ⟨by omega,by omega⟩,h1,h2]
 show(w.rooms[i]?).bind _=_
 rw[h3]
 show(r.deeds[j]?).map _=_
 rw[h4]
 rfl
def zk(w:de)(h:Nat)(f:cv):Option Sc:=if f.room= -1 then(w.hands[h]?).map fun p=>⟨true,p.1.map (·.1)++w.shared.map (·.1),p.1.map (·.1)++w.shared.map (·.1),[],aJ w.rooms,w.passes.map (·.1)⟩
 else(w.rooms[f.room.toNat]?).map fun r=>⟨false,r.things.map (·.1)++eK,r.things.map (·.1),r.bells.map (·.1),aJ w.rooms,[]⟩
theorem Bm{w:de}{h:Nat}{f:cv}{pr:List Rw}(o:eN w)(hp:progOf w h f=some pr):∃sc,zk w h f=some sc/\pR sc pr:=by
 unfold zk
 rcases iq hp with⟨c,ts,h1⟩|⟨i,j,r,dn,h1,h2,h3,h4⟩
 ·rw[if_pos c,h1]
  exact⟨_,rfl,(o.hd _ (mQg h1)).pr⟩
 ·rw[if_neg (by omega),h1]
  refine⟨_,by rw[show((i:Int)).toNat=i by omega,h3];rfl,((o.rm _ (mQg h3)).pr _ (mQg h4)).1⟩
theorem yW{w:de}(o:eN w):cj w 1 (dA w) where
 lr:=by simp[dA]
 rm:=fun i r rs h1 h2=>by
  simp only[dA,gQm,h1,Option.map_some,Option.some.injEq] at h2
  subst h2
  have hr:=o.rm r (mQg h1)
  refine⟨by simp[dX,eo],by simp[dX],fun v hv=> ?_,by simp[dX],by simp[dX],fun l hl=> ?_⟩
  ·simp only[dX,eo,List.mem_map] at hv
   obtain⟨p,hp,rfl⟩:=hv
   have:=hr.tv p hp
   omega
  ·simp only[dX,List.mem_map] at hl
   obtain⟨p,hp,rfl⟩:=hl
   simp
 lp:=by simp[dA]
 ps:=fun p hp=>by
  simp only[dA,List.mem_map] at hp
  obtain⟨p,hp,rfl⟩:=hp
  simp
 ls:=by simp[dA,eo]
 sv:=fun v hv=>by
  simp only[dA,eo,List.mem_map] at hv
  obtain⟨p,hp,rfl⟩:=hv
  have:=o.sv p hp
  omega
 lh:=by simp[dA]
 hd:=fun h ts pr vs fs h1 h2=>by
  simp only[dA,gQm,h1,Option.map_some,Option.some.injEq] at h2
  cases h2
  have hr:=o.hd _ (mQg h1)
  refine⟨by simp[eo],fun v hv=> ?_,by simp,fun f hf=> ?_,⟨rfl,fun _ z=>by cases z⟩,fun f hf=>by cases hf⟩
  ·simp only[eo,List.mem_map] at hv
   obtain⟨p,hp,rfl⟩:=hv
   have:=hr.tv p hp
   omega
  ·rw[List.mem_singleton.mp hf]
   refine⟨⟨pr,?_,by decide,?_⟩,by decide,by decide⟩
   ·unfold progOf
    rw[if_pos (show AW.room= -1 from rfl),h1]
    rfl
   ·show(0:Int)<=_
    omega
section
variable{w:de}{n h:Nat}{s:bo}{vs:List Int}{fs:List cv}{f:cv}{sc:Sc}
theorem cj.whand(x:cj w n s)(hs:s.hands[h]?=some (vs,fs)):∃ts pr,w.hands[h]?=some (ts,pr)/\hG w n h ts vs fs:=by
 have hl:h<w.hands.length:=by rw[x.lh];exact(gQs.mp hs).1
 exact⟨_,_,gQe hl,x.hd h _ _ vs fs (gQe hl) hs⟩
theorem cj.wroom{i:Nat}{r:Rm}(x:cj w n s)(hw:w.rooms[i]?=some r):∃rs,s.rooms[i]?=some rs/\fW n r rs:=by
 have hl:i<s.rooms.length:=by rw[←x.lr];exact(gQs.mp hw).1
 exact⟨_,gQe hl,x.rm i r _ hw (gQe hl)⟩
theorem je{t:Sc}(hsc:zk w h f=some t):(f.room= -1/\∃ts pr,w.hands[h]?=some (ts,pr)/\t=⟨true,ts.map (·.1)++w.shared.map (·.1),ts.map (·.1)++w.shared.map (·.1),[],aJ w.rooms,w.passes.map (·.1)⟩)∨
  (f.room≠-1/\∃r,w.rooms[f.room.toNat]?=some r/\t=⟨false,r.things.map (·.1)++eK,r.things.map (·.1),r.bells.map (·.1),aJ w.rooms,[]⟩):=by
 unfold zk at hsc
 split at hsc
 ·rename_i c
  obtain⟨⟨ts,pr⟩,h1,h2⟩:=oQm.mp hsc
  exact .inl ⟨c,ts,pr,h1,h2.symm⟩
 ·rename_i c
  obtain⟨r,h1,h2⟩:=oQm.mp hsc
  exact .inr ⟨c,r,h1,h2.symm⟩
theorem jM(x:zT w h f)(c:f.room≠-1):f.room=(f.room.toNat:Int):=by
 obtain⟨pr,hp,_⟩:=x.pr
 rcases iq hp with⟨c',_⟩|⟨i,_,_,_,h1,_⟩
 ·exact absurd c' c
 ·omega
theorem jH{t:Tr}(o:eN w)(x:cj w n s)(hs:s.hands[h]?=some (vs,fs))(hf:fs.getLast? =some f)(hsc:zk w h f=some sc)(ht:Am sc t):∃v,(0<=v/\v<=9)/\xB w s h t v:=by
 obtain⟨ts,pr,hw,hi⟩:=x.whand hs
 have o2:=o.hd _ (mQg hw)
 have fi:=hi.fr f (List.mem_of_getLast? hf)
 have b3:=o.l3
 have b4:=o2.l1
 have ls:=x.ls
 rcases je hsc with⟨c,ts',pr',hw',rfl⟩|⟨c,r,hr,rfl⟩
 ·rw[hw] at hw'
  cases hw'
  have nine:i_ (zy w s ts vs):=i_.merge (fP x.sv) (fP hi.vv)
  refine⟨wg (numAt (zy w s ts vs)) (fun _=>0) t,?_,fun S Q q=>tE hw hs hf c ls hi.lv (by omega) (by dsimp only at b4;omega) x.sv hi.vv ht.1 (by have:=ht.2;omega) q⟩
  refine jD (ws:=ts.map (·.1)++w.shared.map (·.1)) (bs:= []) (fun y hy=> ?_) ht.1
  refine(lV nine (ff ?_)).2
  rcases mQa.mp hy with hy|hy
  ·exact .inr (fT hi.lv hy)
  ·exact .inl (fT ls hy)
 ·obtain⟨rs,hsr,ri⟩:=x.wroom hr
  have orm:=o.rm r (mQg hr)
  have b5:=orm.l1
  have b6:=orm.l2
  have nine:i_ (rY r rs f.given):=(fP ri.vv).put fi.gv.1 fi.gv.2
  refine⟨wg (numAt (rY r rs f.given)) (uP r rs) t,?_,fun S Q q=>qJ hs hf (jM fi c) hr hsr ri.lv ri.lb (by omega) (by omega) ri.vv fi.gv ht.1 (by have:=ht.2;omega) q⟩
  refine jD (ws:=r.things.map (·.1)++eK) (bs:=r.bells.map (·.1)) (fun y hy=> ?_) ht.1
  refine(lV nine (jI ?_)).2
  rcases mQa.mp hy with hy|hy
  ·exact .inr (fT ri.lv hy)
  ·left
   rw[List.mem_singleton.mp hy]
theorem kC{ns:List Str}{y:Str}{v:Int}{us:List Int}(h1:∀v∈us,0<=v/\v<=9)(h2:0<=v/\v<=9):(ef ns us y v).length=us.length/\∀u∈ef ns us y v,0<=u/\u<=9:=by
 unfold ef
 refine⟨by simp,fun z hz=> ?_⟩
 rcases List.mem_or_eq_of_mem_set hz with hz|rfl
 ·exact h1 z hz
 ·exact h2
theorem yb{y:Str}{v:Int}(o:eN w)(x:cj w n s)(hs:s.hands[h]?=some (vs,fs))(hf:fs.getLast? =some f)(hsc:zk w h f=some sc)(hy:y∈sc.ps)(hv:0<=v/\v<=9):∃s',Puts w s h y v s'/\cj w n s':=by
 obtain⟨ts,pr,hw,hi⟩:=x.whand hs
 have o2:=o.hd _ (mQg hw)
 have fi:=hi.fr f (List.mem_of_getLast? hf)
 have b1:=o.l1
 have b3:=o.l3
 have b4:=o2.l1
 have b7:=o.l4
 have lr:=x.lr
 have lh:=x.lh
 rcases je hsc with⟨c,ts',pr',hw',rfl⟩|⟨c,r,hr,rfl⟩
 ·rw[hw] at hw'
  cases hw'
  refine⟨tX w s h ts vs fs y v,fun S Q q=>BW hw hs hf c x.ls hi.lv (by omega) (by dsimp only at b4;omega) (by omega) hy q,?_⟩
  unfold tX
  split
  ·obtain⟨k1,k2⟩:=kC (ns:=w.shared.map (·.1)) (y:=y) x.sv hv
   exact x.share k1 k2
  ·obtain⟨k1,k2⟩:=kC (ns:=ts.map (·.1)) (y:=y) hi.vv hv
   exact x.hand hw (hi.vals k1 k2)
 ·obtain⟨rs,hsr,ri⟩:=x.wroom hr
  have orm:=o.rm r (mQg hr)
  have b5:=orm.l1
  refine⟨_,fun S Q q=>Bo hs hf (jM fi c) hr hsr ri.lv (by omega) (by omega) hy q,?_⟩
  obtain⟨k1,k2⟩:=kC (ns:=r.things.map (·.1)) (y:=y) ri.vv hv
  exact x.room hr ⟨by rw[ri.lv,←k1],ri.lb,k2,ri.br,ri.bl,ri.bb⟩
theorem cj.goes{m:Int}{pr:List Rw}(x:cj w n s)(hs:s.hands[h]?=some (vs,fs))(hf:fs.getLast? =some f)(hp:progOf w h f=some pr)(h0:0<=m)(h1:m<=pr.length):cj w n {s with hands:=s.hands.set h (vs,fs.dropLast++ [{f with row:=m}])}:=by
 obtain⟨ts,pr',hw,hi⟩:=x.whand hs
 have fi:=hi.fr f (List.mem_of_getLast? hf)
 exact x.hand hw (hi.setLast hf rfl ⟨⟨pr,hp,h0,h1⟩,fi.gv,fi.tv⟩)
theorem cj.tells{v:Int}(x:cj w n s)(hs:s.hands[h]?=some (vs,fs))(hf:fs.getLast? =some f)(hv:0<=v/\v<=9):cj w n {s with hands:=s.hands.set h (vs,fs.dropLast++ [{f with told:=v}])}:=by
 obtain⟨ts,pr',hw,hi⟩:=x.whand hs
 have fi:=hi.fr f (List.mem_of_getLast? hf)
 exact x.hand hw (hi.setLast hf rfl ⟨fi.pr,fi.gv,hv⟩)
theorem fW.come{r:Rm}{rs:ee}{k:Int}(x:fW n r rs):fW (n+1) r (oV rs k):=by
 unfold oV
 have:=x.br
 split
 ·exact⟨x.lv,x.lb,x.vv,by show rs.row.length<=_;omega,Nat.le_succ_of_le x.bl,fun l hl=>Nat.le_succ_of_le (x.bb l hl)⟩
 ·exact⟨x.lv,x.lb,x.vv,by simp;omega,Nat.le_succ_of_le x.bl,fun l hl=>Nat.le_succ_of_le (x.bb l hl)⟩
theorem fW.leave{r:Rm}{rs:ee}(x:fW n r rs):fW n r (gS rs):=by
 obtain⟨vals,within,row,late,bells⟩:=rs
 have h1:=x.br
 have h2:=x.bl
 unfold gS
 dsimp only at h1 h2⊢
 cases late with
 |cons a l=>exact⟨x.lv,x.lb,x.vv,x.br,by simp at h2;show l.length<=n;omega,x.bb⟩
 | nil=>
   cases row with
   |cons a l=>exact⟨x.lv,x.lb,x.vv,by simp at h1;show l.length<=n;omega,x.bl,x.bb⟩
   |nil=>exact⟨x.lv,x.lb,x.vv,x.br,x.bl,x.bb⟩
theorem fW.line{r:Rm}{rs:ee}{b:Nat}{l:List (Int×Int)}(x:fW n r rs)(hl:l.length<=n):fW n r {rs with bells:=rs.bells.set b l}:=⟨x.lv,by simp;exact x.lb,x.vv,x.br,x.bl,fun k hk=>by
 rcases List.mem_or_eq_of_mem_set hk with hk|rfl
 ·exact x.bb k hk
 ·exact hl⟩
theorem fW.call{r:Rm}{rs:ee}{b:Nat}{k:Int}{fr:Bool}(x:fW n r rs):fW (n+1) r (vU fr rs b k):=by
 unfold vU
 split
 ·rename_i p l e
  have hl:=x.bb _ (mQg e)
  have y:=(x.mono (Nat.le_succ n)).line (b:=b) (l:=l) (by simp at hl;omega)
  have z:=x.bl
  split
  ·exact y
  ·exact⟨y.lv,y.lb,y.vv,y.br,by simp;omega,y.bb⟩
 ·exact x.mono (Nat.le_succ n)
theorem AO{l:List (Int×Int)}{a b:Int}:(CP l a b).length=l.length+1:=by
 unfold CP
 have:=List.length_filter_le (fun p:Int×Int=>decide (p.1<=a)) l
 simp only[lQa,List.length_take,List.length_drop,List.length_cons,List.length_nil]
 omega
theorem Cv{rn dn:Str}(o:eN w)(hg:(rn,dn)∈aJ w.rooms):rn∈w.rooms.map (·.name)/\∃r,w.rooms[fB (w.rooms.map (·.name)) rn]?=some r/\dn∈r.deeds.map (·.1):=by
 unfold aJ at hg
 obtain⟨r,hr,hd⟩:=List.mem_flatMap.mp hg
 obtain⟨p,hp,e⟩:=List.mem_map.mp hd
 cases e
 have hm:r.name∈w.rooms.map (·.name):=List.mem_map.mpr ⟨r,hr,rfl⟩
 refine⟨hm,r,?_,List.mem_map.mpr ⟨p,hp,rfl⟩⟩
 obtain⟨h1,h2⟩:=kq hm
 obtain⟨i,hi,e⟩:=List.getElem_of_mem hr
 have e2:(w.rooms.map (·.name))[i]?=some r.name:=by rw[gQm,gQe hi,e];rfl
 rw[ja o.nd h2 e2,gQe hi,e]
theorem xY{r:Rw}{pr:List Rw}(o:eN w)(x:cj w n s)(hn:n<=100)(hs:s.hands[h]?=some (vs,fs))(hf:fs.getLast? =some f)(hp:progOf w h f=some pr)(h1:1<=f.row)(hrow:pr[(f.row-1).toNat]?=some r):∃s',Eh w s h r s'/\cj w (n+1) s':=by
 obtain⟨sc,hsc,hok⟩:=Bm o hp
 have rok:=hok r (mQg hrow)
 obtain⟨ts,pr',hw,hi⟩:=x.whand hs
 have fi:=hi.fr f (List.mem_of_getLast? hf)
 have b1:=o.l1
 have b2:=o.l2
 have b3:=o.l3
 have b4:=o.l4
 have lr:=x.lr
 have lp:=x.lp
 have lh:=x.lh
 have lf:=hi.lf
 have x1:=x.mono (Nat.le_succ n)
 have inRoom:sc.own=false->∃(i:Nat) (r:Rm) (rs:ee),f.room=i/\w.rooms[i]?=some r/\s.rooms[i]?=some rs/\fW n r rs/\sW (aJ w.rooms) r/\sc.bs=r.bells.map (·.1):=fun ho=>by
  rcases je hsc with⟨c,ts',pr',hw',rfl⟩|⟨c,r,hr,rfl⟩
  ·cases ho
  ·obtain⟨rs,hsr,ri⟩:=x.wroom hr
   exact⟨_,r,rs,jM fi c,hr,hsr,ri,o.rm r (mQg hr),rfl⟩
 have onOwn:sc.own=true->sc.ts=w.passes.map (·.1):=fun ho=>by
  rcases je hsc with⟨c,ts',pr',hw',rfl⟩|⟨c,r,hr,rfl⟩
  ·rfl
  ·cases ho
 have passAt:∀y,y∈w.passes.map (·.1)->∀ps:List (Int×List Int),w.passes.length=ps.length->∃p,ps[fB (w.passes.map (·.1)) y]?=some p:=fun y hy ps hl=>by
  have:=(kq hy).1
  rw[lQm] at this
  exact⟨_,gQe (by omega)⟩
 have takeL:∀p:Int×List Int,p.2.length<=n->(lF p h).2.length<=n+1:=fun p hp=>by
  unfold lF
  split
  ·show p.2.length<=_;omega
  ·simp;omega
 have giveL:∀p:Int×List Int,p.2.length<=n->(jb p).2.length<=n:=fun p hp=>by
  obtain⟨v,l⟩:=p
  unfold jb
  cases l with
  |nil=>simp
  |cons a l=>simp at hp;show l.length<=n;omega
 cases r with
 | put y t=>
   obtain⟨v,hv,hr⟩:=jH o x hs hf hsc rok.2
   obtain⟨s',hp',hi'⟩:=yb o x hs hf hsc rok.1 hv
   exact⟨s',fun S Q q=>zc hr hp' q,hi'.mono (Nat.le_succ n)⟩
 | unl t m=>
   obtain⟨v,hv,hr⟩:=jH o x hs hf hsc rok.1
   refine⟨_,fun S Q q=>t6 hr hs hf (by omega) (by omega) q,?_⟩
   split
   · exact x1.goes hs hf hp (by omega) (by have:=rok.2;omega)
   · exact x1
 |go m=>exact⟨_,fun S Q q=>AV hs hf (by omega) (by omega) q,x1.goes hs hf hp (by omega) (by have:m<=pr.length:=rok;omega)⟩
 | do_ g rn dn t=>
   obtain⟨v,hv,hr⟩:=jH o x hs hf hsc rok.2.2
   have hgs:sc.gs=aJ w.rooms:=by
     rcases je hsc with⟨c,ts',pr',hw',rfl⟩|⟨c,r,hr,rfl⟩ <;>rfl
   have hgo:=rok.2.1
   rw[hgs] at hgo
   obtain⟨hrn,r,hwr,hdn⟩:=Cv o hgo
   obtain⟨rs,hsr,ri⟩:=x.wroom hwr
   have orm:=o.rm r (mQg hwr)
   have b5:=orm.l3
   have b6:=ri.br
   refine⟨_,fun S Q q=>Az hr hs hrn hwr hsr hdn (by omega) (by omega) (by omega) (by omega) (by omega) (by omega) q,?_⟩
   have hlt:=kq hdn
   have hdl:=hlt.1
   rw[lQm] at hdl
   obtain⟨⟨dn',pr2⟩,hd2⟩:∃p,r.deeds[fB (r.deeds.map (·.1)) dn]?=some p:=⟨_,gQe hdl⟩
   have pf:progOf w h ⟨(fB (w.rooms.map (·.name)) rn:Nat),(fB (r.deeds.map (·.1)) dn:Nat),0,v,0⟩=some pr2:=yL rfl rfl hwr hd2
   have hh:=hi.push (f':=⟨(fB (w.rooms.map (·.name)) rn:Nat),(fB (r.deeds.map (·.1)) dn:Nat),0,v,0⟩) hf ⟨pr,g,rn,dn,t,hp,h1,hrow⟩ (by show((fB (w.rooms.map (·.name)) rn:Nat):Int)≠-1;omega) ⟨⟨pr2,pf,by show(0:Int)<=0;omega,by show(0:Int)<=_;omega⟩,hv,by show(0:Int)<=0/\(0:Int)<=9;omega⟩
   exact(x1.hand hw hh).room hwr ri.come
 | wait y t=>
   obtain⟨i,r,rs,hri,hwr,hsr,ri,orm,hbs⟩:=inRoom rok.1
   obtain⟨v,hv,hr⟩:=jH o x hs hf hsc rok.2.2
   have hy:=rok.2.1
   rw[hbs] at hy
   have b6:=orm.l2
   have lb:=ri.lb
   obtain⟨k1,k2⟩:=kq hy
   rw[lQm] at k1
   rw[gQm] at k2
   obtain⟨⟨y',so⟩,k3,k4⟩:=oQm.mp k2
   have k4:y'=y:=k4
   subst k4
   obtain⟨line,hl⟩:∃l,rs.bells[fB (r.bells.map (·.1)) y']?=some l:=⟨_,gQe (by omega)⟩
   have ll:=ri.bb line (mQg hl)
   refine⟨_,fun S Q q=>xt hs hf hri hwr hsr (by omega) lb (by omega) hy k3 hl (by omega) hr q,?_⟩
   exact x1.room hwr (((ri.mono (Nat.le_succ n)).line (by rw[AO];omega)).leave)
 | call y=>
   obtain⟨i,r,rs,hri,hwr,hsr,ri,orm,hbs⟩:=inRoom rok.1
   have hy:=rok.2
   rw[hbs] at hy
   have b6:=orm.l2
   have b7:=ri.bl
   refine⟨_,fun S Q q=>wJ hs hf hri hwr hsr (by omega) ri.lb (by omega) (by omega) hy q,?_⟩
   exact x1.room hwr ri.call
 | all y=>
   obtain⟨i,r,rs,hri,hwr,hsr,ri,orm,hbs⟩:=inRoom rok.1
   have hy:=rok.2
   rw[hbs] at hy
   have b6:=orm.l2
   refine⟨_,fun S Q q=>yQ hs hf hri hwr hsr (by omega) ri.lb (by omega) hy q,?_⟩
   exact x1.room hwr ((ri.mono (Nat.le_succ n)).line (by simp))
 | tell t=>
   obtain⟨v,hv,hr⟩:=jH o x hs hf hsc rok.2
   exact⟨_,fun S Q q=>xa hr hs hf (by omega) (by omega) q,x1.tells hs hf hv⟩
 | take y=>
   have hy:=rok.2
   rw[onOwn rok.1] at hy
   obtain⟨p,hp'⟩:=passAt y hy s.passes lp
   have pl:=x.ps p (mQg hp')
   exact⟨_,fun S Q q=>xC hy hp' (by omega) (by omega) (by omega) q,x1.pass (takeL p pl)⟩
 | give y=>
   have hy:=rok.2
   rw[onOwn rok.1] at hy
   obtain⟨p,hp'⟩:=passAt y hy s.passes lp
   have pl:=x.ps p (mQg hp')
   exact⟨_,fun S Q q=>wZ hy hp' (by omega) (by omega) q,x1.pass (Nat.le_succ_of_le (giveL p pl))⟩
 | pass y z=>
   have hy:=rok.2.1
   have hz:=rok.2.2
   rw[onOwn rok.1] at hy hz
   obtain⟨p,hp'⟩:=passAt y hy s.passes lp
   have pl:=x.ps p (mQg hp')
   have x2:cj w n _:=x.pass (i:=fB (w.passes.map (·.1)) y) (giveL p pl)
   obtain⟨p2,hp2⟩:=passAt z hz (s.passes.set (fB (w.passes.map (·.1)) y) (jb p)) (by simpa using lp)
   have pl2:=x2.ps p2 (mQg hp2)
   refine⟨_,fun S Q q=>xw hy hz hp' (by omega) (by omega) (by omega) hp2 q,(x2.mono (Nat.le_succ n)).pass (takeL p2 pl2)⟩
 |say t=>exact⟨s,fun S Q q=>yY (sd:=.non) q,x1⟩
end
section
variable{w:de}{n h:Nat}{s:bo}{vs:List Int}{fs:List cv}{f:cv}{sc:Sc}
theorem cj.mays(o:eN w)(x:cj w n s)(hn:n<=100):EK w s:=by
 have b1:=o.l1
 have b2:=o.l2
 have b4:=o.l4
 have lr:=x.lr
 have lp:=x.lp
 have lh:=x.lh
 refine vW (fun S Q q=>mF hn (by omega) (by omega) x.ps (fun rs hrs=> ?_) q) (fun h hh=> ?_) (by omega)
 ·obtain⟨i,hi,e⟩:=List.getElem_of_mem hrs
  have hs:s.rooms[i]?=some rs:=by rw[gQe hi,e]
  have hw:w.rooms[i]?=some (w.rooms[i]'(by omega)):=gQe (by omega)
  have ri:=x.rm i _ rs hw hs
  have:=(o.rm _ (mQg hw)).l2
  have:=ri.lb
  exact⟨ri.br,ri.bl,by omega,ri.bb⟩
 ·obtain⟨⟨vs,fs⟩,hs⟩:∃p,s.hands[h]?=some p:=⟨_,gQe hh⟩
  obtain⟨ts,pr,hw,hi⟩:=x.whand hs
  obtain⟨f,hf,fi⟩:=hi.last
  obtain⟨pr',hp,_⟩:=fi.pr
  exact⟨vs,fs,f,pr',hs,hf,hp⟩
def Rw.isSay:Rw->Bool
 |.say _=>true
 |_=>false
def sy(w:de)(h:Nat)(f:cv):Bool:=decide (f.room<0)&&match (w.hands[h]?).bind fun p=>p.2[f.row.toNat]? with
 |some r=>r.isSay
 |none=>false
theorem Ce(o:eN w)(x:cj w n s)(hn:n<=100)(hm:h∈iE w s)(hs:s.hands[h]?=some (vs,fs))(hf:fs.getLast? =some f):∃s' e,vJ w s h s' e/\cj w (n+1) s'/\e.isSome=sy w h f/\∀v,e=some v->0<=v/\v<=9:=by
 obtain⟨ts,prh,hw,hi⟩:=x.whand hs
 have fi:=hi.fr f (List.mem_of_getLast? hf)
 obtain⟨pr,hp,hr0,hr1⟩:=fi.pr
 have b1:=o.l1
 have b4:=o.l4
 have lr:=x.lr
 have lh:=x.lh
 have lf:=hi.lf
 have nb:¬(f.room= -1/\f.row=pr.length):=by
  rintro⟨c1,c2⟩
  have:=(List.mem_filter.mp hm).2
  rw[Bool.and_eq_true] at this
  have hb:iA w s h=true:=by
   unfold iA ye
   rw[hs]
   show(match fs.getLast? with|some f=>_|none=>_)=_
   rw[hf]
   simp only[hp,Option.getD_some,c1,c2,decide_true,Bool.and_true]
  rw[hb] at this
  exact absurd this.2 (by decide)
 by_cases c:f.room= -1
 ·
  have hp':pr=prh:=by
   unfold progOf at hp
   rw[if_pos c,hw] at hp
   cases hp;rfl
  subst hp'
  have hlt:f.row.toNat<pr.length:=by
   have:f.row≠pr.length:=fun z=>nb ⟨c,z⟩
   omega
  have hrow:pr[f.row.toNat]?=some (pr[f.row.toNat]):=gQe hlt
  generalize pr[f.row.toNat]=r at hrow
  obtain⟨sc,hsc,hok⟩:=Bm o hp
  have rok:=hok r (mQg hrow)
  have hsb:sy w h f=r.isSay:=by
   unfold sy
   rw[hw]
   show(decide (f.room<0)&&match pr[f.row.toNat]? with|some r=>r.isSay|none=>false)=_
   rw[hrow,decide_eq_true (by omega)]
   rfl
  have says:∃e,D8 w s h r e/\e.isSome=sy w h f/\∀v,e=some v->0<=v/\v<=9:=by
   rw[hsb]
   cases r with
   | say t=>
     obtain⟨v,hv,hr⟩:=jH o x hs hf hsc rok.2
     exact⟨some v,⟨v,rfl,hr⟩,rfl,fun u hu=>by cases hu;exact hv⟩
   |_=>exact⟨none,rfl,rfl,fun u hu=>by cases hu⟩
  obtain⟨e,he,h1,h2⟩:=says
  have x2:=x.goes hs hf hp (m:=f.row+1) (by omega) (by omega)
  have hl:h<s.hands.length:=(gQs.mp hs).1
  obtain⟨s',hd,hi'⟩:=xY (f:={f with row:=f.row+1}) (r:=r) (pr:=pr) o x2 hn (List.getElem?_set_self hl) (by simp) hp (by show 1<=f.row+1;omega) (by show pr[(f.row+1-1).toNat]?=_;rw[show f.row+1-1=f.row by omega];exact hrow)
  exact⟨s',e,vt hs hf (.inl c) hp hr0 hrow (by omega) (by omega) he hd,hi',h1,h2⟩
 ·
  have hsb:sy w h f=false:=by
   unfold sy
   have:=jM fi c
   rw[decide_eq_false (by omega)]
   rfl
  rcases iq hp with⟨c',_⟩|⟨i,j,r,dn,h1,h2,h3,h4⟩
  ·exact absurd c' c
  obtain⟨rs,hsr,ri⟩:=x.wroom h3
  have br:=ri.br
  by_cases cw:rs.within=h
  ·have here:Here s h f:=.inr ⟨i,rs,h1,hsr,cw⟩
   by_cases ce:f.row=pr.length
   ·
    have hsp:=kS hf
    have hd:=hi.hd
    rw[hsp] at hd
    obtain⟨gs,f2,hg⟩:=hd.two c
    have hfs:fs=gs++ [f2,f]:=by rw[hsp,hg];simp
    subst hfs
    obtain⟨hi2,did⟩:=hi.pop
    obtain⟨pr2,g,rn,dn2,t,p1,p2,p3⟩:=did
    have x2:cj w n {s with rooms:=s.rooms.set i (gS rs),hands:=s.hands.set h (vs,gs++ [f2])}:=(x.hand hw hi2).room h3 ri.leave
    obtain⟨sc,hsc,hok⟩:=Bm o p1
    have rok:=hok _ (mQg p3)
    have hl:h<s.hands.length:=(gQs.mp hs).1
    cases g with
    | none=>
      refine⟨_,none,uH hs hf here hp ce fun S Q q=>nh hs h1 hsr (by omega) (by omega) p1 p2 p3 (fun _ e=>e.symm) q,x2.mono (Nat.le_succ n),by rw[hsb];rfl,fun v hv=>by cases hv⟩
    | some y=>
      obtain⟨s',hp',hi'⟩:=yb (y:=y) (v:=f.told) o x2 (List.getElem?_set_self hl) (by simp) hsc (rok.1 y rfl) fi.tv
      refine⟨s',none,uH hs hf here hp ce fun S Q q=>nh hs h1 hsr (by omega) (by omega) p1 p2 p3 (fun _ e=>by rw[e];exact hp') q,hi'.mono (Nat.le_succ n),by rw[hsb];rfl,fun v hv=>by cases hv⟩
   ·
    have hlt:f.row.toNat<pr.length:=by omega
    have hrow:pr[f.row.toNat]?=some (pr[f.row.toNat]):=gQe hlt
    generalize pr[f.row.toNat]=r' at hrow
    have rok:=((o.rm _ (mQg h3)).pr _ (mQg h4)).1 r' (mQg hrow)
    have he:D8 w s h r' none:=by
     cases r' with
     |say t=>exact absurd rok.1 (show¬(false=true) by decide)
     |_=>rfl
    have x2:=x.goes hs hf hp (m:=f.row+1) (by omega) (by omega)
    have hl:h<s.hands.length:=(gQs.mp hs).1
    obtain⟨s',hd,hi'⟩:=xY (f:={f with row:=f.row+1}) (r:=r') (pr:=pr) o x2 hn (List.getElem?_set_self hl) (by simp) hp (by show 1<=f.row+1;omega) (by show pr[(f.row+1-1).toNat]?=_;rw[show f.row+1-1=f.row by omega];exact hrow)
    exact⟨s',none,vt hs hf here hp hr0 hrow (by omega) (by omega) he hd,hi',by rw[hsb];rfl,fun v hv=>by cases hv⟩
  ·
   exact⟨_,none,zd hs hf h1 hsr cw (by omega) (by omega),(x.mono (Nat.le_succ n)).room h3 ri.come,by rw[hsb];rfl,fun v hv=>by cases hv⟩
end
end W28
namespace DL
open PySem PySem.Spec L2
section
variable{Γ:cx}{S:az}
theorem Bt{i j:Int}{Q:D->Prop}(h:Bn i j)(q:Q (.int (i^j.toNat))):Op (uo S (.int i) (.int j)) Q:=⟨_,by simp only[uo,intD];rw[if_pos h],q⟩
theorem Ei{i j:Int}{Q:D->Prop}(h:IntMulOk i j)(q:Q (.int (i*j))):Op (kE S (.int i) (.int j)) Q:=⟨_,by simp only[kE,intD];rw[if_pos h],q⟩
end
end DL
namespace W28
open PySem PySem.Spec L2 DL
section
variable{S S0:az}{Q:Res->az->Prop}
theorem mQ(l:List Nat):l.map jP=(l.map fun h:Nat=>(h:Int)).map D.int:=by rw[List.map_map];rfl
theorem iS{l:List Nat}:∀d∈l.map jP,(∀k,d≠.ref k)/\bI 0 d=true:=fun d hd=>by
 obtain⟨a,_,rfl⟩:=List.mem_map.mp hd
 exact⟨fun k z=>(nomatch z),rfl⟩
theorem CF{k i:Nat}{l:List Nat}{last:Int}(x:Ex k S0 S)(hi:i≠k)(hS:S[i]?=some (.lst (l.map jP)))(h0:0<l.length)(h1:l.length<1000)
  (h:∀(m:Nat) (S':az),m∈l->Ex k S0 S'->Ex k S S'->S'.length=S.length->Q (.d (.int m)) S'):Fn iu [.ref k,.ref i,.int last] S Q:=by
 have y:Ex k S S:=by obtain⟨a,b,c,hh⟩:=x.pot;exact Ex.refl hh
 have pick:∀S1,Ex k S S1->S1.length=S.length->T (cn (ao aS (ae (af 0) (ae (af 1) ai)))) [some (.ref k),some (.ref i),some (.int last)] S1 (fun o=>match o with
   |.nx _ S'=>Op (settle S .non S') fun p=>Q p.1 p.2|.rt d S'=>Op (settle S d S') fun p=>Q p.1 p.2|.rl l S'=>Op (dm S l S') fun p=>Q p.1 p.2|_=>False):=fun S1 y1 hl=>by
  symm
  refine dW (xs:=l.map jP) y1 hi (y1.keep _ _ hi hS) (by simpa using h0) (by simpa using h1) iS (fun d hd=>cT (iS d hd).2) fun d S' hd e1 e2 hl2=> ?_
  obtain⟨m,hm,rfl⟩:=List.mem_map.mp hd
  dsimp only
  refine jy e1 x.lt (iS _ hd).1 (cT (iS _ hd).2) fun a b c=> ?_
  exact h m _ hm x.set y.set (by simp)
 refine bE ?_
 unfold p0
 refine bQ (eZ (sX (fw (yN ?_))))
 symm
 refine bD hS ?_
 refine⟨_,_,rfl,by rw[mQ];exact dj _,?_⟩
 rw[t9]
 show if decide (last∈l.map fun h:Nat=>(h:Int))=true then _ else _
 by_cases c:last∈l.map fun h:Nat=>(h:Int)
 ·rw[decide_eq_true c,if_pos rfl]
  obtain⟨m,hm,rfl⟩:=List.mem_map.mp c
  symm
  refine bu y (by decide) (by decide) fun d S' hd e1 e2 hl2=> ?_
  symm
  refine dF ?_
  dsimp only
  by_cases c2:(d:Int)=0
  ·rw[decide_eq_true c2,if_pos rfl]
   symm
   refine jy e1 x.lt (fun k z=>(nomatch z)) rfl fun a b c=> ?_
   exact h m _ hm x.set y.set (by simp)
  ·rw[decide_eq_false c2,if_neg (by decide)]
   refine cA ?_
   exact pick S' e1 hl2
 ·rw[decide_eq_false c,if_neg (by decide)]
  rw[if_neg (by decide)]
  refine cA ?_
  exact pick S y rfl
end
end W28
namespace DL
open PySem PySem.Spec L2
theorem yn{α:Type}(d:α):∀n:Nat,(List.replicate n [d]).flatten=List.replicate n d
 |0=>rfl
 |n+1=>by rw[List.replicate_succ,List.replicate_succ,List.flatten_cons,yn d n];rfl
theorem tq{Γ:cx}{S:az}{f:d_}{g:bq}{Q:List D->az->Prop}(h:E f Γ S fun p S1=>E g Γ S1 fun r S2=>∃(n:Nat) (d:D),r=.int n/\p.1= [d]/\(p.2.isM=true/\p.2.stays S2 p.1/\n<=1000)/\Q (List.replicate n d) S2):E (qS f g) Γ S Q:=by
 obtain⟨p,S1,e1,r,S2,e2,n,d,rfl,h0,⟨h1,h2,h3⟩,q⟩:=h
 refine⟨_,S2,?_,q⟩
 unfold qS
 rw[e1]
 simp only[Option.bind_some]
 rw[e2]
 simp only[Option.bind_some]
 rw[if_pos ⟨h1,h2,by omega,by omega,by rw[h0];simp only[List.length_cons,List.length_nil,Int.toNat_natCast];exact nQl (a8 (by omega))⟩]
 rw[h0,show((n:Int)).toNat=n by omega,yn]
theorem zip_map{α β:Type}(f:α->D)(g:β->D):∀(xs:List α) (ys:List β),vD (xs.map f) (ys.map g)=(xs.zip ys).map fun p=>D.tup [f p.1,g p.2]
 | [],_=>rfl
 |_::_,[]=>rfl
 | x::xs,y::ys=>by
   have:=zip_map f g xs ys
   simp only[vD,List.map_cons,List.zipWith_cons_cons,List.zip_cons_cons] at this⊢
   rw[this]
end DL
namespace W28
open PySem PySem.Spec L2 DL
def lE(l:List Int)(h:Int):Nat:=(l.map V.int).countP fun z=>jQ z (.int h)
theorem kW{l:List Int}{h:Int}:lE l h<=l.length:=by
 unfold lE
 refine Nat.le_trans (List.countP_le_length ..) ?_
 simp
theorem jN{l:List Int}{h:Int}:lE l h=0↔h∉l:=by
 induction l with
 |nil=>simp[lE]
 | cons a l ih=>
   unfold lE at ih⊢
   rw[List.map_cons,List.countP_cons]
   by_cases c:a=h
   · subst c
     simp[jQ]
   · have c':¬h=a:=fun z=>c z.symm
     have e:jQ (.int a) (.int h)=false:=by simp[jQ,c]
     rw[e]
     simp only[List.mem_cons,not_or,c',not_false_eq_true,true_and]
     simpa using ih
def jd(h:Nat)(p:(Str×Nat)×(Int×List Int)):List D:=List.replicate (lE p.2.2 h) (.tup [.str "pass",.str p.1.1])
def lM(h:Nat)(nm:Str)(p:(Str×Str)×List (Int×Int)):List D:=List.replicate (p.2.filter fun q=>decide (q.2=(h:Int))).length (.tup [.str "bell",.str nm,.str p.1.1])
def mm(h:Nat)(p:Rm×ee):List D:=List.replicate (lE p.2.row h) (.tup [.str "row",.str p.1.name])++List.replicate (lE p.2.late h) (.tup [.str "late",.str p.1.name])
def ik(h:Nat)(p:Rm×ee):List D:=mm h p++(p.1.bells.zip p.2.bells).flatMap (lM h p.1.name)
def eG(w:de)(s:bo)(h:Nat):List D:=(w.passes.zip s.passes).flatMap (jd h)++(w.rooms.zip s.rooms).flatMap (ik h)
theorem oD{n:Nat}{d:D}(h:bI 0 d=true):∀x∈List.replicate n d,bI 0 x=true:=fun x hx=>by rw[List.eq_of_mem_replicate hx];exact h
theorem r_(w:de)(s:bo)(h:Nat):bB 0 (eG w s h)=true:=by
 refine oH fun d hd=> ?_
 unfold eG at hd
 rcases mQa.mp hd with hd|hd
 ·obtain⟨p,_,hp⟩:=List.mem_flatMap.mp hd
  exact oD rfl d hp
 ·obtain⟨p,_,hp⟩:=List.mem_flatMap.mp hd
  unfold ik mm at hp
  rcases mQa.mp hp with hp|hp
  ·rcases mQa.mp hp with hp|hp
   ·exact oD rfl d hp
   ·exact oD rfl d hp
  ·obtain⟨q,_,hq⟩:=List.mem_flatMap.mp hp
   exact oD rfl d hq
section
variable{w:de}{n:Nat}{s:bo}{S:az}{Q:Res->az->Prop}
theorem cj.zroom(x:cj w n s){j:Nat}{p:Rm×ee}(h:(w.rooms.zip s.rooms)[j]?=some p):w.rooms[j]?=some p.1/\s.rooms[j]?=some p.2/\fW n p.1 p.2:=by
 rw[List.getElem?_zip_eq_some] at h
 exact⟨h.1,h.2,x.rm j _ _ h.1 h.2⟩
theorem sk(x:cj w n s){h:Nat}{p:(Str×Nat)×(Int×List Int)}(hp:p∈w.passes.zip s.passes):(jd h p).length<=n:=by
 have:=x.ps p.2 (List.of_mem_zip (show(p.1,p.2)∈_ from hp)).2
 unfold jd
 rw[List.length_replicate]
 exact Nat.le_trans kW this
theorem rQ{h:Nat}{p:Rm×ee}(ri:fW n p.1 p.2):(mm h p).length<=2*n:=by
 have h1:=ri.br
 have h2:=ri.bl
 have h3:=kW (l:=p.2.row) (h:=h)
 have h4:=kW (l:=p.2.late) (h:=h)
 unfold mm
 simp only[lQa,List.length_replicate]
 omega
theorem rq{h:Nat}{nm:Str}{p:Rm×ee}(ri:fW n p.1 p.2){q:(Str×Str)×List (Int×Int)}(hq:q∈p.1.bells.zip p.2.bells):(lM h nm q).length<=n:=by
 have:=ri.bb q.2 (List.of_mem_zip (show(q.1,q.2)∈_ from hq)).2
 have h2:=List.length_filter_le (fun q:Int×Int=>decide (q.2=(h:Int))) q.2
 unfold lM
 rw[List.length_replicate]
 omega
theorem oT(o:eN w)(x:cj w n s)(hn:n<=100){h m:Nat}{p:Rm×ee}{j:Nat}(hp:(w.rooms.zip s.rooms)[j]?=some p):(((p.1.bells.zip p.2.bells).take m).flatMap (lM h p.1.name)).length<=600:=by
 obtain⟨h1,h2,ri⟩:=x.zroom hp
 have hb:=(o.rm p.1 (mQg h1)).l2
 have:=gu (f:=lM h p.1.name) (n:=n) (l:=(p.1.bells.zip p.2.bells).take m) fun q hq=>rq ri (List.mem_of_mem_take hq)
 have h6:((p.1.bells.zip p.2.bells).take m).length<=6:=by
  rw[List.length_take,List.length_zip]
  omega
 have h7:n*((p.1.bells.zip p.2.bells).take m).length<=100*6:=Nat.mul_le_mul hn h6
 omega
theorem zm(o:eN w)(x:cj w n s)(hn:n<=100){h:Nat}{p:Rm×ee}(hp:p∈w.rooms.zip s.rooms):(ik h p).length<=800:=by
 obtain⟨j,hj,e⟩:=List.getElem_of_mem hp
 have hp':(w.rooms.zip s.rooms)[j]?=some p:=by rw[gQe hj,e]
 have h1:=oT o x hn (h:=h) (m:=(p.1.bells.zip p.2.bells).length) hp'
 rw[List.take_length] at h1
 have h2:=rQ (h:=h) (x.zroom hp').2.2
 unfold ik
 rw[lQa]
 omega
theorem pA(o:eN w)(x:cj w n s)(hn:n<=100){h m:Nat}:(((w.passes.zip s.passes).take m).flatMap (jd h)).length<=600:=by
 have hb:=o.l2
 have:=gu (f:=jd h) (n:=n) (l:=(w.passes.zip s.passes).take m) fun q hq=>sk x (List.mem_of_mem_take hq)
 have h6:((w.passes.zip s.passes).take m).length<=6:=by
  rw[List.length_take,List.length_zip]
  omega
 have h7:n*((w.passes.zip s.passes).take m).length<=100*6:=Nat.mul_le_mul hn h6
 omega
theorem w9(o:eN w)(x:cj w n s)(hn:n<=100){h m:Nat}:(((w.rooms.zip s.rooms).take m).flatMap (ik h)).length<=2400:=by
 have hb:=o.l1
 have:=gu (f:=ik h) (n:=800) (l:=(w.rooms.zip s.rooms).take m) fun q hq=>zm o x hn (List.mem_of_mem_take hq)
 have h6:((w.rooms.zip s.rooms).take m).length<=3:=by
  rw[List.length_take,List.length_zip]
  omega
 omega
theorem Bx{h:Nat}(o:eN w)(x:cj w n s)(hn:n<=100)(q:Q (.l (eG w s h)) S):Fn gN [w.d,s.d,.int h] S Q:=by
 have lr:=x.lr
 have lp:=x.lp
 refine bE ?_
 unfold nI
 symm
 refine⟨by decide,?_⟩
 refine bQ (fY (uC ?_))
 symm
 refine ak rfl ?_
 refine c9 (ds:=w.passes.map qY) ?_
 symm
 refine ak rfl ?_
 refine c9 (ds:=s.passes.map xk) ?_
 refine⟨⟨trivial,by simp only[lQm];omega⟩,?_⟩
 rw[zip_map]
 refine⟨fun j Γ' S'=>(∃a b c d e,Γ'= [some w.d,some s.d,some (.int h),some (.ref S.length),a,b,c,d,e])/\S'=S++ [.lst (((w.passes.zip s.passes).take j).flatMap (jd h))],⟨⟨_,_,_,_,_,rfl⟩,rfl⟩,fun _ _ _ _=>⟨trivial,trivial⟩,?_,?_⟩
 ·rintro j d Γ' S' hd ⟨⟨a,b,c,d1,e,rfl⟩,rfl⟩
  rw[gQm] at hd
  obtain⟨p,hp,rfl⟩:=oQm.mp hd
  have pl:=pA o x hn (h:=h) (m:=j)
  have cl:=sk x (h:=h) (mQg hp)
  have cl2:lE p.2.2 h<=n:=by unfold jd at cl;rw[List.length_replicate] at cl;exact cl
  refine eO rfl (aq (aZ (aq (aZ (bz ?_)))))
  refine fq (rX ?_)
  symm
  refine⟨_,_,rfl,aC,?_⟩
  refine ue (tq ?_)
  symm
  refine ak (d:=.str p.1.1) rfl ?_
  symm
  refine⟨by show 2<=sizeLine;decide,?_⟩
  symm
  refine⟨by show 1<=sizeLine;decide,?_⟩
  refine tW ?_
  symm
  refine ak (d:=cy p.2.2) rfl ?_
  refine⟨p.2.2.map D.int,rfl,?_⟩
  symm
  refine⟨_,_,rfl,dj _,?_⟩
  refine⟨lE p.2.2 h,_,rfl,rfl,⟨rfl,trivial,by omega⟩,?_⟩
  refine⟨_,aC,⟨rfl,?_⟩,⟨_,_,_,_,_,rfl⟩,?_⟩
  ·rw[List.length_replicate]
   exact jt (by omega)
  ·rw[fQ hp]
   simp[jd]
 rintro Γ' S' ⟨⟨a,b,c,d1,e,rfl⟩,rfl⟩
 rw[lQm,List.take_length]
 have pl:=pA o x hn (h:=h) (m:=(w.passes.zip s.passes).length)
 rw[List.take_length] at pl
 unfold eG at q
 have blow:=r_ w s h
 unfold eG at blow
 generalize (w.passes.zip s.passes).flatMap (jd h)=P at pl q blow⊢
 refine bQ (fY (uC ?_))
 symm
 refine ak rfl ?_
 refine c9 (ds:=w.rooms.map Rm.d) ?_
 symm
 refine ak rfl ?_
 refine c9 (ds:=s.rooms.map ee.d) ?_
 refine⟨⟨trivial,by simp only[lQm];omega⟩,?_⟩
 rw[zip_map]
 refine⟨fun j Γ' S'=>(∃a b c d e,Γ'= [some w.d,some s.d,some (.int h),some (.ref S.length),a,b,c,d,e])/\S'=S++ [.lst (P++((w.rooms.zip s.rooms).take j).flatMap (ik h))],⟨⟨_,_,_,_,_,rfl⟩,by simp⟩,fun _ _ _ _=>⟨trivial,trivial⟩,?_,?_⟩
 ·rintro j d Γ' S' hd ⟨⟨a,b,c,d1,e,rfl⟩,rfl⟩
  rw[gQm] at hd
  obtain⟨p,hp,rfl⟩:=oQm.mp hd
  obtain⟨hp1,hp2,ri⟩:=x.zroom hp
  have ml:=w9 o x hn (h:=h) (m:=j)
  have rl:=rQ (h:=h) ri
  have br:=ri.br
  have bl:=ri.bl
  have lb:=ri.lb
  have c1:=kW (l:=p.2.row) (h:=h)
  have c2:=kW (l:=p.2.late) (h:=h)
  have nx:=fQ (f:=ik h) hp
  generalize ((w.rooms.zip s.rooms).take j).flatMap (ik h)=R at ml nx⊢
  refine eO rfl (aq (aZ (aq (aZ (bz ?_)))))
  refine bQ (fq (rX ?_))
  symm
  refine⟨_,_,rfl,aC,?_⟩
  refine ue (uW (ue (tq ?_)))
  symm
  refine ak (d:=.str p.1.name) rfl ?_
  symm
  refine⟨by show 2<=sizeLine;decide,?_⟩
  symm
  refine⟨by show 1<=sizeLine;decide,?_⟩
  refine tW ?_
  symm
  refine ak (d:=cy p.2.row) rfl ?_
  refine⟨p.2.row.map D.int,rfl,?_⟩
  symm
  refine⟨_,_,rfl,dj _,?_⟩
  refine⟨lE p.2.row h,_,rfl,rfl,⟨rfl,trivial,by omega⟩,?_⟩
  refine ue (tq ?_)
  symm
  refine ak (d:=.str p.1.name) rfl ?_
  symm
  refine⟨by show 2<=sizeLine;decide,?_⟩
  symm
  refine⟨by show 1<=sizeLine;decide,?_⟩
  refine tW ?_
  symm
  refine ak (d:=cy p.2.late) rfl ?_
  refine⟨p.2.late.map D.int,rfl,?_⟩
  symm
  refine⟨_,_,rfl,dj _,?_⟩
  refine⟨lE p.2.late h,_,rfl,rfl,⟨rfl,trivial,by omega⟩,?_⟩
  refine⟨⟨rfl,rfl,trivial,by simp only[List.length_replicate];exact jt (by omega)⟩,?_⟩
  refine⟨_,aC,⟨rfl,?_⟩,?_⟩
  ·simp only[lQa,List.length_replicate]
   exact jt (by omega)
  have e1:(S++ [O.lst (P++R)]).set S.length (.lst (P++R++(List.replicate (lE p.2.row h) (.tup [.str "row",.str p.1.name])++List.replicate (lE p.2.late h) (.tup [.str "late",.str p.1.name]))))=S++ [.lst (P++R++mm h p)]:=by simp[mm]
  rw[e1]
  refine fY (uC ?_)
  symm
  refine ak rfl ?_
  refine c9 (ds:=p.1.bells.map BI) ?_
  symm
  refine ak rfl ?_
  refine c9 (ds:=p.2.bells.map dS) ?_
  refine⟨⟨trivial,by simp only[lQm];omega⟩,?_⟩
  rw[zip_map]
  refine⟨fun m Γ' S'=>(∃a c d,Γ'= [some w.d,some s.d,some (.int h),some (.ref S.length),a,some p.2.d,some p.1.d,c,d])/\S'=S++ [.lst (P++R++mm h p++((p.1.bells.zip p.2.bells).take m).flatMap (lM h p.1.name))],⟨⟨_,_,_,rfl⟩,by simp⟩,fun _ _ _ _=>⟨trivial,trivial⟩,?_,?_⟩
  ·rintro m d Γ' S' hd ⟨⟨a,c,d1,rfl⟩,rfl⟩
   rw[gQm] at hd
   obtain⟨b,hb,rfl⟩:=oQm.mp hd
   have bbl:=oT o x hn (h:=h) (m:=m) hp
   have one:=rq (h:=h) (nm:=p.1.name) ri (mQg hb)
   have lln:=ri.bb b.2 (List.of_mem_zip (show(b.1,b.2)∈_ from mQg hb)).2
   have ffl:=List.length_filter_le (fun q:Int×Int=>decide (q.2=(h:Int))) b.2
   refine eO rfl (aq (aZ (aq (aZ (bz ?_)))))
   refine fq (rX ?_)
   symm
   refine⟨_,_,rfl,aC,?_⟩
   refine ue (tq ?_)
   symm
   refine ak (d:=.str p.1.name) rfl ?_
   symm
   refine ak (d:=.str b.1.1) rfl ?_
   symm
   refine⟨by show 3<=sizeLine;decide,?_⟩
   symm
   refine⟨by show 1<=sizeLine;decide,?_⟩
   refine Fi (ue (t5 (α:=Int×Int) (fun Γ'=>∃a,Γ'= [a,some (.int h)]) pairD pairD (fun q=>decide (q.2=(h:Int))) ⟨none,rfl⟩ (q_ ?_)))
   symm
   refine c9 (ds:=b.2.map pairD) ?_
   refine⟨b.2,rfl,trivial,by omega,fun q hq Γ' hΓ=> ?_,?_⟩
   ·obtain⟨a,rfl⟩:=hΓ
    refine aZ ⟨rfl,⟨_,rfl⟩,?_⟩
    symm
    refine ak (d:=.int q.2) rfl ?_
    symm
    refine dF ?_
    refine⟨rfl,rfl,fun _=> ?_⟩
    symm
    exact⟨rfl,rfl⟩
   refine⟨(b.2.filter fun q=>decide (q.2=(h:Int))).length,_,by rw[lQm],rfl,⟨rfl,trivial,by omega⟩,?_⟩
   refine⟨_,aC,⟨rfl,?_⟩,⟨_,_,_,rfl⟩,?_⟩
   ·simp only[lQa,List.length_replicate]
    exact jt (by omega)
   ·rw[fQ hb]
    simp[lM]
  ·rintro Γ' S' ⟨⟨a,c,d1,rfl⟩,rfl⟩
   rw[lQm,List.take_length]
   refine⟨⟨_,_,_,_,_,rfl⟩,?_⟩
   rw[nx]
   simp[ik]
 ·rintro Γ' S' ⟨⟨a,b,c,d1,e,rfl⟩,rfl⟩
  rw[lQm,List.take_length]
  symm
  exact wQ jT.refl.app (Nat.le_refl _) aC blow q
end
def pI(w:de)(h:Nat):Nat:=((w.hands[h]?).map fun p=>p.2.length).getD 0
def Hf(w:de)(i:Int):Str:=((w.rooms[i.toNat]?).map (·.name)).getD ""
def wit(s:bo)(i:Int):Int:=((s.rooms[i.toNat]?).map (·.within)).getD (-1)
def j3(w:de)(s:bo)(h:Nat)(f:cv):Str:=if f.room= -1 then(if f.row=(pI w h:Int) then "done" else "out") else(if wit s f.room=(h:Int) then "within" else "called")
def uG(w:de)(s:bo)(h:Nat)(f:cv):D:=if f.room= -1 then .tup [.str (j3 w s h f)] else .tup [.str (j3 w s h f),.str (Hf w f.room)]
def tN(w:de)(s:bo)(h:Nat)(f:cv):D:=match eG w s h with
 |d::_=>d
 | []=>uG w s h f
section
variable{w:de}{n h:Nat}{s:bo}{S:az}{Q:Res->az->Prop}{vs:List Int}{fs:List cv}{f:cv}
theorem xW{b:Bool}{Q:D->Prop}(q:Q (.int (if b then 1 else 0))):Op (intOfD [.bl b]) Q:=⟨_,rfl,q⟩
theorem cj.at(x:cj w n s)(hs:s.hands[h]?=some (vs,fs))(hf:fs.getLast? =some f):f.room= -1\/∃(i:Nat) (r:Rm) (rs:ee),f.room=i/\w.rooms[i]?=some r/\s.rooms[i]?=some rs/\Hf w f.room=r.name/\wit s f.room=rs.within:=by
 obtain⟨ts,pr,hw,hi⟩:=x.whand hs
 have fi:=hi.fr f (List.mem_of_getLast? hf)
 obtain⟨pr',hp,_⟩:=fi.pr
 rcases iq hp with⟨c,_⟩|⟨i,j,r,dn,h1,h2,h3,h4⟩
 ·exact .inl c
 ·obtain⟨rs,hsr,ri⟩:=x.wroom h3
  refine .inr ⟨i,r,rs,h1,h3,hsr,?_,?_⟩
  ·unfold Hf
   rw[h1,show((i:Int)).toNat=i by omega,h3]
   rfl
  ·unfold wit
   rw[h1,show((i:Int)).toNat=i by omega,hsr]
   rfl
theorem CB(x:cj w n s)(hs:s.hands[h]?=some (vs,fs))(hf:fs.getLast? =some f)(q:Q (.d (.str (j3 w s h f))) S):Fn iL [w.d,s.d,.int h] S Q:=by
 obtain⟨ts,pr,hw,hi⟩:=x.whand hs
 have hol:pI w h=pr.length:=by unfold pI;rw[hw];rfl
 refine bE ?_
 unfold pE
 symm
 refine ak rfl ?_
 symm
 refine ak (d:=xf (vs,fs)) (aP (by rw[gQm,hs];rfl)) ?_
 symm
 refine ak rfl ?_
 refine k_ ?_
 symm
 refine⟨1,rfl,?_⟩
 refine ak (d:=f.d) (lu (by rw[List.getLast?_map,hf];rfl)) ?_
 refine eO rfl (aq (aZ (aq (aZ (aq (aZ (aq (aZ (aq (aZ (bz ?_)))))))))))
 unfold j3 at q
 rcases x.at hs hf with c|⟨i,r,rs,h1,h3,hsr,e1,e2⟩
 ·rw[if_pos c] at q
  symm
  rw[decide_eq_true (show f.room<0 by omega),if_pos rfl]
  symm
  refine⟨by show 2<=sizeLine;decide,?_⟩
  symm
  refine ak rfl ?_
  symm
  refine ak (d:=j0 (ts,pr)) (aP (by rw[gQm,hw];rfl)) ?_
  symm
  refine ak rfl ?_
  symm
  refine dF ?_
  symm
  refine xW ?_
  rw[lQm]
  rw[hol] at q
  by_cases c2:f.row=(pr.length:Int)
  ·rw[if_pos c2] at q
   rw[decide_eq_true c2]
   refine dE aC (d:=.str "done") rfl ?_
   exact jX jT.refl.app (fun k z=>(nomatch z)) rfl q
  ·rw[if_neg c2] at q
   rw[decide_eq_false c2]
   refine dE aC (d:=.str "out") rfl ?_
   exact jX jT.refl.app (fun k z=>(nomatch z)) rfl q
 ·rw[if_neg (by omega),e2] at q
  symm
  rw[decide_eq_false (show¬f.room<0 by omega),if_neg (by decide),h1]
  refine cA ?_
  symm
  refine⟨by show 2<=sizeLine;decide,?_⟩
  symm
  refine ak rfl ?_
  symm
  refine ak (d:=rs.d) (aP (by rw[gQm,hsr];rfl)) ?_
  symm
  refine ak (d:=.int rs.within) rfl ?_
  symm
  refine dF ?_
  symm
  refine xW ?_
  by_cases c2:rs.within=(h:Int)
  ·rw[if_pos c2] at q
   rw[decide_eq_true c2]
   refine dE aC (d:=.str "within") rfl ?_
   exact jX jT.refl.app (fun k z=>(nomatch z)) rfl q
  ·rw[if_neg c2] at q
   rw[decide_eq_false c2]
   refine dE aC (d:=.str "called") rfl ?_
   exact jX jT.refl.app (fun k z=>(nomatch z)) rfl q
theorem sC{d:D}(h1:d∈eG w s h):∃(a:Str) (ss:List Str),d=.tup ((a::ss).map D.str)/\a∈(["pass","row","late","bell"]:List Str)/\ss.length<=2:=by
 unfold eG at h1
 rcases mQa.mp h1 with hd|hd
 ·obtain⟨p,_,hp⟩:=List.mem_flatMap.mp hd
  exact⟨"pass",[p.1.1],List.eq_of_mem_replicate hp,by simp,by simp⟩
 ·obtain⟨p,_,hp⟩:=List.mem_flatMap.mp hd
  unfold ik mm at hp
  rcases mQa.mp hp with hp|hp
  ·rcases mQa.mp hp with hp|hp
   ·exact⟨"row",[p.1.name],List.eq_of_mem_replicate hp,by simp,by simp⟩
   ·exact⟨"late",[p.1.name],List.eq_of_mem_replicate hp,by simp,by simp⟩
  ·obtain⟨q,_,hq⟩:=List.mem_flatMap.mp hp
   exact⟨"bell",[p.1.name,q.1.1],List.eq_of_mem_replicate hq,by simp,by simp⟩
theorem wR(o:eN w)(x:cj w n s)(hn:n<=100)(hs:s.hands[h]?=some (vs,fs))(hf:fs.getLast? =some f)(q:Q (.d (tN w s h f)) S):Fn fK [w.d,s.d,.int h] S Q:=by
 have bl:=r_ w s h
 have bm:∀d∈eG w s h,_:=fun d hd=>sC hd
 refine bE ?_
 unfold lQ
 symm
 refine Bx o x hn ?_
 symm
 refine bD aC ?_
 symm
 refine⟨⟨rfl,aC⟩,?_⟩
 symm
 unfold tN at q
 cases hb:eG w s h with
 | cons d l=>
   rw[hb] at q bl bm
   refine bf (fun _=> ?_) (fun c=>by cases c)
   symm
   refine dE aC (d:=d) xj ?_
   obtain⟨a,ss,rfl,_⟩:=bm d (List.mem_cons_self ..)
   exact jX jT.refl.app (fun k z=>(nomatch z)) (by simp only[bB,Bool.and_eq_true] at bl;exact bl.1) q
 | nil=>
   rw[hb] at q
   refine bf (fun c=>by cases c) (fun _=>cA ?_)
   symm
   refine CB x hs hf ?_
   have q:Q (.d (uG w s h f)) S:=q
   unfold uG at q
   refine bQ (eZ (fw (yN ?_)))
   symm
   refine⟨by show 2<=sizeLine;decide,?_⟩
   symm
   refine⟨_,_,rfl,gh ["out","done"],?_⟩
   rw[uv]
   show if decide (j3 w s h f∈(["out","done"]:List Str))=true then _ else _
   rcases x.at hs hf with c|⟨i,r,rs,h1,h3,hsr,e1,e2⟩
   · rw[if_pos c] at q
     have hin:j3 w s h f∈(["out","done"]:List Str):=by
       unfold j3
       rw[if_pos c]
       split <;>simp
     refine bf (fun _=> ?_) (fun z=>by rw[decide_eq_true hin] at z;cases z)
     symm
     refine⟨by show 1<=sizeLine;decide,?_⟩
     exact jX jT.refl.app (fun k z=>(nomatch z)) rfl q
   · rw[if_neg (by omega),e1] at q
     have hin:¬j3 w s h f∈(["out","done"]:List Str):=by
       unfold j3
       rw[if_neg (by omega)]
       split <;>decide +kernel
     refine bf (fun z=>by rw[decide_eq_false hin] at z;cases z) (fun _=>cA ?_)
     symm
     refine ak rfl ?_
     symm
     refine ak rfl ?_
     symm
     refine ak (d:=xf (vs,fs)) (aP (by rw[gQm,hs];rfl)) ?_
     symm
     refine ak rfl ?_
     refine k_ ?_
     symm
     refine⟨1,rfl,?_⟩
     refine ak (d:=f.d) (lu (by rw[List.getLast?_map,hf];rfl)) ?_
     symm
     refine ak (d:=.int f.room) rfl ?_
     rw[h1]
     refine ak (d:=r.d) (aP (by rw[gQm,h3];rfl)) ?_
     symm
     refine ak (d:=.str r.name) rfl ?_
     symm
     refine⟨by show 2<=sizeLine;decide,?_⟩
     exact jX jT.refl.app (fun k z=>(nomatch z)) rfl q
end
end W28
namespace DL
open PySem PySem.Spec L2
theorem Bk{S:az}{k:Nat}{ds:List D}{Q:List D×Tag->Prop}(hS:S[k]?=some (.frz ds))(q:Q (ds,.fz k)):Op (p9 S (.ref k)) Q:=⟨_,by simp only[p9,hS],q⟩
theorem E9{S:az}{k:Nat}{ds:List D}{i:Int}{d:D}{Q:D->Prop}(hS:S[k]?=some (.frz ds))(h:i3 ds i=some d)(q:Q d):Op (aI S (.ref k) (.int i)) Q:=⟨_,by simp only[aI,hS];exact h,q⟩
theorem E_{i:Int}{Q:D->Prop}(q:Q (.int (if i<0 then -i else i))):Op (CA [.int i]) Q:=⟨_,rfl,q⟩
theorem AK{b:Bool}{Q:D->Prop}(q:Q (.int (if b then 1 else 0))):Op (intOfD [.bl b]) Q:=⟨_,rfl,q⟩
theorem pZ{j:Nat}{n:Nat}{d:D}(h:(ie 0 (j:Int))[n]?=some d):d=.int n/\n<j:=by
 have hl:n<j:=by
  have:=(gQs.mp h).1
  unfold ie at this
  simpa using this
 unfold ie at h
 rw[gQm,List.getElem?_range (by simpa using hl)] at h
 cases h
 exact⟨by simp,hl⟩
theorem zG{j:Nat}:(ie 0 (j:Int)).length=j:=by
 unfold ie
 simp
end DL
namespace W28
open PySem PySem.Spec L2 DL
section
variable{S:az}{Q:Res->az->Prop}
theorem EE{ns:List Int}{k:Nat}(hS:S[0]?=some (.frz (ns.map D.int)))(q:∀a b:Int,Q (.l [.int a,.int b,.int 0]) S):Fn jG [.ref 0,.int k] S Q:=by
 refine bE ?_
 unfold sE
 have key:∀c0:Int,T (aA (aV 3 (ay kE (ay oo (af 2) (ay kE (ay uo (cF (.int 10)) (cF (.int 60))) (ay uo (cF (.int 10)) (cF (.int 60))))) (ud intOfD (ae (ay Hc (af 2) (ay uo (cF (.int 10)) (cF (.int 18)))) ai))))
   (AN (bp (ae (af 3) (ae (ay oo (ay cc (ay cc (af 2) (ay kE (cF (.int 104729)) (af 1))) (cF (.int 7))) (cF (.int 2305843009213693951))) (ae (cF (.int 0)) ai))))))
   [some (.ref 0),some (.int k),some (.int c0),none] S (fun o=>match o with
   |.nx _ S'=>Op (settle S .non S') fun p=>Q p.1 p.2|.rt d S'=>Op (settle S d S') fun p=>Q p.1 p.2|.rl l S'=>Op (dm S l S') fun p=>Q p.1 p.2|_=>False):=by
  intro c0
  symm
  refine Bt ⟨by decide,by decide,by decide⟩ ?_
  symm
  refine Bt ⟨by decide,by decide,by decide⟩ ?_
  symm
  refine Ei (IntMulOk.of_bits (by decide +kernel) (by decide +kernel)) ?_
  refine ql (show(0:Int)<10^(60:Int).toNat*10^(60:Int).toNat by decide +kernel) ?_
  generalize c0%(10^(60:Int).toNat*10^(60:Int).toNat)=c1
  symm
  refine Bt ⟨by decide,by decide,by decide⟩ ?_
  generalize (10:Int)^(18:Int).toNat=c2
  symm
  refine AK ?_
  have hb:CU c1 (if decide (c2<=c0)=true then 1 else 0):=by
   right
   split <;>decide
  generalize (if decide (c2<=c0)=true then(1:Int) else 0)=c3 at hb⊢
  refine rB hb ?_
  symm
  refine rB (.inl ⟨by decide,by decide⟩) ?_
  symm
  refine ql (by decide) ?_
  symm
  refine⟨by show 3<=sizeLine;decide,?_⟩
  exact zR rfl (q _ _)
 symm
 refine Bk hS ?_
 symm
 rw[lQm]
 by_cases c:(k:Int)<ns.length
 ·rw[decide_eq_true c,if_pos rfl]
  have hk:k<ns.length:=by omega
  symm
  refine E9 hS (aP (x:=.int ns[k]) (by rw[gQm,gQe hk];rfl)) ?_
  symm
  refine E_ ?_
  exact key _
 ·rw[decide_eq_false c,if_neg (by decide)]
  refine cA ?_
  exact key 0
end
end W28
namespace DL
open PySem PySem.Spec L2
theorem vf:∀l:List Int,yf (l.map V.int) (l.map V.int)=true
 | []=>rfl
 | a::l=>by
   have:=vf l
   simp[yf,jQ,this]
theorem F8{Γ:cx}{S:az}{neg:Bool}{f g:d_}{Q:D->az->Prop}(h:E f Γ S fun p S1=>E g Γ S1 fun r S2=>(p.2.isL=true/\r.2.isL=true/\p.2.stays S2 p.1)/\∃us vs,gk p.1=some us/\gk r.1=some vs/\Q (.bl (if neg then !yf us vs else yf us vs)) S2):E (eqQ neg f g) Γ S Q:=by
 obtain⟨p,S1,e1,r,S2,e2,hc,us,vs,h1,h2,q⟩:=h
 exact⟨_,S2,by unfold eqQ;rw[e1];simp only[Option.bind_some];rw[e2];simp only[Option.bind_some];rw[if_pos hc,h1,h2];rfl,q⟩
theorem FL{Γ:cx}{S:az}{f:d_}{Q:D->az->Prop}(h:E f Γ S fun p S1=>p.2.isL=true/\∃bs,Ec p.1=some bs/\Q (.bl (bs.any id)) S1):E (BS f) Γ S Q:=by
 obtain⟨p,S1,e1,l,bs,e2,q⟩:=h
 exact⟨_,S1,by unfold BS;rw[e1];simp only[Option.bind_some];rw[if_pos l,e2];rfl,q⟩
theorem rE:∀n:Nat,Ec (List.replicate n (.bl false))=some (List.replicate n false)
 |0=>rfl
 |n+1=>by simp only[List.replicate_succ,Ec];rw[rE n];rfl
theorem jK{α β:Type}:∀{xs:List α} {ys:List β} {y:β},xs.length=ys.length->y∈ys->∃x,(x,y)∈xs.zip ys
 | [],[],_,_,h=>by cases h
 | x::xs,z::ys,y,hl,h=>by
   rcases List.mem_cons.mp h with rfl|h
   · exact⟨x,by simp⟩
   · obtain⟨x',hx⟩:=jK (xs:=xs) (ys:=ys) (by simpa using hl) h
     exact⟨x',List.mem_cons_of_mem _ hx⟩
end DL
namespace W28
open PySem PySem.Spec L2 DL
theorem sf{h:Nat}{l:List (Int×Int)}:(l.filter fun q=>decide (q.2=(h:Int))).length=0↔(h:Int)∉l.map (·.2):=by
 rw[List.length_eq_zero_iff,List.filter_eq_nil_iff]
 constructor
 ·intro g z
  obtain⟨q,hq,e⟩:=List.mem_map.mp z
  exact g q hq (decide_eq_true e)
 ·intro g q hq z
  exact g (List.mem_map.mpr ⟨q,hq,of_decide_eq_true z⟩)
section
variable{w:de}{n h:Nat}{s:bo}{S:az}{Q:Res->az->Prop}{vs:List Int}{fs:List cv}{f:cv}
theorem jC{α:Type}{n:Nat}{d:α}:List.replicate n d= []↔n=0:=by
 cases n with
 |zero=>simp
 |succ n=>simp[List.replicate_succ]
theorem sD{p:Rm×ee}(ri:fW n p.1 p.2):ik h p= []↔(h:Int)∉fU p.2:=by
 unfold ik mm fU
 rw[List.append_eq_nil_iff,List.append_eq_nil_iff,jC,jC,jN,jN,List.flatMap_eq_nil_iff]
 constructor
 ·rintro⟨⟨h1,h2⟩,h3⟩ z
  rcases mQa.mp z with z|z
  ·rcases mQa.mp z with z|z
   ·exact h1 z
   ·exact h2 z
  ·obtain⟨l,hl,z⟩:=List.mem_flatMap.mp z
   obtain⟨b,hb⟩:=jK ri.lb hl
   have:=h3 _ hb
   unfold lM at this
   rw[jC] at this
   exact sf.mp this z
 ·intro g
  refine⟨⟨fun z=>g (by simp[z]),fun z=>g (by simp[z])⟩,fun q hq=> ?_⟩
  unfold lM
  rw[jC,sf]
  intro z
  exact g (mQa.mpr (.inr (List.mem_flatMap.mpr ⟨q.2,(List.of_mem_zip (show(q.1,q.2)∈_ from hq)).2,z⟩)))
theorem sL(x:cj w n s):eG w s h= []↔(h:Int)∉held s:=by
 unfold eG held
 rw[List.append_eq_nil_iff,List.flatMap_eq_nil_iff,List.flatMap_eq_nil_iff]
 constructor
 ·rintro⟨h1,h2⟩ z
  rcases mQa.mp z with z|z
  ·obtain⟨p,hp,z⟩:=List.mem_flatMap.mp z
   obtain⟨t,ht⟩:=jK x.lp hp
   have:=h1 _ ht
   unfold jd at this
   rw[jC] at this
   exact jN.mp this z
  ·obtain⟨rs,hr,z⟩:=List.mem_flatMap.mp z
   obtain⟨r,ht⟩:=jK x.lr hr
   obtain⟨j,hj,e⟩:=List.getElem_of_mem ht
   have hp':(w.rooms.zip s.rooms)[j]?=some (r,rs):=by rw[gQe hj,e]
   exact(sD (x.zroom hp').2.2).mp (h2 _ ht) z
 ·intro g
  refine⟨fun p hp=> ?_,fun p hp=> ?_⟩
  ·unfold jd
   rw[jC,jN]
   intro z
   exact g (mQa.mpr (.inl (List.mem_flatMap.mpr ⟨p.2,(List.of_mem_zip (show(p.1,p.2)∈_ from hp)).2,z⟩)))
  ·obtain⟨j,hj,e⟩:=List.getElem_of_mem hp
   have hp':(w.rooms.zip s.rooms)[j]?=some p:=by rw[gQe hj,e]
   rw[sD (x.zroom hp').2.2]
   intro z
   exact g (mQa.mpr (.inr (List.mem_flatMap.mpr ⟨p.2,(List.of_mem_zip (show(p.1,p.2)∈_ from hp)).2,z⟩)))
def x8:List Str:= ["out","within","called"]
theorem xH(x:cj w n s)(hs:s.hands[h]?=some (vs,fs))(hf:fs.getLast? =some f):∃a l,tN w s h f=.tup (.str a::l)/\decide (a∈x8)=(!decide ((h:Int)∈held s)&& !iA w s h):=by
 obtain⟨ts,pr,hw,hi⟩:=x.whand hs
 have hol:pI w h=pr.length:=by unfold pI;rw[hw];rfl
 have hbh:iA w s h=(decide (f.room= -1)&&decide (f.row=(((progOf w h f).getD []).length:Int))):=by
  unfold iA ye
  rw[hs]
  show(match fs.getLast? with|some f=>_|none=>_)=_
  rw[hf]
 unfold tN
 cases hb:eG w s h with
 | cons d l=>
   obtain⟨a,ss,rfl,ha,_⟩:=sC (show d∈eG w s h by rw[hb];exact List.mem_cons_self ..)
   refine⟨a,ss.map D.str,rfl,?_⟩
   have hh:(h:Int)∈held s:=by
     by_cases c:(h:Int)∈held s
     · exact c
     · rw[(sL x).mpr c] at hb;cases hb
   rw[decide_eq_true hh]
   have:¬a∈x8:=by
     simp only[List.mem_cons,List.not_mem_nil,or_false] at ha
     rcases ha with rfl|rfl|rfl|rfl <;>decide +kernel
   rw[decide_eq_false this]
   rfl
 | nil=>
   have hh:¬(h:Int)∈held s:=(sL x).mp hb
   rw[decide_eq_false hh,hbh]
   show∃a l,uG w s h f=_/\_
   unfold uG j3
   by_cases c:f.room= -1
   · have hp:progOf w h f=some pr:=by unfold progOf;rw[if_pos c,hw];rfl
     rw[if_pos c,if_pos c,decide_eq_true c,hp,hol]
     refine⟨_,_,rfl,?_⟩
     show _=(!false&& !(true&&decide (f.row=(pr.length:Int))))
     by_cases c2:f.row=(pr.length:Int)
     · rw[if_pos c2,decide_eq_true c2]
       exact decide_eq_false (by decide +kernel)
     · rw[if_neg c2,decide_eq_false c2]
       exact decide_eq_true (by decide +kernel)
   · rw[if_neg c,if_neg c,decide_eq_false c]
     refine⟨_,_,rfl,?_⟩
     show _=true
     split
     · exact decide_eq_true (by decide +kernel)
     · exact decide_eq_true (by decide +kernel)
theorem Au(o:eN w)(x:cj w n s)(hn:n<=100)(q:Q (.l ((iE w s).map jP)) S):Fn fN [w.d,s.d] S Q:=by
 have b4:=o.l4
 have lh:=x.lh
 refine bE ?_
 unfold rL
 symm
 refine⟨by decide,?_⟩
 refine bQ (fY (ya ?_))
 symm
 refine ak rfl ?_
 symm
 refine⟨(w.hands.length:Nat),by rw[lQm],by omega,?_⟩
 refine⟨fun j Γ' S'=>(∃a,Γ'= [some w.d,some s.d,some (.ref S.length),a])/\S'=S++ [.lst (((List.range j).filter fun h:Nat=> !decide ((h:Int)∈held s)&& !iA w s h).map jP)],⟨⟨_,rfl⟩,rfl⟩,fun _ _ _ _=>trivial,?_,?_⟩
 ·rintro j d Γ' S' hd ⟨⟨a,rfl⟩,rfl⟩
  obtain⟨rfl,hj⟩:=pZ hd
  obtain⟨⟨vs,fs⟩,hs⟩:∃p,s.hands[j]?=some p:=⟨_,gQe (by omega)⟩
  obtain⟨ts,pr,hw,hi⟩:=x.whand hs
  obtain⟨f,hf,fi⟩:=hi.last
  obtain⟨a1,l1,e1,e2⟩:=xH x hs hf
  have nx:((List.range (j+1)).filter fun h:Nat=> !decide ((h:Int)∈held s)&& !iA w s h)=((List.range j).filter fun h:Nat=> !decide ((h:Int)∈held s)&& !iA w s h)++if (!decide ((j:Int)∈held s)&& !iA w s j)=true then [j] else []:=by
   rw[List.range_succ,List.filter_append]
   cases hc:(!decide ((j:Int)∈held s)&& !iA w s j) <;>simp[hc]
  have fl:=List.length_filter_le (fun h:Nat=> !decide ((h:Int)∈held s)&& !iA w s h) (List.range j)
  rw[List.length_range] at fl
  refine aZ ?_
  refine eZ (fw (yN ?_))
  symm
  refine wR o x hn hs hf ?_
  rw[e1]
  symm
  refine ak (d:=.str a1) xj ?_
  symm
  refine⟨by show 3<=sizeLine;decide,?_⟩
  symm
  refine⟨_,_,rfl,gh x8,?_⟩
  rw[uv]
  show if decide (a1∈x8)=true then _ else _
  rw[e2]
  by_cases hc:(!decide ((j:Int)∈held s)&& !iA w s j)=true
  ·rw[if_pos hc]
   refine fq (hU ?_)
   symm
   refine⟨_,_,rfl,aC,?_⟩
   symm
   refine⟨_,aC,⟨_,by unfold eY;exact if_pos (by rw[lQm];exact a8 (by omega)),?_⟩⟩
   refine⟨⟨_,rfl⟩,?_⟩
   rw[nx,if_pos hc]
   simp[jP]
  ·rw[if_neg hc]
   refine cA ?_
   refine⟨⟨_,rfl⟩,?_⟩
   rw[nx,if_neg hc]
   simp
 ·rintro Γ' S' ⟨⟨a,rfl⟩,rfl⟩
  rw[zG,lh]
  symm
  exact wQ jT.refl.app (Nat.le_refl _) aC (aO fun _ _=>rfl) q
theorem Ag(o:eN w)(x:cj w n s)(hn:n<=100)(q:Q (.d (.bl true)) S):Fn gK [w.d,s.d] S Q:=by
 have hm:=x.mays o hn
 have hml:(iE w s).length<=4:=by
  have h1:=List.length_filter_le (fun h:Nat=> !decide ((h:Int)∈held s)&& !iA w s h) (List.range s.hands.length)
  have h2:=x.lh
  have h3:=o.l4
  rw[List.length_range] at h1
  unfold iE
  omega
 refine bE ?_
 unfold nc
 symm
 refine Au o x hn ?_
 symm
 refine fY (ya ?_)
 symm
 refine⟨(2:Nat),rfl,by decide,?_⟩
 refine⟨fun _ Γ' S'=>(∃a b,Γ'= [some w.d,some s.d,some (.ref S.length),a,b])/\jT (S++ [.lst ((iE w s).map jP)]) S',⟨⟨_,_,rfl⟩,jT.refl⟩,fun _ _ _ _=>trivial,?_,?_⟩
 ·rintro j d Γ' S' hd ⟨⟨a,b,rfl⟩,hb⟩
  have hl:(S++ [O.lst ((iE w s).map jP)]).length=S.length+1:=by simp
  have hlen:=hb.len
  have gd:S'[S.length]?=some (.lst ((iE w s).map jP)):=by rw[hb.eq _ (by omega)];exact aC
  refine aZ ?_
  symm
  refine hm _ _ ?_
  symm
  have hisi:zh (S'++ [.lst ((iE w s).map jP)]) "list" (.ref S'.length)=some true:=by
   unfold zh
   dsimp only
   rw[aC]
   rfl
  refine BD ?_
  symm
  refine⟨true,hisi,?_⟩
  refine p8 ?_
  refine bf (fun c=>by cases c) (fun _=> ?_)
  refine Ga (fw (F8 ?_))
  symm
  refine bD aC ?_
  symm
  refine bD (aM gd) ?_
  refine⟨⟨rfl,rfl,aC⟩,_,_,by rw[mQ];exact dj _,by rw[mQ];exact dj _,?_⟩
  rw[vf]
  refine bf (fun c=>by cases c) (fun _=> ?_)
  refine Dc (FL (ue ?_))
  refine mz (α:=Nat) (fun Γ'=>∃a,Γ'= [a]) jP (fun _=>.bl false) ⟨none,rfl⟩ ?_
  symm
  refine bD aC ?_
  refine⟨iE w s,rfl,aC,by omega,fun m hm Γ' hΓ=> ?_,?_⟩
  ·obtain⟨a,rfl⟩:=hΓ
   refine aZ ⟨rfl,⟨_,rfl⟩,?_⟩
   exact BD (dM rfl ⟨_,rfl,rfl,rfl⟩)
  refine⟨rfl,_,by rw[List.map_const'];exact rE _,?_⟩
  refine p8 ?_
  refine bf (fun c=>by simp at c) (fun _=>cA ?_)
  refine fq (hU ?_)
  symm
  refine⟨_,_,rfl,aC,?_⟩
  symm
  refine⟨_,aC,⟨_,by unfold eY;exact if_pos (by rw[lQm];exact a8 (by omega)),?_⟩⟩
  exact⟨⟨_,_,rfl⟩,hb.app.put (by omega)⟩
 ·rintro Γ' S' ⟨⟨a,b,rfl⟩,hb⟩
  symm
  have hb2:jT S S':=⟨by have:=hb.len;simp at this;omega,fun j hj=>by rw[hb.eq j (by simp;omega)];exact List.getElem?_append_left hj⟩
  exact jX hb2 (fun k z=>(nomatch z)) rfl q
end
theorem AX:∀ns:List Int,ns.length<=63->∃S',CG [.ref 0] [.frz (ns.map D.int)]=some (.d (.bl true),S'):=by
 intro ns hns
 suffices h:Fn CG [.ref 0] [.frz (ns.map D.int)] fun r _=>r=.d (.bl true) by
  obtain⟨r,S',e,rfl⟩:=h
  exact⟨S',e⟩
 refine bE ?_
 unfold Fm
 refine bQ (fY ?_)
 refine ya ?_
 symm
 refine Bk rfl ?_
 symm
 refine AR ?_
 symm
 refine Dd ?_
 obtain⟨m,hm,hm4⟩:∃m:Nat,(if (if (5:Int)<((ns.map D.int).length:Nat) then(5:Int) else((ns.map D.int).length:Nat))>(1:Int) then(if (5:Int)<((ns.map D.int).length:Nat) then(5:Int) else((ns.map D.int).length:Nat)) else 1)=(m:Int)/\m<=5:=by
  refine⟨(if (if (5:Int)<((ns.map D.int).length:Nat) then(5:Int) else((ns.map D.int).length:Nat))>(1:Int) then(if (5:Int)<((ns.map D.int).length:Nat) then(5:Int) else((ns.map D.int).length:Nat)) else 1).toNat,?_,?_⟩ <;>(repeat' split) <;>omega
 refine⟨m,congrArg D.int hm,by omega,?_⟩
 refine⟨fun n Γ' S'=>(∃a1 a2 a3 a4 a5 a6 a7,Γ'= [some (.ref 0),a1,a2,a3,a4,a5,a6,a7])/\S'[0]?=some (.frz (ns.map D.int)),⟨⟨_,_,_,_,_,_,_,rfl⟩,rfl⟩,fun _ _ _ _=>trivial,?_,?_⟩
 ·rintro n d Γ' S hd ⟨⟨a1,a2,a3,a4,a5,a6,a7,rfl⟩,hS⟩
  obtain⟨rfl,_⟩:=pZ hd
  refine aZ ?_
  symm
  refine EE hS fun pa pb=> ?_
  symm
  have pot0:Ex S.length (S++ [lC pa pb 0]) (S++ [lC pa pb 0]):=Ex.refl aC
  have hS0:(S++ [lC pa pb 0])[0]?=some (.frz (ns.map D.int)):=aM hS
  have h0:0≠S.length:=by
   have:=(gQs.mp hS).1
   omega
  show Fn dv [.ref S.length] (S++ [lC pa pb 0]) _
  generalize S.length=kp at pot0 h0⊢
  generalize S++ [lC pa pb 0]=S1 at pot0 hS0⊢
  refine uu pot0 fun w S2 ok x2 _ _=> ?_
  symm
  refine BC ok ?_
  symm
  refine k_ ?_
  symm
  refine⟨1,rfl,?_⟩
  refine fY (ya ?_)
  symm
  refine⟨(40:Nat),rfl,by decide,?_⟩
  refine⟨fun j Γ' S'=>(∃(s:bo) (last:Int) (b6 b7:Option D),Γ'= [some (.ref 0),some (.int n),some (.ref kp),some w.d,some s.d,some (.int last),b6,b7]/\cj w (1+j) s)/\Ex kp S1 S',?_,fun _ _ _ _=>trivial,?_,?_⟩
  ·exact⟨⟨dA w,-1,_,_,rfl,yW ok⟩,x2⟩
  ·rintro j d Γ' S' hd ⟨⟨s,last,b6,b7,rfl,hinv⟩,hex⟩
   obtain⟨rfl,hj⟩:=pZ (j:=40) hd
   refine aZ ?_
   have hm:=hinv.mays ok (by omega)
   have hkl:kp<S'.length:=hex.lt
   symm
   refine Ag ok hinv (by omega) ?_
   symm
   refine p8 ?_
   refine bf (fun c=>by cases c) (fun _=>cA ?_)
   symm
   refine Au ok hinv (by omega) ?_
   symm
   refine bD aC ?_
   symm
   refine⟨⟨rfl,aC⟩,?_⟩
   symm
   by_cases hm0:iE w s= []
   ·rw[hm0]
    refine bf (fun c=>by cases c) (fun _=>cA ?_)
    exact⟨⟨s,last,_,_,rfl,hinv.mono (by omega)⟩,hex.app⟩
   ·have hpos:0<(iE w s).length:=List.length_pos_iff.mpr hm0
    have hne:(!((iE w s).map jP).isEmpty)=true:=by
     cases hc:iE w s with
     |nil=>exact absurd hc hm0
     |cons a l=>rfl
    rw[hne,if_pos rfl]
    have hml:(iE w s).length<=4:=by
     have h1:=List.length_filter_le (fun h:Nat=> !decide ((h:Int)∈held s)&& !iA w s h) (List.range s.hands.length)
     have h2:=hinv.lh
     have h3:=ok.l4
     rw[List.length_range] at h1
     unfold iE
     omega
    symm
    refine CF (S0:=S1) hex.app (by omega) aC hpos (by omega) fun h S4 hh e1 _ _=> ?_
    have hhl:h<s.hands.length:=List.mem_range.mp (List.mem_filter.mp hh).1
    obtain⟨⟨vs,fs⟩,hs⟩:∃p,s.hands[h]?=some p:=⟨_,gQe hhl⟩
    obtain⟨ts,pr,hw,hi⟩:=hinv.whand hs
    obtain⟨f,hf,fi⟩:=hi.last
    obtain⟨s',e,hst,hi',hsay,hrange⟩:=Ce ok hinv (by omega) hh hs hf
    symm
    refine wY hm hh hst ?_
    symm
    refine ak (d:=s'.d) rfl ?_
    exact⟨⟨s',h,_,_,rfl,hi'.mono (by omega)⟩,e1⟩
  ·rintro Γ' S' ⟨⟨s,last,b6,b7,rfl,hinv⟩,hex⟩
   exact⟨⟨_,_,_,_,_,_,_,rfl⟩,hex.keep _ _ h0 hS0⟩
 ·rintro Γ' S' ⟨⟨a1,a2,a3,a4,a5,a6,a7,rfl⟩,hS⟩
  symm
  have hl:=(gQs.mp hS).1
  refine fO (S2:= [.frz (ns.map D.int)]) ⟨by show 1<=S'.length;omega,fun k o hk e=> ?_⟩ ?_ (fun k z=>(nomatch z)) rfl rfl
  ·have hk:k<1:=hk
   have:k=0:=by omega
   subst this
   rw[hS] at e
   exact .inl e
  ·cases S' with
   |nil=>simp at hl
   | cons a l=>
     simp at hS
     subst hS
     rfl
end W28
open PySem PySem.W PyProof.Rows L2 DL
theorem PySem.Challenge.cw_calledroom_k19_who_may_step_holds : PySem.Challenge.rw_calledroom_k19_who_may_step.Holds := by
  w_on; o_law; k_head; (case hw => w_witness2)
  k_fill
  refine DL.Ff (l := PySem.Challenge.rw_calledroom_k19_who_may_step) (k := 14) rfl rfl ⟨rfl, by decide, by decide⟩ (fun w h Y => PySem.W.kIn_of Y) (fun w => ?nl) ?F
  case nl => rfl
  case F =>
    intro w mg fa h KX G hmg
    refine' W28.all_mk KX G hmg ?_ ?_ ?_ ?_ ?_ ?_ ?_ ?_ ?_ ?_ ?_ ?_ ?_ ?_ ?_ ?_ ?_ ?_ ?_ ?_ ?_ ?_ ?_ ?_ ?_ ?_ ?_ ?_ ?_ ?_ ?_ ?_ ?_ ?_ ?_ ?_ ?_ ?_ ?_ ?_ ?_ ?_ ?_ ?_ ?_ ?_ ?_ ?_ ?_ ?_ ?_ ?_ ?_ ?_ ?_ ?_ ?_ ?_ ?_ ?_ ?_ ?_ ?_ ?_ ?_ ?_ ?_ ?_ ?_ ?_ ?_ ?_ ?_ ?_ ?_ ?_ ?_ ?_ ?_ ?_ ?_ ?_ ?_ ?_ ?_ ?_ ?_ ?_ ?_ W28.AX
    any_goals first | exact DL.aW.of (by k_is) (by k_is) (by k_is) (by k_is) | k_is
