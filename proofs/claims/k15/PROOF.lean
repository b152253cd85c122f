import PyProof.Rows.All
import Wide.All
import OpenK.AllK
import Wide.FinOn
import Lean
import PyProof.EqAt
import PyProof.EqKinds
import PyProof.TupleCall
import PyProof.NeKinds
import PyProof.ListRange
import PyProof.ConsumeWalk
import PyProof.StrWalks
import PyProof.Rows.StrJoin2
import PyProof.Rows.SetFrom
import PyProof.SetNew
import PyProof.DictUpdate
import PyProof.FactsAll.dict_0
import PyProof.FactsAll.dict_1
import PyProof.FactsAll.dict_2
import PyProof.FactsAll.dict_3
import PyProof.FactsAll.dict_4
import PyProof.AttrMissSeq
import PyProof.AttrMissHeap
import KE.KEqDict
import PyProof.TupleKey
import PyProof.SetRoads
import PyProof.SetScanFacts
import PyProof.ForWalkI
import PyProof.FactsAll.set_0
import PyProof.FactsAll.set_1
import PyProof.FactsAll.set_2
import PyProof.CollectWalk
import PyProof.Rows.SortStr
import PyProof.Rows.SortShellK
import PyProof.ZipIter
import KE.KSortTup
import PyProof.ReprRoads
import PyProof.StrLawsRepr
import PyProof.CallFns
import PyProof.FactsAll.zip
import PyProof.DictCompW
import PyProof.EnumFor
import PyProof.EnumStmt
import PyProof.Draws
import PySem.Challenge.RW_calledroom_k15_stands_along
set_option Elab.async false
set_option linter.all false
set_option maxRecDepth 100000
namespace PySem.W.Fast
def tw10277247164973579942:=()
def tw14913287533438891967:=()
def tw9900437369795634970:=()
def tw10348719852771630243:=()
def tw2048041159495630241:=()
def tw14847455788136482340:=()
def tw18298465870164982214:=()
def tw7493021950711879591:=()
def tw16664804619581162755:=()
def tw8398862249151669509:=()
def tw16129832799096406096:=()
def tw15450793091665650725:=()
def tw3380705379671594267:=()
def tw1876872496911750799:=()
def tw5883003549272990590:=()
def tw11891529164470215785:=()
def tw1818372057335038280:=()
def tw11247100038817004388:=()
def tw14920478528089328740:=()
def tw7378794387340111737:=()
def tw17347575610413926549:=()
def tw14070925878446580923:=()
def tw13059089641719848221:=()
def tw10233433507181665044:=()
def tw16122208519203093807:=()
def tw6039364026762524767:=()
def tw8466443082016299947:=()
def tw17115291230383327424:=()
def tw4247845018896800073:=()
def tw5082119635320925781:=()
def tw10960798856813155479:=()
def tw10243857066376339249:=()
def tw16414468360829414710:=()
def tw9519627906113016156:=()
def tw13054628881597227663:=()
def tw11795725406250062929:=()
def tw1532659191556825539:=()
def tw2741360330352899885:=()
def tw16626646053281970308:=()
def tw5265115133455720460:=()
def tw9105194304814198285:=()
def tw7404331435145955748:=()
def tw4608474077967510436:=()
def tw1903850062263272027:=()
def tw14957705703238955839:=()
def tw1699294903750771286:=()
def tw2117893083827031880:=()
def tw10712238872869627198:=()
def tw8257894481817495175:=()
def tw7582152722053056291:=()
def tw17447452812243599820:=()
def tw9216154527551993218:=()
def tw18390229369924513538:=()
def tw2884151895112518426:=()
def tw8818090922350511705:=()
def tw15520532685236070975:=()
def tw1801989314132761608:=()
def tw22041219284573646:=()
def tw7394750091135322231:=()
def tw14280969869199592618:=()
def tw12334344925564843736:=()
def tw2196698298059033721:=()
def tw15381403582105510258:=()
def tw7783408824104511890:=()
def tw14537227287161226916:=()
def tw3618716006405855465:=()
def tw17267617511376258407:=()
def tw14725365127064868522:=()
def tw5683880835397500881:=()
def tw4474464171111327842:=()
def tw5987209228171370911:=()
def tw14780267879391832291:=()
def tw276613018104808741:=()
def tw4858728492206863439:=()
def tw939966269016731081:=()
def tw3365238198980755059:=()
def tw18157313564587690978:=()
def tw12081019654106787919:=()
def tw4275682105257134088:=()
def tw10613863427985036843:=()
def tw15800717219994733735:=()
def tw5491801941659188786:=()
def tw13003387042550500836:=()
def tw17592392371007192420:=()
def tw17340773138175170371:=()
def tw6481428940182027748:=()
def tw13857640062260966657:=()
def tw5959660171076993089:=()
def tw1497524956636362473:=()
def tw7955429528386990188:=()
def tw18328447479181003037:=()
def tw3225343735539100825:=()
def tw990262106361595327:=()
def tw1608021006551984179:=()
def tw16404384606796606323:=()
def tw7420084703924791071:=()
def tw7698158898477182626:=()
def tw2660516003235019113:=()
def tw2234372798895261970:=()
def tw2755975535556759691:=()
def tw11057065926561981413:=()
def tw14597071031365394525:=()
def tw4951637185079157307:=()
def tw1940440069651517488:=()
def tw137072171937060919:=()
def tw4216089476701558360:=()
def tw7784744888460084458:=()
def tw5629007175991373083:=()
def tw11928998152477746163:=()
def tw6533121303722490081:=()
def tw17505825871442803846:=()
def tw1461836487323750987:=()
def tw8216552243637807747:=()
def tw11510511629666082272:=()
def tw2036912589219746954:=()
def tw6405685957961049129:=()
def tw12499547671891796601:=()
def tw14893099704468073518:=()
def tw9945725051777822034:=()
def tw4772426177301507295:=()
def tw7554325787951876219:=()
def tw8172479081897833571:=()
def tw16733969300264797825:=()
def tw10513400884587124426:=()
def tw2762162213295578408:=()
def tw5754344385276575773:=()
def tw14787545175020363605:=()
def tw12301804476065128111:=()
def tw12376754032200719649:=()
def tw4361934955378698647:=()
def tw9861835026764194731:=()
def tw12913625626726224899:=()
def tw3355084436333196153:=()
def tw12856936929613788490:=()
def tw9572034506036280950:=()
def tw18433241157147352673:=()
def tw17630231566943427698:=()
def tw15961873500151768875:=()
def tw445940916862355824:=()
def tw4920269178155752093:=()
def tw14060639085346143486:=()
def tw2261230809234761059:=()
def tw9655142848337582963:=()
def tw3511338800816708115:=()
def tw6736328430278303426:=()
def tw17902519631684462495:=()
def tw14353491233484117692:=()
def tw16914507706958953585:=()
def tw6760305775644677086:=()
def tw14947542660425326540:=()
def tw854695279050744023:=()
def tw11773150884289799725:=()
def tw11318611799558952990:=()
def tw11190145590204602916:=()
end PySem.W.Fast
set_option maxHeartbeats 8000000
abbrev gQm:=@List.getElem?_map
abbrev lQm:=@List.length_map
abbrev mQg:=@List.mem_of_getElem?
abbrev oQm:=@Option.map_eq_some_iff
abbrev gQe:=@List.getElem?_eq_getElem
abbrev gQs:=@List.getElem?_eq_some_iff
abbrev lQa:=@List.length_append
abbrev nQl:=@Nat.le_of_lt
abbrev mQa:=@List.mem_append
namespace L2
open PySem PySem.Spec PyProof.Rows
abbrev Key:=Sum Int Str
def nO:Key->Value->Bool
 |.inl k,v=>Value.isInt k v
 |.inr x,v=>Value.isStrOf x v
def Ho(w:World):Key->Int
 |.inl k=>hashInt k
 |.inr x=>hashStr w x
theorem de:∀{k:Key} {v:Value},nO k v=true->(∃i t,k=Sum.inl i/\v=Value.int i t)\/(∃x t,k=Sum.inr x/\v=Value.str x t)
 | .inl i,v,h=>by
   obtain⟨t,e⟩:=Value.isInt_shape (k:=i) (v:=v) h
   exact .inl ⟨i,t,rfl,e⟩
 | .inr x,v,h=>by
   obtain⟨t,e⟩:=Value.isStrOf_shape (x:=x) (v:=v) h
   exact .inr ⟨x,t,rfl,e⟩
theorem zA(i:Int)(t:Tok):nO (.inl i) (.int i t)=true:=by simp[nO,Value.isInt]
theorem mJ(x:Str)(t:Tok):nO (.inr x) (.str x t)=true:=by simp[nO,Value.isStrOf]
theorem EJ(a b:Int):decide ((Sum.inl a:Key)=Sum.inl b)=(a==b):=by
 by_cases e:a=b
 ·subst e;simp
 ·have h:¬(Sum.inl a:Key)=Sum.inl b:=fun q=>e (Sum.inl.inj q)
  rw[decide_eq_false h]
  exact(beq_eq_false_iff_ne.mpr e).symm
theorem Fs(a b:Str):decide ((Sum.inr a:Key)=Sum.inr b)=decide (a=b):=by
 by_cases e:a=b
 ·subst e;simp
 ·have h:¬(Sum.inr a:Key)=Sum.inr b:=fun q=>e (Sum.inr.inj q)
  rw[decide_eq_false h,decide_eq_false e]
theorem Eb(a:Int)(b:Str):decide ((Sum.inl a:Key)=Sum.inr b)=false:=decide_eq_false (fun q=>nomatch q)
theorem Es(a:Str)(b:Int):decide ((Sum.inr a:Key)=Sum.inl b)=false:=decide_eq_false (fun q=>nomatch q)
def bK(prog:Program)(w:World):PySem.KeyKind prog w Key where
 is:=nO
 hash:=Ho w
 inj:=fun v a b ha hb=>by
  rcases de ha with⟨i,t,rfl,rfl⟩|⟨x,t,rfl,rfl⟩
  ·rcases de hb with⟨j,u,rfl,e⟩|⟨y,u,rfl,e⟩
   ·injection e with e1 _;rw[e1]
   ·exact nomatch e
  ·rcases de hb with⟨j,u,rfl,e⟩|⟨y,u,rfl,e⟩
   ·exact nomatch e
   ·injection e with e1 _;rw[e1]
 byValue:=fun k v h=>by
  rcases de h with⟨i,t,rfl,rfl⟩|⟨x,t,rfl,rfl⟩ <;>rfl
 pyHash:=fun hv h=>by
  rcases de hv with⟨i,t,rfl,rfl⟩|⟨x,t,rfl,rfl⟩
  ·exact wpAny_pyHash_int h
  ·exact wpAny_pyHash_str h
 eqBool:=fun hu hv h=>by
  rcases de hu with⟨i,t,rfl,rfl⟩|⟨x,t,rfl,rfl⟩
  ·rcases de hv with⟨j,u,rfl,rfl⟩|⟨y,u,rfl,rfl⟩
   ·rw[EJ] at h;exact wpAny_eqBool_int h
   ·rw[Eb] at h;exact SeqAt.EqAt.int_str i t y u _ _ _ _ h
  ·rcases de hv with⟨j,u,rfl,rfl⟩|⟨y,u,rfl,rfl⟩
   ·rw[Es] at h;exact SeqAt.EqAt.str_int x t j u _ _ _ _ h
   ·rw[Fs] at h;exact wpAny_eqBool_str h
 «strs»:=fun k x t v h=>by
  rcases de h with⟨i,u,rfl,e⟩|⟨y,u,rfl,e⟩
  ·exact nomatch e
  ·injection e with e1 _
   subst e1
   cases v <;>rfl
theorem we(prog:Program)(w:World)(i:Int)(t:Tok):(bK prog w).is (.inl i) (.int i t)=true:=zA i t
theorem vG(prog:Program)(w:World)(x:Str)(t:Tok):(bK prog w).is (.inr x) (.str x t)=true:=mJ x t
inductive V where
 |non|bl (b:Bool)|int (i:Int)|str (x:Str)|byt (b:Array UInt8)|flt (b:UInt64)|ref (a:Addr)|ty (n:String)
 deriving DecidableEq
def RelV:V->Value->Prop
 |.non,u=>u=Value.none
 |.bl b,u=>u=Value.bool b
 |.int i,u=>∃t,u=Value.int i t
 |.str x,u=>∃t,u=Value.str x t
 |.byt b,u=>∃t,u=Value.bytes b t
 |.flt b,u=>∃t,u=Value.float b t
 |.ref a,u=>u=Value.ref a
 |.ty n,u=>u=Value.type n
abbrev bx:List V->List Value->Prop:=Paired RelV
theorem bx.length{xs:List V}{us:List Value}(r:bx xs us):xs.length=us.length:=Paired.length r
theorem bx.get:∀{xs:List V} {us:List Value} {i:Nat} {x:V},bx xs us->xs[i]?=some x->∃u,us[i]?=some u/\RelV x u
 |_,_,_,_,.nil,e=>by simp at e
 |_,_,0,_,.cons r _,e=>by simp at e;subst e;exact⟨_,rfl,r⟩
 | _,_,i+1,x,.cons _ t,e=>by
   obtain⟨u,h1,h2⟩:=bx.get (i:=i) (x:=x) t (by simpa using e)
   exact⟨u,by simpa using h1,h2⟩
theorem bx.set{x:V}{u:Value}(r:RelV x u):∀{xs:List V} {us:List Value} (i:Nat),bx xs us->bx (xs.set i x) (us.set i u)
 |_,_,_,.nil=>.nil
 |_,_,0,.cons _ t=>.cons r t
 |_,_,i+1,.cons q t=>.cons q (bx.set r i t)
theorem bx.append:∀{xs ys:List V} {us ws:List Value},bx xs us->bx ys ws->bx (xs++ys) (us++ws)
 |_,_,_,_,.nil,s=>s
 |_,_,_,_,.cons r t,s=>.cons r (bx.append t s)
theorem bx.take:∀{xs:List V} {us:List Value} (n:Nat),bx xs us->bx (xs.take n) (us.take n)
 |_,_,0,_=>.nil
 |_,_,_+1,.nil=>.nil
 |_,_,n+1,.cons r t=>.cons r (bx.take n t)
theorem bx.drop:∀{xs:List V} {us:List Value} (n:Nat),bx xs us->bx (xs.drop n) (us.drop n)
 |_,_,0,r=>r
 |_,_,_+1,.nil=>.nil
 |_,_,n+1,.cons _ t=>bx.drop n t
def qC:Option V->Option Value->Prop
 |some v,some u=>RelV v u
 |none,none=>True
 |_,_=>False
def KV{κ:Type}:List (κ×V)->List (κ×Value)->Prop:=Paired fun(p:κ×V) (q:κ×Value)=>p.1=q.1/\RelV p.2 q.2
def kV:Key->V
 |.inl i=>.int i
 |.inr x=>.str x
inductive HO where
 |lst (xs:List V)
 |tup (xs:List V)
 |dK (kvs:List (Key×V))|dT (kvs:List (List Key×V))
 |set (S:Int->Bool) (n:Nat)
 |ins (C dx:Addr) (fs:List (Str×V))
 |own (x:Addr)
 |xd (fs:List (Str×V))
 |met (f x:Addr)
 |rng (lo hi:Int)
 |frz (o:Obj) (u:HO)
 |tbl (ps:Array Value)
 |ext (φ:Heap->Prop)
abbrev Hp:=Addr->Option HO
def upd(H:Hp)(a:Addr)(o:HO):Hp:=fun b=>if b=a then some o else H b
theorem bA{H:Hp}{a:Addr}{o:HO}:upd H a o a=some o:=by unfold upd;rw[if_pos rfl]
theorem bf{H:Hp}{a b:Addr}{o:HO}(h:b≠a):upd H a o b=H b:=by unfold upd;rw[if_neg h]
theorem AM{H:Hp}{a b:Addr}{o u:HO}(h:H a=some o)(h':H b=some u)(d:o≠u):a≠b:=by
 intro e;subst e;rw[h] at h';exact d (Option.some.inj h')
theorem eK{H:Hp}{a b:Addr}{o:HO}(h:H a=some o)(h':H b=none):a≠b:=by
 intro e;subst e;rw[h] at h';cases h'
def vh(h:Heap)(a:Addr)(items:Array Value):Prop:=∃o,h.get? a=some o/\o.cls=.type "tuple" /\o.dict=none/\∃n,o.data=.seq items n
theorem vh.it{h:Heap}{a:Addr}{items:Array Value}(x:vh h a items):IsTup h a items:=by
 obtain⟨o,e,c,_,d⟩:=x
 exact⟨o,e,c,d⟩
theorem vh.new(h:Heap)(items:Array Value):vh (h.push {cls:=.type "tuple",data:=.seq items}) h.objs.size items:=⟨_,Heap.get?_push_size _ rfl,rfl,rfl,_,rfl⟩
section
variable(P:Program)(w:World)
def cK(H:Hp)(h:Heap)(a:Addr):HO->Prop
 |.lst xs=>xs.length<=sizeLine/\∃(its:List Value) (n:Nat),bx xs its/\h.get? a=some {cls:=.type "list",data:=.seq its.toArray n}
 |.tup xs=>xs.length<=sizeLine/\∃its:List Value,bx xs its/\vh h a its.toArray
 |.dK kvs=>kvs.length<=sizeLine/\(a==sysModules)=false/\∃vs,KV kvs vs/\h.DictOf (bK P w) a vs
 |.dT kvs=>kvs.length<=sizeLine/\(a==sysModules)=false/\∃xs:List (List Key×Addr×Value),
   Paired (fun(p:List Key×V) (q:List Key×Addr×Value)=>p.1=q.1/\H q.2.1=some (.tup (p.1.map kV))/\RelV p.2 q.2.2) kvs xs∧
   ∃o es ep,h.get? a=some o/\o.ExactDict/\o.data=.dict es ep/\es.toList=xs.map (entryOfKey (tupleKind (bK P w)))/\(xs.map (·.1)).Nodup
 |.set S n=>h.SetOf (intKind P w) a S n
 |.ins C dx fs=>H dx=some (.own a)/\fs.length<=1000/\dx≠a/\h.get? a=some (PySem.W.instObj C dx)∧
   ∃mA,h.Ns1 dx mA/\(∀f,qC (fs.lookup f) (mA f))/\PySem.Within mA (fs.map (·.1))
 |.own _=>∃o,h.get? a=some o
 |.xd fs=>∃mA,h.Ns1 a mA/\∀f,qC (fs.lookup f) (mA f)
 |.rng lo hi=>∃t u v,h.get? a=some {cls:=.type "range",data:=.fields #[.int lo t,.int hi u,.int 1 v]}
 |.frz o u=>h.get? a=some o/\cK H h a u
 |.tbl ps=>h.get? a=some {cls:=.none,data:=.fields ps}
 |.met f x=>h.get? a=some (PySem.W.methodObj (.ref f) (.ref x))
 |.ext φ=>φ h/\(∃o,h.get? a=some o)/\∀h1 h2:Heap,φ h1->(∀o,h1.get? a=some o->h2.get? a=some o)->φ h2
def lq(H:Hp)(h:Heap):Prop:=∀a o,H a=some o->cK P w H h a o
end
section
variable{P:Program}{w:World}{H H':Hp}{h h':Heap}{a:Addr}{o:HO}
theorem cK.lt(x:cK P w H h a o):a<h.objs.size:=by
 cases o with
 |lst xs=>obtain⟨_,_,_,_,e⟩:=x;exact Heap.lt_size e
 |tup xs=>obtain⟨_,_,_,p⟩:=x;exact p.it.lt
 |dK kvs=>obtain⟨_,_,_,_,o,_,_,e,_⟩:=x;exact Heap.lt_size e
 |dT kvs=>obtain⟨_,_,_,_,o,_,_,e,_⟩:=x;exact Heap.lt_size e
 |set S n=>obtain⟨o,_,_,_,e,_⟩:=x;exact Heap.lt_size e
 |ins C dx fs=>obtain⟨_,_,_,e,_⟩:=x;exact Heap.lt_size e
 |own y=>obtain⟨_,e⟩:=x;exact Heap.lt_size e
 |xd fs=>obtain⟨_,⟨_,_,_,e,_⟩,_⟩:=x;exact Heap.lt_size e
 |rng lo hi=>obtain⟨_,_,_,e⟩:=x;exact Heap.lt_size e
 |frz ob u=>obtain⟨e,_⟩:=x;exact Heap.lt_size e
 |tbl ps=>exact Heap.lt_size (show h.get? a=some _ from x)
 |met f y=>exact Heap.lt_size (show h.get? a=some _ from x)
 |ext φ=>obtain⟨_,⟨_,e⟩,_⟩:=x;exact Heap.lt_size e
theorem Paired.mapP{α β:Type}{F G:α->β->Prop}:∀{l₁:List α} {l₂:List β},Paired F l₁ l₂->(∀a b,F a b->G a b)->Paired G l₁ l₂
 |_,_,.nil,_=>.nil
 |_,_,.cons r t,f=>.cons (f _ _ r) (Paired.mapP t f)
theorem cK.stay(x:cK P w H h a o)(k:∀b u,(b=a\/H b=some (.own a))->h.get? b=some u->h'.get? b=some u)
  (ho:∀b,H b=some (.own a)->H' b=some (.own a)) (ht:∀b xs,H b=some (.tup xs)->H' b=some (.tup xs)):cK P w H' h' a o:=by
 induction o with
 |lst xs=>obtain⟨z,its,n,r,e⟩:=x;exact⟨z,its,n,r,k _ _ (.inl rfl) e⟩
 |tup xs=>obtain⟨z,its,r,ob,e,c⟩:=x;exact⟨z,its,r,ob,k _ _ (.inl rfl) e,c⟩
 |dK kvs=>obtain⟨z,y,vs,r,ob,es,ep,e,c⟩:=x;exact⟨z,y,vs,r,ob,es,ep,k _ _ (.inl rfl) e,c⟩
 | dT kvs=>
   obtain⟨z,y,xs,r,ob,es,ep,e,c⟩:=x
   exact⟨z,y,xs,Paired.mapP r fun p q z=>⟨z.1,ht _ _ z.2.1,z.2.2⟩,ob,es,ep,k _ _ (.inl rfl) e,c⟩
 |set S n=>obtain⟨ob,es,ep,t,e,c⟩:=x;exact⟨ob,es,ep,t,k _ _ (.inl rfl) e,c⟩
 | ins C dx fs=>
   obtain⟨d,z,ne,e,mA,⟨od,es,ep,e2,c⟩,r⟩:=x
   exact⟨ho _ d,z,ne,k _ _ (.inl rfl) e,mA,⟨od,es,ep,k _ _ (.inr d) e2,c⟩,r⟩
 |own y=>obtain⟨ob,e⟩:=x;exact⟨ob,k _ _ (.inl rfl) e⟩
 |xd fs=>obtain⟨mA,⟨od,es,ep,e,c⟩,r⟩:=x;exact⟨mA,⟨od,es,ep,k _ _ (.inl rfl) e,c⟩,r⟩
 |rng lo hi=>obtain⟨t,u,v,e⟩:=x;exact⟨t,u,v,k _ _ (.inl rfl) e⟩
 |frz ob u ih=>obtain⟨e,q⟩:=x;exact⟨k _ _ (.inl rfl) e,ih q⟩
 | tbl ps=>
   have e:h.get? a=some {cls:=.none,data:=.fields ps}:=x
   show h'.get? a=some {cls:=.none,data:=.fields ps}
   exact k a _ (.inl rfl) e
 | met f y=>
   have e:h.get? a=some (PySem.W.methodObj (.ref f) (.ref y)):=x
   show h'.get? a=some (PySem.W.methodObj (.ref f) (.ref y))
   exact k a _ (.inl rfl) e
 |ext φ=>obtain⟨p,⟨o,e⟩,st⟩:=x;exact⟨st _ _ p fun o q=>k _ _ (.inl rfl) q,⟨o,k _ _ (.inl rfl) e⟩,st⟩
theorem lq.lt(x:lq P w H h)(e:H a=some o):a<h.objs.size:=(x a o e).lt
theorem lq.fresh(x:lq P w H h)(e:h.objs.size<=a):H a=none:=by
 cases q:H a with
 |none=>rfl
 |some u=>exact absurd (Nat.lt_of_lt_of_le (x.lt q) e) (Nat.lt_irrefl _)
theorem lq.kept(x:lq P w H h)(k:∀b u,h.get? b=some u->h'.get? b=some u):lq P w H h':=fun a o e=>
 (x a o e).stay (fun b u _ q=>k b u q) (fun _ q=>q) fun _ _ q=>q
theorem lq.laid(x:lq P w H h)(k:∀b u,h.get? b=some u->h'.get? b=some u)(hp:h.objs.size<=a)(new:cK P w (upd H a o) h' a o):lq P w (upd H a o) h':=fun b u e=>by
 have hn:=x.fresh hp
 by_cases hb:b=a
 ·subst hb;rw[bA] at e;cases e;exact new
 ·rw[bf hb] at e
  exact(x b u e).stay (fun c v _ q=>k c v q) (fun c q=>by rw[bf (eK q hn)];exact q) fun c xs q=>by rw[bf (eK q hn)];exact q
end
def Rd(H:Hp)(a:Addr)(u:HO):Prop:=H a=some u\/∃o,H a=some (.frz o u)
theorem Rd.ok{P:Program}{w:World}{H:Hp}{h:Heap}{a:Addr}{u:HO}(r:Rd H a u)(x:lq P w H h):cK P w H h a u:=by
 rcases r with r|⟨o,r⟩
 ·exact x a u r
 ·obtain⟨_,q⟩:=x a _ r
  exact q
def Ge:Option HO->Prop
 |some (.lst _)=>True
 |some (.dK _)=>True
 |some (.dT _)=>True
 |some (.set _ _)=>True
 |some (.ins _ _ _)=>True
 |some (.ext _)=>True
 |_=>False
section
variable{P:Program}{w:World}{H:Hp}{h h':Heap}{x e:Addr}{o':HO}
theorem lq.write(ok:lq P w H h)(mu:Ge (H x))(he:e=x\/H e=some (.own x))(k:∀b u,b≠e->h.get? b=some u->h'.get? b=some u)(heo:∃u,h'.get? e=some u)
  (new:cK P w (upd H x o') h' x o'):lq P w (upd H x o') h':=fun b u q=>by
 have nown:∀c y,H c=some (.own y)->c≠x:=fun c y r z=>by subst z;rw[r] at mu;exact mu
 have ntup:∀c xs,H c=some (.tup xs)->c≠x:=fun c xs r z=>by subst z;rw[r] at mu;exact mu
 by_cases hb:b=x
 ·subst hb;rw[bA] at q;cases q;exact new
 ·rw[bf hb] at q
  by_cases hbe:b=e
  ·have q':H b=some (.own x):=by
    rcases he with z|z
    ·exact absurd (hbe.trans z) hb
    ·rw[hbe];exact z
   rw[q] at q';cases q'
   obtain⟨v,hv⟩:=heo
   exact⟨v,by rw[hbe];exact hv⟩
  ·refine(ok b u q).stay (fun c v hc r=>k c v ?_ r) (fun c r=>by rw[bf (nown c b r)];exact r) fun c xs r=>by rw[bf (ntup c xs r)];exact r
   rcases hc with rfl|hc
   ·exact hbe
   ·rintro rfl
    rcases he with z|z
    ·exact nown c b hc z
    ·rw[hc] at z;cases z;exact hb rfl
end
structure Un(fs ex:List Addr)(H H':Hp)(h h':Heap):Prop where
 keep:∀b o,h.get? b=some o->H b=none->b∉fs->b∉ex->h'.get? b=some o
 slot:∀b o,h.get? b=some o->H b=none->b∈fs->b∉ex->∃sl,h'.get? b=some {o with slots:=sl}
 free:∀b o,h.get? b=some o->H b=none->b∉ex->H' b=none
 there:∀b o,h.get? b=some o->b∉ex->∃o',h'.get? b=some o'
 tups:∀b xs,H b=some (.tup xs)->H' b=some (.tup xs)
 frzs:∀b o u,H b=some (.frz o u)->H' b=some (.frz o u)
 tbls:∀b ps,H b=some (.tbl ps)->∃more,H' b=some (.tbl (ps++more))
section
variable{fs fs' ex ex':List Addr}{H H1 H2:Hp}{h h1 h2 h':Heap}{a x e:Addr}{o:HO}
theorem Un.any(u:Un fs ex H H1 h h1){b:Addr}{ob:Obj}(q:h.get? b=some ob)(n:H b=none)(hx:b∉ex):∃sl,h1.get? b=some {ob with slots:=sl}:=by
 by_cases hb:b∈fs
 ·exact u.slot b ob q n hb hx
 ·exact⟨ob.slots,u.keep b ob q n hb hx⟩
theorem Un.kept(k:∀b u,h.get? b=some u->h'.get? b=some u):Un fs ex H H h h':=
 ⟨fun b ob q _ _ _=>k b ob q,fun b ob q _ _ _=>⟨ob.slots,k b ob q⟩,fun _ _ _ n _=>n,fun b ob q _=>⟨ob,k b ob q⟩,fun _ _ q=>q,fun _ _ _ q=>q,fun _ ps q=>⟨#[],by rw[q];simp⟩⟩
theorem Un.refl:Un fs ex H H h h:=Un.kept fun _ _ q=>q
theorem Un.laid(k:∀b u,h.get? b=some u->h'.get? b=some u)(hp:h.objs.size<=a)(hn:H a=none):Un fs ex H (upd H a o) h h' where
 keep:=fun b u q _ _ _=>k b u q
 slot:=fun b u q _ _ _=>⟨u.slots,k b u q⟩
 free:=fun b u q n _=>by rw[bf (Nat.ne_of_lt (Nat.lt_of_lt_of_le (Heap.lt_size q) hp))];exact n
 there:=fun b u q _=>⟨u,k b u q⟩
 tups:=fun b xs q=>by rw[bf (eK q hn)];exact q
 frzs:=fun b u xs q=>by rw[bf (eK q hn)];exact q
 tbls:=fun b ps q=>⟨#[],by rw[bf (eK q hn),q];simp⟩
theorem Un.write(mu:Ge (H x))(he:e=x\/H e=some (.own x))(k:∀b u,b≠e->h.get? b=some u->h'.get? b=some u)(heo:∃u,h'.get? e=some u):Un fs ex H (upd H x o) h h':=by
 have hx:∀b,H b=none->b≠x:=fun b n z=>by subst z;rw[n] at mu;exact mu
 have hb:∀b,H b=none->b≠e:=fun b n z=>by
  subst z
  rcases he with r|r
  ·exact hx b n r
  ·rw[n] at r;cases r
 have hm:∀b u,H b=some u->¬Ge (some u)->b≠x:=fun b u q nm z=>by subst z;rw[q] at mu;exact nm mu
 refine⟨fun b u q n _ _=>k b u (hb b n) q,fun b u q n _ _=>⟨u.slots,k b u (hb b n) q⟩,fun b u q n _=>by rw[bf (hx b n)];exact n,fun b u q _=> ?_,
  fun b xs q=>by rw[bf (hm b _ q fun z=>z)];exact q,fun b u xs q=>by rw[bf (hm b _ q fun z=>z)];exact q,fun b ps q=>⟨#[],by rw[bf (hm b _ q fun z=>z),q];simp⟩⟩
 by_cases hbe:b=e
 ·subst hbe;exact heo
 ·exact⟨u,k b u hbe q⟩
end
def GT(h:Heap)(H:Hp):List Addr:=(List.range h.objs.size).filter fun a=>(H a).isSome
def uP(h:Heap)(H:Hp):Heap:=PySem.W.hideAll h (GT h H)
theorem zf(h:Heap)(H:Hp):(uP h H).objs.size=h.objs.size:=PySem.W.hideAll_size _ _
theorem Ac{h:Heap}{H:Hp}{b:Addr}{o:Obj}(e:h.get? b=some o)(n:H b=none):(uP h H).get? b=some o:=
 PySem.W.hideAll_get _ e fun hm=>by
  have q:(H b).isSome=true:=(List.mem_filter.mp hm).2
  rw[n] at q;simp at q
theorem Di{h:Heap}{H:Hp}{b:Addr}{o:Obj}(e:(uP h H).get? b=some o):h.get? b=some o/\H b=none:=by
 have e':h.get? b=some o:=PySem.W.of_hideAll (GT h H) e
 refine⟨e',?_⟩
 cases q:H b with
 |none=>rfl
 | some x=>
   have hm:b∈GT h H:=List.mem_filter.mpr ⟨List.mem_range.mpr (Heap.lt_size e'),by simp[q]⟩
   have z:(uP h H).get? b=none:=PySem.W.hideAll_none (GT h H) hm
   rw[z] at e;cases e
structure Mod(K:PySem.W.Frag)(mg:Str->Option Value)(base:Heap):Prop where
 kin:K.In base
 glob:base.Ns mainGlobals mg
 blt:∃mb,base.Ns builtinsNs mb/\∀x:Str,x≠"__name__" ->mb x=bootBuiltins x
 nolimit:base.NoLimit
structure Cx where
 prog:Program
 w:World
 K:PySem.W.Frag
 mg:Str->Option Value
 base:Heap
 A:Around
 N:List Str
 s₀:Shared
 H₀:Hp
 env:Env
 outer:List Env
 stack:List Env
 ex:List Addr
 fn:Str->Bool
 calm:Bool
 pn:List (Addr×Obj)
 xe:Value->Shared->Prop
def A4(l:List Env):List Addr:=l.filterMap (·.frame)
abbrev Cx.fs(X:Cx):List Addr:=A4 X.outer
def DM(sc:Scope)(x:Str):Prop:=sc.names.lookup x=some .local\/sc.names.lookup x=some .cell\/sc.names.lookup x=some .free
def Loc(sc:Scope)(x:Str):Prop:=sc.names.lookup x=some .local\/sc.names.lookup x=some .cell
def Look(env:Env)(h:Heap)(m:Str->Option Value)(x:Str)(u:Value):Prop:=
 (env.kindOf x=some .local/\m x=some u)\/((env.kindOf x=some .cell\/env.kindOf x=some .free)/\∃c,env.cells.lookup x=some c/\h.IsCell c (some u))
structure Cx.Ok(X:Cx):Prop where
 mod:Mod X.K X.mg X.base
 kind:X.env.scope.kind=.function
 glob:X.env.globals=mainGlobals
 blt:X.env.builtins=builtinsNs
 above:X.s₀.heap.objs.size<=X.env.locals
 inj:∀x y c,X.env.cells.lookup x=some c->X.env.cells.lookup y=some c->x=y
 has:∀x,(X.env.kindOf x=some .cell\/X.env.kindOf x=some .free)->∃c,X.env.cells.lookup x=some c
 cab:∀x c,X.fn x=true->X.env.cells.lookup x=some c->X.s₀.heap.objs.size<=c
 hd:X.calm=true->X.A.handled=none
 frames:X.A.frames=some X.stack
 stk:X.stack=X.outer\/(X.stack=X.env::X.outer/\X.env.frame=some X.env.locals)
 exf:∀b∈X.ex,b≠X.env.locals/\∀x c,X.env.cells.lookup x=some c->c≠b
 bs:∀b o,X.base.get? b=some o->X.s₀.heap.get? b=some o/\X.H₀ b=none
 bsz:X.base.objs.size<=X.s₀.heap.objs.size
 noex:∀b o,X.base.get? b=some o->b∉X.ex
 exfs:∀b∈X.ex,b∉X.fs
 funs:X.s₀.heap.FunFrames X.base X.outer
 frf:∀b∈X.fs,X.H₀ b=none
structure Inv(X:Cx)(pins:List (Addr×Obj))(σ:List (Option V))(H:Hp)(s:Shared):Prop where
 ok:X.Ok
 os:s.os=X.s₀.os
 bare:AllBare s.gens
 base:Un X.fs X.ex X.H₀ H X.s₀.heap s.heap
 loc:∃m,s.heap.Ns X.env.locals m/\∀(i:Nat) (x:Str) (v:V),X.N[i]?=some x->σ[i]?=some (some v)->DM X.env.scope x->∃u,RelV v u/\Look X.env s.heap m x u
 cell:∀x c,X.env.cells.lookup x=some c->∃v,s.heap.IsCell c v
 free:H X.env.locals=none
 freeC:∀x c,X.env.cells.lookup x=some c->H c=none
 pin:∀p∈X.pn++pins,s.heap.get? p.1=some p.2/\H p.1=none/\p.1≠X.env.locals/\p.1∉X.fs/\∀v,p.2.data≠.cell v
 hok:lq X.prog X.w H s.heap
 len:σ.length=X.N.length
section
variable{X:Cx}{pins:List (Addr×Obj)}{σ:List (Option V)}{H H':Hp}{s:Shared}{h':Heap}
theorem Cx.Ok.nofr(ok:X.Ok){b:Addr}{o:Obj}(e:X.base.get? b=some o):b∉X.fs:=fun hb=>by
 have:=(ok.funs.mem hb).1
 rw[e] at this;cases this
theorem Inv.bs(I:Inv X pins σ H s):∀b o,X.base.get? b=some o->s.heap.get? b=some o/\H b=none:=fun b o e=>
 ⟨I.base.keep b o (I.ok.bs b o e).1 (I.ok.bs b o e).2 (I.ok.nofr e) (I.ok.noex b o e),I.base.free b o (I.ok.bs b o e).1 (I.ok.bs b o e).2 (I.ok.noex b o e)⟩
theorem Inv.bk(I:Inv X pins σ H s):∀b o,X.base.get? b=some o->s.heap.get? b=some o:=fun b o e=>(I.bs b o e).1
theorem Inv.mod(I:Inv X pins σ H s):Mod X.K X.mg X.base:=I.ok.mod
theorem Inv.kIn(I:Inv X pins σ H s):X.K.In s.heap:=I.ok.mod.kin.keeps I.bk
theorem Inv.lt(I:Inv X pins σ H s):X.env.locals<s.heap.objs.size:=let ⟨_,hn,_⟩:=I.loc;hn.lt
theorem Inv.sz(I:Inv X pins σ H s):X.s₀.heap.objs.size<=s.heap.objs.size:=Nat.le_trans I.ok.above (nQl I.lt)
theorem Inv.nofs(I:Inv X pins σ H s){a:Addr}(h:s.heap.objs.size<=a):a∉X.fs:=fun hb=>by
 obtain⟨_,o,ho,_⟩:=I.ok.funs.mem hb
 exact absurd (Nat.lt_of_lt_of_le (Heap.lt_size ho) (Nat.le_trans I.sz h)) (Nat.lt_irrefl _)
theorem Inv.cne(I:Inv X pins σ H s):∀x c,X.env.cells.lookup x=some c->c≠X.env.locals:=fun x c e z=>by
 obtain⟨v,o,ho,hd⟩:=I.cell x c e
 obtain⟨m,⟨o',es,ep,ho',hd',_⟩,_⟩:=I.loc
 rw[z,ho'] at ho;cases ho;rw[hd'] at hd;cases hd
theorem Inv.funs(I:Inv X pins σ H s):s.heap.FunFrames X.base X.outer:=by
 have all:∀(l:List Env),(∀b∈A4 l,b∈X.fs)->X.s₀.heap.FunFrames X.base l->s.heap.FunFrames X.base l:=by
  intro l
  induction l with
  |nil=>intro _ _;trivial
  | cons env r ih=>
    intro hs hl
    obtain⟨hk,⟨L,o,hf,hn,ho,hd⟩,hr⟩:=hl
    have hL:L∈X.fs:=hs L (by unfold A4;rw[List.filterMap_cons,hf];exact List.mem_cons_self)
    obtain⟨sl,e⟩:=I.base.slot L o ho (I.ok.frf L hL) hL fun z=>I.ok.exfs L z hL
    exact⟨hk,⟨L,_,hf,hn,e,hd⟩,ih (fun b hb=>hs b (by unfold A4;rw[List.filterMap_cons,hf];exact List.mem_cons_of_mem _ hb)) hr⟩
 exact all X.outer (fun _ hb=>hb) I.ok.funs
theorem Inv.stack(I:Inv X pins σ H s):s.heap.FunFrames X.base X.stack:=by
 rcases I.ok.stk with e|⟨e,hf⟩
 ·rw[e];exact I.funs
 ·rw[e]
  obtain⟨m,hn,_⟩:=I.loc
  refine .cons (by rw[I.ok.kind];decide) hf hn ?_ I.funs
  exact Heap.get?_none_of_le (Nat.le_trans I.ok.bsz I.ok.above)
theorem Inv.stkSub(I:Inv X pins σ H s):∀b∈A4 X.stack,b∈X.env.locals::X.fs:=fun b hb=>by
 rcases I.ok.stk with e|⟨e,hf⟩
 ·rw[e] at hb;exact List.mem_cons_of_mem _ hb
 ·rw[e] at hb
  unfold A4 at hb
  rw[List.filterMap_cons,hf] at hb
  exact hb
theorem Inv.stkFree(I:Inv X pins σ H s):∀b∈A4 X.stack,H b=none:=fun b hb=>by
 rcases List.mem_cons.mp (I.stkSub b hb) with e|hb
 ·rw[e];exact I.free
 ·obtain⟨_,o,ho,_⟩:=I.ok.funs.mem hb
  exact I.base.free b o ho (I.ok.frf b hb) fun z=>I.ok.exfs b z hb
theorem Inv.step{g':Array GenState}{t':Nat}{d':Drawn}{ch:List Addr}(I:Inv X pins σ H s)
  (hch:∀b∈ch,(b∈X.ex\/X.s₀.heap.objs.size<=b)/\b≠X.env.locals/\(∀x c,X.env.cells.lookup x=some c->c≠b)/\∀p∈X.pn++pins,p.1≠b)
  (keep:∀b o,b≠X.env.locals->b∉X.fs->b∉ch->s.heap.get? b=some o->H b=none->h'.get? b=some o)
  (slot:∀b o,b≠X.env.locals->b∈X.fs->b∉ch->s.heap.get? b=some o->H b=none->∃sl,h'.get? b=some {o with slots:=sl}) (free:∀b o,b∉ch->s.heap.get? b=some o->H b=none->H' b=none)
  (there:∀b o,b∉ch->s.heap.get? b=some o->∃o',h'.get? b=some o')
  (tups:∀b xs,H b=some (.tup xs)->H' b=some (.tup xs)) (frzs:∀b o u,H b=some (.frz o u)->H' b=some (.frz o u)) (tbls:∀b ps,H b=some (.tbl ps)->∃more,H' b=some (.tbl (ps++more)))
  (ns:∀m,s.heap.Ns X.env.locals m->h'.Ns X.env.locals m) (hok:lq X.prog X.w H' h') (hg:AllBare g'):
  Inv X pins σ H' {s with heap:=h',gens:=g',drawn:=d',toks:=t'}:=by
 have neL:∀b o,X.s₀.heap.get? b=some o->b≠X.env.locals:=fun b o e=>Nat.ne_of_lt (Nat.lt_of_lt_of_le (Heap.lt_size e) I.ok.above)
 have neC:∀b o,X.s₀.heap.get? b=some o->b∉X.ex->b∉ch:=fun b o e hx hb=>by
  rcases(hch b hb).1 with z|z
  ·exact hx z
  ·exact absurd (Nat.lt_of_lt_of_le (Heap.lt_size e) z) (Nat.lt_irrefl _)
 have cellK:∀x c,X.env.cells.lookup x=some c->∀v,s.heap.IsCell c v->h'.IsCell c v:=fun x c e v qq=>by
  obtain⟨o,ho,hd⟩:=qq
  have nch:c∉ch:=fun z=>(hch c z).2.2.1 x c e rfl
  by_cases hc:c∈X.fs
  ·obtain⟨sl,q⟩:=slot c o (I.cne x c e) hc nch ho (I.freeC x c e)
   exact⟨_,q,hd⟩
  ·exact⟨o,keep c o (I.cne x c e) hc nch ho (I.freeC x c e),hd⟩
 refine⟨I.ok,I.os,hg,⟨fun b o e n hb hx=> ?_,fun b o e n hb hx=> ?_,fun b o e n hx=> ?_,fun b o e hx=> ?_,fun b xs e=>tups b xs (I.base.tups b xs e),fun b o xs e=>frzs b o xs (I.base.frzs b o xs e),fun b ps e=> ?_⟩,?_,fun x c e=> ?_,?_,fun x c e=> ?_,fun p hp=> ?_,hok,I.len⟩
 ·exact keep b o (neL b o e) hb (neC b o e hx) (I.base.keep b o e n hb hx) (I.base.free b o e n hx)
 ·obtain⟨sl,e1⟩:=I.base.slot b o e n hb hx
  obtain⟨sl',e2⟩:=slot b _ (neL b o e) hb (neC b o e hx) e1 (I.base.free b o e n hx)
  exact⟨sl',e2⟩
 ·obtain⟨o',e1⟩:=I.base.there b o e hx
  exact free b o' (neC b o e hx) e1 (I.base.free b o e n hx)
 ·obtain⟨o',e1⟩:=I.base.there b o e hx
  exact there b o' (neC b o e hx) e1
 ·obtain⟨m1,e1⟩:=I.base.tbls b ps e
  obtain⟨m2,e2⟩:=tbls b _ e1
  exact⟨m1++m2,by rw[e2,Array.append_assoc]⟩
 ·obtain⟨m,hn,hl⟩:=I.loc
  refine⟨m,ns m hn,fun i x v e1 e2 e3=> ?_⟩
  obtain⟨u,r,l⟩:=hl i x v e1 e2 e3
  refine⟨u,r,?_⟩
  rcases l with l|⟨k,c,e,z⟩
  ·exact .inl l
  ·exact .inr ⟨k,c,e,cellK x c e _ z⟩
 ·obtain⟨v,z⟩:=I.cell x c e
  exact⟨v,cellK x c e v z⟩
 ·obtain⟨m,⟨o,_,_,ho,_⟩,_⟩:=I.loc
  exact free _ o (fun z=>(hch _ z).2.1 rfl) ho I.free
 ·obtain⟨v,o,ho,hd⟩:=I.cell x c e
  exact free c o (fun z=>(hch c z).2.2.1 x c e rfl) ho (I.freeC x c e)
 ·obtain⟨e,n,ne,nf,d⟩:=I.pin p hp
  have nch:p.1∉ch:=fun z=>(hch p.1 z).2.2.2 p hp rfl
  exact⟨keep p.1 p.2 ne nf nch e n,free p.1 p.2 nch e n,ne,nf,d⟩
theorem Inv.un{t':Nat}(I:Inv X pins σ H s)(u:Un X.fs [] H H' s.heap h')(hok:lq X.prog X.w H' h'):Inv X pins σ H' {s with heap:=h',toks:=t'}:=by
 obtain⟨m,⟨o,es,ep,ho,r⟩,_⟩:=id I.loc
 obtain⟨sl,hL⟩:=u.any ho I.free (by simp)
 exact I.step (g':=s.gens) (d':=s.drawn) (ch:= []) (fun _ z=>nomatch z) (fun b o _ hb _ e n=>u.keep b o e n hb (by simp)) (fun b o _ hb _ e n=>u.slot b o e n hb (by simp)) (fun b o _ e n=>u.free b o e n (by simp)) (fun b o _ e=>u.there b o e (by simp)) u.tups u.frzs u.tbls (fun m' hm=>by
  obtain⟨o',es',ep',ho',r'⟩:=hm
  rw[ho] at ho';cases ho'
  exact⟨_,es',ep',hL,r'⟩) hok I.bare
theorem Inv.call{g':Array GenState}{t':Nat}{d':Drawn}{ch:List Addr}(I:Inv X pins σ H s)(u:Un (A4 X.stack) ch H H' s.heap h')(hok:lq X.prog X.w H' h')(hg:AllBare g')
  (hch:∀b∈ch,(b∈X.ex\/X.s₀.heap.objs.size<=b)/\b≠X.env.locals/\(∀x c,X.env.cells.lookup x=some c->c≠b)/\∀p∈X.pn++pins,p.1≠b):
  Inv X pins σ H' {s with heap:=h',gens:=g',drawn:=d',toks:=t'}:=by
 obtain⟨m,⟨o,es,ep,ho,r⟩,_⟩:=id I.loc
 obtain⟨sl,hL⟩:=u.any ho I.free fun z=>(hch _ z).2.1 rfl
 exact I.step (ch:=ch) hch (fun b o hL hb hc e n=>u.keep b o e n (fun z=>(List.mem_cons.mp (I.stkSub b z)).elim hL hb) hc) (fun b o _ _ hc e n=>u.any e n hc) (fun b o hc e n=>u.free b o e n hc) (fun b o hc e=>u.there b o e hc) u.tups u.frzs u.tbls (fun m' hm=>by
  obtain⟨o',es',ep',ho',r'⟩:=hm
  rw[ho] at ho';cases ho'
  exact⟨_,es',ep',hL,r'⟩) hok hg
theorem Inv.turned{t':Nat}{it:Addr}(I:Inv X pins σ H s)(k:∀b o,b≠it->s.heap.get? b=some o->h'.get? b=some o)(hn:H it=none)(hL:it≠X.env.locals)
  (h1:it∈X.ex\/X.s₀.heap.objs.size<=it) (h2:∀x c,X.env.cells.lookup x=some c->c≠it) (h3:∀p∈X.pn++pins,p.1≠it):Inv X pins σ H {s with heap:=h',toks:=t'}:=by
 have nit:∀b u,H b=some u->b≠it:=fun b u e z=>by rw[z,hn] at e;cases e
 refine I.step (g':=s.gens) (d':=s.drawn) (ch:= [it]) (fun b hb=> ?_) (fun b o _ _ hc e _=>k b o (fun z=>hc (by simp[z])) e) (fun b o _ _ hc e _=>⟨o.slots,k b o (fun z=>hc (by simp[z])) e⟩) (fun _ _ _ _ n=>n)
  (fun b o hc e=>⟨o,k b o (fun z=>hc (by simp[z])) e⟩) (fun _ _ e=>e) (fun _ _ _ e=>e) (fun b ps e=>⟨#[],by rw[e];simp⟩) (fun m hm=> ?_) (fun b u e=> ?_) I.bare
 ·have e:b=it:=by simpa using hb
  subst e
  exact⟨h1,hL,h2,h3⟩
 ·obtain⟨o,es,ep,ho,r⟩:=hm
  exact⟨o,es,ep,k _ o (Ne.symm hL) ho,r⟩
 ·refine(I.hok b u e).stay (fun c v hc q=>k c v ?_ q) (fun _ q=>q) fun _ _ q=>q
  rcases hc with z|z
  ·rw[z];exact nit b u e
  ·exact nit c _ z
theorem Inv.tok(I:Inv X pins σ H s)(t:Nat):Inv X pins σ H {s with toks:=t}:=I.un (h':=s.heap) (t':=t) Un.refl I.hok
theorem Inv.kept{t':Nat}(I:Inv X pins σ H s)(k:∀b u,s.heap.get? b=some u->h'.get? b=some u):Inv X pins σ H {s with heap:=h',toks:=t'}:=I.un (Un.kept k) (I.hok.kept k)
theorem Inv.laid{a:Addr}{o:HO}{t':Nat}(I:Inv X pins σ H s)(k:∀b u,s.heap.get? b=some u->h'.get? b=some u)(hp:s.heap.objs.size<=a)(new:cK X.prog X.w (upd H a o) h' a o):
  Inv X pins σ (upd H a o) {s with heap:=h',toks:=t'}:=I.un (Un.laid k hp (I.hok.fresh hp)) (I.hok.laid k hp new)
theorem Inv.write{x e:Addr}{o:HO}{t':Nat}(I:Inv X pins σ H s)(mu:Ge (H x))(he:e=x\/H e=some (.own x))(k:∀b u,b≠e->s.heap.get? b=some u->h'.get? b=some u)(heo:∃u,h'.get? e=some u)
  (new:cK X.prog X.w (upd H x o) h' x o):Inv X pins σ (upd H x o) {s with heap:=h',toks:=t'}:=I.un (Un.write mu he k heo) (I.hok.write mu he k heo new)
theorem Inv.pins_of{pins':List (Addr×Obj)}(I:Inv X pins σ H s)(h:∀p∈pins',s.heap.get? p.1=some p.2/\H p.1=none/\p.1≠X.env.locals/\p.1∉X.fs/\∀v,p.2.data≠.cell v):Inv X pins' σ H s:=
 ⟨I.ok,I.os,I.bare,I.base,I.loc,I.cell,I.free,I.freeC,fun p hp=>(mQa.mp hp).elim (fun z=>I.pin p (List.mem_append_left _ z)) (h p),I.hok,I.len⟩
theorem vB{N:List Str}(hN:N.Nodup){i j:Nat}{x:Str}(a:N[i]?=some x)(b:N[j]?=some x):i=j:=by
 obtain⟨h1,e1⟩:=gQs.mp a
 obtain⟨h2,e2⟩:=gQs.mp b
 exact(List.getElem_inj hN).mp (e1.trans e2.symm)
theorem zY{M:Model}{A:Around}{E:Value->Shared->Prop}{i:Nat}{x:Str}{v:V}{u:Value}{Q:Unit->Shared->Prop}(I:Inv X pins σ H s)(hN:X.N.Nodup)(hi:X.N[i]?=some x)(hx:Loc X.env.scope x)(r:RelV v u)
  (h:∀s',Inv X pins (σ.set i (some v)) H s'->(∃a,Heap.SameBut a s.heap s'.heap/\(a=X.env.locals\/X.env.cells.lookup x=some a))->Q () s') (hf:X.fn x=true\/X.env.scope.names.lookup x=some .local:=by first|exact .inl rfl|exact .inr rfl|assumption):wpAny M A (storeName X.env x u) Q E s:=by
 obtain⟨m,hn,hl⟩:=id I.loc
 have hcls:(X.env.scope.kind==.class||(X.env.scope.kind==.module&&X.env.locals !=X.env.globals))=false:=by rw[I.ok.kind];rfl
 have hiσ:i<σ.length:=by rw[I.len];exact(gQs.mp hi).1
 have cne:=I.cne
 have tracked:∀{a:Addr} {h':Heap},(∃o,s.heap.get? a=some o/\H a=none)->Heap.SameBut a s.heap h'->lq X.prog X.w H h':=fun{a h'} ha hs b ob e=>by
  obtain⟨_,_,hfree⟩:=ha
  refine(I.hok b ob e).stay (fun c w' hc q=>(hs.2 c ?_).trans q) (fun _ q=>q) fun _ _ q=>q
  rintro rfl
  rcases hc with rfl|hc
  ·rw[hfree] at e;cases e
  ·rw[hfree] at hc;cases hc
 rcases hx with hk|hk
 ·refine wpAny_storeName_local hk hn (fun h' hn' hs=> ?_) hcls
  obtain⟨oL,_,_,hoL,_⟩:=id hn
  refine h _ ⟨I.ok,I.os,I.bare,⟨fun b o e n hb hx=> ?_,fun b o e n hb hx=> ?_,I.base.free,fun b o e hx=> ?_,I.base.tups,I.base.frzs,I.base.tbls⟩,⟨_,hn',fun j y v' e1 e2 e3=> ?_⟩,fun y c e=> ?_,I.free,I.freeC,fun p hp=> ?_,tracked ⟨oL,hoL,I.free⟩ hs,by simpa using I.len⟩ ⟨_,hs,.inl rfl⟩
  ·exact(hs.2 b (Nat.ne_of_lt (Nat.lt_of_lt_of_le (Heap.lt_size e) I.ok.above))).trans (I.base.keep b o e n hb hx)
  ·obtain⟨sl,e1⟩:=I.base.slot b o e n hb hx
   exact⟨sl,(hs.2 b (Nat.ne_of_lt (Nat.lt_of_lt_of_le (Heap.lt_size e) I.ok.above))).trans e1⟩
  ·obtain⟨o',e1⟩:=I.base.there b o e hx
   exact⟨o',(hs.2 b (Nat.ne_of_lt (Nat.lt_of_lt_of_le (Heap.lt_size e) I.ok.above))).trans e1⟩
  ·by_cases hj:j=i
   ·subst hj
    rw[hi] at e1;cases e1
    rw[List.getElem?_set_self hiσ] at e2
    cases e2
    exact⟨u,r,.inl ⟨hk,by simp⟩⟩
   ·rw[List.getElem?_set_ne (Ne.symm hj)] at e2
    obtain⟨u',r',q⟩:=hl j y v' e1 e2 e3
    refine⟨u',r',?_⟩
    rcases q with⟨k,e⟩|⟨k,c,e,z⟩
    ·refine .inl ⟨k,?_⟩
     have:y≠x:=fun e=>hj (vB hN e1 (e▸hi))
     simp[this,e]
    ·exact .inr ⟨k,c,e,z.sameBut hs (cne y c e)⟩
  ·obtain⟨w',z⟩:=I.cell y c e
   exact⟨w',z.sameBut hs (cne y c e)⟩
  ·obtain⟨e,n,ne,nf,d⟩:=I.pin p hp
   exact⟨(hs.2 p.1 ne).trans e,n,ne,nf,d⟩
 ·have hfn:X.fn x=true:=by
   rcases hf with z|z
   ·exact z
   ·rw[z] at hk;cases hk
  obtain⟨c,hc⟩:=I.ok.has x (.inl hk)
  obtain⟨w',z⟩:=I.cell x c hc
  refine wpAny_storeName_cell I.ok.kind hk hc z (fun h' hc' hs=> ?_)
  obtain⟨oc,hoc,hocd⟩:=id z
  refine h {s with heap:=h'} ⟨I.ok,I.os,I.bare,⟨fun b o e n hb hx=> ?_,fun b o e n hb hx=> ?_,I.base.free,fun b o e hx=> ?_,I.base.tups,I.base.frzs,I.base.tbls⟩,⟨m,hn.sameBut hs (Ne.symm (cne x c hc)),fun j y v' e1 e2 e3=> ?_⟩,fun y c' e=> ?_,I.free,I.freeC,fun p hp=> ?_,tracked ⟨oc,hoc,I.freeC x c hc⟩ hs,by simpa using I.len⟩ ⟨c,hs,.inr hc⟩
  ·exact(hs.2 b (Nat.ne_of_lt (Nat.lt_of_lt_of_le (Heap.lt_size e) (I.ok.cab x c hfn hc)))).trans (I.base.keep b o e n hb hx)
  ·obtain⟨sl,e1⟩:=I.base.slot b o e n hb hx
   exact⟨sl,(hs.2 b (Nat.ne_of_lt (Nat.lt_of_lt_of_le (Heap.lt_size e) (I.ok.cab x c hfn hc)))).trans e1⟩
  ·obtain⟨o',e1⟩:=I.base.there b o e hx
   exact⟨o',(hs.2 b (Nat.ne_of_lt (Nat.lt_of_lt_of_le (Heap.lt_size e) (I.ok.cab x c hfn hc)))).trans e1⟩
  ·by_cases hj:j=i
   ·subst hj
    rw[hi] at e1;cases e1
    rw[List.getElem?_set_self hiσ] at e2
    cases e2
    exact⟨u,r,.inr ⟨.inl hk,c,hc,hc'⟩⟩
   ·rw[List.getElem?_set_ne (Ne.symm hj)] at e2
    obtain⟨u',r',q⟩:=hl j y v' e1 e2 e3
    refine⟨u',r',?_⟩
    rcases q with q|⟨k,c',e,z'⟩
    ·exact .inl q
    ·refine .inr ⟨k,c',e,z'.sameBut hs ?_⟩
     rintro rfl
     exact hj (vB hN e1 (I.ok.inj _ _ _ e hc▸hi))
  ·by_cases hcc:c'=c
   ·subst hcc;exact⟨_,hc'⟩
   ·obtain⟨w2,z2⟩:=I.cell y c' e
    exact⟨w2,z2.sameBut hs hcc⟩
  ·obtain⟨e,n,ne,nf,d⟩:=I.pin p hp
   refine⟨(hs.2 p.1 ?_).trans e,n,ne,nf,d⟩
   intro q
   rw[q,hoc] at e
   have q':oc=p.2:=Option.some.inj e
   exact d w' (by rw[←q'];exact hocd)
theorem mD{M:Model}{A:Around}{E:Value->Shared->Prop}{i:Nat}{x:Str}{v:V}{u:Value}{Q:Unit->Shared->Prop}(I:Inv X pins σ H s)(hN:X.N.Nodup)(hi:X.N[i]?=some x)(hx:Loc X.env.scope x)(r:RelV v u)
  (h:∀s',Inv X pins (σ.set i (some v)) H s'->Q () s') (hf:X.fn x=true\/X.env.scope.names.lookup x=some .local:=by first|exact .inl rfl|exact .inr rfl|assumption):wpAny M A (storeName X.env x u) Q E s:=
 zY I hN hi hx r (fun s' I' _=>h s' I') hf
theorem Inv.call'{s':Shared}{ch:List Addr}(I:Inv X pins σ H s)(ho:s'.os=s.os)(u:Un (A4 X.stack) ch H H' s.heap s'.heap)(hok:lq X.prog X.w H' s'.heap)(hg:AllBare s'.gens)
  (hch:∀b∈ch,(b∈X.ex\/X.s₀.heap.objs.size<=b)/\b≠X.env.locals/\(∀x c,X.env.cells.lookup x=some c->c≠b)/\∀p∈X.pn++pins,p.1≠b):Inv X pins σ H' s':=by
 obtain⟨h',g',d',t',o'⟩:=s'
 have e:o'=s.os:=ho
 subst e
 exact I.call (g':=g') (t':=t') (d':=d') u hok hg hch
end
abbrev XK:=Value->Option Addr->Hp->Prop
abbrev St:=List (Option V)
abbrev VK:=V->Hp->Prop
abbrev TE:=St->Hp->VK->Prop
abbrev TT:=St->Hp->(Bool->Hp->Prop)->Prop
abbrev TA:=St->Hp->(List V->Hp->Prop)->Prop
structure Ends where
 nx:St->Hp->Prop
 rt:VK
 bk:St->Hp->Prop:=fun _ _=>False
 ct:St->Hp->Prop:=fun _ _=>False
abbrev TS:=Ends->St->Hp->Prop
def EP(X:Cx)(pins:List (Addr×Obj))(σ:St)(Q:VK)(u:Value)(s':Shared):Prop:=∃v H',Inv X pins σ H' s'/\RelV v u/\Q v H'
def TP(X:Cx)(pins:List (Addr×Obj))(σ:St)(Q:Bool->Hp->Prop)(b:Bool)(s':Shared):Prop:=∃H',Inv X pins σ H' s'/\Q b H'
def AP(X:Cx)(pins:List (Addr×Obj))(σ:St)(Q:List V->Hp->Prop)(us:List Value)(s':Shared):Prop:=∃vs H',Inv X pins σ H' s'/\bx vs us/\Q vs H'
def SP(X:Cx)(pins:List (Addr×Obj))(D:Ends)(f:Flow)(s':Shared):Prop:=
 match f with
 |.next=>∃σ' H',Inv X pins σ' H' s'/\D.nx σ' H'
 |.brk=>∃σ' H',Inv X pins σ' H' s'/\D.bk σ' H'
 |.cont=>∃σ' H',Inv X pins σ' H' s'/\D.ct σ' H'
 |.ret u=>∃v σ' H',Inv X pins σ' H' s'/\RelV v u/\D.rt v H'
def PE(X:Cx)(e:Expr)(t:TE):Prop:=
 ∀(pins:List (Addr×Obj)) (s:Shared) (σ:St) (H:Hp) (Q:VK),Inv X pins σ H s->t σ H Q->wpAny (model X.prog X.w) X.A (eval e X.env) (EP X pins σ Q) X.xe s
def PT(X:Cx)(e:Expr)(t:TT):Prop:=
 ∀(pins:List (Addr×Obj)) (s:Shared) (σ:St) (H:Hp) (Q:Bool->Hp->Prop),Inv X pins σ H s->t σ H Q->wpAny (model X.prog X.w) X.A (isTrue e X.env (eval e X.env)) (TP X pins σ Q) X.xe s
def PW(X:Cx)(e:Expr)(t:TT):Prop:=
 ∀(whole:Sem Value) (pins:List (Addr×Obj)) (s:Shared) (σ:St) (H:Hp) (Q:Bool->Hp->Prop),Inv X pins σ H s->t σ H Q->wpAny (model X.prog X.w) X.A (isTrue e X.env whole) (TP X pins σ Q) X.xe s
theorem PW.pt{X:Cx}{e:Expr}{t:TT}(h:PW X e t):PT X e t:=h _
def PA(X:Cx)(es:List Expr)(t:TA):Prop:=
 ∀(pos:Pos) (pins:List (Addr×Obj)) (s:Shared) (σ:St) (H:Hp) (Q:List V->Hp->Prop),Inv X pins σ H s->t σ H Q->wpAny (model X.prog X.w) X.A (spliced (backTo pos (starEach es X.env))) (AP X pins σ Q) X.xe s
def PS(X:Cx)(st:Stmt)(t:TS):Prop:=
 ∀(pins:List (Addr×Obj)) (s:Shared) (σ:St) (H:Hp) (D:Ends),Inv X pins σ H s->t D σ H->wpAny (model X.prog X.w) X.A (exec st X.env) (SP X pins D) X.xe s
def pe(X:Cx)(st:List Stmt)(t:TS):Prop:=
 ∀(pins:List (Addr×Obj)) (s:Shared) (σ:St) (H:Hp) (D:Ends),Inv X pins σ H s->t D σ H->wpAny (model X.prog X.w) X.A (execs st X.env) (SP X pins D) X.xe s
theorem cG{α:Type}{t:Sem α}{Q Q':α->Shared->Prop}{M:Model}{A:Around}{E:Value->Shared->Prop}{s:Shared}(h:wpAny M A t Q E s)(hQ:∀a s,Q a s->Q' a s):wpAny M A t Q' E s:=wpAny_mono h hQ fun _ _ x=>x
section
variable{X:Cx}
def Fu(i:Nat):TE:=fun σ H Q=>∃v,σ[i]?=some (some v)/\Q v H
def tC(v:V):TE:=fun _ H Q=>Q v H
theorem Bc{i:Nat}{x:Str}{pos:Pos}(hN:X.N[i]?=some x)(hv:DM X.env.scope x)(hd:(x==("__debug__":Str))=false:=by decide)(hcd:(x==("__classdict__":Str))=false:=by decide):PE X (.Name x pos) (Fu i):=by
 intro pins s σ H Q I h
 obtain⟨v,e,h⟩:=h
 obtain⟨m,hn,hl⟩:=I.loc
 obtain⟨u,r,l⟩:=hl i x v hN e hv
 have fin:EP X pins σ Q u s:=⟨v,H,I,r,h⟩
 rcases l with⟨hk,hm⟩|⟨hk,c,hc,hcell⟩
 ·exact wpAny_Name (wpAny_loadName_local I.ok.kind hk hn hm fin) hd
 ·rcases hk with hk|hk
  ·exact wpAny_Name (wpAny_loadName_cell I.ok.kind hk hc hcell fin) hd
  ·exact wpAny_Name (wpAny_loadName_free I.ok.kind hk hc hcell fin hcd) hd
theorem Ed{i j pos}:PE X (.Constant (.int i) j pos) (tC (.int i)):=fun _ _ _ H _ I h=>wpAny_Constant_int ⟨.int i,H,I.tok _,⟨_,rfl⟩,h⟩
theorem FP{b j pos}:PE X (.Constant (.bool b) j pos) (tC (.bl b)):=fun _ _ _ H _ I h=>Constant_bool ⟨.bl b,H,I,rfl,h⟩
theorem Eg{j pos}:PE X (.Constant .none j pos) (tC .non):=fun _ _ _ H _ I h=>Constant_none ⟨.non,H,I,rfl,h⟩
theorem Ft{x j pos}:PE X (.Constant (.str x) j pos) (tC (.str x)):=fun _ _ _ H _ I h=>Calls.Constant_str ⟨.str x,H,I.tok _,⟨_,rfl⟩,h⟩
def Gl(X:Cx)(x:Str):Prop:=X.env.kindOf x=some .globalImplicit
theorem uT{E:Value->Shared->Prop}{pins:List (Addr×Obj)}{s:Shared}{σ:St}{H:Hp}{x:Str}{u:Value}{pos:Pos}{Q:Value->Shared->Prop}(I:Inv X pins σ H s)(hg:Gl X x)(hm:X.mg x=some u)(h:Q u s)
  (hd:(x==("__debug__":Str))=false:=by decide):wpAny (model X.prog X.w) X.A (eval (.Name x pos) X.env) Q E s:=
 Calls.Name_function_global I.ok.kind hg (Calls.loadGlobal_global (by rw[I.ok.glob];exact I.mod.glob.keeps I.bk) hm h) hd
theorem kZ{E:Value->Shared->Prop}{pins:List (Addr×Obj)}{s:Shared}{σ:St}{H:Hp}{x:Str}{u:Value}{pos:Pos}{Q:Value->Shared->Prop}(I:Inv X pins σ H s)(hg:Gl X x)(hm:X.mg x=none)(hv:bootBuiltins x=some u)(h:Q u s)
  (hn:x≠"__name__":=by decide) (hd:(x==("__debug__":Str))=false:=by decide):wpAny (model X.prog X.w) X.A (eval (.Name x pos) X.env) Q E s:=by
 obtain⟨mb,h1,h2⟩:=I.mod.blt
 exact Calls.Name_function_global I.ok.kind hg (Calls.loadGlobal_builtin (by rw[I.ok.glob];exact I.mod.glob.keeps I.bk) hm (by rw[I.ok.blt];exact h1.keeps I.bk) ((h2 x hn).trans hv) h) hd
theorem eg{x:Str}{v:V}{u:Value}{pos:Pos}(hg:Gl X x)(hm:X.mg x=some u)(r:RelV v u)(hd:(x==("__debug__":Str))=false:=by decide):PE X (.Name x pos) (tC v):=
 fun _ _ _ H _ I h=>uT I hg hm ⟨v,H,I,r,h⟩ hd
theorem fT{x:Str}{v:V}{u:Value}{pos:Pos}(hg:Gl X x)(hm:X.mg x=none)(hv:bootBuiltins x=some u)(r:RelV v u)(hn:x≠"__name__":=by decide)(hd:(x==("__debug__":Str))=false:=by decide):PE X (.Name x pos) (tC v):=
 fun _ _ _ H _ I h=>kZ I hg hm hv ⟨v,H,I,r,h⟩ hn hd
variable{a b:Expr}{ta tb:TE}{pos:Pos}
variable{tA tB':TT}{rest:List Expr}
def G8(t u:TT):TT:=fun σ H Q=>t σ H fun c H1=>if c=true then u σ H1 Q else Q false H1
def Iv(t u:TT):TT:=fun σ H Q=>t σ H fun c H1=>if c=true then Q true H1 else u σ H1 Q
def Hz(t:TT):TT:=fun σ H Q=>t σ H fun c H1=>Q (!c) H1
theorem Cc(ha:PT X a tA):PW X (.BoolOp .And [a] pos) tA:=by
 intro wh pins s σ H Q I h
 refine isTrue_and (cG (ha pins s σ H Q I h) fun c s1 e=> ?_)
 cases c with
 |true=>exact isTrue_and_nil e
 |false=>exact e
theorem Eh(ha:PT X a tA):PW X (.BoolOp .Or [a] pos) tA:=by
 intro wh pins s σ H Q I h
 refine isTrue_or (cG (ha pins s σ H Q I h) fun c s1 e=> ?_)
 cases c with
 |false=>exact isTrue_or_nil e
 |true=>exact e
theorem E7(ha:PT X a tA)(hb:PW X (.BoolOp .And (b::rest) pos) tB'):PW X (.BoolOp .And (a::b::rest) pos) (G8 tA tB'):=by
 intro wh pins s σ H Q I h
 refine isTrue_and (cG (ha pins s σ H _ I h) fun c s1 qr=> ?_)
 obtain⟨H1,I1,q1⟩:=qr
 cases c with
 |true=>exact hb wh pins s1 σ H1 Q I1 q1
 |false=>exact⟨H1,I1,q1⟩
theorem GK(ha:PT X a tA)(hb:PW X (.BoolOp .Or (b::rest) pos) tB'):PW X (.BoolOp .Or (a::b::rest) pos) (Iv tA tB'):=by
 intro wh pins s σ H Q I h
 refine isTrue_or (cG (ha pins s σ H _ I h) fun c s1 qr=> ?_)
 obtain⟨H1,I1,q1⟩:=qr
 cases c with
 |true=>exact⟨H1,I1,q1⟩
 |false=>exact hb wh pins s1 σ H1 Q I1 q1
theorem EE(ha:PT X a tA):PT X (.UnaryOp .Not a pos) (Hz tA):=by
 intro pins s σ H Q I h
 exact isTrue_not (ha pins s σ H (fun c H1=>Q (!c) H1) I h)
def Gr(ta tb:TE):TE:=fun σ H Q=>ta σ H fun x H1=>∃c,x=.bl c/\if c=true then tb σ H1 Q else Q (.bl false) H1
def GB(ta:TE):TE:=fun σ H Q=>ta σ H fun x H1=>∃c,x=.bl c/\Q (.bl (!c)) H1
theorem D5{op}{t:TE}(h:PE X a t):PE X (.BoolOp op [a] pos) t:=fun pins s σ H Q I hw=>BoolOp_one (h pins s σ H Q I hw)
theorem Fo(ha:PE X a ta)(hb:PE X (.BoolOp .And (b::rest) pos) tb):PE X (.BoolOp .And (a::b::rest) pos) (Gr ta tb):=by
 intro pins s σ H Q I h
 refine BoolOp_and (cG (ha pins s σ H _ I h) fun v s1 qr=> ?_)
 obtain⟨x,H1,I1,r1,q1⟩:=qr
 obtain⟨c,rfl,q1⟩:=q1
 cases r1
 refine wpAny_truthy_bool ?_
 cases c with
 |true=>exact hb pins s1 σ H1 Q I1 q1
 |false=>exact⟨.bl false,H1,I1,rfl,q1⟩
theorem D9(ha:PE X a ta):PE X (.UnaryOp .Not a pos) (GB ta):=by
 intro pins s σ H Q I h
 refine UnaryOp_ (cG (ha pins s σ H _ I h) fun v s1 qr=> ?_)
 obtain⟨x,H1,I1,r1,q1⟩:=qr
 obtain⟨c,rfl,q1⟩:=q1
 cases r1
 exact not_of (wpAny_truthy_bool ⟨.bl (!c),H1,I1,rfl,q1⟩)
def Ik(t:TT)(ta tb:TE):TE:=fun σ H Q=>t σ H fun c H1=>if c=true then ta σ H1 Q else tb σ H1 Q
theorem AB{c:Expr}(hc:PT X c tA)(ha:PE X a ta)(hb:PE X b tb):PE X (.IfExp c a b pos) (Ik tA ta tb):=by
 intro pins s σ H Q I h
 refine wpAny_IfExp (cG (hc pins s σ H _ I h) fun d s1 qr=> ?_)
 obtain⟨H1,I1,q1⟩:=qr
 cases d with
 |true=>exact ha pins s1 σ H1 Q I1 q1
 |false=>exact hb pins s1 σ H1 Q I1 q1
end
def hG(K:PySem.W.Frag)(H:Hp)(a:Addr)(xs:List V):Prop:=
 Rd H a (.lst xs)∨
  ∃(o:Obj) (its:Array Value) (n:Nat),K.lookup a=some o/\o.cls=.type "list" /\o.dict=none/\o.data=.seq its n/\its.size<=sizeLine/\bx xs its.toList
def gL(K:PySem.W.Frag)(H:Hp)(a:Addr)(xs:List V):Prop:=
 Rd H a (.tup xs)∨
  ∃(o:Obj) (its:Array Value) (n:Nat),K.lookup a=some o/\o.cls=.type "tuple" /\o.data=.seq its n/\its.size<=sizeLine/\bx xs its.toList
def Hx:Value->Option V
 |.none=>some .non
 |.bool b=>some (.bl b)
 |.int i _=>some (.int i)
 |.str x _=>some (.str x)
 |.bytes b _=>some (.byt b)
 |.float b _=>some (.flt b)
 |.ref a=>some (.ref a)
 |.type n=>some (.ty n)
 |_=>none
theorem RelV.abs{x:V}{u:Value}(r:RelV x u):Hx u=some x:=by
 cases x with
 |non=>cases r;rfl
 |bl _=>cases r;rfl
 |int _=>obtain⟨t,rfl⟩:=r;rfl
 |str _=>obtain⟨t,rfl⟩:=r;rfl
 |byt _=>obtain⟨t,rfl⟩:=r;rfl
 |flt _=>obtain⟨t,rfl⟩:=r;rfl
 |ref _=>cases r;rfl
 |ty _=>cases r;rfl
theorem RelV.inj{x y:V}{u:Value}(r:RelV x u)(q:RelV y u):x=y:=Option.some.inj (r.abs.symm.trans q.abs)
theorem bx.inj:∀{xs ys:List V} {us:List Value},bx xs us->bx ys us->xs=ys
 |_,_,_,.nil,.nil=>rfl
 |_,_,_,.cons r t,.cons r' t'=>by rw[r.inj r',bx.inj t t']
section
variable{X:Cx}{pins:List (Addr×Obj)}{σ:St}{H:Hp}{s:Shared}{a:Addr}{xs ys:List V}
theorem hG.of{K:PySem.W.Frag}(h:H a=some (.lst xs)):hG K H a xs:=.inl (.inl h)
theorem gL.of{K:PySem.W.Frag}(h:H a=some (.tup xs)):gL K H a xs:=.inl (.inl h)
theorem Inv.list(I:Inv X pins σ H s)(h:hG X.K H a xs):∃its:List Value,bx xs its/\PlainL s.heap a its.toArray/\xs.length<=sizeLine:=by
 rcases h with h|⟨o,its,n,hk,hc,hd,hs,hz,r⟩
 ·obtain⟨z,its,n,r,e⟩:=h.ok I.hok
  exact⟨its,r,⟨_,n,e,rfl,rfl,rfl⟩,z⟩
 ·refine⟨its.toList,r,⟨o,n,I.kIn a o hk,hc,hd,by simpa using hs⟩,?_⟩
  have e:=r.length
  simp only[Array.length_toList] at e
  omega
theorem Inv.tuple(I:Inv X pins σ H s)(h:gL X.K H a xs):∃its:List Value,bx xs its/\IsTup s.heap a its.toArray/\xs.length<=sizeLine:=by
 rcases h with h|⟨o,its,n,hk,hc,hs,hz,r⟩
 ·obtain⟨z,its,r,p⟩:=h.ok I.hok
  exact⟨its,r,p.it,z⟩
 ·refine⟨its.toList,r,⟨o,I.kIn a o hk,hc,n,by simpa using hs⟩,?_⟩
  have e:=r.length
  simp only[Array.length_toList] at e
  omega
theorem Inv.list_inj(I:Inv X pins σ H s)(h:hG X.K H a xs)(h':hG X.K H a ys):xs=ys:=by
 obtain⟨its,r,⟨o,n,e,_,_,d⟩,_⟩:=I.list h
 obtain⟨its',r',⟨o',n',e',_,_,d'⟩,_⟩:=I.list h'
 rw[e] at e';cases e'
 rw[d] at d'
 injection d' with d1 _
 have:its=its':=by simpa using congrArg Array.toList d1
 subst this
 exact r.inj r'
theorem Inv.tuple_inj(I:Inv X pins σ H s)(h:gL X.K H a xs)(h':gL X.K H a ys):xs=ys:=by
 obtain⟨its,r,⟨o,e,_,n,d⟩,_⟩:=I.tuple h
 obtain⟨its',r',⟨o',e',_,n',d'⟩,_⟩:=I.tuple h'
 rw[e] at e';cases e'
 rw[d] at d'
 injection d' with d1 _
 have:its=its':=by simpa using congrArg Array.toList d1
 subst this
 exact r.inj r'
end
abbrev Cx.wish(X:Cx)(E:Value->Shared->Prop):Cx:={X with xe:=E}
abbrev Cx.nox(X:Cx):Cx:=X.wish fun _ _=>False
theorem Cx.Ok.wish{X:Cx}(ok:X.Ok)(E:Value->Shared->Prop):(X.wish E).Ok:=
 ⟨ok.mod,ok.kind,ok.glob,ok.blt,ok.above,ok.inj,ok.has,ok.cab,ok.hd,ok.frames,ok.stk,ok.exf,ok.bs,ok.bsz,ok.noex,ok.exfs,ok.funs,ok.frf⟩
theorem Cx.Ok.unwish{X:Cx}{E:Value->Shared->Prop}(ok:(X.wish E).Ok):X.Ok:=
 ⟨ok.mod,ok.kind,ok.glob,ok.blt,ok.above,ok.inj,ok.has,ok.cab,ok.hd,ok.frames,ok.stk,ok.exf,ok.bs,ok.bsz,ok.noex,ok.exfs,ok.funs,ok.frf⟩
section
variable{X:Cx}{pins:List (Addr×Obj)}{σ:St}{H:Hp}{s:Shared}{E:Value->Shared->Prop}
theorem Inv.wish(I:Inv X pins σ H s)(E:Value->Shared->Prop):Inv (X.wish E) pins σ H s:=⟨I.ok.wish E,I.os,I.bare,I.base,I.loc,I.cell,I.free,I.freeC,I.pin,I.hok,I.len⟩
theorem Inv.unwish(I:Inv (X.wish E) pins σ H s):Inv X pins σ H s:=⟨I.ok.unwish,I.os,I.bare,I.base,I.loc,I.cell,I.free,I.freeC,I.pin,I.hok,I.len⟩
theorem SP.unwish{D:Ends}{f:Flow}{s':Shared}(h:SP (X.wish E) pins D f s'):SP X pins D f s':=by
 cases f with
 |next=>obtain⟨σ',H',I,q⟩:=h;exact⟨σ',H',I.unwish,q⟩
 |brk=>obtain⟨σ',H',I,q⟩:=h;exact⟨σ',H',I.unwish,q⟩
 |cont=>obtain⟨σ',H',I,q⟩:=h;exact⟨σ',H',I.unwish,q⟩
 |ret u=>obtain⟨v,σ',H',I,r,q⟩:=h;exact⟨v,σ',H',I.unwish,r,q⟩
theorem pe.nox{st:List Stmt}{t:TS}(h:pe X.nox st t):pe X st t:=fun pins s σ H D I hw=>
 wpAny_mono (h pins s σ H D (I.wish _) hw) (fun _ _ q=>q.unwish) fun _ _ z=>False.elim z
end
section
variable{X:Cx}{st:Stmt}{rest:List Stmt}{t u:TS}{e:Expr}{te:TE}{pos:Pos}
def Gj:TS:=fun D σ H=>D.nx σ H
def HC(t u:TS):TS:=fun D σ H=>t {D with nx:=u D} σ H
theorem CP:pe X [] Gj:=fun _ _ σ H _ I h=>wpAny_execs_nil ⟨σ,H,I,h⟩
theorem Ab(h1:PS X st t)(h2:pe X rest u):pe X (st::rest) (HC t u):=by
 intro pins s σ H D I h
 refine wpAny_execs_cons (cG (h1 pins s σ H {D with nx:=u D} I h) fun f s1 q=> ?_)
 cases f with
 | next=>
   obtain⟨σ',H',I',q⟩:=q
   exact h2 pins s1 σ' H' D I' q
 |ret v=>exact q
 |brk=>exact q
 |cont=>exact q
theorem Dh(h1:PS X st t):pe X [st] t:=by
 intro pins s σ H D I h
 refine wpAny_execs_cons (cG (h1 pins s σ H D I h) fun f s1 q=> ?_)
 cases f with
 |next=>exact wpAny_execs_nil q
 |ret v=>exact q
 |brk=>exact q
 |cont=>exact q
theorem Inv.quiet{pins:List (Addr×Obj)}{σ:St}{H:Hp}{s:Shared}(I:Inv X pins σ H s):interactive X.env=false:=by simp[interactive,I.ok.kind]
def FJ(te:TE):TS:=fun D σ H=>te σ H fun _ H1=>D.nx σ H1
theorem CT(he:PE X e te)(hs:swapsWith e none pos.line X.env=pure false:=by rfl):PS X (.Expr e pos) (FJ te):=by
 intro pins s σ H D I h
 exact wpAny_Expr_any (cG (he pins s σ H _ I h) fun v s1 ⟨x,H1,I1,r1,q1⟩=>⟨σ,H1,I1,q1⟩) I.quiet hs
def Hd(te:TE):TS:=fun D σ H=>te σ H D.rt
theorem Aj(he:PE X e te):PS X (.Return (some e) pos) (Hd te):=by
 intro pins s σ H D I h
 exact wpAny_Return_some (cG (he pins s σ H _ I h) fun v s1 ⟨x,H1,I1,r1,q1⟩=>⟨x,σ,H1,I1,r1,q1⟩)
def HG(c:TT)(t u:TS):TS:=fun D σ H=>c σ H fun b H1=>if b=true then t D σ H1 else u D σ H1
theorem FE{c:Expr}{a b:List Stmt}{tc:TT}(hc:PT X c tc)(ha:pe X a t)(hb:pe X b u):PS X (.If c a b pos) (HG tc t u):=by
 intro pins s σ H D I h
 refine wpAny_If (cG (hc pins s σ H _ I h) fun d s1 qr=> ?_)
 obtain⟨H1,I1,q1⟩:=qr
 cases d with
 |true=>exact ha pins s1 σ H1 D I1 q1
 |false=>exact hb pins s1 σ H1 D I1 q1
def EZ:TS:=fun _ _ _=>False
theorem Bz:PS X st EZ:=fun _ _ _ _ _ _ h=>h.elim
end
abbrev TG:=V->St->Hp->(St->Hp->Prop)->Prop
abbrev Cn:=List V->St->Hp->(St->Hp->Prop)->Prop
def PG(X:Cx)(target:Expr)(t:TG):Prop:=
 ∀ (pins:List (Addr×Obj)) (s:Shared) (σ:St) (H:Hp) (v:V) (u:Value) (Q:St->Hp->Prop),Inv X pins σ H s->RelV v u->t v σ H Q→
   wpAny (model X.prog X.w) X.A (assign target X.env u) (fun _ s'=>∃σ' H',Inv X pins σ' H' s'/\Q σ' H') X.xe s
def B8(X:Cx)(ts:List Expr)(t:Cn):Prop:=
 ∀ (pins:List (Addr×Obj)) (s:Shared) (σ:St) (H:Hp) (vs:List V) (us:List Value) (Q:St->Hp->Prop),Inv X pins σ H s->bx vs us->t vs σ H Q→
   wpAny (model X.prog X.w) X.A (assignInOrder ((assignEach ts X.env).map (·.2)) us) (fun _ s'=>∃σ' H',Inv X pins σ' H' s'/\Q σ' H') X.xe s
abbrev AJ:=V->V->V->Hp->(Hp->Prop)->Prop
def ES(X:Cx)(t:AJ):Prop:=
 ∀ (pins:List (Addr×Obj)) (s:Shared) (σ:St) (H:Hp) (o i v:V) (ov iv u:Value) (Q:Hp->Prop),Inv X pins σ H s->RelV o ov->RelV i iv->RelV v u->t o i v H Q→
   wpAny (model X.prog X.w) X.A (setItem ov iv u) (fun _ s'=>∃H',Inv X pins σ H' s'/\Q H') X.xe s
abbrev G4:=V->V->Hp->VK->Prop
def HY(X:Cx)(op:Operator)(t:G4):Prop:=
 ∀ (pins:List (Addr×Obj)) (s:Shared) (σ:St) (H:Hp) (x y:V) (v u:Value) (Q:VK),Inv X pins σ H s->RelV x v->RelV y u->t x y H Q→
   wpAny (model X.prog X.w) X.A (inplaceOp op v u) (EP X pins σ Q) X.xe s
section
variable{X:Cx}{pos:Pos}
def qd(i:Nat):TG:=fun v σ H Q=>Q (σ.set i (some v)) H
theorem uO{i:Nat}{x:Str}(hN:X.N.Nodup)(hi:X.N[i]?=some x)(hx:Loc X.env.scope x)(hf:X.fn x=true\/X.env.scope.names.lookup x=some .local:=by first|exact .inl rfl|exact .inr rfl|assumption):PG X (.Name x pos) (qd i):=by
 intro pins s σ H v u Q I r h
 exact wpAny_assign_Name (mD I hN hi hx r (fun s' I'=>⟨_,H,I',h⟩) hf)
def G6:Cn:=fun vs σ H Q=>vs= []/\Q σ H
def F5(t:TG)(u:Cn):Cn:=fun vs σ H Q=>∃v r,vs=v::r/\t v σ H fun σ' H'=>u r σ' H' Q
theorem Cz:B8 X [] G6:=by
 intro pins s σ H vs us Q I r h
 obtain⟨e,h⟩:=h
 subst e
 cases r
 exact assignInOrder_nil ⟨σ,H,I,h⟩
theorem BG{e:Expr}{es:List Expr}{t:TG}{u:Cn}(h1:PG X e t)(h2:B8 X es u)
  (hs:(assignEach (e::es) X.env).map (·.2)=assign e X.env::(assignEach es X.env).map (·.2):=by rfl):B8 X (e::es) (F5 t u):=by
 intro pins s σ H vs us Q I r h
 obtain⟨v,vr,e1,h⟩:=h
 subst e1
 cases r with
 | cons r rr=>
   rw[hs]
   refine assignInOrder_cons (cG (h1 pins s σ H _ _ _ I r h) fun _ s1 qr=> ?_)
   obtain⟨σ1,H1,I1,q1⟩:=qr
   exact h2 pins s1 σ1 H1 _ _ Q I1 rr q1
def Hw(K:PySem.W.Frag)(n:Nat)(t:Cn):TG:=fun v σ H Q=>∃a xs,v=.ref a/\gL K H a xs/\xs.length=n/\t xs σ H Q
theorem D1{es:List Expr}{k:Nat}{t:Cn}{n:Nat}(hc:X.calm=true)(h:B8 X es t)
  (hn:(assignEach es X.env).length=n:=by rfl) (hst:(assignEach es X.env).findIdx? (·.1)=none:=by rfl):PG X (.Tuple es k pos) (Hw X.K n t):=by
 intro pins s σ H v u Q I r hw
 obtain⟨a,xs,e1,hq,hl,hw⟩:=hw
 subst e1
 cases r
 obtain⟨its,rv,ht,hz⟩:=I.tuple hq
 refine assign_Tuple_tuple (I.ok.hd hc) ht (by simp[hn,←hl,rv.length]) hst fun h' hx=> ?_
 have I1:Inv X pins σ H {s with heap:=h'}:=I.kept (t':=s.toks) fun b o e=>hx b o (Nat.ne_of_lt (Heap.lt_size e)) e
 exact h pins _ σ H xs _ Q I1 (by simpa using rv) hw
def Gg(to ti:TE)(t:AJ):TG:=fun v σ H Q=>to σ H fun o H1=>ti σ H1 fun i H2=>t o i v H2 fun H3=>Q σ H3
theorem Er{o i:Expr}{to ti:TE}{t:AJ}(ho:PE X o to)(hi:PE X i ti)(hs:ES X t)
  (ha:∀v,assign (.Subscript o i pos) X.env v=(do
   let ov←holding [v] (eval o X.env)
   let iv←holding [v,ov] (eval i X.env)
   standAt pos
   holding [v,ov,iv] (setItem ov iv v)
   release [v,ov,iv] []):=by intro _;rfl):PG X (.Subscript o i pos) (Gg to ti t):=by
 intro pins s σ H v u Q I r h
 rw[ha]
 refine wpAny_bind (wpAny_holding (cG (ho pins s σ H _ I h) fun ov s1 qr=> ?_))
 obtain⟨x,H1,I1,r1,q1⟩:=qr
 refine wpAny_bind (wpAny_holding (cG (hi pins s1 σ H1 _ I1 q1) fun iv s2 qr=> ?_))
 obtain⟨y,H2,I2,r2,q2⟩:=qr
 refine wpAny_bind (wpAny_standAt (wpAny_bind (wpAny_holding (cG (hs pins s2 σ H2 x y v ov iv u _ I2 r1 r2 r q2) fun _ s3 qr=> ?_))))
 obtain⟨H3,I3,q3⟩:=qr
 exact wpAny_release ⟨σ,H3,I3,q3⟩
def zV(te:TE)(g:TG):TS:=fun D σ H=>te σ H fun x H1=>g x σ H1 D.nx
theorem Ee{tg e:Expr}{te:TE}{g:TG}(he:PE X e te)(hg:PG X tg g)(hs:swapsWithSole [tg] e pos.line X.env=pure false:=by rfl)(hw:swappedStores [tg] e X.env=pure none:=by rfl)
  (h1:(assignEach [tg] X.env).map (·.2)= [assign tg X.env]:=by rfl):PS X (.Assign [tg] e pos) (zV te g):=by
 intro pins s σ H D I h
 refine wpAny_Assign_stores (cG (he pins s σ H _ I h) fun v s1 ⟨x,H1,I1,r1,q1⟩=> ?_) hs hw
 rw[h1]
 exact cG (hg pins s1 σ H1 x v _ I1 r1 q1) fun _ s2 q=>q
theorem Fc{i:Nat}{x:Str}{e:Expr}{te:TE}{pos':Pos}(hN:X.N.Nodup)(hi:X.N[i]?=some x)(hx:Loc X.env.scope x)(he:PE X e te)(hs:swapsWith e (some (.Name x pos')) pos.line X.env=pure false:=by rfl)(hf:X.fn x=true\/X.env.scope.names.lookup x=some .local:=by first|exact .inl rfl|exact .inr rfl|assumption):
  PS X (.Assign [.Name x pos'] e pos) (zV te (qd i)):=by
 intro pins s σ H D I h
 refine wpAny_Assign_Name (cG (he pins s σ H _ I h) fun v s1 ⟨y,H1,I1,r1,q1⟩=> ?_) hs
 exact mD I1 hN hi hx r1 (fun s2 I2=>⟨_,H1,I2,q1⟩) hf
def FS(i j:Nat)(ta:TA):TS:=fun D σ H=>ta σ H fun vs H1=>∃v w,vs= [v,w]/\D.nx ((σ.set i (some v)).set j (some w)) H1
theorem Ek{i j:Nat}{x y:Str}{a b:Expr}{ta:TA}{px py pt:Pos}{kt k2 pt2}(hc:X.calm=true)(hN:X.N.Nodup)(hi:X.N[i]?=some x)(hj:X.N[j]?=some y)(hij:i≠j)
  (hx:X.env.scope.names.lookup x=some .local) (hy:X.env.scope.names.lookup y=some .local) (ha:PA X [a,b] ta)
  (hw:swappedStores [.Tuple [.Name x px,.Name y py] kt pt] (.Tuple [a,b] k2 pt2) X.env=pure (some [x,y]))
  (hs:swapsWithSole [.Tuple [.Name x px,.Name y py] kt pt] (.Tuple [a,b] k2 pt2) pos.line X.env=pure false:=by rfl):
  PS X (.Assign [.Tuple [.Name x px,.Name y py] kt pt] (.Tuple [a,b] k2 pt2) pos) (FS i j ta):=by
 intro pins s σ H D I h
 rw[exec_Assign_arm]
 refine wpAny_bind (wpAny_standAt ?_)
 rw[hs]
 refine wpAny_bind (wpAny_pure ?_)
 rw[if_neg (by decide)]
 refine wpAny_bind (Tuple_ (cG (ha _ pins s σ H _ I h) fun us s1 qr=> ?_))
 obtain⟨vs,H1,I1,r1,q1⟩:=qr
 obtain⟨v,w,e1,q1⟩:=q1
 subst e1
 obtain⟨u1,u2,rfl,rv,rw'⟩:∃u1 u2,us= [u1,u2]/\RelV v u1/\RelV w u2:=by
  cases r1 with
  | cons p q=>
    cases q with
    | cons p' q'=>
      cases q'
      exact⟨_,_,rfl,p,p'⟩
 refine wpAny_newObj_type ?_ (by show 2<=sizeLine;decide)
 have I2:Inv X pins σ H1 {s1 with heap:=s1.heap.push {cls:=.type "tuple",data:=.seq [u1,u2].toArray}}:=I1.kept (t':=s1.toks) fun b o e=>Heap.get?_push_of_some _ e
 rw[hw]
 refine wpAny_bind (wpAny_pure ?_)
 show wpAny (model X.prog X.w) X.A (do rule "assign.swapped-stores";let items←unpackItems (.ref s1.heap.objs.size) 2 none;assignInOrder [fun v=>bindName X.env y v,fun v=>bindName X.env x v] items.reverse;pure Flow.next) _ _ _
 refine wpAny_bind (wpAny_rule (wpAny_bind (unpackItems_tuple (items:= #[u1,u2]) (I.ok.hd hc) (IsTup.new s1.heap _) fun h' hx'=> ?_)))
 have I3:=I2.kept (h':=h') (t':=s1.toks) fun b o e=>hx' b o (Nat.ne_of_lt (Heap.lt_size e)) e
 show wpAny _ _ (assignInOrder [fun v=>bindName X.env y v,fun v=>bindName X.env x v] [u2,u1] >>= fun _=>pure Flow.next) _ _ _
 refine wpAny_bind (assignInOrder_cons (wpAny_bindName (mD I3 hN hj (.inl hy) rw' (fun s2 I4=> ?_) (.inr hy))))
 refine assignInOrder_cons (wpAny_bindName (mD I4 hN hi (.inl hx) rv (fun s3 I5=>assignInOrder_nil (wpAny_pure ?_)) (.inr hx)))
 rw[List.set_comm _ _ (Ne.symm hij)] at I5
 exact⟨_,H1,I5,q1⟩
def Gp(to ti te:TE)(tget:V->V->Hp->VK->Prop)(tip:G4)(tset:AJ):TS:=fun D σ H=>to σ H fun o H1=>ti σ H1 fun i H2=>tget o i H2 fun x H3=>te σ H3 fun y H4=>tip x y H4 fun z H5=>tset o i z H5 fun H6=>D.nx σ H6
def GO(X:Cx)(t:V->V->Hp->VK->Prop):Prop:=
 ∀ (pins:List (Addr×Obj)) (s:Shared) (σ:St) (H:Hp) (o i:V) (ov iv:Value) (Q:VK),Inv X pins σ H s->RelV o ov->RelV i iv->t o i H Q→
   wpAny (model X.prog X.w) X.A (getItem ov iv) (EP X pins σ Q) X.xe s
theorem Cw{o i e:Expr}{to ti te:TE}{tget:V->V->Hp->VK->Prop}{tip:G4}{tset:AJ}{op:Operator}{tpos:Pos}(ho:PE X o to)(hi:PE X i ti)(hg:GO X tget)(he:PE X e te)(hp:HY X op tip)(hs:ES X tset)
  (ha:∀ov iv new,augStore i ov iv new=(do holding [new,ov,iv] (setItem ov iv new);release [new,ov,iv] [];pure .next):=by intros;rfl):PS X (.AugAssign (.Subscript o i tpos) op e pos) (Gp to ti te tget tip tset):=by
 intro pins s σ H D I h
 refine wpAny_AugAssign_SubscriptAny (cG (ho pins s σ H _ I h) fun ov s1 ⟨x1,H1,I1,r1,q1⟩=> ?_) ha
 refine cG (hi pins s1 σ H1 _ I1 q1) fun iv s2 qr=> ?_
 obtain⟨x2,H2,I2,r2,q2⟩:=qr
 refine cG (hg pins s2 σ H2 x1 x2 ov iv _ I2 r1 r2 q2) fun old s3 qr=> ?_
 obtain⟨x3,H3,I3,r3,q3⟩:=qr
 refine cG (he pins s3 σ H3 _ I3 q3) fun v s4 qr=> ?_
 obtain⟨x4,H4,I4,r4,q4⟩:=qr
 refine cG (hp pins s4 σ H4 x3 x4 old v _ I4 r3 r4 q4) fun new s5 qr=> ?_
 obtain⟨x5,H5,I5,r5,q5⟩:=qr
 exact cG (hs pins s5 σ H5 x1 x2 x5 ov iv new _ I5 r1 r2 r5 q5) fun _ s6 ⟨H6,I6,q6⟩=>⟨σ,H6,I6,q6⟩
def Ij(f:Int->Int->Int):G4:=fun x y H Q=>∃i j,x=.int i/\y=.int j/\Q (.int (f i j)) H
theorem E4:HY X .Add (Ij fun i j=>i+j):=by
 intro pins s σ H x y v u Q I r1 r2 h
 obtain⟨i,j,e1,e2,q⟩:=h
 subst e1;subst e2
 obtain⟨t,rfl⟩:=r1
 obtain⟨t',rfl⟩:=r2
 exact iadd_int ⟨.int _,H,I.tok _,⟨_,rfl⟩,q⟩
end
section
variable{X:Cx}{pos:Pos}
def EI(c:TT)(tb:TS):TS:=fun D σ H=>∃W:Nat->St->Hp->Prop,(∃m,W m σ H)/\∀m σ H,W m σ H→
 c σ H fun b H1=>if b=true then∃N:St->Hp->Prop,(∀σ' H',N σ' H'->∃m',m'<m/\W m' σ' H')/\tb {D with nx:=N,ct:=N,bk:=D.nx} σ H1 else D.nx σ H1
theorem Bp{c:Expr}{body:List Stmt}{tc:TT}{tb:TS}(hp:PassesOwn (model X.prog X.w) X.A X.env X.xe)(hc:PT X c tc)(hb:pe X body tb):PS X (.While c body [] pos) (EI tc tb):=by
 intro pins s σ H D I h
 obtain⟨W,⟨m0,w0⟩,turn⟩:=h
 refine wpAny_While (codeAny_whileLoop (fun n s'=>∃σ' H',Inv X pins σ' H' s'/\W n σ' H') ?_ m0 ⟨σ,H,I,w0⟩)
 rintro n s1 ⟨σ1,H1,I1,w1⟩
 refine wpAny_passesOwn hp (cG (hc pins s1 σ1 H1 _ I1 (turn n σ1 H1 w1)) fun b s2 qr=> ?_)
 obtain⟨H2,I2,q2⟩:=qr
 cases b with
 | true=>
   obtain⟨N,hN,q2⟩:=q2
   rw[if_pos rfl]
   refine wpAny_passesOwn hp (cG (hb pins s2 σ1 H2 _ I2 q2) fun f s3 q3=> ?_)
   cases f with
   | next=>
     obtain⟨σ3,H3,I3,n3⟩:=q3
     obtain⟨m',hm,w3⟩:=hN σ3 H3 n3
     exact⟨m',hm,σ3,H3,I3,w3⟩
   | cont=>
     obtain⟨σ3,H3,I3,n3⟩:=q3
     obtain⟨m',hm,w3⟩:=hN σ3 H3 n3
     exact⟨m',hm,σ3,H3,I3,w3⟩
   |brk=>exact q3
   |ret v=>exact q3
 | false=>
   rw[if_neg Bool.false_ne_true]
   exact wpAny_execs_nil ⟨σ1,H2,I2,q2⟩
end
structure It where
 go:Nat->Hp->Prop
 yld:Nat->Hp->V->Hp->Prop
 stop:Nat->Hp->Prop
def mH(X:Cx)(pins:List (Addr×Obj))(H:Hp)(b:Addr):Prop:=
 H b=none/\b≠X.env.locals/\b∉X.fs/\(b∈X.ex\/X.s₀.heap.objs.size<=b)/\(∀x c,X.env.cells.lookup x=some c->c≠b)/\∀p∈X.pn++pins,p.1≠b
theorem Inv.fpOk{X:Cx}{pins:List (Addr×Obj)}{σ:St}{H H':Hp}{s:Shared}{b:Addr}(I:Inv X pins σ H s)(hb:s.heap.objs.size<=b)(hn:H' b=none):mH X pins H' b:=by
 refine⟨hn,Nat.ne_of_gt (Nat.lt_of_lt_of_le I.lt hb),I.nofs hb,.inr (Nat.le_trans I.sz hb),fun x c e z=> ?_,fun p hp z=> ?_⟩
 ·obtain⟨v,q⟩:=I.cell x c e
  exact absurd (Nat.lt_of_lt_of_le q.lt (by rw[z];exact hb)) (Nat.lt_irrefl _)
 ·exact absurd (Nat.lt_of_lt_of_le (Heap.lt_size (I.pin p hp).1) (by rw[z];exact hb)) (Nat.lt_irrefl _)
structure Turn(P:Program)(w:World)(K:PySem.W.Frag)(tg:Expr)(J:It)(fp:List Addr)(it:Addr)(tn:Nat->Heap->Prop):Prop where
 mem:it∈fp
 obj:∀i h,tn i h->∀b∈fp,∃o,h.get? b=some o/\∀v,o.data≠.cell v
 keep:∀i h h',tn i h->(∀b∈fp,∀o,h.get? b=some o->h'.get? b=some o)->tn i h'
 item:∀(X:Cx),X.prog=P->X.w=w->X.K=K->X.calm=true->∀(i:Nat) (pins:List (Addr×Obj)) (s:Shared) (σ:St) (H:Hp) (E:Value->Shared->Prop),Inv X pins σ H s->(∀b∈fp,mH X pins H b)->tn i s.heap->J.go i H→
  wpAny (model P w) X.A (pyNext (.ref it)) (fun r s1=>∃u,r=some u∧
   wpAny (model P w) X.A (letOwnedTupleGo tg (.ref it) u) (fun _ s2=>∃x H',Inv X pins σ H' s2/\RelV x u/\J.yld i H x H'/\tn (i+1) s2.heap/\∀b∈fp,H' b=none) E s1) E s
 done:∀(X:Cx),X.prog=P->X.w=w->X.K=K->X.calm=true->∀(i:Nat) (pins:List (Addr×Obj)) (s:Shared) (σ:St) (H:Hp) (E:Value->Shared->Prop),Inv X pins σ H s->(∀b∈fp,mH X pins H b)->tn i s.heap->J.stop i H→
  wpAny (model P w) X.A (pyNext (.ref it)) (fun r s1=>r=none/\Inv X pins σ H s1) E s
 self:∀(A:Around) (i:Nat) (s:Shared) (Q:Value->Shared->Prop) (E:Value->Shared->Prop),tn i s.heap->Q (.ref it) s->wpAny (model P w) A (pyIter (.ref it)) Q E s
abbrev TI:=St->Hp->(It->Hp->Prop)->Prop
def HN(X:Cx)(pins:List (Addr×Obj))(σ:St)(tg:Expr)(R:It->Hp->Prop)(itv:Value)(s2:Shared):Prop:=
 ∃(it:Addr) (fp:List Addr) (tn:Nat->Heap->Prop) (J:It) (H':Hp),itv=.ref it/\Inv X pins σ H' s2/\Turn X.prog X.w X.K tg J fp it tn/\tn 0 s2.heap/\(∀b∈fp,mH X pins H' b)/\R J H'
def PI(X:Cx)(tg iter:Expr)(wi:TI):Prop:=
 ∀ (pins:List (Addr×Obj)) (s:Shared) (σ:St) (H:Hp) (R:It->Hp->Prop),Inv X pins σ H s->wi σ H R→
   wpAny (model X.prog X.w) X.A (eval iter X.env) (fun v s1=>wpAny (model X.prog X.w) X.A (pyIter v) (HN X pins σ tg R) X.xe s1) X.xe s
theorem Aw{M:Model}{A:Around}{E:Value->Shared->Prop}{s:Shared}{tg:Expr}{it:Addr}{u:Value}{o:Obj}{n:String}{vs:Array Value}{Q:Unit->Shared->Prop}(ho:s.heap.get? it=some o)(hc:o.cls=.type n)(hd:o.data=.fields vs)
    (hn: ["enumerate","zip","dict_itemiterator","dict_reverseitemiterator","odict_iterator","itertools.zip_longest","itertools.pairwise"].contains n=false) (hQ:Q () s):wpAny M A (letOwnedTupleGo tg (.ref it) u) Q E s:=by
  unfold letOwnedTupleGo
  cases tg <;>first
    |exact wpAny_pure hQ
    |(cases u <;>first
        |exact wpAny_pure hQ
        |(refine wpAny_bind (wpAny_load ho ?_)
          rw[hc,hd]
          show wpAny M A (if (["enumerate","zip","dict_itemiterator","dict_reverseitemiterator","odict_iterator","itertools.zip_longest","itertools.pairwise"].contains n&&vs[0]? ==some (rawInt _))=true then _ else _) Q E s
          rw[if_neg (by intro h;rw[hn,Bool.false_and] at h;cases h)]
          exact wpAny_pure hQ))
def HU(K:PySem.W.Frag)(a:Addr):It:=
 ⟨fun i H=>∃xs x,hG K H a xs/\xs[i]?=some x,fun i H x H'=>H'=H/\∀xs,hG K H a xs->xs[i]?=some x,fun i H=>∃xs,hG K H a xs/\xs.length<=i⟩
def Ic(K:PySem.W.Frag)(a:Addr):It:=
 ⟨fun i H=>∃xs x,gL K H a xs/\xs[i]?=some x,fun i H x H'=>H'=H/\∀xs,gL K H a xs->xs[i]?=some x,fun i H=>∃xs,gL K H a xs/\xs.length<=i⟩
def GQ(lo:Int)(n:Nat):It:=⟨fun i _=>i<n,fun i H x H'=>H'=H/\x=.int (lo+i),fun i _=>n<=i⟩
theorem yZ{P:Program}{w:World}{K:PySem.W.Frag}{tg:Expr}(a it:Addr):Turn P w K tg (HU K a) [it] it (fun i h=>h.IsListIter it a i) where
 mem:=by simp
 obj:=fun i h st b hb=>by
  have e:b=it:=by simpa using hb
  subst e
  obtain⟨o,e,c,d⟩:=st
  exact⟨o,e,fun v z=>by rw[d] at z;cases z⟩
 keep:=fun i h h' st k=>st.at fun o e=>k it (by simp) o e
 item:=by
  intro X hP hw hK hc i pins s σ H E I hf st hg
  subst hP hw hK
  obtain⟨xs,x,hq,hx⟩:=hg
  obtain⟨its,rv,p,hz⟩:=I.list hq
  obtain⟨u,hu,ru⟩:=rv.get hx
  obtain⟨f0,f1,f2,f3,f4,f5⟩:=hf it (by simp)
  refine wpAny_pyNext_list_item st p.isList (x:=u) (by simpa using hu) fun h' st' sb=> ?_
  have I1:Inv X pins σ H {s with heap:=h'}:=I.turned (t':=s.toks) (fun b o hb e=>(sb.2 b hb).trans e) f0 f1 f3 f4 f5
  obtain⟨o,e,c,d⟩:=id st'
  exact⟨u,rfl,Aw (s:={s with heap:=h'}) e c d (by decide) ⟨x,H,I1,ru,⟨rfl,fun ys hy=>by rw[I.list_inj hy hq];exact hx⟩,st',fun b hb=>(hf b hb).1⟩⟩
 done:=by
  intro X hP hw hK hc i pins s σ H E I hf st hg
  subst hP hw hK
  obtain⟨xs,hq,hx⟩:=hg
  obtain⟨its,rv,p,hz⟩:=I.list hq
  obtain⟨f0,f1,f2,f3,f4,f5⟩:=hf it (by simp)
  have hl:=rv.length
  exact wpAny_pyNext_list_end (I.ok.hd hc) st p.isList (by simp;omega) fun h' eb=>⟨rfl,I.turned (t':=s.toks) (fun b o hb e=>eb b o hb e) f0 f1 f3 f4 f5⟩
 self:=fun _ _ _ _ _ st h=>wpAny_pyIter_listiter st h
theorem yb{P:Program}{w:World}{K:PySem.W.Frag}{tg:Expr}(a it:Addr):Turn P w K tg (Ic K a) [it] it (fun i h=>h.IsTupleIter it a i) where
 mem:=by simp
 obj:=fun i h st b hb=>by
  have e:b=it:=by simpa using hb
  subst e
  obtain⟨o,e,c,d⟩:=st
  exact⟨o,e,fun v z=>by rw[d] at z;cases z⟩
 keep:=fun i h h' st k=>st.at fun o e=>k it (by simp) o e
 item:=by
  intro X hP hw hK hc i pins s σ H E I hf st hg
  subst hP hw hK
  obtain⟨xs,x,hq,hx⟩:=hg
  obtain⟨its,rv,p,hz⟩:=I.tuple hq
  obtain⟨u,hu,ru⟩:=rv.get hx
  obtain⟨f0,f1,f2,f3,f4,f5⟩:=hf it (by simp)
  refine wpAny_pyNext_tuple_item st (show s.heap.IsTuple a its.toArray from p) (x:=u) (by simpa using hu) fun h' st' sb=> ?_
  have I1:Inv X pins σ H {s with heap:=h'}:=I.turned (t':=s.toks) (fun b o hb e=>(sb.2 b hb).trans e) f0 f1 f3 f4 f5
  obtain⟨o,e,c,d⟩:=id st'
  exact⟨u,rfl,Aw (s:={s with heap:=h'}) e c d (by decide) ⟨x,H,I1,ru,⟨rfl,fun ys hy=>by rw[I.tuple_inj hy hq];exact hx⟩,st',fun b hb=>(hf b hb).1⟩⟩
 done:=by
  intro X hP hw hK hc i pins s σ H E I hf st hg
  subst hP hw hK
  obtain⟨xs,hq,hx⟩:=hg
  obtain⟨its,rv,p,hz⟩:=I.tuple hq
  obtain⟨f0,f1,f2,f3,f4,f5⟩:=hf it (by simp)
  have hl:=rv.length
  exact wpAny_pyNext_tuple_end (I.ok.hd hc) st (show s.heap.IsTuple a its.toArray from p) (by simp;omega) fun h' eb=>⟨rfl,I.turned (t':=s.toks) (fun b o hb e=>eb b o hb e) f0 f1 f3 f4 f5⟩
 self:=fun _ _ _ _ _ st h=>wpAny_pyIter_tupleiter st h
theorem xl{P:Program}{w:World}{K:PySem.W.Frag}{tg:Expr}(it:Addr)(lo:Int)(n:Nat):Turn P w K tg (GQ lo n) [it] it (fun i h=>IsRangeIter h it (lo+(i:Nat)*1) ((n:Int)-(i:Nat)) 1) where
 mem:=by simp
 obj:=fun i h st b hb=>by
  have e:b=it:=by simpa using hb
  subst e
  exact⟨_,st,fun v z=>by
   have z':Data.fields _=Data.cell v:=z
   cases z'⟩
 keep:=fun i h h' st k=>k it (by simp) _ st
 item:=by
  intro X hP hw hK hc i pins s σ H E I hf st hg
  subst hP hw hK
  obtain⟨f0,f1,f2,f3,f4,f5⟩:=hf it (by simp)
  have W:=Walks.range (prog:=X.prog) (w:=X.w) (I.ok.hd hc) it lo 1 n
  refine W.item i s _ _ hg st fun v h' tk hv st' kk=> ?_
  obtain⟨t,rfl⟩:=hv
  have I1:Inv X pins σ H {s with heap:=h',toks:=tk}:=I.turned (fun b o hb e=>kk b o (by simpa using hb) e) f0 f1 f3 f4 f5
  refine⟨_,rfl,Aw (s:={s with heap:=h',toks:=tk}) (n:="range_iterator") st' rfl rfl (by decide) ⟨.int (lo+i),H,I1,⟨t,?_⟩,⟨rfl,rfl⟩,st',fun b hb=>(hf b hb).1⟩⟩
  rw[Int.mul_one]
 done:=by
  intro X hP hw hK hc i pins s σ H E I hf st hg
  subst hP hw hK
  obtain⟨f0,f1,f2,f3,f4,f5⟩:=hf it (by simp)
  exact wpAny_pyNext_range_end (I.ok.hd hc) st (by have:n<=i:=hg;omega) fun h' eb=>⟨rfl,I.turned (t':=s.toks) (fun b o hb e=>eb b o hb e) f0 f1 f3 f4 f5⟩
 self:=fun _ _ _ _ _ st h=>wpAny_pyIter_rangeiter st h
section
variable{X:Cx}{tg:Expr}
theorem Ao{pins:List (Addr×Obj)}{σ:St}{H:Hp}{s:Shared}{R:It->Hp->Prop}{E:Value->Shared->Prop}{lo hi:Int}{t u v:Tok}{tk:Nat}(I:Inv X pins σ H s)(h1: -(2^62)<=lo)(h2:lo<2^62)(h3: -(2^62)<=hi)(h4:hi<2^62)
  (q:R (GQ lo (hi-lo).toNat) H):wpAny (model X.prog X.w) X.A (pyIter (.ref s.heap.objs.size)) (HN X pins σ tg R) E {s with heap:=s.heap.push {cls:=.type "range",data:=.fields #[.int lo t,.int hi u,.int 1 v]},toks:=tk}:=by
 refine wpAny_pyIter_range (IsRange.new ..) (small_one h1 h2 h3 h4) ?_
 have I1:Inv X pins σ H {s with heap:=s.heap.push {cls:=.type "range",data:=.fields #[.int lo t,.int hi u,.int 1 v]},toks:=tk}:=I.kept fun b o e=>Heap.get?_push_of_some _ e
 refine⟨(s.heap.push {cls:=.type "range",data:=.fields #[.int lo t,.int hi u,.int 1 v]}).objs.size,[(s.heap.push {cls:=.type "range",data:=.fields #[.int lo t,.int hi u,.int 1 v]}).objs.size],_,_,H,rfl,
  I1.kept (t':=tk) fun b o e=>Heap.get?_push_of_some _ e,xl _ lo (hi-lo).toNat,?_,fun b hb=> ?_,q⟩
 ·have e1:lo+((0:Nat):Int)*1=lo:=by simp
  have e2:(((hi-lo).toNat:Nat):Int)-((0:Nat):Int)=Builtin.Range.rangeSize lo hi 1:=by rw[rangeSize_one];split <;>omega
  show IsRangeIter _ _ (lo+((0:Nat):Int)*1) ((((hi-lo).toNat:Nat):Int)-((0:Nat):Int)) 1
  rw[e1,e2]
  exact Heap.get?_push_size _ rfl
 ·have e:b=(s.heap.push {cls:=.type "range",data:=.fields #[.int lo t,.int hi u,.int 1 v]}).objs.size:=by simpa using hb
  subst e
  exact I1.fpOk (Nat.le_refl _) (I1.hok.fresh (Nat.le_refl _))
def F3(ta:TA):TI:=fun σ H R=>ta σ H fun vs H1=>∃j:Int,vs= [.int j]/\ -(2^62)<=j/\j<2^62/\R (GQ 0 j.toNat) H1
theorem zx{a:Expr}{ta:TA}{p pos:Pos}(hg:Gl X "range")(hm:X.mg "range"=none)(ha:PA X [a] ta)(hs:starEach [a] X.env= [(false,eval a X.env)]:=by rfl):PI X tg (.Call (.Name "range" p) [a] [] pos) (F3 ta):=by
 intro pins s σ H R I h
 refine Call_ (kZ I hg hm boot_range (PyProof.Rows.callWith_type1 (cG (ha pos pins s σ H _ I h) fun us s1 ⟨vs,H1,I1,r1,q1⟩=> ?_) hs rfl))
 obtain⟨j,e,q1,q2,q⟩:=q1
 subst e
 cases r1 with
 | cons r rr=>
   cases rr
   obtain⟨t,rfl⟩:=r
   exact call_range_1 (Ao I1 (by omega) (by omega) q1 q2 (by simpa using q))
def HD(wi:TI)(g:TG)(tb:TS):TS:=fun D σ H=>wi σ H fun J H1=>∃W:Nat->Nat->St->Hp->Prop,(∃m,W 0 m σ H1)/\∀i m σ H,W i m σ H→
 (J.stop i H/\D.nx σ H)\/(J.go i H/\∃N:St->Hp->Prop,(∀σ' H',N σ' H'->∃m',m'<m/\W (i+1) m' σ' H')/\∀x H',J.yld i H x H'->g x σ H' fun σ2 H2=>tb {D with nx:=N,ct:=N,bk:=D.nx} σ2 H2)
def kJ(fp:List Addr)(h:Heap):List (Addr×Obj):=fp.filterMap fun b=>(h.get? b).map fun o=>(b,o)
theorem dh{fp:List Addr}{h:Heap}{b:Addr}{o:Obj}(hb:b∈fp)(e:h.get? b=some o):(b,o)∈kJ fp h:=List.mem_filterMap.mpr ⟨b,hb,by rw[e];rfl⟩
theorem zE{fp:List Addr}{h:Heap}{p:Addr×Obj}(hp:p∈kJ fp h):p.1∈fp/\h.get? p.1=some p.2:=by
 obtain⟨b,hb,e⟩:=List.mem_filterMap.mp hp
 cases q:h.get? b with
 |none=>rw[q] at e;cases e
 | some o=>
   rw[q] at e
   have e':(b,o)=p:=Option.some.inj e
   subst e'
   exact⟨hb,q⟩
theorem Inv.pinned{pins:List (Addr×Obj)}{σ:St}{H:Hp}{s:Shared}{fp:List Addr}(I:Inv X pins σ H s)(hf:∀b∈fp,mH X pins H b)(ho:∀b∈fp,∃o,s.heap.get? b=some o/\∀v,o.data≠.cell v):Inv X (pins++kJ fp s.heap) σ H s:=
 I.pins_of fun p hp=>(mQa.mp hp).elim (fun z=>I.pin p (List.mem_append_right _ z)) fun z=>by
  obtain⟨hb,e⟩:=zE z
  obtain⟨f0,f1,f2,_⟩:=hf p.1 hb
  obtain⟨o,e',d⟩:=ho p.1 hb
  rw[e] at e';cases e'
  exact⟨e,f0,f1,f2,d⟩
theorem Inv.unpinned{pins pl:List (Addr×Obj)}{σ:St}{H:Hp}{s:Shared}(I:Inv X (pins++pl) σ H s):Inv X pins σ H s:=I.pins_of fun p hp=>I.pin p (List.mem_append_right _ (List.mem_append_left _ hp))
theorem Ew{iter:Expr}{body:List Stmt}{wi:TI}{g:TG}{tb:TS}{pos:Pos}(hp:PassesOwn (model X.prog X.w) X.A X.env X.xe)(hc:X.calm=true)(hi:PI X tg iter wi)(hg:PG X tg g)(hb:pe X body tb)
  (hs:∀x,foldedSetIterable iter X.env x=pure x:=by intro _;rfl):PS X (.For tg iter body [] pos) (HD wi g tb):=by
 intro pins s σ H D I h
 refine wpAny_For (cG (hi pins s σ H _ I h) fun v s1 h1=>cG h1 fun itv s2 h2=> ?_) hs
 obtain⟨it,fp,tn,J,H2,e,I2,T,st2,f2,W,⟨m0,w0⟩,turn⟩:=h2
 subst e
 have stat:∀{H':Hp},(∀b∈fp,H' b=none)->∀b∈fp,mH X pins H' b:=fun hn b hb=>⟨hn b hb,(f2 b hb).2⟩
 refine codeAny_forLoop_any (fun n s'=>∃i σ' H',Inv X pins σ' H' s'/\tn i s'.heap/\(∀b∈fp,H' b=none)/\W i n σ' H') ?_ m0 ⟨0,σ,H2,I2,st2,fun b hb=>(f2 b hb).1,w0⟩
 rintro n s3 ⟨i,σ3,H3,I3,st3,fr3,w3⟩
 rcases turn i n σ3 H3 w3 with⟨stop,qn⟩|⟨go,N,hN,step⟩
 ·refine wpAny_passesOwn hp (cG (T.done X rfl rfl rfl hc i pins s3 σ3 H3 X.xe I3 (stat fr3) st3 stop) fun r s4 qr=> ?_)
  obtain⟨hr,I4⟩:=qr
  subst hr
  exact wpAny_execs_nil ⟨σ3,H3,I4,qn⟩
 ·refine wpAny_passesOwn hp (cG (T.item X rfl rfl rfl hc i pins s3 σ3 H3 X.xe I3 (stat fr3) st3 go) fun r s4 qr=> ?_)
  obtain⟨u,hr,h4⟩:=qr
  subst hr
  refine wpAny_passesOwn hp (cG h4 fun _ s5 qr=> ?_)
  obtain⟨x,H5,I5,r5,y5,st5,fr5⟩:=qr
  have I5':=I5.pinned (stat fr5) (T.obj _ _ st5)
  refine wpAny_passesOwn hp (cG (hg _ s5 σ3 H5 x u _ I5' r5 (step x H5 y5)) fun _ s6 qr=> ?_)
  obtain⟨σ6,H6,I6,q6⟩:=qr
  refine wpAny_passesOwn hp (cG (hb _ s6 σ6 H6 _ I6 q6) fun f s7 q7=> ?_)
  have again:∀{σ7:St} {H7:Hp},Inv X (pins++kJ fp s5.heap) σ7 H7 s7->N σ7 H7->∃m,m<n/\∃i σ' H',Inv X pins σ' H' s7/\tn i s7.heap/\(∀b∈fp,H' b=none)/\W i m σ' H':=fun{σ7 H7} I7 n7=>by
   obtain⟨m',hm,w7⟩:=hN σ7 H7 n7
   refine⟨m',hm,i+1,σ7,H7,I7.unpinned,T.keep _ _ _ st5 fun b hb o e=>(I7.pin (b,o) (List.mem_append_right _ (List.mem_append_right _ (dh hb e)))).1,fun b hb=> ?_,w7⟩
   obtain⟨o,e,d⟩:=T.obj _ _ st5 b hb
   exact(I7.pin (b,o) (List.mem_append_right _ (List.mem_append_right _ (dh hb e)))).2.1
  cases f with
  |next=>obtain⟨σ7,H7,I7,n7⟩:=q7;exact again I7 n7
  |cont=>obtain⟨σ7,H7,I7,n7⟩:=q7;exact again I7 n7
  |brk=>obtain⟨σ7,H7,I7,q7⟩:=q7;exact⟨σ7,H7,I7.unpinned,q7⟩
  |ret v=>obtain⟨x7,σ7,H7,I7,r7,q7⟩:=q7;exact⟨x7,σ7,H7,I7.unpinned,r7,q7⟩
end
abbrev R2:=V->V->Hp->VK->Prop
def jl(X:Cx)(f:Value->Value->Sem Value)(r:R2):Prop:=
 ∀ (pins:List (Addr×Obj)) (s:Shared) (σ:St) (H:Hp) (x y:V) (v u:Value) (Q:VK),Inv X pins σ H s->RelV x v->RelV y u->r x y H Q→
   wpAny (model X.prog X.w) X.A (f v u) (EP X pins σ Q) X.xe s
def G7(X:Cx)(f:Value->Sem Value)(r:V->Hp->VK->Prop):Prop:=
 ∀ (pins:List (Addr×Obj)) (s:Shared) (σ:St) (H:Hp) (x:V) (v:Value) (Q:VK),Inv X pins σ H s->RelV x v->r x H Q→
   wpAny (model X.prog X.w) X.A (f v) (EP X pins σ Q) X.xe s
def gC(X:Cx)(f:Value)(r:List V->Hp->VK->Prop):Prop:=
 ∀ (pins:List (Addr×Obj)) (s:Shared) (σ:St) (H:Hp) (xs:List V) (us:List Value) (Q:VK),Inv X pins σ H s->bx xs us->r xs H Q→
   wpAny (model X.prog X.w) X.A (call f us) (EP X pins σ Q) X.xe s
def HA(X:Cx)(r:V->Hp->(Bool->Hp->Prop)->Prop):Prop:=
 ∀ (pins:List (Addr×Obj)) (s:Shared) (σ:St) (H:Hp) (x:V) (v:Value) (Q:Bool->Hp->Prop),Inv X pins σ H s->RelV x v->r x H Q→
   wpAny (model X.prog X.w) X.A (truthy v) (TP X pins σ Q) X.xe s
def DR(r:R2)(ta tb:TE):TE:=fun σ H Q=>ta σ H fun x H1=>tb σ H1 fun y H2=>r x y H2 Q
def Io(r:V->Hp->VK->Prop)(ta:TE):TE:=fun σ H Q=>ta σ H fun x H1=>r x H1 Q
def rI(C:Int->Int->Prop)(g:Int->Int->V):R2:=fun x y H Q=>∃i j,x=.int i/\y=.int j/\C i j/\Q (g i j) H
def y2(g:Int->Int->V):R2:=fun x y H Q=>∃i j,x=.int i/\y=.int j/\Q (g i j) H
def rU(g:Int->V):V->Hp->VK->Prop:=fun x H Q=>∃i,x=.int i/\Q (g i) H
section
variable{X:Cx}{a b c:Expr}{ta tb tc:TE}{pos:Pos}
theorem E2(ha:PE X a ta)(hb:PE X b tb){pins:List (Addr×Obj)}{s:Shared}{σ:St}{H:Hp}{R:V->V->Hp->Prop}(I:Inv X pins σ H s)
  (h:ta σ H fun x H1=>tb σ H1 fun y H2=>R x y H2) {Q:Value->Shared->Prop} {f:Value->Value->Sem Value}
  (hf:∀v u s2 x y H2,Inv X pins σ H2 s2->RelV x v->RelV y u->R x y H2->wpAny (model X.prog X.w) X.A (f v u) Q X.xe s2):
  wpAny (model X.prog X.w) X.A (eval a X.env) (fun v s₁=>wpAny (model X.prog X.w) X.A (eval b X.env) (fun u s₂=>wpAny (model X.prog X.w) X.A (f v u) Q X.xe s₂) X.xe s₁) X.xe s:=by
 refine cG (ha pins s σ H _ I h) fun v s1 qr=> ?_
 obtain⟨x,H1,I1,r1,q1⟩:=qr
 refine cG (hb pins s1 σ H1 _ I1 q1) fun u s2 qr=> ?_
 obtain⟨y,H2,I2,r2,q2⟩:=qr
 exact hf v u s2 x y H2 I2 r1 r2 q2
theorem nW{op:Operator}{r:R2}(ho:jl X (binaryOp op) r)(ha:PE X a ta)(hb:PE X b tb):PE X (.BinOp a op b pos) (DR r ta tb):=by
 intro pins s σ H Q I h
 exact wpAny_BinOp (E2 ha hb I h fun v u s2 x y H2 I2 rx ry q=>ho pins s2 σ H2 x y v u Q I2 rx ry q)
theorem F6{op:UnaryOp}{r:V->Hp->VK->Prop}(ho:G7 X (unaryOp op) r)(ha:PE X a ta):PE X (.UnaryOp op a pos) (Io r ta):=by
 intro pins s σ H Q I h
 exact UnaryOp_ (cG (ha pins s σ H _ I h) fun v s1 ⟨x,H1,I1,r1,q1⟩=>ho pins s1 σ H1 x v Q I1 r1 q1)
theorem GZ{f:Value->Value->Sem Value}{C:Int->Int->Prop}{g:Int->Int->Int}
  (rule:∀(i j:Int) (t u:Tok) (s:Shared) (Q:Value->Shared->Prop) (E:Value->Shared->Prop),C i j->Q (.int (g i j) s.toks) {s with toks:=s.toks+1}->wpAny (model X.prog X.w) X.A (f (.int i t) (.int j u)) Q E s):
  jl X f (rI C fun i j=>.int (g i j)):=by
 intro pins s σ H x y v u Q I rx ry h
 obtain⟨i,j,rfl,rfl,hc,q⟩:=h
 obtain⟨t,rfl⟩:=rx
 obtain⟨t',rfl⟩:=ry
 exact rule i j t t' s _ _ hc ⟨.int (g i j),H,I.tok _,⟨_,rfl⟩,q⟩
theorem FF{f:Value->Value->Sem Value}{g:Int->Int->Int}
  (rule:∀(i j:Int) (t u:Tok) (s:Shared) (Q:Value->Shared->Prop) (E:Value->Shared->Prop),Q (.int (g i j) s.toks) {s with toks:=s.toks+1}->wpAny (model X.prog X.w) X.A (f (.int i t) (.int j u)) Q E s):
  jl X f (y2 fun i j=>.int (g i j)):=by
 intro pins s σ H x y v u Q I rx ry h
 obtain⟨i,j,rfl,rfl,q⟩:=h
 obtain⟨t,rfl⟩:=rx
 obtain⟨t',rfl⟩:=ry
 exact rule i j t t' s _ _ ⟨.int (g i j),H,I.tok _,⟨_,rfl⟩,q⟩
theorem Dr{f:Value->Value->Sem Value}{g:Int->Int->Bool}
  (rule:∀(i j:Int) (t u:Tok) (s:Shared) (Q:Value->Shared->Prop) (E:Value->Shared->Prop),Q (.bool (g i j)) s->wpAny (model X.prog X.w) X.A (f (.int i t) (.int j u)) Q E s):
  jl X f (y2 fun i j=>.bl (g i j)):=by
 intro pins s σ H x y v u Q I rx ry h
 obtain⟨i,j,rfl,rfl,q⟩:=h
 obtain⟨t,rfl⟩:=rx
 obtain⟨t',rfl⟩:=ry
 exact rule i j t t' s _ _ ⟨.bl (g i j),H,I,rfl,q⟩
def AS(i j:Int):Prop:=0<j/\j<1073741824
def Az(i j:Int):Prop:=0<=j/\j<=1000000/\i.natAbs<2^64
def CU(i j:Int):Prop:=(-(2^64)<i/\i<2^64)\/(-(2^64)<j/\j<2^64)
theorem CU.ok{i j:Int}(h:CU i j):IntMulOk i j:=by
 rcases h with⟨h1,h2⟩|⟨h1,h2⟩
 ·exact .of_left (intBits_le_64 h1 h2)
 ·exact .of_right (intBits_le_64 h1 h2)
theorem Ef:jl X (binaryOp .Add) (y2 fun i j=>.int (i+j)):=FF fun _ _ _ _ _ _ _ q=>add_int q
theorem ER:jl X (binaryOp .Sub) (y2 fun i j=>.int (i-j)):=FF fun _ _ _ _ _ _ _ q=>sub_int q
theorem Cv:jl X (binaryOp .FloorDiv) (rI AS fun i j=>.int (i/j)):=GZ fun i j _ _ _ _ _ hc q=>by
 have h1:(0:Int)<j:=hc.1
 have h2:j<1073741824:=hc.2
 exact floordiv_int (by omega) (by rw[Int.fdiv_eq_ediv_of_nonneg i (by omega)];exact q) (.inl (PyProof.noPylong_small (by omega)))
theorem D_:jl X (binaryOp .Mod) (rI (fun _ j=>0<j) fun i j=>.int (i%j)):=GZ fun i j _ _ _ _ _ hc q=>by
 have h1:(0:Int)<j:=hc
 exact mod_int' (by omega) (by rw[Int.fmod_eq_emod_of_nonneg i (by omega)];exact q)
theorem Em:jl X (binaryOp .Pow) (rI Az fun i j=>.int (i^j.toNat)):=GZ fun _ _ _ _ _ _ _ hc q=>pow_int_small hc.1 hc.2.1 hc.2.2 q
theorem Im{f:Value->Sem Value}{g:Int->Int}
  (rule:∀(i:Int) (t:Tok) (s:Shared) (Q:Value->Shared->Prop) (E:Value->Shared->Prop),Q (.int (g i) s.toks) {s with toks:=s.toks+1}->wpAny (model X.prog X.w) X.A (f (.int i t)) Q E s):
  G7 X f (rU fun i=>.int (g i)):=by
 intro pins s σ H x v Q I rx h
 obtain⟨i,rfl,q⟩:=h
 obtain⟨t,rfl⟩:=rx
 exact rule i t s _ _ ⟨.int (g i),H,I.tok _,⟨_,rfl⟩,q⟩
theorem EO:G7 X (unaryOp .USub) (rU fun i=>.int (-i)):=Im fun _ _ _ _ _ q=>neg_int q
end
def xo:V->V->Bool
 |.non,.non=>true|.non,.int _=>true|.int _,.non=>true|.non,.bl _=>true|.bl _,.non=>true|.non,.str _=>true|.str _,.non=>true
 |.int _,.int _=>true|.bl _,.bl _=>true|.str _,.str _=>true|.byt _,.byt _=>true
 |.int _,.str _=>true|.str _,.int _=>true|.bl _,.str _=>true|.str _,.bl _=>true
 |_,_=>false
def Ia:R2:=fun x y H Q=>xo x y=true/\Q (.bl (decide (x=y))) H
def Ii:R2:=fun x y H Q=>xo x y=true/\Q (.bl (!decide (x=y))) H
theorem yA{i j:Int}:decide (V.int i=V.int j)=(i==j):=by
 rw[Bool.eq_iff_iff]
 simp
theorem BD{i j:Bool}:decide (V.bl i=V.bl j)=(i==j):=by
 rw[Bool.eq_iff_iff]
 simp
theorem yt{i j:Str}:decide (V.str i=V.str j)=(i==j):=by
 rw[Bool.eq_iff_iff]
 simp
theorem yN{i j:Array UInt8}:decide (V.byt i=V.byt j)=(i.toList==j.toList):=by
 rw[Bool.eq_iff_iff]
 cases i
 cases j
 simp
section
variable{X:Cx}{a b c:Expr}{ta tb tc:TE}{pos:Pos}
theorem bM{pins:List (Addr×Obj)}{σ:St}{H:Hp}{s:Shared}{Q:VK}{k k':Bool}(I:Inv X pins σ H s)(q:Q (.bl k) H)(e:k=k'):EP X pins σ Q (.bool k') s:=by
 subst e
 exact⟨.bl k,H,I,rfl,q⟩
theorem bQ:jl X (compareOp .Eq) Ia:=by
 intro pins s σ H x y v u Q I rx ry h
 obtain⟨hs,q⟩:=h
 cases x with
 | non=>
   cases rx
   cases y with
   |non=>cases ry;exact PySem.EqNone.eq_none_none (bM I q (by simp))
   |bl j=>cases ry;exact PySem.EqNone.eq_none_bool (bM I q (by simp))
   |int j=>obtain⟨t',rfl⟩:=ry;exact PySem.EqNone.eq_none_int (bM I q (by simp))
   |str j=>obtain⟨t',rfl⟩:=ry;exact PySem.EqNone.eq_none_str (bM I q (by simp))
   |_=>exact absurd (show false=true from hs) Bool.false_ne_true
 | bl i=>
   cases rx
   cases y with
   |non=>cases ry;exact PySem.EqNone.eq_bool_none (bM I q (by simp))
   |bl j=>cases ry;exact eq_bool (bM I q BD)
   |str j=>obtain⟨t',rfl⟩:=ry;exact PySem.EqMixed.eq_bool_str (bM I q (by simp))
   |_=>exact absurd (show false=true from hs) Bool.false_ne_true
 | int i=>
   obtain⟨t,rfl⟩:=rx
   cases y with
   |non=>cases ry;exact PySem.EqNone.eq_int_none (bM I q (by simp))
   |int j=>obtain⟨t',rfl⟩:=ry;exact eq_int (bM I q yA)
   |str j=>obtain⟨t',rfl⟩:=ry;exact PySem.EqMixed.eq_int_str (bM I q (by simp))
   |_=>exact absurd (show false=true from hs) Bool.false_ne_true
 | str i=>
   obtain⟨t,rfl⟩:=rx
   cases y with
   |non=>cases ry;exact PySem.EqNone.eq_str_none (bM I q (by simp))
   |bl j=>cases ry;exact PySem.EqMixed.eq_str_bool (bM I q (by simp))
   |int j=>obtain⟨t',rfl⟩:=ry;exact PySem.EqMixed.eq_str_int (bM I q (by simp))
   |str j=>obtain⟨t',rfl⟩:=ry;exact eq_str (bM I q yt)
   |_=>exact absurd (show false=true from hs) Bool.false_ne_true
 | byt i=>
   obtain⟨t,rfl⟩:=rx
   cases y with
   |byt j=>obtain⟨t',rfl⟩:=ry;exact PySem.W.eq_bytes (bM I q yN)
   |_=>exact absurd (show false=true from hs) Bool.false_ne_true
 |_=>cases y <;>exact absurd (show false=true from hs) Bool.false_ne_true
theorem sr:jl X (compareOp .NotEq) Ii:=by
 intro pins s σ H x y v u Q I rx ry h
 obtain⟨hs,q⟩:=h
 cases x with
 | non=>
   cases rx
   cases y with
   |non=>cases ry;exact PySem.EqNone.ne_none_none (bM I q (by simp))
   |bl j=>cases ry;exact PySem.EqNone.ne_none_bool (bM I q (by simp))
   |int j=>obtain⟨t',rfl⟩:=ry;exact PySem.EqNone.ne_none_int (bM I q (by simp))
   |str j=>obtain⟨t',rfl⟩:=ry;exact PySem.EqNone.ne_none_str (bM I q (by simp))
   |_=>exact absurd (show false=true from hs) Bool.false_ne_true
 | bl i=>
   cases rx
   cases y with
   |non=>cases ry;exact PySem.EqNone.ne_bool_none (bM I q (by simp))
   |bl j=>cases ry;exact ne_bool (bM I q (congrArg not BD))
   |str j=>obtain⟨t',rfl⟩:=ry;exact PySem.EqMixed.ne_bool_str (bM I q (by simp))
   |_=>exact absurd (show false=true from hs) Bool.false_ne_true
 | int i=>
   obtain⟨t,rfl⟩:=rx
   cases y with
   |non=>cases ry;exact PySem.EqNone.ne_int_none (bM I q (by simp))
   |int j=>obtain⟨t',rfl⟩:=ry;exact ne_int (bM I q (congrArg not yA))
   |str j=>obtain⟨t',rfl⟩:=ry;exact PySem.EqMixed.ne_int_str (bM I q (by simp))
   |_=>exact absurd (show false=true from hs) Bool.false_ne_true
 | str i=>
   obtain⟨t,rfl⟩:=rx
   cases y with
   |non=>cases ry;exact PySem.EqNone.ne_str_none (bM I q (by simp))
   |bl j=>cases ry;exact PySem.EqMixed.ne_str_bool (bM I q (by simp))
   |int j=>obtain⟨t',rfl⟩:=ry;exact PySem.EqMixed.ne_str_int (bM I q (by simp))
   |str j=>obtain⟨t',rfl⟩:=ry;exact ne_str (bM I q (congrArg not yt))
   |_=>exact absurd (show false=true from hs) Bool.false_ne_true
 | byt i=>
   obtain⟨t,rfl⟩:=rx
   cases y with
   |byt j=>obtain⟨t',rfl⟩:=ry;exact PySem.W.ne_bytes (bM I q (congrArg not yN))
   |_=>exact absurd (show false=true from hs) Bool.false_ne_true
 |_=>cases y <;>exact absurd (show false=true from hs) Bool.false_ne_true
theorem mm:jl X (compareOp .Lt) (y2 fun i j=>.bl (decide (i<j))):=Dr fun _ _ _ _ _ _ _ q=>lt_int q
theorem FW:jl X (compareOp .LtE) (y2 fun i j=>.bl (decide (i<=j))):=Dr fun _ _ _ _ _ _ _ q=>le_int q
theorem yH:jl X (compareOp .Gt) (y2 fun i j=>.bl (decide (j<i))):=Dr fun _ _ _ _ _ _ _ q=>gt_int q
theorem GH:jl X (compareOp .GtE) (y2 fun i j=>.bl (decide (j<=i))):=Dr fun _ _ _ _ _ _ _ q=>ge_int q
theorem AL:jl X (compareOp .Is) (fun x y H Q=>y=.non/\Q (.bl (decide (x=.non))) H):=by
 intro pins s σ H x y v u Q I rx ry h
 obtain⟨rfl,q⟩:=h
 cases ry
 refine is_none_gen (bM I q ?_)
 cases x <;>first
  |(cases rx;rfl)
  |(obtain⟨t,rfl⟩:=rx;rfl)
theorem Cm:jl X (compareOp .IsNot) (fun x y H Q=>y=.non/\Q (.bl (!decide (x=.non))) H):=by
 intro pins s σ H x y v u Q I rx ry h
 obtain⟨rfl,q⟩:=h
 cases ry
 refine isnot_none_gen (bM I q ?_)
 cases x <;>first
  |(cases rx;rfl)
  |(obtain⟨t,rfl⟩:=rx;rfl)
theorem jl.or{f:Value->Value->Sem Value}{r r':R2}(h:jl X f r)(h':jl X f r'):jl X f (fun x y H Q=>r x y H Q\/r' x y H Q):=by
 intro pins s σ H x y v u Q I rx ry q
 rcases q with q|q
 ·exact h pins s σ H x y v u Q I rx ry q
 ·exact h' pins s σ H x y v u Q I rx ry q
theorem aI(b:Expr){op:CmpOp}(h:op≠.In:=by decide)(h2:op≠.NotIn:=by decide):behindInMarks op b=false:=by
 have e1:(op==CmpOp.In)=false:=by cases op <;>first|rfl|exact absurd rfl h
 have e2:(op==CmpOp.NotIn)=false:=by cases op <;>first|rfl|exact absurd rfl h2
 cases b <;>simp[behindInMarks,e1,e2]
theorem CO{op:CmpOp}{r:R2}(ho:jl X (compareOp op) r)(ha:PE X a ta)(hb:PE X b tb)(hm:behindInMarks op b=false):PE X (.Compare a [op] [b] pos) (DR r ta tb):=by
 intro pins s σ H Q I h
 exact wpAny_Compare1 (E2 ha hb I h fun v u s2 x y H2 I2 rx ry q=>ho pins s2 σ H2 x y v u Q I2 rx ry q) hm
def AO(t:TE):TT:=fun σ H Q=>t σ H fun x H'=>∃k,x=.bl k/\Q k H'
theorem oS{op:CmpOp}{r:R2}(ho:jl X (compareOp op) r)(ha:PE X a ta)(hb:PE X b tb)(hm:behindInMarks op b=false):PT X (.Compare a [op] [b] pos) (AO (DR r ta tb)):=by
 intro pins s σ H Q I h
 refine wpAny_isTrue_Compare1 (cG (ha pins s σ H _ I h) fun v s1 ⟨x,H1,I1,r1,q1⟩=>cG (hb pins s1 σ H1 _ I1 q1) fun u s2 ⟨y,H2,I2,r2,q2⟩=>
  cG (ho pins s2 σ H2 x y v u _ I2 r1 r2 q2) fun c s3 ⟨z,H3,I3,r3,k,e,q3⟩=> ?_) hm
 subst e
 cases r3
 exact wpAny_truthy_bool ⟨H3,I3,q3⟩
def Fj(K:PySem.W.Frag)(x:V)(H:Hp)(k:Bool):Prop:=
 match x with
 |.non=>k=false
 |.bl b=>k=b
 |.int i=>k=(i !=0)
 |.str y=>y.length<=sizeLine/\k=((y.length:Int) !=0)
 |.byt y=>y.size<=sizeLine/\k=((y.size:Int) !=0)
 |.ref p=>(∃xs,hG K H p xs/\k= !xs.isEmpty)\/(∃xs,gL K H p xs/\k= !xs.isEmpty)\/∃kvs,H p=some (.dK kvs)/\k= !kvs.isEmpty
 |_=>False
theorem xq{κ:Type}{kvs:List (κ×V)}{vs:List (κ×Value)}(r:KV kvs vs):(!vs.isEmpty)= !kvs.isEmpty:=by
 cases r <;>rfl
theorem qU{xs:List V}{its:List Value}(r:bx xs its):(!its.toArray.isEmpty)= !xs.isEmpty:=by
 cases r <;>simp
theorem jv:(sizeLine:Nat)<2^63:=by rw[sizeLine_eq];decide
theorem Eu:HA X (fun x H Q=>∃k,Fj X.K x H k/\Q k H):=by
 intro pins s σ H x v Q I rx h
 obtain⟨k,e,q⟩:=h
 have hl:=jv
 have hs:sizeLine=16777216:=sizeLine_eq
 cases x with
 | non=>
   cases rx
   have e':k=false:=e
   subst e'
   exact truthy_none ⟨H,I,q⟩
 | bl b=>
   cases rx
   have e':k=b:=e
   subst e'
   exact wpAny_truthy_bool ⟨H,I,q⟩
 | int i=>
   obtain⟨t,rfl⟩:=rx
   have e':k=(i !=0):=e
   subst e'
   exact PySem.P.truthy_int ⟨H,I,q⟩
 | str y=>
   obtain⟨t,rfl⟩:=rx
   obtain⟨hy,e'⟩:y.length<=sizeLine/\k=((y.length:Int) !=0):=e
   subst e'
   exact PySem.P.truthy_str (by omega) ⟨H,I.tok _,q⟩
 | byt y=>
   obtain⟨t,rfl⟩:=rx
   obtain⟨hy,e'⟩:y.size<=sizeLine/\k=((y.size:Int) !=0):=e
   subst e'
   exact PySem.W.truthy_bytes (by omega) ⟨H,I.tok _,q⟩
 | ref p=>
   cases rx
   have e':(∃xs,hG X.K H p xs/\k= !xs.isEmpty)\/(∃xs,gL X.K H p xs/\k= !xs.isEmpty)\/∃kvs,H p=some (.dK kvs)/\k= !kvs.isEmpty:=e
   rcases e' with⟨xs,hx,e'⟩|⟨xs,hx,e'⟩|⟨kvs,hx,e'⟩
   · subst e'
     obtain⟨its,r,pl,hz⟩:=I.list hx
     have hlen:=r.length
     exact wpAny_truthy_list pl.isList (by simp only[List.size_toArray];omega) ⟨H,I.tok _,by rw[qU r];exact q⟩
   · subst e'
     obtain⟨its,r,pl,hz⟩:=I.tuple hx
     have hlen:=r.length
     exact truthy_tuple pl (by simp only[List.size_toArray];omega) ⟨H,I.tok _,by rw[qU r];exact q⟩
   · subst e'
     obtain⟨hz,hS,vs,r,m⟩:kvs.length<=sizeLine/\(p==sysModules)=false/\∃vs,KV kvs vs/\s.heap.DictOf (bK X.prog X.w) p vs:=I.hok p _ hx
     have hlen:kvs.length=vs.length:=Paired.length r
     exact wpAny_truthy_dict hS m (by omega) ⟨H,I.tok _,by rw[xq r];exact q⟩
 |_=>exact(show False from e).elim
theorem BW(ha:PE X a ta)(he:∀whole,isTrue a X.env whole=(do let v←whole;standAt a.pos;holding [v] (truthy v))):
  PT X a (fun σ H Q=>ta σ H fun x H'=>∃k,Fj X.K x H' k/\Q k H'):=by
 intro pins s σ H Q I h
 exact isTrue_plain (cG (ha pins s σ H _ I h) fun v s1 ⟨x,H1,I1,r1,q1⟩=>Eu pins s1 σ H1 x v Q I1 r1 q1) (he _)
theorem xp:jl X (binaryOp .Add) (fun x y H Q=>∃i j,x=.str i/\y=.str j/\i.length+j.length<=sizeLine/\Q (.str (i++j)) H):=by
 intro pins s σ H x y v u Q I rx ry h
 obtain⟨i,j,rfl,rfl,hz,q⟩:=h
 obtain⟨t,rfl⟩:=rx
 obtain⟨t',rfl⟩:=ry
 exact add_str (fun t' tk=>⟨.str (i++j),H,I.tok _,⟨_,rfl⟩,q⟩) hz
theorem vals1{x:V}{us:List Value}(r:bx [x] us):∃u,us= [u]/\RelV x u:=by
 cases r with
 |cons r1 r2=>cases r2;exact⟨_,rfl,r1⟩
theorem vals2{x y:V}{us:List Value}(r:bx [x,y] us):∃u w',us= [u,w']/\RelV x u/\RelV y w':=by
 cases r with
 | cons r1 r2=>
   cases r2 with
   |cons r3 r4=>cases r4;exact⟨_,_,rfl,r1,r3⟩
theorem BI:gC X (.builtin "abs") (fun xs H Q=>∃i,xs= [.int i]/\Q (.int (if i<0 then -i else i)) H):=by
 intro pins s σ H xs us Q I r h
 obtain⟨i,rfl,q⟩:=h
 obtain⟨u,rfl,t,rfl⟩:=vals1 r
 exact call_abs_int fun u tk=>⟨.int (if i<0 then -i else i),H,I.tok _,⟨_,rfl⟩,q⟩
theorem r_(hc:X.calm=true):gC X (.builtin "max") (fun xs H Q=>∃i j,xs= [.int i,.int j]/\Q (.int (if j>i then j else i)) H):=by
 intro pins s σ H xs us Q I r h
 obtain⟨i,j,rfl,q⟩:=h
 obtain⟨u,w',rfl,⟨t,rfl⟩,⟨t',rfl⟩⟩:=vals2 r
 refine max_two_ints (I.ok.hd hc) fun h' tk k=>⟨_,H,I.kept k,?_,q⟩
 by_cases hj:j>i
 ·rw[if_pos hj,if_pos hj];exact⟨_,rfl⟩
 ·rw[if_neg hj,if_neg hj];exact⟨_,rfl⟩
theorem mM(hc:X.calm=true):gC X (.builtin "min") (fun xs H Q=>∃i j,xs= [.int i,.int j]/\Q (.int (if j<i then j else i)) H):=by
 intro pins s σ H xs us Q I r h
 obtain⟨i,j,rfl,q⟩:=h
 obtain⟨u,w',rfl,⟨t,rfl⟩,⟨t',rfl⟩⟩:=vals2 r
 refine min_two_ints (I.ok.hd hc) fun h' tk k=>⟨_,H,I.kept k,?_,q⟩
 by_cases hj:j<i
 ·rw[if_pos hj,if_pos hj];exact⟨_,rfl⟩
 ·rw[if_neg hj,if_neg hj];exact⟨_,rfl⟩
theorem f_:gC X (.type "int") (fun xs H Q=>(∃i,xs= [.int i]/\Q (.int i) H)\/∃k,xs= [.bl k]/\Q (.int (if k then 1 else 0)) H):=by
 intro pins s σ H xs us Q I r h
 rcases h with⟨i,rfl,q⟩|⟨k,rfl,q⟩
 ·obtain⟨u,rfl,t,rfl⟩:=vals1 r
  exact call_int_int ⟨.int i,H,I,⟨_,rfl⟩,q⟩
 ·obtain⟨u,rfl,r1⟩:=vals1 r
  cases r1
  exact call_int_bool ⟨.int (if k then 1 else 0),H,I.tok _,⟨_,rfl⟩,q⟩
end
structure EK(h:Heap)(x dx C:Addr)(mA:Str->Option Value):Prop where
 obj:h.get? x=some (PySem.W.instObj C dx)
 ns:h.Ns1 dx mA
 ne:dx≠x
theorem y4{h:Heap}{dx:Addr}{mA:Str->Option Value}(n:h.Ns1 dx mA):∃od,h.get? dx=some od/\∀name,PySem.W.lookIn name od=some (mA name):=by
 obtain⟨o,es,ep,ho,hd,hk,_,hm⟩:=n
 refine⟨o,ho,fun name=> ?_⟩
 have e:=hm name
 unfold nsFind findBy at e
 rw[←Array.find?_toList] at e
 unfold PySem.W.lookIn
 rw[hd]
 dsimp only
 split
 ·rename_i y q
  rw[q] at e
  exact congrArg some e
 ·rename_i q
  rw[q] at e
  have a:es.toList.any (·.refKey)=false:=by
   rw[List.any_eq_false]
   intro y hy
   obtain⟨z,t,hkey⟩:=hk y (Array.mem_toList_iff.mp hy)
   simp[DictEntry.refKey,hkey]
  have a':¬es.toList.any (·.refKey)=true:=by rw[a];exact Bool.false_ne_true
  rw[if_neg a']
  exact congrArg some e
theorem EK.look{h:Heap}{x dx C:Addr}{mA:Str->Option Value}(I:EK h x dx C mA):∃od,PySem.W.InstAt h x (PySem.W.instObj C dx) C (some od)/\∀name,PySem.W.lookIn name od=some (mA name):=
 let ⟨od,ho,hl⟩:=y4 I.ns
 ⟨od,⟨I.obj,rfl,rfl,ho⟩,hl⟩
theorem qC.some_of{v:V}{o:Option Value}(r:qC (some v) o):∃u,o=some u/\RelV v u:=by
 cases o with
 |none=>exact(show False from r).elim
 |some u=>exact⟨u,rfl,r⟩
section
variable{P:Program}{w:World}{H H':Hp}{h h':Heap}{a C dx:Addr}{fs fs':List (Str×V)}
theorem Dj(hok:lq P w H h)(e:H a=some (.ins C dx fs)):∃mA,EK h a dx C mA/\(∀f,qC (fs.lookup f) (mA f))/\PySem.Within mA (fs.map (·.1))/\fs.length<=1000/\H dx=some (.own a):=by
 obtain⟨d,z,ne,ob,mA,n,r,q⟩:=(show cK P w H h a (.ins C dx fs) from hok a _ e)
 exact⟨mA,⟨ob,n,ne⟩,r,q,z,d⟩
end
structure Ha(K:PySem.W.Frag)(C:Addr):Prop where
 pg:PySem.W.plainGet K C Str.empty=true
 hd:PySem.W.hasDictIn K C=true
 po:PySem.W.plainOver K C=true
 sa:PySem.W.findIn K (.ref C) "__setattr__"=some (some (.builtin "object.__setattr__"))
theorem Ha.get{K:PySem.W.Frag}{C:Addr}(c:Ha K C)(f:Str):PySem.W.plainGet K C f=true:=c.pg
section
variable{X:Cx}{pins:List (Addr×Obj)}{σ:St}{H:Hp}{s:Shared}{A:Around}{E:Value->Shared->Prop}{Q:Value->Shared->Prop}{c:Value}{b:Bool}
inductive mI(K:PySem.W.Frag)(H:Hp):V->Value->Prop where
 |non:mI K H .non (.type "NoneType")
 |bl (x:Bool):mI K H (.bl x) (.type "bool")
 |int (i:Int):mI K H (.int i) (.type "int")
 |str (x:Str):mI K H (.str x) (.type "str")
 |flt (x:UInt64):mI K H (.flt x) (.type "float")
 |lst {a:Addr} {xs:List V} (e:H a=some (.lst xs)):mI K H (.ref a) (.type "list")
 |frz {a:Addr} {o:Obj} {xs:List V} (e:H a=some (.frz o (.lst xs))):mI K H (.ref a) (.type "list")
 |tup {a:Addr} {xs:List V} (e:H a=some (.tup xs)):mI K H (.ref a) (.type "tuple")
 |dK {a:Addr} {kvs:List (Key×V)} (e:H a=some (.dK kvs)):mI K H (.ref a) (.type "dict")
 |dT {a:Addr} {kvs:List (List Key×V)} (e:H a=some (.dT kvs)):mI K H (.ref a) (.type "dict")
 |ins {a C dx:Addr} {fs:List (Str×V)} (e:H a=some (.ins C dx fs)) (cl:Ha K C) (ha:PySem.W.findIn K (.ref C) "__class__"=some (some (.builtin "object.__class__")))
   (hn:PySem.W.specialIn K (.builtin "object.__class__") "__get__"=some (some (.builtin "getset_descriptor.__get__"))) (htk:PySem.W.takesIn K (.builtin "object.__class__")=some true)
   (hm:PySem.W.mroIn K C (.type "object")=some true):mI K H (.ref a) (.ref C)
theorem zm{x:V}{u t:Value}(I:Inv X pins σ H s)(rx:RelV x u)(ty:mI X.K H x t)(e:PySem.W.kitOne X.K t c=some b)(h:∀tk,Q (.bool b) {s with toks:=tk}):
  wpAny (model X.prog X.w) A (call (.builtin "isinstance") [u,c]) Q E s:=by
 cases ty with
 |non=>cases (show u=Value.none from rx);exact PySem.W.kia_one PySem.W.kitx_none I.kIn True.intro e (fun z=>nomatch z) h
 |bl y=>cases (show u=Value.bool y from rx);exact PySem.W.kia_one PySem.W.kitx_bool I.kIn True.intro e (fun z=>nomatch z) h
 |int i=>obtain⟨t,q⟩:=(show∃t,u=Value.int i t from rx);cases q;exact PySem.W.kia_one PySem.W.kitx_int I.kIn True.intro e (fun z=>nomatch z) h
 |str y=>obtain⟨t,q⟩:=(show∃t,u=Value.str y t from rx);cases q;exact PySem.W.kia_one PySem.W.kitx_str I.kIn True.intro e (fun z=>nomatch z) h
 |flt y=>obtain⟨t,q⟩:=(show∃t,u=Value.float y t from rx);cases q;exact PySem.W.kia_one PySem.W.kitx_float I.kIn True.intro e (fun z=>nomatch z) h
 | @lst a xs ea=>
   cases (show u=Value.ref a from rx)
   obtain⟨_,_,n,_,h1⟩:=(show cK X.prog X.w H s.heap a (.lst xs) from I.hok a _ ea)
   exact PySem.W.kia_one PySem.W.kitx_list I.kIn ⟨_,h1,rfl⟩ e (fun z=>nomatch z) h
 | @frz a ob xs ea=>
   cases (show u=Value.ref a from rx)
   obtain⟨_,_,_,n,_,h1⟩:=(show cK X.prog X.w H s.heap a (.frz ob (.lst xs)) from I.hok a _ ea)
   exact PySem.W.kia_one PySem.W.kitx_list I.kIn ⟨_,h1,rfl⟩ e (fun z=>nomatch z) h
 | @tup a xs ea=>
   cases (show u=Value.ref a from rx)
   obtain⟨_,_,_,p⟩:=(show cK X.prog X.w H s.heap a (.tup xs) from I.hok a _ ea)
   obtain⟨o,h1,h2,_⟩:=p
   exact PySem.W.kia_one PySem.W.kitx_tuple I.kIn ⟨o,h1,h2⟩ e (fun z=>nomatch z) h
 | @dK a kvs ea=>
   cases (show u=Value.ref a from rx)
   obtain⟨_,_,vs,_,p⟩:=(show cK X.prog X.w H s.heap a (.dK kvs) from I.hok a _ ea)
   obtain⟨o,es,ep,h1,h2,_⟩:=p
   exact PySem.W.kia_one PySem.W.kitx_dict I.kIn ⟨o,h1,h2.1⟩ e (fun z=>nomatch z) h
 | @dT a kvs ea=>
   cases (show u=Value.ref a from rx)
   obtain⟨_,_,xs,_,o,es,ep,h1,h2,_⟩:=(show cK X.prog X.w H s.heap a (.dT kvs) from I.hok a _ ea)
   exact PySem.W.kia_one PySem.W.kitx_dict I.kIn ⟨o,h1,h2.1⟩ e (fun z=>nomatch z) h
 | @ins a C dx fs ea cl ha hn htk hm=>
   cases (show u=Value.ref a from rx)
   obtain⟨mA,O,_⟩:=Dj I.hok ea
   obtain⟨od,J,_⟩:=O.look
   exact PySem.W.kia_one (PySem.W.kitx_own (cl.get _) cl.hd ha hn htk hm) I.kIn J e (fun z=>nomatch z) h
end
structure eW(k:Nat)(A:Around):Prop where
 hd:A.handled=none
 dp:A.depth+3*k+5<recursionLimit
 un:A.units+16*k+200<cLine
theorem eW.mono{j k:Nat}{A:Around}(r:eW k A)(h:j<=k):eW j A:=⟨r.hd,by have:=r.dp;omega,by have:=r.un;omega⟩
theorem eW.deeper{k:Nat}{A:Around}(r:eW (k+1) A)(env:Env):eW k (A.deeper env):=
 ⟨r.hd,by have:=r.dp;show A.depth+1+3*k+5<_;omega,by have:=r.un;show A.units+3+16*k+200<_;omega⟩
theorem eW.depth{k:Nat}{A:Around}(r:eW k A):A.depth<recursionLimit:=by have:=r.dp;omega
theorem eW.units{k:Nat}{A:Around}(r:eW k A):A.units+64<cLine:=by have:=r.un;omega
theorem eW.units0{k:Nat}{A:Around}(r:eW k A):A.units<cLine:=by have:=r.un;omega
def Fi:TA:=fun _ H Q=>Q [] H
def AG(ta:TE)(tr:TA):TA:=fun σ H Q=>ta σ H fun x H1=>tr σ H1 fun xs H2=>Q (x::xs) H2
section
variable{X:Cx}{e:Expr}{es:List Expr}{te:TE}{t:TA}{pos:Pos}
theorem eL:PA X [] Fi:=fun _ _ _ _ H Q I h=>Calls.spliced_nil ⟨[],H,I,.nil,h⟩
theorem cW(ha:PE X e te)(hr:PA X es t)(hs:starEach (e::es) X.env=(false,eval e X.env)::starEach es X.env:=by rfl):PA X (e::es) (AG te t):=by
 intro pos pins s σ H Q I h
 rw[hs]
 show wpAny _ _ (spliced ((false,eval e X.env)::backTo pos (starEach es X.env))) _ _ s
 refine Calls.spliced_cons (cG (ha pins s σ H _ I h) fun u s1 qr=> ?_)
 obtain⟨x,H1,I1,r1,q1⟩:=qr
 exact cG (hr pos pins s1 σ H1 _ I1 q1) fun us s2 ⟨xs,H2,I2,r2,q2⟩=>⟨x::xs,H2,I2,.cons r1 r2,q2⟩
def Hv(t:TA):TE:=fun σ H Q=>t σ H fun xs H1=>xs.length<=sizeLine/\∀p,H1 p=none->Q (.ref p) (upd H1 p (.tup xs))
def HM(t:TA):TE:=fun σ H Q=>t σ H fun xs H1=>xs.length<=sizeLine/\∀p,H1 p=none->Q (.ref p) (upd H1 p (.lst xs))
theorem ED{x1}(h:PA X es t):PE X (.Tuple es x1 pos) (Hv t):=by
 intro pins s σ H Q I hq
 refine wpAny_Tuple_spliced (cG (h pos pins s σ H _ I hq) fun us s1 ⟨xs,H1,I1,r,z,q⟩=>⟨by rw[←r.length];exact z,?_⟩)
 have hf:H1 s1.heap.objs.size=none:=I1.hok.fresh (Nat.le_refl _)
 refine⟨.ref s1.heap.objs.size,upd H1 s1.heap.objs.size (.tup xs),I1.laid (t':=s1.toks) (fun b u e=>Heap.get?_push_of_some _ e) (Nat.le_refl _) ?_,rfl,q _ hf⟩
 exact⟨z,us,r,⟨_,Heap.get?_push_size _ rfl,rfl,rfl,_,rfl⟩⟩
theorem DW(h:PA X es t):PE X (.List es pos) (HM t):=by
 intro pins s σ H Q I hq
 refine wpAny_List_spliced (cG (h pos pins s σ H _ I hq) fun us s1 ⟨xs,H1,I1,r,z,q⟩=>⟨by rw[←r.length];exact z,?_⟩)
 have hf:H1 s1.heap.objs.size=none:=I1.hok.fresh (Nat.le_refl _)
 refine⟨.ref s1.heap.objs.size,upd H1 s1.heap.objs.size (.lst xs),I1.laid (t':=s1.toks) (fun b u e=>Heap.get?_push_of_some _ e) (Nat.le_refl _) ?_,rfl,q _ hf⟩
 exact⟨z,us,0,r,Heap.get?_push_size _ rfl⟩
end
abbrev Sp:=List V->Hp->VK->XK->Prop
abbrev z4:=List Env->Hp->Shared->XK->Value->Shared->Prop
structure Dg(P:Program)(w:World)(K:PySem.W.Frag)(mg:Str->Option Value)(base:Heap)(A:Around)(outer:List Env)(s:Shared)(H:Hp):Prop where
 frames:A.frames=some outer
 mod:Mod K mg base
 bs:∀b o,base.get? b=some o->s.heap.get? b=some o/\H b=none
 bsz:base.objs.size<=s.heap.objs.size
 funs:s.heap.FunFrames base outer
 frf:∀b∈A4 outer,H b=none
 hok:lq P w H s.heap
 bare:AllBare s.gens
def CE(outer:List Env)(P:Program)(w:World)(H:Hp)(s:Shared)(Q:VK)(u:Value)(s':Shared):Prop:=
 ∃v H',s'.os=s.os/\AllBare s'.gens/\Un (A4 outer) [] H H' s.heap s'.heap/\lq P w H' s'.heap/\RelV v u/\Q v H'
def CR(CX:z4)(outer:List Env)(P:Program)(w:World)(H:Hp)(s:Shared)(Q:VK)(E:XK)(r:Result)(s':Shared):Prop:=
 match r with
 |.ok (.ret u)=>CE outer P w H s Q u s'
 |.ok _=>False
 |.error e=>CX outer H s E e s'
structure bo(P:Program)(w:World)(K:PySem.W.Frag)(mg:Str->Option Value)(base:Heap)(CX:z4)(k:Nat)(f:Addr)(fd:FuncData)(ps:List Str)(sp:Sp):Prop where
 len:∀vs H Q E,sp vs H Q E->vs.length=ps.length
 run:∀(A:Around) (outer:List Env) (s:Shared) (H:Hp) (args:Args) (us:List Value) (vs:List V) (Q:VK) (E:XK),eW k A->Dg P w K mg base A outer s H->BindsTo s fd args (ps.zip us)->bx vs us->sp vs H Q E→
  codeAny (model P w) A (.call (.ref f) args) (CR CX outer P w H s Q E) s
theorem bo.mono{P:Program}{w:World}{K:PySem.W.Frag}{mg:Str->Option Value}{base:Heap}{CX:z4}{j k:Nat}{f:Addr}{fd:FuncData}{ps:List Str}{sp:Sp}(F:bo P w K mg base CX j f fd ps sp)(h:j<=k):
  bo P w K mg base CX k f fd ps sp:=⟨F.len,fun A outer s H args us vs Q E hr=>F.run A outer s H args us vs Q E (hr.mono h)⟩
theorem bo.imp{P:Program}{w:World}{K:PySem.W.Frag}{mg:Str->Option Value}{base:Heap}{CX:z4}{k:Nat}{f:Addr}{fd:FuncData}{ps:List Str}{sp sp':Sp}(F:bo P w K mg base CX k f fd ps sp)
  (h:∀vs H Q E,sp' vs H Q E->sp vs H Q E):bo P w K mg base CX k f fd ps sp':=
 ⟨fun vs H Q E q=>F.len vs H Q E (h _ _ _ _ q),fun A outer s H args us vs Q E hr he hb hv hs=>F.run A outer s H args us vs Q E hr he hb hv (h _ _ _ _ hs)⟩
section
variable{X:Cx}{pins:List (Addr×Obj)}{σ:St}{H:Hp}{s s':Shared}
theorem Inv.env0(I:Inv X pins σ H s):Dg X.prog X.w X.K X.mg X.base X.A X.stack s H:=
 ⟨I.ok.frames,I.ok.mod,I.bs,Nat.le_trans I.ok.bsz I.sz,I.stack,I.stkFree,I.hok,I.bare⟩
theorem Inv.after{Q:VK}{u:Value}(I:Inv X pins σ H s)(h:CE X.stack X.prog X.w H s Q u s'):EP X pins σ Q u s':=by
 obtain⟨v,H',os,bare,un,hok,r,q⟩:=h
 obtain⟨hh,g,d,t,os'⟩:=s'
 obtain rfl:os'=s.os:=os
 exact⟨v,H',I.call (h':=hh) (g':=g) (d':=d) (t':=t) (ch:= []) un hok bare (fun b z=>absurd z (by simp)),r,q⟩
end
def Br(sp:Sp)(dvs:List V)(E:XK)(t:TA):TE:=fun σ H Q=>t σ H fun vs H1=>sp (vs++dvs) H1 Q E
def Binds(K:PySem.W.Frag)(fd:FuncData)(ps:List Str)(ds:List Value):Prop:=
 ∀(s:Shared) (us:List Value),K.In s.heap->(us++ds).length=ps.length->BindsTo s fd ⟨us,[]⟩ (ps.zip (us++ds))
theorem Binds.all{K:PySem.W.Frag}{fd:FuncData}{ps:List Str}(h:∀us:List Value,us.length=ps.length->bindArgs fd ⟨us,[]⟩=pure (ps.zip us)):Binds K fd ps []:=fun s us _ hl=>by
 rw[List.append_nil] at hl⊢
 exact .of_eq (h us hl)
def xk(CX:z4)(X:Cx)(E:XK):Prop:=∀(pins:List (Addr×Obj)) (σ:St) (H:Hp) (s:Shared) (e:Value) (s':Shared),Inv X pins σ H s->CX X.stack H s E e s'->X.xe e s'
section
variable{X:Cx}{CX:z4}{k:Nat}{f C:Addr}{fd:FuncData}{ps:List Str}{sp:Sp}{dvs:List V}{ds:List Value}{E:XK}{x m:Str}{p pos apos:Pos}{e o:Expr}{es:List Expr}{ta:TE}{t:TA}
theorem Ba{pins:List (Addr×Obj)}{σ:St}{H:Hp}{s:Shared}{Q:VK}{us:List Value}{vs:List V}(F:bo X.prog X.w X.K X.mg X.base CX k f fd ps sp)(hr:eW k X.A)(hb:Binds X.K fd ps ds)(hd:bx dvs ds)(hx:xk CX X E)
  (I:Inv X pins σ H s) (r:bx vs us) (h:sp (vs++dvs) H Q E):wpAny (model X.prog X.w) X.A (call (.ref f) us) (EP X pins σ Q) X.xe s:=by
 have r2:bx (vs++dvs) (us++ds):=r.append hd
 have hl:(us++ds).length=ps.length:=by rw[←r2.length];exact F.len _ _ _ _ h
 refine wpAny_call (codeAny_mono (F.run X.A X.stack s H ⟨us,[]⟩ (us++ds) (vs++dvs) Q E hr I.env0 (hb s us I.kIn hl) r2 h) fun r s' hq=> ?_)
 cases r with
 |error e=>exact hx pins σ H s e s' I hq
 | ok fl=>
   cases fl with
   |ret u=>exact I.after hq
   |next=>exact False.elim hq
   |brk=>exact False.elim hq
   |cont=>exact False.elim hq
theorem yO(F:bo X.prog X.w X.K X.mg X.base CX k f fd ps sp)(hr:eW k X.A)(hg:Gl X x)(hm:X.mg x=some (.ref f))(hk:PySem.W.keepIn X.K (.ref f)=true)(hb:Binds X.K fd ps ds)(hd:bx dvs ds)(hx:xk CX X E)
  (ha:PA X (e::es) t) (hdb:(x==("__debug__":Str))=false:=by decide) (he:starEach (e::es) X.env=(false,eval e X.env)::starEach es X.env:=by rfl) (hpl:(backTo pos (starEach es X.env)).any (·.1)=false:=by rfl):
  PE X (.Call (.Name x p) (e::es) [] pos) (Br sp dvs E t):=by
 intro pins s σ H Q I h
 refine wpAny_Call_Name_kw (uT I hg hm ?_ hdb)
 refine PySem.W.callWith_K (h₀:=X.base) I.ok.mod.kin hk (cG (ha pos pins s σ H _ I h) fun us s1 ⟨vs,H1,I1,r,q⟩=>⟨I1.kIn,?_⟩) he hpl
 exact Ba F hr hb hd hx I1 r q
end
structure aB(N P:List Str)(sc:Scope):Prop where
 kind:sc.kind=.function
 co:sc.isCoroutine=false
 gen:sc.isGenerator=false
 nd:N.Nodup
 pre:N.take P.length=P
 par:∀x∈P,sc.names.lookup x=some .local\/sc.names.lookup x=some .cell
 nofree:∀y∈sc.names,y.2≠.free
theorem sL{kindOf:Str->Option NameKind}{x:Str}:∀{binds:List (Str×Value)} {m:Str->Option Value},(∀v,(x,v)∉binds)->bindL kindOf binds m x=m x
 | [],_,_=>rfl
 | (n,v)::r,m,h=>by
   unfold bindL
   rw[sL fun w hw=>h w (List.mem_cons_of_mem _ hw)]
   split
   · have:x≠n:=by rintro rfl;exact h v List.mem_cons_self
     simp[this]
   · rfl
theorem sT{kindOf:Str->Option NameKind}{x:Str}:∀{binds:List (Str×Value)} {m:Str->Option Value},(∀v,(x,v)∉binds)->bindC kindOf binds m x=m x
 | [],_,_=>rfl
 | (n,v)::r,m,h=>by
   unfold bindC
   rw[sT fun w hw=>h w (List.mem_cons_of_mem _ hw)]
   split
   · rfl
   · have:x≠n:=by rintro rfl;exact h v List.mem_cons_self
     simp[this]
theorem sF{kindOf:Str->Option NameKind}{x:Str}{v:Value}:∀{P:List Str} {vs:List Value} {i:Nat} {m:Str->Option Value},P.Nodup->P[i]?=some x->vs[i]?=some v->kindOf x=some .local→
  bindL kindOf (P.zip vs) m x=some v
 | [],_,_,_,_,h,_,_=>by simp at h
 |_::_,[],_,_,_,_,h,_=>by simp at h
 | p::P,w::vs,0,m,nd,h1,h2,hk=>by
   simp at h1 h2;subst h1;subst h2
   show bindL kindOf ((p,w)::P.zip vs) m p=_
   unfold bindL
   rw[sL fun v hv=>(List.nodup_cons.mp nd).1 (List.of_mem_zip hv).1,if_pos hk]
   simp
 | p::P,w::vs,i+1,m,nd,h1,h2,hk=>by
   show bindL kindOf ((p,w)::P.zip vs) m x=_
   unfold bindL
   exact sF (i:=i) (List.nodup_cons.mp nd).2 (by simpa using h1) (by simpa using h2) hk
theorem tf{kindOf:Str->Option NameKind}{x:Str}{v:Value}:∀{P:List Str} {vs:List Value} {i:Nat} {m:Str->Option Value},P.Nodup->P[i]?=some x->vs[i]?=some v->kindOf x≠some .local→
  bindC kindOf (P.zip vs) m x=some v
 | [],_,_,_,_,h,_,_=>by simp at h
 |_::_,[],_,_,_,_,h,_=>by simp at h
 | p::P,w::vs,0,m,nd,h1,h2,hk=>by
   simp at h1 h2;subst h1;subst h2
   show bindC kindOf ((p,w)::P.zip vs) m p=_
   unfold bindC
   rw[sT fun v hv=>(List.nodup_cons.mp nd).1 (List.of_mem_zip hv).1,if_neg hk]
   simp
 | p::P,w::vs,i+1,m,nd,h1,h2,hk=>by
   show bindC kindOf ((p,w)::P.zip vs) m x=_
   unfold bindC
   exact tf (i:=i) (List.nodup_cons.mp nd).2 (by simpa using h1) (by simpa using h2) hk
def start(N:List Str)(vs:List V):St:=vs.map some++List.replicate (N.length-vs.length) none
def xC(CX:z4)(P:Program)(w:World)(K:PySem.W.Frag)(mg:Str->Option Value)(base:Heap)(N:List Str)(qual:Str)(scope:Scope)(f:Addr)(cd:Value)(A:Around)(outer:List Env)(s:Shared)(H:Hp)(E:XK):Cx where
 prog:=P
 w:=w
 K:=K
 mg:=mg
 base:=base
 A:=A.deeper (envOfC qual scope s.heap.objs.size f cd)
 N:=N
 s₀:=s
 H₀:=H
 env:=envOfC qual scope s.heap.objs.size f cd
 outer:=outer
 stack:=envOfC qual scope s.heap.objs.size f cd::outer
 ex:= []
 calm:=true
 fn:=fun _=>true
 pn:= []
 xe:=fun e s'=>wpAny (model P w) (A.deeper (envOfC qual scope s.heap.objs.size f cd)) (leaving (envOfC qual scope s.heap.objs.size f cd) e) (fun _ s''=>CX outer H s E e s'') (fun e' s''=>CX outer H s E e' s'') s'
theorem vK{sc:Scope}{n:Nat}{x:Str}(h:sc.names.lookup x=some .cell):∃c,(cellsFrom n sc.names []).lookup x=some c:=by
 have q:=PySem.W.cellsFrom_some sc.names n [] (.inl h)
 exact Option.isSome_iff_exists.mp q
theorem zd{CX:z4}{P:Program}{w:World}{K:PySem.W.Frag}{mg:Str->Option Value}{base:Heap}{N ps:List Str}{qual:Str}{scope:Scope}{f:Addr}{cd:Value}{A:Around}{outer:List Env}{s s1:Shared}{H:Hp}{E:XK}{us:List Value}{vs:List V}
  (S:aB N ps scope) (hd:A.handled=none) (e0:Dg P w K mg base A outer s H) (hl:vs.length=ps.length) (r:bx vs us)
  (x:InCallC s s.heap.objs.size (bindL (envOfC qual scope s.heap.objs.size f cd).kindOf (ps.zip us) fun _=>none) (cellsFrom (s.heap.objs.size+1) scope.names []) (bindC (envOfC qual scope s.heap.objs.size f cd).kindOf (ps.zip us) fun _=>none) s1):
  Inv (xC CX P w K mg base N qual scope f cd A outer s H E) [] (start N vs) H s1:=by
 have hpl:ps.length<=N.length:=by have:=congrArg List.length S.pre;rw[List.length_take] at this;omega
 obtain⟨h1,tk,rfl,hk⟩:=x.done
 have noA:∀b:Addr,b∉(xC CX P w K mg base N qual scope f cd A outer s H E).ex:=fun b z=>absurd (show b∈([]:List Addr) from z) (by simp)
 refine⟨⟨e0.mod,S.kind,rfl,rfl,Nat.le_refl _,fun y z c h1 h2=> ?_,fun y hy=> ?_,fun y c _ h=> ?_,fun _=>hd,Around.frames_deeper e0.frames,.inr ⟨rfl,rfl⟩,fun b z=>absurd z (noA b),e0.bs,e0.bsz,fun b _ _=>noA b,fun b z=>absurd z (noA b),e0.funs,e0.frf⟩,
  rfl,e0.bare,Un.kept hk,⟨_,x.toInCall.ns,fun i y v h1 h2 h3=> ?_⟩,fun y c h=>⟨_,x.cell y c h⟩,e0.hok.fresh (Nat.le_refl _),fun y c h=> ?_,fun p hp=>absurd (show p∈([]:List (Addr×Obj)) from hp) (by simp),e0.hok.kept hk,?_⟩
 ·exact name_of_addr x.apart (PySem.mem_of_lookup h1) (PySem.mem_of_lookup h2)
 ·have hy:scope.names.lookup y=some .cell\/scope.names.lookup y=some .free:=hy
  rcases hy with hy|hy
  ·exact vK hy
  ·exact absurd rfl (S.nofree _ (PySem.mem_of_lookup hy))
 ·exact nQl (x.above y c (PySem.mem_of_lookup h))
 ·have hi:i<vs.length:=by
   unfold start at h2
   by_cases hi:i<vs.length
   ·exact hi
   ·rw[List.getElem?_append_right (by simpa using hi)] at h2
    rw[List.getElem?_replicate] at h2
    split at h2 <;>cases h2
  have ha:vs[i]?=some v:=by
   unfold start at h2
   rw[List.getElem?_append_left (by simpa using hi),gQm] at h2
   cases e:vs[i]? with
   |none=>rw[e] at h2;cases h2
   |some a=>rw[e] at h2;cases h2;rfl
  obtain⟨u,hu,rv⟩:=r.get ha
  have hp:ps[i]?=some y:=by
   rw[←S.pre,List.getElem?_take_of_lt (by omega)];exact h1
  have ndP:ps.Nodup:=by rw[←S.pre];exact S.nd.sublist (List.take_sublist _ _)
  refine⟨u,rv,?_⟩
  rcases S.par y (mQg hp) with k|k
  ·exact .inl ⟨k,sF ndP hp hu k⟩
  ·obtain⟨c,e⟩:=vK (n:=s.heap.objs.size+1) k
   refine .inr ⟨.inl k,c,e,?_⟩
   have q:=x.cell y c e
   rw[tf ndP hp hu (by show scope.names.lookup y≠_;rw[k];decide)] at q
   exact q
 ·exact e0.hok.fresh (nQl (x.above y c (PySem.mem_of_lookup h)))
 ·unfold start
  show _=N.length
  rw[lQa,lQm,List.length_replicate]
  omega
theorem Gk{CX:z4}{P:Program}{w:World}{K:PySem.W.Frag}{mg:Str->Option Value}{base:Heap}{k:Nat}{f:Addr}{name qual:Str}{params:Arguments}{body:List Stmt}{scope:Scope}{dV kV doc pm cdv ct oc:Value}{an od:Option Addr}
  {osl:Array (Option Value)} {N ps:List Str} {sp:Sp} (lk:K.lookup f=some ⟨oc,od,.func (PySem.W.fnOf name qual params body scope dV kV doc pm an cdv ct),osl⟩) (hcd:PySem.W.codeIn K cdv qual=true) (S:aB N ps scope)
  (len:∀vs H Q E,sp vs H Q E->vs.length=ps.length)
  (hbody:∀(A:Around) (outer:List Env) (s:Shared) (H:Hp) (vs:List V) (Q:VK) (E:XK),eW k (A.deeper (envOfC qual scope s.heap.objs.size f cdv))->sp vs H Q E→
   ∃t,pe (xC CX P w K mg base N qual scope f cdv A outer s H E) body t/\t {nx:=fun _ H'=>Q .non H',rt:=Q} (start N vs) H):
  bo P w K mg base CX (k+1) f (PySem.W.fnOf name qual params body scope dV kV doc pm an cdv ct) ps sp:=by
 refine⟨len,fun A outer s H args us vs Q E hr e0 hb r hsp=> ?_⟩
 have hl:=len _ _ _ _ hsp
 have KX:K.In s.heap:=e0.mod.kin.keeps fun b o e=>(e0.bs b o e).1
 have lim:s.heap.NoLimit:=e0.mod.nolimit.keeps fun b o e=>(e0.bs b o e).1
 have hkind:∀y∈ps.zip us,scope.names.lookup y.1=some .local\/(scope.names.lookup y.1=some .cell/\((cellsFrom (s.heap.objs.size+1) scope.names []).lookup y.1).isSome=true):=fun⟨n,v⟩ hy=>by
  rcases S.par n (List.of_mem_zip hy).1 with q|q
  ·exact .inl q
  ·exact .inr ⟨q,PySem.W.cellsFrom_some _ _ _ (.inl q)⟩
 refine codeAny_call_function hr.depth (KX _ _ lk) rfl S.co S.gen rfl (PySem.W.codeRec_of KX hcd) (hb _ _ _ _ ?_)
 refine wpAny_newFunctionEnv_cells S.kind hkind fun env he s1 x=> ?_
 subst he
 refine⟨lim.keeps x.toInCall.keep,codeAny_func ?_⟩
 obtain⟨t,ht,hq⟩:=hbody A outer s H vs Q E (hr.deeper _) hsp
 have I:Inv (xC CX P w K mg base N qual scope f cdv A outer s H E) [] (start N vs) H s1:=zd S hr.hd e0 hl r x
 refine wpAny_mono (ht [] s1 (start N vs) H _ I hq) (fun fl s' hs=> ?_) fun e s' hs=>hs
 have fin:∀{σ':St} {H':Hp} {v:V} {u:Value},Inv (xC CX P w K mg base N qual scope f cdv A outer s H E) [] σ' H' s'->RelV v u->Q v H'->CE outer P w H s Q u s':=
  fun{σ' H' v u} J rv q=>⟨v,H',J.os,J.bare,J.base,J.hok,rv,q⟩
 cases fl with
 | ret u=>
   obtain⟨v,σ',H',J,rv,q⟩:=hs
   exact fin J rv q
 | next=>
   obtain⟨σ',H',J,q⟩:=hs
   exact fin (v:=V.non) (u:=Value.none) J rfl q
 | brk=>
   obtain⟨_,_,_,q⟩:=hs
   exact False.elim q
 | cont=>
   obtain⟨_,_,_,q⟩:=hs
   exact False.elim q
section
variable{X:Cx}{x:Str}{p pos:Pos}{e:Expr}{es:List Expr}{t:TA}{id T:String}{r:List V->Hp->VK->Prop}
def GY(r:List V->Hp->VK->Prop)(t:TA):TE:=fun σ H Q=>t σ H fun vs H1=>r vs H1 Q
theorem dZ(hc:gC X (.builtin id) r)(hg:Gl X x)(hm:X.mg x=none)(hv:bootBuiltins x=some (.builtin id))(ha:PA X (e::es) t)(hn:x≠"__name__":=by decide)(hdb:(x==("__debug__":Str))=false:=by decide)
  (he:starEach (e::es) X.env=(false,eval e X.env)::starEach es X.env:=by rfl) (hpl:(backTo pos (starEach es X.env)).any (·.1)=false:=by rfl):PE X (.Call (.Name x p) (e::es) [] pos) (GY r t):=by
 intro pins s σ H Q I h
 refine wpAny_Call_Name_kw (kZ I hg hm hv ?_ hn hdb)
 exact PyProof.Rows.callWith_builtin1 (cG (ha pos pins s σ H _ I h) fun us s1 ⟨vs,H1,I1,r1,q1⟩=>hc pins s1 σ H1 vs us Q I1 r1 q1) he hpl
theorem dq(hc:gC X (.type T) r)(hg:Gl X x)(hm:X.mg x=none)(hv:bootBuiltins x=some (.type T))(ha:PA X (e::es) t)(hn:x≠"__name__":=by decide)(hdb:(x==("__debug__":Str))=false:=by decide)
  (he:starEach (e::es) X.env=(false,eval e X.env)::starEach es X.env:=by rfl) (hpl:(backTo pos (starEach es X.env)).any (·.1)=false:=by rfl):PE X (.Call (.Name x p) (e::es) [] pos) (GY r t):=by
 intro pins s σ H Q I h
 refine wpAny_Call_Name_kw (kZ I hg hm hv ?_ hn hdb)
 exact PyProof.Rows.callWith_type1 (cG (ha pos pins s σ H _ I h) fun us s1 ⟨vs,H1,I1,r1,q1⟩=>hc pins s1 σ H1 vs us Q I1 r1 q1) he hpl
end
section
variable{κ:Type}[DecidableEq κ]
def mW(kvs:List (κ×V))(k:κ):Option V:=(kvs.find? fun kv=>decide (kv.1=k)).map (·.2)
def putK(kvs:List (κ×V))(k:κ)(v:V):List (κ×V):=
 if (kvs.any fun kv=>decide (kv.1=k))=true then kvs.map (fun kv=>if kv.1=k then(kv.1,v) else kv) else kvs++ [(k,v)]
theorem qT{p:κ×V}{r:List (κ×V)}{k:κ}(e:p.1=k):mW (p::r) k=some p.2:=by simp[mW,List.find?_cons,e]
theorem pI{p:κ×V}{r:List (κ×V)}{k:κ}(e:¬p.1=k):mW (p::r) k=mW r k:=by simp[mW,List.find?_cons,e]
theorem vg(k:κ):∀kvs:List (κ×V),(kvs.any fun kv=>decide (kv.1=k))=(mW kvs k).isSome
 | []=>rfl
 | p::r=>by
   rw[List.any_cons]
   by_cases e:p.1=k
   · simp only[qT e,decide_eq_true e,Bool.true_or,Option.isSome_some]
   · rw[pI e,decide_eq_false e,Bool.false_or];exact vg k r
theorem g5(kvs:List (κ×V))(k:κ)(v:V):(putK kvs k v).length<=kvs.length+1:=by
 unfold putK
 split
 ·rw[lQm];omega
 ·rw[lQa,List.length_cons,List.length_nil];omega
theorem qC.isSome_eq{o:Option V}{u:Option Value}(r:qC o u):o.isSome=u.isSome:=by
 cases o with
 | none=>cases u with
   |none=>rfl
   |some _=>exact(show False from r).elim
 | some _=>cases u with
   |none=>exact(show False from r).elim
   |some _=>rfl
theorem KV.val{kvs:List (κ×V)}{vs:List (κ×Value)}(r:KV kvs vs)(k:κ):qC (mW kvs k) (valueAt vs k):=by
 unfold KV at r
 induction r with
 |nil=>exact True.intro
 | @cons p q ps qs h t ih=>
   obtain⟨h1,h2⟩:=h
   by_cases e:p.1=k
   · have e':q.1=k:=h1.symm.trans e
     have b:valueAt (q::qs) k=some q.2:=by simp[valueAt,List.find?_cons,e']
     rw[qT e,b];exact h2
   · have e':¬q.1=k:=fun z=>e (h1.trans z)
     have b:valueAt (q::qs) k=valueAt qs k:=by simp[valueAt,List.find?_cons,e']
     rw[pI e,b];exact ih
theorem KV.any{kvs:List (κ×V)}{vs:List (κ×Value)}(r:KV kvs vs)(k:κ):(kvs.any fun kv=>decide (kv.1=k))=vs.any fun kv=>decide (kv.1=k):=by
 unfold KV at r
 induction r with
 |nil=>rfl
 |cons h t ih=>rw[List.any_cons,List.any_cons,ih,h.1]
theorem KV.repl{kvs:List (κ×V)}{vs:List (κ×Value)}(r:KV kvs vs)(k:κ){y:V}{u:Value}(ry:RelV y u):
  KV (kvs.map fun kv=>if kv.1=k then(kv.1,y) else kv) (vs.map fun kv=>if kv.1=k then(kv.1,u) else kv):=by
 unfold KV at r⊢
 induction r with
 |nil=>exact .nil
 | @cons p q ps qs h t ih=>
   rw[List.map_cons,List.map_cons]
   refine .cons ?_ ih
   obtain⟨h1,h2⟩:=h
   by_cases e:p.1=k
   · rw[if_pos e,if_pos (h1.symm.trans e)];exact⟨h1,ry⟩
   · rw[if_neg e,if_neg (fun z=>e (h1.trans z))];exact⟨h1,h2⟩
theorem KV.put{kvs:List (κ×V)}{vs:List (κ×Value)}(r:KV kvs vs)(k:κ){y:V}{u:Value}(ry:RelV y u):KV (putK kvs k y) (stored vs k u):=by
 unfold putK stored
 rw[r.any k]
 by_cases e:(vs.any fun kv=>decide (kv.1=k))=true
 ·rw[if_pos e,if_pos e];exact r.repl k ry
 ·rw[if_neg e,if_neg e];exact Paired.snoc r ⟨rfl,ry⟩
theorem KV.length{kvs:List (κ×V)}{vs:List (κ×Value)}(r:KV kvs vs):kvs.length=vs.length:=Paired.length r
end
theorem wA{P:Program}{w:World}{k:Key}{u:Value}(r:RelV (kV k) u):(bK P w).is k u=true:=by
 cases k with
 |inl i=>obtain⟨t,e⟩:=(show∃t,u=Value.int i t from r);subst e;exact we P w i t
 |inr x=>obtain⟨t,e⟩:=(show∃t,u=Value.str x t from r);subst e;exact vG P w x t
theorem sE{P:Program}{w:World}:∀{ks:List Key} {us:List Value},bx (ks.map kV) us->ItemsAre (bK P w) ks us
 | [],_,r=>by rw[List.map_nil] at r;cases r;exact .nil
 | k::ks,_,r=>by
   rw[List.map_cons] at r
   cases r with
   |cons h t=>exact .cons (wA h) (sE t)
abbrev KT(H:Hp):List (List Key×V)->List (List Key×Addr×Value)->Prop:=Paired fun p q=>p.1=q.1/\H q.2.1=some (.tup (p.1.map kV))/\RelV p.2 q.2.2
theorem KT.val{H:Hp}{kvs:List (List Key×V)}{xs:List (List Key×Addr×Value)}(r:KT H kvs xs)(k:List Key):qC (mW kvs k) ((atKey xs k).map (·.2)):=by
 induction r with
 |nil=>exact True.intro
 | @cons p q ps qs h t ih=>
   obtain⟨h1,_,h2⟩:=h
   by_cases e:p.1=k
   · have e':q.1=k:=h1.symm.trans e
     have b:atKey (q::qs) k=some q.2:=by simp[atKey,List.find?_cons,e']
     rw[qT e,b];exact h2
   · have e':¬q.1=k:=fun z=>e (h1.trans z)
     have b:atKey (q::qs) k=atKey qs k:=by simp[atKey,List.find?_cons,e']
     rw[pI e,b];exact ih
theorem KT.repl{H:Hp}{kvs:List (List Key×V)}{xs:List (List Key×Addr×Value)}(r:KT H kvs xs)(k:List Key){y:V}{u:Value}(ry:RelV y u):
  KT H (kvs.map fun kv=>if kv.1=k then(kv.1,y) else kv) (xs.map (putAt k u)):=by
 induction r with
 |nil=>exact .nil
 | @cons p q ps qs h t ih=>
   rw[List.map_cons,List.map_cons]
   refine .cons ?_ ih
   obtain⟨h1,h2,h3⟩:=h
   unfold putAt
   by_cases e:p.1=k
   · rw[if_pos e,if_pos (h1.symm.trans e)];exact⟨h1,h2,ry⟩
   · rw[if_neg e,if_neg (fun z=>e (h1.trans z))];exact⟨h1,h2,h3⟩
theorem KT.put{H:Hp}{kvs:List (List Key×V)}{xs:List (List Key×Addr×Value)}(r:KT H kvs xs)(k:List Key){b:Addr}{y:V}{u:Value}(hb:H b=some (.tup (k.map kV)))(ry:RelV y u):
  KT H (putK kvs k y) (storedH xs k b u):=by
 have e:(kvs.any fun kv=>decide (kv.1=k))=(atKey xs k).isSome:=by
  rw[vg,(r.val k).isSome_eq,Option.isSome_map]
 unfold putK storedH
 rw[e]
 by_cases q:(atKey xs k).isSome=true
 ·rw[if_pos q,if_pos q];exact r.repl k ry
 ·rw[if_neg q,if_neg q];exact Paired.snoc r ⟨rfl,hb,ry⟩
theorem KT.keeps{H H':Hp}{kvs:List (List Key×V)}{xs:List (List Key×Addr×Value)}(r:KT H kvs xs)(ht:∀b ys,H b=some (.tup ys)->H' b=some (.tup ys)):KT H' kvs xs:=
 Paired.mapP r fun _ _ z=>⟨z.1,ht _ _ z.2.1,z.2.2⟩
section
variable{P:Program}{w:World}{H:Hp}{h:Heap}{a:Addr}
theorem DC{u:HO}(ok:lq P w H h)(e:Rd H a u):cK P w H h a u:=e.ok ok
theorem BV{kvs:List (Key×V)}(ok:lq P w H h)(e:Rd H a (.dK kvs)):kvs.length<=sizeLine/\(a==sysModules)=false/\∃vs,KV kvs vs/\h.DictOf (bK P w) a vs:=
 show cK P w H h a (.dK kvs) from DC ok e
theorem yf{kvs:List (Key×V)}(ok:lq P w H h)(e:H a=some (.dK kvs)):kvs.length<=sizeLine/\(a==sysModules)=false/\∃vs,KV kvs vs/\h.DictOf (bK P w) a vs:=BV ok (.inl e)
theorem w_{ks:List Key}(ok:lq P w H h)(e:H a=some (.tup (ks.map kV))):(tupleKind (bK P w)).is h ks a:=by
 obtain⟨_,its,r,o,h1,h2,_,n,h3⟩:=(show cK P w H h a (.tup (ks.map kV)) from ok a _ e)
 exact⟨o,its.toArray,n,h1,h2,h3,by simpa using sE r⟩
theorem BK{kvs:List (List Key×V)}(ok:lq P w H h)(e:Rd H a (.dT kvs)):kvs.length<=sizeLine/\(a==sysModules)=false∧
  ∃xs,KT H kvs xs/\h.DictOfH (tupleKind (bK P w)) a xs:=by
 obtain⟨z,y,xs,r,o,es,ep,h1,h2,h3,h4,h5⟩:=(show cK P w H h a (.dT kvs) from DC ok e)
 refine⟨z,y,xs,r,o,es,ep,h1,h2,h3,h4,fun x hx=> ?_,h5⟩
 have all:∀{l:List (List Key×V)} {m:List (List Key×Addr×Value)},KT H l m->∀x∈m,(tupleKind (bK P w)).is h x.1 x.2.1:=by
  intro l m q
  induction q with
  |nil=>intro x hx;exact nomatch hx
  | @cons p q ps qs hq t ih=>
    intro x hx
    rcases List.mem_cons.mp hx with e|hx
    · subst e
      exact w_ ok (by rw[←hq.1];exact hq.2.1)
    · exact ih x hx
 exact all r x hx
theorem Gs{kvs:List (List Key×V)}(ok:lq P w H h)(e:H a=some (.dT kvs)):kvs.length<=sizeLine/\(a==sysModules)=false∧
  ∃xs,KT H kvs xs/\h.DictOfH (tupleKind (bK P w)) a xs:=BK ok (.inl e)
end
def zR(H:Hp)(a:Addr)(y:V)(r:Option V):Prop:=
 (∃kvs k,Rd H a (.dK kvs)/\y=kV k/\r=mW kvs k)\/∃kvs k b,Rd H a (.dT kvs)/\y=.ref b/\H b=some (.tup (k.map kV))/\r=mW kvs k
def Ag(H:Hp)(a:Addr)(y v:V)(H':Hp):Prop:=
 (∃kvs k,H a=some (.dK kvs)/\y=kV k/\kvs.length<sizeLine/\H'=upd H a (.dK (putK kvs k v)))∨
 ∃kvs k b,H a=some (.dT kvs)/\y=.ref b/\H b=some (.tup (k.map kV))/\kvs.length<sizeLine/\H'=upd H a (.dT (putK kvs k v))
theorem zR.k{H:Hp}{a:Addr}{kvs:List (Key×V)}{k:Key}(e:H a=some (.dK kvs)):zR H a (kV k) (mW kvs k):=.inl ⟨kvs,k,.inl e,rfl,rfl⟩
theorem Ag.k{H:Hp}{a:Addr}{kvs:List (Key×V)}{k:Key}{v:V}(e:H a=some (.dK kvs))(hl:kvs.length<sizeLine):Ag H a (kV k) v (upd H a (.dK (putK kvs k v))):=.inl ⟨kvs,k,e,rfl,hl,rfl⟩
section
variable{X:Cx}{pins:List (Addr×Obj)}{σ:St}{H:Hp}{s:Shared}{a:Addr}{y v:V}{u r:Value}{o:Option V}{A:Around}{E:Value->Shared->Prop}
theorem Inv.big(I:Inv X pins σ H s):sysModules<s.heap.objs.size:=by
 have h:mainGlobals<s.heap.objs.size:=(I.mod.glob.keeps I.bk).lt
 exact Nat.lt_trans (by decide) h
theorem zT{Q:Value->Shared->Prop}(hu:A.units+1<cLine)(I:Inv X pins σ H s)(g:zR H a y (some v))(ry:RelV y u)(h:∀w' s',Inv X pins σ H s'->RelV v w'->Q w' s'):
  wpAny (model X.prog X.w) A (getItem (.ref a) u) Q E s:=by
 rcases g with⟨kvs,k,e,ey,l⟩|⟨kvs,k,b,e,ey,eb,l⟩
 ·subst ey
  obtain⟨z,hd,vs,rel,dd⟩:=BV I.hok e
  obtain⟨w',hw,rw'⟩:=qC.some_of (v:=v) (o:=valueAt vs k) (by rw[l];exact rel.val k)
  exact wpAny_getItem_of (wA ry) dd.mapOf hw (h w' _ (I.tok _) rw')
 ·subst ey
  cases (show u=Value.ref b from ry)
  obtain⟨z,hd,xs,rel,dd⟩:=BK I.hok e
  obtain⟨w',hw,rw'⟩:=qC.some_of (v:=v) (o:=(atKey xs k).map (·.2)) (by rw[l];exact rel.val k)
  obtain⟨p,hp,hp2⟩:=oQm.mp hw
  refine wpAny_getItem_heap (tupleKind_room_in1 hu) (w_ I.hok eb) dd hp ?_
  rw[hp2]
  exact h w' _ (I.tok _) rw'
theorem oW{h':Heap}{t':Nat}{ob:HO}(I:Inv X pins σ H s)(mu:Ge (H a))(hs:Heap.SameBut a s.heap h')(he:∃q,h'.get? a=some q)(new:cK X.prog X.w (upd H a ob) h' a ob):
  Inv X pins σ (upd H a ob) {s with heap:=h',toks:=t'}:=
 I.write (x:=a) (e:=a) mu (.inl rfl) (fun b q hb z=>(hs.2 b hb).trans z) he new
theorem pO{P:Program}{w:World}{H':Hp}{h':Heap}{kvs:List (Key×V)}{vs:List (Key×Value)}(z:kvs.length<=sizeLine)(hd:(a==sysModules)=false)(rel:KV kvs vs)(dd:h'.DictOf (bK P w) a vs):
  cK P w H' h' a (.dK kvs):=⟨z,hd,vs,rel,dd⟩
theorem zW{H':Hp}{Q:Unit->Shared->Prop}(hu:A.units+1<cLine)(I:Inv X pins σ H s)(g:Ag H a y v H')(ry:RelV y u)(rv:RelV v r)(h:∀s',Inv X pins σ H' s'->Q () s'):
  wpAny (model X.prog X.w) A (setItem (.ref a) u r) Q E s:=by
 rcases g with⟨kvs,k,e,ey,l,eH⟩|⟨kvs,k,b,e,ey,eb,l,eH⟩
 ·subst ey eH
  obtain⟨z,hd,vs,rel,dd⟩:=yf I.hok e
  have hz:vs.length<=sizeLine:=by rw[←rel.length];exact z
  have hl:(putK kvs k v).length<=sizeLine:=by have:=g5 kvs k v;omega
  refine wpAny_setItem_pairs (hsz:=hz) (wA ry) dd fun h' dd' hs=>h _ ?_
  have he:∃q,h'.get? a=some q:=let ⟨q,_,_,hq,_⟩:=dd';⟨q,hq⟩
  exact oW I (by rw[e];exact True.intro) hs he (pO hl hd (rel.put k rv) dd')
 ·subst ey eH
  cases (show u=Value.ref b from ry)
  obtain⟨z,hd,xs,rel,dd⟩:=Gs I.hok e
  have hz:xs.length<=sizeLine:=by rw[←Paired.length rel];exact z
  have hl:(putK kvs k v).length<=sizeLine:=by have:=g5 kvs k v;omega
  refine wpAny_setItem_heap (hsz:=hz) (tupleKind_room_in1 hu) (w_ I.hok eb) dd fun h' dd' hs=>h _ ?_
  obtain⟨q,es,ep,hq,h2,h3,h4,_,h5⟩:=dd'
  refine oW I (by rw[e];exact True.intro) hs ⟨q,hq⟩ ⟨hl,hd,_,(rel.put k eb rv).keeps fun c ys ec=> ?_,q,es,ep,hq,h2,h3,h4,h5⟩
  rw[bf (AM ec e (fun z=>nomatch z))]
  exact ec
end
def Df(i:Expr):Prop:=∀ov iv,subscripted i false ov iv=operate [ov,iv] (getItem ov iv)
theorem yK{prog:Program}{w:World}{A:Around}{E:Value->Shared->Prop}{s:Shared}{env:Env}{value slice:Expr}{pos:Pos}{T id:String}{Q:Value->Shared->Prop}
  (hl:typeLookup (.type T) "__getitem__"=pure (some (.builtin id))) (hs:Df slice)
  (h:wpAny (model prog w) A (eval value env) (fun o s₁=>wpAny (model prog w) A (eval slice env) (fun i s₂=>s₂.TypeIs o T/\wpAny (model prog w) A (getItem o i) Q E s₂) E s₁) E s):
  wpAny (model prog w) A (eval (.Subscript value slice pos) env) Q E s:=by
 refine Subscript_ (wpAny_mono h (fun o s₁ h₁=>wpAny_mono h₁ (fun i s₂ h₂=> ?_) fun _ _ x=>x) fun _ _ x=>x)
 obtain⟨hT,h₂⟩:=h₂
 unfold subscriptTail
 refine wpAny_bind ?_
 rw[getitemInPython_of_ne hT.not_modules]
 refine wpAny_bind (wpAny_specialOf hT hl ?_)
 have fin:wpAny (model prog w) A (subscripted slice false o i) (fun r s₃=>wpAny (model prog w) A (letTemporaryGo value o r >>= fun _=>pure r) Q E s₃) E s₂:=by
  rw[hs o i]
  exact wpAny_operating (wpAny_mono h₂ (fun r s₃ h₃=>wpAny_bind (wpAny_letTemporaryGo (wpAny_pure h₃))) fun _ _ x=>x)
 first
  |exact wpAny_pure (wpAny_bind fin)
  |exact wpAny_bind (wpAny_pure (wpAny_bind fin))
  |exact wpAny_bind fin
theorem wD{X:Cx}{pins:List (Addr×Obj)}{σ:St}{H:Hp}{s:Shared}{a:Addr}{y:V}{o:Option V}(I:Inv X pins σ H s)(g:zR H a y o):s.TypeIs (.ref a) "dict":=by
 rcases g with⟨kvs,k,e,_,_⟩|⟨kvs,k,b,e,_,_,_⟩
 ·obtain⟨_,_,vs,_,dd⟩:=BV I.hok e
  exact dd.typeIs
 ·obtain⟨_,_,xs,_,dd⟩:=BK I.hok e
  exact dd.typeIs
def GF(td ty:TE):TE:=fun σ H Q=>td σ H fun x H1=>ty σ H1 fun y H2=>∃a v,x=.ref a/\zR H2 a y (some v)/\Q v H2
def Gi(td ty tv:TE):TS:=fun D σ H=>tv σ H fun v H1=>td σ H1 fun x H2=>ty σ H2 fun y H3=>∃a H4,x=.ref a/\Ag H3 a y v H4/\D.nx σ H4
section
variable{X:Cx}{o i e value:Expr}{pos pos' tpos:Pos}{td ty tv:TE}
theorem Ct(hu:X.A.units+1<cLine)(ho:PE X o td)(hi:PE X i ty)(hs:Df i):PE X (.Subscript o i pos) (GF td ty):=by
 intro pins s σ H Q I h
 refine yK PySem.F.slot_dict_getitem.lookup hs (cG (ho pins s σ H _ I h) fun u s1 ⟨x,H1,I1,rx,q1⟩=>cG (hi pins s1 σ H1 _ I1 q1) fun iv s2 qr=> ?_)
 obtain⟨y,H2,I2,ry,a,v,ex,g,q2⟩:=qr
 subst ex
 obtain rfl:u=Value.ref a:=rx
 exact⟨wD I2 g,zT hu I2 g ry fun w' s3 I3 rw'=>⟨v,H2,I3,rw',q2⟩⟩
theorem CG(hu:X.A.units+1<cLine)(ho:PE X o td)(hi:PE X i ty)(hv:PE X value tv)(hs:swapsWith value (some (.Subscript o i pos')) pos.line X.env=pure false):
  PS X (.Assign [.Subscript o i pos'] value pos) (Gi td ty tv):=by
 intro pins s σ H D I h
 refine wpAny_Assign_Subscript (cG (hv pins s σ H _ I h) fun r s1 ⟨v,H1,I1,rv,q1⟩=>cG (ho pins s1 σ H1 _ I1 q1) fun u s2 ⟨x,H2,I2,rx,q2⟩=>cG (hi pins s2 σ H2 _ I2 q2) fun iv s3 ⟨y,H3,I3,ry,a,H4,ex,g,q3⟩=> ?_) hs
 subst ex
 obtain rfl:u=Value.ref a:=rx
 exact zW hu I3 g ry rv fun s4 I4=>⟨σ,H4,I4,q3⟩
end
theorem Au{P:Program}{w:World}{H:Hp}(h:Heap)(hb:sysModules<h.objs.size):cK P w H (h.push {cls:=.type "dict",data:=.dict #[]}) h.objs.size (.dK []):=
 ⟨Nat.zero_le _,beq_eq_false_iff_ne.mpr (Ne.symm (Nat.ne_of_lt hb)),[],.nil,Heap.DictOf.new h⟩
def Fv:TE:=fun _ H Q=>∀p,H p=none->Q (.ref p) (upd H p (.dK []))
section
variable{X:Cx}{pos:Pos}
theorem AI:PE X (.Dict [] [] pos) Fv:=fun pins s σ H Q I h=>
 wpAny_Dict_empty ⟨.ref s.heap.objs.size,_,I.laid (a:=s.heap.objs.size) (o:=.dK []) (t':=s.toks) (fun _ _ q=>Heap.get?_push_of_some _ q) (Nat.le_refl _) (Au s.heap I.big),rfl,h _ (I.hok.fresh (Nat.le_refl _))⟩
end
def iK(kvs more:List (Key×V)):List (Key×V):=more.foldl (fun acc kv=>putK acc kv.1 kv.2) kvs
theorem KV.merge:∀{more:List (Key×V)} {rs:List (Key×Value)} {kvs:List (Key×V)} {vs:List (Key×Value)},KV more rs->KV kvs vs->KV (iK kvs more) (merged vs rs):=by
 intro more rs kvs vs r
 unfold KV at r
 induction r generalizing kvs vs with
 |nil=>intro q;exact q
 | @cons p q ps qs h t ih=>
   intro r0
   have e:KV (putK kvs p.1 p.2) (stored vs q.1 q.2):=by
     have:=r0.put p.1 h.2
     rw[←h.1];exact this
   exact ih e
theorem g7:∀(more kvs:List (Key×V)),(iK kvs more).length<=kvs.length+more.length
 | [],kvs=>by show kvs.length<=kvs.length+0;omega
 | p::r,kvs=>by
   have h1:=g7 r (putK kvs p.1 p.2)
   have h2:=g5 kvs p.1 p.2
   show(iK (putK kvs p.1 p.2) r).length<=_
   rw[List.length_cons];omega
end L2
namespace HT
open PySem PyProof.Rows
section
open PySem.SeqAt
open PySem.AutoSeq1 (wpAny_loadPart')
open PySem.MeetsSeq PySem.MeetsSeq2 PySem.MeetsSeq3
end
section
variable{prog:Program}{w:World}{A:Around}{E:Value->Shared->Prop}{s:Shared}
theorem C_{t b:Addr}{vs ws:List Value}{Q:Value->Shared->Prop}(ht:IsTup s.heap t vs.toArray)(hb:IsTup s.heap b ws.toArray)(hv:vs≠[])
  (h1:ws= []->Q (.ref t) s) (h2:ws≠[]->Q (.ref s.heap.objs.size) {s with heap:=s.heap.push {cls:=.type "tuple",data:=.seq (vs++ws).toArray}})
  (hsz:vs.length+ws.length<=sizeLine):wpAny (model prog w) A (binaryOp .Add (.ref t) (.ref b)) Q E s:=by
 obtain⟨⟨cls,dd,data,sl⟩,ho,hc,n,hd⟩:=id ht
 obtain⟨⟨cls2,dd2,data2,sl2⟩,ho2,hc2,n2,hd2⟩:=id hb
 simp only at hc hd hc2 hd2
 subst hc hd hc2 hd2
 have e:vs.toArray++ws.toArray=(vs++ws).toArray:=by simp
 by_cases hw:ws= []
 ·exact concat_meets ⟨_,ho,rfl⟩ ⟨_,ho2,rfl⟩ noFill_tuple_add seq_tuple_add PySem.F.slot_tuple_add PySem.F.entry_tuple_add (PySem.F.args_tuple_add_2 _ _)
   (tuple_addW1 t b vs.toArray ws.toArray n n2 dd dd2 sl sl2 (by simpa using hv) (by simp[hw])) ⟨ho,ho2,h1 hw⟩
 ·refine concat_meets ⟨_,ho,rfl⟩ ⟨_,ho2,rfl⟩ noFill_tuple_add seq_tuple_add PySem.F.slot_tuple_add PySem.F.entry_tuple_add (PySem.F.args_tuple_add_2 _ _)
   (tuple_addW2 t b vs.toArray ws.toArray n n2 dd dd2 sl sl2 (by simpa using hv) (by simpa using hw) (by rw[List.size_toArray,List.size_toArray];exact hsz)) ⟨ho,ho2,?_⟩
  rw[e]
  exact h2 hw
def eO(n d:Nat):Option Int->Nat
 |none=>d
 |some v=>if v<0 then(v+(n:Int)).toNat else min v.toNat n
theorem qt(n d:Nat):eO n d none=d:=rfl
theorem yp(n d k:Nat):eO n d (some (k:Int))=min k n:=by
 show(if (k:Int)<0 then((k:Int)+(n:Int)).toNat else min (k:Int).toNat n)=min k n
 rw[if_neg (by omega),Int.toNat_natCast]
theorem DY(n d:Nat)(hd:d<=n)(o:Option Int):eO n d o<=n:=by
 cases o with
 |none=>exact hd
 | some v=>
   show(if v<0 then(v+(n:Int)).toNat else min v.toNat n)<=n
   by_cases hv:v<0
   · rw[if_pos hv];omega
   · rw[if_neg hv];exact Nat.min_le_right _ _
theorem yl(v:Int)(n d:Nat):(if v<0 then max (v+(n:Int)) 0 else min v (n:Int))=((eO n d (some v):Nat):Int):=by
 show(if v<0 then max (v+(n:Int)) 0 else min v (n:Int))=(((if v<0 then(v+(n:Int)).toNat else min v.toNat n):Nat):Int)
 by_cases hv:v<0
 ·simp only[if_pos hv];omega
 ·simp only[if_neg hv];omega
theorem xV(lo hi:Option Int)(n:Nat):Builtin.Slice.sliceAdjust lo hi 1 (n:Int)=(((eO n 0 lo:Nat):Int),((eO n n hi:Nat):Int)):=by
 have h1:¬((1:Int)<0):=by omega
 unfold Builtin.Slice.sliceAdjust
 simp only[h1,if_false]
 refine Prod.ext ?_ ?_
 ·cases lo with
  |none=>rfl
  |some v=>exact yl v n 0
 ·cases hi with
  |none=>rfl
  |some v=>exact yl v n n
theorem yc(i j:Nat):Builtin.Slice.slicePlaces (i:Int) (j:Int) 1=j-i:=by
 unfold Builtin.Slice.slicePlaces
 have h1:(1:Int)>0:=by omega
 simp only[h1,if_true,Int.ediv_one]
 split <;>omega
theorem qI{v:Value}{o:Option Int}{Q:Option Int->Shared->Prop}(p:IsPart v o)(h:Q o s):wpAny (model prog w) A (Builtin.Slice.slicePartIndex v) Q E s:=by
 cases p with
 |none=>exact slicePart_none h
 |int i t=>exact slicePart_int h
theorem iA{sl:Addr}{vl vu:Value}{lo hi:Option Int}{n:Nat}{Q:Int×Int×Nat->Shared->Prop}(hs:s.heap.IsSliceOf sl vl vu .none)(pl:IsPart vl lo)(pu:IsPart vu hi)
  (h:Q (((eO n 0 lo:Nat):Int),1,eO n n hi-eO n 0 lo) s):wpAny (model prog w) A (Builtin.Slice.sliceApplied (.ref sl) (pure (n:Int))) Q E s:=by
 obtain⟨os,hos,hcs,hds⟩:=id hs
 unfold Builtin.Slice.sliceApplied Builtin.Slice.sliceFields
 refine wpAny_bind (wpAny_bind (wpAny_field hos hds (x:=vl) rfl (wpAny_bind (wpAny_field hos hds (x:=vu) rfl (wpAny_bind (wpAny_field hos hds (x:=.none) rfl (wpAny_pure ?_)))))))
 refine wpAny_bind (slicePart_none ?_)
 show wpAny _ _ (if ((1:Int)==0)=true then _ else _) _ _ s
 rw[if_neg (by decide)]
 refine wpAny_bind (qI pl (wpAny_bind (qI pu (wpAny_bind (wpAny_pure ?_)))))
 show wpAny _ _ (match Builtin.Slice.sliceAdjust lo hi 1 (n:Int) with|(lo,hi)=>pure (lo,(1:Int),Builtin.Slice.slicePlaces lo hi 1)) _ _ s
 rw[xV lo hi n]
 show wpAny _ _ (pure (((eO n 0 lo:Nat):Int),(1:Int),Builtin.Slice.slicePlaces ((eO n 0 lo:Nat):Int) ((eO n n hi:Nat):Int) 1)) _ _ s
 rw[yc]
 exact wpAny_pure h
theorem Ad(xs:Array Value)(i k:Nat):((List.range k).filterMap fun(m:Nat)=>xs[((i:Int)+(m:Int)*1).toNat]?).toArray=((xs.toList.drop i).take k).toArray:=by
 have e:(fun(m:Nat)=>xs[((i:Int)+(m:Int)*1).toNat]?)=fun m=>xs[i+m]? :=by
  funext m
  have:((i:Int)+(m:Int)*1).toNat=i+m:=by omega
  rw[this]
 rw[e]
 have:=pick_run xs i k
 rw[List.filterMap_map] at this
 have e2:((fun x=>xs[x]?)∘fun x=>i+x)=fun m=>xs[i+m]? :=rfl
 rw[e2] at this
 rw[this]
theorem mj{t sl:Addr}{items:Array Value}{vl vu:Value}{lo hi:Option Int}{Q:Value->Shared->Prop}(ht:IsTup s.heap t items)(hs:s.heap.IsSliceOf sl vl vu .none)(pl:IsPart vl lo)(pu:IsPart vu hi)
  (hw:¬(eO items.size 0 lo=0/\eO items.size items.size hi=items.size))
  (h:Q (.ref s.heap.objs.size) {s with heap:=s.heap.push {cls:=.type "tuple",data:=.seq ((items.toList.drop (eO items.size 0 lo)).take (eO items.size items.size hi-eO items.size 0 lo)).toArray}})
  (hsz:items.size<=sizeLine):wpAny (model prog w) A (getItem (.ref t) (.ref sl)) Q E s:=by
 have htake:sizeOk (.seq ((items.toList.drop (eO items.size 0 lo)).take (eO items.size items.size hi-eO items.size 0 lo)).toArray):=by
  show((items.toList.drop (eO items.size 0 lo)).take (eO items.size items.size hi-eO items.size 0 lo)).toArray.size<=sizeLine
  rw[List.size_toArray,List.length_take,List.length_drop,Array.length_toList]
  omega
 have hj:eO items.size items.size hi<=items.size:=DY _ _ (Nat.le_refl _) hi
 obtain⟨os,hos,hcs,hds⟩:=id hs
 have hTs:s.TypeIs (.ref sl) "slice":=⟨os,hos,hcs⟩
 unfold getItem
 try with_reducible refine wpAny_holding ?_
 first|refine wpAny_bind (wpAny_pure ?_)|skip
 refine wpAny_bind (wpAny_sequenceKey ht.typeIs (by decide) ?_)
 refine wpAny_bind (wpAny_callSpecial?_slot (name:=Str.ofString "__getitem__") ht.typeIs PyProof.Rows.slot_tuple_getitem
  (wpAny_call_entry PyProof.Rows.slot_tuple_getitem ht.typeIs entry_tuple_getitem ?_ (args_tuple_getitem _ _)))
 show wpAny _ _ (Builtin.Tuple.tupleItemsOf (.ref t) >>= _) _ _ s
 refine wpAny_bind (tupleItemsOf_ ht ?_)
 refine wpAny_bind (wpAny_typeOf hTs ?_)
 rw[if_pos (by decide)]
 refine wpAny_bind (iA hs pl pu ?_)
 have hno:¬((((eO items.size 0 lo:Nat):Int)==0&&(1:Int)==1&&(eO items.size items.size hi-eO items.size 0 lo)==items.size)=true):=by
  intro q
  rw[Bool.and_eq_true,Bool.and_eq_true] at q
  have q1:((eO items.size 0 lo:Nat):Int)=0:=eq_of_beq q.1.1
  have q2:eO items.size items.size hi-eO items.size 0 lo=items.size:=eq_of_beq q.2
  exact hw ⟨by omega,by omega⟩
 show wpAny _ _ (if (((eO items.size 0 lo:Nat):Int)==0&&(1:Int)==1&&(eO items.size items.size hi-eO items.size 0 lo)==items.size)=true then _ else _) _ _ s
 rw[if_neg hno,Ad]
 first
  |exact wpAny_bind (m:=Builtin.Tuple.tupleExact _) (wpAny_newObj_type (wpAny_pure ⟨_,rfl,wpAny_pure h⟩) htake)
  |exact wpAny_bind (m:=Builtin.Tuple.tupleExact _) (wpAny_newObj_type (wpAny_bind (wpAny_pure (wpAny_pure ⟨_,rfl,wpAny_pure h⟩))) htake)
  |exact wpAny_bind (wpAny_bind (m:=Builtin.Tuple.tupleExact _) (wpAny_newObj_type (wpAny_pure (wpAny_pure ⟨_,rfl,wpAny_pure h⟩)) htake))
  |exact wpAny_bind (wpAny_bind (m:=Builtin.Tuple.tupleExact _) (wpAny_newObj_type (wpAny_pure ⟨_,rfl,wpAny_pure h⟩) htake))
end
end HT
namespace L2
open PySem PySem.Spec PyProof.Rows
abbrev TO:=St->Hp->(Option Int->Hp->Prop)->Prop
def PO(X:Cx)(e:Option Expr)(t:TO):Prop:=
 ∀ (pins:List (Addr×Obj)) (s:Shared) (σ:St) (H:Hp) (Q:Option Int->Hp->Prop),Inv X pins σ H s->t σ H Q→
   wpAny (model X.prog X.w) X.A (evalPart e X.env) (fun u s'=>∃o H',Inv X pins σ H' s'/\IsPart u o/\Q o H') X.xe s
def Cy:TO:=fun _ H Q=>Q none H
def F8(t:TE):TO:=fun σ H Q=>t σ H fun x H1=>∃i,x=.int i/\Q (some i) H1
section
variable{X:Cx}{e:Expr}{te:TE}{lo hi:Option Expr}{tl th:TO}{pos p2:Pos}
theorem C2:PO X none Cy:=by
 intro pins s σ H Q I h
 rw[evalPart_none]
 exact wpAny_pure ⟨none,H,I,.none,h⟩
theorem CC(h:PE X e te):PO X (some e) (F8 te):=by
 intro pins s σ H Q I hw
 rw[evalPart_some]
 refine cG (h pins s σ H _ I hw) fun u s1 qr=> ?_
 obtain⟨x,H1,I1,r1,q1⟩:=qr
 obtain⟨i,rfl,q⟩:=q1
 obtain⟨t,rfl⟩:=r1
 exact⟨some i,H1,I1,.int i t,q⟩
def Hj(X:Cx)(r:V->Option Int->Option Int->Hp->VK->Prop):Prop:=
 ∀ (pins:List (Addr×Obj)) (s:Shared) (σ:St) (H:Hp) (x:V) (v vl vu:Value) (lo hi:Option Int) (sl:Addr) (Q:VK),Inv X pins σ H s->RelV x v->s.heap.IsSliceOf sl vl vu .none->IsPart vl lo->IsPart vu hi->r x lo hi H Q→
   ∃T id,typeLookup (.type T) "__getitem__"=pure (some (.builtin id))/\s.TypeIs v T/\wpAny (model X.prog X.w) X.A (getItem v (.ref sl)) (EP X pins σ Q) X.xe s
def Ir(r:V->Option Int->Option Int->Hp->VK->Prop)(te:TE)(tl th:TO):TE:=fun σ H Q=>te σ H fun x H1=>tl σ H1 fun l H2=>th σ H2 fun u H3=>r x l u H3 Q
theorem A0{r:V->Option Int->Option Int->Hp->VK->Prop}(hr:Hj X r)(he:PE X e te)(hl:PO X lo tl)(hu:PO X hi th):PE X (.Subscript e (.Slice lo hi none p2) pos) (Ir r te tl th):=by
 intro pins s σ H Q I h
 refine Subscript_ (cG (he pins s σ H _ I h) fun v s1 qr=> ?_)
 obtain⟨x,H1,I1,r1,q1⟩:=qr
 refine wpAny_Slice (cG (hl pins s1 σ H1 _ I1 q1) fun vl s2 ⟨l,H2,I2,pl,q2⟩=>cG (hu pins s2 σ H2 _ I2 q2) fun vu s3 qr=> ?_)
 obtain⟨u,H3,I3,pu,q3⟩:=qr
 rw[evalPart_none]
 refine wpAny_pure ?_
 have I4:Inv X pins σ H3 {s3 with heap:=s3.heap.push {cls:=.type "slice",data:=.fields #[vl,vu,.none]}}:=I3.kept (t':=s3.toks) fun b ob q=>Heap.get?_push_of_some _ q
 obtain⟨T,id,hT,ht,hg⟩:=hr pins {s3 with heap:=s3.heap.push {cls:=.type "slice",data:=.fields #[vl,vu,.none]}} σ H3 x v vl vu l u s3.heap.objs.size Q I4 r1 (Heap.IsSliceOf.new ..) pl pu q3
 show wpAny (model X.prog X.w) X.A (subscriptTail e (.Slice lo hi none p2) v (.ref s3.heap.objs.size)) (EP X pins σ Q) X.xe {s3 with heap:=s3.heap.push {cls:=.type "slice",data:=.fields #[vl,vu,.none]}}
 exact tail_any (ops:= [.ref s3.heap.objs.size,v]) ht hT hg (by with_unfolding_all rfl)
def xK(xs:List V)(lo hi:Option Int):List V:=(xs.drop (HT.eO xs.length 0 lo)).take (HT.eO xs.length xs.length hi-HT.eO xs.length 0 lo)
theorem wg(xs:List V)(lo hi:Option Int):(xK xs lo hi).length<=xs.length:=by
 unfold xK
 rw[List.length_take,List.length_drop]
 omega
def Hi(K:PySem.W.Frag):V->Option Int->Option Int->Hp->VK->Prop:=fun x lo hi H Q=>∃a xs,x=.ref a/\gL K H a xs∧
 ¬(HT.eO xs.length 0 lo=0/\HT.eO xs.length xs.length hi=xs.length)/\∀p,H p=none->Q (.ref p) (upd H p (.tup (xK xs lo hi)))
theorem Fg:Hj X (Hi X.K):=by
 intro pins s σ H x v vl vu lo hi sl Q I rx hs pl pu h
 obtain⟨a,xs,rfl,hx,hw,q⟩:=h
 cases rx
 obtain⟨its,r,ht,hz⟩:=I.tuple hx
 have hlen:its.toArray.size=xs.length:=by rw[List.size_toArray];exact r.length.symm
 refine⟨"tuple",_,PyProof.Rows.slot_tuple_getitem.lookup,ht.typeIs,?_⟩
 refine HT.mj ht hs pl pu (by rw[hlen];exact hw) ?_ (by rw[hlen];exact hz)
 rw[hlen]
 refine⟨.ref s.heap.objs.size,_,I.laid (t':=s.toks) (o:=.tup (xK xs lo hi)) (fun b ob q=>Heap.get?_push_of_some _ q) (Nat.le_refl _) ?_,rfl,q _ (I.hok.fresh (Nat.le_refl _))⟩
 exact⟨Nat.le_trans (wg xs lo hi) hz,_,(r.drop (HT.eO xs.length 0 lo)).take (HT.eO xs.length xs.length hi-HT.eO xs.length 0 lo),vh.new _ _⟩
def DB(K:PySem.W.Frag):R2:=fun x y H Q=>∃a b xs ys,x=.ref a/\y=.ref b/\gL K H a xs/\gL K H b ys/\xs≠[]/\xs.length+ys.length<=sizeLine∧
 (ys= []->Q (.ref a) H)/\(ys≠[]->∀p,H p=none->Q (.ref p) (upd H p (.tup (xs++ys))))
theorem bx.nil_iff{xs:List V}{us:List Value}(r:bx xs us):us= []↔xs= []:=by
 cases r with
 |nil=>simp
 |cons _ _=>simp
theorem CF:jl X (binaryOp .Add) (DB X.K):=by
 intro pins s σ H x y v u Q I rx ry h
 obtain⟨a,b,xs,ys,rfl,rfl,ha,hb,hx,hz,q1,q2⟩:=h
 cases rx
 cases ry
 obtain⟨its,r1,p1,_⟩:=I.tuple ha
 obtain⟨its2,r2,p2,_⟩:=I.tuple hb
 refine HT.C_ p1 p2 (fun z=>hx (r1.nil_iff.mp z)) (fun z=>⟨.ref a,H,I,rfl,q1 (r2.nil_iff.mp z)⟩) (fun z=> ?_) (by rw[←r1.length,←r2.length];exact hz)
 refine⟨.ref s.heap.objs.size,_,I.laid (t':=s.toks) (o:=.tup (xs++ys)) (fun b ob q=>Heap.get?_push_of_some _ q) (Nat.le_refl _) ?_,rfl,q2 (fun w=>z (r2.nil_iff.mpr w)) _ (I.hok.fresh (Nat.le_refl _))⟩
 exact⟨by rw[lQa];exact hz,_,r1.append r2,vh.new _ _⟩
end
def zH(n:Nat)(i:Int):Option Nat:=if 0<=i then(if i<n then some i.toNat else none) else if -(n:Int)<=i then some (i+n).toNat else none
def jk{α:Type}(xs:List α)(i:Int):Option α:=(zH xs.length i).bind fun j=>xs[j]?
theorem ur{n:Nat}{i:Int}{j:Nat}(h:zH n i=some j):seqIndex? i n=some j/\j<n/\ -(n:Int)<=i/\i<n:=by
 unfold zH at h
 by_cases h0:0<=i
 ·rw[if_pos h0] at h
  by_cases h1:i<n
  ·rw[if_pos h1] at h
   have e:i.toNat=j:=Option.some.inj h
   exact⟨by rw[seqIndex_of h0 h1,e],by omega,by omega,h1⟩
  ·rw[if_neg h1] at h;cases h
 ·rw[if_neg h0] at h
  by_cases h1: -(n:Int)<=i
  ·rw[if_pos h1] at h
   have e:(i+n).toNat=j:=Option.some.inj h
   exact⟨by rw[seqIndex_neg (by omega) h1,e],by omega,h1,by omega⟩
  ·rw[if_neg h1] at h;cases h
theorem tZ{α:Type}{xs:List α}{i:Int}{v:α}(h:jk xs i=some v):∃j,seqIndex? i xs.length=some j/\xs[j]?=some v/\j<xs.length/\ -(xs.length:Int)<=i/\i<xs.length:=by
 unfold jk at h
 cases e:zH xs.length i with
 |none=>rw[e] at h;cases h
 | some j=>
   rw[e] at h
   obtain⟨h1,h2,h3,h4⟩:=ur e
   exact⟨j,h1,h,h2,h3,h4⟩
def yV(b:Expr):Prop:=∀o i,subscripted b false o i=operate [o,i] (getItem o i)
def Cf(X:Cx)(r:R2):Prop:=
 ∀ (value slice:Expr) (pins:List (Addr×Obj)) (s:Shared) (σ:St) (H:Hp) (x y:V) (v u:Value) (Q:VK),Inv X pins σ H s->RelV x v->RelV y u->r x y H Q→
   subscripted slice false v u=operate [v,u] (getItem v u)->wpAny (model X.prog X.w) X.A (subscriptTail value slice v u) (EP X pins σ Q) X.xe s
def Gq(X:Cx)(id:String)(r:V->List V->Hp->VK->Prop):Prop:=
 ∀ (pins:List (Addr×Obj)) (s:Shared) (σ:St) (H:Hp) (x:V) (xs:List V) (v:Value) (us:List Value) (Q:VK),Inv X pins σ H s->RelV x v->bx xs us->r x xs H Q→
   wpAny (model X.prog X.w) X.A (call (.builtin id) (v::us)) (EP X pins σ Q) X.xe s
section
variable{X:Cx}{a b:Expr}{ta tb:TE}{pos:Pos}
theorem Cf.or{r r':R2}(h:Cf X r)(h':Cf X r'):Cf X (fun x y H Q=>r x y H Q\/r' x y H Q):=by
 intro value slice pins s σ H x y v u Q I rx ry q hs
 rcases q with q|q
 ·exact h value slice pins s σ H x y v u Q I rx ry q hs
 ·exact h' value slice pins s σ H x y v u Q I rx ry q hs
theorem FK{r:R2}(hr:Cf X r)(ha:PE X a ta)(hb:PE X b tb)(hs:yV b):PE X (.Subscript a b pos) (DR r ta tb):=by
 intro pins s σ H Q I h
 exact Subscript_ (E2 ha hb I h fun v u s2 x y H2 I2 rx ry q=>hr a b pins s2 σ H2 x y v u Q I2 rx ry q (hs _ _))
def Gn(K:PySem.W.Frag):R2:=fun x y H Q=>∃p xs i v,x=.ref p/\y=.int i/\hG K H p xs/\jk xs i=some v/\Q v H
def FL(K:PySem.W.Frag):R2:=fun x y H Q=>∃p xs i v,x=.ref p/\y=.int i/\gL K H p xs/\jk xs i=some v/\Q v H
def Gb:R2:=fun x y H Q=>∃z i c,x=.str z/\y=.int i/\z.length<=sizeLine/\jk z.cps.toList i=some c/\Q (.str ⟨#[c]⟩) H
theorem Dl:Cf X (Gn X.K):=by
 intro value slice pins s σ H x y v u Q I rx ry h hs
 obtain⟨p,xs,i,z,rfl,rfl,hq,he,q⟩:=h
 cases rx
 obtain⟨t,rfl⟩:=ry
 obtain⟨its,r,pl,hz⟩:=I.list hq
 obtain⟨j,h1,h2,h3,h4,h5⟩:=tZ he
 obtain⟨w,ew,rw'⟩:=r.get h2
 have hl:=r.length
 have hn:=jv
 have fin:EP X pins σ Q w s:=⟨z,H,I,rw',q⟩
 by_cases h0:0<=i
 ·have hj:i.toNat=j:=by
   rw[seqIndex_of h0 h5] at h1
   exact Option.some.inj h1
  exact item_listR pl.isList h0 (by omega) (by rw[hj];simpa using ew) fin hs
 ·have hj:(i+(its.toArray.size:Int)).toNat=j:=by
   rw[seqIndex_neg (by omega) h4] at h1
   rw[List.size_toArray,←hl]
   exact Option.some.inj h1
  exact subscriptTail_builtinR (x:=w) pl.isList.typeIs slot_list_getitem.lookup
   (wpAny_getItem_list_neg (Q:=fun r s'=>r=w/\EP X pins σ Q r s') pl.isList (by omega) (by rw[List.size_toArray] <;>omega) (by omega) (by rw[hj];simpa using ew) ⟨rfl,fin⟩) hs
theorem EX:Cf X (FL X.K):=by
 intro value slice pins s σ H x y v u Q I rx ry h hs
 obtain⟨p,xs,i,z,rfl,rfl,hq,he,q⟩:=h
 cases rx
 obtain⟨t,rfl⟩:=ry
 obtain⟨its,r,pl,hz⟩:=I.tuple hq
 obtain⟨j,h1,h2,h3,h4,h5⟩:=tZ he
 obtain⟨w,ew,rw'⟩:=r.get h2
 have hl:=r.length
 have hn:=jv
 have fin:EP X pins σ Q w s:=⟨z,H,I,rw',q⟩
 exact subscriptTail_builtinR (x:=w) pl.typeIs slot_tuple_getitem.lookup
  (getItem_tuple (j:=j) (Q:=fun r s'=>r=w/\EP X pins σ Q r s') pl (by omega) (by omega) (by rw[List.size_toArray,←hl];exact h1) (by simpa using ew) ⟨rfl,fin⟩) hs
theorem D4:Cf X Gb:=by
 intro value slice pins s σ H x y v u Q I rx ry h hs
 obtain⟨z,i,c,rfl,rfl,hz,he,q⟩:=h
 obtain⟨t,rfl⟩:=rx
 obtain⟨t',rfl⟩:=ry
 obtain⟨j,h1,h2,h3,h4,h5⟩:=tZ he
 have hl:z.cps.toList.length=z.length:=by simp[Str.length]
 rw[hl] at h1 h4 h5
 have hn:=jv
 exact tail_any (typeIs_str s z t) slot_str_getitem.lookup (getItem_str (c:=c) (by
  have e1:decide (i< -(2^63:Int))=false:=decide_eq_false (by omega)
  have e2:decide (i>=2^63)=false:=decide_eq_false (by omega)
  rw[e1,e2,Bool.or_false]) (by rw[h1];simpa using h2) ⟨.str ⟨#[c]⟩,H,I.tok _,⟨_,rfl⟩,q⟩) hs
def HX(K:PySem.W.Frag):R2:=fun x y H Q=>Gn K x y H Q\/FL K x y H Q\/Gb x y H Q
theorem E9:Cf X (HX X.K):=Dl.or (EX.or D4)
theorem xZ(its:List Value)(n j:Nat)(u:Value):Obj.mapSeq (·.setIfInBounds j u) {cls:=.type "list",data:=.seq its.toArray n}={cls:=.type "list",data:=.seq (its.set j u).toArray n}:=by
 simp[Obj.mapSeq]
theorem Inv.lst{pins:List (Addr×Obj)}{σ:St}{H:Hp}{s:Shared}{p:Addr}{xs:List V}(I:Inv X pins σ H s)(h:H p=some (.lst xs)):
  ∃(its:List Value) (n:Nat),bx xs its/\s.heap.get? p=some {cls:=.type "list",data:=.seq its.toArray n}/\xs.length<=sizeLine:=by
 obtain⟨z,its,n,r,e⟩:=I.hok p _ h
 exact⟨its,n,r,e,z⟩
theorem Inv.lstUpd{pins:List (Addr×Obj)}{σ:St}{H:Hp}{s:Shared}{p:Addr}{xs ys:List V}{its its':List Value}{n n':Nat}{f:Obj->Obj}(I:Inv X pins σ H s)(h:H p=some (.lst xs))
  (ho:s.heap.get? p=some {cls:=.type "list",data:=.seq its.toArray n}) (hf:f {cls:=.type "list",data:=.seq its.toArray n}={cls:=.type "list",data:=.seq its'.toArray n'}) (r:bx ys its') (hz:ys.length<=sizeLine) (t:Nat):
  Inv X pins σ (upd H p (.lst ys)) {s with heap:=s.heap.update p f,toks:=t}:=by
 have e:(s.heap.update p f).get? p=some {cls:=.type "list",data:=.seq its'.toArray n'}:=by
  rw[Heap.get?_update_self f ho (by rw[hf] <;>rfl),hf]
 refine I.write (x:=p) (e:=p) (by rw[h];trivial) (.inl rfl) (fun b u hb q=>(Heap.get?_update_other _ _ (Ne.symm hb)).trans q) ⟨_,e⟩ ?_
 exact⟨hz,its',n',r,e⟩
def DF:V->V->V->Hp->(Hp->Prop)->Prop:=fun o i v H Q=>∃p xs k j,o=.ref p/\i=.int k/\H p=some (.lst xs)/\zH xs.length k=some j/\Q (upd H p (.lst (xs.set j v)))
theorem set_list:ES X DF:=by
 intro pins s σ H o i v ov iv u Q I ro ri rv h
 obtain⟨p,xs,k,j,rfl,rfl,hp,hj,q⟩:=h
 cases ro
 obtain⟨t,rfl⟩:=ri
 obtain⟨its,n,r,ho,hz⟩:=I.lst hp
 obtain⟨h1,h2,h3,h4⟩:=ur hj
 have hl:=r.length
 have hn:=jv
 have I':Inv X pins σ (upd H p (.lst (xs.set j v))) {s with heap:=s.heap.update p (Obj.mapSeq (·.setIfInBounds j u))}:=
  I.lstUpd hp ho (xZ its n j u) (r.set rv j) (by rw[List.length_set];exact hz) s.toks
 by_cases h0:0<=k
 ·have hk:k.toNat=j:=by
   rw[seqIndex_of h0 h4] at h1
   exact Option.some.inj h1
  exact PySem.W.ki_setAt ho h0 (by omega) (by rw[List.size_toArray,←hl];exact h4) (by rw[hk];exact⟨_,I',q⟩)
 ·have hk:(k+(its.toArray.size:Int)).toNat=j:=by
   rw[seqIndex_neg (by omega) h3] at h1
   rw[List.size_toArray,←hl]
   exact Option.some.inj h1
  exact PySem.W.ki_setBack ho (by omega) (by rw[List.size_toArray,←hl];exact h3) (by omega) (by rw[hk];exact⟨_,I',q⟩)
def eZ:V->Bool
 |.non=>true
 |.bl _=>true
 |.int _=>true
 |.str _=>true
 |_=>false
def kf:V->V->Bool
 |.non,.non=>true
 |.bl a,.bl b=>a==b
 |.bl a,.int b=>(if a then 1 else 0)==b
 |.int a,.bl b=>a==(if b then 1 else 0)
 |.int a,.int b=>a==b
 |.str a,.str b=>a==b
 |_,_=>false
theorem Bi{A:Around}{s:Shared}{y x:V}{u v:Value}(ry:RelV y u)(rx:RelV x v)(fy:eZ y=true)(fx:eZ x=true):SeqAt.EqAt A s u v (kf y x):=by
 cases y with
 | non=>
   cases ry
   cases x with
   |non=>cases rx;exact SeqAt.EqAt.same _
   |bl b=>cases rx;exact SeqAt.EqAt.none_bool b
   |int b=>obtain⟨t,rfl⟩:=rx;exact SeqAt.EqAt.none_int b t
   |str b=>obtain⟨t,rfl⟩:=rx;exact SeqAt.EqAt.none_str b t
   |_=>exact absurd (show false=true from fx) Bool.false_ne_true
 | bl a=>
   cases ry
   cases x with
   |non=>cases rx;exact SeqAt.EqAt.bool_none a
   |bl b=>cases rx;exact SeqAt.EqAt.bool_bool a b
   |int b=>obtain⟨t,rfl⟩:=rx;exact SeqAt.EqAt.bool_int a b t
   |str b=>obtain⟨t,rfl⟩:=rx;exact SeqAt.EqAt.bool_str a b t
   |_=>exact absurd (show false=true from fx) Bool.false_ne_true
 | int a=>
   obtain⟨t',rfl⟩:=ry
   cases x with
   |non=>cases rx;exact SeqAt.EqAt.int_none a t'
   |bl b=>cases rx;exact SeqAt.EqAt.int_bool a t' b
   |int b=>obtain⟨t,rfl⟩:=rx;exact SeqAt.EqAt.int_int a t' b t
   |str b=>obtain⟨t,rfl⟩:=rx;exact SeqAt.EqAt.int_str a t' b t
   |_=>exact absurd (show false=true from fx) Bool.false_ne_true
 | str a=>
   obtain⟨t',rfl⟩:=ry
   cases x with
   |non=>cases rx;exact SeqAt.EqAt.str_none a t'
   |bl b=>cases rx;exact SeqAt.EqAt.str_bool a t' b
   |int b=>obtain⟨t,rfl⟩:=rx;exact SeqAt.EqAt.str_int a t' b t
   |str b=>obtain⟨t,rfl⟩:=rx;exact SeqAt.EqAt.str_str a t' b t
   |_=>exact absurd (show false=true from fx) Bool.false_ne_true
 |_=>exact absurd (show false=true from fy) Bool.false_ne_true
def vb(x:V)(u:Value):Bool:=match u with
 |.none=>kf .non x
 |.bool b=>kf (.bl b) x
 |.int i _=>kf (.int i) x
 |.str z _=>kf (.str z) x
 |_=>false
theorem pP{x y:V}{u:Value}(r:RelV y u)(f:eZ y=true):vb x u=kf y x:=by
 cases y with
 |non=>cases r;rfl
 |bl b=>cases r;rfl
 |int i=>obtain⟨t,rfl⟩:=r;rfl
 |str z=>obtain⟨t,rfl⟩:=r;rfl
 |_=>exact absurd (show false=true from f) Bool.false_ne_true
theorem mw{x:V}:∀{xs:List V} {us:List Value},bx xs us->xs.all eZ=true->us.any (vb x)=xs.any fun y=>kf y x
 |_,_,.nil,_=>rfl
 | y::xs,u::us,.cons r t,f=>by
   rw[List.all_cons,Bool.and_eq_true] at f
   rw[List.any_cons,List.any_cons,pP r f.1,mw t f.2]
theorem gG{A:Around}{s:Shared}{x:V}{v:Value}(rx:RelV x v)(fx:eZ x=true):∀{xs:List V} {us:List Value},bx xs us->xs.all eZ=true->∀u∈us,SeqAt.EqAt A s u v (vb x u)
 |_,_,.nil,_=>fun u hu=>by cases hu
 | y::xs,u::us,.cons r t,f=>fun u' hu=>by
   rw[List.all_cons,Bool.and_eq_true] at f
   rcases List.mem_cons.mp hu with rfl|hu
   · rw[pP r f.1];exact Bi r rx f.1 fx
   · exact gG rx fx t f.2 u' hu
def Bj(x:V)(xs:List V):Bool:=xs.any fun y=>kf y x
def Hc(K:PySem.W.Frag)(neg:Bool):R2:=fun x y H Q=>∃p xs,y=.ref p/\(hG K H p xs\/gL K H p xs)/\eZ x=true/\xs.all eZ=true/\Q (.bl (if neg then !Bj x xs else Bj x xs)) H
theorem zO:jl X (compareOp .In) (Hc X.K false):=by
 intro pins s σ H x y v u Q I rx ry h
 obtain⟨p,xs,rfl,hq,fx,fs,q⟩:=h
 cases ry
 rcases hq with hq|hq
 ·obtain⟨its,r,pl,hz⟩:=I.list hq
  refine SeqAt.in_listAt (vb x) pl.isList (fun w hw=>gG rx fx r fs w (by simpa using hw)) ⟨.bl _,H,I,rfl,?_⟩
  rw[show its.toArray.any (vb x)=its.any (vb x) by simp,mw r fs]
  exact q
 ·obtain⟨its,r,pl,hz⟩:=I.tuple hq
  refine SeqAt.in_tupleAt (vb x) pl (fun w hw=>gG rx fx r fs w (by simpa using hw)) ⟨.bl _,H,I,rfl,?_⟩
  rw[show its.toArray.any (vb x)=its.any (vb x) by simp,mw r fs]
  exact q
theorem um:jl X (compareOp .NotIn) (Hc X.K true):=by
 intro pins s σ H x y v u Q I rx ry h
 obtain⟨p,xs,rfl,hq,fx,fs,q⟩:=h
 cases ry
 rcases hq with hq|hq
 ·obtain⟨its,r,pl,hz⟩:=I.list hq
  refine SeqAt.notIn_listAt (vb x) pl.isList (fun w hw=>gG rx fx r fs w (by simpa using hw)) ⟨.bl _,H,I,rfl,?_⟩
  rw[show its.toArray.any (vb x)=its.any (vb x) by simp,mw r fs]
  exact q
 ·obtain⟨its,r,pl,hz⟩:=I.tuple hq
  refine SeqAt.notIn_tupleAt (vb x) pl (fun w hw=>gG rx fx r fs w (by simpa using hw)) ⟨.bl _,H,I,rfl,?_⟩
  rw[show its.toArray.any (vb x)=its.any (vb x) by simp,mw r fs]
  exact q
theorem t9:gC X (.builtin "len") (fun xs H Q=>∃p ys,xs= [.ref p]/\(hG X.K H p ys\/gL X.K H p ys)/\Q (.int ys.length) H):=by
 intro pins s σ H xs us Q I r h
 obtain⟨p,ys,rfl,hq,q⟩:=h
 obtain⟨u,rfl,rx⟩:=vals1 r
 cases rx
 have hn:=jv
 rcases hq with hq|hq
 ·obtain⟨its,r',pl,hz⟩:=I.list hq
  have hlen:=r'.length
  exact Calls.call_len_list pl.isList (by simp only[List.size_toArray] <;>omega) ⟨.int ys.length,H,I.tok _,⟨s.toks+1,by rw[List.size_toArray,hlen]⟩,q⟩
 ·obtain⟨its,r',pl,hz⟩:=I.tuple hq
  have hlen:=r'.length
  exact len_tuple pl (by simp only[List.size_toArray] <;>omega) ⟨.int ys.length,H,I.tok _,⟨s.toks+1,by rw[List.size_toArray,hlen]⟩,q⟩
theorem rK:gC X (.type "tuple") (fun xs H Q=>∃p ys,xs= [.ref p]/\((hG X.K H p ys/\∀l,H l=none->Q (.ref l) (upd H l (.tup ys)))\/(gL X.K H p ys/\Q (.ref p) H))):=by
 intro pins s σ H xs us Q I r h
 obtain⟨p,ys,rfl,h⟩:=h
 obtain⟨u,rfl,rx⟩:=vals1 r
 cases rx
 rcases h with⟨hq,q⟩|⟨hq,q⟩
 ·obtain⟨its,r',pl,hz⟩:=I.list hq
  have hlen:=r'.length
  refine call_tuple_list pl.isList (fun h' kp=> ?_) (by simp only[List.size_toArray] <;>omega)
  have I1:Inv X pins σ H {s with heap:=h'}:=I.kept (t':=s.toks) kp
  have I2:Inv X pins σ (upd H h'.objs.size (.tup ys)) {s with heap:=h'.push {cls:=.type "tuple",data:=.seq its.toArray}}:=
   I1.laid (t':=s.toks) (fun b o e=>Heap.get?_push_of_some _ e) (Nat.le_refl _) (show cK X.prog X.w _ _ _ (.tup ys) from⟨hz,its,r',vh.new _ _⟩)
  exact⟨.ref h'.objs.size,_,I2,rfl,q _ (I1.hok.fresh (Nat.le_refl _))⟩
 ·obtain⟨its,r',pl,hz⟩:=I.tuple hq
  exact call_tuple_same pl ⟨.ref p,H,I,rfl,q⟩
def HS(K:PySem.W.Frag)(T:String)(x:V)(H:Hp):Prop:=match x with
 |.str _=>T="str"
 |.int _=>T="int"
 |.ref p=>(T="list" /\∃xs,hG K H p xs)\/(T="tuple" /\∃o,K.lookup p=some o/\o.cls=.type "tuple" /\o.dict=none)∨
   (T="dict" /\((∃kvs,H p=some (.dK kvs))\/∃kvs,H p=some (.dT kvs)))\/(T="set" /\∃S n,H p=some (.set S n))
 |_=>False
theorem Fe{pins:List (Addr×Obj)}{σ:St}{H:Hp}{s:Shared}{T:String}{x:V}{v:Value}(I:Inv X pins σ H s)(r:RelV x v)(ty:HS X.K T x H):
  s.TypeIs v T/\∀a,v=.ref a->∃ob,s.heap.get? a=some ob/\ob.dict=none:=by
 cases x with
 | str z=>
   obtain⟨t,rfl⟩:=r
   cases (show T="str" from ty)
   exact⟨typeIs_str s z t,fun _ e=>nomatch e⟩
 | int i=>
   obtain⟨t,rfl⟩:=r
   cases (show T="int" from ty)
   exact⟨typeIs_int s i t,fun _ e=>nomatch e⟩
 | ref p=>
   cases r
   rcases ty with⟨rfl,xs,hq⟩|⟨rfl,o,hk,hc,hd⟩|⟨rfl,hk⟩|⟨rfl,S,n,hk⟩
   · obtain⟨its,_,pl,_⟩:=I.list hq
     refine⟨pl.isList.typeIs,fun a e=> ?_⟩
     cases e
     obtain⟨o,n,e,c,hd,_⟩:=pl
     exact⟨o,e,hd⟩
   · refine⟨⟨o,I.kIn p o hk,hc⟩,fun a e=> ?_⟩
     cases e
     exact⟨o,I.kIn _ o hk,hd⟩
   · have z:∃o,s.heap.get? p=some o/\o.ExactDict:=by
       rcases hk with⟨kvs,hk⟩|⟨kvs,hk⟩
       · obtain⟨_,_,_,_,o,_,_,e,ex,_⟩:=I.hok p _ hk
         exact⟨o,e,ex⟩
       · obtain⟨_,_,_,_,o,_,_,e,ex,_⟩:=I.hok p _ hk
         exact⟨o,e,ex⟩
     obtain⟨o,e,ex⟩:=z
     refine⟨⟨o,e,ex.1⟩,fun a e2=> ?_⟩
     cases e2
     exact⟨o,e,ex.2.1⟩
   · obtain⟨o,_,_,_,e,ex,_⟩:=I.hok p _ hk
     refine⟨⟨o,e,ex.1⟩,fun a e2=> ?_⟩
     cases e2
     exact⟨o,e,ex.2.1⟩
 |_=>exact False.elim ty
def GS(K:PySem.W.Frag)(T:String)(r:V->List V->Hp->VK->Prop)(to:TE)(t:TA):TE:=fun σ H Q=>to σ H fun x H1=>HS K T x H1/\t σ H1 fun xs H2=>r x xs H2 Q
variable{o e:Expr}{es:List Expr}{to:TE}{t:TA}{name:Str}{apos cpos:Pos}{T id:String}{r:V->List V->Hp->VK->Prop}
theorem sx(pa:PlainAttrs T)(slot:Slot T name id)(hty:typeOf (.builtin id)=pure (.type "method_descriptor"))(hm:Gq X id r)(ho:PE X o to)(ha:PA X (e::es) t)
  (hbase:attributeBase o name X.env (eval o X.env)=eval o X.env:=by rfl)
  (hfew:((backTo cpos (starEach (e::es) X.env)).all (fun x=> !x.1)&&(backToKw cpos (keywordEach [] X.env)).all (fun x=>x.1.isSome)
   &&decide ((e::es).length+([]:List Keyword).length+(if ([]:List Keyword).isEmpty then 0 else 1)<30))=true:=by rfl)
  (hline:(apos.endLine==cpos.line)=true:=by rfl) (hs:starEach (e::es) X.env=(false,eval e X.env)::starEach es X.env:=by rfl) (hplain:(backTo cpos (starEach es X.env)).any (·.1)=false:=by rfl):
  PE X (.Call (.Attribute o name apos) (e::es) [] cpos) (GS X.K T r to t):=by
 intro pins s σ H Q I h
 refine wpAny_Call_method_late hbase hfew hline rfl (cG (ho pins s σ H _ I h) fun v s1 qr=> ?_)
 obtain⟨x,H1,I1,r1,ty,q1⟩:=qr
 obtain⟨h1,h2⟩:=Fe I1 r1 ty
 refine⟨T,id,pa,slot,hty,h1,h2,?_⟩
 have hA:=ha cpos pins s1 σ H1 _ I1 q1
 rw[hs] at hA⊢
 refine Calls.callWith_builtin (by show(false||(backTo cpos (starEach es X.env)).any (·.1))=false;rw[hplain] <;>rfl) (Calls.evalArgs_plain ?_)
 exact cG hA fun us s2 ⟨vs,H2,I2,r2,q2⟩=>hm pins s2 σ H2 x vs v us Q I2 r1 r2 q2
end
def GW(X:Cx)(id:String)(r:V->List V->Hp->VK->Prop):Prop:=
 ∀ (pins:List (Addr×Obj)) (s:Shared) (σ:St) (H:Hp) (x:V) (xs:List V) (v:Value) (us:List Value) (Q:VK),Inv X pins σ H s->RelV x v->bx xs us->r x xs H Q→
   wpAny (model X.prog X.w) X.A (call (.builtin id) (v::us)) (EP X pins σ Q) X.xe s
theorem bx.one:∀{x:V} {us:List Value},bx [x] us->∃u,us= [u]/\RelV x u
 |_,_,.cons r .nil=>⟨_,rfl,r⟩
theorem bx.eraseIdx:∀{xs:List V} {us:List Value} (i:Nat),bx xs us->bx (xs.eraseIdx i) (us.eraseIdx i)
 |_,_,_,.nil=>.nil
 |_,_,0,.cons _ t=>t
 |_,_,i+1,.cons r t=>.cons r (bx.eraseIdx i t)
theorem bx.rep{xs:List V}{us:List Value}(h:bx xs us):∀k:Nat,bx (List.replicate k xs).flatten (List.replicate k us).flatten
 |0=>.nil
 | k+1=>by
   rw[List.replicate_succ,List.replicate_succ,List.flatten_cons,List.flatten_cons]
   exact bx.append h (bx.rep h k)
theorem r8{α:Type}:∀(l:List α) (i:Nat),(l.eraseIdx i).length<=l.length
 | [],_=>Nat.le_refl _
 |_::_,0=>Nat.le_succ _
 |_::r,i+1=>Nat.succ_le_succ (r8 r i)
theorem foldl_rep(its:List Value):∀(k:Nat) (acc:List Value),
  List.foldl (fun x1 x2=>x1++x2) acc.toArray (List.replicate k its.toArray)=(acc++(List.replicate k its).flatten).toArray
 |0,acc=>by simp
 | k+1,acc=>by
   have e:acc.toArray++its.toArray=(acc++its).toArray:=by simp
   have e2:(acc++its)++(List.replicate k its).flatten=acc++(List.replicate (k+1) its).flatten:=by
     rw[List.replicate_succ,List.flatten_cons,List.append_assoc]
   rw[←e2,←foldl_rep its k (acc++its),←e,List.replicate_succ,List.foldl_cons]
section
variable{X:Cx}{pins:List (Addr×Obj)}{σ:St}{H:Hp}{s:Shared}{l b:Addr}{xs ys zs:List V}
theorem Inv.lset{its its':List Value}{n:Nat}{f:Array Value->Array Value}{t':Nat}(I:Inv X pins σ H s)(hH:H l=some (.lst xs))
  (e:s.heap.get? l=some {cls:=.type "list",data:=.seq its.toArray n}) (hf:f its.toArray=its'.toArray) (hv:bx ys its') (hz:ys.length<=sizeLine):
  Inv X pins σ (upd H l (.lst ys)) {s with heap:=s.heap.update l (Obj.mapSeq f),toks:=t'}:=by
 have q:=PySem.IsL.update e f
 rw[hf] at q
 refine I.write (x:=l) (e:=l) (by rw[hH];exact trivial) (.inl rfl) (fun b' u hb hu=>(Heap.get?_update_other s.heap (Obj.mapSeq f) (Ne.symm hb)).trans hu) ⟨_,q⟩ ?_
 exact⟨hz,its',_,hv,q⟩
theorem Inv.lnew{its:List Value}{t':Nat}(I:Inv X pins σ H s)(hv:bx ys its)(hz:ys.length<=sizeLine):
  Inv X pins σ (upd H s.heap.objs.size (.lst ys)) {s with heap:=s.heap.push {cls:=.type "list",data:=.seq its.toArray},toks:=t'}:=
 I.laid (fun _ _ q=>Heap.get?_push_of_some _ q) (Nat.le_refl _) ⟨hz,its,0,hv,Heap.get?_push_size _ rfl⟩
theorem Inv.fresh(I:Inv X pins σ H s):H s.heap.objs.size=none:=I.hok.fresh (Nat.le_refl _)
theorem Inv.lstM(I:Inv X pins σ H s)(hH:H l=some (.lst xs)):xs.length<=sizeLine/\∃(its:List Value) (n:Nat),bx xs its/\xs.length=its.length/\s.heap.get? l=some {cls:=.type "list",data:=.seq its.toArray n}:=by
 obtain⟨z,its,n,r,e⟩:=I.hok l _ hH
 exact⟨z,its,n,r,r.length,e⟩
theorem qp{n:Nat}(h:n<=sizeLine):Builtin.List.listTooLong n=false:=by
 unfold Builtin.List.listTooLong
 exact decide_eq_false (by omega)
end
section
variable{X:Cx}
def yw:V->List V->Hp->VK->Prop:=fun x vs H Q=>∃l xs y,x=.ref l/\vs= [y]/\H l=some (.lst xs)/\xs.length<sizeLine/\Q .non (upd H l (.lst (xs++ [y])))
theorem nu:GW X "list.append" yw:=by
 intro pins s σ H x vs v us Q I rx rv h
 obtain⟨l,xs,y,rfl,rfl,hH,hz,q⟩:=h
 cases rx
 obtain⟨u,rfl,ru⟩:=rv.one
 obtain⟨z,its,n,r,hl,e⟩:=I.lstM hH
 refine call_meets F.slot_list_append ⟨_,e,rfl⟩ F.entry_list_append (F.args_list_append_2 _ _) (PySem.list_append l its.toArray n u (by rw[List.size_toArray];omega)) ⟨e,?_⟩
 refine⟨.non,_,I.lset (its':=its++ [u]) hH e (by simp) (r.append (.cons ru .nil)) ?_,rfl,q⟩
 rw[lQa,List.length_singleton]
 omega
def yi:V->List V->Hp->VK->Prop:=fun x vs H Q=>∃l b xs zs,x=.ref l/\vs= [.ref b]/\H l=some (.lst xs)/\H b=some (.lst zs)/\xs.length+zs.length<=sizeLine/\Q .non (upd H l (.lst (xs++zs)))
theorem ze:GW X "list.extend" yi:=by
 intro pins s σ H x vs v us Q I rx rv h
 obtain⟨l,b,xs,zs,rfl,rfl,hH,hB,hz,q⟩:=h
 cases rx
 obtain⟨u,rfl,ru⟩:=rv.one
 cases ru
 obtain⟨z,its,n,r,hl,e⟩:=I.lstM hH
 obtain⟨z2,its2,n2,r2,hl2,e2⟩:=I.lstM hB
 have hsz:its.toArray.size+its2.toArray.size<=sizeLine:=by rw[List.size_toArray,List.size_toArray];omega
 have hlong:¬(!its.toArray.isEmpty&&Builtin.List.listTooLong (its.toArray.size+its2.toArray.size))=true:=by
  rw[qp hsz,Bool.and_false]
  exact Bool.false_ne_true
 refine call_meets F.slot_list_extend ⟨_,e,rfl⟩ F.entry_list_extend (F.args_list_extend_2 _ _)
  (AutoSeq1.list_extend_list_list_0 l its.toArray n b its2.toArray n2 hlong (by rw[List.size_toArray];omega) (by omega)) ⟨e,e2,?_⟩
 refine⟨.non,_,I.lset (its':=its++its2) hH e (by simp) (r.append r2) ?_,rfl,q⟩
 rw[lQa]
 omega
def A9:V->List V->Hp->VK->Prop:=fun x vs H Q=>∃l xs i k y,x=.ref l/\vs= [.int i]/\H l=some (.lst xs)/\ -(2^63)<=i/\i<2^63/\seqIndex? i xs.length=some k/\xs[k]?=some y/\Q y (upd H l (.lst (xs.eraseIdx k)))
theorem Bd:GW X "list.pop" A9:=by
 intro pins s σ H x vs v us Q I rx rv h
 obtain⟨l,xs,i,k,y,rfl,rfl,hH,h1,h2,hk,hy,q⟩:=h
 cases rx
 obtain⟨u,rfl,ru⟩:=rv.one
 obtain⟨t,rfl⟩:=ru
 obtain⟨z,its,n,r,hl,e⟩:=I.lstM hH
 obtain⟨w,hw,rw'⟩:=r.get hy
 refine call_meets F.slot_list_pop ⟨_,e,rfl⟩ F.entry_list_pop (F.args_list_pop_2 _ _)
  (MeetsSeq.list_pop_at l its.toArray n i t k w (fitsIndex_both h1 h2) (by rw[List.size_toArray,←hl];exact hk) (by rw[←Array.getElem?_toList];exact hw) (by rw[List.size_toArray];omega)) ⟨e,?_⟩
 refine⟨y,_,I.lset (its':=its.eraseIdx k) hH e ?_ (r.eraseIdx k) ?_,rw',q⟩
 ·show its.toArray.eraseIdxIfInBounds k=(its.eraseIdx k).toArray
  rw[List.eraseIdxIfInBounds_toArray]
 ·have:=r8 xs k
  omega
def Hu:R2:=fun x y H Q=>∃l b xs zs,x=.ref l/\y=.ref b/\H l=some (.lst xs)/\H b=some (.lst zs)/\xs.length+zs.length<=sizeLine/\∀p,H p=none->Q (.ref p) (upd H p (.lst (xs++zs)))
theorem D7:jl X (binaryOp .Add) Hu:=by
 intro pins s σ H x y v u Q I rx ry h
 obtain⟨l,b,xs,zs,rfl,rfl,hH,hB,hz,q⟩:=h
 cases rx
 cases ry
 obtain⟨z,its,n,r,hl,e⟩:=I.lstM hH
 obtain⟨z2,its2,n2,r2,hl2,e2⟩:=I.lstM hB
 refine PySem.P.add_list e e2 ?_ (by rw[List.size_toArray,List.size_toArray];omega)
 have ea:its.toArray++its2.toArray=(its++its2).toArray:=by simp
 rw[ea]
 exact⟨.ref _,_,I.lnew (t':=s.toks) (r.append r2) (by rw[lQa];omega),rfl,q _ I.fresh⟩
def Ht:R2:=fun x y H Q=>∃l k xs,x=.ref l/\y=.int k/\H l=some (.lst xs)/\ -(2^63)<=k/\k<2^63/\xs.length*k.toNat<=sizeLine∧
 ∀p,H p=none->Q (.ref p) (upd H p (.lst (List.replicate k.toNat xs).flatten))
theorem len_rep{α:Type}(xs:List α)(k:Nat):(List.replicate k xs).flatten.length=k*xs.length:=by
 induction k with
 |zero=>simp
 |succ k ih=>rw[List.replicate_succ,List.flatten_cons,lQa,ih,Nat.succ_mul,Nat.add_comm]
theorem EC:jl X (binaryOp .Mult) Ht:=by
 intro pins s σ H x y v u Q I rx ry h
 obtain⟨l,k,xs,rfl,rfl,hH,h1,h2,hz,q⟩:=h
 cases rx
 obtain⟨t,rfl⟩:=ry
 obtain⟨z,its,n,r,hl,e⟩:=I.lstM hH
 have hlen:its.toArray.size*k.toNat<=sizeLine:=by rw[List.size_toArray,←hl];exact hz
 have hcap:¬its.toArray.size*k.toNat>(2^63-1)/8:=by
  have:(sizeLine:Nat)<=(2^63-1)/8:=by decide
  omega
 have hfit:¬(!Builtin.List.listFitsIndex k)=true:=by
  rw[fitsIndex_both h1 h2]
  exact Bool.false_ne_true
 have hlong:¬Builtin.List.listTooLong (its.toArray.size*k.toNat)=true:=by
  rw[qp hlen]
  exact Bool.false_ne_true
 have hnew:List.foldl (fun x1 x2=>x1++x2) #[] (List.replicate (if its.toArray.isEmpty=true then 0 else k.toNat) its.toArray)=(List.replicate k.toNat its).flatten.toArray:=by
  have f0:∀m:Nat,List.foldl (fun x1 x2=>x1++x2) #[] (List.replicate m its.toArray)=(List.replicate m its).flatten.toArray:=fun m=>by
   have:=foldl_rep its m []
   rw[List.nil_append] at this
   exact this
  rw[f0]
  cases its with
  |nil=>simp
  |cons a r'=>rw[if_neg (by simp)]
 refine wpAny_binaryOp_repeat_ref (T:="list") (U:="int") (by decide) ⟨_,e,rfl⟩ (fun s'=>typeIs_int s' k t) noFill_list_mul F.fills_int_mul F.slot_int_rmul repeat_list F.slot_int_index.lookup
  (call_meets F.slot_int_rmul (typeIs_int s k t) F.entry_int_rmul (F.args_int_rmul_2 _ _) (int___rmul___int_list k t l its.toArray n)
   ⟨e,rfl,⟨_,e,rfl⟩,call_meets F.slot_list_mul ⟨_,e,rfl⟩ F.entry_list_mul (F.args_list_mul_2 _ _) (AutoListH.list___mul___list_int_3 l its.toArray n k t hfit hcap hlong) ⟨e,?_⟩⟩)
 rw[hnew]
 exact⟨.ref _,_,I.lnew (t':=s.toks) (r.rep k.toNat) (by rw[len_rep,Nat.mul_comm];exact hz),rfl,q _ I.fresh⟩
end
end L2
namespace Att
open PySem PySem.W PySem.Calls PyProof.Rows
theorem oN{P:Params}{h:Heap}:∀(ns:List Int) (vs:List Value),WellAll P h vs (ns.map WData.int)->IntsAre vs ns:=by
 intro ns
 induction ns with
 | nil=>
   intro vs w
   rw[List.map_nil] at w
   cases w
   exact .nil
 | cons n ns ih=>
   intro vs w
   rw[List.map_cons] at w
   cases w with
   | cons a b=>
     cases a
     exact .cons _ _ (ih _ b)
theorem zg{l:OpenLaw}{n:Nat}(hn:l.most=some n){P:Params}{h:Heap}{args:List WData}{vals:List Value}
  (hpre:l.row.toRowW.claim.pre args=true) (hwl:WellAll P h vals args):
  ∃a vs ns,vals= [Value.ref a]/\args= [WData.list (ns.map WData.int)]/\h.get? a=some {cls:=.type "list",data:=.seq vs.toArray}/\IntsAre vs ns/\ns.length<=n:=by
 have hsh:WShape.hasAll [] args [.list .int]=true:=(pre_splitW hpre).1
 have hc:l.pre.holds [] {args:=args}=true:=(pre_splitW hpre).2
 obtain⟨d,r,rfl,h1,h2⟩:=hasAllW_cons hsh
 obtain rfl:=hasAllW_nil h2
 obtain⟨xs,rfl,h3⟩:=hasW_list h1
 obtain⟨ns,rfl⟩:=items_int h3
 have hlen:ns.length<=n:=by
  unfold OpenLaw.pre at hc
  have h4:(WTm.not (.lt (.lit (.int (n:Int))) (.len (.arg 0)))).holds [] {args:= [.list (ns.map .int)]}=true:=by
   have h4:=(holds_andW hc).1
   rw[hn] at h4
   exact h4
  have h5:=condW_of h4 (w_not (w_lt w_lit (w_len_list (w_arg rfl))))
  rw[lQm] at h5
  refine Nat.le_of_not_lt fun q=> ?_
  have q':(n:Int)<((ns.length:Nat):Int):=by omega
  first
   |(rw[decide_eq_true q'] at h5;exact absurd h5 (by decide))
   |(simp at h5;omega)
 cases hwl with
 | cons w1 w2=>
   cases w2
   cases w1 with
   |list ho hall=>exact⟨_,_,ns,rfl,rfl,ho,oN ns _ hall,hlen⟩
theorem zZ(l:OpenLaw)(args:List WData):l.row.toRowW.claim.post args (.bool true) args=true:=
 postW_of (r:=l.row.toRowW) (X:=(true==true))
  (show WShape.has [] (.bool true) .bool=true by first|rfl|decide|simp[WShape.has,WShape.arms,WShape.armsAll])
  (show(WTm.eq .res (.lit (.bool true))).value [] {args:=args,res:=some (.bool true),after:=args}=some (.bool (true==true)) from w_eq_bool (w_res rfl) w_lit) rfl
theorem wJ{l:OpenLaw}{n:Nat}{q:Program}{loose:List Str}{XP:(Str->Option Value)->Heap->Prop}{YP:World->Heap->Prop}{d:DefRec}
  (hn:l.most=some n) (hdf:d.params.defaults= [])
  (call:∀(w:World) (s₀ s₁:Shared) (mg mb:Str->Option Value) (fa:Addr) (o:Obj) (pm cd doc:Value) (a:Addr) (vs:List Value) (ns:List Int),
   Ground q loose [] XP w s₀ mg mb s₁.heap->YP w s₁.heap→
   s₁.heap.get? fa=some o->o.data=.func (docDef d.name d.params d.body d.scope pm cd doc)->s₁.heap.CodeRec cd d.name->mg d.name=some (.ref fa)→
   s₁.heap.get? a=some {cls:=.type "list",data:=.seq vs.toArray}->IntsAre vs ns->ns.length<=n->s₁.gens= #[]→
   codeAny (model l.prog w) callerA (.call (.ref fa) ⟨[.ref a],[]⟩) (fun r s'=>r=.ok (.ret (.bool true))/\OldK s₁.heap s'.heap/\s'.os=s₁.os/\AllBare s'.gens) s₁):
  WalkO q loose XP YP l.row.toRowW d [] (fun f vs=>PySem.call f vs):=by
 intro w s₀ s₁ mg mb G Y fa o pm cd doc dV kV ho hd hcd hD hmg hg args vals as hpre hlay hrd hwl hlo
 obtain rfl:dV=.none:=Dflts.none hD hdf
 obtain rfl:kV=.none:=Dflts.noKw hD
 obtain⟨a,vs,ns,rfl,rfl,hobj,hints,hlen⟩:=zg hn hpre hwl
 refine enter_call (codeAny_mono (call w s₀ s₁ mg mb fa o pm cd doc a vs ns G Y ho (fd_plain hd) hcd hmg hobj hints hlen hg) fun r s' hq=> ?_)
 obtain⟨rfl,h2,h3,h4⟩:=hq
 exact⟨.inl ⟨.bool true,.bool true,[],rfl,fun _=>rfl,.bool true,zZ l _,fun _=>⟨List.Pairwise.nil,fun _ hm=>(nomatch hm)⟩⟩,h2,h3,h4⟩
end Att
namespace L2
open PySem PySem.Spec PyProof.Rows
theorem s_:∀{vs:List Value} {ns:List Int},IntsAre vs ns->bx (ns.map V.int) vs
 |_,_,.nil=>.nil
 |_,_,.cons n t h=>.cons ⟨t,rfl⟩ (s_ h)
def Cg(H:Hp):Prop:=∀b,H b=none\/∃o xs,H b=some (.frz o (.lst xs))
theorem B7{P:Program}{w:World}{K:PySem.W.Frag}{mg mb:Str->Option Value}{CX:z4}{k:Nat}{fa a:Addr}{fd:FuncData}{x:Str}{sp:Sp}{s₁:Shared}{vs:List Value}{ns:List Int}
  (KX:K.In s₁.heap) (hns:s₁.heap.Ns mainGlobals mg) (hb:s₁.heap.Ns builtinsNs mb) (hbb:∀x:Str,x≠"__name__" ->mb x=bootBuiltins x) (hlim:s₁.heap.NoLimit) (hg:s₁.gens= #[])
  (ha:s₁.heap.get? a=some {cls:=.type "list",data:=.seq vs.toArray}) (hi:IntsAre vs ns) (hl:ns.length<=sizeLine) (hr:eW k callerA)
  (F:∀base:Heap,K.In base->base.Ns mainGlobals mg->bo P w K mg base CX k fa fd [x] sp) (hbind:∀(s:Shared) (u:Value),BindsTo s fd ⟨[u],[]⟩ [(x,u)])
  (hsp:∀H:Hp,Cg H->hG K H a (ns.map V.int)->sp [.ref a] H (fun v _=>v=.bl true) fun _ _ _=>False)
  (hCX:∀H e s',CX [] H s₁ (fun _ _ _=>False) e s'->False):
  codeAny (model P w) callerA (.call (.ref fa) ⟨[.ref a],[]⟩) (fun r s'=>r=.ok (.ret (.bool true))/\OldK s₁.heap s'.heap/\s'.os=s₁.os/\AllBare s'.gens) s₁:=by
 have rv:=s_ hi
 have lenV:=hi.length
 have core:∀H:Hp,Cg H->hG K H a (ns.map V.int)->lq P w H s₁.heap->(∀b,H b≠none->b=a)->(H a≠none->K.lookup a=none)→
   codeAny (model P w) callerA (.call (.ref fa) ⟨[.ref a],[]⟩) (fun r s'=>r=.ok (.ret (.bool true))/\OldK s₁.heap s'.heap/\s'.os=s₁.os/\AllBare s'.gens) s₁:=by
  intro H hO hS hok hA hK
  have base_of:∀{b:Addr} {o:Obj},s₁.heap.get? b=some o->H b=none->(uP s₁.heap H).get? b=some o:=fun e n=>Ac e n
  have noA:∀{b:Addr} {o:Obj} {es:Array DictEntry} {ep:Nat},s₁.heap.get? b=some o->o.data=.dict es ep->H b=none:=fun{b o es ep} e d=>by
   cases q:H b with
   |none=>rfl
   | some u=>
     have e':b=a:=hA b (by rw[q];simp)
     subst e'
     rw[ha] at e;cases e
     have d':Data.seq vs.toArray _=Data.dict es ep:=d
     cases d'
  have nsK:∀{b:Addr} {m:Str->Option Value},s₁.heap.Ns b m->(uP s₁.heap H).Ns b m:=fun{b m} ⟨o,es,ep,e,d,r⟩=>⟨o,es,ep,base_of e (noA e d),d,r⟩
  have hKb:K.In (uP s₁.heap H):=fun b o e=>base_of (KX b o e) (by
   cases q:H b with
   |none=>rfl
   | some u=>
     have e':b=a:=hA b (by rw[q];simp)
     subst e'
     rw[hK (by rw[q];simp)] at e;cases e)
  have hM:Mod K mg (uP s₁.heap H):=⟨hKb,nsK hns,⟨mb,nsK hb,hbb⟩,let ⟨mc,h1,h2⟩:=hlim;⟨mc,nsK h1,h2⟩⟩
  have e0:Dg P w K mg (uP s₁.heap H) callerA [] s₁ H:=⟨rfl,hM,fun b o e=>Di e,Nat.le_of_eq (zf _ _),trivial,fun b hb=>absurd (show b∈([]:List Addr) from hb) (by simp),hok,.of_eq hg⟩
  refine codeAny_mono ((F _ hKb (nsK hns)).run callerA [] s₁ H ⟨[.ref a],[]⟩ [.ref a] [.ref a] _ _ hr e0 (hbind s₁ (.ref a)) (.cons rfl .nil) (hsp H hO hS)) fun r s' h=> ?_
  cases r with
  |error e=>exact(hCX H e s' h).elim
  | ok fl=>
    cases fl with
    |next=>exact False.elim h
    |brk=>exact False.elim h
    |cont=>exact False.elim h
    | ret u=>
      obtain⟨v,H',os,bare,un,hok',r',q⟩:=h
      have q':v=.bl true:=q
      subst q'
      obtain rfl:u=Value.bool true:=r'
      refine⟨rfl,OldK.of_keep fun b o e=> ?_,os,bare⟩
      cases q:H b with
      |none=>exact un.keep b o e q (by intro z;exact absurd (show b∈([]:List Addr) from z) (by simp)) (by simp)
      | some u=>
        rcases hO b with z|⟨ob,xs,z⟩
        · rw[q] at z;cases z
        · have z2:=un.frzs b ob _ z
          obtain⟨e1,_⟩:=hok b _ z
          obtain⟨e2,_⟩:=hok' b _ z2
          rw[e] at e1;cases e1
          exact e2
 cases hk:K.lookup a with
 | some o=>
   have e:=KX a o hk
   rw[ha] at e
   cases e
   refine core (fun _=>none) (fun _=>.inl rfl) (.inr ⟨_,vs.toArray,_,hk,rfl,rfl,rfl,by rw[List.size_toArray,lenV];exact hl,by simpa using rv⟩) (fun b u z=>by have z':(none:Option HO)=some u:=z;cases z') (fun b z=>absurd rfl z) fun z=>absurd rfl z
 | none=>
   refine core (fun b=>if b=a then some (.frz {cls:=.type "list",data:=.seq vs.toArray} (.lst (ns.map V.int))) else none) (fun b=> ?_) (.inl (.inr ⟨{cls:=.type "list",data:=.seq vs.toArray},if_pos rfl⟩)) (fun b u z=> ?_) (fun b z=> ?_) fun _=>hk
   · by_cases hb:b=a
     · exact .inr ⟨_,_,if_pos hb⟩
     · exact .inl (if_neg hb)
   · by_cases hb:b=a
     · have z':=(if_pos hb).symm.trans z
       cases z'
       subst hb
       exact⟨ha,by rw[lQm];exact hl,vs,_,rv,ha⟩
     · have z':=(if_neg hb).symm.trans z
       cases z'
   · by_cases hb:b=a
     · exact hb
     · exact absurd (if_neg hb) z
theorem Dd{l:PySem.W.OpenLaw}{n k:Nat}{q:Program}{loose:List Str}{XP:(Str->Option Value)->Heap->Prop}{YP:World->Heap->Prop}{d:DefRec}{K:Params->PySem.W.Frag}{CX:World->z4}{sp:World->Sp}{x:Str}
  (hn:l.most=some n) (hn2:n<=sizeLine) (hdf:d.params.defaults= []) (hr:eW k callerA)
  (hY:∀(w:World) (h:Heap),YP w h->(K w.params).In h)
  (F:∀(w:World) (mg:Str->Option Value) (fa:Addr) (h:Heap),(K w.params).In h->h.Ns mainGlobals mg->mg d.name=some (.ref fa)→
   ∃ fd:FuncData,(∀(s:Shared) (u:Value),BindsTo s fd ⟨[u],[]⟩ [(x,u)])∧
     ∀base:Heap,(K w.params).In base->base.Ns mainGlobals mg->bo l.prog w (K w.params) mg base (CX w) k fa fd [x] (sp w))
  (hsp:∀(w:World) (H:Hp) (a:Addr) (ns:List Int),ns.length<=n->Cg H->hG (K w.params) H a (ns.map V.int)->sp w [.ref a] H (fun v _=>v=.bl true) fun _ _ _=>False)
  (hCX:∀(w:World) (H:Hp) (s:Shared) (e:Value) (s':Shared),CX w [] H s (fun _ _ _=>False) e s'->False):
  PySem.W.WalkO q loose XP YP l.row.toRowW d [] (fun f vs=>PySem.call f vs):=by
 refine Att.wJ hn hdf fun w s₀ s₁ mg mb fa o pm cd doc a vs ns G Y ho hd hcd hmg hobj hints hlen hg=> ?_
 have KX:=hY w _ Y
 obtain⟨fd,hb,hF⟩:=F w mg fa _ KX G.T.g hmg
 exact B7 KX G.T.g G.T.b G.T.builtins G.T.nolimit hg hobj hints (Nat.le_trans hlen hn2) hr hF hb (fun H hO hS=>hsp w H a ns hlen hO hS) fun H e s'=>hCX w H s₁ e s'
def fW(s:Stmt):Arguments:=match s with
 |.FunctionDef _ a _ _ _ _ _ _ _ _=>a
 |_=>{posonlyargs:= [],args:= [],vararg:=none,kwonlyargs:= [],kw_defaults:= [],kwarg:=none,defaults:= []}
def fh(s:Stmt):List Stmt:=match s with
 |.FunctionDef _ _ b _ _ _ _ _ _ _=>b
 |_=> []
def ar(s:Stmt):Scope:=match s with
 |.FunctionDef _ _ _ _ _ _ sc _ _ _=>sc
 |_=>{kind:=.function,names:= [],isGenerator:=false,isCoroutine:=false}
abbrev dv:z4:=fun _ _ _ _ _ _=>False
abbrev E0:XK:=fun _ _ _=>False
theorem BF{X:Cx}:xk dv X E0:=fun _ _ _ _ _ _ _ h=>h.elim
structure dW(K:PySem.W.Frag)(x qual:Str)(st:Stmt)(f:Addr)(fd:FuncData):Prop where
 ex:∃(oc:Value) (od:Option Addr) (kV doc pm:Value) (an:Option Addr) (cdv ct:Value) (osl:Array (Option Value)),
  fd=PySem.W.fnOf x qual (fW st) (fh st) (ar st) .none kV doc pm an cdv ct/\K.lookup f=some ⟨oc,od,.func fd,osl⟩/\PySem.W.codeIn K cdv qual=true
 kp:PySem.W.keepIn K (.ref f)=true
section
variable{P:Program}{w:World}{K:PySem.W.Frag}{mg:Str->Option Value}{base:Heap}
theorem dW.ok{x qual:Str}{st:Stmt}{f:Addr}{fd:FuncData}{N ps:List Str}{k:Nat}{sp:Sp}(F:dW K x qual st f fd)(S:aB N ps (ar st))(len:∀vs H Q E,sp vs H Q E->vs.length=ps.length)
  (hbody:∀(cdv:Value) (A:Around) (outer:List Env) (s:Shared) (H:Hp) (vs:List V) (Q:VK) (E:XK),eW k (A.deeper (envOfC qual (ar st) s.heap.objs.size f cdv))->sp vs H Q E→
   ∃t,pe (xC dv P w K mg base N qual (ar st) f cdv A outer s H E).nox (fh st) t/\t {nx:=fun _ H'=>Q .non H',rt:=Q} (start N vs) H):bo P w K mg base dv (k+1) f fd ps sp:=by
 obtain⟨oc,od,kV,doc,pm,an,cdv,ct,osl,rfl,lk,hcd⟩:=F.ex
 refine Gk lk hcd S len fun A outer s H vs Q E hr hsp=> ?_
 obtain⟨t,h,q⟩:=hbody cdv A outer s H vs Q E hr hsp
 exact⟨t,h.nox,q⟩
theorem dW.binds{x qual:Str}{st:Stmt}{f:Addr}{fd:FuncData}{ps:List Str}(F:dW K x qual st f fd)
  (h:∀(kV doc pm:Value) (an:Option Addr) (cdv ct:Value) (us:List Value),us.length=ps.length->bindArgs (PySem.W.fnOf x qual (fW st) (fh st) (ar st) .none kV doc pm an cdv ct) ⟨us,[]⟩=pure (ps.zip us)):Binds K fd ps []:=by
 obtain⟨oc,od,kV,doc,pm,an,cdv,ct,osl,rfl,lk,hcd⟩:=F.ex
 exact .all (h kV doc pm an cdv ct)
theorem xg{x qual:Str}{st:Stmt}{f:Addr}{oc:Value}{od an:Option Addr}{osl:Array (Option Value)}{kV doc pm cdv ct:Value}(l:K.lookup f=some ⟨oc,od,.func (PySem.W.fnOf x qual (fW st) (fh st) (ar st) .none kV doc pm an cdv ct),osl⟩)
  (c:PySem.W.codeIn K cdv qual=true) (k:PySem.W.keepIn K (.ref f)=true):dW K x qual st f (PySem.W.fnOf x qual (fW st) (fh st) (ar st) .none kV doc pm an cdv ct):=⟨⟨oc,od,kV,doc,pm,an,cdv,ct,osl,rfl,l,c⟩,k⟩
end
theorem DE{A:Around}{k:Nat}(hr:eW k A):A.units+1<cLine:=Nat.lt_of_le_of_lt (Nat.add_le_add_left (by decide:1<=64) _) hr.units
theorem bh{n:Nat}(h:n<=1000):n<sizeLine:=Nat.lt_of_le_of_lt h (by decide)
section
variable{X:Cx}
theorem pv(i:Nat){x:Str}{pos:Pos}(hN:X.N[i]?=some x:=by rfl)(hv:DM X.env.scope x:=by first|exact Or.inl rfl|exact Or.inr (Or.inl rfl)|exact Or.inr (Or.inr rfl))(hd:(x==("__debug__":Str))=false:=by decide)
  (hcd:(x==("__classdict__":Str))=false:=by decide):PE X (.Name x pos) (Fu i):=Bc hN hv hd hcd
end
section
variable{prog:Program}{w:World}{A:Around}{s:Shared}
theorem mq{elt target iter:Expr}{ifs:List Expr}{scope:Scope}{pos:Pos}{it acc:Value}{env:Env}{R:Result->Shared->Prop}(I:Nat->Shared->Prop)
  (turn:∀n s,I n s->wpAny (model prog w) A (pyNext it) (fun r s₁=>match r with
   |none=>R (.ok .next) s₁
   |some v=>wpAny (model prog w) A (letOwnedTupleGo target it v) (fun _ s₁'=>wpAny (model prog w) A (assign target env v) (fun _ s₂=>
     wpAny (model prog w) A (forIn ifs true fun c r=>if r=true then do let ok←isTrue c env (eval c env);pure (ForInStep.yield ok) else pure (ForInStep.yield r)) (fun ok s₃=>
      if ok=true then wpAny (model prog w) A (eval elt env) (fun x s₄=>
       wpAny (model prog w) A (call (.builtin "list.append") [acc,x]) (fun _ s₅=>∃m,m<n/\I m s₅) (fun _ _=>False) s₄) (fun _ _=>False) s₃
      else∃m,m<n/\I m s₃) (fun _ _=>False) s₂) (fun _ _=>False) s₁') (fun _ _=>False) s₁) (fun _ _=>False) s)
  (n:Nat) (h:I n s):codeAny (model prog w) A (.compLoop (.ListComp elt [⟨target,iter,ifs,0⟩] scope pos) 0 it acc env) R s:=by
 refine codeAny_loop rfl I (fun n s hI=> ?_) n h
 show wpAny _ A ((compTurn (.ListComp elt [⟨target,iter,ifs,0⟩] scope pos) 0 it acc env).onRaise (fun x=>do noteFrame x env;theTreesLotGoes x)) _ _ s
 refine wpAny_noted ?_
 rw[compTurn_list]
 refine wpAny_bind (wpAny_standAt (wpAny_bind (wpAny_mono (turn n s hI) (fun r s₁ h₁=> ?_) fun _ _ h'=>h'.elim)))
 cases r with
 |none=>exact wpAny_pure h₁
 | some v=>
   refine wpAny_bind (wpAny_mono h₁ (fun _ s₁' h₁'=> ?_) fun _ _ h'=>h'.elim)
   refine wpAny_bind (wpAny_mono h₁' (fun _ s₂ h₂=>wpAny_bind (wpAny_mono h₂ (fun ok s₃ h₃=> ?_) fun _ _ h'=>h'.elim)) fun _ _ h'=>h'.elim)
   cases ok with
   |false=>exact wpAny_pure ⟨rfl,h₃⟩
   | true=>
     exact wpAny_bind (wpAny_bind (wpAny_mono h₃ (fun x s₄ h₄=>wpAny_bind (wpAny_mono h₄ (fun _ s₅ h₅=>wpAny_pure (wpAny_pure ⟨rfl,h₅⟩)) fun _ _ h'=>h'.elim)) fun _ _ h'=>h'.elim))
end
def aV(X:Cx)(N:List Str)(scope:Scope)(cl:List (Str×Addr))(C:Addr)(s:Shared)(H:Hp)(fp:List Addr):Cx where
 prog:=X.prog
 w:=X.w
 K:=X.K
 mg:=X.mg
 base:=X.base
 A:=X.A
 N:=N
 s₀:=s
 H₀:=H
 env:=compEnvC scope cl C X.env
 outer:=X.stack
 stack:=X.stack
 ex:=fp
 fn:=fun _=>false
 calm:=X.calm
 pn:= []
 xe:=fun _ _=>False
def iL(js:List (Option Nat))(σ:St):St:=js.map fun o=>o.bind fun j=>σ.getD j none
structure aQ(X:Cx)(N:List Str)(js:List (Option Nat))(scope:Scope)(cl:List (Str×Addr)):Prop where
 kind:scope.kind=.function
 nocell:∀y∈scope.names,y.2≠.cell
 names:∀y∈scope.names,y.2=.local->scope.names.lookup y.1=some .local
 clos:closureFor scope X.env=pure cl
 sub:∀x c,cl.lookup x=some c->X.env.cells.lookup x=some c
 has:∀x,((relabel scope X.env).names.lookup x=some .cell\/(relabel scope X.env).names.lookup x=some .free)->∃c,cl.lookup x=some c
 cap:∀(k j:Nat) (x:Str),js[k]?=some (some j)->N[k]?=some x->X.N[j]?=some x/\(X.env.kindOf x=some .cell\/X.env.kindOf x=some .free)/\((relabel scope X.env).names.lookup x=some .cell\/(relabel scope X.env).names.lookup x=some .free)
 len:js.length=N.length
def oP(X:Cx)(ifs:List Expr)(t:TT):Prop:=
 ∀ (pins:List (Addr×Obj)) (s:Shared) (σ:St) (H:Hp) (Q:Bool->Hp->Prop),Inv X pins σ H s->t σ H Q→
   wpAny (model X.prog X.w) X.A (forIn ifs true fun c r=>if r=true then do let ok←isTrue c X.env (eval c X.env);pure (ForInStep.yield ok) else pure (ForInStep.yield r)) (TP X pins σ Q) X.xe s
theorem E6{X:Cx}:oP X [] (fun _ H Q=>Q true H):=fun _ _ _ H _ I h=>wpAny_tests_nil ⟨H,I,h⟩
theorem EY{X:Cx}{c:Expr}{t:TT}(hc:PT X c t):oP X [c] t:=fun pins s σ H Q I h=>
 wpAny_tests_one (cG (hc pins s σ H Q I h) fun ok s' h'=>h')
def FO(J:It)(g:TG)(tt:TT)(te:TE)(Q:VK)(D:Addr)(σ:St)(H:Hp):Prop:=
 ∃ W:Nat->Nat->St->Hp->Prop,(∃m,W 0 m σ H)/\∀i m σ' H',W i m σ' H'→
   (J.stop i H'/\Q (.ref D) H')\/(J.go i H'/\∃Nx:St->Hp->Prop,(∀σ'' H'',Nx σ'' H''->∃m',m'<m/\W (i+1) m' σ'' H'')∧
     ∀ x H2,J.yld i H' x H2->g x σ' H2 fun σ3 H3=>tt σ3 H3 fun ok H4=>
       if ok=true then te σ3 H4 fun y H5=>∃xs,H5 D=some (.lst xs)/\xs.length<sizeLine/\Nx σ3 (upd H5 D (.lst (xs++ [y]))) else Nx σ3 H4)
def Ae(js:List (Option Nat))(wi:TI)(g:TG)(tt:TT)(te:TE):TE:=fun σ H Q=>wi σ H fun J H1=>∀D,H1 D=none->FO J g tt te Q D (iL js σ) (upd H1 D (.lst []))
theorem Cb{X:Cx}{N:List Str}{js:List (Option Nat)}{scope:Scope}{cl:List (Str×Addr)}{tg iter elt:Expr}{ifs:List Expr}{pos:Pos}{wi:TI}{g:TG}{tt:TT}{te:TE}
  (S:aQ X N js scope cl) (hc:X.calm=true) (hi:PI X tg iter wi)
  (hg:∀C s H fp,PG (aV X N scope cl C s H fp) tg g) (ht:∀C s H fp,oP (aV X N scope cl C s H fp) ifs tt) (he:∀C s H fp,PE (aV X N scope cl C s H fp) elt te)
  (hs:∀x,foldedSetIterable iter X.env x=pure x:=by intro _;rfl):PE X (.ListComp elt [⟨tg,iter,ifs,0⟩] scope pos) (Ae js wi g tt te):=by
 intro pins s σ H Q I h
 rw[eval_ListComp]
 refine wpAny_comprehension_free (use:=none) rfl hs S.clos S.kind S.names (cG (hi pins s σ H _ I h) fun v s1 h1=>cG h1 fun itv s2 h2=> ?_)
 obtain⟨it,fp,tn,J,H2,e,I2,T,st2,f2,hD⟩:=h2
 subst e
 refine wpAny_newObj_type (wpAny_newFunctionEnv S.nocell (by intro y hy;simp at hy) (fun h₁ hns₁ hsb₁=> ?_) S.kind)
 dsimp only at hns₁ hsb₁⊢
 generalize hH2:s2.heap.push {cls:=.type "list",dict:=none,data:=.seq ([]:List Value).toArray}=P2 at hns₁ hsb₁⊢
 have hC:P2.objs.size=s2.heap.objs.size+1:=by rw[←hH2,Heap.size_push]
 have hDC:s2.heap.objs.size≠P2.objs.size:=by rw[hC];exact Nat.ne_of_lt (Nat.lt_succ_self _)
 have hCle:s2.heap.objs.size<=P2.objs.size:=by rw[hC];exact Nat.le_succ _
 have below:∀b,b<s2.heap.objs.size->b≠P2.objs.size:=fun b hb=>by rw[hC];exact Nat.ne_of_lt (Nat.lt_succ_of_lt hb)
 have old:∀b o,s2.heap.get? b=some o->h₁.get? b=some o:=fun b o e=>hsb₁.extBut b o (below b (Heap.lt_size e)) (Heap.get?_push_of_some _ (hH2▸Heap.get?_push_of_some _ e))
 have hnew:h₁.get? s2.heap.objs.size=some {cls:=.type "list",dict:=none,data:=.seq ([]:List Value).toArray}:=hsb₁.extBut _ _ hDC (Heap.get?_push_of_some _ (hH2▸Heap.get?_push_size _ rfl))
 have nD:H2 s2.heap.objs.size=none:=I2.fresh
 have nC:H2 P2.objs.size=none:=I2.hok.fresh hCle
 have fpo:∀b∈fp,b<s2.heap.objs.size:=fun b hb=>by
  obtain⟨o,e,_⟩:=T.obj _ _ st2 b hb
  exact Heap.lt_size e
 obtain⟨W,⟨m0,w0⟩,turn⟩:=hD s2.heap.objs.size nD
 have ok':(aV X N scope cl P2.objs.size s2 H2 fp).Ok:=by
  refine⟨I2.ok.mod,S.kind,I2.ok.glob,I2.ok.blt,hCle,fun x y c h1 h2=>I2.ok.inj x y c (S.sub x c h1) (S.sub y c h2),S.has,(fun x c h=>by cases h),I2.ok.hd,I2.ok.frames,.inl rfl,
   fun b hb=>⟨below b (fpo b hb),fun x c h=>(f2 b hb).2.2.2.2.1 x c (S.sub x c h)⟩,I2.bs,Nat.le_trans I2.ok.bsz I2.sz,fun b o e hb=> ?_,fun b hb z=> ?_,I2.stack,I2.stkFree⟩
  ·rcases(f2 b hb).2.2.2.1 with z|z
   ·exact I2.ok.noex b o e z
   ·exact absurd (Nat.lt_of_lt_of_le (Nat.lt_of_lt_of_le (Heap.lt_size e) I2.ok.bsz) z) (Nat.lt_irrefl _)
  ·rcases List.mem_cons.mp (I2.stkSub b z) with q|q
   ·exact(f2 b hb).2.1 q
   ·exact(f2 b hb).2.2.1 q
 have hobj:cK X.prog X.w (upd H2 s2.heap.objs.size (.lst [])) h₁ s2.heap.objs.size (.lst []):=⟨Nat.zero_le _,[],0,.nil,hnew⟩
 have I4:Inv (aV X N scope cl P2.objs.size s2 H2 fp) [] (iL js σ) (upd H2 s2.heap.objs.size (.lst [])) {s2 with heap:=h₁,toks:=s2.toks+([]:List (Str×Value)).length}:=by
  refine⟨ok',rfl,I2.bare,Un.laid old (Nat.le_refl _) nD,⟨_,hns₁,fun i x v h1 h2 h3=> ?_⟩,fun x c h=> ?_,by show upd H2 _ _ P2.objs.size=none;rw[bf hDC.symm];exact nC,fun x c h=> ?_,fun p hp=>absurd (show p∈([]:List (Addr×Obj)) from hp) (by simp),I2.hok.laid old (Nat.le_refl _) hobj,by show(iL js σ).length=N.length;unfold iL;rw[lQm];exact S.len⟩
  ·unfold iL at h2
   rw[gQm] at h2
   cases e:js[i]? with
   |none=>rw[e] at h2;cases h2
   | some o=>
     rw[e] at h2
     cases o with
     |none=>cases h2
     | some j=>
       have h2':σ.getD j none=some v:=Option.some.inj h2
       have hj:σ[j]?=some (some v):=by
         rw[List.getD_eq_getElem?_getD] at h2'
         cases q:σ[j]? with
         |none=>rw[q] at h2';cases h2'
         |some y=>rw[q] at h2';exact congrArg some h2'
       obtain⟨c1,c2,c3⟩:=S.cap i j x e h1
       obtain⟨m,hn,hl⟩:=I2.loc
       have vis:DM X.env.scope x:=by
         rcases c2 with z|z
         · exact .inr (.inl z)
         · exact .inr (.inr z)
       obtain⟨u,r,l⟩:=hl j x v c1 hj vis
       refine⟨u,r,.inr ⟨c3,?_⟩⟩
       obtain⟨c,hc'⟩:=S.has x c3
       refine⟨c,hc',?_⟩
       rcases l with⟨z,_⟩|⟨_,c',e',z⟩
       · rcases c2 with y|y <;>rw[y] at z <;>cases z
       · rw[S.sub x c hc'] at e'
         cases e'
         obtain⟨o,ho,hd⟩:=z
         exact⟨o,old _ _ ho,hd⟩
  ·obtain⟨v,o,ho,hd⟩:=I2.cell x c (S.sub x c h)
   exact⟨v,o,old _ _ ho,hd⟩
  ·obtain⟨v,o,ho,hd⟩:=I2.cell x c (S.sub x c h)
   rw[bf (Nat.ne_of_lt (Heap.lt_size ho))]
   exact I2.freeC x c (S.sub x c h)
 have stat:∀{pins':List (Addr×Obj)} {H':Hp},pins'= []->(∀b∈fp,H' b=none)->∀b∈fp,mH (aV X N scope cl P2.objs.size s2 H2 fp) pins' H' b:=fun{pins' H'} ep hn b hb=>by
  subst ep
  refine⟨hn b hb,below b (fpo b hb),fun z=>ok'.exfs b hb z,.inl hb,fun x c h=>(f2 b hb).2.2.2.2.1 x c (S.sub x c h),fun p hp=>absurd (show p∈([]:List (Addr×Obj)) from hp) (by simp)⟩
 have loop:codeAny (model X.prog X.w) X.A (.compLoop (.ListComp elt [⟨tg,iter,ifs,0⟩] scope pos) 0 (.ref it) (.ref s2.heap.objs.size) (compEnvC scope cl P2.objs.size X.env))
   (compPost (model X.prog X.w) X.A X.xe none (EP X pins σ Q) (.ref s2.heap.objs.size) P2.objs.size) {s2 with heap:=h₁,toks:=s2.toks+([]:List (Str×Value)).length}:=by
  refine mq (fun n s'=>∃i σ' H',Inv (aV X N scope cl P2.objs.size s2 H2 fp) [] σ' H' s'/\tn i s'.heap/\(∀b∈fp,H' b=none)/\W i n σ' H') ?_ m0
   ⟨0,_,_,I4,T.keep _ _ _ st2 fun b _ o e=>old b o e,fun b hb=>by rw[bf (Nat.ne_of_lt (fpo b hb))];exact(f2 b hb).1,w0⟩
  rintro n s3 ⟨i,σ3,H3,I3,st3,fr3,w3⟩
  rcases turn i n σ3 H3 w3 with⟨stop,q⟩|⟨go,Nx,hN,step⟩
  ·refine cG (T.done (aV X N scope cl P2.objs.size s2 H2 fp) rfl rfl rfl hc i [] s3 σ3 H3 _ I3 (stat rfl fr3) st3 stop) fun r s4 qr=> ?_
   obtain⟨hr,I5⟩:=qr
   subst hr
   obtain⟨m,hn,_⟩:=id I5.loc
   refine⟨m,hn,fun h' hs'=>⟨.ref s2.heap.objs.size,H3,?_,rfl,q⟩⟩
   have u:=I5.base
   have ne:∀b o,s2.heap.get? b=some o->b≠P2.objs.size:=fun b o e=>below b (Heap.lt_size e)
   refine I2.call' (ch:=fp) I5.os ⟨fun b o e n hb hx=>(hs'.2 b (ne b o e)).trans (u.keep b o e n hb hx),fun b o e n hb hx=> ?_,u.free,fun b o e hx=> ?_,u.tups,u.frzs,u.tbls⟩ (fun b ob e=> ?_) I5.bare fun b hb=>⟨(f2 b hb).2.2.2.1,(f2 b hb).2.1,(f2 b hb).2.2.2.2.1,(f2 b hb).2.2.2.2.2⟩
   ·obtain⟨sl,e1⟩:=u.slot b o e n hb hx
    exact⟨sl,(hs'.2 b (ne b o e)).trans e1⟩
   ·obtain⟨o',e1⟩:=u.there b o e hx
    exact⟨o',(hs'.2 b (ne b o e)).trans e1⟩
   ·refine(I5.hok b ob e).stay (fun c w' hc q=>(hs'.2 c ?_).trans q) (fun _ q=>q) fun _ _ q=>q
    have fC:H3 P2.objs.size=none:=I5.free
    rintro rfl
    rcases hc with z|z
    ·rw[←z,fC] at e;cases e
    ·rw[fC] at z;cases z
  ·refine cG (T.item (aV X N scope cl P2.objs.size s2 H2 fp) rfl rfl rfl hc i [] s3 σ3 H3 _ I3 (stat rfl fr3) st3 go) fun r s4 qr=> ?_
   obtain⟨u,hr,h4⟩:=qr
   subst hr
   refine cG h4 fun _ s5 qr=> ?_
   obtain⟨x,H5,I5,r5,y5,st5,fr5⟩:=qr
   have I5':=I5.pinned (stat rfl fr5) (T.obj _ _ st5)
   refine cG (hg P2.objs.size s2 H2 fp _ s5 σ3 H5 x u _ I5' r5 (step x H5 y5)) fun _ s6 qr=> ?_
   obtain⟨σ6,H6,I6,q6⟩:=qr
   refine cG (ht P2.objs.size s2 H2 fp _ s6 σ6 H6 _ I6 q6) fun ok s7 qr=> ?_
   obtain⟨H7,I7,q7⟩:=qr
   have again:∀{s8:Shared} {H8:Hp},Inv (aV X N scope cl P2.objs.size s2 H2 fp) ([]++kJ fp s5.heap) σ6 H8 s8->Nx σ6 H8->∃m,m<n/\∃i σ' H',Inv (aV X N scope cl P2.objs.size s2 H2 fp) [] σ' H' s8/\tn i s8.heap/\(∀b∈fp,H' b=none)/\W i m σ' H':=fun{s8 H8} I8 n8=>by
    obtain⟨m',hm,w8⟩:=hN σ6 H8 n8
    refine⟨m',hm,i+1,σ6,H8,I8.unpinned,T.keep _ _ _ st5 fun b hb o e=>(I8.pin (b,o) (List.mem_append_right _ (List.mem_append_right _ (dh hb e)))).1,fun b hb=> ?_,w8⟩
    obtain⟨o,e,d⟩:=T.obj _ _ st5 b hb
    exact(I8.pin (b,o) (List.mem_append_right _ (List.mem_append_right _ (dh hb e)))).2.1
   cases ok with
   |false=>exact again I7 q7
   | true=>
     refine cG (he P2.objs.size s2 H2 fp _ s7 σ6 H7 _ I7 q7) fun yv s8 qr=> ?_
     obtain⟨y,H8,I8,ry,xs,hx,hl,n8⟩:=qr
     refine cG (nu (X:=aV X N scope cl P2.objs.size s2 H2 fp) _ s8 σ6 H8 (.ref s2.heap.objs.size) [y] (.ref s2.heap.objs.size) [yv] (fun _ H'=>Nx σ6 H') I8 rfl (.cons ry .nil) ⟨_,xs,y,rfl,rfl,hx,hl,n8⟩) fun _ s9 qr=> ?_
     obtain⟨z,H9,I9,_,q9⟩:=qr
     exact again I9 q9
 exact codeAny_compStart_list loop (T.self _ 0 _ _ _ (T.keep _ _ _ st2 fun b _ o e=>old b o e) loop)
section
variable{X:Cx}
theorem Ar:gC X (.builtin "isinstance") (fun xs H Q=>∃x T t b,xs= [x,.ty T]/\mI X.K H x t/\PySem.W.kitOne X.K t (.type T)=some b/\Q (.bl b) H):=by
 intro pins s σ H xs us Q I r h
 obtain⟨x,T,t,b,rfl,ty,e,q⟩:=h
 obtain⟨u,u',rfl,rx,rt⟩:=vals2 r
 cases (show u'=Value.type T from rt)
 exact zm I rx ty e fun tk=>⟨.bl b,H,I.tok tk,rfl,q⟩
def Dz:List V->List V->Bool
 | [],[]=>true
 |x::xs,y::ys=>kf x y&&Dz xs ys
 |_,_=>false
theorem yg:∀{xs ys:List V},xs.length≠ys.length->Dz xs ys=false
 | [],[],h=>absurd rfl h
 | [],_::_,_=>rfl
 |_::_,[],_=>rfl
 | x::xs,y::ys,h=>by
   have:=yg (xs:=xs) (ys:=ys) fun e=>h (by simp[e])
   show(kf x y&&Dz xs ys)=false
   rw[this,Bool.and_false]
theorem ym:∀{xs ys:List V},xs.length=ys.length->(List.range xs.length).all (fun j=>kf (xs.getD j .non) (ys.getD j .non))=Dz xs ys
 | [],[],_=>rfl
 | [],_::_,h=>by cases h
 |_::_,[],h=>by cases h
 | x::xs,y::ys,h=>by
   have ih:=ym (xs:=xs) (ys:=ys) (Nat.succ.inj h)
   rw[List.length_cons,List.range_succ_eq_map,List.all_cons,List.all_map]
   show(kf x y&&_)=(kf x y&&Dz xs ys)
   rw[←ih]
   rfl
theorem El{A:Around}{s:Shared}{xs ys:List V}{us vs:List Value}(r:bx xs us)(r':bx ys vs)(f:xs.all eZ=true)(f':ys.all eZ=true)(j:Nat)(h1:j<us.toArray.size)(h2:j<vs.toArray.size):
  SeqAt.EqAt A s us.toArray[j] vs.toArray[j] (kf (xs.getD j .non) (ys.getD j .non)):=by
 have l1:=r.length
 have l2:=r'.length
 have g1:j<xs.length:=by rw[l1];simpa using h1
 have g2:j<ys.length:=by rw[l2];simpa using h2
 obtain⟨u,e1,q1⟩:=r.get (gQe g1)
 obtain⟨v,e2,q2⟩:=r'.get (gQe g2)
 have d1:xs.getD j .non=xs[j]:=by rw[List.getD_eq_getElem?_getD,gQe g1];rfl
 have d2:ys.getD j .non=ys[j]:=by rw[List.getD_eq_getElem?_getD,gQe g2];rfl
 have a1:us.toArray[j]=u:=by
  have:=(gQs.mp e1).2
  simpa using this
 have a2:vs.toArray[j]=v:=by
  have:=(gQs.mp e2).2
  simpa using this
 rw[a1,a2,d1,d2]
 exact Bi q1 q2 (List.all_eq_true.mp f _ (List.getElem_mem g1)) (List.all_eq_true.mp f' _ (List.getElem_mem g2))
def Hq(K:PySem.W.Frag)(neg:Bool):R2:=fun x y H Q=>∃a b xs ys,x=.ref a/\y=.ref b/\hG K H a xs/\hG K H b ys/\xs.all eZ=true/\ys.all eZ=true/\Q (.bl (if neg then !Dz xs ys else Dz xs ys)) H
theorem DZ(hu:X.A.units<cLine):jl X (compareOp .NotEq) (Hq X.K true):=by
 intro pins s σ H x y v u Q I rx ry h
 obtain⟨a,b,xs,ys,rfl,rfl,ha,hb,fa,fb,q⟩:=h
 cases rx
 cases ry
 obtain⟨its,r,pl,hz⟩:=I.list ha
 obtain⟨jts,r',pl',hz'⟩:=I.list hb
 by_cases hl:xs.length=ys.length
 ·have hsz:its.toArray.size=jts.toArray.size:=by simp[←r.length,←r'.length,hl]
  refine SeqAt.RcNeAt.lists (e:=fun j=>kf (xs.getD j .non) (ys.getD j .non)) pl.isList pl'.isList hsz hu (fun j h1 h2=>El r r' fa fb j h1 h2) _ _ _ _ ⟨.bl _,H,I,rfl,?_⟩
  rw[show its.toArray.size=xs.length by simp[r.length],ym hl]
  exact q
 ·refine SeqAt.RcNeAt.lists_lengths pl.isList pl'.isList (by simpa [←r.length,←r'.length] using hl) hu _ _ _ _ ⟨.bl _,H,I,rfl,?_⟩
  have q':Q (.bl (!Dz xs ys)) H:=q
  rw[yg hl] at q'
  exact q'
theorem AW:gC X (.type "range") (fun xs H Q=>∃j:Int,xs= [.int j]/\∀p,H p=none->Q (.ref p) (upd H p (.rng 0 j))):=by
 intro pins s σ H xs us Q I r h
 obtain⟨j,rfl,q⟩:=h
 obtain⟨u,rfl,t,rfl⟩:=vals1 r
 refine call_range_1 ⟨.ref _,_,I.laid (o:=.rng 0 j) (fun b ob q=>Heap.get?_push_of_some _ q) (Nat.le_refl _) ⟨_,_,_,Heap.get?_push_size _ rfl⟩,rfl,q _ I.fresh⟩
def upTo(lo:Int)(n:Nat):List V:=(List.range n).map fun(i:Nat)=>V.int (lo+(i:Int))
theorem zu{lo:Int}{n:Nat}{its:List Value}(h:its.length=n)(h2:∀(j:Nat) (v:Value),its[j]?=some v->∃t,v=.int (lo+j) t):bx (upTo lo n) its:=by
 have gen:∀(its:List Value) (lo:Int) (n:Nat),its.length=n->(∀(j:Nat) (v:Value),its[j]?=some v->∃t,v=.int (lo+j) t)->bx (upTo lo n) its:=by
  intro its
  induction its with
  |nil=>intro lo n h _;subst h;exact .nil
  | cons v r ih=>
    intro lo n h h2
    cases n with
    |zero=>cases h
    | succ n=>
      have e:upTo lo (n+1)=V.int lo::upTo (lo+1) n:=by
        unfold upTo
        rw[List.range_succ_eq_map,List.map_cons,List.map_map]
        refine congr (congrArg List.cons (by simp)) (List.map_congr_left fun i _=> ?_)
        simp only[Function.comp]
        exact congrArg V.int (by omega)
      rw[e]
      obtain⟨t,ht⟩:=h2 0 v rfl
      refine .cons ⟨t,by rw[ht];simp⟩ (ih (lo+1) n (Nat.succ.inj h) fun j w hw=> ?_)
      obtain⟨t,ht⟩:=h2 (j+1) w (by simpa using hw)
      exact⟨t,by rw[ht];congr 1;omega⟩
 exact gen its lo n h h2
end
section
variable{X:Cx}
theorem Af{bs:List Bool}{its:List Value}(r:bx (bs.map V.bl) its){i:Nat}{v:Value}(h:its.toArray[i]?=some v):v=.bool (bs.getD i false):=by
 have hi:i<its.length:=by
  have:=(Array.getElem?_eq_some_iff.mp h).1
  simpa using this
 have l:=r.length
 rw[lQm] at l
 have hb:i<bs.length:=by omega
 obtain⟨u,e,q⟩:=r.get (i:=i) (x:=V.bl bs[i]) (by rw[gQm,gQe hb];rfl)
 have e':its[i]?=some v:=by simpa using h
 rw[e] at e'
 cases e'
 have d:bs.getD i false=bs[i]:=by rw[List.getD_eq_getElem?_getD,gQe hb];rfl
 rw[d]
 exact q
theorem vW:∀bs:List Bool,(List.range bs.length).all (fun i=>bs.getD i false)=bs.all id
 | []=>rfl
 | b::bs=>by
   rw[List.length_cons,List.range_succ_eq_map,List.all_cons,List.all_map,List.all_cons,←vW bs]
   rfl
def Ga(K:PySem.W.Frag)(f:List Bool->Bool):List V->Hp->VK->Prop:=fun xs H Q=>∃a bs,xs= [.ref a]/\hG K H a (bs.map V.bl)/\Q (.bl (f bs)) H
theorem y3(hc:X.calm=true):gC X (.builtin "all") (Ga X.K fun bs=>bs.all id):=by
 intro pins s σ H xs us Q I r h
 obtain⟨a,bs,rfl,ha,q⟩:=h
 obtain⟨u,rfl,rx⟩:=vals1 r
 cases (show u=Value.ref a from rx)
 obtain⟨its,rv,pl,hz⟩:=I.list ha
 have hl:its.toArray.size=bs.length:=by have:=rv.length;simp at this;simp[this]
 have hlt:a<s.heap.objs.size:=by obtain⟨o,e,_⟩:=pl.isList;exact Heap.lt_size e
 refine call_all_walk (wpAny_pyIter_list pl.isList ⟨s.heap.objs.size,_,_,_,_,_,fun i=>bs.getD i false,rfl,Walks.list (A:=X.A.in1) (show X.A.in1.handled=none from I.ok.hd hc) s.heap.objs.size a (Nat.ne_of_lt hlt) its.toArray,⟨⟨_,Heap.get?_push_size _ rfl,rfl,rfl⟩,pl.isList.at fun o e=>Heap.get?_push_of_some _ e⟩,?_,fun h' tk hk=> ?_⟩)
 ·intro i v s' Q' E' hv hq
  rw[Af rv hv]
  exact wpAny_truthy_bool hq
 ·rw[hl,vW]
  refine⟨.bl _,H,I.kept (h':=h') fun b o e=>hk b o ?_ (Heap.get?_push_of_some _ e),rfl,q⟩
  have:=Heap.lt_size e
  simp
  exact Nat.ne_of_lt this
end
end L2
namespace Dk
open PySem
theorem qy:mroOf (Value.type "dict")=pure [Value.type "dict",Value.type "object"]:=by
 rw[mroOf_type]
 rfl
theorem oD:typeLookup (Value.type "dict") (Str.ofString "__new__")=pure (some (Value.builtin "dict.__new__")):=by
 rw[typeLookup_type,builtinLookup_eq_fast]
 rfl
theorem vE:isSubtype (Value.type "dict") (Value.type "dict")=pure true:=by
 rw[isSubtype_type]
 rfl
theorem gD:plainId "dict.__new__"=true:=by decide +kernel
theorem c_:TypeCalled "dict" "dict.__new__" "dict.__init__" where
 notType:=by decide +kernel
 canCreate:=by decide +kernel
 mro:=⟨_,_,qy⟩
 made:=madeBy_type qy oD (by decide +kernel)
 plain:=gD
 sub:=vE
 init:=F.slot_dict_init
theorem oz(a:Value):checkTypeCall "dict" {pos:= [a]}=pure ():=by rfl
theorem qE(a:Value):checkBuiltinCall "dict.__new__" {pos:= [Value.type "dict",a]}=pure ():=by with_unfolding_all rfl
theorem qg:entryFor table "dict.__new__"=some Builtin.«dict.__new__»:=by rfl
theorem oH{prog:Program}{w:World}{A:Around}{E:Value->Shared->Prop}{s:Shared}(a:Value){Q₁:Value->Shared->Prop}
  (h:Q₁ (.ref s.heap.objs.size) {s with heap:=s.heap.push {cls:=.type "dict",data:=.dict #[]}}):
  codeAny (model prog w) A (.call (.builtin "dict.__new__") {pos:= [.type "dict",a]}) (wants Q₁ E) s:=by
 refine codeAny_of_tree ?_
 show wpAny _ _ (do checkBuiltinCall "dict.__new__" _;_) _ _ _
 refine wpAny_bind (wpAny_of_eq (qE a) (wpAny_pure ⟨plainId_quiet gD _,codeAny_builtin qg ?_⟩))
 rw[Around.under_plainId gD]
 refine wpAny_bind (wpAny_pure (wpAny_ite_false rfl (wpAny_bind (wpAny_of_eq vE (wpAny_ite_false rfl (wpAny_bind (wpAny_of_eq qy (wpAny_ite_false ?_ ?_))))))))
 ·rfl
 ·refine wpAny_bind ?_
  have e:newObj (.type "dict") (.dict #[])=newObjAsIs (.type "dict") (.dict #[]):=by
   unfold newObj
   simp
  rw[e]
  exact wpAny_bind (wpAny_alloc (wpAny_pure (wpAny_pure h)))
theorem wa{prog:Program}{w:World}{A:Around}{E:Value->Shared->Prop}{s:Shared}{a:Value}{Q:Value->Shared->Prop}
  (h:wpAny (model prog w) A.in1.in1 (Builtin.«dict.__init__» {pos:= [.ref s.heap.objs.size,a]})
   (fun fin s'=>match fin with|.done f=>wants (fun r s₂=>r=.none/\Q (.ref s.heap.objs.size) s₂) E (.ok f) s'|.again c'=>c'.quiet=true/\codeAny (model prog w) A.in1 c' (wants (fun r s₂=>r=.none/\Q (.ref s.heap.objs.size) s₂) E) s')
   (fun e s'=>wants (fun r s₂=>r=.none/\Q (.ref s.heap.objs.size) s₂) E (.error e) s') {s with heap:=s.heap.push {cls:=.type "dict",data:=.dict #[]}}):
  wpAny (model prog w) A (call (.type "dict") [a]) Q E s:=by
 obtain⟨c,tl,hmro⟩:=c_.mro
 have hmade:=c_.made
 have hsub:=c_.sub
 refine wpAny_call (codeAny_of_tree ?_)
 refine wpAny_pure ⟨Code.quiet_builtin _ (by decide +kernel),codeAny_builtin F.entry_type_call ?_⟩
 rw[Around.under_plain (weight_type_call_type "dict" [a] []) rfl]
 have h1:=c_.notType
 have h2:=c_.canCreate
 have hct:=oz a
 unfold Builtin.«type.__call__»
 dsimp only
 refine wpAny_ite_false rfl ?_
 refine wpAny_ite_false (by rw[h2];rfl) ?_
 refine wpAny_bind (wpAny_of_eq hct (wpAny_bind (wpAny_of_eq hmro (wpAny_ite_false rfl (wpAny_bind (wpAny_of_eq hmade (wpAny_bind (wpAny_pure (wpAny_bind (wpAny_holding (wpAny_call (codeAny_mono (oH (E:=E) (Q₁:=fun v s₁=>v=.ref s.heap.objs.size/\s₁={s with heap:=s.heap.push {cls:=.type "dict",data:=.dict #[]}}) a ⟨rfl,rfl⟩) fun r s₁ hr=> ?_))))))))))))
 cases r with
 |error e=>exact hr
 | ok fl=>
   cases fl with
   | ret obj=>
     obtain⟨rfl,rfl⟩:=hr
     have hS:=Heap.get?_push_size s.heap (o:={cls:=.type "dict",data:=.dict #[]}) rfl
     have hT:Shared.TypeIs {s with heap:=s.heap.push {cls:=.type "dict",data:=.dict #[]}} (.ref s.heap.objs.size) "dict":=⟨_,hS,rfl⟩
     have hli:=c_.init.lookup
     have hbi:=c_.init.bind (.ref s.heap.objs.size)
     refine wpAny_bind (wpAny_isInstance hT hsub (wpAny_ite_false rfl (wpAny_bind (wpAny_holding ?_))))
     unfold callSpecial?
     refine wpAny_bind (wpAny_specialOf hT hli (wpAny_holding (wpAny_bind (wpAny_of_eq hbi (wpAny_bind (wpAny_call (codeAny_mono (codeAny_call_builtin c_.init.plain F.entry_dict_init (c_.init.check _ _ _ _ _ [a] [] _ hT (F.args_dict_init_2 _ _) h)) fun r s₂ hr=> ?_)))))))
     cases r with
     |error e=>exact hr
     | ok fl=>
       cases fl with
       | ret v=>
         obtain⟨rfl,hq⟩:=hr
         exact wpAny_pure (wpAny_ite_false rfl (wpAny_pure hq))
       |_=>exact hr.elim
   |_=>exact hr.elim
theorem jc:entryFor table "dict.update.loop"=some Builtin.«dict.update.loop»:=by rfl
theorem fM:plainId "dict.update.loop"=true:=by decide +kernel
section
variable{prog:Program}{w:World}{K:Type}[DecidableEq K]{knd:KeyKind prog w K}
theorem w4(kvs:List (K×Value))(k:K)(v:Value):(stored kvs k v).length<=kvs.length+1:=by
 unfold stored
 split
 ·rw[lQm];omega
 ·rw[lQa];simp
def D8(kk:Nat->K)(vv:Nat->Value):Nat->List (K×Value)
 |0=> []
 |i+1=>stored (D8 kk vv i) (kk i) (vv i)
theorem yz(kk:Nat->K)(vv:Nat->Value):∀i,(D8 kk vv i).length<=i
 |0=>Nat.le_refl _
 |i+1=>Nat.le_trans (w4 _ _ _) (Nat.succ_le_succ (yz kk vv i))
end
end Dk
namespace L2
open PySem PySem.Spec PyProof.Rows
section
variable{X:Cx}
theorem key_is{k:Key}{u:Value}(r:RelV (kV k) u)(P:Program)(w:World):(bK P w).is k u=true:=by
 cases k with
 |inl i=>obtain⟨t,rfl⟩:=(show∃t,u=Value.int i t from r);simp[bK,nO,Value.isInt]
 |inr x=>obtain⟨t,rfl⟩:=(show∃t,u=Value.str x t from r);simp[bK,nO,Value.isStrOf]
end
end L2
namespace Dk
open PySem
end Dk
namespace L2
open PySem PySem.Spec PyProof.Rows
theorem C9{X:Cx}{N:List Str}{js:List (Option Nat)}{scope:Scope}{cl:List (Str×Addr)}{tg iter elt tgt:Expr}{ifs:List Expr}{pos spos:Pos}{wi:TI}{g gt:TG}{tt:TT}{te:TE}
  (S:aQ X N js scope cl) (hc:X.calm=true) (hi:PI X tg iter wi)
  (hg:∀C s H fp,PG (aV X N scope cl C s H fp) tg g) (ht:∀C s H fp,oP (aV X N scope cl C s H fp) ifs tt) (he:∀C s H fp,PE (aV X N scope cl C s H fp) elt te) (hgt:PG X tgt gt)
  (hs:∀x,foldedSetIterable iter X.env x=pure x:=by intro _;rfl) (hsw:swapsWithSole [tgt] (.ListComp elt [⟨tg,iter,ifs,0⟩] scope pos) spos.line X.env=pure true:=by rfl)
  (h1:(assignEach [tgt] X.env).map (·.2)= [assign tgt X.env]:=by rfl):PS X (.Assign [tgt] (.ListComp elt [⟨tg,iter,ifs,0⟩] scope pos) spos) (zV (Ae js wi g tt te) gt):=by
 intro pins s σ H Dn I h
 rw[exec_Assign_arm]
 refine wpAny_bind (wpAny_standAt (wpAny_bind (wpAny_of_eq hsw (wpAny_ite_true rfl (wpAny_bind ?_)))))
 rw[h1]
 show wpAny _ _ (do let _←comprehension _ _ _ _ _ _ _ (some fun v=>assignAll v [assign tgt X.env]);pure ()) _ _ _
 refine wpAny_bind ?_
 refine wpAny_comprehension_free (use:=some fun v=>assignAll v [assign tgt X.env]) rfl hs S.clos S.kind S.names (cG (hi pins s σ H _ I h) fun v s1 h1=>cG h1 fun itv s2 h2=> ?_)
 obtain⟨it,fp,tn,J,H2,e,I2,T,st2,f2,hD⟩:=h2
 subst e
 refine wpAny_newObj_type (wpAny_newFunctionEnv S.nocell (by intro y hy;simp at hy) (fun h₁ hns₁ hsb₁=> ?_) S.kind)
 dsimp only at hns₁ hsb₁⊢
 generalize hH2:s2.heap.push {cls:=.type "list",dict:=none,data:=.seq ([]:List Value).toArray}=P2 at hns₁ hsb₁⊢
 have hC:P2.objs.size=s2.heap.objs.size+1:=by rw[←hH2,Heap.size_push]
 have hDC:s2.heap.objs.size≠P2.objs.size:=by rw[hC];exact Nat.ne_of_lt (Nat.lt_succ_self _)
 have hCle:s2.heap.objs.size<=P2.objs.size:=by rw[hC];exact Nat.le_succ _
 have below:∀b,b<s2.heap.objs.size->b≠P2.objs.size:=fun b hb=>by rw[hC];exact Nat.ne_of_lt (Nat.lt_succ_of_lt hb)
 have old:∀b o,s2.heap.get? b=some o->h₁.get? b=some o:=fun b o e=>hsb₁.extBut b o (below b (Heap.lt_size e)) (Heap.get?_push_of_some _ (hH2▸Heap.get?_push_of_some _ e))
 have hnew:h₁.get? s2.heap.objs.size=some {cls:=.type "list",dict:=none,data:=.seq ([]:List Value).toArray}:=hsb₁.extBut _ _ hDC (Heap.get?_push_of_some _ (hH2▸Heap.get?_push_size _ rfl))
 have nD:H2 s2.heap.objs.size=none:=I2.fresh
 have nC:H2 P2.objs.size=none:=I2.hok.fresh hCle
 have fpo:∀b∈fp,b<s2.heap.objs.size:=fun b hb=>by
  obtain⟨o,e,_⟩:=T.obj _ _ st2 b hb
  exact Heap.lt_size e
 obtain⟨W,⟨m0,w0⟩,turn⟩:=hD s2.heap.objs.size nD
 have ok':(aV X N scope cl P2.objs.size s2 H2 fp).Ok:=by
  refine⟨I2.ok.mod,S.kind,I2.ok.glob,I2.ok.blt,hCle,fun x y c h1 h2=>I2.ok.inj x y c (S.sub x c h1) (S.sub y c h2),S.has,(fun x c h=>by cases h),I2.ok.hd,I2.ok.frames,.inl rfl,
   fun b hb=>⟨below b (fpo b hb),fun x c h=>(f2 b hb).2.2.2.2.1 x c (S.sub x c h)⟩,I2.bs,Nat.le_trans I2.ok.bsz I2.sz,fun b o e hb=> ?_,fun b hb z=> ?_,I2.stack,I2.stkFree⟩
  ·rcases(f2 b hb).2.2.2.1 with z|z
   ·exact I2.ok.noex b o e z
   ·exact absurd (Nat.lt_of_lt_of_le (Nat.lt_of_lt_of_le (Heap.lt_size e) I2.ok.bsz) z) (Nat.lt_irrefl _)
  ·rcases List.mem_cons.mp (I2.stkSub b z) with q|q
   ·exact(f2 b hb).2.1 q
   ·exact(f2 b hb).2.2.1 q
 have hobj:cK X.prog X.w (upd H2 s2.heap.objs.size (.lst [])) h₁ s2.heap.objs.size (.lst []):=⟨Nat.zero_le _,[],0,.nil,hnew⟩
 have I4:Inv (aV X N scope cl P2.objs.size s2 H2 fp) [] (iL js σ) (upd H2 s2.heap.objs.size (.lst [])) {s2 with heap:=h₁,toks:=s2.toks+([]:List (Str×Value)).length}:=by
  refine⟨ok',rfl,I2.bare,Un.laid old (Nat.le_refl _) nD,⟨_,hns₁,fun i x v h1 h2 h3=> ?_⟩,fun x c h=> ?_,by show upd H2 _ _ P2.objs.size=none;rw[bf hDC.symm];exact nC,fun x c h=> ?_,fun p hp=>absurd (show p∈([]:List (Addr×Obj)) from hp) (by simp),I2.hok.laid old (Nat.le_refl _) hobj,by show(iL js σ).length=N.length;unfold iL;rw[lQm];exact S.len⟩
  ·unfold iL at h2
   rw[gQm] at h2
   cases e:js[i]? with
   |none=>rw[e] at h2;cases h2
   | some o=>
     rw[e] at h2
     cases o with
     |none=>cases h2
     | some j=>
       have h2':σ.getD j none=some v:=Option.some.inj h2
       have hj:σ[j]?=some (some v):=by
         rw[List.getD_eq_getElem?_getD] at h2'
         cases q:σ[j]? with
         |none=>rw[q] at h2';cases h2'
         |some y=>rw[q] at h2';exact congrArg some h2'
       obtain⟨c1,c2,c3⟩:=S.cap i j x e h1
       obtain⟨m,hn,hl⟩:=I2.loc
       have vis:DM X.env.scope x:=by
         rcases c2 with z|z
         · exact .inr (.inl z)
         · exact .inr (.inr z)
       obtain⟨u,r,l⟩:=hl j x v c1 hj vis
       refine⟨u,r,.inr ⟨c3,?_⟩⟩
       obtain⟨c,hc'⟩:=S.has x c3
       refine⟨c,hc',?_⟩
       rcases l with⟨z,_⟩|⟨_,c',e',z⟩
       · rcases c2 with y|y <;>rw[y] at z <;>cases z
       · rw[S.sub x c hc'] at e'
         cases e'
         obtain⟨o,ho,hd⟩:=z
         exact⟨o,old _ _ ho,hd⟩
  ·obtain⟨v,o,ho,hd⟩:=I2.cell x c (S.sub x c h)
   exact⟨v,o,old _ _ ho,hd⟩
  ·obtain⟨v,o,ho,hd⟩:=I2.cell x c (S.sub x c h)
   rw[bf (Nat.ne_of_lt (Heap.lt_size ho))]
   exact I2.freeC x c (S.sub x c h)
 have stat:∀{pins':List (Addr×Obj)} {H':Hp},pins'= []->(∀b∈fp,H' b=none)->∀b∈fp,mH (aV X N scope cl P2.objs.size s2 H2 fp) pins' H' b:=fun{pins' H'} ep hn b hb=>by
  subst ep
  refine⟨hn b hb,below b (fpo b hb),fun z=>ok'.exfs b hb z,.inl hb,fun x c h=>(f2 b hb).2.2.2.2.1 x c (S.sub x c h),fun p hp=>absurd (show p∈([]:List (Addr×Obj)) from hp) (by simp)⟩
 have loop:codeAny (model X.prog X.w) X.A (.compLoop (.ListComp elt [⟨tg,iter,ifs,0⟩] scope pos) 0 (.ref it) (.ref s2.heap.objs.size) (compEnvC scope cl P2.objs.size X.env))
   (compPost (model X.prog X.w) X.A X.xe (some fun v=>assignAll v [assign tgt X.env]) (fun _ s9=>wpAny (model X.prog X.w) X.A (pure ()) (fun _ s10=>wpAny (model X.prog X.w) X.A (pure Flow.next) (SP X pins Dn) X.xe s10) X.xe s9) (.ref s2.heap.objs.size) P2.objs.size) {s2 with heap:=h₁,toks:=s2.toks+([]:List (Str×Value)).length}:=by
  refine mq (fun n s'=>∃i σ' H',Inv (aV X N scope cl P2.objs.size s2 H2 fp) [] σ' H' s'/\tn i s'.heap/\(∀b∈fp,H' b=none)/\W i n σ' H') ?_ m0
   ⟨0,_,_,I4,T.keep _ _ _ st2 fun b _ o e=>old b o e,fun b hb=>by rw[bf (Nat.ne_of_lt (fpo b hb))];exact(f2 b hb).1,w0⟩
  rintro n s3 ⟨i,σ3,H3,I3,st3,fr3,w3⟩
  rcases turn i n σ3 H3 w3 with⟨stop,q⟩|⟨go,Nx,hN,step⟩
  ·refine cG (T.done (aV X N scope cl P2.objs.size s2 H2 fp) rfl rfl rfl hc i [] s3 σ3 H3 _ I3 (stat rfl fr3) st3 stop) fun r s4 qr=> ?_
   obtain⟨hr,I5⟩:=qr
   subst hr
   obtain⟨m,hn,_⟩:=id I5.loc
   have toX:∀h',Heap.SameBut P2.objs.size s4.heap h'->Inv X pins σ H3 {s4 with heap:=h'}:=by
    intro h' hs'
    have u:=I5.base
    have ne:∀b o,s2.heap.get? b=some o->b≠P2.objs.size:=fun b o e=>below b (Heap.lt_size e)
    refine I2.call' (ch:=fp) I5.os ⟨fun b o e n hb hx=>(hs'.2 b (ne b o e)).trans (u.keep b o e n hb hx),fun b o e n hb hx=> ?_,u.free,fun b o e hx=> ?_,u.tups,u.frzs,u.tbls⟩ (fun b ob e=> ?_) I5.bare fun b hb=>⟨(f2 b hb).2.2.2.1,(f2 b hb).2.1,(f2 b hb).2.2.2.2.1,(f2 b hb).2.2.2.2.2⟩
    ·obtain⟨sl,e1⟩:=u.slot b o e n hb hx
     exact⟨sl,(hs'.2 b (ne b o e)).trans e1⟩
    ·obtain⟨o',e1⟩:=u.there b o e hx
     exact⟨o',(hs'.2 b (ne b o e)).trans e1⟩
    ·refine(I5.hok b ob e).stay (fun c w' hc q=>(hs'.2 c ?_).trans q) (fun _ q=>q) fun _ _ q=>q
     have fC:H3 P2.objs.size=none:=I5.free
     rintro rfl
     rcases hc with z|z
     ·rw[←z,fC] at e;cases e
     ·rw[fC] at z;cases z
   have IX:=toX s4.heap ⟨rfl,fun _ _=>rfl⟩
   have okC:mH X pins H3 P2.objs.size:=I2.fpOk hCle I5.free
   obtain⟨oC,es,ep,hoC,hdC,hrC⟩:=hn
   have IP:=IX.pinned (fp:= [P2.objs.size]) (fun b hb=>by rw[List.mem_singleton] at hb;rw[hb];exact okC) (fun b hb=>by rw[List.mem_singleton] at hb;rw[hb];exact⟨oC,hoC,fun v=>by rw[hdC];simp⟩)
   show wpAny _ _ (assignAll (.ref s2.heap.objs.size) [assign tgt X.env]) _ _ _
   rw[assignAll.eq_2]
   refine cG (hgt _ s4 σ H3 (.ref s2.heap.objs.size) (.ref s2.heap.objs.size) _ IP rfl q) fun _ s6 qr=> ?_
   obtain⟨σ6,H6,I6,q6⟩:=qr
   have pC:=I6.pin (P2.objs.size,oC) (List.mem_append_right _ (List.mem_append_right _ (dh (List.mem_singleton.mpr rfl) hoC)))
   refine⟨m,⟨oC,es,ep,pC.1,hdC,hrC⟩,fun h' hs'=>wpAny_pure (wpAny_pure ⟨σ6,H6,?_,q6⟩)⟩
   exact I6.unpinned.turned (it:=P2.objs.size) (t':=s6.toks) (fun b o' hb e=>(hs'.2 b hb).trans e) pC.2.1 pC.2.2.1 okC.2.2.2.1 okC.2.2.2.2.1 okC.2.2.2.2.2
  ·refine cG (T.item (aV X N scope cl P2.objs.size s2 H2 fp) rfl rfl rfl hc i [] s3 σ3 H3 _ I3 (stat rfl fr3) st3 go) fun r s4 qr=> ?_
   obtain⟨u,hr,h4⟩:=qr
   subst hr
   refine cG h4 fun _ s5 qr=> ?_
   obtain⟨x,H5,I5,r5,y5,st5,fr5⟩:=qr
   have I5':=I5.pinned (stat rfl fr5) (T.obj _ _ st5)
   refine cG (hg P2.objs.size s2 H2 fp _ s5 σ3 H5 x u _ I5' r5 (step x H5 y5)) fun _ s6 qr=> ?_
   obtain⟨σ6,H6,I6,q6⟩:=qr
   refine cG (ht P2.objs.size s2 H2 fp _ s6 σ6 H6 _ I6 q6) fun ok s7 qr=> ?_
   obtain⟨H7,I7,q7⟩:=qr
   have again:∀{s8:Shared} {H8:Hp},Inv (aV X N scope cl P2.objs.size s2 H2 fp) ([]++kJ fp s5.heap) σ6 H8 s8->Nx σ6 H8->∃m,m<n/\∃i σ' H',Inv (aV X N scope cl P2.objs.size s2 H2 fp) [] σ' H' s8/\tn i s8.heap/\(∀b∈fp,H' b=none)/\W i m σ' H':=fun{s8 H8} I8 n8=>by
    obtain⟨m',hm,w8⟩:=hN σ6 H8 n8
    refine⟨m',hm,i+1,σ6,H8,I8.unpinned,T.keep _ _ _ st5 fun b hb o e=>(I8.pin (b,o) (List.mem_append_right _ (List.mem_append_right _ (dh hb e)))).1,fun b hb=> ?_,w8⟩
    obtain⟨o,e,d⟩:=T.obj _ _ st5 b hb
    exact(I8.pin (b,o) (List.mem_append_right _ (List.mem_append_right _ (dh hb e)))).2.1
   cases ok with
   |false=>exact again I7 q7
   | true=>
     refine cG (he P2.objs.size s2 H2 fp _ s7 σ6 H7 _ I7 q7) fun yv s8 qr=> ?_
     obtain⟨y,H8,I8,ry,xs,hx,hl,n8⟩:=qr
     refine cG (nu (X:=aV X N scope cl P2.objs.size s2 H2 fp) _ s8 σ6 H8 (.ref s2.heap.objs.size) [y] (.ref s2.heap.objs.size) [yv] (fun _ H'=>Nx σ6 H') I8 rfl (.cons ry .nil) ⟨_,xs,y,rfl,rfl,hx,hl,n8⟩) fun _ s9 qr=> ?_
     obtain⟨z,H9,I9,_,q9⟩:=qr
     exact again I9 q9
 exact codeAny_compStart_list loop (T.self _ 0 _ _ _ (T.keep _ _ _ st2 fun b _ o e=>old b o e) loop)
end L2
namespace Dk
open PySem
end Dk
namespace L2
open PySem PySem.Spec PyProof.Rows
section
variable{X:Cx}
def CL(K:PySem.W.Frag):List V->Hp->VK->Prop:=fun xs H Q=>∃(a:Addr) (ss:List Str),xs= [.ref a]/\hG K H a (ss.map V.str)/\ss.length<64/\∀(l:Addr) (out:List Str),H l=none->sortedS out=true->out.Perm ss->Q (.ref l) (upd H l (.lst (out.map V.str)))
theorem sI:∀{ys:List Str} {its:List Value},bx (ys.map V.str) its->StrsAre its ys
 | [],_,r=>by cases r;exact .nil
 | y::ys,_,r=>by
   cases r with
   | cons h t=>
     obtain⟨tk,rfl⟩:=h
     exact .cons y tk (sI t)
theorem uV{ss:List Str}{vs:List Value}(h:StrsAre vs ss):bx (ss.map V.str) vs:=by
 induction h with
 |nil=>exact .nil
 |cons y t _ ih=>exact .cons ⟨t,rfl⟩ ih
theorem ue:gC X (.builtin "sorted") (CL X.K):=by
 intro pins s σ H xs us Q I r h
 obtain⟨a,ss,rfl,ha,h64,q⟩:=h
 obtain⟨u,rfl,rx⟩:=vals1 r
 cases (show u=Value.ref a from rx)
 obtain⟨its,rv,pl,hz⟩:=I.list ha
 have hil:its.length=ss.length:=by have:=rv.length;simpa using this.symm
 have big:s.heap.objs.size<=s.heap.objs.size+1:=Nat.le_succ _
 refine sorted_strs pl.isList (sI rv) (by omega) fun out ss' hA hp hs=> ?_
 obtain⟨e,he⟩:=sortedAll_at s.heap its out
 have hlen:ss'.length=ss.length:=hp.length_eq
 refine⟨.ref (s.heap.objs.size+1),_,I.laid (a:=s.heap.objs.size+1) (o:=.lst (ss'.map V.str)) (h':=sortedAll s.heap its out) (t':=s.toks) (fun b o hb=> ?_) big ⟨?_,out.toList,e,uV hA,?_⟩,rfl,q _ ss' (I.hok.fresh big) hs hp⟩
 ·exact sortedAll_old hb
 ·rw[lQm,hlen]
  exact Nat.le_trans (nQl h64) (by decide)
 ·simpa using he
end
end L2
namespace Zp
open PySem
section
variable{prog:Program}{w:World}{A:Around}{E:Value->Shared->Prop}{s:Shared}
theorem Gy{i t:Addr}{k:Nat}{vs:Array Value}{v:Value}{Q:Value->Shared->Prop}(gi:s.heap.IsTupleIter i t k)(gt:s.heap.IsTuple t vs)(hv:vs[k]?=some v)
  (q:∀h',h'.IsTupleIter i t (k+1)->Heap.SameBut i s.heap h'->Q v {s with heap:=h'}):wpAny (model prog w) A (Builtin.SmallTypes.nextOf (.ref i)) Q E s:=by
 obtain⟨oi,g1,g2,g3⟩:=id gi
 obtain⟨ot,t1,_,nt,t2⟩:=gt
 unfold Builtin.SmallTypes.nextOf
 refine wpAny_bind (wpAny_callSpecial?_slot (name:=Str.ofString "__next__") gi.typeIs F.slot_tuple_iterator_next (wpAny_call_entry F.slot_tuple_iterator_next gi.typeIs F.entry_tuple_iterator_next ?_ (F.args_tuple_iterator_next_1 _)))
 refine(?_:wpAny _ _ (field (.ref i) 0 >>= _) _ _ s)
 refine wpAny_bind (wpAny_field g1 g3 (x:=.ref t) rfl ?_)
 refine(?_:wpAny _ _ (if (Value.ref t==Value.none)=true then _ else _) _ _ s)
 rw[if_neg (fun z=>by cases (show false=true from z))]
 refine(?_:wpAny _ _ (field (.ref i) 1 >>= _) _ _ s)
 refine wpAny_bind (wpAny_field g1 g3 (x:=.int k 0) rfl ?_)
 refine(?_:wpAny _ _ (seqItems? (.ref t) >>= _) _ _ s)
 refine wpAny_bind (wpAny_seqItems t1 t2 ?_)
 simp only[Int.toNat_natCast,hv]
 refine wpAny_bind (wpAny_setField g1 g3 (by simp) (wpAny_pure ⟨v,rfl,wpAny_pure (q _ ⟨_,Heap.get?_update_self _ g1 (Obj.isFreed_of_fields (Obj.data_mapFields g3 _)),(Obj.cls_mapFields ..).trans g2,?_⟩ (Heap.SameBut.update ..))⟩))
 rw[Obj.data_mapFields g3]
 simp[rawInt]
theorem Gw{i t:Addr}{k:Nat}{vs:Array Value}{Q:Value->Shared->Prop}(hA:A.handled=none)(gi:s.heap.IsTupleIter i t k)(gt:s.heap.IsTuple t vs)(hv:vs[k]?=none)
  (q:∀h' e,Heap.ExtBut i s.heap h'->(∃o,h'.get? e=some o/\o.cls=.type "StopIteration")->E (.ref e) {s with heap:=h'}):wpAny (model prog w) A (Builtin.SmallTypes.nextOf (.ref i)) Q E s:=by
 obtain⟨oi,g1,g2,g3⟩:=id gi
 obtain⟨ot,t1,_,nt,t2⟩:=gt
 unfold Builtin.SmallTypes.nextOf
 refine wpAny_bind (wpAny_callSpecial?_slot (name:=Str.ofString "__next__") gi.typeIs F.slot_tuple_iterator_next (wpAny_call_entry F.slot_tuple_iterator_next gi.typeIs F.entry_tuple_iterator_next ?_ (F.args_tuple_iterator_next_1 _)))
 refine(?_:wpAny _ _ (field (.ref i) 0 >>= _) _ _ s)
 refine wpAny_bind (wpAny_field g1 g3 (x:=.ref t) rfl ?_)
 refine(?_:wpAny _ _ (if (Value.ref t==Value.none)=true then _ else _) _ _ s)
 rw[if_neg (fun z=>by cases (show false=true from z))]
 refine(?_:wpAny _ _ (field (.ref i) 1 >>= _) _ _ s)
 refine wpAny_bind (wpAny_field g1 g3 (x:=.int k 0) rfl ?_)
 refine(?_:wpAny _ _ (seqItems? (.ref t) >>= _) _ _ s)
 refine wpAny_bind (wpAny_seqItems t1 t2 ?_)
 simp only[Int.toNat_natCast,hv]
 refine wpAny_bind (wpAny_rule (wpAny_bind (wpAny_setField g1 g3 (by simp) ?_)))
 refine(?_:wpAny _ _ (newExc (.type "StopIteration") [] >>= _) _ _ _)
 refine wpAny_bind ?_
 simp only[newExc,newTuple]
 refine wpAny_bind (wpAny_newObj_type ?_ (by size_fits))
 refine wpAny_bind (m:=firstArgMember _ _) (wpAny_of_eq (a:=Value.none) (by first|rfl|(simp only[firstArgMember];rfl)) (wpAny_newObj_type ?_ (by size_fits)))
 simp only[raiseNew]
 refine wpAny_bind (wpAny_handled ?_)
 first|rw[show A.in1.handled=none from hA]|rw[hA]
 exact wpAny_bind (wpAny_pure (wpAny_throw (q _ _ (((Heap.SameBut.update ..).extBut.push _).push _) ⟨_,Heap.get?_push_size _ rfl,rfl⟩)))
end
def Rest(z O i j:Addr)(h h':Heap):Prop:=∀c o,c≠z->c≠O->c≠i->c≠j->h.get? c=some o->h'.get? c=some o
end Zp
namespace L2
open PySem PySem.Spec PyProof.Rows
section
variable{X:Cx}{pins:List (Addr×Obj)}{σ:St}{H:Hp}{s:Shared}{h':Heap}
theorem Inv.turnedL{t':Nat}{fp:List Addr}(I:Inv X pins σ H s)(hf:∀b∈fp,mH X pins H b)(k:∀b o,b∉fp->s.heap.get? b=some o->h'.get? b=some o):Inv X pins σ H {s with heap:=h',toks:=t'}:=by
 have nit:∀b u,H b=some u->b∉fp:=fun b u e z=>by rw[(hf b z).1] at e;cases e
 refine I.step (g':=s.gens) (d':=s.drawn) (ch:=fp) (fun b hb=>⟨(hf b hb).2.2.2.1,(hf b hb).2.1,(hf b hb).2.2.2.2.1,(hf b hb).2.2.2.2.2⟩) (fun b o _ _ hc e _=>k b o hc e) (fun b o _ _ hc e _=>⟨o.slots,k b o hc e⟩) (fun _ _ _ _ n=>n)
  (fun b o hc e=>⟨o,k b o hc e⟩) (fun _ _ e=>e) (fun _ _ _ e=>e) (fun b ps e=>⟨#[],by rw[e];simp⟩) (fun m hm=> ?_) (fun b u e=> ?_) I.bare
 ·obtain⟨o,es,ep,ho,r⟩:=hm
  exact⟨o,es,ep,k _ o (fun z=>(hf _ z).2.1 rfl) ho,r⟩
 ·refine(I.hok b u e).stay (fun c v hc q=>k c v ?_ q) (fun _ q=>q) fun _ _ q=>q
  rcases hc with z|z
  ·rw[z];exact nit b u e
  ·exact nit c _ z
theorem Inv.turnedNew{t':Nat}{fp:List Addr}{p:Addr}{o:HO}(I:Inv X pins σ H s)(hf:∀b∈fp,mH X pins H b)(k:∀b u,b∉fp->s.heap.get? b=some u->h'.get? b=some u)(hp:s.heap.objs.size<=p)
  (new:cK X.prog X.w (upd H p o) h' p o):Inv X pins σ (upd H p o) {s with heap:=h',toks:=t'}:=by
 have hn:=I.hok.fresh hp
 have nit:∀b u,H b=some u->b∉fp:=fun b u e z=>by rw[(hf b z).1] at e;cases e
 have np:∀b u,H b=some u->upd H p o b=some u:=fun b u e=>by rw[bf (eK e hn)];exact e
 refine I.step (g':=s.gens) (d':=s.drawn) (ch:=fp) (fun b hb=>⟨(hf b hb).2.2.2.1,(hf b hb).2.1,(hf b hb).2.2.2.2.1,(hf b hb).2.2.2.2.2⟩) (fun b o _ _ hc e _=>k b o hc e) (fun b o _ _ hc e _=>⟨o.slots,k b o hc e⟩)
  (fun b u _ e n=>by rw[bf (fun z=>Nat.lt_irrefl _ (Nat.lt_of_lt_of_le (Heap.lt_size e) (by rw[z];exact hp)))];exact n)
  (fun b o hc e=>⟨o,k b o hc e⟩) (fun b xs e=>np b _ e) (fun b u v e=>np b _ e) (fun b ps e=>⟨#[],by rw[np b _ e];simp⟩) (fun m hm=> ?_) (fun b u e=> ?_) I.bare
 ·obtain⟨o,es,ep,ho,r⟩:=hm
  exact⟨o,es,ep,k _ o (fun z=>(hf _ z).2.1 rfl) ho,r⟩
 ·by_cases hb:b=p
  ·subst hb
   rw[bA] at e
   cases e
   exact new
  ·rw[bf hb] at e
   refine(I.hok b u e).stay (fun c v hc q=>k c v ?_ q) (fun c q=>np c _ q) fun c _ q=>np c _ q
   rcases hc with z|z
   ·rw[z];exact nit b u e
   ·exact nit c _ z
end
end L2
namespace Zp
open PySem PySem.W PyProof.Rows
def nj:KasT (Array Nat)->List (Array Nat)
 |.ret p=> [p]
 |.ask _ _ k=>nj (k true)++nj (k false)
def ql(n:Nat):KasT (Array Nat)->Bool
 |.ret _=>true
 |.ask i j k=>decide (i<n)&&decide (j<n)&&decide (i≠j)&&ql n (k true)&&ql n (k false)
theorem oQ:∀n:Nat,n<=3->2<=n->ql n (kas_sort n)=true/\(nj (kas_sort n)).all (fun p=>p.toList.isPerm (List.range n))=true:=by
 intro n h3 h2
 have:n=2\/n=3:=by omega
 rcases this with rfl|rfl
 ·decide +kernel
 ·decide +kernel
inductive ee(h:Heap):List Value->List Str->Prop
 |nil:ee h [] []
 |cons {a:Addr} {o:Obj} {xs:Array Value} {n:Nat} {x:Str} {t:Tok} {vs:List Value} {fs:List Str}:h.get? a=some o->o.cls=.type "tuple" ->o.data=.seq xs n->xs[0]?=some (.str x t)->ee h vs fs->ee h (.ref a::vs) (x::fs)
theorem ee.keep{h h':Heap}(k:∀a o,h.get? a=some o->o.cls=.type "tuple" ->h'.get? a=some o):∀{vs:List Value} {fs:List Str},ee h vs fs->ee h' vs fs
 |_,_,.nil=>.nil
 |_,_,.cons e c d f r=>.cons (k _ _ e c) c d f (r.keep k)
theorem ee.len{h:Heap}:∀{vs:List Value} {fs:List Str},ee h vs fs->vs.length=fs.length
 |_,_,.nil=>rfl
 |_,_,.cons _ _ _ _ r=>congrArg (·+1) r.len
theorem ee.get{h:Heap}:∀{vs:List Value} {fs:List Str} {i:Nat},ee h vs fs->i<fs.length->∃a o xs n t,vs.getD i Value.none=.ref a/\h.get? a=some o/\o.data=.seq xs n/\xs[0]?=some (.str (fs.getD i "") t)
 |_,_,0,.cons e c d f r,_=>⟨_,_,_,_,_,rfl,e,d,f⟩
 | _,_,i+1,.cons e c d f r,hi=>by
   have:=r.get (i:=i) (by simpa using hi)
   simpa using this
 |_,_,_,.nil,hi=>by simp at hi
theorem ee.firsts{h:Heap}:∀{vs:List Value} {fs:List Str},ee h vs fs->∃gs:List Value,KatTups h vs gs/\gs.length=fs.length/\∀v∈gs,∃x t,v=.str x t
 |_,_,.nil=>⟨[],KatTups.nil,rfl,by simp⟩
 | _,_,.cons e c d f r=>by
   obtain⟨gs,k,l,m⟩:=r.firsts
   exact⟨_::gs,KatTups.cons e c d f k,by simp[l],fun v hv=>by
     rcases List.mem_cons.mp hv with z|z
     · exact⟨_,_,z⟩
     · exact m v z⟩
end Zp
namespace L2
open PySem PySem.Spec PyProof.Rows
section
variable{X:Cx}
theorem CI:jl X (binaryOp .Mult) (rI IntMulOk fun i j=>.int (i*j)):=GZ fun _ _ _ _ _ _ _ hc q=>mul_int q hc
inductive sY(H:Hp):List Addr->List Str->Prop
 |nil:sY H [] []
 |cons {a:Addr} {x:Str} {us:List V} {rs:List Addr} {ss:List Str}:H a=some (.tup (.str x::us))->sY H rs ss->sY H (a::rs) (x::ss)
theorem vN{pins:List (Addr×Obj)}{σ:St}{H:Hp}{s:Shared}(I:Inv X pins σ H s):∀{rs:List Addr} {ss:List Str},sY H rs ss->Zp.ee s.heap (rs.map Value.ref) ss
 |_,_,.nil=>.nil
 | _,_,.cons (a:=a) h r=>by
   obtain⟨its,rv,⟨o,h1,h2,n,h3⟩,hz⟩:=I.tuple (gL.of h)
   cases rv with
   | cons r0 rr=>
     obtain⟨t,rfl⟩:=r0
     exact .cons (t:=t) h1 h2 h3 (by simp) (vN I r)
theorem sQ:∀{rs:List Addr} {us:List Value},bx (rs.map V.ref) us->us=rs.map Value.ref
 | [],_,r=>by cases r;rfl
 | a::rs,_,r=>by
   cases r with
   | cons h t=>
     cases h
     rw[sQ t]
     rfl
theorem pB:∀(rs:List Addr),bx (rs.map V.ref) (rs.map Value.ref)
 | []=>.nil
 |a::rs=>.cons rfl (pB rs)
end
section
variable{X:Cx}
theorem Bk:GO X (fun x y H Q=>∃p xs k v,x=.ref p/\y=.int ((k:Nat):Int)/\hG X.K H p xs/\xs[k]?=some v/\Q v H):=by
 intro pins s σ H x y v u Q I rx ry h
 obtain⟨p,xs,k,z,rfl,rfl,hq,he,q⟩:=h
 cases rx
 obtain⟨t,rfl⟩:=ry
 obtain⟨its,r,pl,hz⟩:=I.list hq
 obtain⟨w',ew,rw'⟩:=r.get he
 have hk:k<xs.length:=(gQs.mp he).1
 have hn:=jv
 exact wpAny_getItem_list pl.isList (x:=w') (Int.natCast_nonneg k) (by omega) (by simpa using ew) ⟨z,H,I,rw',q⟩
end
section
variable{X:Cx}
def A_(K:PySem.W.Frag):R2:=fun x y H Q=>∃a b xs,x=.ref a/\y=.ref b/\hG K H a xs/\hG K H b []/\Q (.bl (!xs.isEmpty)) H
theorem Bu(hu:X.A.units<cLine):jl X (compareOp .NotEq) (A_ X.K):=by
 intro pins s σ H x y v u Q I rx ry h
 obtain⟨a,b,xs,rfl,rfl,ha,hb,q⟩:=h
 cases xs with
 |nil=>exact DZ hu pins s σ H _ _ v u Q I rx ry ⟨a,b,[],[],rfl,rfl,ha,hb,rfl,rfl,q⟩
 | cons z zs=>
   cases rx
   cases ry
   obtain⟨its,r,pl,hz⟩:=I.list ha
   obtain⟨jts,r',pl',hz'⟩:=I.list hb
   have l1:=r.length
   have l2:=r'.length
   exact SeqAt.RcNeAt.lists_lengths pl.isList pl'.isList (by simp[←l1,←l2]) hu _ _ _ _ ⟨.bl true,H,I,rfl,q⟩
end
end L2
namespace HT
open PySem PySem.Spec PyProof.Rows
section
variable{prog:Program}{w:World}{A:Around}{E:Value->Shared->Prop}{s:Shared}
theorem j6{t sl:Addr}{items:Array Value}{vl vu:Value}{lo hi:Option Int}{Q:Value->Shared->Prop}(ht:IsTup s.heap t items)(hs:s.heap.IsSliceOf sl vl vu .none)(pl:IsPart vl lo)(pu:IsPart vu hi)
  (hw:eO items.size 0 lo=0/\eO items.size items.size hi=items.size) (h:Q (.ref t) s):wpAny (model prog w) A (getItem (.ref t) (.ref sl)) Q E s:=by
 obtain⟨os,hos,hcs,hds⟩:=id hs
 have hTs:s.TypeIs (.ref sl) "slice":=⟨os,hos,hcs⟩
 unfold getItem
 try with_reducible refine wpAny_holding ?_
 first|refine wpAny_bind (wpAny_pure ?_)|skip
 refine wpAny_bind (wpAny_sequenceKey ht.typeIs (by decide) ?_)
 refine wpAny_bind (wpAny_callSpecial?_slot (name:=Str.ofString "__getitem__") ht.typeIs PyProof.Rows.slot_tuple_getitem
  (wpAny_call_entry PyProof.Rows.slot_tuple_getitem ht.typeIs entry_tuple_getitem ?_ (args_tuple_getitem _ _)))
 show wpAny _ _ (Builtin.Tuple.tupleItemsOf (.ref t) >>= _) _ _ s
 refine wpAny_bind (tupleItemsOf_ ht ?_)
 refine wpAny_bind (wpAny_typeOf hTs ?_)
 rw[if_pos (by decide)]
 refine wpAny_bind (iA hs pl pu ?_)
 have hyes:(((eO items.size 0 lo:Nat):Int)==0&&(1:Int)==1&&(eO items.size items.size hi-eO items.size 0 lo)==items.size)=true:=by
  rw[hw.1,hw.2]
  simp
 show wpAny _ _ (if (((eO items.size 0 lo:Nat):Int)==0&&(1:Int)==1&&(eO items.size items.size hi-eO items.size 0 lo)==items.size)=true then _ else _) _ _ s
 rw[if_pos hyes]
 have ex:∀{A:Around} {E:Value->Shared->Prop} {R:Bool->Shared->Prop},R true s->wpAny (model prog w) A (Builtin.Tuple.tupleIsExact (.ref t)) R E s:=fun{A E R} h=>by
  unfold Builtin.Tuple.tupleIsExact
  exact wpAny_bind (wpAny_typeOf ht.typeIs (wpAny_pure h))
 refine wpAny_bind (m:=Builtin.Tuple.tupleIsExact _) (ex ?_)
 rw[if_pos rfl]
 refine wpAny_bind (wpAny_rule ?_)
 exact wpAny_pure ⟨_,rfl,wpAny_pure h⟩
end
end HT
namespace L2
open PySem PySem.Spec PyProof.Rows
def Hg(K:PySem.W.Frag):V->Option Int->Option Int->Hp->VK->Prop:=fun x lo hi H Q=>∃a xs,x=.ref a/\gL K H a xs∧
 (HT.eO xs.length 0 lo=0/\HT.eO xs.length xs.length hi=xs.length->Q (.ref a) H)/\(¬(HT.eO xs.length 0 lo=0/\HT.eO xs.length xs.length hi=xs.length)->∀p,H p=none->Q (.ref p) (upd H p (.tup (xK xs lo hi))))
theorem Ca{X:Cx}:Hj X (Hg X.K):=by
 intro pins s σ H x v vl vu lo hi sl Q I rx hs pl pu h
 obtain⟨a,xs,rfl,hx,q1,q2⟩:=h
 by_cases hw:HT.eO xs.length 0 lo=0/\HT.eO xs.length xs.length hi=xs.length
 ·cases rx
  obtain⟨its,r,ht,hz⟩:=I.tuple hx
  have hlen:its.toArray.size=xs.length:=by rw[List.size_toArray];exact r.length.symm
  refine⟨"tuple",_,PyProof.Rows.slot_tuple_getitem.lookup,ht.typeIs,?_⟩
  exact HT.j6 ht hs pl pu (by rw[hlen];exact hw) ⟨.ref a,H,I,rfl,q1 hw⟩
 ·exact Fg pins s σ H _ v vl vu lo hi sl Q I rx hs pl pu ⟨a,xs,rfl,hx,hw,q2 hw⟩
end L2
namespace DL
open PySem PySem.Spec PyProof.Rows L2
inductive D where
 |non|bl (b:Bool)|int (i:Int)|str (x:Str)|tup (xs:List D)|ref (k:Nat)|fn (x:Str)
inductive O where
 |lst (xs:List D)|frz (xs:List D)|dct (kvs:List (Key×D))
abbrev aA:=List O
abbrev cE:=List (Option D)
structure Md where
 K:PySem.W.Frag
 mg:Str->Option Value
mutual
inductive Rel(M:Md)(ρ:List Addr)(H:Hp):D->V->Prop
 |non:Rel M ρ H .non .non
 |bl (b:Bool):Rel M ρ H (.bl b) (.bl b)
 |int (i:Int):Rel M ρ H (.int i) (.int i)
 |str (x:Str):Rel M ρ H (.str x) (.str x)
 |tup {a:Addr} {vs:List V} {ds:List D}:H a=some (.tup vs)->aY M ρ H ds vs->Rel M ρ H (.tup ds) (.ref a)
 |ref {k:Nat} {a:Addr}:ρ[k]?=some a->Rel M ρ H (.ref k) (.ref a)
 |fn {x:Str} {a:Addr}:M.mg x=some (.ref a)->Rel M ρ H (.fn x) (.ref a)
inductive aY(M:Md)(ρ:List Addr)(H:Hp):List D->List V->Prop
 |nil:aY M ρ H [] []
 |cons {d:D} {v:V} {ds:List D} {vs:List V}:Rel M ρ H d v->aY M ρ H ds vs->aY M ρ H (d::ds) (v::vs)
end
section
variable{M:Md}{ρ ρ':List Addr}{H H':Hp}
def Ih:HO->Prop
 |.tup _=>True
 |.frz _ _=>True
 |_=>False
structure bT(ρ:List Addr)(H:Hp)(ρ':List Addr)(H':Hp):Prop where
 pre:ρ <+: ρ'
 new:∀a∈ρ',a∈ρ\/H a=none
 keep:∀a o,H a=some o->a∉ρ\/Ih o->H' a=some o
 grow:∀a,H' a=none->H a=none
theorem bT.refl:bT ρ H ρ H:=⟨List.prefix_refl _,fun _ h=>.inl h,fun _ _ h _=>h,fun _ h=>h⟩
theorem bT.trans{ρ1 ρ2:List Addr}{H1 H2:Hp}(e:bT ρ H ρ1 H1)(f:bT ρ1 H1 ρ2 H2):bT ρ H ρ2 H2 where
 pre:=e.pre.trans f.pre
 new:=fun a h=>(f.new a h).elim (fun h=>e.new a h) fun h=>.inr (e.grow a h)
 keep:=fun a o h c=>f.keep a o (e.keep a o h c) (c.imp (fun n m=>(e.new a m).elim n fun z=>by rw[z] at h;cases h) id)
 grow:=fun a h=>e.grow a (f.grow a h)
theorem bT.laid{a:Addr}{o:HO}(h:H a=none):bT ρ H ρ (upd H a o) where
 pre:=List.prefix_refl _
 new:=fun _ h=>.inl h
 keep:=fun b o' e _=>by rw[bf];exact e;intro z;subst z;rw[h] at e;cases e
 grow:=fun b e=>by
  by_cases z:b=a
  ·subst z;exact h
  ·rw[bf z] at e;exact e
theorem jw{α:Type}:∀{l:List α},l.Nodup->∀{i j:Nat} {a:α},l[i]?=some a->l[j]?=some a->i=j
 | [],_,_,_,_,h,_=>by simp at h
 |x::l,n,0,0,_,_,_=>rfl
 | x::l,n,0,j+1,a,h1,h2=>by
   rw[List.nodup_cons] at n
   simp at h1 h2
   subst h1
   exact absurd (mQg h2) n.1
 | x::l,n,i+1,0,a,h1,h2=>by
   rw[List.nodup_cons] at n
   simp at h1 h2
   subst h2
   exact absurd (mQg h1) n.1
 | x::l,n,i+1,j+1,a,h1,h2=>by
   rw[List.nodup_cons] at n
   simp at h1 h2
   exact congrArg (·+1) (jw n.2 h1 h2)
theorem cu{α β:Type}{a c:α}{b d:β}(h:some (a,b)=some (c,d)):a=c/\b=d:=by cases h;exact⟨rfl,rfl⟩
theorem cQ{α:Type}{l l':List α}(h:l <+: l'){k:Nat}{a:α}(e:l[k]?=some a):l'[k]?=some a:=by
 obtain⟨t,rfl⟩:=h
 rw[List.getElem?_append_left (gQs.mp e).1]
 exact e
mutual
theorem Rel.ext(e:bT ρ H ρ' H'):∀{d:D} {v:V},Rel M ρ H d v->Rel M ρ' H' d v
 |_,_,.non=>.non
 |_,_,.bl b=>.bl b
 |_,_,.int i=>.int i
 |_,_,.str x=>.str x
 |_,_,.tup h hs=>.tup (e.keep _ _ h (.inr trivial)) (aY.ext e hs)
 |_,_,.ref h=>.ref (cQ e.pre h)
 |_,_,.fn h=>.fn h
theorem aY.ext(e:bT ρ H ρ' H'):∀{ds:List D} {vs:List V},aY M ρ H ds vs->aY M ρ' H' ds vs
 |_,_,.nil=>.nil
 |_,_,.cons h hs=>.cons (Rel.ext e h) (aY.ext e hs)
end
mutual
theorem Rel.pre(e:ρ <+: ρ'):∀{d:D} {v:V},Rel M ρ H d v->Rel M ρ' H d v
 |_,_,.non=>.non
 |_,_,.bl b=>.bl b
 |_,_,.int i=>.int i
 |_,_,.str x=>.str x
 |_,_,.tup h hs=>.tup h (aY.pre e hs)
 |_,_,.ref h=>.ref (cQ e h)
 |_,_,.fn h=>.fn h
theorem aY.pre(e:ρ <+: ρ'):∀{ds:List D} {vs:List V},aY M ρ H ds vs->aY M ρ' H ds vs
 |_,_,.nil=>.nil
 |_,_,.cons h hs=>.cons (Rel.pre e h) (aY.pre e hs)
end
theorem aY.length:∀{ds:List D} {vs:List V},aY M ρ H ds vs->ds.length=vs.length
 |_,_,.nil=>rfl
 |_,_,.cons _ h=>congrArg (·+1) h.length
theorem aY.append:∀{ds es:List D} {vs ws:List V},aY M ρ H ds vs->aY M ρ H es ws->aY M ρ H (ds++es) (vs++ws)
 |_,_,_,_,.nil,h=>h
 |_,_,_,_,.cons h hs,h'=>.cons h (hs.append h')
theorem aY.get:∀{ds:List D} {vs:List V} {i:Nat} {d:D},aY M ρ H ds vs->ds[i]?=some d->∃v,vs[i]?=some v/\Rel M ρ H d v
 |_,_,0,_,.cons h _,e=>by cases e;exact⟨_,rfl,h⟩
 |_,_,i+1,_,.cons _ hs,e=>hs.get (i:=i) (by simpa using e)
 |_,_,_,_,.nil,e=>by simp at e
theorem aY.set{d:D}{v:V}(h:Rel M ρ H d v):∀{ds:List D} {vs:List V} (i:Nat),aY M ρ H ds vs->aY M ρ H (ds.set i d) (vs.set i v)
 |_,_,_,.nil=>.nil
 |_,_,0,.cons _ t=>.cons h t
 |_,_,i+1,.cons q t=>.cons q (aY.set h i t)
theorem aY.take:∀{ds:List D} {vs:List V} (n:Nat),aY M ρ H ds vs->aY M ρ H (ds.take n) (vs.take n)
 |_,_,0,_=>.nil
 |_,_,_+1,.nil=>.nil
 |_,_,n+1,.cons h hs=>.cons h (hs.take n)
theorem aY.drop:∀{ds:List D} {vs:List V} (n:Nat),aY M ρ H ds vs->aY M ρ H (ds.drop n) (vs.drop n)
 |_,_,0,h=>h
 |_,_,_+1,.nil=>.nil
 |_,_,n+1,.cons _ hs=>hs.drop n
theorem aY.eraseIdx:∀{ds:List D} {vs:List V} (n:Nat),aY M ρ H ds vs->aY M ρ H (ds.eraseIdx n) (vs.eraseIdx n)
 |_,_,_,.nil=>.nil
 |_,_,0,.cons _ h=>h
 |_,_,n+1,.cons h hs=>.cons h (hs.eraseIdx n)
theorem aY.rep{ds:List D}{vs:List V}(h:aY M ρ H ds vs):∀k:Nat,aY M ρ H (List.replicate k ds).flatten (List.replicate k vs).flatten
 |0=>.nil
 |k+1=>by rw[List.replicate_succ,List.replicate_succ,List.flatten_cons,List.flatten_cons];exact h.append (h.rep k)
def cf(M:Md)(ρ:List Addr)(H:Hp):List (Key×D)->List (Key×V)->Prop
 | [],kv=>kv= []
 |(k,d)::r,kv=>∃v t,kv=(k,v)::t/\Rel M ρ H d v/\cf M ρ H r t
theorem cf.imp{ρ':List Addr}{H':Hp}(f:∀d v,Rel M ρ H d v->Rel M ρ' H' d v):∀{l:List (Key×D)} {kv:List (Key×V)},cf M ρ H l kv->cf M ρ' H' l kv
 | [],_,h=>h
 |(_,_)::_,_,⟨v,t,e,h,hs⟩=>⟨v,t,e,f _ _ h,cf.imp f hs⟩
theorem cf.length:∀{l:List (Key×D)} {kv:List (Key×V)},cf M ρ H l kv->l.length=kv.length
 | [],_,h=>by cases h;rfl
 |(_,_)::_,_,⟨v,t,e,h,hs⟩=>by subst e;exact congrArg (·+1) hs.length
def lO(M:Md)(ρ:List Addr)(H:Hp)(a:Addr):O->Prop
 |.lst ds=>∃vs,H a=some (.lst vs)/\aY M ρ H ds vs
 |.frz ds=>∃vs o,H a=some (.frz o (.lst vs))/\aY M ρ H ds vs
 |.dct kvs=>∃kv,H a=some (.dK kv)/\cf M ρ H kvs kv
structure ft(M:Md)(ρ:List Addr)(S:aA)(H:Hp):Prop where
 len:ρ.length=S.length
 nd:ρ.Nodup
 obj:∀(k:Nat) (a:Addr) (o:O),ρ[k]?=some a->S[k]?=some o->lO M ρ H a o
theorem lO.lay{a b:Addr}{o:O}{u:HO}(h:lO M ρ H a o)(hb:H b=none):lO M ρ (upd H b u) a o:=by
 have e:bT ρ H ρ (upd H b u):=bT.laid hb
 have ne:∀{x},H a=some x->upd H b u a=some x:=fun{x} h=>by rw[bf];exact h;intro z;subst z;rw[hb] at h;cases h
 cases o with
 |lst ds=>obtain⟨vs,h1,h2⟩:=h;exact⟨vs,ne h1,h2.ext e⟩
 |frz ds=>obtain⟨vs,o,h1,h2⟩:=h;exact⟨vs,o,ne h1,h2.ext e⟩
 |dct kvs=>obtain⟨kv,h1,h2⟩:=h;exact⟨kv,ne h1,h2.imp fun _ _ r=>r.ext e⟩
theorem ft.lay{S:aA}{b:Addr}{u:HO}(h:ft M ρ S H)(hb:H b=none):ft M ρ S (upd H b u):=⟨h.len,h.nd,fun k a o h1 h2=>(h.obj k a o h1 h2).lay hb⟩
theorem lO.pre{a:Addr}{o:O}(e:ρ <+: ρ')(h:lO M ρ H a o):lO M ρ' H a o:=by
 cases o with
 |lst ds=>obtain⟨vs,h1,h2⟩:=h;exact⟨vs,h1,h2.pre e⟩
 |frz ds=>obtain⟨vs,o,h1,h2⟩:=h;exact⟨vs,o,h1,h2.pre e⟩
 |dct kvs=>obtain⟨kv,h1,h2⟩:=h;exact⟨kv,h1,h2.imp fun _ _ r=>r.pre e⟩
theorem ft.box{S:aA}{a:Addr}{o:O}(h:ft M ρ S H)(hn:a∉ρ)(ho:lO M (ρ++ [a]) H a o):ft M (ρ++ [a]) (S++ [o]) H where
 len:=by rw[lQa,lQa,h.len];rfl
 nd:=by rw[List.nodup_append];exact⟨h.nd,by simp,fun x hx y hy=>by rw[List.mem_singleton] at hy;subst hy;exact fun z=>hn (z▸hx)⟩
 obj:=fun k b u h1 h2=>by
  by_cases c:k<ρ.length
  ·rw[List.getElem?_append_left c] at h1
   rw[List.getElem?_append_left (h.len▸c)] at h2
   exact(h.obj k b u h1 h2).pre (List.prefix_append _ _)
  ·have c:ρ.length<=k:=Nat.le_of_not_lt c
   rw[List.getElem?_append_right c] at h1
   rw[List.getElem?_append_right (h.len▸c)] at h2
   have z:k-ρ.length=0:=by
    have:=(gQs.mp h1).1
    simp at this
    omega
   have z2:k-S.length=0:=by rw[←h.len];exact z
   rw[z] at h1
   rw[z2] at h2
   cases h1
   cases h2
   exact ho
theorem ft.put{S:aA}{k:Nat}{a:Addr}{o o':O}{u:HO}(h:ft M ρ S H)(hk:ρ[k]?=some a)(ho:S[k]?=some o)(hu:lO M ρ (upd H a u) a o')(ne:∀x,H a=some x->¬Ih x):ft M ρ (S.set k o') (upd H a u)/\bT ρ H ρ (upd H a u):=by
 have ma:a∈ρ:=mQg hk
 have e:bT ρ H ρ (upd H a u):=by
  refine⟨List.prefix_refl _,fun _ h=>.inl h,fun b x hx c=> ?_,fun b hb=> ?_⟩
  ·rw[bf]
   ·exact hx
   ·intro z
    subst z
    exact c.elim (fun n=>n ma) fun im=>ne _ hx im
  ·by_cases z:b=a
   ·subst z;rw[bA] at hb;cases hb
   ·rw[bf z] at hb;exact hb
 refine⟨⟨by rw[List.length_set];exact h.len,h.nd,fun j b p h1 h2=> ?_⟩,e⟩
 by_cases c:j=k
 ·subst c
  rw[hk] at h1
  cases h1
  rw[List.getElem?_set_self (gQs.mp ho).1] at h2
  cases h2
  exact hu
 ·rw[List.getElem?_set_ne (Ne.symm c)] at h2
  have ba:b≠a:=by
   intro z
   subst z
   have l1:=(gQs.mp h1)
   have l2:=(gQs.mp hk)
   obtain⟨l1,e1⟩:=l1
   obtain⟨l2,e2⟩:=l2
   exact c (jw h.nd h1 hk)
  have q:=h.obj j b p h1 h2
  cases p with
  |lst ds=>obtain⟨vs,q1,q2⟩:=q;exact⟨vs,by rw[bf ba];exact q1,q2.ext e⟩
  |frz ds=>obtain⟨vs,o,q1,q2⟩:=q;exact⟨vs,o,by rw[bf ba];exact q1,q2.ext e⟩
  |dct kvs=>obtain⟨kv,q1,q2⟩:=q;exact⟨kv,by rw[bf ba];exact q1,q2.imp fun _ _ r=>r.ext e⟩
end
structure En(M:Md)(ρ:List Addr)(H:Hp)(Γ:cE)(σ:L2.St):Prop where
 len:σ.length=Γ.length
 get:∀(i:Nat) (d:D),Γ[i]?=some (some d)->∃v,σ[i]?=some (some v)/\Rel M ρ H d v
theorem En.ext{M:Md}{ρ ρ':List Addr}{H H':Hp}{Γ:cE}{σ:L2.St}(h:En M ρ H Γ σ)(e:bT ρ H ρ' H'):En M ρ' H' Γ σ:=⟨h.len,fun i d q=>by obtain⟨v,h1,h2⟩:=h.get i d q;exact⟨v,h1,h2.ext e⟩⟩
theorem En.set{M:Md}{ρ:List Addr}{H:Hp}{Γ:cE}{σ:L2.St}{i:Nat}{d:D}{v:V}(h:En M ρ H Γ σ)(r:Rel M ρ H d v):En M ρ H (Γ.set i (some d)) (σ.set i (some v)) where
 len:=by rw[List.length_set,List.length_set];exact h.len
 get:=fun j e q=>by
  by_cases c:i=j
  ·subst c
   have l:i<Γ.length:=by
    have:=(gQs.mp q).1
    rwa [List.length_set] at this
   rw[List.getElem?_set_self l] at q
   cases q
   exact⟨v,List.getElem?_set_self (h.len▸l),r⟩
  ·rw[List.getElem?_set_ne c] at q⊢
   exact h.get j e q
structure Ok(M:Md)(ρ:List Addr)(Γ:cE)(S:aA)(σ:L2.St)(H:Hp):Prop where
 en:En M ρ H Γ σ
 st:ft M ρ S H
theorem Ok.to{M:Md}{ρ ρ':List Addr}{Γ:cE}{S S':aA}{σ:L2.St}{H H':Hp}(h:Ok M ρ Γ S σ H)(e:bT ρ H ρ' H')(s:ft M ρ' S' H'):Ok M ρ' Γ S' σ H':=⟨h.en.ext e,s⟩
abbrev bq:=cE->aA->Option (D×aA)
abbrev fG:=cE->aA->Option (List D×aA)
abbrev i6:=cE->aA->Option (Bool×aA)
def tD(M:Md)(f:bq):TE:=fun σ H Q=>∃ρ Γ S d S',Ok M ρ Γ S σ H/\f Γ S=some (d,S')/\∀ρ' v H',bT ρ H ρ' H'->ft M ρ' S' H'->Rel M ρ' H' d v->Q v H'
def tL(M:Md)(f:fG):TE:=fun σ H Q=>∃ρ Γ S ds S',Ok M ρ Γ S σ H/\f Γ S=some (ds,S')∧
 ∀ρ' a vs H',bT ρ H ρ' H'->ft M ρ' S' H'->H a=none->a∉ρ'->H' a=some (.lst vs)->aY M ρ' H' ds vs->Q (.ref a) H'
def vm(M:Md)(f:fG):TA:=fun σ H Q=>∃ρ Γ S ds S',Ok M ρ Γ S σ H/\f Γ S=some (ds,S')/\∀ρ' vs H',bT ρ H ρ' H'->ft M ρ' S' H'->aY M ρ' H' ds vs->Q vs H'
def tB(M:Md)(f:i6):TT:=fun σ H Q=>∃ρ Γ S b S',Ok M ρ Γ S σ H/\f Γ S=some (b,S')/\∀ρ' H',bT ρ H ρ' H'->ft M ρ' S' H'->Q b H'
section
variable{X:Cx}
abbrev md(X:Cx):Md:=⟨X.K,X.mg⟩
theorem je{e:Expr}{t t':TE}(h:PE X e t)(w:∀σ H Q,t' σ H Q->t σ H Q):PE X e t':=fun pins s σ H Q I q=>h pins s σ H Q I (w _ _ _ q)
theorem G2{e:Expr}{t t':TT}(h:PT X e t)(w:∀σ H Q,t' σ H Q->t σ H Q):PT X e t':=fun pins s σ H Q I q=>h pins s σ H Q I (w _ _ _ q)
theorem HW{e:Expr}{t t':TT}(h:PW X e t)(w:∀σ H Q,t' σ H Q->t σ H Q):PW X e t':=fun wh pins s σ H Q I q=>h wh pins s σ H Q I (w _ _ _ q)
theorem HQ{es:List Expr}{t t':TA}(h:PA X es t)(w:∀σ H Q,t' σ H Q->t σ H Q):PA X es t':=fun pos pins s σ H Q I q=>h pos pins s σ H Q I (w _ _ _ q)
theorem yj{e:Stmt}{t t':TS}(h:PS X e t)(w:∀D σ H,t' D σ H->t D σ H):PS X e t':=fun pins s σ H D I q=>h pins s σ H D I (w _ _ _ q)
theorem GC{e:List Stmt}{t t':TS}(h:pe X e t)(w:∀D σ H,t' D σ H->t D σ H):pe X e t':=fun pins s σ H D I q=>h pins s σ H D I (w _ _ _ q)
def af(i:Nat):bq:=fun Γ S=>match Γ[i]? with
 |some (some d)=>some (d,S)
 |_=>none
theorem zc{i:Nat}{Γ:cE}{S:aA}{d:D}{S':aA}(h:af i Γ S=some (d,S')):Γ[i]?=some (some d)/\S'=S:=by
 unfold af at h
 split at h
 ·cases h;exact⟨by assumption,rfl⟩
 ·cases h
theorem Gv{e:Expr}{i:Nat}(h:PE X e (Fu i)):PE X e (tD (md X) (af i)):=je h fun σ H Q qq=>by
 obtain⟨ρ,Γ,S,d,S',ok,e,q⟩:=qq
 obtain⟨e1,rfl⟩:=zc e
 obtain⟨v,h1,h2⟩:=ok.en.get i d e1
 exact⟨v,h1,q ρ v H bT.refl ok.st h2⟩
def cF(d:D):bq:=fun _ S=>some (d,S)
theorem c7{e:Expr}{v:V}{d:D}(h:PE X e (tC v))(r:∀ρ H,Rel (md X) ρ H d v):PE X e (tD (md X) (cF d)):=je h fun σ H Q qq=>by
 obtain⟨ρ,Γ,S,d',S',ok,e,q⟩:=qq
 cases e
 exact q ρ v H bT.refl ok.st (r _ _)
theorem ag{i:Int}{j pos}:PE X (.Constant (.int i) j pos) (tD (md X) (cF (.int i))):=c7 Ed fun _ _=>.int i
theorem Av{b:Bool}{j pos}:PE X (.Constant (.bool b) j pos) (tD (md X) (cF (.bl b))):=c7 FP fun _ _=>.bl b
theorem om{j pos}:PE X (.Constant .none j pos) (tD (md X) (cF .non)):=c7 Eg fun _ _=>.non
theorem aN{x:Str}{j pos}:PE X (.Constant (.str x) j pos) (tD (md X) (cF (.str x))):=c7 Ft fun _ _=>.str x
def cv(f:fG):bq:=fun Γ S=>(f Γ S).bind fun(ds,S')=>some (.ref S'.length,S'++ [.lst ds])
theorem bN{e:Expr}{f:fG}(h:PE X e (tL (md X) f)):PE X e (tD (md X) (cv f)):=je h fun σ H Q qq=>by
 obtain⟨ρ,Γ,S,d,S',ok,e,q⟩:=qq
 unfold cv at e
 cases e1:f Γ S with
 |none=>rw[e1] at e;cases e
 | some p=>
   obtain⟨ds,S1⟩:=p
   rw[e1] at e
   obtain⟨rfl,rfl⟩:=cu e
   refine⟨ρ,Γ,S,ds,S1,ok,e1,fun ρ' a vs H' x st fr nr ha rs=> ?_⟩
   have rs':=rs.pre (List.prefix_append ρ' [a])
   refine q (ρ'++ [a]) (.ref a) H' ⟨x.pre.trans (List.prefix_append _ _),fun b hb=> ?_,x.keep,x.grow⟩ (st.box nr ⟨vs,ha,rs'⟩) (.ref ?_)
   · rcases mQa.mp hb with hb|hb
     · exact x.new b hb
     · rw[List.mem_singleton] at hb;subst hb;exact .inr fr
   · rw[←st.len,List.getElem?_append_right (Nat.le_refl _)]
     simp
def ai:fG:=fun _ S=>some ([],S)
def ae(f:bq)(g:fG):fG:=fun Γ S=>(f Γ S).bind fun(d,S1)=>(g Γ S1).bind fun(ds,S2)=>some (d::ds,S2)
theorem bind_some{α β:Type}{o:Option α}{f:α->Option β}{b:β}(h:o.bind f=some b):∃a,o=some a/\f a=some b:=by
 cases o with
 |none=>cases h
 |some a=>exact⟨a,rfl,h⟩
theorem ah:PA X [] (vm (md X) ai):=HQ eL fun σ H Q qq=>by
 obtain⟨ρ,Γ,S,d,S',ok,e,q⟩:=qq
 cases e
 exact q ρ [] H bT.refl ok.st .nil
theorem aa{e:Expr}{es:List Expr}{f:bq}{g:fG}(ha:PE X e (tD (md X) f))(hr:PA X es (vm (md X) g))(hs:starEach (e::es) X.env=(false,eval e X.env)::starEach es X.env:=by rfl):PA X (e::es) (vm (md X) (ae f g)):=
 HQ (cW ha hr hs) fun σ H Q qq=>by
  obtain⟨ρ,Γ,S,d,S',ok,e,q⟩:=qq
  obtain⟨⟨x,S1⟩,e1,e⟩:=bind_some e
  obtain⟨⟨xs,S2⟩,e2,e⟩:=bind_some e
  obtain⟨rfl,rfl⟩:=cu e
  refine⟨ρ,Γ,S,x,S1,ok,e1,fun ρ1 v H1 x1 st1 r1=>⟨ρ1,Γ,S1,xs,S2,ok.to x1 st1,e2,fun ρ2 vs H2 x2 st2 r2=> ?_⟩⟩
  exact q ρ2 (v::vs) H2 (x1.trans x2) st2 (.cons (r1.ext x2) r2)
def aP(f:fG):bq:=fun Γ S=>(f Γ S).bind fun(ds,S1)=>if ds.length<=sizeLine then some (.tup ds,S1) else none
theorem aH{es:List Expr}{f:fG}{k pos}(h:PA X es (vm (md X) f)):PE X (.Tuple es k pos) (tD (md X) (aP f)):=je (ED h) fun σ H Q qq=>by
 obtain⟨ρ,Γ,S,d,S',ok,e,q⟩:=qq
 obtain⟨⟨ds,S1⟩,e1,e⟩:=bind_some e
 dsimp only at e
 split at e
 ·rename_i c
  obtain⟨rfl,rfl⟩:=cu e
  refine⟨ρ,Γ,S,ds,S1,ok,e1,fun ρ1 vs H1 x1 st1 r1=>⟨r1.length▸c,fun p hp=> ?_⟩⟩
  exact q ρ1 (.ref p) _ (x1.trans (bT.laid hp)) (st1.lay hp) (.tup bA (r1.ext (bT.laid hp)))
 ·cases e
def bB(f:fG):fG:=fun Γ S=>(f Γ S).bind fun(ds,S1)=>if ds.length<=sizeLine then some (ds,S1) else none
theorem cM{M:Md}{ρ ρ':List Addr}{S:aA}{H H':Hp}{p:Addr}(x:bT ρ H ρ' H')(st:ft M ρ' S H')(hp:H' p=none):p∉ρ':=fun m=>by
 obtain⟨k,hk⟩:=List.getElem?_of_mem m
 have l:k<S.length:=st.len▸(gQs.mp hk).1
 have:=st.obj k p _ hk (gQe l)
 cases e:S[k] with
 |lst ds=>rw[e] at this;obtain⟨vs,h,_⟩:=this;rw[hp] at h;cases h
 |frz ds=>rw[e] at this;obtain⟨vs,o,h,_⟩:=this;rw[hp] at h;cases h
 |dct ds=>rw[e] at this;obtain⟨vs,h,_⟩:=this;rw[hp] at h;cases h
theorem bX{es:List Expr}{f:fG}{pos}(h:PA X es (vm (md X) f)):PE X (.List es pos) (tL (md X) (bB f)):=je (DW h) fun σ H Q qq=>by
 obtain⟨ρ,Γ,S,d,S',ok,e,q⟩:=qq
 obtain⟨⟨ds,S1⟩,e1,e⟩:=bind_some e
 dsimp only at e
 split at e
 ·rename_i c
  obtain⟨rfl,rfl⟩:=cu e
  refine⟨ρ,Γ,S,ds,S1,ok,e1,fun ρ1 vs H1 x1 st1 r1=>⟨r1.length▸c,fun p hp=> ?_⟩⟩
  exact q ρ1 p vs _ (x1.trans (bT.laid hp)) (st1.lay hp) (x1.grow p hp) (cM x1 st1 hp) bA (r1.ext (bT.laid hp))
 ·cases e
end
section
variable{X:Cx}{a b c e:Expr}{pos:Pos}
theorem A1:jl X (binaryOp .Add) (fun x y H Q=>∃a b ys,x=.ref a/\y=.ref b/\gL X.K H a []/\gL X.K H b ys/\Q (.ref b) H):=by
 intro pins s σ H x y v u Q I rx ry h
 obtain⟨a,b,ys,rfl,rfl,ha,hb,q⟩:=h
 cases rx
 cases ry
 obtain⟨its,r1,ht,_⟩:=I.tuple ha
 obtain⟨its2,r2,hb,_⟩:=I.tuple hb
 cases r1
 obtain⟨⟨cls,dd,data,sl⟩,ho,hc,n,hd⟩:=id ht
 obtain⟨⟨cls2,dd2,data2,sl2⟩,ho2,hc2,n2,hd2⟩:=id hb
 simp only at hc hd hc2 hd2
 subst hc hd hc2 hd2
 exact concat_meets ⟨_,ho,rfl⟩ ⟨_,ho2,rfl⟩ noFill_tuple_add seq_tuple_add PySem.F.slot_tuple_add PySem.F.entry_tuple_add (PySem.F.args_tuple_add_2 _ _)
   (tuple_addW0 a b _ its2.toArray n n2 dd dd2 sl sl2 (by simp)) ⟨ho,ho2,.ref b,H,I,rfl,q⟩
abbrev rp:=aA->D->D->Option D
def j8(M:Md)(r:R2)(o:rp):Prop:=∀{ρ:List Addr} {S:aA} {H:Hp} {x y d:D} {u v:V} {Q:VK},ft M ρ S H->Rel M ρ H x u->Rel M ρ H y v->o S x y=some d->(∀w H',bT ρ H ρ H'->ft M ρ S H'->Rel M ρ H' d w->Q w H')->r u v H Q
def ay(o:rp)(f g:bq):bq:=fun Γ S=>(f Γ S).bind fun(x,S1)=>(g Γ S1).bind fun(y,S2)=>(o S2 x y).bind fun d=>some (d,S2)
theorem nX{r:R2}{o:rp}{f g:bq}(ho:j8 (md X) r o)(h:PE X e (DR r (tD (md X) f) (tD (md X) g))):PE X e (tD (md X) (ay o f g)):=je h fun σ H Q qq=>by
 obtain⟨ρ,Γ,S,d,S',ok,e,q⟩:=qq
 obtain⟨⟨x,S1⟩,e1,e⟩:=bind_some e
 obtain⟨⟨y,S2⟩,e2,e⟩:=bind_some e
 obtain⟨d',e3,e⟩:=bind_some e
 obtain⟨rfl,rfl⟩:=cu e
 refine⟨ρ,Γ,S,x,S1,ok,e1,fun ρ1 v H1 x1 st1 r1=>⟨ρ1,Γ,S1,y,S2,ok.to x1 st1,e2,fun ρ2 w H2 x2 st2 r2=> ?_⟩⟩
 exact ho st2 (r1.ext x2) r2 e3 fun w' H3 x3 st3 r3=>q ρ2 w' H3 ((x1.trans x2).trans x3) st3 r3
def cq:rp:=fun _ x y=>match x,y with
 |.int i,.int j=>some (.int (i+j))
 |.str i,.str j=>if i.length+j.length<=sizeLine then some (.str (i++j)) else none
 |.tup i,.tup j=>if i.length+j.length<=sizeLine then some (.tup (i++j)) else none
 |_,_=>none
abbrev FU(K:PySem.W.Frag):R2:=fun x y H Q=>(∃i j,x=.int i/\y=.int j/\Q (.int (i+j)) H)\/(∃i j,x=.str i/\y=.str j/\i.length+j.length<=sizeLine/\Q (.str (i++j)) H)∨
 (∃a b ys,x=.ref a/\y=.ref b/\gL K H a []/\gL K H b ys/\Q (.ref b) H)\/DB K x y H Q
theorem Cs:jl X (binaryOp .Add) (FU X.K):=Ef.or (xp.or (A1.or CF))
theorem Fd{M:Md}:j8 M (FU M.K) cq:=by
 intro ρ S H x y d u v Q st r1 r2 e q
 cases r1 with
 |int i=>cases r2 <;>simp only[cq,reduceCtorEq] at e;cases e;exact .inl ⟨_,_,rfl,rfl,q _ _ bT.refl st (.int _)⟩
 | str i=>
   cases r2 <;>simp only[cq,reduceCtorEq] at e
   split at e <;>cases e
   exact .inr (.inl ⟨_,_,rfl,rfl,by assumption,q _ _ bT.refl st (.str _)⟩)
 | tup h1 h2=>
   cases r2 with
   | tup h3 h4=>
     simp only[cq] at e
     split at e <;>cases e
     rename_i hl
     have l1:=h2.length
     have l2:=h4.length
     cases h2 with
     |nil=>exact .inr (.inr (.inl ⟨_,_,_,rfl,rfl,gL.of h1,gL.of h3,q _ _ bT.refl st (.tup h3 h4)⟩))
     | cons h2 h2'=>
       refine .inr (.inr (.inr ⟨_,_,_,_,rfl,rfl,gL.of h1,gL.of h3,by simp,by rw[←l1,←l2];exact hl,fun z=> ?_,fun z p hp=> ?_⟩))
       · subst z
         cases h4
         rw[List.append_nil] at q
         exact q _ _ bT.refl st (.tup h1 (.cons h2 h2'))
       · exact q _ _ (bT.laid hp) (st.lay hp) (.tup bA ((aY.append (.cons h2 h2') h4).ext (bT.laid hp)))
   |_=>simp only[cq,reduceCtorEq] at e
 |_=>simp only[cq,reduceCtorEq] at e
theorem bU{f g:bq}(ha:PE X a (tD (md X) f))(hb:PE X b (tD (md X) g)):PE X (.BinOp a .Add b pos) (tD (md X) (ay cq f g)):=nX Fd (nW Cs ha hb)
def intD(C:Int->Int->Prop)[∀i j,Decidable (C i j)](k:Int->Int->D):rp:=fun _ x y=>match x,y with
 |.int i,.int j=>if C i j then some (k i j) else none
 |_,_=>none
theorem ud{M:Md}{C:Int->Int->Prop}[∀i j,Decidable (C i j)]{k:Int->Int->D}{g:Int->Int->V}(hk:∀i j ρ H,Rel M ρ H (k i j) (g i j)):j8 M (rI C g) (intD C k):=by
 intro ρ S H x y d u v Q st r1 r2 e q
 cases r1 <;>cases r2 <;>simp only[intD,reduceCtorEq] at e
 split at e <;>cases e
 exact⟨_,_,rfl,rfl,by assumption,q _ _ bT.refl st (hk _ _ _ _)⟩
theorem lJ{M:Md}{k:Int->Int->D}{g:Int->Int->V}(hk:∀i j ρ H,Rel M ρ H (k i j) (g i j)):j8 M (y2 g) (intD (fun _ _=>True) k):=by
 intro ρ S H x y d u v Q st r1 r2 e q
 cases r1 <;>cases r2 <;>simp only[intD,reduceCtorEq] at e
 rw[if_pos trivial] at e
 cases e
 exact⟨_,_,rfl,rfl,q _ _ bT.refl st (hk _ _ _ _)⟩
instance{i j:Int}:Decidable (AS i j):=by unfold AS;infer_instance
instance{i j:Int}:Decidable (Az i j):=by unfold Az;infer_instance
open Classical in
noncomputable instance{i j:Int}:Decidable (IntMulOk i j):=Classical.propDecidable _
abbrev j7:rp:=intD (fun _ _=>True) fun i j=>.int (i-j)
noncomputable abbrev kO:rp:=intD IntMulOk fun i j=>.int (i*j)
abbrev oG:rp:=intD (fun _ j=>0<j) fun i j=>.int (i%j)
abbrev vc:rp:=intD AS fun i j=>.int (i/j)
abbrev uB:rp:=intD Az fun i j=>.int (i^j.toNat)
theorem qf{f g:bq}(ha:PE X a (tD (md X) f))(hb:PE X b (tD (md X) g)):PE X (.BinOp a .Sub b pos) (tD (md X) (ay j7 f g)):=nX (lJ fun i j _ _=>.int _) (nW ER ha hb)
theorem pX{f g:bq}(ha:PE X a (tD (md X) f))(hb:PE X b (tD (md X) g)):PE X (.BinOp a .Mult b pos) (tD (md X) (ay kO f g)):=nX (ud fun i j _ _=>.int _) (nW CI ha hb)
theorem p8{f g:bq}(ha:PE X a (tD (md X) f))(hb:PE X b (tD (md X) g)):PE X (.BinOp a .Mod b pos) (tD (md X) (ay oG f g)):=nX (ud fun i j _ _=>.int _) (nW D_ ha hb)
theorem Ak{f g:bq}(ha:PE X a (tD (md X) f))(hb:PE X b (tD (md X) g)):PE X (.BinOp a .FloorDiv b pos) (tD (md X) (ay vc f g)):=nX (ud fun i j _ _=>.int _) (nW Cv ha hb)
theorem BL{f g:bq}(ha:PE X a (tD (md X) f))(hb:PE X b (tD (md X) g)):PE X (.BinOp a .Pow b pos) (tD (md X) (ay uB f g)):=nX (ud fun i j _ _=>.int _) (nW Em ha hb)
def oI(f:bq):bq:=fun Γ S=>(f Γ S).bind fun(d,S1)=>match d with
 |.int i=>some (.int (-i),S1)
 |_=>none
theorem mi{f:bq}(ha:PE X a (tD (md X) f)):PE X (.UnaryOp .USub a pos) (tD (md X) (oI f)):=je (F6 EO ha) fun σ H Q qq=>by
 obtain⟨ρ,Γ,S,d,S',ok,e,q⟩:=qq
 obtain⟨⟨x,S1⟩,e1,e⟩:=bind_some e
 dsimp only at e
 split at e
 ·obtain⟨rfl,rfl⟩:=cu e
  refine⟨ρ,Γ,S,_,S1,ok,e1,fun ρ1 v H1 x1 st1 r1=> ?_⟩
  cases r1
  exact⟨_,rfl,q _ _ _ x1 st1 (.int _)⟩
 ·cases e
def rO:D->Option V
 |.non=>some .non
 |.bl b=>some (.bl b)
 |.int i=>some (.int i)
 |.str x=>some (.str x)
 |_=>none
theorem jO{M:Md}{ρ:List Addr}{H:Hp}{d:D}{u v:V}(r:Rel M ρ H d u)(e:rO d=some v):u=v:=by
 cases r <;>simp[rO] at e <;>exact e
def eB(neg:Bool):rp:=fun _ x y=>match rO x,rO y with
 |some u,some v=>if xo u v=true then some (.bl (if neg then !decide (u=v) else decide (u=v))) else none
 |_,_=>none
theorem vp{neg:Bool}{S:aA}{x y d:D}(e:eB neg S x y=some d):∃u v,rO x=some u/\rO y=some v/\xo u v=true/\d=.bl (if neg then !decide (u=v) else decide (u=v)):=by
 unfold eB at e
 split at e
 ·split at e <;>cases e
  exact⟨_,_,by assumption,by assumption,by assumption,rfl⟩
 ·cases e
theorem bP{M:Md}:j8 M Ia (eB false):=by
 intro ρ S H x y d u v Q st r1 r2 e q
 obtain⟨u',v',h1,h2,h3,rfl⟩:=vp e
 cases jO r1 h1
 cases jO r2 h2
 exact⟨h3,q _ _ bT.refl st (.bl _)⟩
theorem tO{M:Md}:j8 M Ii (eB true):=by
 intro ρ S H x y d u v Q st r1 r2 e q
 obtain⟨u',v',h1,h2,h3,rfl⟩:=vp e
 cases jO r1 h1
 cases jO r2 h2
 exact⟨h3,q _ _ bT.refl st (.bl _)⟩
abbrev AY:rp:=intD (fun _ _=>True) fun i j=>.bl (decide (i<j))
abbrev HL:rp:=intD (fun _ _=>True) fun i j=>.bl (decide (i<=j))
abbrev Fx:rp:=intD (fun _ _=>True) fun i j=>.bl (decide (j<i))
abbrev Hl:rp:=intD (fun _ _=>True) fun i j=>.bl (decide (j<=i))
theorem lN{M:Md}:j8 M (y2 fun i j=>.bl (decide (i<j))) AY:=lJ fun i j _ _=>.bl _
theorem F1{M:Md}:j8 M (y2 fun i j=>.bl (decide (i<=j))) HL:=lJ fun i j _ _=>.bl _
theorem yL{M:Md}:j8 M (y2 fun i j=>.bl (decide (j<i))) Fx:=lJ fun i j _ _=>.bl _
theorem Gm{M:Md}:j8 M (y2 fun i j=>.bl (decide (j<=i))) Hl:=lJ fun i j _ _=>.bl _
def isNone:D->Bool
 |.non=>true
 |_=>false
def vT(neg:Bool):rp:=fun _ x y=>match y with
 |.non=>some (.bl (if neg then !isNone x else isNone x))
 |_=>none
theorem sC{M:Md}{ρ:List Addr}{H:Hp}{d:D}{u:V}(r:Rel M ρ H d u):decide (u=V.non)=isNone d:=by
 cases r <;>simp[isNone]
theorem AD{M:Md}:j8 M (fun x y H Q=>y=.non/\Q (.bl (decide (x=.non))) H) (vT false):=by
 intro ρ S H x y d u v Q st r1 r2 e q
 cases r2 <;>simp only[vT,reduceCtorEq] at e
 cases e
 rw[sC r1]
 exact⟨rfl,q _ _ bT.refl st (.bl _)⟩
theorem CK{M:Md}:j8 M (fun x y H Q=>y=.non/\Q (.bl (!decide (x=.non))) H) (vT true):=by
 intro ρ S H x y d u v Q st r1 r2 e q
 cases r2 <;>simp only[vT,reduceCtorEq] at e
 cases e
 rw[sC r1]
 exact⟨rfl,q _ _ bT.refl st (.bl _)⟩
theorem jb{op:CmpOp}{r:R2}{o:rp}{f g:bq}(ho:jl X (compareOp op) r)(hk:j8 (md X) r o)(ha:PE X a (tD (md X) f))(hb:PE X b (tD (md X) g))(hm:behindInMarks op b=false):PE X (.Compare a [op] [b] pos) (tD (md X) (ay o f g)):=nX hk (CO ho ha hb hm)
def aF(f:bq):i6:=fun Γ S=>(f Γ S).bind fun(d,S1)=>match d with
 |.bl k=>some (k,S1)
 |_=>none
theorem qw{f:bq}{Γ:cE}{S S':aA}{k:Bool}(e:aF f Γ S=some (k,S')):f Γ S=some (.bl k,S'):=by
 obtain⟨⟨d,S1⟩,e1,e⟩:=bind_some e
 dsimp only at e
 split at e
 ·cases e;exact e1
 ·cases e
theorem FN{r:R2}{o:rp}{f g:bq}(ho:j8 (md X) r o)(h:PT X e (AO (DR r (tD (md X) f) (tD (md X) g)))):PT X e (tB (md X) (aF (ay o f g))):=G2 h fun σ H Q qq=>by
 obtain⟨ρ,Γ,S,d,S',ok,e,q⟩:=qq
 have e:=qw e
 obtain⟨⟨x,S1⟩,e1,e⟩:=bind_some e
 obtain⟨⟨y,S2⟩,e2,e⟩:=bind_some e
 obtain⟨d',e3,e⟩:=bind_some e
 obtain⟨rfl,rfl⟩:=cu e
 refine⟨ρ,Γ,S,x,S1,ok,e1,fun ρ1 v H1 x1 st1 r1=>⟨ρ1,Γ,S1,y,S2,ok.to x1 st1,e2,fun ρ2 w H2 x2 st2 r2=> ?_⟩⟩
 exact ho st2 (r1.ext x2) r2 e3 fun w' H3 x3 st3 r3=>by cases r3;exact⟨_,rfl,q ρ2 H3 ((x1.trans x2).trans x3) st3⟩
theorem bt{op:CmpOp}{r:R2}{o:rp}{f g:bq}(ho:jl X (compareOp op) r)(hk:j8 (md X) r o)(ha:PE X a (tD (md X) f))(hb:PE X b (tD (md X) g))(hm:behindInMarks op b=false):PT X (.Compare a [op] [b] pos) (tB (md X) (aF (ay o f g))):=FN hk (oS ho ha hb hm)
def xb(S:aA):D->Option Bool
 |.non=>some false
 |.bl b=>some b
 |.int i=>some (i !=0)
 |.str y=>if y.length<=sizeLine then some ((y.length:Int) !=0) else none
 |.tup xs=>some (!xs.isEmpty)
 | .ref k=>match S[k]? with
   |some (.lst xs)=>some (!xs.isEmpty)
   |some (.dct xs)=>some (!xs.isEmpty)
   |_=>none
 |.fn _=>none
theorem aY.isEmpty{M:Md}{ρ:List Addr}{H:Hp}{ds:List D}{vs:List V}(h:aY M ρ H ds vs):ds.isEmpty=vs.isEmpty:=by cases h <;>rfl
theorem cf.isEmpty{M:Md}{ρ:List Addr}{H:Hp}{ds:List (Key×D)}{vs:List (Key×V)}(h:cf M ρ H ds vs):ds.isEmpty=vs.isEmpty:=by
 cases ds with
 |nil=>cases h;rfl
 |cons p r=>obtain⟨v,t,e,_⟩:=h;subst e;rfl
theorem Cq{M:Md}{ρ:List Addr}{S:aA}{H:Hp}{d:D}{u:V}{k:Bool}(st:ft M ρ S H)(r:Rel M ρ H d u)(e:xb S d=some k):Fj M.K u H k:=by
 cases r with
 |non=>cases e;rfl
 |bl=>cases e;rfl
 |int=>cases e;rfl
 |str=>simp only[xb] at e;split at e <;>cases e;exact⟨by assumption,rfl⟩
 |tup h hs=>cases e;exact .inr (.inl ⟨_,gL.of h,by rw[hs.isEmpty]⟩)
 |fn=>cases e
 | ref h=>
   simp only[xb] at e
   split at e
   · cases e
     obtain⟨vs,h1,h2⟩:=st.obj _ _ _ h (by assumption)
     exact .inl ⟨vs,hG.of h1,by rw[h2.isEmpty]⟩
   · cases e
     obtain⟨vs,h1,h2⟩:=st.obj _ _ _ h (by assumption)
     exact .inr (.inr ⟨vs,h1,by rw[h2.isEmpty]⟩)
   · cases e
def jo(f:bq):i6:=fun Γ S=>(f Γ S).bind fun(d,S1)=>(xb S1 d).bind fun k=>some (k,S1)
theorem h_{f:bq}(ha:PE X a (tD (md X) f))(he:∀whole,isTrue a X.env whole=(do let v←whole;standAt a.pos;holding [v] (truthy v)):=by intro _;rfl):PT X a (tB (md X) (jo f)):=G2 (BW ha he) fun σ H Q qq=>by
 obtain⟨ρ,Γ,S,k,S',ok,e,q⟩:=qq
 obtain⟨⟨x,S1⟩,e1,e⟩:=bind_some e
 obtain⟨k',e2,e⟩:=bind_some e
 obtain⟨rfl,rfl⟩:=cu e
 exact⟨ρ,Γ,S,x,S1,ok,e1,fun ρ1 v H1 x1 st1 r1=>⟨k',Cq st1 r1 e2,q _ _ x1 st1⟩⟩
def u0(f:i6):i6:=fun Γ S=>(f Γ S).bind fun(k,S1)=>some (!k,S1)
theorem sm{f:i6}(ha:PT X a (tB (md X) f)):PT X (.UnaryOp .Not a pos) (tB (md X) (u0 f)):=G2 (EE ha) fun σ H Q qq=>by
 obtain⟨ρ,Γ,S,k,S',ok,e,q⟩:=qq
 obtain⟨⟨k1,S1⟩,e1,e⟩:=bind_some e
 obtain⟨rfl,rfl⟩:=cu e
 exact⟨ρ,Γ,S,k1,S1,ok,e1,fun ρ1 H1 x1 st1=>q _ _ x1 st1⟩
def gn(f g:i6):i6:=fun Γ S=>(f Γ S).bind fun(k,S1)=>if k=true then g Γ S1 else some (false,S1)
def DH(f g:i6):i6:=fun Γ S=>(f Γ S).bind fun(k,S1)=>if k=true then some (true,S1) else g Γ S1
theorem fg{f:i6}(ha:PT X a (tB (md X) f)):PW X (.BoolOp .And [a] pos) (tB (md X) f):=Cc ha
theorem yQ{f:i6}(ha:PT X a (tB (md X) f)):PW X (.BoolOp .Or [a] pos) (tB (md X) f):=Eh ha
theorem w_and{rest:List Expr}{f g:i6}(ha:PT X a (tB (md X) f))(hb:PW X (.BoolOp .And (b::rest) pos) (tB (md X) g)):PW X (.BoolOp .And (a::b::rest) pos) (tB (md X) (gn f g)):=HW (E7 ha hb) fun σ H Q qq=>by
 obtain⟨ρ,Γ,S,k,S',ok,e,q⟩:=qq
 obtain⟨⟨k1,S1⟩,e1,e⟩:=bind_some e
 refine⟨ρ,Γ,S,k1,S1,ok,e1,fun ρ1 H1 x1 st1=> ?_⟩
 dsimp only at e
 split at e
 ·rename_i c
  rw[if_pos c]
  exact⟨ρ1,Γ,S1,k,S',ok.to x1 st1,e,fun ρ2 H2 x2 st2=>q _ _ (x1.trans x2) st2⟩
 ·rename_i c
  rw[if_neg c]
  obtain⟨rfl,rfl⟩:=cu e
  exact q _ _ x1 st1
theorem w_or{rest:List Expr}{f g:i6}(ha:PT X a (tB (md X) f))(hb:PW X (.BoolOp .Or (b::rest) pos) (tB (md X) g)):PW X (.BoolOp .Or (a::b::rest) pos) (tB (md X) (DH f g)):=HW (GK ha hb) fun σ H Q qq=>by
 obtain⟨ρ,Γ,S,k,S',ok,e,q⟩:=qq
 obtain⟨⟨k1,S1⟩,e1,e⟩:=bind_some e
 refine⟨ρ,Γ,S,k1,S1,ok,e1,fun ρ1 H1 x1 st1=> ?_⟩
 dsimp only at e
 split at e
 ·rename_i c
  rw[if_pos c]
  obtain⟨rfl,rfl⟩:=cu e
  exact q _ _ x1 st1
 ·rename_i c
  rw[if_neg c]
  exact⟨ρ1,Γ,S1,k,S',ok.to x1 st1,e,fun ρ2 H2 x2 st2=>q _ _ (x1.trans x2) st2⟩
def rR(f g:bq):bq:=fun Γ S=>(f Γ S).bind fun(d,S1)=>match d with
 |.bl true=>g Γ S1
 |.bl false=>some (.bl false,S1)
 |_=>none
def CY(f:bq):bq:=fun Γ S=>(f Γ S).bind fun(d,S1)=>match d with
 |.bl k=>some (.bl (!k),S1)
 |_=>none
theorem yI{op}{f:bq}(h:PE X a (tD (md X) f)):PE X (.BoolOp op [a] pos) (tD (md X) f):=D5 h
theorem vS{rest:List Expr}{f g:bq}(ha:PE X a (tD (md X) f))(hb:PE X (.BoolOp .And (b::rest) pos) (tD (md X) g)):PE X (.BoolOp .And (a::b::rest) pos) (tD (md X) (rR f g)):=je (Fo ha hb) fun σ H Q qq=>by
 obtain⟨ρ,Γ,S,d,S',ok,e,q⟩:=qq
 obtain⟨⟨x,S1⟩,e1,e⟩:=bind_some e
 refine⟨ρ,Γ,S,x,S1,ok,e1,fun ρ1 v H1 x1 st1 r1=> ?_⟩
 dsimp only at e
 split at e
 ·cases r1
  refine⟨_,rfl,?_⟩
  rw[if_pos rfl]
  exact⟨ρ1,Γ,S1,d,S',ok.to x1 st1,e,fun ρ2 w H2 x2 st2 r2=>q _ _ _ (x1.trans x2) st2 r2⟩
 ·cases r1
  refine⟨_,rfl,?_⟩
  rw[if_neg Bool.false_ne_true]
  obtain⟨rfl,rfl⟩:=cu e
  exact q _ _ _ x1 st1 (.bl _)
 ·cases e
theorem Gf{f:bq}(ha:PE X a (tD (md X) f)):PE X (.UnaryOp .Not a pos) (tD (md X) (CY f)):=je (D9 ha) fun σ H Q qq=>by
 obtain⟨ρ,Γ,S,d,S',ok,e,q⟩:=qq
 obtain⟨⟨x,S1⟩,e1,e⟩:=bind_some e
 refine⟨ρ,Γ,S,x,S1,ok,e1,fun ρ1 v H1 x1 st1 r1=> ?_⟩
 dsimp only at e
 split at e
 ·cases r1
  obtain⟨rfl,rfl⟩:=cu e
  exact⟨_,rfl,q _ _ _ x1 st1 (.bl _)⟩
 ·cases e
def qM(c:i6)(f g:bq):bq:=fun Γ S=>(c Γ S).bind fun(k,S1)=>if k=true then f Γ S1 else g Γ S1
theorem qj{h:i6}{f g:bq}(hc:PT X c (tB (md X) h))(ha:PE X a (tD (md X) f))(hb:PE X b (tD (md X) g)):PE X (.IfExp c a b pos) (tD (md X) (qM h f g)):=je (AB hc ha hb) fun σ H Q qq=>by
 obtain⟨ρ,Γ,S,d,S',ok,e,q⟩:=qq
 obtain⟨⟨k1,S1⟩,e1,e⟩:=bind_some e
 refine⟨ρ,Γ,S,k1,S1,ok,e1,fun ρ1 H1 x1 st1=> ?_⟩
 dsimp only at e
 split at e
 ·rename_i c
  rw[if_pos c]
  exact⟨ρ1,Γ,S1,d,S',ok.to x1 st1,e,fun ρ2 w H2 x2 st2 r2=>q _ _ _ (x1.trans x2) st2 r2⟩
 ·rename_i c
  rw[if_neg c]
  exact⟨ρ1,Γ,S1,d,S',ok.to x1 st1,e,fun ρ2 w H2 x2 st2 r2=>q _ _ _ (x1.trans x2) st2 r2⟩
def aJ:rp:=fun S x y=>match x,y with
 |.tup xs,.int i=>jk xs i
 |.str z,.int i=>if z.length<=sizeLine then(jk z.cps.toList i).map fun c=>.str ⟨#[c]⟩ else none
 | .ref k,.int i=>match S[k]? with
   |some (.lst xs)=>jk xs i
   |some (.frz xs)=>jk xs i
   |_=>none
 |_,_=>none
theorem C3{α β:Type}{xs:List α}{ys:List β}{i:Int}{x:α}(h:jk xs i=some x)(l:xs.length=ys.length):∃j:Nat,xs[j]?=some x/\∀y,ys[j]?=some y->jk ys i=some y:=by
 unfold jk at h
 obtain⟨j,e,h⟩:=bind_some h
 exact⟨j,h,fun y hy=>by unfold jk;rw[←l,e];exact hy⟩
theorem aY.atI{M:Md}{ρ:List Addr}{H:Hp}{ds:List D}{vs:List V}{i:Int}{d:D}(h:aY M ρ H ds vs)(e:L2.jk ds i=some d):∃v,L2.jk vs i=some v/\Rel M ρ H d v:=by
 obtain⟨j,h1,h2⟩:=C3 e h.length
 obtain⟨v,h3,h4⟩:=h.get h1
 exact⟨v,h2 v h3,h4⟩
theorem F7{M:Md}:j8 M (HX M.K) aJ:=by
 intro ρ S H x y d u v Q st r1 r2 e q
 cases r2 <;>cases r1 <;>simp only[aJ,reduceCtorEq] at e
 ·split at e
  ·obtain⟨c,h1,h2⟩:=oQm.mp e
   subst h2
   exact .inr (.inr ⟨_,_,c,rfl,rfl,by assumption,h1,q _ _ bT.refl st (.str _)⟩)
  ·cases e
 ·rename_i h hs
  obtain⟨v,h1,h2⟩:=hs.atI e
  exact .inr (.inl ⟨_,_,_,v,rfl,rfl,gL.of h,h1,q _ _ bT.refl st h2⟩)
 ·rename_i h
  split at e
  ·obtain⟨vs,g1,g2⟩:=st.obj _ _ _ h (by assumption)
   obtain⟨v,h1,h2⟩:=g2.atI e
   exact .inl ⟨_,_,_,v,rfl,rfl,hG.of g1,h1,q _ _ bT.refl st h2⟩
  ·obtain⟨vs,o,g1,g2⟩:=st.obj _ _ _ h (by assumption)
   obtain⟨v,h1,h2⟩:=g2.atI e
   exact .inl ⟨_,_,_,v,rfl,rfl,.inl (.inr ⟨o,g1⟩),h1,q _ _ bT.refl st h2⟩
  ·cases e
theorem av{f g:bq}(ha:PE X a (tD (md X) f))(hb:PE X b (tD (md X) g))(hs:yV b:=by intro _ _;rfl):PE X (.Subscript a b pos) (tD (md X) (ay aJ f g)):=nX F7 (FK E9 ha hb hs)
end
inductive Tag where
 |tu|fr|st (k:Nat)|fz (k:Nat)
def xc(M:Md)(ρ:List Addr)(H:Hp)(a:Addr)(vs:List V):Tag->Prop
 |.tu=>gL M.K H a vs
 |.fr=>H a=some (.lst vs)/\a∉ρ
 |.st k=>ρ[k]?=some a/\H a=some (.lst vs)
 |.fz k=>ρ[k]?=some a/\∃o,H a=some (.frz o (.lst vs))
abbrev eR:=cE->aA->Option ((List D×Tag)×aA)
def tQ(M:Md)(f:eR):TE:=fun σ H Q=>∃ρ Γ S ds t S',Ok M ρ Γ S σ H/\f Γ S=some ((ds,t),S')∧
 ∀ρ' a vs H',bT ρ H ρ' H'->ft M ρ' S' H'->xc M ρ' H' a vs t->aY M ρ' H' ds vs->Q (.ref a) H'
theorem xc.sq{M:Md}{ρ:List Addr}{H:Hp}{a:Addr}{vs:List V}{t:Tag}(h:xc M ρ H a vs t):hG M.K H a vs\/gL M.K H a vs:=by
 cases t with
 |tu=>exact .inr h
 |fr=>exact .inl (hG.of h.1)
 |st k=>exact .inl (hG.of h.2)
 |fz k=>obtain⟨_,o,h⟩:=h;exact .inl (.inl (.inr ⟨o,h⟩))
def Tag.isL:Tag->Bool
 |.tu=>false
 |_=>true
def Tag.isM:Tag->Bool
 |.fr=>true
 |.st _=>true
 |_=>false
theorem xc.sqL{M:Md}{ρ:List Addr}{H:Hp}{a:Addr}{vs:List V}{t:Tag}(h:xc M ρ H a vs t)(c:t.isL=true):hG M.K H a vs:=by
 cases t with
 |tu=>cases c
 |fr=>exact hG.of h.1
 |st k=>exact hG.of h.2
 |fz k=>obtain⟨_,o,h⟩:=h;exact .inl (.inr ⟨o,h⟩)
theorem xc.sqM{M:Md}{ρ:List Addr}{H:Hp}{a:Addr}{vs:List V}{t:Tag}(h:xc M ρ H a vs t)(c:t.isM=true):H a=some (.lst vs):=by
 cases t with
 |tu=>cases c
 |fr=>exact h.1
 |st k=>exact h.2
 |fz k=>cases c
theorem xc.sqT{M:Md}{ρ:List Addr}{H:Hp}{a:Addr}{vs:List V}{t:Tag}(h:xc M ρ H a vs t)(c:t.isL=false):gL M.K H a vs:=by
 cases t with
 |tu=>exact h
 |fr=>cases c
 |st k=>cases c
 |fz k=>cases c
def Tag.stays(S:aA)(ds:List D):Tag->Prop
 |.st k=>S[k]?=some (.lst ds)
 |.fz k=>S[k]?=some (.frz ds)
 |_=>True
theorem gL.ext{K:PySem.W.Frag}{ρ ρ':List Addr}{H H':Hp}{a:Addr}{vs:List V}(e:bT ρ H ρ' H')(h:gL K H a vs):gL K H' a vs:=by
 rcases h with(h|⟨o,h⟩)|h
 ·exact .inl (.inl (e.keep _ _ h (.inr trivial)))
 ·exact .inl (.inr ⟨o,e.keep _ _ h (.inr trivial)⟩)
 ·exact .inr h
theorem xc.to{M:Md}{ρ ρ':List Addr}{S:aA}{H H':Hp}{a:Addr}{vs:List V}{ds:List D}{t:Tag}(h:xc M ρ H a vs t)(r:aY M ρ H ds vs)(e:bT ρ H ρ' H')(st:ft M ρ' S H')(c:t.stays S ds):∃vs',xc M ρ' H' a vs' t/\aY M ρ' H' ds vs':=by
 cases t with
 |tu=>exact⟨vs,gL.ext e h,r.ext e⟩
 |fr=>exact⟨vs,⟨e.keep _ _ h.1 (.inl h.2),fun m=>(e.new a m).elim h.2 fun z=>by have h1:=h.1;rw[z] at h1;cases h1⟩,r.ext e⟩
 | st k=>
   have hk:=cQ e.pre h.1
   obtain⟨vs',h1,h2⟩:=st.obj k a _ hk c
   exact⟨vs',⟨hk,h1⟩,h2⟩
 | fz k=>
   have hk:=cQ e.pre h.1
   obtain⟨vs',o,h1,h2⟩:=st.obj k a _ hk c
   exact⟨vs',⟨hk,o,h1⟩,h2⟩
section
variable{X:Cx}{a b c e:Expr}{pos:Pos}
def fL(f:fG):eR:=fun Γ S=>(f Γ S).bind fun(ds,S1)=>some ((ds,.fr),S1)
theorem gQ{f:fG}(h:PE X e (tL (md X) f)):PE X e (tQ (md X) (fL f)):=je h fun σ H Q qq=>by
 obtain⟨ρ,Γ,S,ds,t,S',ok,e,q⟩:=qq
 obtain⟨⟨ds',S1⟩,e1,e⟩:=bind_some e
 obtain⟨e2,rfl⟩:=cu e
 obtain⟨rfl,rfl⟩:=Prod.mk.inj e2
 exact⟨ρ,Γ,S,ds',S1,ok,e1,fun ρ' a vs H' x st fr nr ha rs=>q _ _ _ _ x st ⟨ha,nr⟩ rs⟩
def pY(S:aA):D->Option (List D×Tag)
 |.tup ds=>some (ds,.tu)
 | .ref k=>match S[k]? with
   |some (.lst ds)=>some (ds,.st k)
   |some (.frz ds)=>some (ds,.fz k)
   |_=>none
 |_=>none
def a8(f:bq):eR:=fun Γ S=>(f Γ S).bind fun(d,S1)=>(pY S1 d).bind fun p=>some (p,S1)
theorem Ce{M:Md}{ρ:List Addr}{S:aA}{H:Hp}{d:D}{v:V}{ds:List D}{t:Tag}(st:ft M ρ S H)(r:Rel M ρ H d v)(e:pY S d=some (ds,t)):∃a vs,v=.ref a/\xc M ρ H a vs t/\aY M ρ H ds vs:=by
 cases r with
 |tup h hs=>simp only[pY] at e;cases e;exact⟨_,_,rfl,gL.of h,hs⟩
 | ref h=>
   simp only[pY] at e
   split at e
   · rename_i q
     cases e
     obtain⟨vs,h1,h2⟩:=st.obj _ _ _ h q
     exact⟨_,vs,rfl,⟨h,h1⟩,h2⟩
   · rename_i q
     cases e
     obtain⟨vs,o,h1,h2⟩:=st.obj _ _ _ h q
     exact⟨_,vs,rfl,⟨h,o,h1⟩,h2⟩
   · cases e
 |_=>simp only[pY,reduceCtorEq] at e
theorem cZ{f:bq}(h:PE X e (tD (md X) f)):PE X e (tQ (md X) (a8 f)):=je h fun σ H Q qq=>by
 obtain⟨ρ,Γ,S,ds,t,S',ok,e,q⟩:=qq
 obtain⟨⟨d,S1⟩,e1,e⟩:=bind_some e
 obtain⟨⟨ds',t'⟩,e2,e⟩:=bind_some e
 obtain⟨e3,rfl⟩:=cu e
 obtain⟨rfl,rfl⟩:=Prod.mk.inj e3
 refine⟨ρ,Γ,S,d,S1,ok,e1,fun ρ' v H' x st r=> ?_⟩
 obtain⟨a,vs,rfl,h1,h2⟩:=Ce st r e2
 exact q _ _ _ _ x st h1 h2
theorem eV{f:eR}{p:Pos}(hg:Gl X "len")(hm:X.mg "len"=none)(ha:PE X a (tQ (md X) f))(hs:starEach [a] X.env= [(false,eval a X.env)]:=by rfl):
  PE X (.Call (.Name "len" p) [a] [] pos) (tD (md X) fun Γ S=>(f Γ S).bind fun(p,S1)=>some (.int p.1.length,S1)):=
 je (dZ t9 hg hm PySem.boot_len (cW ha eL hs) (he:=hs)) fun σ H Q qq=>by
  obtain⟨ρ,Γ,S,d,S',ok,e,q⟩:=qq
  obtain⟨⟨⟨ds,t⟩,S1⟩,e1,e⟩:=bind_some e
  obtain⟨rfl,rfl⟩:=cu e
  refine⟨ρ,Γ,S,ds,t,S1,ok,e1,fun ρ' a vs H' x st h r=>⟨a,vs,rfl,h.sq,?_⟩⟩
  have:=q _ (.int vs.length) _ x st (by rw[←r.length];exact .int _)
  exact this
def gk(f:eR):bq:=fun Γ S=>(f Γ S).bind fun(p,S1)=>some (.int p.1.length,S1)
def tupQ(f:eR):bq:=fun Γ S=>(f Γ S).bind fun(p,S1)=>some (.tup p.1,S1)
theorem dB{f:eR}{p:Pos}(hg:Gl X "tuple")(hm:X.mg "tuple"=none)(ha:PE X a (tQ (md X) f))(hs:starEach [a] X.env= [(false,eval a X.env)]:=by rfl)(ht:∀Γ S ds t S',f Γ S=some ((ds,t),S')->t.isL=true):
  PE X (.Call (.Name "tuple" p) [a] [] pos) (tD (md X) (tupQ f)):=
 je (dq rK hg hm (by rfl) (cW ha eL hs) (he:=hs)) fun σ H Q qq=>by
  obtain⟨ρ,Γ,S,d,S',ok,e,q⟩:=qq
  obtain⟨⟨⟨ds,t⟩,S1⟩,e1,e⟩:=bind_some e
  obtain⟨rfl,rfl⟩:=cu e
  refine⟨ρ,Γ,S,ds,t,S1,ok,e1,fun ρ' a vs H' x st h r=>⟨a,vs,rfl,.inl ⟨h.sqL (ht _ _ _ _ _ e1),fun l hl=> ?_⟩⟩⟩
  exact q _ _ _ (x.trans (bT.laid hl)) (st.lay hl) (.tup bA (r.ext (bT.laid hl)))
theorem e_{f:fG}:∀Γ S ds t S',fL f Γ S=some ((ds,t),S')->t.isL=true:=fun Γ S ds t S' e=>by
 obtain⟨⟨ds',S1⟩,e1,e⟩:=bind_some e
 cases e
 rfl
def fU(f:eR):eR:=fun Γ S=>(f Γ S).bind fun(p,S1)=>if p.2.isL=true then some (p,S1) else none
theorem gY{f:eR}:∀Γ S ds t S',fU f Γ S=some ((ds,t),S')->t.isL=true:=fun Γ S ds t S' e=>by
 obtain⟨⟨⟨ds',t'⟩,S1⟩,e1,e⟩:=bind_some e
 dsimp only at e
 split at e <;>cases e
 assumption
theorem yy{f:eR}(h:PE X e (tQ (md X) f)):PE X e (tQ (md X) (fU f)):=je h fun σ H Q qq=>by
 obtain⟨ρ,Γ,S,ds,t,S',ok,e,q⟩:=qq
 obtain⟨⟨⟨ds',t'⟩,S1⟩,e1,e⟩:=bind_some e
 dsimp only at e
 split at e
 ·obtain⟨e3,rfl⟩:=cu e
  obtain⟨rfl,rfl⟩:=Prod.mk.inj e3
  exact⟨ρ,Γ,S,ds',t',S1,ok,e1,q⟩
 ·cases e
def Fq:List D->Option (List Bool)
 | []=>some []
 |.bl b::r=>(Fq r).bind fun bs=>some (b::bs)
 |_::_=>none
theorem BA{M:Md}{ρ:List Addr}{H:Hp}:∀{ds:List D} {vs:List V} {bs:List Bool},aY M ρ H ds vs->Fq ds=some bs->vs=bs.map V.bl
 | [],_,_,h,e=>by cases h;cases e;rfl
 | d::ds,_,_,h,e=>by
   cases d with
   | bl b=>
     simp only[Fq] at e
     obtain⟨bs',e1,e⟩:=bind_some e
     cases e
     cases h with
     | cons h hs=>
       cases h
       rw[BA hs e1]
       rfl
   |_=>cases e
def CB(f:eR):bq:=fun Γ S=>(f Γ S).bind fun(p,S1)=>if p.2.isL=true then(Fq p.1).bind fun bs=>some (.bl (bs.all id),S1) else none
theorem FM{f:eR}{p:Pos}(hc:X.calm=true)(hg:Gl X "all")(hm:X.mg "all"=none)(ha:PE X a (tQ (md X) f))(hs:starEach [a] X.env= [(false,eval a X.env)]:=by rfl):
  PE X (.Call (.Name "all" p) [a] [] pos) (tD (md X) (CB f)):=
 je (dZ (y3 hc) hg hm (by rfl) (cW ha eL hs) (he:=hs)) fun σ H Q qq=>by
  obtain⟨ρ,Γ,S,d,S',ok,e,q⟩:=qq
  obtain⟨⟨⟨ds,t⟩,S1⟩,e1,e⟩:=bind_some e
  dsimp only at e
  split at e
  ·rename_i c
   obtain⟨bs,e2,e⟩:=bind_some e
   obtain⟨rfl,rfl⟩:=cu e
   refine⟨ρ,Γ,S,ds,t,S1,ok,e1,fun ρ' a vs H' x st h r=>⟨a,bs,rfl,?_,q _ _ _ x st (.bl _)⟩⟩
   rw[←BA r e2]
   exact h.sqL c
  ·cases e
def Co(S:aA)(T:String):D->Option Bool
 |.non=>some (T=="NoneType")
 |.bl _=>some (T=="bool" ||T=="int")
 |.int _=>some (T=="int")
 |.str _=>some (T=="str")
 |.tup _=>some (T=="tuple")
 | .ref k=>match S[k]? with
   |some (.lst _)=>some (T=="list")
   |some (.frz _)=>some (T=="list")
   |some (.dct _)=>some (T=="dict")
   |_=>none
 |.fn _=>none
def F4(K:PySem.W.Frag)(T:String):Prop:=(PySem.W.kitOne K (.type "NoneType") (.type T)=some (T=="NoneType"))/\(PySem.W.kitOne K (.type "bool") (.type T)=some (T=="bool" ||T=="int"))/\(PySem.W.kitOne K (.type "int") (.type T)=some (T=="int"))/\(PySem.W.kitOne K (.type "str") (.type T)=some (T=="str"))∧
 (PySem.W.kitOne K (.type "tuple") (.type T)=some (T=="tuple"))/\(PySem.W.kitOne K (.type "list") (.type T)=some (T=="list"))/\(PySem.W.kitOne K (.type "dict") (.type T)=some (T=="dict"))
def m3(T:String)(f:bq):bq:=fun Γ S=>(f Γ S).bind fun(d,S1)=>(Co S1 T d).bind fun k=>some (.bl k,S1)
theorem lQ{T:String}{tn:Expr}{f:bq}{p:Pos}(hk:F4 X.K T)(hg:Gl X "isinstance")(hm:X.mg "isinstance"=none)(ha:PE X a (tD (md X) f))(ht:PE X tn (tC (.ty T)))(hs:starEach [a,tn] X.env= [(false,eval a X.env),(false,eval tn X.env)]:=by rfl)(hs1:starEach [tn] X.env= [(false,eval tn X.env)]:=by rfl):
  PE X (.Call (.Name "isinstance" p) [a,tn] [] pos) (tD (md X) (m3 T f)):=
 je (dZ Ar hg hm boot_isinstance (cW ha (cW ht eL hs1) (by rw[hs,hs1])) (he:=by rw[hs,hs1]) (hpl:=by rw[hs1];rfl)) fun σ H Q qq=>by
  obtain⟨ρ,Γ,S,d,S',ok,e,q⟩:=qq
  obtain⟨⟨d',S1⟩,e1,e⟩:=bind_some e
  obtain⟨k,e2,e⟩:=bind_some e
  obtain⟨rfl,rfl⟩:=cu e
  obtain⟨k1,k2,k3,k4,k5,k6,k7⟩:=hk
  refine⟨ρ,Γ,S,d',S1,ok,e1,fun ρ' v H' x st r=> ?_⟩
  have fin:=q _ _ _ x st (.bl _)
  cases r with
  |non=>cases e2;exact⟨_,_,_,_,rfl,.non,k1,fin⟩
  |bl=>cases e2;exact⟨_,_,_,_,rfl,.bl _,k2,fin⟩
  |int=>cases e2;exact⟨_,_,_,_,rfl,.int _,k3,fin⟩
  |str=>cases e2;exact⟨_,_,_,_,rfl,.str _,k4,fin⟩
  |tup h hs=>cases e2;exact⟨_,_,_,_,rfl,.tup h,k5,fin⟩
  |fn=>cases e2
  | ref h=>
    simp only[Co] at e2
    split at e2
    · rename_i q';cases e2;obtain⟨vs,h1,_⟩:=st.obj _ _ _ h q';exact⟨_,_,_,_,rfl,.lst h1,k6,fin⟩
    · rename_i q';cases e2;obtain⟨vs,o,h1,_⟩:=st.obj _ _ _ h q';exact⟨_,_,_,_,rfl,.frz h1,k6,fin⟩
    · rename_i q';cases e2;obtain⟨vs,h1,_⟩:=st.obj _ _ _ h q';exact⟨_,_,_,_,rfl,.dK h1,k7,fin⟩
    · cases e2
abbrev DT:=List D->Option D
def Bs(M:Md)(r:List V->Hp->VK->Prop)(o:DT):Prop:=∀{ρ:List Addr} {S:aA} {H:Hp} {xs:List D} {d:D} {us:List V} {Q:VK},ft M ρ S H->aY M ρ H xs us->o xs=some d->(∀w,Rel M ρ H d w->Q w H)->r us H Q
def tX(o:DT)(f:fG):bq:=fun Γ S=>(f Γ S).bind fun(xs,S1)=>(o xs).bind fun d=>some (d,S1)
theorem oO{r:List V->Hp->VK->Prop}{o:DT}{f:fG}(ho:Bs (md X) r o)(h:PE X e (GY r (vm (md X) f))):PE X e (tD (md X) (tX o f)):=je h fun σ H Q qq=>by
 obtain⟨ρ,Γ,S,d,S',ok,e,q⟩:=qq
 obtain⟨⟨xs,S1⟩,e1,e⟩:=bind_some e
 obtain⟨d',e3,e⟩:=bind_some e
 obtain⟨rfl,rfl⟩:=cu e
 exact⟨ρ,Γ,S,xs,S1,ok,e1,fun ρ1 vs H1 x1 st1 r1=>ho st1 r1 e3 fun w r3=>q ρ1 w H1 x1 st1 r3⟩
def C0:DT
 | [.int i]=>some (.int (if i<0 then -i else i))
 |_=>none
def maxD:DT
 | [.int i,.int j]=>some (.int (if j>i then j else i))
 |_=>none
def minD:DT
 | [.int i,.int j]=>some (.int (if j<i then j else i))
 |_=>none
def intOfD:DT
 | [.int i]=>some (.int i)
 | [.bl k]=>some (.int (if k then 1 else 0))
 |_=>none
theorem Ei{M:Md}:Bs M (fun xs H Q=>∃i,xs= [.int i]/\Q (.int (if i<0 then -i else i)) H) C0:=by
 intro ρ S H xs d us Q st r e q
 unfold C0 at e
 split at e <;>cases e
 cases r with|cons r rr=>cases rr;cases r;exact⟨_,rfl,q _ (.int _)⟩
theorem Bw{M:Md}:Bs M (fun xs H Q=>∃i j,xs= [.int i,.int j]/\Q (.int (if j>i then j else i)) H) maxD:=by
 intro ρ S H xs d us Q st r e q
 unfold maxD at e
 split at e <;>cases e
 cases r with|cons r rr=>cases rr with|cons r' rr=>cases rr;cases r;cases r';exact⟨_,_,rfl,q _ (.int _)⟩
theorem xS{M:Md}:Bs M (fun xs H Q=>∃i j,xs= [.int i,.int j]/\Q (.int (if j<i then j else i)) H) minD:=by
 intro ρ S H xs d us Q st r e q
 unfold minD at e
 split at e <;>cases e
 cases r with|cons r rr=>cases rr with|cons r' rr=>cases rr;cases r;cases r';exact⟨_,_,rfl,q _ (.int _)⟩
theorem hZ{M:Md}:Bs M (fun xs H Q=>(∃i,xs= [.int i]/\Q (.int i) H)\/∃k,xs= [.bl k]/\Q (.int (if k then 1 else 0)) H) intOfD:=by
 intro ρ S H xs d us Q st r e q
 unfold intOfD at e
 split at e <;>cases e
 ·cases r with|cons r rr=>cases rr;cases r;exact .inl ⟨_,rfl,q _ (.int _)⟩
 ·cases r with|cons r rr=>cases rr;cases r;exact .inr ⟨_,rfl,q _ (.int _)⟩
def jE:List D->Option (List V)
 | []=>some []
 |d::r=>(rO d).bind fun v=>(jE r).bind fun vs=>some (v::vs)
theorem lD{d:D}{v:V}(e:rO d=some v):eZ v=true:=by
 cases d <;>simp[rO] at e <;>subst e <;>rfl
theorem lP{M:Md}{ρ:List Addr}{H:Hp}:∀{ds:List D} {us vs:List V},aY M ρ H ds us->jE ds=some vs->us=vs/\vs.all eZ=true
 |_,_,_,.nil,e=>by cases e;exact⟨rfl,rfl⟩
 | _,_,_,.cons h hs,e=>by
   obtain⟨v,e1,e⟩:=bind_some e
   obtain⟨vs,e2,e⟩:=bind_some e
   cases e
   obtain⟨h1,h2⟩:=lP hs e2
   rw[jO h e1,h1]
   exact⟨rfl,by rw[List.all_cons,lD e1,h2];rfl⟩
def ye(neg:Bool)(f:bq)(g:eR):bq:=fun Γ S=>(f Γ S).bind fun(x,S1)=>(g Γ S1).bind fun(p,S2)=>(rO x).bind fun v=>(jE p.1).bind fun vs=>some (.bl (if neg then !Bj v vs else Bj v vs),S2)
theorem xu{f:bq}{t:TE}(hw:∀σ H Q,tD (md X) f σ H Q->t σ H Q)(h:PT X e (AO t)):PT X e (tB (md X) (aF f)):=G2 h fun σ H Q ⟨ρ,Γ,S,k,S',ok,e,q⟩=>
 hw _ _ _ ⟨ρ,Γ,S,.bl k,S',ok,qw e,fun ρ' v H' x st r=>by cases r;exact⟨k,rfl,q _ _ x st⟩⟩
theorem Dy{neg:Bool}{f:bq}{g:eR}:∀σ H Q,tD (md X) (ye neg f g) σ H Q->DR (Hc X.K neg) (tD (md X) f) (tQ (md X) g) σ H Q:=fun σ H Q qq=>by
 obtain⟨ρ,Γ,S,d,S',ok,e,q⟩:=qq
 obtain⟨⟨x,S1⟩,e1,e⟩:=bind_some e
 obtain⟨⟨⟨ds,t⟩,S2⟩,e2,e⟩:=bind_some e
 obtain⟨v,e3,e⟩:=bind_some e
 obtain⟨vs,e4,e⟩:=bind_some e
 obtain⟨rfl,rfl⟩:=cu e
 refine⟨ρ,Γ,S,x,S1,ok,e1,fun ρ1 u H1 x1 st1 r1=>⟨ρ1,Γ,S1,ds,t,S2,ok.to x1 st1,e2,fun ρ2 a us H2 x2 st2 h2 r2=> ?_⟩⟩
 cases jO r1 e3
 obtain⟨h3,h4⟩:=lP r2 e4
 subst h3
 exact⟨a,us,rfl,h2.sq,lD e3,h4,q _ _ _ (x1.trans x2) st2 (.bl _)⟩
theorem xJ{f:bq}{g:eR}(ha:PE X a (tD (md X) f))(hb:PE X b (tQ (md X) g))(hm:behindInMarks .In b=false:=by rfl):PT X (.Compare a [.In] [b] pos) (tB (md X) (aF (ye false f g))):=xu Dy (oS zO ha hb hm)
theorem yG{f:bq}{g:eR}(ha:PE X a (tD (md X) f))(hb:PE X b (tQ (md X) g))(hm:behindInMarks .NotIn b=false:=by rfl):PT X (.Compare a [.NotIn] [b] pos) (tB (md X) (aF (ye true f g))):=xu Dy (oS um ha hb hm)
end
inductive Out where
 |nx (Γ:cE) (S:aA)|bk (Γ:cE) (S:aA)|ct (Γ:cE) (S:aA)|rt (d:D) (S:aA)|rl (ds:List D) (S:aA)
abbrev cH:=cE->aA->Option Out
def uF(M:Md)(ρ:List Addr)(H:Hp)(D:Ends):Out->Prop
 |.nx Γ' S'=>∀ρ' σ' H',bT ρ H ρ' H'->Ok M ρ' Γ' S' σ' H'->D.nx σ' H'
 |.bk Γ' S'=>∀ρ' σ' H',bT ρ H ρ' H'->Ok M ρ' Γ' S' σ' H'->D.bk σ' H'
 |.ct Γ' S'=>∀ρ' σ' H',bT ρ H ρ' H'->Ok M ρ' Γ' S' σ' H'->D.ct σ' H'
 |.rt d S'=>∀ρ' v H',bT ρ H ρ' H'->ft M ρ' S' H'->Rel M ρ' H' d v->D.rt v H'
 |.rl ds S'=>∀ρ' a vs H',bT ρ H ρ' H'->ft M ρ' S' H'->H a=none->a∉ρ'->H' a=some (.lst vs)->aY M ρ' H' ds vs->D.rt (.ref a) H'
theorem uF.to{M:Md}{ρ ρ1:List Addr}{H H1:Hp}{D:Ends}{o:Out}(h:uF M ρ H D o)(e:bT ρ H ρ1 H1):uF M ρ1 H1 D o:=by
 cases o with
 |nx=>exact fun ρ' σ' H' x ok=>h _ _ _ (e.trans x) ok
 |bk=>exact fun ρ' σ' H' x ok=>h _ _ _ (e.trans x) ok
 |ct=>exact fun ρ' σ' H' x ok=>h _ _ _ (e.trans x) ok
 |rt=>exact fun ρ' v H' x st r=>h _ _ _ (e.trans x) st r
 |rl=>exact fun ρ' a vs H' x st fr nr ha r=>h _ _ _ _ (e.trans x) st (e.grow _ fr) nr ha r
def tS(M:Md)(g:cH):TS:=fun D σ H=>∃ρ Γ S o,Ok M ρ Γ S σ H/\g Γ S=some o/\uF M ρ H D o
section
variable{X:Cx}{a b c e:Expr}{pos:Pos}{st:Stmt}{rest body other:List Stmt}
def fu:cH:=fun Γ S=>some (.nx Γ S)
theorem bD:pe X [] (tS (md X) fu):=GC CP fun D σ H ⟨ρ,Γ,S,o,ok,e,q⟩=>by cases e;exact q _ _ _ bT.refl ok
def az(f g:cH):cH:=fun Γ S=>(f Γ S).bind fun o=>match o with
 |.nx Γ1 S1=>g Γ1 S1
 |o=>some o
theorem aj{f g:cH}(h1:PS X st (tS (md X) f))(h2:pe X rest (tS (md X) g)):pe X (st::rest) (tS (md X) (az f g)):=GC (Ab h1 h2) fun D σ H qq=>by
 obtain⟨ρ,Γ,S,o,ok,e,q⟩:=qq
 obtain⟨o1,e1,e⟩:=bind_some e
 refine⟨ρ,Γ,S,o1,ok,e1,?_⟩
 cases o1 with
 |nx Γ1 S1=>exact fun ρ1 σ1 H1 x1 ok1=>⟨ρ1,Γ1,S1,o,ok1,e,q.to x1⟩
 |bk=>cases e;exact q
 |ct=>cases e;exact q
 |rt=>cases e;exact q
 |rl=>cases e;exact q
theorem ax{f:cH}(h1:PS X st (tS (md X) f)):pe X [st] (tS (md X) f):=Dh h1
def never:cH:=fun _ _=>none
theorem Da:PS X st (tS (md X) never):=yj Bz fun D σ H ⟨ρ,Γ,S,o,ok,e,q⟩=>by cases e
def kA(f:bq):cH:=fun Γ S=>(f Γ S).bind fun(_,S1)=>some (.nx Γ S1)
theorem cx{f:bq}(h:PE X e (tD (md X) f))(hs:swapsWith e none pos.line X.env=pure false:=by rfl):PS X (.Expr e pos) (tS (md X) (kA f)):=yj (CT h hs) fun D σ H qq=>by
 obtain⟨ρ,Γ,S,o,ok,e,q⟩:=qq
 obtain⟨⟨d,S1⟩,e1,e⟩:=bind_some e
 cases e
 exact⟨ρ,Γ,S,d,S1,ok,e1,fun ρ' v H' x st r=>q _ _ _ x (ok.to x st)⟩
def b9(f:bq):cH:=fun Γ S=>(f Γ S).bind fun(d,S1)=>some (.rt d S1)
theorem aD{f:bq}(h:PE X e (tD (md X) f)):PS X (.Return (some e) pos) (tS (md X) (b9 f)):=yj (Aj h) fun D σ H qq=>by
 obtain⟨ρ,Γ,S,o,ok,e,q⟩:=qq
 obtain⟨⟨d,S1⟩,e1,e⟩:=bind_some e
 cases e
 exact⟨ρ,Γ,S,d,S1,ok,e1,q⟩
def AX(f:fG):cH:=fun Γ S=>(f Γ S).bind fun(ds,S1)=>some (.rl ds S1)
theorem kG{f:fG}(h:PE X e (tL (md X) f)):PS X (.Return (some e) pos) (tS (md X) (AX f)):=yj (Aj h) fun D σ H qq=>by
 obtain⟨ρ,Γ,S,o,ok,e,q⟩:=qq
 obtain⟨⟨d,S1⟩,e1,e⟩:=bind_some e
 cases e
 exact⟨ρ,Γ,S,d,S1,ok,e1,q⟩
def eC(c:i6)(f g:cH):cH:=fun Γ S=>(c Γ S).bind fun(k,S1)=>if k=true then f Γ S1 else g Γ S1
theorem bV{h:i6}{f g:cH}(hc:PT X c (tB (md X) h))(ha:pe X body (tS (md X) f))(hb:pe X other (tS (md X) g)):PS X (.If c body other pos) (tS (md X) (eC h f g)):=yj (FE hc ha hb) fun D σ H qq=>by
 obtain⟨ρ,Γ,S,o,ok,e,q⟩:=qq
 obtain⟨⟨k,S1⟩,e1,e⟩:=bind_some e
 refine⟨ρ,Γ,S,k,S1,ok,e1,fun ρ1 H1 x1 st1=> ?_⟩
 dsimp only at e
 split at e
 ·rename_i c
  rw[if_pos c]
  exact⟨ρ1,Γ,S1,o,ok.to x1 st1,e,q.to x1⟩
 ·rename_i c
  rw[if_neg c]
  exact⟨ρ1,Γ,S1,o,ok.to x1 st1,e,q.to x1⟩
abbrev lu:=D->cE->aA->Option (cE×aA)
abbrev oA:=List D->cE->aA->Option (cE×aA)
def tG(M:Md)(g:lu):TG:=fun v σ H Q=>∃ρ Γ S d Γ' S',Ok M ρ Γ S σ H/\Rel M ρ H d v/\g d Γ S=some (Γ',S')/\∀ρ' σ' H',bT ρ H ρ' H'->Ok M ρ' Γ' S' σ' H'->Q σ' H'
def GR(M:Md)(g:oA):Cn:=fun vs σ H Q=>∃ρ Γ S ds Γ' S',Ok M ρ Γ S σ H/\aY M ρ H ds vs/\g ds Γ S=some (Γ',S')/\∀ρ' σ' H',bT ρ H ρ' H'->Ok M ρ' Γ' S' σ' H'->Q σ' H'
theorem HK{t t':TG}(h:PG X e t)(w:∀v σ H Q,t' v σ H Q->t v σ H Q):PG X e t':=fun pins s σ H v u Q I r q=>h pins s σ H v u Q I r (w _ _ _ _ q)
theorem GI{es:List Expr}{t t':Cn}(h:B8 X es t)(w:∀v σ H Q,t' v σ H Q->t v σ H Q):B8 X es t':=fun pins s σ H v u Q I r q=>h pins s σ H v u Q I r (w _ _ _ _ q)
def bO(i:Nat):lu:=fun d Γ S=>some (Γ.set i (some d),S)
theorem Bh{i:Nat}(h:PG X e (qd i)):PG X e (tG (md X) (bO i)):=HK h fun v σ H Q qq=>by
 obtain⟨ρ,Γ,S,d,Γ',S',ok,r,e,q⟩:=qq
 cases e
 exact q _ _ _ bT.refl ⟨ok.en.set r,ok.st⟩
def dC:oA:=fun ds Γ S=>match ds with
 | []=>some (Γ,S)
 |_=>none
def aE(f:lu)(g:oA):oA:=fun ds Γ S=>match ds with
 |d::r=>(f d Γ S).bind fun(Γ1,S1)=>g r Γ1 S1
 | []=>none
theorem bE:B8 X [] (GR (md X) dC):=GI Cz fun vs σ H Q qq=>by
 obtain⟨ρ,Γ,S,ds,Γ',S',ok,r,e,q⟩:=qq
 cases r with
 |nil=>cases e;exact⟨rfl,q _ _ _ bT.refl ok⟩
 |cons=>cases e
theorem au{es:List Expr}{f:lu}{g:oA}(h1:PG X e (tG (md X) f))(h2:B8 X es (GR (md X) g))(hs:(assignEach (e::es) X.env).map (·.2)=assign e X.env::(assignEach es X.env).map (·.2):=by rfl):B8 X (e::es) (GR (md X) (aE f g)):=
 GI (BG h1 h2 hs) fun vs σ H Q qq=>by
  obtain⟨ρ,Γ,S,ds,Γ',S',ok,r,e,q⟩:=qq
  cases r with
  |nil=>cases e
  | cons r rs=>
    obtain⟨⟨Γ1,S1⟩,e1,e⟩:=bind_some e
    refine⟨_,_,rfl,ρ,Γ,S,_,Γ1,S1,ok,r,e1,fun ρ1 σ1 H1 x1 ok1=>⟨ρ1,Γ1,S1,_,Γ',S',ok1,rs.ext x1,e,fun ρ2 σ2 H2 x2 ok2=>q _ _ _ (x1.trans x2) ok2⟩⟩
def iB(g:oA):lu:=fun d Γ S=>match d with
 |.tup ds=>g ds Γ S
 |_=>none
def nG(n:Nat)(g:oA):oA:=fun ds Γ S=>if ds.length=n then g ds Γ S else none
theorem cy{es:List Expr}{k:Nat}{g:oA}{n:Nat}(hc:X.calm=true)(h:B8 X es (GR (md X) g))(hn:(assignEach es X.env).length=n:=by rfl)(hst:(assignEach es X.env).findIdx? (·.1)=none:=by rfl):
  PG X (.Tuple es k pos) (tG (md X) (iB (nG n g))):=HK (D1 hc h hn hst) fun v σ H Q ⟨ρ,Γ,S,d,Γ',S',ok,r,e,q⟩=>by
 cases r with
 | tup h hs=>
   simp only[iB,nG] at e
   split at e
   · rename_i c
     exact⟨_,_,rfl,gL.of h,by rw[←hs.length];exact c,ρ,Γ,S,_,Γ',S',ok,hs,e,q⟩
   · cases e
 |_=>cases e
def pq(f:bq)(g:lu):cH:=fun Γ S=>(f Γ S).bind fun(d,S1)=>(g d Γ S1).bind fun(Γ2,S2)=>some (.nx Γ2 S2)
theorem F_{f:bq}{g:lu}:∀D σ H,tS (md X) (pq f g) D σ H->zV (tD (md X) f) (tG (md X) g) D σ H:=fun D σ H qq=>by
 obtain⟨ρ,Γ,S,o,ok,e,q⟩:=qq
 obtain⟨⟨d,S1⟩,e1,e⟩:=bind_some e
 obtain⟨⟨Γ2,S2⟩,e2,e⟩:=bind_some e
 cases e
 exact⟨ρ,Γ,S,d,S1,ok,e1,fun ρ1 v H1 x1 st1 r1=>⟨ρ1,Γ,S1,d,Γ2,S2,ok.to x1 st1,r1,e2,fun ρ2 σ2 H2 x2 ok2=>q _ _ _ (x1.trans x2) ok2⟩⟩
theorem eU{tg:Expr}{f:bq}{g:lu}(he:PE X e (tD (md X) f))(hg:PG X tg (tG (md X) g))(hs:swapsWithSole [tg] e pos.line X.env=pure false:=by rfl)(hw:swappedStores [tg] e X.env=pure none:=by rfl)
  (h1:(assignEach [tg] X.env).map (·.2)= [assign tg X.env]:=by rfl):PS X (.Assign [tg] e pos) (tS (md X) (pq f g)):=yj (Ee he hg hs hw h1) F_
def aU(i:Nat)(f:bq):cH:=fun Γ S=>(f Γ S).bind fun(d,S1)=>some (.nx (Γ.set i (some d)) S1)
theorem GG{i:Nat}{f:bq}(h:PS X st (zV (tD (md X) f) (qd i))):PS X st (tS (md X) (aU i f)):=yj h fun D σ H qq=>by
 obtain⟨ρ,Γ,S,o,ok,e,q⟩:=qq
 obtain⟨⟨d,S1⟩,e1,e⟩:=bind_some e
 cases e
 exact⟨ρ,Γ,S,d,S1,ok,e1,fun ρ1 v H1 x1 st1 r1=>q _ _ _ x1 ⟨(ok.en.ext x1).set r1,st1⟩⟩
abbrev wR:=cE->aA->Option ((List D×(aA->Prop))×aA)
def Walks(M:Md)(J:It)(ρ:List Addr)(H:Hp)(ds:List D)(W:aA->Prop):Prop:=∀(i:Nat) (ρ':List Addr) (S':aA) (H':Hp),bT ρ H ρ' H'->ft M ρ' S' H'->W S'→
 (∀d,ds[i]?=some d->J.go i H'/\∀x H'',J.yld i H' x H''->bT ρ' H' ρ' H''/\ft M ρ' S' H''/\Rel M ρ' H'' d x)/\(i=ds.length->J.stop i H')
def tI(M:Md)(f:wR):TI:=fun σ H R=>∃ρ Γ S ds W S',Ok M ρ Γ S σ H/\f Γ S=some ((ds,W),S')/\∀ρ' J H',bT ρ H ρ' H'->ft M ρ' S' H'->Walks M J ρ' H' ds W->R J H'
theorem HB{tg:Expr}{t t':TI}(h:PI X tg e t)(w:∀σ H R,t' σ H R->t σ H R):PI X tg e t':=fun pins s σ H R I q=>h pins s σ H R I (w _ _ _ q)
theorem Fl{tg l:Expr}{tl:TE}(hl:PE X l tl):PI X tg l (fun σ H R=>tl σ H fun x H1=>∃a,x=.ref a/\((∃xs,hG X.K H1 a xs)/\R (HU X.K a) H1\/(∃xs,gL X.K H1 a xs)/\R (Ic X.K a) H1)):=by
 intro pins s σ H R I h
 refine cG (hl pins s σ H _ I h) fun v s1 qr=> ?_
 obtain⟨x,H1,I1,r1,q1⟩:=qr
 obtain⟨a,e,q1⟩:=q1
 subst e
 cases r1
 rcases q1 with⟨⟨xs,hq⟩,q⟩|⟨⟨xs,hq⟩,q⟩
 ·obtain⟨its,rv,p,hz⟩:=I1.list hq
  refine wpAny_pyIter_list p.isList ?_
  refine⟨s1.heap.objs.size,[s1.heap.objs.size],_,_,H1,rfl,I1.kept (t':=s1.toks) fun b o e=>Heap.get?_push_of_some _ e,yZ a _,⟨_,Heap.get?_push_size _ rfl,rfl,rfl⟩,fun b hb=> ?_,q⟩
  have e:b=s1.heap.objs.size:=by simpa using hb
  subst e
  exact I1.fpOk (Nat.le_refl _) (I1.hok.fresh (Nat.le_refl _))
 ·obtain⟨its,rv,p,hz⟩:=I1.tuple hq
  refine wpAny_pyIter_tuple (show s1.heap.IsTuple a its.toArray from p) ?_
  refine⟨s1.heap.objs.size,[s1.heap.objs.size],_,_,H1,rfl,I1.kept (t':=s1.toks) fun b o e=>Heap.get?_push_of_some _ e,yb a _,⟨_,Heap.get?_push_size _ rfl,rfl,rfl⟩,fun b hb=> ?_,q⟩
  have e:b=s1.heap.objs.size:=by simpa using hb
  subst e
  exact I1.fpOk (Nat.le_refl _) (I1.hok.fresh (Nat.le_refl _))
def jm(f:eR):wR:=fun Γ S=>(f Γ S).bind fun(p,S1)=>some ((p.1,fun S'=>p.2.stays S' p.1),S1)
theorem dH{tg l:Expr}{f:eR}(hl:PE X l (tQ (md X) f)):PI X tg l (tI (md X) (jm f)):=HB (Fl hl) fun σ H R qq=>by
 obtain⟨ρ,Γ,S,ds,W,S',ok,e,q⟩:=qq
 obtain⟨⟨⟨ds',t⟩,S1⟩,e1,e⟩:=bind_some e
 obtain⟨e2,rfl⟩:=cu e
 obtain⟨rfl,rfl⟩:=Prod.mk.inj e2
 refine⟨ρ,Γ,S,ds',t,S1,ok,e1,fun ρ' a vs H' x st h r=>⟨a,rfl,?_⟩⟩
 cases c:t.isL with
 | true=>
   refine .inl ⟨⟨vs,h.sqL c⟩,q _ _ _ x st fun i ρ2 S2 H2 x2 st2 w=> ?_⟩
   obtain⟨vs',h',r'⟩:=h.to r x2 st2 w
   have sq:=h'.sqL c
   refine⟨fun d hd=> ?_,fun hi=>⟨vs',sq,by rw[hi,r'.length];exact Nat.le_refl _⟩⟩
   obtain⟨v,hv,rv⟩:=r'.get hd
   refine⟨⟨vs',v,sq,hv⟩,fun x H3 hy=> ?_⟩
   obtain⟨rfl,hy⟩:=hy
   have:=hy vs' sq
   rw[hv] at this
   cases this
   exact⟨bT.refl,st2,rv⟩
 | false=>
   refine .inr ⟨⟨vs,h.sqT c⟩,q _ _ _ x st fun i ρ2 S2 H2 x2 st2 w=> ?_⟩
   obtain⟨vs',h',r'⟩:=h.to r x2 st2 w
   have sq:=h'.sqT c
   refine⟨fun d hd=> ?_,fun hi=>⟨vs',sq,by rw[hi,r'.length];exact Nat.le_refl _⟩⟩
   obtain⟨v,hv,rv⟩:=r'.get hd
   refine⟨⟨vs',v,sq,hv⟩,fun x H3 hy=> ?_⟩
   obtain⟨rfl,hy⟩:=hy
   have:=hy vs' sq
   rw[hv] at this
   cases this
   exact⟨bT.refl,st2,rv⟩
def fc(lo hi:Int):List D:=(List.range (hi-lo).toNat).map fun(i:Nat)=>D.int (lo+(i:Int))
def rJ(f:bq):wR:=fun Γ S=>(f Γ S).bind fun(d,S1)=>match d with
 |.int j=>if -(2^62)<=j/\j<2^62 then some ((fc 0 j,fun _=>True),S1) else none
 |_=>none
theorem y8{M:Md}{ρ:List Addr}{H:Hp}{lo hi:Int}:Walks M (GQ lo (hi-lo).toNat) ρ H (fc lo hi) (fun _=>True):=fun i ρ2 S2 H2 x2 st2 w=>by
 unfold fc
 refine⟨fun d hd=> ?_,fun hi=>by rw[lQm,List.length_range] at hi;exact Nat.le_of_eq hi.symm⟩
 rw[gQm] at hd
 obtain⟨k,hk,rfl⟩:=oQm.mp hd
 have hl:=(gQs.mp hk)
 obtain⟨hl,he⟩:=hl
 rw[List.getElem_range] at he
 subst he
 rw[List.length_range] at hl
 refine⟨hl,fun x H3 hy=> ?_⟩
 obtain⟨rfl,rfl⟩:=hy
 exact⟨bT.refl,st2,.int _⟩
theorem kX{tg a:Expr}{f:bq}{p:Pos}(hg:Gl X "range")(hm:X.mg "range"=none)(ha:PE X a (tD (md X) f))(hs:starEach [a] X.env= [(false,eval a X.env)]:=by rfl):PI X tg (.Call (.Name "range" p) [a] [] pos) (tI (md X) (rJ f)):=
 HB (zx hg hm (aa ha ah hs) hs) fun σ H R qq=>by
  obtain⟨ρ,Γ,S,ds,W,S',ok,e,q⟩:=qq
  obtain⟨⟨d,S1⟩,e1,e⟩:=bind_some e
  dsimp only at e
  split at e
  ·rename_i j
   split at e
   ·rename_i hj
    obtain⟨e2,rfl⟩:=cu e
    obtain⟨rfl,rfl⟩:=Prod.mk.inj e2
    refine⟨ρ,Γ,S,[.int j],S1,ok,by unfold ae ai;rw[e1];rfl,fun ρ' vs H' x st r=> ?_⟩
    cases r with
    | cons r rr=>
      cases rr
      cases r
      refine⟨j,rfl,hj.1,hj.2,q _ _ _ x st ?_⟩
      have:=y8 (M:=md X) (ρ:=ρ') (H:=H') (lo:=0) (hi:=j)
      rw[Int.sub_zero] at this
      exact this
   ·cases e
  ·cases e
open Classical in
noncomputable def forL(g:lu)(b:cH)(W:aA->Prop):List D->cE->aA->Option Out
 | [],Γ,S=>if W S then some (.nx Γ S) else none
 |d ::ds,Γ,S=>if W S then(g d Γ S).bind fun(Γ1,S1)=>(b Γ1 S1).bind fun o=>match o with
    |.nx Γ2 S2=>forL g b W ds Γ2 S2
    |.ct Γ2 S2=>forL g b W ds Γ2 S2
    |.bk Γ2 S2=>some (.nx Γ2 S2)
    |.rt x S2=>some (.rt x S2)
    |.rl x S2=>some (.rl x S2)
  else none
noncomputable def gM(i:wR)(g:lu)(b:cH):cH:=fun Γ S=>(i Γ S).bind fun(p,S1)=>forL g b p.2 p.1 Γ S1
theorem fw{tg iter:Expr}{i:wR}{g:lu}{f:cH}(hp:PassesOwn (model X.prog X.w) X.A X.env X.xe)(hc:X.calm=true)(hi:PI X tg iter (tI (md X) i))(hg:PG X tg (tG (md X) g))(hb:pe X body (tS (md X) f))
  (hs:∀x,foldedSetIterable iter X.env x=pure x:=by intro _;rfl):PS X (.For tg iter body [] pos) (tS (md X) (gM i g f)):=yj (Ew hp hc hi hg hb hs) fun D σ H ⟨ρ,Γ,S,o,ok,e,q⟩=>by
 obtain⟨⟨⟨ds,W⟩,S1⟩,e1,e⟩:=bind_some e
 refine⟨ρ,Γ,S,ds,W,S1,ok,e1,fun ρ1 J H1 x1 st1 wk=> ?_⟩
 have q1:=q.to x1
 have ok1:=ok.to x1 st1
 refine⟨fun i m σ' H'=>m=ds.length-i/\i<=ds.length/\∃ρ2 Γ2 S2,bT ρ1 H1 ρ2 H'/\Ok (md X) ρ2 Γ2 S2 σ' H'/\forL g f W (ds.drop i) Γ2 S2=some o,⟨ds.length,by simp,Nat.zero_le _,ρ1,Γ,S1,bT.refl,ok1,e⟩,?_⟩
 rintro i m σ2 H2 ⟨rfl,hi,ρ2,Γ2,S2,x2,ok2,e2⟩
 by_cases hlt:i<ds.length
 ·have hd:ds[i]?=some ds[i]:=gQe hlt
  rw[List.drop_eq_getElem_cons hlt] at e2
  unfold forL at e2
  split at e2
  ·rename_i w
   obtain⟨w1,w2⟩:=wk i ρ2 S2 H2 x2 ok2.st w
   obtain⟨go,yld⟩:=w1 _ hd
   refine .inr ⟨go,fun σ' H'=>∃ρ' Γ' S',bT ρ1 H1 ρ' H'/\Ok (md X) ρ' Γ' S' σ' H'/\forL g f W (ds.drop (i+1)) Γ' S'=some o,fun σ' H' ⟨ρ',Γ',S',h1,h2,h3⟩=>⟨ds.length-(i+1),by omega,rfl,hlt,ρ',Γ',S',h1,h2,h3⟩,fun x H3 hy=> ?_⟩
   obtain⟨x3,st3,r3⟩:=yld x H3 hy
   obtain⟨⟨Γ4,S4⟩,e4,e5⟩:=bind_some e2
   refine⟨ρ2,Γ2,S2,_,Γ4,S4,ok2.to x3 st3,r3,e4,fun ρ4 σ4 H4 x4 ok4=> ?_⟩
   obtain⟨o5,e6,e7⟩:=bind_some e5
   have x5:=(x2.trans x3).trans x4
   refine⟨ρ4,Γ4,S4,o5,ok4,e6,?_⟩
   cases o5 with
   |nx Γ6 S6=>exact fun ρ6 σ6 H6 x6 ok6=>⟨ρ6,Γ6,S6,x5.trans x6,ok6,e7⟩
   |ct Γ6 S6=>exact fun ρ6 σ6 H6 x6 ok6=>⟨ρ6,Γ6,S6,x5.trans x6,ok6,e7⟩
   |bk Γ6 S6=>cases e7;exact fun ρ6 σ6 H6 x6 ok6=>q1 _ _ _ (x5.trans x6) ok6
   |rt d6 S6=>cases e7;exact q1.to x5
   |rl d6 S6=>cases e7;exact q1.to x5
  ·cases e2
 ·have e3:i=ds.length:=by omega
  subst e3
  rw[List.drop_length] at e2
  unfold forL at e2
  split at e2
  ·rename_i w
   cases e2
   obtain⟨w1,w2⟩:=wk ds.length ρ2 S2 H2 x2 ok2.st w
   exact .inl ⟨w2 rfl,q1 _ _ _ x2 ok2⟩
  ·cases e2
end
section
variable{M:Md}{ρ:List Addr}{H:Hp}{b:Addr}{us ws:List V}
mutual
theorem Rel.off(hb:H b=some (.lst us)):∀{d:D} {v:V},Rel M ρ H d v->Rel M ρ (upd H b (.lst ws)) d v
 |_,_,.non=>.non
 |_,_,.bl x=>.bl x
 |_,_,.int i=>.int i
 |_,_,.str x=>.str x
 |_,_,.tup h hs=>.tup (by rw[bf (AM h hb (by intro z;cases z))];exact h) (aY.off hb hs)
 |_,_,.ref h=>.ref h
 |_,_,.fn h=>.fn h
theorem aY.off(hb:H b=some (.lst us)):∀{ds:List D} {vs:List V},aY M ρ H ds vs->aY M ρ (upd H b (.lst ws)) ds vs
 |_,_,.nil=>.nil
 |_,_,.cons h hs=>.cons (Rel.off hb h) (aY.off hb hs)
end
theorem ft.off{S:aA}(st:ft M ρ S H)(hb:H b=some (.lst us))(n:b∉ρ):ft M ρ S (upd H b (.lst ws)):=⟨st.len,st.nd,fun k a o h1 h2=>by
 have q:=st.obj k a o h1 h2
 have ab:a≠b:=fun z=>n (z▸mQg h1)
 cases o with
 |lst ds=>obtain⟨vs,q1,q2⟩:=q;exact⟨vs,by rw[bf ab];exact q1,q2.off hb⟩
 |frz ds=>obtain⟨vs,o,q1,q2⟩:=q;exact⟨vs,o,by rw[bf ab];exact q1,q2.off hb⟩
 |dct kvs=>obtain⟨kv,q1,q2⟩:=q;exact⟨kv,by rw[bf ab];exact q1,q2.imp fun _ _ r=>r.off hb⟩⟩
theorem En.off{Γ:cE}{σ:L2.St}(h:En M ρ H Γ σ)(hb:H b=some (.lst us)):En M ρ (upd H b (.lst ws)) Γ σ:=⟨h.len,fun i d q=>by obtain⟨v,h1,h2⟩:=h.get i d q;exact⟨v,h1,h2.off hb⟩⟩
theorem bT.off{ρ0:List Addr}{H0:Hp}(e:bT ρ0 H0 ρ H)(hb:H0 b=none)(u:HO):bT ρ0 H0 ρ (upd H b u):=⟨e.pre,e.new,fun a o h c=>by rw[bf (eK h hb)];exact e.keep a o h c,fun a h=>by
 by_cases z:a=b
 ·subst z;exact hb
 ·rw[bf z] at h;exact e.grow a h⟩
end
def lj(js:List (Option Nat))(Γ:cE):cE:=js.map fun o=>o.bind fun j=>Γ.getD j none
theorem En.sig{M:Md}{ρ:List Addr}{H:Hp}{Γ:cE}{σ:L2.St}(js:List (Option Nat))(h:En M ρ H Γ σ):En M ρ H (lj js Γ) (iL js σ) where
 len:=by unfold lj iL;rw[lQm,lQm]
 get:=fun i d q=>by
  unfold lj at q
  unfold iL
  rw[gQm] at q⊢
  cases e:js[i]? with
  |none=>rw[e] at q;cases q
  | some o=>
    rw[e] at q
    cases o with
    |none=>cases q
    | some j=>
      have q':Γ.getD j none=some d:=Option.some.inj q
      have hj:Γ[j]?=some (some d):=by
        rw[List.getD_eq_getElem?_getD] at q'
        cases z:Γ[j]? with
        |none=>rw[z] at q';cases q'
        |some y=>rw[z] at q';exact congrArg some q'
      obtain⟨v,h1,h2⟩:=h.get j d hj
      refine⟨v,?_,h2⟩
      show some (σ.getD j none)=some (some v)
      rw[List.getD_eq_getElem?_getD,h1]
      rfl
open Classical in
noncomputable def kn(g:lu)(t:i6)(f:bq)(W:aA->Prop):List D->cE->aA->List D->Option (List D×aA)
 | [],Γ,S,acc=>if W S then some (acc,S) else none
 |d ::ds,Γ,S,acc=>if W S then(g d Γ S).bind fun(Γ1,S1)=>(t Γ1 S1).bind fun(k,S2)=>
    if k=true then(f Γ1 S2).bind fun(y,S3)=>if acc.length<sizeLine then kn g t f W ds Γ1 S3 (acc++ [y]) else none
    else kn g t f W ds Γ1 S2 acc
  else none
noncomputable def cC(js:List (Option Nat))(i:wR)(g:lu)(t:i6)(f:bq):fG:=fun Γ S=>(i Γ S).bind fun(p,S1)=>kn g t f p.2 p.1 (lj js Γ) S1 []
section
variable{M:Md}
theorem Ai{js:List (Option Nat)}{i:wR}{g:lu}{t:i6}{f:bq}:∀σ H Q,tL M (cC js i g t f) σ H Q->Ae js (tI M i) (tG M g) (tB M t) (tD M f) σ H Q:=fun σ H Q qq=>by
 obtain⟨ρ,Γ,S,rs,S',ok,e,q⟩:=qq
 obtain⟨⟨⟨ds,W⟩,S1⟩,e1,e⟩:=bind_some e
 refine⟨ρ,Γ,S,ds,W,S1,ok,e1,fun ρ1 J H1 x1 st1 wk D hD=> ?_⟩
 have n1:D∉ρ1:=cM x1 st1 hD
 have ok1:Ok M ρ1 (lj js Γ) S1 (iL js σ) (upd H1 D (.lst [])):=⟨((ok.en.ext x1).ext (bT.laid hD)).sig js,st1.lay hD⟩
 refine⟨fun i m σ' H'=>m=ds.length-i/\i<=ds.length/\∃ρ2 Γ2 S2 acc vs,bT ρ1 H1 ρ2 H'/\Ok M ρ2 Γ2 S2 σ' H'/\D∉ρ2/\H' D=some (.lst vs)/\aY M ρ2 H' acc vs/\kn g t f W (ds.drop i) Γ2 S2 acc=some (rs,S'),
  ⟨ds.length,by simp,Nat.zero_le _,ρ1,_,S1,[],[],bT.laid hD,ok1,n1,bA,.nil,e⟩,?_⟩
 rintro i m σ2 H2 ⟨rfl,hi,ρ2,Γ2,S2,acc,vs,x2,ok2,n2,hD2,racc,e2⟩
 by_cases hlt:i<ds.length
 ·have hd:ds[i]?=some ds[i]:=gQe hlt
  rw[List.drop_eq_getElem_cons hlt] at e2
  unfold kn at e2
  split at e2
  ·rename_i w
   obtain⟨w1,w2⟩:=wk i ρ2 S2 H2 x2 ok2.st w
   obtain⟨go,yld⟩:=w1 _ hd
   refine .inr ⟨go,fun σ' H'=>∃ρ' Γ' S'' acc vs,bT ρ1 H1 ρ' H'/\Ok M ρ' Γ' S'' σ' H'/\D∉ρ'/\H' D=some (.lst vs)/\aY M ρ' H' acc vs/\kn g t f W (ds.drop (i+1)) Γ' S'' acc=some (rs,S'),
    fun σ' H' ⟨ρ',Γ',S'',acc,vs,h1,h2,h3,h4,h5,h6⟩=>⟨ds.length-(i+1),by omega,rfl,hlt,ρ',Γ',S'',acc,vs,h1,h2,h3,h4,h5,h6⟩,fun x H3 hy=> ?_⟩
   obtain⟨x3,st3,r3⟩:=yld x H3 hy
   obtain⟨⟨Γ4,S4⟩,e4,e5⟩:=bind_some e2
   refine⟨ρ2,Γ2,S2,_,Γ4,S4,ok2.to x3 st3,r3,e4,fun ρ4 σ4 H4 x4 ok4=> ?_⟩
   obtain⟨⟨k,S5⟩,e6,e7⟩:=bind_some e5
   refine⟨ρ4,Γ4,S4,k,S5,ok4,e6,fun ρ5 H5 x5 st5=> ?_⟩
   have x25:=(x3.trans x4).trans x5
   have keep:∀{ρ' H'},bT ρ2 H2 ρ' H'->H' D=some (.lst vs)/\D∉ρ':=fun{ρ' H'} x=>⟨x.keep _ _ hD2 (.inl n2),fun m=>(x.new _ m).elim n2 fun z=>by rw[z] at hD2;cases hD2⟩
   dsimp only at e7⊢
   split at e7
   ·rename_i ck
    rw[if_pos ck]
    obtain⟨⟨y,S6⟩,e8,e9⟩:=bind_some e7
    refine⟨ρ5,Γ4,S5,y,S6,ok4.to x5 st5,e8,fun ρ6 v H6 x6 st6 r6=> ?_⟩
    have x26:=x25.trans x6
    obtain⟨hD6,n6⟩:=keep x26
    have racc6:=racc.ext x26
    dsimp only at e9
    split at e9
    ·rename_i cl
     refine⟨vs,hD6,by rw[←racc.length];exact cl,ρ6,Γ4,S6,acc++ [y],vs++ [v],(x2.trans x26).off hD _,⟨((ok4.en.ext x5).ext x6).off hD6,st6.off hD6 n6⟩,n6,bA,(racc6.append (.cons r6 .nil)).off hD6,e9⟩
    ·cases e9
   ·rename_i ck
    rw[if_neg ck]
    obtain⟨hD5,n5⟩:=keep x25
    exact⟨ρ5,Γ4,S5,acc,vs,x2.trans x25,ok4.to x5 st5,n5,hD5,racc.ext x25,e7⟩
  ·cases e2
 ·have e3:i=ds.length:=by omega
  subst e3
  rw[List.drop_length] at e2
  unfold kn at e2
  split at e2
  ·rename_i w
   obtain⟨rfl,rfl⟩:=cu e2
   obtain⟨w1,w2⟩:=wk ds.length ρ2 S2 H2 x2 ok2.st w
   exact .inl ⟨w2 rfl,q ρ2 D vs H2 (x1.trans x2) ok2.st (x1.grow _ hD) n2 hD2 racc⟩
  ·cases e2
end
section
variable{X:Cx}{a b c e:Expr}{pos:Pos}{st:Stmt}{rest body other:List Stmt}
def cX:i6:=fun _ S=>some (true,S)
theorem F2{ifs:List Expr}{t t':TT}(h:oP X ifs t)(w:∀σ H Q,t' σ H Q->t σ H Q):oP X ifs t':=fun pins s σ H Q I q=>h pins s σ H Q I (w _ _ _ q)
theorem fj:oP X [] (tB (md X) cX):=F2 E6 fun σ H Q ⟨ρ,Γ,S,k,S',ok,e,q⟩=>by cases e;exact q _ _ bT.refl ok.st
theorem A6{f:i6}(hc:PT X c (tB (md X) f)):oP X [c] (tB (md X) f):=EY hc
theorem dt{N:List Str}{js:List (Option Nat)}{scope:Scope}{cl:List (Str×Addr)}{tg iter elt:Expr}{ifs:List Expr}{i:wR}{g:lu}{t:i6}{f:bq}
  (S:aQ X N js scope cl) (hc:X.calm=true) (hi:PI X tg iter (tI (md X) i))
  (hg:∀C s H fp,PG (aV X N scope cl C s H fp) tg (tG (md X) g)) (ht:∀C s H fp,oP (aV X N scope cl C s H fp) ifs (tB (md X) t)) (he:∀C s H fp,PE (aV X N scope cl C s H fp) elt (tD (md X) f))
  (hs:∀x,foldedSetIterable iter X.env x=pure x:=by intro _;rfl):PE X (.ListComp elt [⟨tg,iter,ifs,0⟩] scope pos) (tL (md X) (cC js i g t f)):=je (Cb S hc hi hg ht he hs) Ai
theorem EN{N:List Str}{js:List (Option Nat)}{scope:Scope}{cl:List (Str×Addr)}{tg iter elt tgt:Expr}{ifs:List Expr}{i:wR}{g:lu}{t:i6}{f:bq}{n:Nat}{spos:Pos}
  (S:aQ X N js scope cl) (hc:X.calm=true) (hi:PI X tg iter (tI (md X) i))
  (hg:∀C s H fp,PG (aV X N scope cl C s H fp) tg (tG (md X) g)) (ht:∀C s H fp,oP (aV X N scope cl C s H fp) ifs (tB (md X) t)) (he:∀C s H fp,PE (aV X N scope cl C s H fp) elt (tD (md X) f)) (hgt:PG X tgt (qd n))
  (hs:∀x,foldedSetIterable iter X.env x=pure x:=by intro _;rfl) (hsw:swapsWithSole [tgt] (.ListComp elt [⟨tg,iter,ifs,0⟩] scope pos) spos.line X.env=pure true:=by rfl)
  (h1:(assignEach [tgt] X.env).map (·.2)= [assign tgt X.env]:=by rfl):PS X (.Assign [tgt] (.ListComp elt [⟨tg,iter,ifs,0⟩] scope pos) spos) (tS (md X) (aU n (cv (cC js i g t f)))):=
 yj (C9 S hc hi hg ht he hgt hs hsw h1) fun D σ H qq=>by
  obtain⟨ρ,Γ,S,o,ok,e,q⟩:=qq
  obtain⟨⟨d,S1⟩,e1,e⟩:=bind_some e
  cases e
  obtain⟨⟨ds,S2⟩,e2,e3⟩:=bind_some e1
  obtain⟨rfl,rfl⟩:=cu e3
  refine Ai σ H _ ⟨ρ,Γ,S,ds,S2,ok,e2,fun ρ' a vs H' x st fr nr ha rs=> ?_⟩
  have rs':=rs.pre (List.prefix_append ρ' [a])
  have st':=st.box (o:=.lst ds) nr ⟨vs,ha,rs'⟩
  have x':bT ρ H (ρ'++ [a]) H':=⟨x.pre.trans (List.prefix_append _ _),fun b hb=>by
   rcases mQa.mp hb with hb|hb
   ·exact x.new b hb
   ·rw[List.mem_singleton] at hb;subst hb;exact .inr fr,x.keep,x.grow⟩
  refine q (ρ'++ [a]) _ H' x' ⟨((ok.en.ext x').set (.ref ?_)),st'⟩
  rw[←st.len,List.getElem?_append_right (Nat.le_refl _)]
  simp
def B9(c:i6)(b:cH):Nat->cE->aA->Option Out
 |0,_,_=>none
 |n +1,Γ,S=>(c Γ S).bind fun(k,S1)=>if k=true then(b Γ S1).bind fun o=>match o with
    |.nx Γ2 S2=>B9 c b n Γ2 S2
    |.ct Γ2 S2=>B9 c b n Γ2 S2
    |.bk Γ2 S2=>some (.nx Γ2 S2)
    |.rt x S2=>some (.rt x S2)
    |.rl x S2=>some (.rl x S2)
  else some (.nx Γ S1)
theorem CQ{h:i6}{f:cH}(n:Nat)(hp:PassesOwn (model X.prog X.w) X.A X.env X.xe)(hc:PT X c (tB (md X) h))(hb:pe X body (tS (md X) f)):PS X (.While c body [] pos) (tS (md X) (B9 h f n)):=yj (Bp hp hc hb) fun D σ H qq=>by
 obtain⟨ρ,Γ,S,o,ok,e,q⟩:=qq
 refine⟨fun m σ' H'=>∃ρ' Γ' S',bT ρ H ρ' H'/\Ok (md X) ρ' Γ' S' σ' H'/\B9 h f m Γ' S'=some o,⟨n,ρ,Γ,S,bT.refl,ok,e⟩,?_⟩
 rintro m σ1 H1 ⟨ρ1,Γ1,S1,x1,ok1,e1⟩
 cases m with
 |zero=>cases e1
 | succ m=>
   unfold B9 at e1
   obtain⟨⟨k,S2⟩,e2,e1⟩:=bind_some e1
   refine⟨ρ1,Γ1,S1,k,S2,ok1,e2,fun ρ2 H2 x2 st2=> ?_⟩
   dsimp only at e1⊢
   have ok2:=ok1.to x2 st2
   have x12:=x1.trans x2
   split at e1
   · rename_i ck
     rw[if_pos ck]
     obtain⟨o3,e3,e1⟩:=bind_some e1
     refine⟨fun σ' H'=>∃ρ' Γ' S',bT ρ H ρ' H'/\Ok (md X) ρ' Γ' S' σ' H'/\B9 h f m Γ' S'=some o,fun σ' H' ⟨ρ',Γ',S',h1,h2,h3⟩=>⟨m,Nat.lt_succ_self _,ρ',Γ',S',h1,h2,h3⟩,ρ2,Γ1,S2,o3,ok2,e3,?_⟩
     cases o3 with
     |nx Γ6 S6=>exact fun ρ6 σ6 H6 x6 ok6=>⟨ρ6,Γ6,S6,x12.trans x6,ok6,e1⟩
     |ct Γ6 S6=>exact fun ρ6 σ6 H6 x6 ok6=>⟨ρ6,Γ6,S6,x12.trans x6,ok6,e1⟩
     |bk Γ6 S6=>cases e1;exact fun ρ6 σ6 H6 x6 ok6=>q _ _ _ (x12.trans x6) ok6
     |rt d6 S6=>cases e1;exact q.to x12
     |rl d6 S6=>cases e1;exact q.to x12
   · rename_i ck
     rw[if_neg ck]
     cases e1
     exact q _ _ _ x12 ok2
end
inductive Res where
 |d (x:D)|l (ds:List D)
abbrev c9:=List D->aA->Option (Res×aA)
def E1(M:Md)(ρ:List Addr)(H H':Hp)(v:V):Res->Prop
 |.d x=>Rel M ρ H' x v
 |.l ds=>∃a vs,v=.ref a/\H a=none/\a∉ρ/\H' a=some (.lst vs)/\aY M ρ H' ds vs
def dR(M:Md)(n:Nat)(F:c9):Sp:=fun vs H Q _=>∃ρ S ds r S',ds.length=n/\aY M ρ H ds vs/\ft M ρ S H/\F ds S=some (r,S')/\∀ρ' v H',bT ρ H ρ' H'->ft M ρ' S' H'->E1 M ρ' H H' v r->Q v H'
mutual
def bJ(m:Nat):D->Bool
 |.ref k=>decide (k<m)
 |.tup ds=>bG m ds
 |_=>true
def bG(m:Nat):List D->Bool
 | []=>true
 |d::ds=>bJ m d&&bG m ds
end
def Cd(m:Nat):O->Bool
 |.lst ds=>bG m ds
 |.frz ds=>bG m ds
 |.dct kvs=>bG m (kvs.map (·.2))
section
variable{M:Md}{ρ ρ':List Addr}{H:Hp}
mutual
theorem Rel.cut(e:ρ <+: ρ'):∀{d:D} {v:V},Rel M ρ' H d v->bJ ρ.length d=true->Rel M ρ H d v
 |_,_,.non,_=>.non
 |_,_,.bl x,_=>.bl x
 |_,_,.int i,_=>.int i
 |_,_,.str x,_=>.str x
 |_,_,.tup h hs,b=>.tup h (aY.cut e hs (by simpa [bJ] using b))
 | _,_,.ref (k:=k) (a:=a) h,b=>.ref (by
   obtain⟨t,rfl⟩:=e
   have c:k<ρ.length:=by simpa [bJ] using b
   rwa [List.getElem?_append_left c] at h)
 |_,_,.fn h,_=>.fn h
theorem aY.cut(e:ρ <+: ρ'):∀{ds:List D} {vs:List V},aY M ρ' H ds vs->bG ρ.length ds=true->aY M ρ H ds vs
 |_,_,.nil,_=>.nil
 | _,_,.cons h hs,b=>by
   have b':=b
   simp only[bG,List.map_cons,Bool.and_eq_true] at b'
   exact .cons (Rel.cut e h b'.1) (aY.cut e hs b'.2)
end
theorem cf.cut(e:ρ <+: ρ'):∀{l:List (Key×D)} {kv:List (Key×V)},cf M ρ' H l kv->bG ρ.length (l.map (·.2))=true->cf M ρ H l kv
 | [],_,h,_=>h
 | (_,_)::_,_,⟨v,t,q,h,hs⟩,b=>by
   have b':=b
   simp only[bG,List.map_cons,Bool.and_eq_true] at b'
   exact⟨v,t,q,h.cut e b'.1,cf.cut e hs b'.2⟩
theorem lO.cut{a:Addr}{o:O}(e:ρ <+: ρ')(h:lO M ρ' H a o)(b:Cd ρ.length o=true):lO M ρ H a o:=by
 cases o with
 |lst ds=>obtain⟨vs,h1,h2⟩:=h;exact⟨vs,h1,h2.cut e b⟩
 |frz ds=>obtain⟨vs,o,h1,h2⟩:=h;exact⟨vs,o,h1,h2.cut e b⟩
 |dct kvs=>obtain⟨kv,h1,h2⟩:=h;exact⟨kv,h1,h2.cut e b⟩
mutual
theorem Rel.low:∀{d:D} {v:V},Rel M ρ H d v->bJ ρ.length d=true
 |_,_,.non=>rfl
 |_,_,.bl x=>rfl
 |_,_,.int i=>rfl
 |_,_,.str x=>rfl
 |_,_,.tup h hs=>by simp only[bJ];exact aY.low hs
 |_,_,.ref h=>by simp only[bJ];exact decide_eq_true (gQs.mp h).1
 |_,_,.fn h=>rfl
theorem aY.low:∀{ds:List D} {vs:List V},aY M ρ H ds vs->bG ρ.length ds=true
 |_,_,.nil=>rfl
 |_,_,.cons h hs=>by simp only[bG];rw[Rel.low h,aY.low hs];rfl
end
theorem cf.low:∀{l:List (Key×D)} {kv:List (Key×V)},cf M ρ H l kv->bG ρ.length (l.map (·.2))=true
 | [],_,_=>rfl
 |(_,_)::_,_,⟨v,t,q,h,hs⟩=>by simp only[List.map_cons,bG];rw[h.low,cf.low hs];rfl
theorem lO.low{a:Addr}{o:O}(h:lO M ρ H a o):Cd ρ.length o=true:=by
 cases o with
 |lst ds=>obtain⟨vs,h1,h2⟩:=h;exact h2.low
 |frz ds=>obtain⟨vs,o,h1,h2⟩:=h;exact h2.low
 |dct kvs=>obtain⟨kv,h1,h2⟩:=h;exact h2.low
end
def lL(S S':aA):Prop:=S.length<=S'.length/\∀k o,k<S.length->S'[k]?=some o->S[k]?=some o\/Cd S.length o=true
open Classical in
noncomputable def settle(S:aA)(d:D)(S':aA):Option (Res×aA):=if lL S S' then match d with
  | .ref k=>if k<S.length then some (.d (.ref k),S'.take S.length) else match S'[k]? with
    |some (.lst ds)=>if bG S.length ds=true then some (.l ds,S'.take S.length) else none
    |_=>none
  |d=>if bJ S.length d=true then some (.d d,S'.take S.length) else none
 else none
open Classical in
noncomputable def dD(S:aA)(ds:List D)(S':aA):Option (Res×aA):=if lL S S'/\bG S.length ds=true then some (.l ds,S'.take S.length) else none
noncomputable def ef(n:Nat)(b:cH):c9:=fun ds S=>(b (ds.map some++List.replicate (n-ds.length) none) S).bind fun o=>match o with
 |.nx _ S'=>settle S .non S'
 |.rt d S'=>settle S d S'
 |.rl l S'=>dD S l S'
 |_=>none
theorem ft.clean{M:Md}{ρ ρ':List Addr}{S S':aA}{H H':Hp}(st:ft M ρ S H)(x:bT ρ H ρ' H')(st':ft M ρ' S' H')(c:lL S S'):ft M ρ (S'.take S.length) H'/\bT ρ H ρ H':=by
 refine⟨⟨?_,st.nd,fun k a o h1 h2=> ?_⟩,List.prefix_refl _,fun _ h=>.inl h,x.keep,x.grow⟩
 ·rw[List.length_take,st.len]
  have:=c.1
  omega
 ·have hk:k<ρ.length:=(gQs.mp h1).1
  have hk':k<S.length:=st.len▸hk
  rw[List.getElem?_take_of_lt hk'] at h2
  refine(st'.obj k a o (cQ x.pre h1) h2).cut x.pre ?_
  rcases c.2 k o hk' h2 with z|z
  ·exact(st.obj k a o h1 z).low
  ·rw[st.len];exact z
theorem tH{M:Md}{ρ ρ':List Addr}{S S' S'':aA}{H H':Hp}{d:D}{v:V}{r:Res}(st:ft M ρ S H)(x:bT ρ H ρ' H')(st':ft M ρ' S' H')(rd:Rel M ρ' H' d v)(e:settle S d S'=some (r,S'')):
  bT ρ H ρ H'/\ft M ρ S'' H'/\E1 M ρ H H' v r:=by
 unfold settle at e
 split at e
 ·rename_i c
  obtain⟨s1,x1⟩:=st.clean x st' c
  cases d with
  | ref k=>
    dsimp only at e
    split at e
    · rename_i hk
      obtain⟨rfl,rfl⟩:=cu e
      exact⟨x1,s1,rd.cut x.pre (by simp only[bJ];rw[st.len];exact decide_eq_true hk)⟩
    · rename_i hk
      split at e
      · rename_i ds hs
        split at e
        · rename_i hb
          obtain⟨rfl,rfl⟩:=cu e
          cases rd with
          | ref ha=>
            rename_i a
            obtain⟨vs,h1,h2⟩:=st'.obj k a _ ha hs
            have na:a∉ρ:=fun m=>by
              obtain⟨j,hj⟩:=List.getElem?_of_mem m
              have:=jw st'.nd (cQ x.pre hj) ha
              subst this
              exact hk (st.len▸(gQs.mp hj).1)
            refine⟨x1,s1,a,vs,rfl,(x.new a (mQg ha)).resolve_left na,na,h1,h2.cut x.pre (by rw[st.len];exact hb)⟩
        · cases e
      · cases e
  | _=>
    dsimp only at e
    split at e
    · rename_i hb
      obtain⟨rfl,rfl⟩:=cu e
      exact⟨x1,s1,rd.cut x.pre (by rw[st.len];exact hb)⟩
    · cases e
 ·cases e
theorem xY{M:Md}{ρ ρ':List Addr}{S S' S'':aA}{H H':Hp}{ds:List D}{a:Addr}{vs:List V}{r:Res}(st:ft M ρ S H)(x:bT ρ H ρ' H')(st':ft M ρ' S' H')(fr:H a=none)(na:a∉ρ')(ha:H' a=some (.lst vs))(rd:aY M ρ' H' ds vs)(e:dD S ds S'=some (r,S'')):
  bT ρ H ρ H'/\ft M ρ S'' H'/\E1 M ρ H H' (.ref a) r:=by
 unfold dD at e
 split at e
 ·rename_i c
  obtain⟨s1,x1⟩:=st.clean x st' c.1
  obtain⟨rfl,rfl⟩:=cu e
  exact⟨x1,s1,a,vs,rfl,fr,fun m=>na (x.pre.subset m),ha,rd.cut x.pre (by rw[st.len];exact c.2)⟩
 ·cases e
theorem Aa{M:Md}{ρ:List Addr}{H:Hp}{ds:List D}{vs:List V}{N:List Str}(r:aY M ρ H ds vs):En M ρ H (ds.map some++List.replicate (N.length-ds.length) none) (L2.start N vs) where
 len:=by unfold L2.start;simp[r.length]
 get:=fun i d q=>by
  unfold L2.start
  by_cases c:i<ds.length
  ·rw[List.getElem?_append_left (by rw[lQm];exact c),gQm] at q
   obtain⟨d',h1,h2⟩:=oQm.mp q
   cases h2
   obtain⟨v,h3,h4⟩:=r.get h1
   exact⟨v,by rw[List.getElem?_append_left (by rw[lQm,←r.length];exact c),gQm,h3];rfl,h4⟩
  ·rw[List.getElem?_append_right (by rw[lQm];omega)] at q
   have:=mQg q
   rw[List.mem_replicate] at this
   cases this.2
section
variable{P:Program}{w:World}{K:PySem.W.Frag}{mg:Str->Option Value}{base:Heap}
theorem a_{x qual:Str}{st:Stmt}{f:Addr}{fd:FuncData}{N ps:List Str}{k:Nat}{b:cH}(F:dW K x qual st f fd)(S:aB N ps (ar st))
  (hbody:∀(cdv:Value) (A:Around) (outer:List Env) (s:Shared) (H:Hp) (E:XK),eW k (A.deeper (envOfC qual (ar st) s.heap.objs.size f cdv))→
   pe (xC dv P w K mg base N qual (ar st) f cdv A outer s H E).nox (fh st) (tS ⟨K,mg⟩ b)):bo P w K mg base dv (k+1) f fd ps (dR ⟨K,mg⟩ ps.length (ef N.length b)):=by
 refine F.ok S (fun vs H Q E ⟨ρ,S,ds,r,S',h1,h2,_⟩=>by rw[←h2.length];exact h1) fun cdv A outer s H vs Q E hr ⟨ρ,S,ds,r,S',h1,h2,h3,h4,q⟩=>⟨_,hbody cdv A outer s H E hr,?_⟩
 obtain⟨o,e1,e⟩:=bind_some h4
 refine⟨ρ,_,S,o,⟨Aa h2,h3⟩,e1,?_⟩
 cases o with
 |nx Γ1 S1=>exact fun ρ' σ' H' x' ok'=>by obtain⟨x2,s2,r2⟩:=tH h3 x' ok'.st .non e;exact q _ _ _ x2 s2 r2
 |rt d S1=>exact fun ρ' v H' x' st' r'=>by obtain⟨x2,s2,r2⟩:=tH h3 x' st' r' e;exact q _ _ _ x2 s2 r2
 |rl d S1=>exact fun ρ' a vs H' x' st' fr na ha r'=>by obtain⟨x2,s2,r2⟩:=xY h3 x' st' fr na ha r' e;exact q _ _ _ x2 s2 r2
 |bk=>cases e
 |ct=>cases e
end
section
variable{X:Cx}{x:Str}{k n:Nat}{f:Addr}{fd:FuncData}{ps:List Str}{F:c9}{e:Expr}{es:List Expr}{g:fG}{p pos:Pos}
def ao(F:c9)(g:fG):bq:=fun Γ S=>(g Γ S).bind fun(ds,S1)=>(F ds S1).bind fun(r,S2)=>match r with
 |.d x=>some (x,S2)
 |.l _=>none
def dk(F:c9)(g:fG):fG:=fun Γ S=>(g Γ S).bind fun(ds,S1)=>(F ds S1).bind fun(r,S2)=>match r with
 |.d _=>none
 |.l ds=>some (ds,S2)
def nA(n:Nat)(g:fG):Prop:=∀Γ S ds S',g Γ S=some (ds,S')->ds.length=n
theorem gJ:nA 0 ai:=fun _ _ _ _ e=>by cases e;rfl
theorem bL{n:Nat}{f:bq}{g:fG}(h:nA n g):nA (n+1) (ae f g):=fun Γ S ds S' e=>by
 obtain⟨⟨d,S1⟩,e1,e⟩:=bind_some e
 obtain⟨⟨ds',S2⟩,e2,e⟩:=bind_some e
 cases e
 rw[List.length_cons,h _ _ _ _ e2]
theorem yd{M:Md}(hn:nA n g):∀σ H Q,tD M (ao F g) σ H Q->Br (dR M n F) [] E0 (vm M g) σ H Q:=fun σ H Q qq=>by
 obtain⟨ρ,Γ,S,d,S',ok,e,q⟩:=qq
 obtain⟨⟨ds,S1⟩,e1,e⟩:=bind_some e
 obtain⟨⟨r,S2⟩,e2,e⟩:=bind_some e
 refine⟨ρ,Γ,S,ds,S1,ok,e1,fun ρ1 vs H1 x1 st1 r1=>⟨ρ1,S1,ds,r,S2,hn _ _ _ _ e1,by rw[List.append_nil];exact r1,st1,e2,fun ρ2 v H2 x2 st2 r2=> ?_⟩⟩
 cases r with
 |d x=>obtain⟨rfl,rfl⟩:=cu e;exact q _ _ _ (x1.trans x2) st2 r2
 |l ds=>cases e
theorem CJ{M:Md}(hn:nA n g):∀σ H Q,tL M (dk F g) σ H Q->Br (dR M n F) [] E0 (vm M g) σ H Q:=fun σ H Q qq=>by
 obtain⟨ρ,Γ,S,d,S',ok,e,q⟩:=qq
 obtain⟨⟨ds,S1⟩,e1,e⟩:=bind_some e
 obtain⟨⟨r,S2⟩,e2,e⟩:=bind_some e
 refine⟨ρ,Γ,S,ds,S1,ok,e1,fun ρ1 vs H1 x1 st1 r1=>⟨ρ1,S1,ds,r,S2,hn _ _ _ _ e1,by rw[List.append_nil];exact r1,st1,e2,fun ρ2 v H2 x2 st2 r2=> ?_⟩⟩
 cases r with
 |d x=>cases e
 | l ds=>
   obtain⟨rfl,rfl⟩:=cu e
   obtain⟨a,vs,rfl,fr,na,ha,rr⟩:=r2
   exact q _ _ _ _ (x1.trans x2) st2 (x1.grow _ fr) na ha rr
theorem E3(G:bo X.prog X.w X.K X.mg X.base dv k f fd ps (dR (md X) n F))(hr:eW k X.A)(hg:Gl X x)(hm:X.mg x=some (.ref f))(hk:PySem.W.keepIn X.K (.ref f)=true)(hb:Binds X.K fd ps [])(ha:PA X (e::es) (vm (md X) g))(hn:nA n g)
  (hdb:(x==("__debug__":Str))=false:=by decide) (he:starEach (e::es) X.env=(false,eval e X.env)::starEach es X.env:=by rfl) (hpl:(backTo pos (starEach es X.env)).any (·.1)=false:=by rfl):
  PE X (.Call (.Name x p) (e::es) [] pos) (tD (md X) (ao F g)):=je (yO G hr hg hm hk hb .nil BF ha hdb he hpl) (yd hn)
theorem Ej(G:bo X.prog X.w X.K X.mg X.base dv k f fd ps (dR (md X) n F))(hr:eW k X.A)(hg:Gl X x)(hm:X.mg x=some (.ref f))(hk:PySem.W.keepIn X.K (.ref f)=true)(hb:Binds X.K fd ps [])(ha:PA X (e::es) (vm (md X) g))(hn:nA n g)
  (hdb:(x==("__debug__":Str))=false:=by decide) (he:starEach (e::es) X.env=(false,eval e X.env)::starEach es X.env:=by rfl) (hpl:(backTo pos (starEach es X.env)).any (·.1)=false:=by rfl):
  PE X (.Call (.Name x p) (e::es) [] pos) (tL (md X) (dk F g)):=je (yO G hr hg hm hk hb .nil BF ha hdb he hpl) (CJ hn)
end
def i4{α:Type}(xs:List α)(lo hi:Option Int):List α:=(xs.drop (HT.eO xs.length 0 lo)).take (HT.eO xs.length xs.length hi-HT.eO xs.length 0 lo)
theorem aY.cut3{M:Md}{ρ:List Addr}{H:Hp}{ds:List D}{vs:List V}{lo hi:Option Int}(h:aY M ρ H ds vs):aY M ρ H (i4 ds lo hi) (xK vs lo hi):=by
 unfold i4 xK
 rw[h.length]
 exact(h.drop _).take _
theorem Cu{α:Type}{xs:List α}{lo hi:Option Int}(h1:HT.eO xs.length 0 lo=0)(h2:HT.eO xs.length xs.length hi=xs.length):i4 xs lo hi=xs:=by
 unfold i4
 rw[h1,h2]
 simp
abbrev FC:=cE->aA->Option (Option Int×aA)
def GP(M:Md)(f:FC):TO:=fun σ H Q=>∃ρ Γ S o S',Ok M ρ Γ S σ H/\f Γ S=some (o,S')/\∀ρ' H',bT ρ H ρ' H'->ft M ρ' S' H'->Q o H'
section
variable{X:Cx}{a b c e:Expr}{pos:Pos}{st:Stmt}
def rh:FC:=fun _ S=>some (none,S)
def qO(f:bq):FC:=fun Γ S=>(f Γ S).bind fun(d,S1)=>match d with
 |.int i=>some (some i,S1)
 |_=>none
theorem H_{o:Option Expr}{t t':TO}(h:PO X o t)(w:∀σ H Q,t' σ H Q->t σ H Q):PO X o t':=fun pins s σ H Q I q=>h pins s σ H Q I (w _ _ _ q)
theorem dJ:PO X none (GP (md X) rh):=H_ C2 fun σ H Q ⟨ρ,Γ,S,o,S',ok,e,q⟩=>by cases e;exact q _ _ bT.refl ok.st
theorem dP{f:bq}(h:PE X e (tD (md X) f)):PO X (some e) (GP (md X) (qO f)):=H_ (CC h) fun σ H Q qq=>by
 obtain⟨ρ,Γ,S,o,S',ok,e,q⟩:=qq
 obtain⟨⟨d,S1⟩,e1,e⟩:=bind_some e
 dsimp only at e
 split at e
 ·obtain⟨rfl,rfl⟩:=cu e
  refine⟨ρ,Γ,S,_,S1,ok,e1,fun ρ' v H' x st r=> ?_⟩
  cases r
  exact⟨_,rfl,q _ _ x st⟩
 ·cases e
def qu(f:bq)(lo hi:FC):bq:=fun Γ S=>(f Γ S).bind fun(d,S1)=>(lo Γ S1).bind fun(l,S2)=>(hi Γ S2).bind fun(h,S3)=>match d with
 |.tup ds=>some (.tup (i4 ds l h),S3)
 |_=>none
theorem cT{lo hi:Option Expr}{p2:Pos}{f:bq}{l h:FC}(he:PE X e (tD (md X) f))(hl:PO X lo (GP (md X) l))(hh:PO X hi (GP (md X) h)):PE X (.Subscript e (.Slice lo hi none p2) pos) (tD (md X) (qu f l h)):=
 je (A0 Ca he hl hh) fun σ H Q qq=>by
  obtain⟨ρ,Γ,S,d,S',ok,e,q⟩:=qq
  obtain⟨⟨x,S1⟩,e1,e⟩:=bind_some e
  obtain⟨⟨l',S2⟩,e2,e⟩:=bind_some e
  obtain⟨⟨h',S3⟩,e3,e⟩:=bind_some e
  cases x with
  | tup ds=>
    dsimp only at e
    obtain⟨rfl,rfl⟩:=cu e
    refine⟨ρ,Γ,S,_,S1,ok,e1,fun ρ1 v H1 x1 st1 r1=>⟨ρ1,Γ,S1,l',S2,ok.to x1 st1,e2,fun ρ2 H2 x2 st2=>⟨ρ2,Γ,S2,h',S3,(ok.to x1 st1).to x2 st2,e3,fun ρ3 H3 x3 st3=> ?_⟩⟩⟩
    have x13:=(x1.trans x2).trans x3
    have r3:=r1.ext (x2.trans x3)
    cases r3 with
    | tup ha hs=>
      refine⟨_,_,rfl,gL.of ha,fun c=> ?_,fun c p hp=> ?_⟩
      · have:i4 ds l' h'=ds:=Cu (by rw[hs.length];exact c.1) (by rw[hs.length];exact c.2)
        rw[this] at q
        exact q _ _ _ x13 st3 (.tup ha hs)
      · exact q _ _ _ (x13.trans (bT.laid hp)) (st3.lay hp) (.tup bA (hs.cut3.ext (bT.laid hp)))
  |_=>cases e
open Classical in
noncomputable def uJ(f g:eR):fG:=fun Γ S=>(f Γ S).bind fun(p,S1)=>(g Γ S1).bind fun(r,S2)=>if p.2.isM=true/\r.2.isM=true/\p.2.stays S2 p.1/\p.1.length+r.1.length<=sizeLine then some (p.1++r.1,S2) else none
theorem sf{f g:eR}(ha:PE X a (tQ (md X) f))(hb:PE X b (tQ (md X) g)):PE X (.BinOp a .Add b pos) (tL (md X) (uJ f g)):=je (nW D7 ha hb) fun σ H Q qq=>by
 obtain⟨ρ,Γ,S,d,S',ok,e,q⟩:=qq
 obtain⟨⟨⟨ds,t⟩,S1⟩,e1,e⟩:=bind_some e
 obtain⟨⟨⟨es,t2⟩,S2⟩,e2,e⟩:=bind_some e
 dsimp only at e
 split at e
 ·rename_i c
  obtain⟨rfl,rfl⟩:=cu e
  refine⟨ρ,Γ,S,ds,t,S1,ok,e1,fun ρ1 a vs H1 x1 st1 h1 r1=>⟨ρ1,Γ,S1,es,t2,S2,ok.to x1 st1,e2,fun ρ2 b ws H2 x2 st2 h2 r2=> ?_⟩⟩
  obtain⟨vs',h3,r3⟩:=h1.to r1 x2 st2 c.2.2.1
  have x12:=x1.trans x2
  refine⟨_,_,vs',ws,rfl,rfl,h3.sqM c.1,h2.sqM c.2.1,by rw[←r3.length,←r2.length];exact c.2.2.2,fun p hp=> ?_⟩
  exact q _ _ _ _ (x12.trans (bT.laid hp)) (st2.lay hp) (x12.grow _ hp) (cM x12 st2 hp) bA ((r3.append r2).ext (bT.laid hp))
 ·cases e
open Classical in
noncomputable def rq(f:eR)(g:bq):fG:=fun Γ S=>(f Γ S).bind fun(p,S1)=>(g Γ S1).bind fun(r,S2)=>match r with
 |.int k=>if p.2.isM=true/\p.2.stays S2 p.1/\ -(2^63)<=k/\k<2^63/\p.1.length*k.toNat<=sizeLine then some ((List.replicate k.toNat p.1).flatten,S2) else none
 |_=>none
theorem wI{f:eR}{g:bq}(ha:PE X a (tQ (md X) f))(hb:PE X b (tD (md X) g)):PE X (.BinOp a .Mult b pos) (tL (md X) (rq f g)):=je (nW EC ha hb) fun σ H Q qq=>by
 obtain⟨ρ,Γ,S,d,S',ok,e,q⟩:=qq
 obtain⟨⟨⟨ds,t⟩,S1⟩,e1,e⟩:=bind_some e
 obtain⟨⟨r,S2⟩,e2,e⟩:=bind_some e
 cases r with
 | int k=>
   dsimp only at e
   split at e
   · rename_i c
     obtain⟨rfl,rfl⟩:=cu e
     refine⟨ρ,Γ,S,ds,t,S1,ok,e1,fun ρ1 a vs H1 x1 st1 h1 r1=>⟨ρ1,Γ,S1,_,S2,ok.to x1 st1,e2,fun ρ2 w H2 x2 st2 r2=> ?_⟩⟩
     obtain⟨vs',h3,r3⟩:=h1.to r1 x2 st2 c.2.1
     have x12:=x1.trans x2
     cases r2
     refine⟨_,k,vs',rfl,rfl,h3.sqM c.1,c.2.2.1,c.2.2.2.1,by rw[←r3.length];exact c.2.2.2.2,fun p hp=> ?_⟩
     exact q _ _ _ _ (x12.trans (bT.laid hp)) (st2.lay hp) (x12.grow _ hp) (cM x12 st2 hp) bA ((r3.rep _).ext (bT.laid hp))
   · cases e
 |_=>cases e
open Classical in
noncomputable def di(f:eR):bq:=fun Γ S=>(f Γ S).bind fun(p,S1)=>if p.2.isL=true/\p.2.stays S1 p.1 then some (.bl (!p.1.isEmpty),S1) else none
theorem Dp{f:eR}:∀σ H Q,tD (md X) (di f) σ H Q->DR (A_ X.K) (tQ (md X) f) (tL (md X) (bB ai)) σ H Q:=fun σ H Q qq=>by
 obtain⟨ρ,Γ,S,d,S',ok,e,q⟩:=qq
 obtain⟨⟨⟨ds,t⟩,S1⟩,e1,e⟩:=bind_some e
 dsimp only at e
 split at e
 ·rename_i c
  obtain⟨rfl,rfl⟩:=cu e
  refine⟨ρ,Γ,S,ds,t,S1,ok,e1,fun ρ1 a as H1 x1 st1 h1 r1=>⟨ρ1,Γ,S1,[],S1,ok.to x1 st1,rfl,fun ρ2 b bs H2 x2 st2 fr nr hb r2=> ?_⟩⟩
  obtain⟨as',h3,r3⟩:=h1.to r1 x2 st2 c.2
  cases r2
  refine⟨a,b,as',rfl,rfl,h3.sqL c.1,hG.of hb,?_⟩
  rw[←r3.isEmpty]
  exact q _ _ _ (x1.trans x2) st2 (.bl _)
 ·cases e
theorem FR:PE X (.List [] pos) (tL (md X) (bB ai)):=bX ah
theorem er{f:eR}{p:Pos}(hu:X.A.units<cLine)(ha:PE X a (tQ (md X) f)):PT X (.Compare a [.NotEq] [.List [] p] pos) (tB (md X) (aF (di f))):=xu Dp (oS (Bu hu) ha FR (aI _))
theorem ft.putL{M:Md}{ρ:List Addr}{S:aA}{H:Hp}{k:Nat}{a:Addr}{ds es:List D}{ws:List V}(st:ft M ρ S H)(hk:ρ[k]?=some a)(hS:S[k]?=some (.lst ds))(r:aY M ρ H es ws):ft M ρ (S.set k (.lst es)) (upd H a (.lst ws))/\bT ρ H ρ (upd H a (.lst ws)):=by
 obtain⟨vs,h1,h2⟩:=st.obj k a _ hk hS
 exact st.put hk hS ⟨ws,bA,r.off h1⟩ fun x hx=>by rw[h1] at hx;cases hx;exact id
def oB(m:List D->List D->Option (List D×D))(f:bq)(g:fG):bq:=fun Γ S=>(f Γ S).bind fun(x,S1)=>match x with
 | .ref k=>(g Γ S1).bind fun(ys,S2)=>match S1[k]?,S2[k]? with
   |some (.lst _),some (.lst ds)=>(m ds ys).bind fun(es,d)=>some (d,S2.set k (.lst es))
   |_,_=>none
 |_=>none
def Fb(M:Md)(r:V->List V->Hp->VK->Prop)(m:List D->List D->Option (List D×D)):Prop:=∀{ρ:List Addr} {H:Hp} {a:Addr} {ds ys es:List D} {d:D} {vs us:List V} {Q:VK},H a=some (.lst vs)->aY M ρ H ds vs->aY M ρ H ys us->m ds ys=some (es,d)→
 (∀ws w,aY M ρ H es ws->Rel M ρ H d w->Q w (upd H a (.lst ws)))->r (.ref a) us H Q
theorem FI{m:List D->List D->Option (List D×D)}{r:V->List V->Hp->VK->Prop}{f:bq}{g:fG}(ho:Fb (md X) r m):∀σ H Q,tD (md X) (oB m f g) σ H Q->GS X.K "list" r (tD (md X) f) (vm (md X) g) σ H Q:=fun σ H Q qq=>by
 obtain⟨ρ,Γ,S,d,S',ok,e,q⟩:=qq
 obtain⟨⟨x,S1⟩,e1,e⟩:=bind_some e
 cases x with
 | ref k=>
   dsimp only at e
   obtain⟨⟨ys,S2⟩,e2,e⟩:=bind_some e
   dsimp only at e
   split at e
   · rename_i ds0 ds hs1 hs2
     obtain⟨⟨es,d'⟩,e3,e⟩:=bind_some e
     obtain⟨rfl,rfl⟩:=cu e
     refine⟨ρ,Γ,S,_,S1,ok,e1,fun ρ1 v H1 x1 st1 r1=> ?_⟩
     cases r1 with
     | ref ha=>
       rename_i a
       obtain⟨vs1,g1,_⟩:=st1.obj k a _ ha hs1
       refine⟨.inl ⟨rfl,vs1,hG.of g1⟩,ρ1,Γ,S1,ys,S2,ok.to x1 st1,e2,fun ρ2 us H2 x2 st2 r2=> ?_⟩
       have ha2:=cQ x2.pre ha
       obtain⟨vs,h1,h2⟩:=st2.obj k a _ ha2 hs2
       refine ho h1 h2 r2 e3 fun ws w rw rd=> ?_
       obtain⟨st3,x3⟩:=st2.putL ha2 hs2 rw
       exact q _ _ _ ((x1.trans x2).trans x3) st3 (rd.ext x3)
   · cases e
 |_=>cases e
def gH:List D->List D->Option (List D×D):=fun ds ys=>match ys with
 | [y]=>if ds.length<sizeLine then some (ds++ [y],.non) else none
 |_=>none
theorem Fm{M:Md}:Fb M yw gH:=by
 intro ρ H a ds ys es d vs us Q h1 h2 h3 e q
 unfold gH at e
 split at e
 ·split at e
  ·rename_i hl
   obtain⟨rfl,rfl⟩:=cu e
   cases h3 with
   | cons h3 h4=>
     cases h4
     exact⟨a,vs,_,rfl,rfl,h1,by rw[←h2.length];exact hl,q _ _ (h2.append (.cons h3 .nil)) .non⟩
  ·cases e
 ·cases e
theorem cA{f:bq}{g:bq}{o:Expr}{apos cpos:Pos}(ho:PE X o (tD (md X) f))(ha:PE X e (tD (md X) g))(hbase:attributeBase o "append" X.env (eval o X.env)=eval o X.env:=by rfl) (hfew:((backTo cpos (starEach [e] X.env)).all (fun x=> !x.1)&&(backToKw cpos (keywordEach [] X.env)).all (fun x=>x.1.isSome)
   &&decide ([e].length+([]:List Keyword).length+(if ([]:List Keyword).isEmpty then 0 else 1)<30))=true:=by rfl)
  (hline:(apos.endLine==cpos.line)=true:=by rfl) (hs:starEach [e] X.env= [(false,eval e X.env)]:=by rfl):PE X (.Call (.Attribute o "append" apos) [e] [] cpos) (tD (md X) (oB gH f (ae g ai))):=
 je (sx PySem.F.plainAttrs_list PySem.F.slot_list_append PySem.F.type_list_append nu ho (aa ha ah hs) hbase hfew hline hs) (FI Fm)
end
section
variable{X:Cx}{a b c e:Expr}{pos:Pos}{st:Stmt}
def kF:List D->List D->Option (List D×D):=fun ds ys=>match ys with
 | [.int i]=>if -(2^63)<=i/\i<2^63 then(seqIndex? i ds.length).bind fun k=>(ds[k]?).bind fun y=>some (ds.eraseIdx k,y) else none
 |_=>none
theorem A7{M:Md}:Fb M A9 kF:=by
 intro ρ H a ds ys es d vs us Q h1 h2 h3 e q
 unfold kF at e
 split at e
 ·split at e
  ·rename_i i hi
   obtain⟨k,e1,e⟩:=bind_some e
   obtain⟨y,e2,e⟩:=bind_some e
   obtain⟨rfl,rfl⟩:=cu e
   cases h3 with
   | cons h3 h4=>
     cases h4
     cases h3
     obtain⟨v,g1,g2⟩:=h2.get e2
     rw[h2.length] at e1
     exact⟨a,vs,i,k,v,rfl,rfl,h1,hi.1,hi.2,e1,g1,q _ _ (h2.eraseIdx k) g2⟩
  ·cases e
 ·cases e
theorem yS{f:bq}{g:bq}{o:Expr}{apos cpos:Pos}(ho:PE X o (tD (md X) f))(ha:PE X e (tD (md X) g))(hbase:attributeBase o "pop" X.env (eval o X.env)=eval o X.env:=by rfl) (hfew:((backTo cpos (starEach [e] X.env)).all (fun x=> !x.1)&&(backToKw cpos (keywordEach [] X.env)).all (fun x=>x.1.isSome)
   &&decide ([e].length+([]:List Keyword).length+(if ([]:List Keyword).isEmpty then 0 else 1)<30))=true:=by rfl)
  (hline:(apos.endLine==cpos.line)=true:=by rfl) (hs:starEach [e] X.env= [(false,eval e X.env)]:=by rfl):PE X (.Call (.Attribute o "pop" apos) [e] [] cpos) (tD (md X) (oB kF f (ae g ai))):=
 je (sx PySem.F.plainAttrs_list PySem.F.slot_list_pop PySem.F.type_list_pop Bd ho (aa ha ah hs) hbase hfew hline hs) (FI A7)
def oM(f:bq)(g:eR):bq:=fun Γ S=>(f Γ S).bind fun(x,S1)=>match x with
 | .ref k=>(g Γ S1).bind fun(p,S2)=>match S1[k]?,S2[k]? with
   |some (.lst _),some (.lst ds)=>if p.2.isM=true/\ds.length+p.1.length<=sizeLine then some (.non,S2.set k (.lst (ds++p.1))) else none
   |_,_=>none
 |_=>none
theorem FG{f:bq}{g:eR}:∀σ H Q,tD (md X) (oM f g) σ H Q->GS X.K "list" yi (tD (md X) f) (AG (tQ (md X) g) Fi) σ H Q:=fun σ H Q qq=>by
 obtain⟨ρ,Γ,S,d,S',ok,e,q⟩:=qq
 obtain⟨⟨x,S1⟩,e1,e⟩:=bind_some e
 cases x with
 | ref k=>
   dsimp only at e
   obtain⟨⟨⟨ys,t⟩,S2⟩,e2,e⟩:=bind_some e
   dsimp only at e
   split at e
   · rename_i ds0 ds hs1 hs2
     split at e
     · rename_i c
       obtain⟨rfl,rfl⟩:=cu e
       refine⟨ρ,Γ,S,_,S1,ok,e1,fun ρ1 v H1 x1 st1 r1=> ?_⟩
       cases r1 with
       | ref ha=>
         rename_i a
         obtain⟨vs1,g1,_⟩:=st1.obj k a _ ha hs1
         refine⟨.inl ⟨rfl,vs1,hG.of g1⟩,ρ1,Γ,S1,ys,t,S2,ok.to x1 st1,e2,fun ρ2 b us H2 x2 st2 h2 r2=> ?_⟩
         have ha2:=cQ x2.pre ha
         obtain⟨vs,h3,h4⟩:=st2.obj k a _ ha2 hs2
         refine⟨a,b,vs,us,rfl,rfl,h3,h2.sqM c.1,by rw[←h4.length,←r2.length];exact c.2,?_⟩
         obtain⟨st3,x3⟩:=st2.putL ha2 hs2 (h4.append r2)
         exact q _ _ _ ((x1.trans x2).trans x3) st3 .non
     · cases e
   · cases e
 |_=>cases e
theorem gK{f:bq}{g:eR}{o:Expr}{apos cpos:Pos}(ho:PE X o (tD (md X) f))(ha:PE X e (tQ (md X) g))(hbase:attributeBase o "extend" X.env (eval o X.env)=eval o X.env:=by rfl) (hfew:((backTo cpos (starEach [e] X.env)).all (fun x=> !x.1)&&(backToKw cpos (keywordEach [] X.env)).all (fun x=>x.1.isSome)
   &&decide ([e].length+([]:List Keyword).length+(if ([]:List Keyword).isEmpty then 0 else 1)<30))=true:=by rfl)
  (hline:(apos.endLine==cpos.line)=true:=by rfl) (hs:starEach [e] X.env= [(false,eval e X.env)]:=by rfl):PE X (.Call (.Attribute o "extend" apos) [e] [] cpos) (tD (md X) (oM f g)):=
 je (sx PySem.F.plainAttrs_list PySem.F.slot_list_extend PySem.F.type_list_extend ze ho (cW ha eL hs) hbase hfew hline hs) FG
def Fw(f g:bq):lu:=fun d Γ S=>(f Γ S).bind fun(x,S1)=>(g Γ S1).bind fun(y,S2)=>match x,y with
 | .ref k,.int i=>match S2[k]? with
   |some (.lst ds)=>(zH ds.length i).bind fun j=>some (Γ,S2.set k (.lst (ds.set j d)))
   |_=>none
 |_,_=>none
theorem Hb{f g:bq}:∀v σ H Q,tG (md X) (Fw f g) v σ H Q->Gg (tD (md X) f) (tD (md X) g) DF v σ H Q:=fun v σ H Q qq=>by
 obtain⟨ρ,Γ,S,d,Γ',S',ok,r,e,q⟩:=qq
 obtain⟨⟨x,S1⟩,e1,e⟩:=bind_some e
 obtain⟨⟨y,S2⟩,e2,e⟩:=bind_some e
 cases x with
 | ref k=>
   cases y with
   | int i=>
     dsimp only at e
     split at e
     · rename_i ds hs
       obtain⟨j,e3,e⟩:=bind_some e
       obtain⟨rfl,rfl⟩:=cu e
       refine⟨ρ,Γ,S,_,S1,ok,e1,fun ρ1 v1 H1 x1 st1 r1=>⟨ρ1,Γ,S1,_,S2,ok.to x1 st1,e2,fun ρ2 v2 H2 x2 st2 r2=> ?_⟩⟩
       cases r2
       have r1:=r1.ext x2
       cases r1 with
       | ref ha=>
         obtain⟨vs,h3,h4⟩:=st2.obj k _ _ ha hs
         have x12:=x1.trans x2
         obtain⟨st3,x3⟩:=st2.putL ha hs (aY.set (r.ext x12) j h4)
         exact⟨_,vs,i,j,rfl,rfl,h3,by rw[←h4.length];exact e3,q _ _ _ (x12.trans x3) ((ok.to x12 st2).to x3 st3)⟩
     · cases e
   |_=>cases e
 |_=>cases e
theorem DK{o i:Expr}{f g:bq}(ho:PE X o (tD (md X) f))(hi:PE X i (tD (md X) g))
  (ha:∀v,assign (.Subscript o i pos) X.env v=(do
   let ov←holding [v] (eval o X.env)
   let iv←holding [v,ov] (eval i X.env)
   standAt pos
   holding [v,ov,iv] (setItem ov iv v)
   release [v,ov,iv] []):=by intro _;rfl):PG X (.Subscript o i pos) (tG (md X) (Fw f g)):=HK (Er ho hi set_list ha) Hb
def G0(f g h:bq):cH:=fun Γ S=>(f Γ S).bind fun(x,S1)=>(g Γ S1).bind fun(y,S2)=>match x,y with
 | .ref k,.int i=>match S2[k]? with
   | some (.lst ds)=>if 0<=i then(ds[i.toNat]?).bind fun z=>(h Γ S2).bind fun(w,S3)=>match z,w,S3[k]? with
     |.int m,.int n,some (.lst es)=>(zH es.length i).bind fun j=>some (.nx Γ (S3.set k (.lst (es.set j (.int (m+n))))))
     |_,_,_=>none
     else none
   |_=>none
 |_,_=>none
theorem Ff{o i e:Expr}{f g h:bq}{tpos:Pos}(ho:PE X o (tD (md X) f))(hi:PE X i (tD (md X) g))(he:PE X e (tD (md X) h))
  (ha:∀ov iv new,augStore i ov iv new=(do holding [new,ov,iv] (setItem ov iv new);release [new,ov,iv] [];pure .next):=by intros;rfl):PS X (.AugAssign (.Subscript o i tpos) .Add e pos) (tS (md X) (G0 f g h)):=
 yj (Cw ho hi Bk he E4 set_list ha) fun D σ H qq=>by
  obtain⟨ρ,Γ,S,o,ok,e,q⟩:=qq
  obtain⟨⟨x,S1⟩,e1,e⟩:=bind_some e
  obtain⟨⟨y,S2⟩,e2,e⟩:=bind_some e
  cases x with
  | ref k=>
    cases y with
    | int i=>
      dsimp only at e
      split at e
      · rename_i ds hs
        split at e
        · rename_i hi
          obtain⟨z,e3,e⟩:=bind_some e
          obtain⟨⟨w,S3⟩,e4,e⟩:=bind_some e
          cases z with
          | int m=>
            cases w with
            | int n=>
              cases hs3:S3[k]? with
              |none=>rw[hs3] at e;cases e
              | some o3=>
                rw[hs3] at e
                cases o3 with
                | lst es=>
                  dsimp only at e
                  obtain⟨j,e5,e⟩:=bind_some e
                  cases e
                  refine⟨ρ,Γ,S,_,S1,ok,e1,fun ρ1 v1 H1 x1 st1 r1=>⟨ρ1,Γ,S1,_,S2,ok.to x1 st1,e2,fun ρ2 v2 H2 x2 st2 r2=> ?_⟩⟩
                  cases r2
                  have r1:=r1.ext x2
                  cases r1 with
                  | ref ha=>
                    have x12:=x1.trans x2
                    obtain⟨vs,h3,h4⟩:=st2.obj k _ _ ha hs
                    obtain⟨v,h5,h6⟩:=h4.get e3
                    cases h6
                    refine⟨_,vs,i.toNat,_,rfl,by rw[Int.toNat_of_nonneg hi],hG.of h3,h5,ρ2,Γ,S2,_,S3,ok.to x12 st2,e4,fun ρ3 v3 H3 x3 st3 r3=> ?_⟩
                    cases r3
                    have ha3:=cQ x3.pre ha
                    obtain⟨vs3,g3,g4⟩:=st3.obj k _ _ ha3 hs3
                    have x13:=x12.trans x3
                    obtain⟨st4,x4⟩:=st3.putL ha3 hs3 (aY.set (.int (m+n)) j g4)
                    exact⟨m,n,rfl,rfl,_,vs3,i,j,rfl,rfl,g3,by rw[←g4.length];exact e5,q _ _ _ (x13.trans x4) ((ok.to x13 st3).to x4 st4)⟩
                |_=>cases e
            |_=>cases e
          |_=>cases e
        · cases e
      · cases e
    |_=>cases e
  |_=>cases e
def Dv(i j:Nat)(f:fG):cH:=fun Γ S=>(f Γ S).bind fun(ds,S1)=>match ds with
 | [v,w]=>some (.nx ((Γ.set i (some v)).set j (some w)) S1)
 |_=>none
theorem GM{i j:Nat}{f:fG}(h:PS X st (FS i j (vm (md X) f))):PS X st (tS (md X) (Dv i j f)):=yj h fun D σ H qq=>by
 obtain⟨ρ,Γ,S,o,ok,e,q⟩:=qq
 obtain⟨⟨ds,S1⟩,e1,e⟩:=bind_some e
 dsimp only at e
 split at e
 ·cases e
  refine⟨ρ,Γ,S,_,S1,ok,e1,fun ρ' vs H' x st r=> ?_⟩
  cases r with
  | cons r rr=>
    cases rr with
    | cons r' rr=>
      cases rr
      exact⟨_,_,rfl,q _ _ _ x ⟨((ok.en.ext x).set r).set r',st⟩⟩
 ·cases e
end
def dI(cells:List (Str×Addr)):List (Str×NameKind)->List (Str×Addr)->List (Str×Addr)
 | [],acc=>acc
 |(n,k)::r,acc=>if (k==.free)=true then dI cells r ((n,(cells.lookup n).getD 0)::acc) else dI cells r acc
theorem m7{env:Env}:∀(names:List (Str×NameKind)) (acc:List (Str×Addr)),(∀y∈names,y.2=.free->(env.cells.lookup y.1).isSome=true)→
  (forIn names acc fun(x:Str×NameKind) (cs:List (Str×Addr))=>(do
   if (x.2==NameKind.free)=true then do
    let c←cellOf env x.1
    pure (ForInStep.yield ((x.1,c)::cs))
   else pure (ForInStep.yield cs):Sem (ForInStep (List (Str×Addr)))))=(pure (dI env.cells names acc):Sem _)
 | [],acc,_=>rfl
 | (n,k)::r,acc,h=>by
   rw[List.forIn_cons]
   unfold dI
   by_cases c:(k==NameKind.free)=true
   · obtain⟨a,ha⟩:=Option.isSome_iff_exists.mp (h (n,k) List.mem_cons_self (by simpa using c))
     simp only[c,if_true]
     have hc:cellOf env n=pure a:=by
       unfold cellOf
       rw[ha]
     rw[hc,pure_bind,pure_bind,ha]
     exact m7 r _ fun y hy=>h y (List.mem_cons_of_mem _ hy)
   · simp only[c,Bool.false_eq_true,if_false]
     rw[pure_bind]
     exact m7 r _ fun y hy=>h y (List.mem_cons_of_mem _ hy)
theorem As{scope:Scope}{env:Env}(h:∀y∈scope.names,y.2=.free->(env.cells.lookup y.1).isSome=true):closureFor scope env=pure (dI env.cells scope.names []):=by
 unfold closureFor
 have:=m7 scope.names [] h
 rw[bind_pure]
 exact this
theorem p7{cells:List (Str×Addr)}:∀(names:List (Str×NameKind)) (acc:List (Str×Addr)) (p:Str×Addr),p∈dI cells names acc->p∈acc\/∃n,(n,NameKind.free)∈names/\p=(n,(cells.lookup n).getD 0)
 | [],acc,p,h=>.inl h
 | (n,k)::r,acc,p,h=>by
   unfold dI at h
   split at h
   · rename_i c
     rcases p7 r _ p h with h|⟨m,h1,h2⟩
     · rcases List.mem_cons.mp h with h|h
       · exact .inr ⟨n,by rw[show k=NameKind.free by simpa using c];exact List.mem_cons_self,h⟩
       · exact .inl h
     · exact .inr ⟨m,List.mem_cons_of_mem _ h1,h2⟩
   · rcases p7 r _ p h with h|⟨m,h1,h2⟩
     · exact .inl h
     · exact .inr ⟨m,List.mem_cons_of_mem _ h1,h2⟩
theorem pF{cells:List (Str×Addr)}{x:Str}:∀(names:List (Str×NameKind)) (acc:List (Str×Addr)),((x,NameKind.free)∈names\/∃c,(x,c)∈acc)->∃c,(x,c)∈dI cells names acc
 | [],acc,h=>by
   rcases h with h|h
   · cases h
   · exact h
 | (n,k)::r,acc,h=>by
   unfold dI
   split
   · rename_i c
     refine pF r _ ?_
     rcases h with h|⟨c,h⟩
     · rcases List.mem_cons.mp h with h|h
       · cases h;exact .inr ⟨_,List.mem_cons_self⟩
       · exact .inl h
     · exact .inr ⟨c,List.mem_cons_of_mem _ h⟩
   · rename_i c
     refine pF r _ ?_
     rcases h with h|h
     · rcases List.mem_cons.mp h with h|h
       · cases h;exact absurd rfl c
       · exact .inl h
     · exact .inr h
theorem km{x:Str}{c:Addr}:∀{l:List (Str×Addr)},(x,c)∈l->∃c',l.lookup x=some c'
 | [],h=>by cases h
 | (n,d)::r,h=>by
   unfold List.lookup
   by_cases e:(x==n)=true
   · rw[e];exact⟨d,rfl⟩
   · have e':(x==n)=false:=by simpa using e
     rw[e']
     rcases List.mem_cons.mp h with h|h
     · cases h;simp at e
     · exact km h
def qo(N0:List Str)(kindOf:Str->Option NameKind)(names:List (Str×NameKind)):List (Option Nat)->List Str->Bool
 |some j::js,x::N=>(N0[j]? ==some x)&&(kindOf x==some .cell||kindOf x==some .free)&&(names.lookup x==some .free)&&qo N0 kindOf names js N
 |none::js,_::N=>qo N0 kindOf names js N
 |_,_=>true
theorem qi{N0:List Str}{kindOf:Str->Option NameKind}{names:List (Str×NameKind)}:∀{js:List (Option Nat)} {N:List Str} {k j:Nat} {x:Str},qo N0 kindOf names js N=true->js[k]?=some (some j)->N[k]?=some x->N0[j]?=some x/\(kindOf x=some .cell\/kindOf x=some .free)/\names.lookup x=some .free
 | some i::js,y::N,0,j,x,h,h1,h2=>by
   cases h1
   cases h2
   simp only[qo,Bool.and_eq_true,Bool.or_eq_true,beq_iff_eq] at h
   exact⟨h.1.1.1,h.1.1.2,h.1.2⟩
 | some i::js,y::N,k+1,j,x,h,h1,h2=>by
   simp only[qo,Bool.and_eq_true] at h
   exact qi h.2 (by simpa using h1) (by simpa using h2)
 |none::js,y::N,0,j,x,h,h1,h2=>by cases h1
 |none::js,y::N,k+1,j,x,h,h1,h2=>qi (k:=k) (by simpa [qo] using h) (by simpa using h1) (by simpa using h2)
 | [],N,k,j,x,h,h1,h2=>by simp at h1
 |some i::js,[],k,j,x,h,h1,h2=>by simp at h2
 |none::js,[],k,j,x,h,h1,h2=>by simp at h2
theorem lI{env:Env}{x:Str}:∀{names:List (Str×NameKind)},names.lookup x=some .free->(names.map fun(n,k)=>if (k==NameKind.free&&env.scope.kind==.function&&env.kindOf n==some .cell) then(n,NameKind.cell) else(n,k)).lookup x=some .cell∨
  (names.map fun(n,k)=>if (k==NameKind.free&&env.scope.kind==.function&&env.kindOf n==some .cell) then(n,NameKind.cell) else(n,k)).lookup x=some .free
 | [],h=>by cases h
 | (n,k)::r,h=>by
   unfold List.lookup at h
   rw[List.map_cons]
   by_cases e:(x==n)=true
   · rw[e] at h
     cases h
     dsimp only
     split
     · left;unfold List.lookup;rw[e]
     · right;unfold List.lookup;rw[e]
   · have e':(x==n)=false:=by simpa using e
     rw[e'] at h
     have ih:=lI (env:=env) h
     dsimp only
     split <;>(unfold List.lookup;rw[e'];exact ih)
theorem aQ.gen{X:Cx}{N:List Str}{js:List (Option Nat)}{scope:Scope}(k:scope.kind=.function)(h1:scope.names.all (fun y=>y.2 !=.cell)=true)(h2:scope.names.all (fun y=>y.2 !=.local||scope.names.lookup y.1==some .local)=true)
  (h3:scope.names.all (fun y=>y.2 !=.free||(X.env.cells.lookup y.1).isSome)=true) (h4:qo X.N X.env.kindOf scope.names js N=true) (h5:js.length=N.length):aQ X N js scope (dI X.env.cells scope.names []) where
 kind:=k
 nocell:=fun y hy=>by
  have:=List.all_eq_true.mp h1 y hy
  simpa using this
 names:=fun y hy e=>by
  have:=List.all_eq_true.mp h2 y hy
  rw[e] at this
  simpa using this
 clos:=As fun y hy e=>by
  have:=List.all_eq_true.mp h3 y hy
  rw[e] at this
  simpa using this
 sub:=fun x c h=>by
  rcases p7 _ _ _ (PySem.mem_of_lookup h) with h|⟨n,hn,e⟩
  ·cases h
  ·cases e
   have:=List.all_eq_true.mp h3 _ hn
   have hs:(X.env.cells.lookup x).isSome=true:=by simpa using this
   obtain⟨c,hc⟩:=Option.isSome_iff_exists.mp hs
   rw[hc]
   rfl
 has:=fun x h=>by
  have key:(x,NameKind.free)∈scope.names:=by
   have:∃k,(relabel scope X.env).names.lookup x=some k/\(k=.cell\/k=.free):=by
    rcases h with h|h
    ·exact⟨_,h,.inl rfl⟩
    ·exact⟨_,h,.inr rfl⟩
   obtain⟨k',hk,hc⟩:=this
   have hm:=PySem.mem_of_lookup hk
   unfold relabel at hm
   obtain⟨⟨n,kk⟩,hy,ey⟩:=List.mem_map.mp hm
   dsimp only at ey
   split at ey
   ·rename_i c
    cases ey
    simp only[Bool.and_eq_true] at c
    have:kk=NameKind.free:=by simpa using c.1.1
    rw[←this]
    exact hy
   ·cases ey
    rcases hc with z|z
    ·have:=List.all_eq_true.mp h1 _ hy
     rw[z] at this
     simp at this
    ·rw[←z];exact hy
  obtain⟨c,hc⟩:=pF (cells:=X.env.cells) scope.names [] (.inl key)
  exact km hc
 cap:=fun k j x hj hn=>by
  obtain⟨a,b,c⟩:=qi h4 hj hn
  refine⟨a,b,?_⟩
  unfold relabel
  exact lI c
 len:=h5
structure bI(P:Program)(w:World)(K:PySem.W.Frag)(mg:Str->Option Value)(base:Heap)(k:Nat)(x:Str)(ps:List Str)(F:c9):Prop where
 ex:∃f fd,bo P w K mg base dv k f fd ps (dR ⟨K,mg⟩ ps.length F)/\Binds K fd ps []/\PySem.W.keepIn K (.ref f)=true/\mg x=some (.ref f)
section
variable{X:Cx}{x:Str}{k n:Nat}{ps:List Str}{F:c9}{e:Expr}{es:List Expr}{g:fG}{p pos:Pos}
theorem Gz(C:bI X.prog X.w X.K X.mg X.base k x ps F)(hr:eW k X.A)(hg:Gl X x)(ha:PA X (e::es) (vm (md X) g))(hn:nA ps.length g)
  (hdb:(x==("__debug__":Str))=false:=by decide) (he:starEach (e::es) X.env=(false,eval e X.env)::starEach es X.env:=by rfl) (hpl:(backTo pos (starEach es X.env)).any (·.1)=false:=by rfl):
  PE X (.Call (.Name x p) (e::es) [] pos) (tD (md X) (ao F g)):=by
 obtain⟨f,fd,G,b,kp,m⟩:=C.ex
 exact E3 G hr hg m kp b ha hn hdb he hpl
theorem FV(C:bI X.prog X.w X.K X.mg X.base k x ps F)(hr:eW k X.A)(hg:Gl X x)(ha:PA X (e::es) (vm (md X) g))(hn:nA ps.length g)
  (hdb:(x==("__debug__":Str))=false:=by decide) (he:starEach (e::es) X.env=(false,eval e X.env)::starEach es X.env:=by rfl) (hpl:(backTo pos (starEach es X.env)).any (·.1)=false:=by rfl):
  PE X (.Call (.Name x p) (e::es) [] pos) (tL (md X) (dk F g)):=by
 obtain⟨f,fd,G,b,kp,m⟩:=C.ex
 exact Ej G hr hg m kp b ha hn hdb he hpl
end
theorem bI.mono{P:Program}{w:World}{K:PySem.W.Frag}{mg:Str->Option Value}{base:Heap}{j k:Nat}{x:Str}{ps:List Str}{F:c9}(C:bI P w K mg base j x ps F)(h:j<=k):bI P w K mg base k x ps F:=by
 obtain⟨f,fd,G,b,kp,m⟩:=C.ex
 exact⟨f,fd,G.mono h,b,kp,m⟩
structure Bl(mg:Str->Option Value):Prop where
 len:mg "len"=none
 tuple:mg "tuple"=none
 list:mg "list"=none
 dict:mg "dict"=none
 set:mg "set"=none
 int:mg "int"=none
 str:mg "str"=none
 bool:mg "bool"=none
 all:mg "all"=none
 any:mg "any"=none
 range:mg "range"=none
 zip:mg "zip"=none
 sorted:mg "sorted"=none
 isi:mg "isinstance"=none
 min:mg "min"=none
 max:mg "max"=none
 abs:mg "abs"=none
 enum:mg "enumerate"=none
open AutoSeq1 in
theorem kN(l:Addr)(items:Array Value)(n:Nat)(b:Addr)(items2:Array Value)(n2:Nat)(dd:Option Addr)(sl:Array (Option Value))(hs0:¬(!items.isEmpty&&Builtin.List.listTooLong (items.size+items2.size))=true)(hs1:items.size<=sizeLine)(hs2:items.size+items2.size<=sizeLine+1):
  Meets (Builtin.«list.extend» ⟨[.ref l,.ref b],[]⟩) (fun _ R s=>s.heap.get? l=some {cls:=.type "list",dict:=none,data:=.seq items n,slots:= #[]}/\s.heap.get? b=some {cls:=.type "tuple",dict:=dd,data:=.seq items2 n2,slots:=sl}/\R (.ok (.ret Value.none)) {s with heap:=s.heap.update l (Obj.mapSeq fun x=>x++items2),toks:=s.toks}):=
 .of_wp fun prog w A R s h=>by
  obtain⟨hp,g,d,tk,os⟩:=s;obtain⟨hl,hb,h⟩:=h;have f1:=idx_int;have f2:=AutoSeq1.sub_tuple_tuple;have f3:=AutoSeq1.sub_list_list;have f4:=AutoSeq1.sub_tuple_list;have f5:=AutoSeq1.sub_list_tuple;
  have hz':(items++items2).size<=sizeLine+1:=by rw[Array.size_append];exact hs2
  wp_walk using (wpAny_updateSeq hl rfl (hz:=hs1) (_hz':=hz')),AutoSeq1.wpAny_loadPart' hl,AutoSeq1.wpAny_loadPart' hb;exact⟨_,rfl,h⟩
section
variable{X:Cx}{a b c e:Expr}{pos:Pos}{st:Stmt}
theorem CD:GW X "list.extend" (fun x vs H Q=>∃l b xs zs,x=.ref l/\vs= [.ref b]/\H l=some (.lst xs)/\gL X.K H b zs/\xs.length+zs.length<=sizeLine/\Q .non (upd H l (.lst (xs++zs)))):=by
 intro pins s σ H x vs v us Q I rx rv h
 obtain⟨l,b,xs,zs,rfl,rfl,hH,hB,hz,q⟩:=h
 cases rx
 obtain⟨u,rfl,ru⟩:=rv.one
 cases ru
 obtain⟨z,its,n,r,hl,e⟩:=I.lstM hH
 obtain⟨its2,r2,⟨⟨cls,dd,dat,sl⟩,e2,hc,n2,hd⟩,hz2⟩:=I.tuple hB
 have hl2:=r2.length
 simp only at hc hd
 subst hc hd
 have hsz:its.toArray.size+its2.toArray.size<=sizeLine:=by rw[List.size_toArray,List.size_toArray];omega
 have hlong:¬(!its.toArray.isEmpty&&Builtin.List.listTooLong (its.toArray.size+its2.toArray.size))=true:=by
  rw[qp hsz,Bool.and_false]
  exact Bool.false_ne_true
 refine call_meets F.slot_list_extend ⟨_,e,rfl⟩ F.entry_list_extend (F.args_list_extend_2 _ _)
  (kN l its.toArray n b its2.toArray n2 dd sl hlong (by rw[List.size_toArray];omega) (by omega)) ⟨e,e2,?_⟩
 refine⟨.non,_,I.lset (its':=its++its2) hH e (by simp) (r.append r2) ?_,rfl,q⟩
 rw[lQa]
 omega
def sS(f:bq)(g:eR):bq:=fun Γ S=>(f Γ S).bind fun(x,S1)=>match x with
 | .ref k=>(g Γ S1).bind fun(p,S2)=>match S1[k]?,S2[k]? with
   |some (.lst _),some (.lst ds)=>if p.2.isL=false/\ds.length+p.1.length<=sizeLine then some (.non,S2.set k (.lst (ds++p.1))) else none
   |_,_=>none
 |_=>none
theorem EG{f:bq}{g:eR}:∀σ H Q,tD (md X) (sS f g) σ H Q->GS X.K "list" (fun x vs H Q=>∃l b xs zs,x=.ref l/\vs= [.ref b]/\H l=some (.lst xs)/\gL X.K H b zs/\xs.length+zs.length<=sizeLine/\Q .non (upd H l (.lst (xs++zs)))) (tD (md X) f) (AG (tQ (md X) g) Fi) σ H Q:=fun σ H Q qq=>by
 obtain⟨ρ,Γ,S,d,S',ok,e,q⟩:=qq
 obtain⟨⟨x,S1⟩,e1,e⟩:=bind_some e
 cases x with
 | ref k=>
   dsimp only at e
   obtain⟨⟨⟨ys,t⟩,S2⟩,e2,e⟩:=bind_some e
   dsimp only at e
   split at e
   · rename_i ds0 ds hs1 hs2
     split at e
     · rename_i c
       obtain⟨rfl,rfl⟩:=cu e
       refine⟨ρ,Γ,S,_,S1,ok,e1,fun ρ1 v H1 x1 st1 r1=> ?_⟩
       cases r1 with
       | ref ha=>
         rename_i a
         obtain⟨vs1,g1,_⟩:=st1.obj k a _ ha hs1
         refine⟨.inl ⟨rfl,vs1,hG.of g1⟩,ρ1,Γ,S1,ys,t,S2,ok.to x1 st1,e2,fun ρ2 b us H2 x2 st2 h2 r2=> ?_⟩
         have ha2:=cQ x2.pre ha
         obtain⟨vs,h3,h4⟩:=st2.obj k a _ ha2 hs2
         refine⟨a,b,vs,us,rfl,rfl,h3,h2.sqT c.1,by rw[←h4.length,←r2.length];exact c.2,?_⟩
         obtain⟨st3,x3⟩:=st2.putL ha2 hs2 (h4.append r2)
         exact q _ _ _ ((x1.trans x2).trans x3) st3 .non
     · cases e
   · cases e
 |_=>cases e
theorem sP{f:bq}{g:eR}{o:Expr}{apos cpos:Pos}(ho:PE X o (tD (md X) f))(ha:PE X e (tQ (md X) g))(hbase:attributeBase o "extend" X.env (eval o X.env)=eval o X.env:=by rfl) (hfew:((backTo cpos (starEach [e] X.env)).all (fun x=> !x.1)&&(backToKw cpos (keywordEach [] X.env)).all (fun x=>x.1.isSome)
   &&decide ([e].length+([]:List Keyword).length+(if ([]:List Keyword).isEmpty then 0 else 1)<30))=true:=by rfl)
  (hline:(apos.endLine==cpos.line)=true:=by rfl) (hs:starEach [e] X.env= [(false,eval e X.env)]:=by rfl):PE X (.Call (.Attribute o "extend" apos) [e] [] cpos) (tD (md X) (sS f g)):=
 je (sx PySem.F.plainAttrs_list PySem.F.slot_list_extend PySem.F.type_list_extend CD ho (cW ha eL hs) hbase hfew hline hs) EG
def mF(x:V):List V->Option Nat
 | []=>none
 |y::r=>if kf y x=true then some 0 else(mF x r).map (·+1)
theorem yk{x:V}:∀{xs:List V} {j:Nat},mF x xs=some j->(∃y,xs[j]?=some y/\kf y x=true)/\∀m y,m<j->xs[m]?=some y->kf y x=false
 | [],_,h=>by cases h
 | y::r,j,h=>by
   unfold mF at h
   split at h
   · rename_i c
     cases h
     exact⟨⟨y,rfl,c⟩,fun m _ hm=>absurd hm (Nat.not_lt_zero _)⟩
   · rename_i c
     obtain⟨i,hi,rfl⟩:=oQm.mp h
     obtain⟨⟨z,h1,h2⟩,h3⟩:=yk hi
     refine⟨⟨z,by simpa using h1,h2⟩,fun m w hm hw=> ?_⟩
     cases m with
     |zero=>cases hw;simpa using c
     |succ m=>exact h3 m w (by omega) (by simpa using hw)
theorem AC:Gq X "list.index" (fun x vs H Q=>∃a xs y j,x=.ref a/\vs= [y]/\hG X.K H a xs/\eZ y=true/\xs.all eZ=true/\mF y xs=some j/\Q (.int (j:Nat)) H):=by
 intro pins s σ H x vs v us Q I rx rv h
 obtain⟨a,xs,y,j,rfl,rfl,hq,fy,fs,hj,q⟩:=h
 cases rx
 obtain⟨u,rfl,ru⟩:=rv.one
 obtain⟨its,r,pl,hz⟩:=I.list hq
 obtain⟨⟨cls,dd,dat,sl⟩,n,e,hc,hdd,hd⟩:=pl
 simp only at hc hdd hd
 subst hc hdd hd
 obtain⟨⟨z,h1,h2⟩,h3⟩:=yk hj
 have hl:=r.length
 have hjl:j<xs.length:=(gQs.mp h1).1
 obtain⟨w,hw,rw'⟩:=r.get h1
 have hw':its.toArray[j]'(by rw[List.size_toArray];omega)=w:=by
  have:=(gQs.mp hw).2
  simpa using this
 have line:=jv
 refine call_meets PySem.F.slot_list_index ⟨_,e,rfl⟩ PySem.F.entry_list_index (PySem.F.args_list_index_2 _ _)
  (SeqAt.list_indexAt a its.toArray n none sl u (vb y) j (by rw[List.size_toArray];omega) (by omega) (by rw[hw',pP rw' (List.all_eq_true.mp fs z (mQg h1))];exact h2) fun m hm hlt=> ?_)
  ⟨e,fun w hw=>gG ru fy r fs w (by simpa using hw),⟨.int j,H,I.tok _,⟨_,rfl⟩,q⟩⟩
 have hm':m<xs.length:=by rw[List.size_toArray] at hm;omega
 obtain⟨w2,hw2,rw2⟩:=r.get (gQe hm')
 have e2:its.toArray[m]=w2:=by
  have:=(gQs.mp hw2).2
  simpa using this
 rw[e2,pP rw2 (List.all_eq_true.mp fs _ (List.getElem_mem hm'))]
 exact h3 m _ hlt (gQe hm')
end
end DL
namespace Zq
open PySem
def It(t:Bool)(h:Heap)(i a:Addr)(k:Nat):Prop:=if t=true then h.IsTupleIter i a k else h.IsListIter i a k
def Sq(t:Bool)(h:Heap)(a:Addr)(xs:Array Value):Prop:=if t=true then h.IsTuple a xs else h.IsList a xs
section
variable{t t2:Bool}{h h':Heap}{i j a b z O T:Addr}{k:Nat}{xs ys:Array Value}
theorem It.at(g:It t h i a k)(f:∀o,h.get? i=some o->h'.get? i=some o):It t h' i a k:=by
 cases t with
 |true=>exact(show h.IsTupleIter i a k from g).at f
 |false=>exact(show h.IsListIter i a k from g).at f
theorem It.ext{c:Addr}(g:It t h i a k)(f:Heap.ExtBut c h h')(n:i≠c):It t h' i a k:=g.at fun o e=>f i o n e
theorem Sq.at(g:Sq t h a xs)(f:∀o,h.get? a=some o->h'.get? a=some o):Sq t h' a xs:=by
 cases t with
 |true=>obtain⟨o,e,r⟩:=(show h.IsTuple a xs from g);exact(show h'.IsTuple a xs from⟨o,f o e,r⟩)
 |false=>obtain⟨o,e,r⟩:=(show h.IsList a xs from g);exact(show h'.IsList a xs from⟨o,f o e,r⟩)
theorem Sq.ext{c:Addr}(g:Sq t h a xs)(f:Heap.ExtBut c h h')(n:a≠c):Sq t h' a xs:=g.at fun o e=>f a o n e
theorem It.obj(g:It t h i a k):∃o,h.get? i=some o/\∀v,o.data≠.cell v:=by
 cases t with
 |true=>obtain⟨o,e,_,d⟩:=(show h.IsTupleIter i a k from g);exact⟨o,e,fun v n=>by rw[d] at n;cases n⟩
 |false=>obtain⟨o,e,_,d⟩:=(show h.IsListIter i a k from g);exact⟨o,e,fun v n=>by rw[d] at n;cases n⟩
end
section
variable{prog:Program}{w:World}{A:Around}{E:Value->Shared->Prop}{s:Shared}{t t2:Bool}{z T O i j a b:Addr}{k:Nat}{xs ys:Array Value}{x y u v:Value}
theorem draw{Q:Value->Shared->Prop}(gi:It t s.heap i a k)(ga:Sq t s.heap a xs)(hv:xs[k]?=some v)
  (q:∀h',It t h' i a (k+1)->Heap.SameBut i s.heap h'->Q v {s with heap:=h'}):wpAny (model prog w) A (Builtin.SmallTypes.nextOf (.ref i)) Q E s:=by
 cases t with
 |true=>exact Zp.Gy gi ga hv q
 |false=>exact wpAny_nextOf_list_item gi ga hv q
theorem DI{Q:Value->Shared->Prop}(hA:A.handled=none)(gi:It t s.heap i a k)(ga:Sq t s.heap a xs)(hv:xs[k]?=none)
  (q:∀h' e,Heap.ExtBut i s.heap h'->(∃o,h'.get? e=some o/\o.cls=.type "StopIteration")->E (.ref e) {s with heap:=h'}):wpAny (model prog w) A (Builtin.SmallTypes.nextOf (.ref i)) Q E s:=by
 cases t with
 |true=>exact Zp.Gw hA gi ga hv q
 |false=>exact wpAny_nextOf_list_end hA gi ga hv q
abbrev rf(h:Heap)(z T O:Addr)(f0 f1:Value):Prop:=
 h.get? z=some {cls:=.type "zip",dict:=none,data:=.fields #[f0,f1,.bool false,.ref T,.ref O],slots:= #[]}
theorem item(D:ZipApart z T O i j a b){Q:Value->Shared->Prop}(gz:rf s.heap z T O .none (.bool false))(gT:IsPair s.heap T (.ref i) (.ref j))(gO:IsPair s.heap O u v)(gi:It t s.heap i a k)(gj:It t2 s.heap j b k)
  (ga:Sq t s.heap a xs) (gb:Sq t2 s.heap b ys) (ex:xs[k]?=some x) (ey:ys[k]?=some y)
  (q:∀h',rf h' z T O (rawInt s.heap.objs.size) (.bool false)->IsPair h' O x y->It t h' i a (k+1)->It t2 h' j b (k+1)->IsPair h' s.heap.objs.size x y->Zp.Rest z O i j s.heap h'->Q (.ref s.heap.objs.size) {s with heap:=h'}):
  wpAny (model prog w) A (Builtin.«zip.__next__» ⟨[.ref z],[]⟩) (fun fin s'=>∃r,fin=.done (.ret r)/\Q r s') E s:=by
 refine(?_:wpAny _ _ (field (.ref z) 2 >>= _) _ _ _)
 refine wpAny_bind (wpAny_field gz rfl (x:=.bool false) rfl ?_)
 refine(?_:wpAny _ _ (field (.ref z) 3 >>= _) _ _ _)
 refine wpAny_bind (wpAny_field gz rfl (x:=.ref T) rfl (wpAny_bind (wpAny_seqItems gT rfl ?_)))
 refine(?_:wpAny _ _ (Builtin.SmallTypes.ownedTupleIsFree (.ref z) >>= _) _ _ _)
 refine wpAny_bind ?_
 unfold Builtin.SmallTypes.ownedTupleIsFree
 refine wpAny_bind (wpAny_field gz rfl (x:=.none) rfl (wpAny_pure ?_))
 simp only[if_true]
 refine wpAny_bind (wpAny_rule (wpAny_bind (wpAny_field gz rfl (x:=.ref O) rfl (wpAny_bind (wpAny_setField_rec gz (by simp) fun h1 z1 b1=> ?_)))))
 replace z1:rf h1 z T O .ellipsis (.bool false):=z1
 refine wpAny_bind ?_
 simp only[List.zipIdx_cons,List.zipIdx_nil,List.forIn_nil,List.forIn_cons]
 refine wpAny_bind (wpAny_bind (wpAny_onRaise ?_))
 refine(?_:wpAny _ _ (Builtin.SmallTypes.nextOf (.ref i) >>= _) _ _ _)
 refine wpAny_bind (draw (gi.ext b1.extBut D.i1z) (ga.ext b1.extBut D.l1z) ex fun h2 i2 b2=>wpAny_pure ?_)
 have O2:IsPair h2 O u v:=b2.extBut _ _ D.TOi1 (b1.extBut _ _ D.TOz gO)
 refine wpAny_bind (wpAny_seqItems O2 rfl (wpAny_bind (wpAny_updateSeq_pair O2 fun h3 O3 b3=>wpAny_bind (wpAny_letGo (wpAny_pure ?_)))))
 replace O3:IsPair h3 O x v:=O3
 refine wpAny_bind (wpAny_bind (wpAny_onRaise ?_))
 refine(?_:wpAny _ _ (Builtin.SmallTypes.nextOf (.ref j) >>= _) _ _ _)
 refine wpAny_bind (draw (((gj.ext b1.extBut D.i2z).ext b2.extBut D.i12.symm).ext b3.extBut D.TOi2.symm) (((gb.ext b1.extBut D.l2z).ext b2.extBut D.l2i1).ext b3.extBut D.l2TO) ey fun h4 j4 b4=>wpAny_pure ?_)
 have O4:IsPair h4 O x v:=b4.extBut _ _ D.TOi2 O3
 refine wpAny_bind (wpAny_seqItems O4 rfl (wpAny_bind (wpAny_updateSeq_pair O4 fun h5 O5 b5=>wpAny_bind (wpAny_letGo (wpAny_pure (wpAny_pure ?_))))))
 replace O5:IsPair h5 O x y:=O5
 refine wpAny_bind (wpAny_seqItems O5 rfl (wpAny_bind (wpAny_newTuple ?_)))
 have sz:h5.objs.size=s.heap.objs.size:=by rw[b5.1,b4.1,b3.1,b2.1,b1.1]
 have z5:rf h5 z T O .ellipsis (.bool false):=b5.extBut _ _ D.TOz.symm (b4.extBut _ _ D.i2z.symm (b3.extBut _ _ D.TOz.symm (b2.extBut _ _ D.i1z.symm z1)))
 have r5:Zp.Rest z O i j s.heap h5:=fun c o c1 c2 c3 c4 e=>b5.extBut _ _ c2 (b4.extBut _ _ c4 (b3.extBut _ _ c2 (b2.extBut _ _ c3 (b1.extBut _ _ c1 e))))
 have i5:It t h5 i a (k+1):=((i2.ext b3.extBut D.TOi1.symm).ext b4.extBut D.i12).ext b5.extBut D.TOi1.symm
 have j5:It t2 h5 j b (k+1):=j4.ext b5.extBut D.TOi2.symm
 have zl:z<h5.objs.size:=Heap.lt_size z5
 refine(?_:wpAny _ _ (Builtin.SmallTypes.ownedTupleHandOut (.ref z) (.ref h5.objs.size) >>= _) _ _ _)
 refine wpAny_bind ?_
 unfold Builtin.SmallTypes.ownedTupleHandOut
 have z6:rf (h5.push {cls:=.type "tuple",data:=.seq #[x,y]}) z T O .ellipsis (.bool false):=Heap.get?_push_of_some _ z5
 refine wpAny_bind (wpAny_setField_rec z6 (by simp) fun h7 z7 b7=> ?_)
 replace z7:rf h7 z T O (rawInt h5.objs.size) (.bool false):=z7
 refine wpAny_setField_rec z7 (by simp) fun h8 z8 b8=> ?_
 replace z8:rf h8 z T O (rawInt h5.objs.size) (.bool false):=z8
 have up:∀c o,c≠z->h5.get? c=some o->h8.get? c=some o:=fun c o c1 e=>b8.extBut _ _ c1 (b7.extBut _ _ c1 (Heap.get?_push_of_some _ e))
 have n8:IsPair h8 h5.objs.size x y:=b8.extBut _ _ (Nat.ne_of_gt zl) (b7.extBut _ _ (Nat.ne_of_gt zl) (Heap.get?_push_size _ rfl))
 rw[sz] at z8 n8
 refine wpAny_pure ⟨_,rfl,?_⟩
 refine(?_:Q (.ref h5.objs.size) _)
 rw[sz]
 exact q h8 z8 (up _ _ D.TOz O5) (i5.at fun o e=>up _ o D.i1z e) (j5.at fun o e=>up _ o D.i2z e) n8 fun c o c1 c2 c3 c4 e=>up c o c1 (r5 c o c1 c2 c3 c4 e)
theorem alive{α:Addr}{Q:Option Obj->Shared->Prop}(h:Q (s.heap.get? α) s):wpAny (model prog w) A (loadIfAlive α) Q E s:=fun _ _ _=>h
theorem again(D:ZipApart z T O i j a b){p:Addr}{op:Obj}{f1:Value}{Q:Value->Shared->Prop}(gz:rf s.heap z T O (rawInt p) f1)(gp:s.heap.get? p=some op)(gT:IsPair s.heap T (.ref i) (.ref j))(gi:It t s.heap i a k)(gj:It t2 s.heap j b k)
  (ga:Sq t s.heap a xs) (gb:Sq t2 s.heap b ys) (ex:xs[k]?=some x) (ey:ys[k]?=some y)
  (q:∀h',rf h' z T O (rawInt p) (.bool true)->It t h' i a (k+1)->It t2 h' j b (k+1)->IsPair h' s.heap.objs.size x y->Zp.Rest z O i j s.heap h'->Q (.ref s.heap.objs.size) {s with heap:=h'}):
  wpAny (model prog w) A (Builtin.«zip.__next__» ⟨[.ref z],[]⟩) (fun fin s'=>∃r,fin=.done (.ret r)/\Q r s') E s:=by
 refine(?_:wpAny _ _ (field (.ref z) 2 >>= _) _ _ _)
 refine wpAny_bind (wpAny_field gz rfl (x:=.bool false) rfl ?_)
 refine(?_:wpAny _ _ (field (.ref z) 3 >>= _) _ _ _)
 refine wpAny_bind (wpAny_field gz rfl (x:=.ref T) rfl (wpAny_bind (wpAny_seqItems gT rfl ?_)))
 refine(?_:wpAny _ _ (Builtin.SmallTypes.ownedTupleIsFree (.ref z) >>= _) _ _ _)
 refine wpAny_bind ?_
 unfold Builtin.SmallTypes.ownedTupleIsFree
 refine wpAny_bind (wpAny_field gz rfl (x:=rawInt p) rfl ?_)
 refine(?_:wpAny _ _ (loadIfAlive ((p:Int).toNat) >>= _) _ _ _)
 refine wpAny_bind ?_
 rw[Int.toNat_natCast]
 refine alive ?_
 rw[gp]
 refine(?_:wpAny _ _ (field (.ref z) 1 >>= _) _ _ _)
 refine wpAny_bind (wpAny_field gz rfl (x:=f1) rfl ?_)
 have st1:wpAny (model prog w) A (if (f1 !=Value.bool true)=true then(do let _←setField (.ref z) 1 (.bool true);pure false) else pure false)
   (fun r s'=>r=false/\∃h0,s'={s with heap:=h0}/\rf h0 z T O (rawInt p) (.bool true)/\Heap.SameBut z s.heap h0) E s:=by
  by_cases c:(f1 !=Value.bool true)=true
  ·rw[if_pos c]
   exact wpAny_bind (wpAny_setField_rec gz (by simp) fun h0 z0 b0=>wpAny_pure ⟨rfl,h0,rfl,z0,b0⟩)
  ·rw[if_neg c]
   have e:f1=Value.bool true:=by simpa using c
   subst e
   exact wpAny_pure ⟨rfl,s.heap,rfl,gz,Heap.SameBut.refl _ _⟩
 refine wpAny_mono st1 (fun r s' hs'=> ?_) fun _ _ h=>h
 obtain⟨rfl,h0,rfl,z0,b0⟩:=hs'
 simp only[Bool.false_eq_true,if_false]
 refine wpAny_bind ?_
 simp only[List.forIn_toArray,List.forIn_cons,List.forIn_nil]
 refine wpAny_bind (wpAny_bind (wpAny_holding ?_))
 refine(?_:wpAny _ _ (Builtin.SmallTypes.nextOf (.ref i) >>= _) _ _ _)
 refine wpAny_bind (draw (gi.ext b0.extBut D.i1z) (ga.ext b0.extBut D.l1z) ex fun h2 i2 b2=>wpAny_pure (wpAny_pure ?_))
 refine wpAny_bind (wpAny_bind (wpAny_holding ?_))
 refine(?_:wpAny _ _ (Builtin.SmallTypes.nextOf (.ref j) >>= _) _ _ _)
 refine wpAny_bind (draw ((gj.ext b0.extBut D.i2z).ext b2.extBut D.i12.symm) ((gb.ext b0.extBut D.l2z).ext b2.extBut D.l2i1) ey fun h4 j4 b4=>wpAny_pure (wpAny_pure (wpAny_pure ?_)))
 refine wpAny_bind (wpAny_newTuple ?_ (by show 2<=sizeLine;decide))
 have sz:h4.objs.size=s.heap.objs.size:=by rw[b4.1,b2.1,b0.1]
 have up:∀c o,h4.get? c=some o->(h4.push {cls:=.type "tuple",data:=.seq #[x,y]}).get? c=some o:=fun c o e=>Heap.get?_push_of_some _ e
 have n8:IsPair (h4.push {cls:=.type "tuple",data:=.seq #[x,y]}) h4.objs.size x y:=Heap.get?_push_size _ rfl
 have z8:rf (h4.push {cls:=.type "tuple",data:=.seq #[x,y]}) z T O (rawInt p) (.bool true):=up _ _ (b4.extBut _ _ D.i2z.symm (b2.extBut _ _ D.i1z.symm z0))
 refine wpAny_pure ⟨_,rfl,?_⟩
 refine(?_:Q (.ref h4.objs.size) _)
 rw[sz] at n8⊢
 exact q _ z8 ((i2.ext b4.extBut D.i12).at fun o e=>up _ o e) (j4.at fun o e=>up _ o e) n8 fun c o c1 c2 c3 c4 e=>up c o (b4.extBut _ _ c4 (b2.extBut _ _ c3 (b0.extBut _ _ c1 e)))
theorem stop(D:ZipApart z T O i j a b){Q:Fin->Shared->Prop}(hA:A.handled=none)(gz:rf s.heap z T O .none (.bool false))(gT:IsPair s.heap T (.ref i) (.ref j))(gi:It t s.heap i a k)(ga:Sq t s.heap a xs)(ex:xs[k]?=none)
  (q:∀h' e,Zp.Rest z O i j s.heap h'->(∃o,h'.get? e=some o/\o.cls=.type "StopIteration")->E (.ref e) {s with heap:=h'}):
  wpAny (model prog w) A (Builtin.«zip.__next__» ⟨[.ref z],[]⟩) Q E s:=by
 refine(?_:wpAny _ _ (field (.ref z) 2 >>= _) _ _ _)
 refine wpAny_bind (wpAny_field gz rfl (x:=.bool false) rfl ?_)
 refine(?_:wpAny _ _ (field (.ref z) 3 >>= _) _ _ _)
 refine wpAny_bind (wpAny_field gz rfl (x:=.ref T) rfl (wpAny_bind (wpAny_seqItems gT rfl ?_)))
 refine(?_:wpAny _ _ (Builtin.SmallTypes.ownedTupleIsFree (.ref z) >>= _) _ _ _)
 refine wpAny_bind ?_
 unfold Builtin.SmallTypes.ownedTupleIsFree
 refine wpAny_bind (wpAny_field gz rfl (x:=.none) rfl (wpAny_pure ?_))
 simp only[if_true]
 refine wpAny_bind (wpAny_rule (wpAny_bind (wpAny_field gz rfl (x:=.ref O) rfl (wpAny_bind (wpAny_setField_rec gz (by simp) fun h1 z1 b1=> ?_)))))
 replace z1:rf h1 z T O .ellipsis (.bool false):=z1
 refine wpAny_bind ?_
 simp only[List.zipIdx_cons,List.zipIdx_nil,List.forIn_nil,List.forIn_cons]
 refine wpAny_bind (wpAny_bind (wpAny_onRaise ?_))
 refine(?_:wpAny _ _ (Builtin.SmallTypes.nextOf (.ref i) >>= _) _ _ _)
 refine wpAny_bind (DI hA (gi.ext b1.extBut D.i1z) (ga.ext b1.extBut D.l1z) ex fun h2 e b2 qr=> ?_)
 obtain⟨oe,he,ce⟩:=qr
 have z2:rf h2 z T O .ellipsis (.bool false):=b2 _ _ D.i1z.symm z1
 have ne:e≠z:=fun n=>by rw[n,z2] at he;cases he;simp at ce
 exact wpAny_setField_rec z2 (by simp) fun h3 _ b3=>q h3 e (fun c o c1 _ c3 _ n=>b3.extBut _ _ c1 (b2 _ _ c3 (b1.extBut _ _ c1 n))) ⟨oe,b3.extBut _ _ ne he,ce⟩
theorem FH(D:ZipApart z T O i j a b){p:Addr}{op:Obj}{f1:Value}{Q:Fin->Shared->Prop}(hA:A.handled=none)(gz:rf s.heap z T O (rawInt p) f1)(gp:s.heap.get? p=some op)(gT:IsPair s.heap T (.ref i) (.ref j))(gi:It t s.heap i a k)(ga:Sq t s.heap a xs)(ex:xs[k]?=none)
  (q:∀h' e,Zp.Rest z O i j s.heap h'->(∃o,h'.get? e=some o/\o.cls=.type "StopIteration")->E (.ref e) {s with heap:=h'}):
  wpAny (model prog w) A (Builtin.«zip.__next__» ⟨[.ref z],[]⟩) Q E s:=by
 refine(?_:wpAny _ _ (field (.ref z) 2 >>= _) _ _ _)
 refine wpAny_bind (wpAny_field gz rfl (x:=.bool false) rfl ?_)
 refine(?_:wpAny _ _ (field (.ref z) 3 >>= _) _ _ _)
 refine wpAny_bind (wpAny_field gz rfl (x:=.ref T) rfl (wpAny_bind (wpAny_seqItems gT rfl ?_)))
 refine(?_:wpAny _ _ (Builtin.SmallTypes.ownedTupleIsFree (.ref z) >>= _) _ _ _)
 refine wpAny_bind ?_
 unfold Builtin.SmallTypes.ownedTupleIsFree
 refine wpAny_bind (wpAny_field gz rfl (x:=rawInt p) rfl ?_)
 refine(?_:wpAny _ _ (loadIfAlive ((p:Int).toNat) >>= _) _ _ _)
 refine wpAny_bind ?_
 rw[Int.toNat_natCast]
 refine alive ?_
 rw[gp]
 refine(?_:wpAny _ _ (field (.ref z) 1 >>= _) _ _ _)
 refine wpAny_bind (wpAny_field gz rfl (x:=f1) rfl ?_)
 have st1:wpAny (model prog w) A (if (f1 !=Value.bool true)=true then(do let _←setField (.ref z) 1 (.bool true);pure false) else pure false)
   (fun r s'=>r=false/\∃h0,s'={s with heap:=h0}/\rf h0 z T O (rawInt p) (.bool true)/\Heap.SameBut z s.heap h0) E s:=by
  by_cases c:(f1 !=Value.bool true)=true
  ·rw[if_pos c]
   exact wpAny_bind (wpAny_setField_rec gz (by simp) fun h0 z0 b0=>wpAny_pure ⟨rfl,h0,rfl,z0,b0⟩)
  ·rw[if_neg c]
   have e:f1=Value.bool true:=by simpa using c
   subst e
   exact wpAny_pure ⟨rfl,s.heap,rfl,gz,Heap.SameBut.refl _ _⟩
 refine wpAny_mono st1 (fun r s' hs'=> ?_) fun _ _ h=>h
 obtain⟨rfl,h0,rfl,z0,b0⟩:=hs'
 simp only[Bool.false_eq_true,if_false]
 refine wpAny_bind ?_
 simp only[List.forIn_toArray,List.forIn_cons,List.forIn_nil]
 refine wpAny_bind (wpAny_bind (wpAny_holding ?_))
 refine(?_:wpAny _ _ (Builtin.SmallTypes.nextOf (.ref i) >>= _) _ _ _)
 refine wpAny_bind (DI hA (gi.ext b0.extBut D.i1z) (ga.ext b0.extBut D.l1z) ex fun h2 e b2 he=> ?_)
 exact q h2 e (fun c o c1 _ c3 _ n=>b2 _ _ c3 (b0.extBut _ _ c1 n)) he
def Zs(h:Heap)(z T O i j:Addr):Prop:=rf h z T O .none (.bool false)/\(∃u v,IsPair h O u v)\/∃(p:Addr) (op:Obj) (f1:Value),rf h z T O (rawInt (p:Nat)) f1/\h.get? p=some op/\p≠z/\p≠O/\p≠i/\p≠j
theorem Zs.but{h h':Heap}{S:Addr}(g:Zs h z T O i j)(f:∀c o,c≠S->h.get? c=some o->h'.get? c=some o)(n1:z≠S)(n2:O≠S)(hS:∃o,h'.get? S=some o):Zs h' z T O i j:=by
 rcases g with⟨gz,u,v,gO⟩|⟨p,op,f1,gz,gp,n⟩
 ·exact .inl ⟨f _ _ n1 gz,u,v,f _ _ n2 gO⟩
 ·by_cases c:p=S
  ·subst c
   obtain⟨o,ho⟩:=hS
   exact .inr ⟨p,o,f1,f _ _ n1 gz,ho,n⟩
  ·exact .inr ⟨p,op,f1,f _ _ n1 gz,f _ _ c gp,n⟩
theorem Bx(D:ZipApart z T O i j a b){Q:Option Value->Shared->Prop}(gz:Zs s.heap z T O i j)(gT:IsPair s.heap T (.ref i) (.ref j))(gi:It t s.heap i a k)(gj:It t2 s.heap j b k)
  (ga:Sq t s.heap a xs) (gb:Sq t2 s.heap b ys) (ex:xs[k]?=some x) (ey:ys[k]?=some y)
  (q:∀h',Zs h' z T O i j->It t h' i a (k+1)->It t2 h' j b (k+1)->IsPair h' s.heap.objs.size x y->Zp.Rest z O i j s.heap h'->Q (some (.ref s.heap.objs.size)) {s with heap:=h'}):
  wpAny (model prog w) A (pyNext (.ref z)) Q E s:=by
 unfold pyNext
 have lt:∀{c o},s.heap.get? c=some o->s.heap.objs.size≠c:=fun e=>Nat.ne_of_gt (Heap.lt_size e)
 obtain⟨oi,ei,_⟩:=gi.obj
 obtain⟨oj,ej,_⟩:=gj.obj
 rcases gz with⟨gz,u,v,gO⟩|⟨p,op,f1,gz,gp,p1,p2,p3,p4⟩
 ·have ty:s.TypeIs (.ref z) "zip":=⟨_,gz,rfl⟩
  exact wpAny_bind (wpAny_attempt (wpAny_callSpecial?_slot (name:=Str.ofString "__next__") ty F.slot_zip_next (wpAny_call_entry F.slot_zip_next ty F.entry_zip_next
   (item D gz gT gO gi gj ga gb ex ey fun h' a1 a2 a3 a4 a5 a6=>wpAny_pure (q h' (.inr ⟨_,_,_,a1,a5,lt gz,lt gO,lt ei,lt ej⟩) a3 a4 a5 a6)) (F.args_zip_next_1 _))))
 ·have ty:s.TypeIs (.ref z) "zip":=⟨_,gz,rfl⟩
  exact wpAny_bind (wpAny_attempt (wpAny_callSpecial?_slot (name:=Str.ofString "__next__") ty F.slot_zip_next (wpAny_call_entry F.slot_zip_next ty F.entry_zip_next
   (again D gz gp gT gi gj ga gb ex ey fun h' a1 a3 a4 a5 a6=>wpAny_pure (q h' (.inr ⟨p,op,_,a1,a6 _ _ p1 p2 p3 p4 gp,p1,p2,p3,p4⟩) a3 a4 a5 a6)) (F.args_zip_next_1 _))))
theorem vZ(D:ZipApart z T O i j a b){Q:Option Value->Shared->Prop}(hA:A.handled=none)(gz:Zs s.heap z T O i j)(gT:IsPair s.heap T (.ref i) (.ref j))(gi:It t s.heap i a k)(ga:Sq t s.heap a xs)(ex:xs[k]?=none)
  (q:∀h',Zp.Rest z O i j s.heap h'->Q none {s with heap:=h'}):wpAny (model prog w) A (pyNext (.ref z)) Q E s:=by
 unfold pyNext
 rcases gz with⟨gz,u,v,gO⟩|⟨p,op,f1,gz,gp,_⟩
 ·have ty:s.TypeIs (.ref z) "zip":=⟨_,gz,rfl⟩
  exact wpAny_bind (wpAny_attempt (wpAny_callSpecial?_slot (name:=Str.ofString "__next__") ty F.slot_zip_next (wpAny_call_entry F.slot_zip_next ty F.entry_zip_next
   (stop D hA gz gT gi ga ex fun h' e r ⟨o,ho,hc⟩=>wpAny_bind (wpAny_isInstance (T:="StopIteration") (b:=true) ⟨o,ho,hc⟩ isSubtype_stop (wpAny_pure (q _ r)))) (F.args_zip_next_1 _))))
 ·have ty:s.TypeIs (.ref z) "zip":=⟨_,gz,rfl⟩
  exact wpAny_bind (wpAny_attempt (wpAny_callSpecial?_slot (name:=Str.ofString "__next__") ty F.slot_zip_next (wpAny_call_entry F.slot_zip_next ty F.entry_zip_next
   (FH D hA gz gp gT gi ga ex fun h' e r ⟨o,ho,hc⟩=>wpAny_bind (wpAny_isInstance (T:="StopIteration") (b:=true) ⟨o,ho,hc⟩ isSubtype_stop (wpAny_pure (q _ r)))) (F.args_zip_next_1 _))))
end
def Hh(t:Bool):String:=if t=true then "tuple_iterator" else "list_iterator"
abbrev H1(t:Bool)(h:Heap)(a:Addr):Heap:=h.push {cls:=.type (Hh t),data:=.fields #[.ref a,.int 0 0]}
abbrev H2(t t2:Bool)(h:Heap)(a b:Addr):Heap:=(H1 t h a).push {cls:=.type (Hh t2),data:=.fields #[.ref b,.int 0 0]}
abbrev H3(t t2:Bool)(h:Heap)(a b:Addr):Heap:=(H2 t t2 h a b).push {cls:=.type "tuple",data:=.seq #[.ref h.objs.size,.ref (H1 t h a).objs.size]}
abbrev H4(t t2:Bool)(h:Heap)(a b:Addr):Heap:=(H3 t t2 h a b).push {cls:=.type "tuple",data:=.seq #[.none,.none]}
abbrev H5(t t2:Bool)(h:Heap)(a b:Addr):Heap:=(H4 t t2 h a b).push {cls:=.type "zip",data:=.fields #[.none,.bool false,.bool false,.ref (H2 t t2 h a b).objs.size,.ref (H3 t t2 h a b).objs.size]}
theorem Sq.push{t:Bool}{h:Heap}{a:Addr}{xs:Array Value}(g:Sq t h a xs)(o:Obj):Sq t (h.push o) a xs:=g.at fun _ e=>Heap.get?_push_of_some _ e
theorem zi(t t2:Bool)(a b:Addr)(xs ys:Array Value):Meets (Builtin.«zip.__new__» ⟨[.type "zip",.ref a,.ref b],[]⟩) (fun _ R s=>Sq t s.heap a xs/\Sq t2 s.heap b ys/\R (.ok (.ret (.ref (H4 t t2 s.heap a b).objs.size))) {s with heap:=H5 t t2 s.heap a b}):=
 .of_wp fun prog w A R s h=>by
  obtain⟨hp,g,d,tk,os⟩:=s
  obtain⟨ga,gb,h⟩:=h
  have sub:=sub_zip
  have gb':=gb.push {cls:=.type (Hh t),data:=.fields #[.ref a,.int 0 0]}
  cases t <;>cases t2
  ·have la:Heap.IsList (Shared.heap ⟨hp,g,d,tk,os⟩) a xs:=ga
   have lb:Heap.IsList (Shared.heap ⟨hp.push {cls:=.type "list_iterator",data:=.fields #[.ref a,.int 0 0]},g,d,tk,os⟩) b ys:=gb'
   wp_walk using wpAny_pyIter_list la,wpAny_pyIter_list lb
   exact⟨_,rfl,h⟩
  ·have la:Heap.IsList (Shared.heap ⟨hp,g,d,tk,os⟩) a xs:=ga
   have lb:Heap.IsTuple (Shared.heap ⟨hp.push {cls:=.type "list_iterator",data:=.fields #[.ref a,.int 0 0]},g,d,tk,os⟩) b ys:=gb'
   wp_walk using wpAny_pyIter_list la,wpAny_pyIter_tuple lb
   exact⟨_,rfl,h⟩
  ·have la:Heap.IsTuple (Shared.heap ⟨hp,g,d,tk,os⟩) a xs:=ga
   have lb:Heap.IsList (Shared.heap ⟨hp.push {cls:=.type "tuple_iterator",data:=.fields #[.ref a,.int 0 0]},g,d,tk,os⟩) b ys:=gb'
   wp_walk using wpAny_pyIter_tuple la,wpAny_pyIter_list lb
   exact⟨_,rfl,h⟩
  ·have la:Heap.IsTuple (Shared.heap ⟨hp,g,d,tk,os⟩) a xs:=ga
   have lb:Heap.IsTuple (Shared.heap ⟨hp.push {cls:=.type "tuple_iterator",data:=.fields #[.ref a,.int 0 0]},g,d,tk,os⟩) b ys:=gb'
   wp_walk using wpAny_pyIter_tuple la,wpAny_pyIter_tuple lb
   exact⟨_,rfl,h⟩
section
variable{prog:Program}{w:World}{A:Around}{E:Value->Shared->Prop}{s:Shared}
theorem DQ{t t2:Bool}{a b:Addr}{xs ys:Array Value}{Q:Value->Shared->Prop}(ga:Sq t s.heap a xs)(gb:Sq t2 s.heap b ys)
  (q:∀h',rf h' (s.heap.objs.size+4) (s.heap.objs.size+2) (s.heap.objs.size+3) .none (.bool false)->IsPair h' (s.heap.objs.size+2) (.ref s.heap.objs.size) (.ref (s.heap.objs.size+1))->IsPair h' (s.heap.objs.size+3) .none .none→
   It t h' s.heap.objs.size a 0->It t2 h' (s.heap.objs.size+1) b 0->(∀c o,s.heap.get? c=some o->h'.get? c=some o)->Q (.ref (s.heap.objs.size+4)) {s with heap:=h'}):
  wpAny (model prog w) A (call (.type "zip") [.ref a,.ref b]) Q E s:=by
 refine callType_new F.called_zip (by decide) (F.typeCall_zip_2 _ _) (F.newCall_zip_2 _ _) (fun obj=>F.args_object_init_3 obj _ _) F.entry_zip_new (zi t t2 a b xs ys) ⟨ga,gb,?_⟩
 have e1:(H1 t s.heap a).objs.size=s.heap.objs.size+1:=Heap.size_push ..
 have e2:(H2 t t2 s.heap a b).objs.size=s.heap.objs.size+2:=by rw[Heap.size_push,e1]
 have e3:(H3 t t2 s.heap a b).objs.size=s.heap.objs.size+3:=by rw[Heap.size_push,e2]
 have e4:(H4 t t2 s.heap a b).objs.size=s.heap.objs.size+4:=by rw[Heap.size_push,e3]
 have k5:(H5 t t2 s.heap a b).get? (H4 t t2 s.heap a b).objs.size=some _:=Heap.get?_push_size _ rfl
 have k4:(H5 t t2 s.heap a b).get? (H3 t t2 s.heap a b).objs.size=some _:=Heap.get?_push_of_some _ (Heap.get?_push_size _ rfl)
 have k3:(H5 t t2 s.heap a b).get? (H2 t t2 s.heap a b).objs.size=some _:=Heap.get?_push_of_some _ (Heap.get?_push_of_some _ (Heap.get?_push_size _ rfl))
 have k2:(H5 t t2 s.heap a b).get? (H1 t s.heap a).objs.size=some _:=Heap.get?_push_of_some _ (Heap.get?_push_of_some _ (Heap.get?_push_of_some _ (Heap.get?_push_size _ rfl)))
 have k1:(H5 t t2 s.heap a b).get? s.heap.objs.size=some _:=Heap.get?_push_of_some _ (Heap.get?_push_of_some _ (Heap.get?_push_of_some _ (Heap.get?_push_of_some _ (Heap.get?_push_size _ rfl))))
 refine(?_:_/\_)
 rw[e2,e3,e4] at k5
 rw[e1,e2] at k3
 rw[e3] at k4
 rw[e1] at k2
 rw[e4]
 refine⟨⟨_,k5,rfl⟩,q _ k5 k3 k4 ?_ ?_ fun c o n=>Heap.get?_push_of_some _ (Heap.get?_push_of_some _ (Heap.get?_push_of_some _ (Heap.get?_push_of_some _ (Heap.get?_push_of_some _ n))))⟩
 ·cases t <;>exact⟨_,k1,rfl,rfl⟩
 ·cases t2 <;>exact⟨_,k2,rfl,rfl⟩
end
theorem mL:typeLookup (.type "zip") "__getattr__"=pure none:=by rw[typeLookup_type,builtinLookup_eq_fast];kernel_rfl
theorem iU:entryFor table "zip.__getattribute__"=some Builtin.«object.__getattribute__»:=
 entryFor_alias (id':="object.__getattribute__") (by kernel_rfl) (by decide +kernel) (by decide +kernel) (by kernel_rfl)
theorem oF:typeLookup (Value.type "zip") (Str.ofString "keys")=pure none:=by
 rw[typeLookup_type,builtinLookup_eq_fast]
 rfl
theorem pZ(a:Addr)(fs:Array Value)(name:Str)(u:Tok)(hmiss:typeLookup (.type "zip") name=pure none)(hname:(["__module__","__name__","__qualname__","__doc__","__annotations__"]:List Str).contains name=false)(hsz:name.length+100<=sizeLine:=by size_fits):
  Meets (Builtin.«object.__getattribute__» ⟨[.ref a,.str name u],[]⟩) (fun A R s=>s.heap.get? a=some {cls:=.type "zip",dict:=none,data:=.fields fs,slots:= #[]}/\raisesAttr (.ref a) name A R s):=
 Meets.of_wp fun prog w A R s hs=>by
  obtain⟨hp,g,d,tk,os⟩:=s
  obtain⟨hx,hs⟩:=hs
  have hT:(⟨hp,g,d,tk,os⟩:Shared).TypeIs (.ref a) "zip":=⟨_,hx,rfl⟩
  unfold Builtin.«object.__getattribute__»
  repeat (any_goals (first|assumption|wp_step))
  simp only[hname,Bool.false_eq_true,if_false]
  repeat (any_goals (first|assumption|wp_step))
  exact wpAny_raiseAttrError hs.1 hs.2 (attrMsg_fits (by decide +kernel) hsz)
theorem zL{prog:Program}{w:World}{A:Around}{E:Value->Shared->Prop}{s:Shared}{a:Addr}{fs:Array Value}{Q:Option Value->Shared->Prop}
  (hx:s.heap.get? a=some {cls:=.type "zip",dict:=none,data:=.fields fs,slots:= #[]}) (hA:A.handled=none)
  (h:∀(h':Heap) (tk:Nat),(∀b o,s.heap.get? b=some o->h'.get? b=some o)->Q none {s with heap:=h',toks:=tk}):
  wpAny (model prog w) A (getAttr? (.ref a) (Str.ofString "keys")) Q E s:=by
 obtain⟨hp,g,d,tk,os⟩:=s
 have hT:∀x,Shared.TypeIs ⟨hp,g,d,x,os⟩ (.ref a) "zip":=fun x=>⟨_,hx,rfl⟩
 have f1:=sub_AttributeError
 have f3:=F.slot_zip_getattribute.lookup
 have f4:=F.slot_zip_getattribute.bind (Value.ref a)
 have f5:=mL
 unfold getAttr? mkText getAttrBy? getAttrBy
 refine wpAny_bind (wpAny_bind (wpAny_fresh' (wpAny_pure (wpAny_bind (wpAny_attempt (wpAny_holding ?_))))))
 unfold typeOf
 refine wpAny_bind (wpAny_bind (wpAny_loadPart' hx (wpAny_pure (wpAny_bind (wpAny_of_eq f3 (wpAny_ite_false rfl ?_))))))
 unfold getAttrByItsOwn hookBefore
 refine wpAny_bind (wpAny_ite_false rfl (wpAny_pure (wpAny_bind (wpAny_attempt (wpAny_holding ?_)))))
 unfold callGetattribute
 refine wpAny_ite_false rfl ?_
 unfold boundAndCalled
 refine wpAny_bind (wpAny_of_eq f4 ?_)
 refine call_meets F.slot_zip_getattribute (hT (tk+1)) iU (F.args_zip_getattribute_2 (Value.ref a) _) (pZ a fs (Str.ofString "keys") tk oF (by decide +kernel) (by decide +kernel)) ⟨hx,hA,fun h' tk' e hx'=> ?_⟩
 obtain⟨t',u',he⟩:=hx'.there
 have hE:Shared.TypeIs ⟨h',g,d,tk',os⟩ (.ref e) "AttributeError":=⟨_,he,rfl⟩
 show wpAny _ _ (getattributeRaised _ _ _ _ _ _ _) _ _ _
 unfold getattributeRaised
 refine wpAny_bind (wpAny_isInstance hE f1 (wpAny_ite_true rfl ?_))
 unfold hookBehind hookOrError
 refine wpAny_bind (wpAny_ite_false rfl (wpAny_of_eq f5 ?_))
 show wpAny _ _ (attributeErrorLeaves _ _ _ _ _) _ _ _
 unfold attributeErrorLeaves
 refine wpAny_ite_true rfl (wpAny_throw ?_)
 exact wpAny_bind (wpAny_isInstance hE f1 (wpAny_ite_true rfl (wpAny_pure (h h' tk' hx'.keeps))))
theorem rB{prog:Program}{w:World}{A:Around}{E:Value->Shared->Prop}{s:Shared}{z:Addr}{fs:Array Value}{Q:Value->Shared->Prop}
  (hx:s.heap.get? z=some {cls:=.type "zip",dict:=none,data:=.fields fs,slots:= #[]}) (hA:A.handled=none)
  (h:∀(h':Heap) (tk:Nat),(∀b o,(s.heap.push {cls:=.type "dict",data:=.dict #[]}).get? b=some o->h'.get? b=some o)→
   wpAny (model prog w) A.in1.in1 (pyIter (.ref z)) (fun it s'=>codeAny (model prog w) A.in1 (.builtin "dict.update.loop" {pos:= [.ref s.heap.objs.size,it,rawInt 0,.none]}) (wants (fun r s₂=>r=.none/\Q (.ref s.heap.objs.size) s₂) E) s') E {s with heap:=h',toks:=tk}):
  wpAny (model prog w) A (call (.type "dict") [.ref z]) Q E s:=by
 refine Dk.wa ?_
 have hS:=Heap.get?_push_size s.heap (o:={cls:=.type "dict",data:=.dict #[]}) rfl
 have hT:Shared.TypeIs {s with heap:=s.heap.push {cls:=.type "dict",data:=.dict #[]}} (.ref s.heap.objs.size) "dict":=⟨_,hS,rfl⟩
 have hx1:=Heap.get?_push_of_some {cls:=.type "dict",data:=.dict #[]} hx
 have hL:Shared.TypeIs {s with heap:=s.heap.push {cls:=.type "dict",data:=.dict #[]}} (.ref z) "zip":=⟨_,hx1,rfl⟩
 unfold Builtin.«dict.__init__» Builtin.Dict.selfAndRest
 refine wpAny_bind (wpAny_bind (wpAny_notOrdered_dict hT ?_))
 refine wpAny_bind (wpAny_pure (wpAny_pure ?_))
 show wpAny _ _ (Builtin.Dict.updateFrom _ _ _ _ _) _ _ _
 unfold Builtin.Dict.updateFrom
 refine wpAny_bind (wpAny_typeOf hL (wpAny_ite_true (by decide +kernel) (wpAny_bind (zL hx1 (by simpa using hA) fun h' tk hk=> ?_))))
 refine wpAny_ite_true rfl ?_
 refine wpAny_bind (wpAny_rule (wpAny_bind (wpAny_mono (h h' tk hk) (fun it s' q=> ?_) fun e s' q=>q)))
 exact wpAny_pure ⟨plainId_quiet (by decide +kernel) _,q⟩
end Zq
namespace Zq
open PySem Dk
section
variable{prog:Program}{w:World}{K:Type}[DecidableEq K]{knd:KeyKind prog w K}{z T O i j a b S:Addr}{t t2:Bool}{xs ys:Array Value}
theorem xR{A:Around}{R:Result->Shared->Prop}(hA:A.in1.handled=none)(D:ZipApart z T O i j a b)(nS:S≠z/\S≠T/\S≠O/\S≠i/\S≠j/\S≠a/\S≠b)(nab:a≠T/\b≠T)(kk:Nat->K)(hkey:∀(n:Nat) v,xs[n]?=some v->knd.is (kk n) v=true)(hxy:xs.size<=ys.size)(hn:xs.size<=sizeLine):
  ∀ (m n:Nat) (c:Int) (s:Shared),xs.size-n=m->n<=xs.size->Zs s.heap z T O i j->IsPair s.heap T (.ref i) (.ref j)->It t s.heap i a n->It t2 s.heap j b n->Sq t s.heap a xs->Sq t2 s.heap b ys->Heap.DictOf knd s.heap S (D8 kk (fun n=>ys.getD n .none) n)→
    (∀h' tk,Heap.DictOf knd h' S (D8 kk (fun n=>ys.getD n .none) xs.size)->(∀c o,c≠z->c≠O->c≠i->c≠j->c≠S->s.heap.get? c=some o->h'.get? c=some o)->R (.ok (.ret .none)) {s with heap:=h',toks:=tk})→
    codeAny (model prog w) A (.builtin "dict.update.loop" {pos:= [.ref S,.ref z,rawInt c,.none]}) R s:=by
 obtain⟨n1,n2,n3,n4,n5,n6,n7⟩:=nS
 intro m
 induction m with
 | zero=>
   intro n c s hm hle gz gT gi gj ga gb hd h
   have e:n=xs.size:=by omega
   subst e
   refine codeAny_builtin jc ?_
   rw[Around.under_plainId fM]
   show wpAny _ _ (do let __x←pyNext (.ref z);_) _ _ _
   refine wpAny_bind (vZ D hA gz gT gi ga (by simp) fun h' r=> ?_)
   refine wpAny_bind (wpAny_pure (wpAny_pure (h h' s.toks ?_ fun c o c1 c2 c3 c4 _ e=>r c o c1 c2 c3 c4 e)))
   obtain⟨o,es,ep,h1,h2⟩:=hd
   exact⟨o,es,ep,r _ _ n1 n3 n4 n5 h1,h2⟩
 | succ m ih=>
   intro n c s hm hle gz gT gi gj ga gb hd h
   have hlt:n<xs.size:=by omega
   have ex:xs[n]?=some xs[n]:=by simp[hlt]
   have ey:ys[n]?=some ys[n]:=by simp[show n<ys.size by omega]
   refine codeAny_builtin jc ?_
   rw[Around.under_plainId fM]
   show wpAny _ _ (do let __x←pyNext (.ref z);_) _ _ _
   refine wpAny_bind (Bx D gz gT gi gj ga gb ex ey fun hp gz' gi' gj' gp r=> ?_)
   have hd':Heap.DictOf knd hp S (D8 kk (fun n=>ys.getD n .none) n):=by
     obtain⟨o,es,ep,h1,h2⟩:=hd
     exact⟨o,es,ep,r _ _ n1 n3 n4 n5 h1,h2⟩
   refine wpAny_bind (wpAny_holding (wpAny_bind (wpAny_tryCatch ?_)))
   unfold Builtin.Dict.pairItems
   refine wpAny_bind (wpAny_typeOf (T:="tuple") ⟨_,gp,rfl⟩ (wpAny_ite_true rfl (wpAny_bind ?_)))
   unfold seqItems?
   refine wpAny_bind (wpAny_load' gp (wpAny_pure (wpAny_pure (wpAny_holding (wpAny_dictSet_pairs (hkey n _ ex) hd' (fun h' hd2 hs=> ?_) (Nat.le_trans (yz kk _ n) (by omega)))))))
   have ev:ys.getD n .none=ys[n]:=by simp[Array.getD,show n<ys.size by omega]
   have up:∀c o,c≠S->hp.get? c=some o->h'.get? c=some o:=fun c o hc e=>by rw[hs.2 c hc];exact e
   have old:∀c o,c≠z->c≠O->c≠i->c≠j->c≠S->s.heap.get? c=some o->h'.get? c=some o:=fun c o c1 c2 c3 c4 c5 e=>up c o c5 (r c o c1 c2 c3 c4 e)
   have hS':∃o,h'.get? S=some o:=by obtain⟨o,_,_,e,_⟩:=hd2;exact⟨o,e⟩
   have hd3:Heap.DictOf knd h' S (D8 kk (fun n=>ys.getD n .none) (n+1)):=by
     show Heap.DictOf knd h' S (stored _ (kk n) (ys.getD n .none))
     rw[ev]
     exact hd2
   refine wpAny_pure ⟨plainId_quiet fM _,ih (n+1) (c+1) _ (by omega) hlt (gz'.but up n1.symm n3.symm hS') ?_ (gi'.at fun o e=>up _ o n4.symm e) (gj'.at fun o e=>up _ o n5.symm e) ?_ ?_ hd3 fun h'' tk hd4 k4=>h h'' tk hd4 fun c o c1 c2 c3 c4 c5 e=>k4 c o c1 c2 c3 c4 c5 (old c o c1 c2 c3 c4 c5 e)⟩
   · exact old _ _ D.TIz D.TITO D.TIi1 D.TIi2 n2.symm gT
   · exact ga.at fun o e=>old _ o D.l1z D.l1TO D.l1i1 D.l1i2 n6.symm e
   · exact gb.at fun o e=>old _ o D.l2z D.l2TO D.l2i1 D.l2i2 n7.symm e
end
end Zq
namespace L2
open PySem PySem.Spec PyProof.Rows Zq
section
variable{X:Cx}
def zr(K:PySem.W.Frag)(t:Bool)(H:Hp)(a:Addr)(xs:List V):Prop:=if t=true then gL K H a xs else hG K H a xs
theorem Inv.sq{pins:List (Addr×Obj)}{σ:St}{H:Hp}{s:Shared}{t:Bool}{a:Addr}{xs:List V}(I:Inv X pins σ H s)(h:zr X.K t H a xs):∃its:List Value,bx xs its/\Sq t s.heap a its.toArray/\xs.length<=sizeLine:=by
 cases t with
 | true=>
   obtain⟨its,r,p,z⟩:=I.tuple h
   exact⟨its,r,(show s.heap.IsTuple a its.toArray from p),z⟩
 | false=>
   obtain⟨its,r,p,z⟩:=I.list h
   exact⟨its,r,(show s.heap.IsList a its.toArray from p.isList),z⟩
theorem Sq.lt{t:Bool}{h:Heap}{a:Addr}{xs:Array Value}(g:Sq t h a xs):a<h.objs.size:=by
 cases t with
 |true=>obtain⟨o,e,_⟩:=(show h.IsTuple a xs from g);exact Heap.lt_size e
 |false=>obtain⟨o,e,_⟩:=(show h.IsList a xs from g);exact Heap.lt_size e
def E5(K:PySem.W.Frag):List V->Hp->VK->Prop:=fun vs H Q=>∃(t t2:Bool) (a b:Addr) (ks:List Key) (ys:List V),vs= [.ref a,.ref b]/\zr K t H a (ks.map kV)/\zr K t2 H b ys/\ks.length=ys.length/\∀p,H p=none->Q (.ref p) (upd H p (.dK (iK [] (ks.zip ys))))
theorem w9{x y:Expr}{ta:TA}{p1 p2 c1 c2:Pos}(hc:X.calm=true)(hgD:Gl X "dict")(hmD:X.mg "dict"=none)(hg:Gl X "zip")(hm:X.mg "zip"=none)(ha:PA X [x,y] ta)(hs:starEach [x,y] X.env= [(false,eval x X.env),(false,eval y X.env)]:=by rfl)(hs2:starEach [y] X.env= [(false,eval y X.env)]:=by rfl)
  (he:starEach [Expr.Call (.Name "zip" p2) [x,y] [] c2] X.env= [(false,eval (Expr.Call (.Name "zip" p2) [x,y] [] c2) X.env)]:=by rfl):
  PE X (.Call (.Name "dict" p1) [.Call (.Name "zip" p2) [x,y] [] c2] [] c1) (GY (E5 X.K) ta):=by
 intro pins s σ H Q I h
 refine wpAny_Call_Name_kw (kZ I hgD hmD (by rfl) ?_)
 refine PyProof.Rows.callWith_type1 ?_ he rfl
 rw[he]
 show wpAny _ _ (spliced ((false,eval (Expr.Call (.Name "zip" p2) [x,y] [] c2) X.env)::backTo c1 (starEach [] X.env))) _ _ s
 refine Calls.spliced_cons ?_
 refine wpAny_Call_Name_kw (kZ I hg hm (by rfl) ?_)
 refine PyProof.Rows.callWith_type1 (cG (ha c2 pins s σ H _ I h) fun us s1 ⟨vs,H1,I1,r1,q1⟩=> ?_) (by rw[hs,hs2]) (by rw[hs2];rfl)
 obtain⟨t,t2,a,b,ks,ys,e,qa,qb,hl,q⟩:=q1
 subst e
 cases r1 with
 | cons r rr=>
   cases rr with
   | cons r' rr=>
     cases rr
     cases r
     cases r'
     obtain⟨its,ra,pa,za⟩:=I1.sq qa
     obtain⟨jts,rb,pb,zb⟩:=I1.sq qb
     have lx:=Sq.lt pa
     have ly:=Sq.lt pb
     have la:=ra.length
     have lb:=rb.length
     rw[lQm] at la
     refine Zq.DQ pa pb fun h1 gz gT gO gi gj k1=>Calls.spliced_nil ?_
     have I2:Inv X pins σ H1 {s1 with heap:=h1}:=I1.kept (t':=s1.toks) k1
     refine Zq.rB gz (I1.ok.hd hc) fun h2 tk k2=> ?_
     have up:∀c o,h1.get? c=some o->h2.get? c=some o:=fun c o e=>k2 c o (Heap.get?_push_of_some _ e)
     have hS0:h2.get? h1.objs.size=some {cls:=.type "dict",data:=.dict #[]}:=k2 _ _ (Heap.get?_push_size h1 rfl)
     refine wpAny_pyIter_zip (up _ _ gz) ?_
     have DD:=PyProof.Rows.zipApart_new lx ly
     have hz1:s1.heap.objs.size+4<h1.objs.size:=Heap.lt_size gz
     have kvD:∀(n:Nat) k,ks[n]?=some k->ks.getD n (.inl 0)=k:=fun n k e=>by rw[List.getD_eq_getElem?_getD,e];rfl
     have off:∀c,c<s1.heap.objs.size->c≠s1.heap.objs.size+4/\c≠s1.heap.objs.size+3/\c≠s1.heap.objs.size/\c≠s1.heap.objs.size+1/\c≠h1.objs.size:=fun c hc=>
       ⟨Nat.ne_of_lt (Nat.lt_of_lt_of_le hc (Nat.le_add_right _ _)),Nat.ne_of_lt (Nat.lt_of_lt_of_le hc (Nat.le_add_right _ _)),Nat.ne_of_lt hc,Nat.ne_of_lt (Nat.lt_of_lt_of_le hc (Nat.le_add_right _ _)),Nat.ne_of_lt (Nat.lt_trans (Nat.lt_of_lt_of_le hc (Nat.le_add_right _ 4)) hz1)⟩
     refine Zq.xR (knd:=bK X.prog X.w) (t:=t) (t2:=t2) (xs:=its.toArray) (ys:=jts.toArray) (show X.A.in1.in1.handled=none from I1.ok.hd hc) DD ?_ ?_ (fun n=>ks.getD n (.inl 0)) ?_ (by simp;omega) (by simp;omega) its.toArray.size 0 0 _ rfl (Nat.zero_le _)
       (.inl ⟨up _ _ gz,_,_,up _ _ gO⟩) (up _ _ gT) (gi.at fun o e=>up _ o e) (gj.at fun o e=>up _ o e) (pa.at fun o e=>up _ o (k1 _ o e)) (pb.at fun o e=>up _ o (k1 _ o e)) ?_ ?_
     · refine⟨Nat.ne_of_gt hz1,Nat.ne_of_gt (Nat.lt_trans ?_ hz1),Nat.ne_of_gt (Nat.lt_trans ?_ hz1),Nat.ne_of_gt (Nat.lt_trans ?_ hz1),Nat.ne_of_gt (Nat.lt_trans ?_ hz1),(off _ lx).2.2.2.2.symm,(off _ ly).2.2.2.2.symm⟩ <;>(show _<s1.heap.objs.size+4) <;>omega
     · exact⟨Nat.ne_of_lt (Nat.lt_of_lt_of_le lx (Nat.le_add_right _ _)),Nat.ne_of_lt (Nat.lt_of_lt_of_le ly (Nat.le_add_right _ _))⟩
     · intro n v hv
       have hv':its[n]?=some v:=by simpa using hv
       have hn:n<ks.length:=by
         have:=(gQs.mp hv').1
         omega
       have hk:=gQe hn
       obtain⟨u,hu,ru⟩:=ra.get (i:=n) (x:=kV ks[n]) (by rw[gQm,hk];rfl)
       rw[hv'] at hu
       cases hu
       show(bK X.prog X.w).is (ks.getD n (.inl 0)) v=true
       rw[kvD n _ hk]
       exact key_is ru _ _
     · obtain⟨o,es,ep,e1,e2⟩:=Heap.DictOf.new (knd:=bK X.prog X.w) h1
       exact⟨o,es,ep,k2 _ _ e1,e2⟩
     · intro h3 tk3 dd k3
       have big:h1.objs.size≠sysModules:=by
         have:=I2.big
         exact Nat.ne_of_gt this
       have le:s1.heap.objs.size<=h1.objs.size:=nQl (Nat.lt_of_le_of_lt (Nat.le_add_right _ 4) hz1)
       refine⟨rfl,.ref h1.objs.size,_,I1.laid (a:=h1.objs.size) (o:=.dK (iK [] (ks.zip ys))) (t':=tk3) (h':=h3) (fun c o e=> ?_) le (pO ?_ (beq_eq_false_iff_ne.mpr big) ?_ dd),rfl,q _ (I1.hok.fresh le)⟩
       · obtain⟨o1,o2,o3,o4,o5⟩:=off c (Heap.lt_size e)
         exact k3 c o o1 o2 o3 o4 o5 (up c o (k1 c o e))
       · have:=g7 (ks.zip ys) []
         rw[List.length_nil,List.length_zip] at this
         omega
       · have key:∀n,n<=ks.length->KV (iK [] ((ks.zip ys).take n)) (Dk.D8 (fun n=>ks.getD n (.inl 0)) (fun n=>jts.toArray.getD n .none) n):=by
           intro n
           induction n with
           |zero=>intro _;exact .nil
           | succ n ih=>
             intro hn
             have hk:=gQe (l:=ks) (i:=n) (by omega)
             have hy:=gQe (l:=ys) (i:=n) (by omega)
             obtain⟨u,hu,ru⟩:=rb.get hy
             have ez:(ks.zip ys)[n]?=some (ks[n],ys[n]):=by rw[List.getElem?_zip_eq_some];exact⟨hk,hy⟩
             have e3:(ks.zip ys).take (n+1)=(ks.zip ys).take n++ [(ks[n],ys[n])]:=by rw[List.take_add_one,ez];rfl
             have eu:jts.toArray.getD n .none=u:=by
               have:=(gQs.mp hu)
               obtain⟨h1,h2⟩:=this
               simp[Array.getD,h1,h2]
             rw[e3]
             show KV (List.foldl _ [] ((ks.zip ys).take n++ [(ks[n],ys[n])])) (stored _ (ks.getD n (.inl 0)) (jts.toArray.getD n .none))
             rw[List.foldl_append,kvD n _ hk,eu]
             exact(ih (by omega)).put ks[n] ru
         have:=key ks.length (Nat.le_refl _)
         have e4:(ks.zip ys).take ks.length=ks.zip ys:=by
           have:(ks.zip ys).length=ks.length:=by rw[List.length_zip];omega
           rw[←this,List.take_length]
         rw[e4] at this
         have e5:its.toArray.size=ks.length:=by simp;omega
         rw[e5]
         exact this
end
end L2
namespace Zq
open PySem
section
variable{prog:Program}{w:World}{A:Around}{E:Value->Shared->Prop}{s:Shared}{t t2:Bool}{z T O i j a b:Addr}{k:Nat}{xs ys:Array Value}{x y u v:Value}
theorem zh(D:ZipApart z T O i j a b){Q:Option Value->Shared->Prop}(gz:rf s.heap z T O .none (.bool false))(gT:IsPair s.heap T (.ref i) (.ref j))(gO:IsPair s.heap O u v)(gi:It t s.heap i a k)(gj:It t2 s.heap j b k)
  (ga:Sq t s.heap a xs) (gb:Sq t2 s.heap b ys) (ex:xs[k]?=some x) (ey:ys[k]?=some y)
  (q:∀h',rf h' z T O (rawInt s.heap.objs.size) (.bool false)->IsPair h' O x y->It t h' i a (k+1)->It t2 h' j b (k+1)->IsPair h' s.heap.objs.size x y->Zp.Rest z O i j s.heap h'->Q (some (.ref s.heap.objs.size)) {s with heap:=h'}):
  wpAny (model prog w) A (pyNext (.ref z)) Q E s:=by
 have ty:s.TypeIs (.ref z) "zip":=⟨_,gz,rfl⟩
 unfold pyNext
 exact wpAny_bind (wpAny_attempt (wpAny_callSpecial?_slot (name:=Str.ofString "__next__") ty F.slot_zip_next (wpAny_call_entry F.slot_zip_next ty F.entry_zip_next
  (item D gz gT gO gi gj ga gb ex ey fun h' a1 a2 a3 a4 a5 a6=>wpAny_pure (q h' a1 a2 a3 a4 a5 a6)) (F.args_zip_next_1 _))))
end
end Zq
namespace L2
open PySem PySem.Spec PyProof.Rows Zq
theorem Inv.sq_inj{X:Cx}{pins:List (Addr×Obj)}{σ:St}{H:Hp}{s:Shared}{t:Bool}{a:Addr}{xs ys:List V}(I:Inv X pins σ H s)(h:zr X.K t H a xs)(h':zr X.K t H a ys):xs=ys:=by
 cases t with
 |true=>exact I.tuple_inj h h'
 |false=>exact I.list_inj h h'
def HZ(K:PySem.W.Frag)(t t2:Bool)(a b:Addr):It:=
  ⟨fun i H=>∃xs ys x y,zr K t H a xs/\zr K t2 H b ys/\xs[i]?=some x/\ys[i]?=some y,
   fun i H v H'=>∃p,v=.ref p/\H p=none/\∀xs ys x y,zr K t H a xs->zr K t2 H b ys->xs[i]?=some x->ys[i]?=some y->H'=upd H p (.tup [x,y]),
   fun i H=>∃xs,zr K t H a xs/\xs.length<=i⟩
theorem zK{P:Program}{w:World}{K:PySem.W.Frag}{elts:List Expr}{x1:Nat}{tp:Pos}{t t2:Bool}{z T O i j a b:Addr}(D:ZipApart z T O i j a b):
  Turn P w K (.Tuple elts x1 tp) (HZ K t t2 a b) [z,T,O,i,j] z (fun n h=>rf h z T O .none (.bool false)/\IsPair h T (.ref i) (.ref j)/\(∃u v,IsPair h O u v)/\Zq.It t h i a n/\Zq.It t2 h j b n) where
 mem:=by simp
 obj:=fun n h ⟨gz,gT,⟨u,v,gO⟩,gi,gj⟩ c hc=>by
  simp at hc
  rcases hc with rfl|rfl|rfl|rfl|rfl
  ·exact⟨_,gz,fun v n=>by cases n⟩
  ·exact⟨_,gT,fun v n=>by cases n⟩
  ·exact⟨_,gO,fun v n=>by cases n⟩
  ·exact gi.obj
  ·exact gj.obj
 keep:=fun n h h' ⟨gz,gT,⟨u,v,gO⟩,gi,gj⟩ k=>⟨k z (by simp) _ gz,k T (by simp) _ gT,⟨u,v,k O (by simp) _ gO⟩,gi.at fun o e=>k i (by simp) o e,gj.at fun o e=>k j (by simp) o e⟩
 item:=by
  rintro X hP hw hK hc n pins s σ H E I hf ⟨gz,gT,⟨u,v,gO⟩,gi,gj⟩ hg
  subst hP hw hK
  obtain⟨xs,ys,x,y,qa,qb,hx,hy⟩:=hg
  obtain⟨its,ra,pa,_⟩:=I.sq qa
  obtain⟨jts,rb,pb,_⟩:=I.sq qb
  obtain⟨ux,ex,rx⟩:=ra.get hx
  obtain⟨uy,ey,ry⟩:=rb.get hy
  have lt:∀{c o},s.heap.get? c=some o->c≠s.heap.objs.size:=fun e=>Nat.ne_of_lt (Heap.lt_size e)
  have nfp:∀c∈[z,T,O,i,j],c≠s.heap.objs.size:=fun c hc=>by
   obtain⟨oi,e1,_⟩:=gi.obj
   obtain⟨oj,e2,_⟩:=gj.obj
   simp at hc
   rcases hc with rfl|rfl|rfl|rfl|rfl
   ·exact lt gz
   ·exact lt gT
   ·exact lt gO
   ·exact lt e1
   ·exact lt e2
  refine Zq.zh D gz gT gO gi gj pa pb (x:=ux) (y:=uy) (by simpa using ex) (by simpa using ey) fun h1 z1 O1 i1 j1 n1 r1=>⟨_,rfl,?_⟩
  have T1:=r1 _ _ D.TIz D.TITO D.TIi1 D.TIi2 gT
  refine wpAny_letOwnedTupleGo_zip z1 fun h2 z2 b2=> ?_
  have I2:Inv X pins σ (upd H s.heap.objs.size (.tup [x,y])) {s with heap:=h2}:=I.turnedNew (t':=s.toks) (fp:= [z,T,O,i,j]) hf (fun c o hc e=> ?_) (Nat.le_refl _) ?_
  ·refine⟨.ref s.heap.objs.size,_,I2,rfl,⟨s.heap.objs.size,rfl,I.hok.fresh (Nat.le_refl _),fun xs' ys' x' y' q1 q2 q3 q4=> ?_⟩,⟨z2,b2.extBut _ _ D.TIz T1,⟨_,_,b2.extBut _ _ D.TOz O1⟩,i1.ext b2.extBut D.i1z,j1.ext b2.extBut D.i2z⟩,fun c hc=> ?_⟩
   ·rw[I.sq_inj q1 qa] at q3
    rw[I.sq_inj q2 qb] at q4
    rw[hx] at q3
    rw[hy] at q4
    cases q3
    cases q4
    rfl
   ·rw[bf (nfp c hc)]
    exact(hf c hc).1
  ·simp at hc
   exact b2.extBut _ _ hc.1 (r1 c o hc.1 hc.2.2.1 hc.2.2.2.1 hc.2.2.2.2 e)
  ·exact⟨by show 2<=sizeLine;decide,[ux,uy],.cons rx (.cons ry .nil),_,b2.extBut _ _ (fun e=>nfp z (by simp) e.symm) n1,rfl,rfl,0,rfl⟩
 done:=by
  rintro X hP hw hK hc n pins s σ H E I hf ⟨gz,gT,⟨u,v,gO⟩,gi,gj⟩ hg
  subst hP hw hK
  obtain⟨xs,qa,hx⟩:=hg
  obtain⟨its,ra,pa,_⟩:=I.sq qa
  have hl:=ra.length
  refine Zq.vZ D (I.ok.hd hc) (.inl ⟨gz,u,v,gO⟩) gT gi pa (by simp;omega) fun h1 r1=>⟨rfl,I.turnedL (t':=s.toks) (fp:= [z,T,O,i,j]) hf fun c o hc e=> ?_⟩
  simp at hc
  exact r1 c o hc.1 hc.2.2.1 hc.2.2.2.1 hc.2.2.2.2 e
 self:=fun _ _ _ _ _ ⟨gz,_⟩ h=>wpAny_pyIter_zip gz h
section
variable{X:Cx}
def Ip(K:PySem.W.Frag)(ta:TA):TI:=fun σ H R=>ta σ H fun vs H1=>∃(t t2:Bool) (a b:Addr) (xs ys:List V),vs= [.ref a,.ref b]/\zr K t H1 a xs/\zr K t2 H1 b ys/\R (HZ K t t2 a b) H1
theorem Dm{elts:List Expr}{x1:Nat}{tp:Pos}{a b:Expr}{ta:TA}{p pos:Pos}(hg:Gl X "zip")(hm:X.mg "zip"=none)(ha:PA X [a,b] ta)(hs:starEach [a,b] X.env= [(false,eval a X.env),(false,eval b X.env)]:=by rfl)(hs2:starEach [b] X.env= [(false,eval b X.env)]:=by rfl):
  PI X (.Tuple elts x1 tp) (.Call (.Name "zip" p) [a,b] [] pos) (Ip X.K ta):=by
 intro pins s σ H R I h
 refine Call_ (kZ I hg hm (by rfl) (PyProof.Rows.callWith_type1 (cG (ha pos pins s σ H _ I h) fun us s1 ⟨vs,H1,I1,r1,q1⟩=> ?_) (by rw[hs,hs2]) (by rw[hs2];rfl)))
 obtain⟨t,t2,x,y,xs,ys,e,qa,qb,q⟩:=q1
 subst e
 cases r1 with
 | cons r rr=>
   cases rr with
   | cons r' rr=>
     cases rr
     cases r
     cases r'
     obtain⟨its,ra,pa,_⟩:=I1.sq qa
     obtain⟨jts,rb,pb,_⟩:=I1.sq qb
     have lx:=Sq.lt pa
     have ly:=Sq.lt pb
     refine Zq.DQ pa pb fun h' gz gT gO gi gj k=> ?_
     refine wpAny_pyIter_zip gz ⟨_,_,_,_,H1,rfl,I1.kept (t':=s1.toks) k,zK (PyProof.Rows.zipApart_new lx ly),⟨gz,gT,⟨_,_,gO⟩,gi,gj⟩,fun c hc=> ?_,q⟩
     have hb:s1.heap.objs.size<=c:=by
       simp only[List.mem_cons,List.not_mem_nil,or_false] at hc
       rcases hc with e|e|e|e|e <;>(rw[e];first|exact Nat.le_refl _|exact Nat.le_add_right _ _)
     exact I1.fpOk hb (I1.hok.fresh hb)
end
end L2
namespace DL
open PySem PySem.Spec PyProof.Rows L2
theorem xc.sqB{M:Md}{ρ:List Addr}{H:Hp}{a:Addr}{vs:List V}{t:Tag}(h:xc M ρ H a vs t):L2.zr M.K (!t.isL) H a vs:=by
 cases c:t.isL with
 |true=>exact h.sqL c
 |false=>exact h.sqT c
def rT(xs ys:List D):List D:=List.zipWith (fun x y=>D.tup [x,y]) xs ys
open Classical in
noncomputable def q0(f g:eR):wR:=fun Γ S=>(f Γ S).bind fun(p,S1)=>(g Γ S1).bind fun(r,S2)=>if p.2.stays S2 p.1/\p.1.length<=r.1.length then some ((rT p.1 r.1,fun S=>p.2.stays S p.1/\r.2.stays S r.1),S2) else none
section
variable{X:Cx}{a b c e:Expr}{pos:Pos}{st:Stmt}
theorem n0{elts:List Expr}{x1:Nat}{tp p:Pos}{f g:eR}(hg:Gl X "zip")(hm:X.mg "zip"=none)(ha:PE X a (tQ (md X) f))(hb:PE X b (tQ (md X) g))(hs:starEach [a,b] X.env= [(false,eval a X.env),(false,eval b X.env)]:=by rfl)(hs2:starEach [b] X.env= [(false,eval b X.env)]:=by rfl):
  PI X (.Tuple elts x1 tp) (.Call (.Name "zip" p) [a,b] [] pos) (tI (md X) (q0 f g)):=HB (Dm hg hm (cW ha (cW hb eL hs2) (by rw[hs,hs2])) hs hs2) fun σ H R ⟨ρ,Γ,S,ds,W,S',ok,e,q⟩=>by
 obtain⟨⟨⟨ds1,t1⟩,S1⟩,e1,e⟩:=bind_some e
 obtain⟨⟨⟨ds2,t2⟩,S2⟩,e2,e⟩:=bind_some e
 dsimp only at e
 split at e
 ·rename_i c
  obtain⟨e3,rfl⟩:=cu e
  obtain⟨rfl,rfl⟩:=Prod.mk.inj e3
  refine⟨ρ,Γ,S,ds1,t1,S1,ok,e1,fun ρ1 a1 vs1 H1 x1 st1 h1 r1=>⟨ρ1,Γ,S1,ds2,t2,S2,ok.to x1 st1,e2,fun ρ2 b1 ws H2 x2 st2 h2 r2=> ?_⟩⟩
  obtain⟨vs',h3,r3⟩:=h1.to r1 x2 st2 c.1
  refine⟨_,_,a1,b1,vs',ws,rfl,h3.sqB,h2.sqB,q _ _ _ (x1.trans x2) st2 fun i ρ3 S3 H3 x3 st3 w=> ?_⟩
  obtain⟨us,g1,g2⟩:=h3.to r3 x3 st3 w.1
  obtain⟨zs,g3,g4⟩:=h2.to r2 x3 st3 w.2
  refine⟨fun d hd=> ?_,fun hi=>⟨us,g1.sqB,?_⟩⟩
  ·unfold rT at hd
   rw[List.getElem?_zipWith] at hd
   cases hx:ds1[i]? with
   |none=>rw[hx] at hd;cases hd
   | some x=>
     cases hy:ds2[i]? with
     |none=>rw[hx,hy] at hd;cases hd
     | some y=>
       rw[hx,hy] at hd
       cases hd
       obtain⟨u,hu,ru⟩:=g2.get hx
       obtain⟨z,hz,rz⟩:=g4.get hy
       refine⟨⟨us,zs,u,z,g1.sqB,g3.sqB,hu,hz⟩,fun v H4 hv=> ?_⟩
       obtain⟨p,rfl,hp,hq⟩:=hv
       have:=hq us zs u z g1.sqB g3.sqB hu hz
       subst this
       exact⟨bT.laid hp,st3.lay hp,.tup bA ((aY.cons ru (.cons rz .nil)).ext (bT.laid hp))⟩
  ·rw[hi]
   unfold rT
   rw[List.length_zipWith,g2.length.symm]
   have:=c.2
   omega
 ·cases e
end
def rP:D->Option Key
 |.int i=>some (.inl i)
 |.str x=>some (.inr x)
 |_=>none
theorem oX{M:Md}{ρ:List Addr}{H:Hp}{d:D}{v:V}{k:Key}(r:Rel M ρ H d v)(e:rP d=some k):v=kV k:=by
 cases r <;>simp[rP] at e <;>subst e <;>rfl
def vH:List D->Option (List Key)
 | []=>some []
 |d::r=>(rP d).bind fun k=>(vH r).bind fun ks=>some (k::ks)
theorem v5{M:Md}{ρ:List Addr}{H:Hp}:∀{ds:List D} {vs:List V} {ks:List Key},aY M ρ H ds vs->vH ds=some ks->vs=ks.map kV
 |_,_,_,.nil,e=>by cases e;rfl
 | _,_,_,.cons h hs,e=>by
   obtain⟨k,e1,e⟩:=bind_some e
   obtain⟨ks,e2,e⟩:=bind_some e
   cases e
   rw[oX h e1,v5 hs e2]
   rfl
def qz(kvs:List (Key×D))(k:Key):Option D:=(kvs.find? fun kv=>decide (kv.1=k)).map (·.2)
def putD(kvs:List (Key×D))(k:Key)(v:D):List (Key×D):=
 if (kvs.any fun kv=>decide (kv.1=k))=true then kvs.map (fun kv=>if kv.1=k then(kv.1,v) else kv) else kvs++ [(k,v)]
def cR(kvs more:List (Key×D)):List (Key×D):=more.foldl (fun acc kv=>putD acc kv.1 kv.2) kvs
section
variable{M:Md}{ρ:List Addr}{H:Hp}
theorem cf.append:∀{l m:List (Key×D)} {kv kw:List (Key×V)},cf M ρ H l kv->cf M ρ H m kw->cf M ρ H (l++m) (kv++kw)
 | [],_,_,_,h,h'=>by cases h;exact h'
 |(_,_)::_,_,_,_,⟨v,t,e,h,hs⟩,h'=>by subst e;exact⟨v,_,rfl,h,cf.append hs h'⟩
theorem cf.any:∀{l:List (Key×D)} {kv:List (Key×V)} (k:Key),cf M ρ H l kv->(l.any fun p=>decide (p.1=k))=kv.any fun p=>decide (p.1=k)
 | [],_,_,h=>by cases h;rfl
 |(_,_)::_,_,k,⟨v,t,e,h,hs⟩=>by subst e;simp only[List.any_cons,cf.any k hs]
theorem cf.mapP{d:D}{v:V}{k:Key}(r:Rel M ρ H d v):∀{l:List (Key×D)} {kv:List (Key×V)},cf M ρ H l kv->cf M ρ H (l.map fun p=>if p.1=k then(p.1,d) else p) (kv.map fun p=>if p.1=k then(p.1,v) else p)
 | [],_,h=>by cases h;rfl
 | (k',_)::_,_,⟨u,t,e,h,hs⟩=>by
   subst e
   simp only[List.map_cons]
   by_cases c:k'=k
   · simp only[c,if_true];exact⟨v,_,rfl,r,cf.mapP r hs⟩
   · simp only[c,if_false];exact⟨u,_,rfl,h,cf.mapP r hs⟩
theorem cf.put{l:List (Key×D)}{kv:List (Key×V)}{k:Key}{d:D}{v:V}(h:cf M ρ H l kv)(r:Rel M ρ H d v):cf M ρ H (putD l k d) (putK kv k v):=by
 unfold putD putK
 rw[h.any k]
 split
 ·exact h.mapP r
 ·exact h.append ⟨v,[],rfl,r,rfl⟩
theorem cf.merge:∀{m:List (Key×D)} {kw:List (Key×V)} {l:List (Key×D)} {kv:List (Key×V)},cf M ρ H m kw->cf M ρ H l kv->cf M ρ H (cR l m) (iK kv kw)
 | [],_,_,_,h,h'=>by cases h;exact h'
 | (k,d)::m,_,_,_,⟨v,t,e,h,hs⟩,h'=>by
   subst e
   unfold cR iK
   rw[List.foldl_cons,List.foldl_cons]
   exact cf.merge (m:=m) (kw:=t) hs (h'.put h)
theorem cf.zip:∀{ks:List Key} {ds:List D} {vs:List V},aY M ρ H ds vs->cf M ρ H (ks.zip ds) (ks.zip vs)
 | [],_,_,_=>rfl
 |_::_,_,_,.nil=>rfl
 |k::ks,_,_,.cons h hs=>⟨_,_,rfl,h,cf.zip hs⟩
theorem cf.val:∀{l:List (Key×D)} {kv:List (Key×V)} {k:Key} {d:D},cf M ρ H l kv->qz l k=some d->∃v,mW kv k=some v/\Rel M ρ H d v
 | [],_,_,_,_,e=>by cases e
 | (k',d')::_,_,k,d,⟨v,t,e,h,hs⟩,e'=>by
   subst e
   unfold qz at e'
   unfold mW
   rw[List.find?_cons] at e'⊢
   by_cases c:k'=k
   · simp only[c,decide_true] at e'⊢
     cases e'
     exact⟨v,rfl,h⟩
   · simp only[c,decide_false] at e'⊢
     exact cf.val hs e'
theorem cf.ext'{ρ':List Addr}{H':Hp}{l:List (Key×D)}{kv:List (Key×V)}(h:cf M ρ H l kv)(e:bT ρ H ρ' H'):cf M ρ' H' l kv:=h.imp fun _ _ r=>r.ext e
theorem cf.pre'{ρ':List Addr}{l:List (Key×D)}{kv:List (Key×V)}(h:cf M ρ H l kv)(e:ρ <+: ρ'):cf M ρ' H l kv:=h.imp fun _ _ r=>r.pre e
end
section
variable{X:Cx}{a b c e:Expr}{pos:Pos}{st:Stmt}
theorem FQ{M:Md}{ρ ρ':List Addr}{H H':Hp}{S':aA}{l:List (Key×D)}{kv:List (Key×V)}{p:Addr}{Q:VK}(x:bT ρ H ρ' H')(st:ft M ρ' S' H')(hp:H' p=none)(r:cf M ρ' H' l kv)
  (q:∀ρ'' v H'',bT ρ H ρ'' H''->ft M ρ'' (S'++ [.dct l]) H''->Rel M ρ'' H'' (.ref S'.length) v->Q v H''):Q (.ref p) (upd H' p (.dK kv)):=by
 have np:p∉ρ':=cM x st hp
 have x1:bT ρ' H' ρ' (upd H' p (.dK kv)):=bT.laid hp
 have st2:=(st.lay (u:=.dK kv) hp).box (o:=.dct l) np ⟨kv,bA,(r.ext' x1).pre' (List.prefix_append _ _)⟩
 refine q (ρ'++ [p]) (.ref p) _ ⟨x.pre.trans (List.prefix_append _ _),fun c hc=> ?_,(x.trans x1).keep,(x.trans x1).grow⟩ st2 (.ref ?_)
 ·rcases mQa.mp hc with hc|hc
  ·exact x.new c hc
  ·rw[List.mem_singleton] at hc;subst hc;exact .inr (x.grow _ hp)
 ·rw[←st.len,List.getElem?_append_right (Nat.le_refl _)]
  simp
open Classical in
noncomputable def FD(f g:eR):bq:=fun Γ S=>(f Γ S).bind fun(p,S1)=>(g Γ S1).bind fun(r,S2)=>if p.2.stays S2 p.1/\p.1.length=r.1.length then(vH p.1).bind fun ks=>some (.ref S2.length,S2++ [.dct (cR [] (ks.zip r.1))]) else none
theorem mU{p1 p2 c1 c2:Pos}{f g:eR}(hc:X.calm=true)(hgD:Gl X "dict")(hmD:X.mg "dict"=none)(hg:Gl X "zip")(hm:X.mg "zip"=none)(ha:PE X a (tQ (md X) f))(hb:PE X b (tQ (md X) g))(hs:starEach [a,b] X.env= [(false,eval a X.env),(false,eval b X.env)]:=by rfl)(hs2:starEach [b] X.env= [(false,eval b X.env)]:=by rfl)
  (he:starEach [Expr.Call (.Name "zip" p2) [a,b] [] c2] X.env= [(false,eval (Expr.Call (.Name "zip" p2) [a,b] [] c2) X.env)]:=by rfl):
  PE X (.Call (.Name "dict" p1) [.Call (.Name "zip" p2) [a,b] [] c2] [] c1) (tD (md X) (FD f g)):=je (w9 hc hgD hmD hg hm (cW ha (cW hb eL hs2) (by rw[hs,hs2])) hs hs2 he) fun σ H Q ⟨ρ,Γ,S,d,S',ok,e,q⟩=>by
 obtain⟨⟨⟨ds1,t1⟩,S1⟩,e1,e⟩:=bind_some e
 obtain⟨⟨⟨ds2,t2⟩,S2⟩,e2,e⟩:=bind_some e
 dsimp only at e
 split at e
 ·rename_i c
  obtain⟨ks,e3,e⟩:=bind_some e
  obtain⟨rfl,rfl⟩:=cu e
  refine⟨ρ,Γ,S,ds1,t1,S1,ok,e1,fun ρ1 a1 vs1 H1 x1 st1 h1 r1=>⟨ρ1,Γ,S1,ds2,t2,S2,ok.to x1 st1,e2,fun ρ2 b1 ws H2 x2 st2 h2 r2=> ?_⟩⟩
  obtain⟨vs',h3,r3⟩:=h1.to r1 x2 st2 c.1
  have ek:=v5 r3 e3
  subst ek
  have hl:=r3.length
  rw[lQm] at hl
  refine⟨_,_,a1,b1,ks,ws,rfl,h3.sqB,h2.sqB,by rw[←hl,←r2.length];exact c.2,fun p hp=> ?_⟩
  exact FQ (x1.trans x2) st2 hp (cf.merge (l:= []) (cf.zip r2) rfl) q
 ·cases e
def HI:bq:=fun _ S=>some (.ref S.length,S++ [.dct []])
theorem DU:PE X (.Dict [] [] pos) (tD (md X) HI):=je AI fun σ H Q qq=>by
 obtain⟨ρ,Γ,S,d,S',ok,e,q⟩:=qq
 obtain⟨rfl,rfl⟩:=cu e
 exact fun p hp=>FQ bT.refl ok.st hp (l:= []) (kv:= []) rfl q
def GD(f g:bq):bq:=fun Γ S=>(f Γ S).bind fun(x,S1)=>(g Γ S1).bind fun(y,S2)=>match x with
 | .ref k=>match S2[k]? with
   |some (.dct l)=>(rP y).bind fun ky=>(qz l ky).bind fun d=>some (d,S2)
   |_=>none
 |_=>none
theorem BC{f g:bq}(hu:X.A.units+1<cLine)(ha:PE X a (tD (md X) f))(hb:PE X b (tD (md X) g))(hs:Df b):PE X (.Subscript a b pos) (tD (md X) (GD f g)):=je (Ct hu ha hb hs) fun σ H Q qq=>by
 obtain⟨ρ,Γ,S,d,S',ok,e,q⟩:=qq
 obtain⟨⟨x,S1⟩,e1,e⟩:=bind_some e
 obtain⟨⟨y,S2⟩,e2,e⟩:=bind_some e
 cases x with
 | ref k=>
   dsimp only at e
   split at e
   · rename_i l hs
     obtain⟨ky,e3,e⟩:=bind_some e
     obtain⟨d',e4,e⟩:=bind_some e
     obtain⟨rfl,rfl⟩:=cu e
     refine⟨ρ,Γ,S,_,S1,ok,e1,fun ρ1 v1 H1 x1 st1 r1=>⟨ρ1,Γ,S1,y,S2,ok.to x1 st1,e2,fun ρ2 v2 H2 x2 st2 r2=> ?_⟩⟩
     cases oX r2 e3
     have r1:=r1.ext x2
     cases r1 with
     | ref ha=>
       obtain⟨kv,h1,h2⟩:=st2.obj k _ _ ha hs
       obtain⟨v,h3,h4⟩:=h2.val e4
       exact⟨_,v,rfl,by rw[←h3];exact zR.k h1,q _ _ _ (x1.trans x2) st2 h4⟩
   · cases e
 |_=>cases e
def GU(f g h:bq):cH:=fun Γ S=>(h Γ S).bind fun(d,S1)=>(f Γ S1).bind fun(x,S2)=>(g Γ S2).bind fun(y,S3)=>match x with
 | .ref k=>match S3[k]? with
   |some (.dct l)=>(rP y).bind fun ky=>if l.length<sizeLine then some (.nx Γ (S3.set k (.dct (putD l ky d)))) else none
   |_=>none
 |_=>none
mutual
theorem Rel.offK{M:Md}{ρ:List Addr}{H:Hp}{b:Addr}{us:List (Key×V)}{o:HO}(hb:H b=some (.dK us)):∀{d:D} {v:V},Rel M ρ H d v->Rel M ρ (upd H b o) d v
 |_,_,.non=>.non
 |_,_,.bl x=>.bl x
 |_,_,.int i=>.int i
 |_,_,.str x=>.str x
 |_,_,.tup h hs=>.tup (by rw[bf (AM h hb (by intro z;cases z))];exact h) (aY.offK hb hs)
 |_,_,.ref h=>.ref h
 |_,_,.fn h=>.fn h
theorem aY.offK{M:Md}{ρ:List Addr}{H:Hp}{b:Addr}{us:List (Key×V)}{o:HO}(hb:H b=some (.dK us)):∀{ds:List D} {vs:List V},aY M ρ H ds vs->aY M ρ (upd H b o) ds vs
 |_,_,.nil=>.nil
 |_,_,.cons h hs=>.cons (Rel.offK hb h) (aY.offK hb hs)
end
theorem ft.putKd{M:Md}{ρ:List Addr}{S:aA}{H:Hp}{k:Nat}{a:Addr}{l l':List (Key×D)}{kw:List (Key×V)}(st:ft M ρ S H)(hk:ρ[k]?=some a)(hS:S[k]?=some (.dct l))(r:cf M ρ H l' kw):ft M ρ (S.set k (.dct l')) (upd H a (.dK kw))/\bT ρ H ρ (upd H a (.dK kw)):=by
 obtain⟨vs,h1,h2⟩:=st.obj k a _ hk hS
 exact st.put hk hS ⟨kw,bA,r.imp fun _ _ q=>q.offK h1⟩ fun x hx=>by rw[h1] at hx;cases hx;exact id
theorem Et{f g h:bq}{pos':Pos}{v:Expr}(hu:X.A.units+1<cLine)(ha:PE X a (tD (md X) f))(hb:PE X b (tD (md X) g))(hv:PE X v (tD (md X) h))(hs:swapsWith v (some (.Subscript a b pos')) pos.line X.env=pure false:=by rfl):PS X (.Assign [.Subscript a b pos'] v pos) (tS (md X) (GU f g h)):=
 yj (CG hu ha hb hv hs) fun D σ H qq=>by
  obtain⟨ρ,Γ,S,o,ok,e,q⟩:=qq
  obtain⟨⟨d,S1⟩,e1,e⟩:=bind_some e
  obtain⟨⟨x,S2⟩,e2,e⟩:=bind_some e
  obtain⟨⟨y,S3⟩,e3,e⟩:=bind_some e
  cases x with
  | ref k=>
    dsimp only at e
    split at e
    · rename_i l hs
      obtain⟨ky,e4,e⟩:=bind_some e
      split at e
      · rename_i hl
        cases e
        refine⟨ρ,Γ,S,d,S1,ok,e1,fun ρ1 v1 H1 x1 st1 r1=>⟨ρ1,Γ,S1,_,S2,ok.to x1 st1,e2,fun ρ2 v2 H2 x2 st2 r2=>⟨ρ2,Γ,S2,y,S3,(ok.to x1 st1).to x2 st2,e3,fun ρ3 v3 H3 x3 st3 r3=> ?_⟩⟩⟩
        cases oX r3 e4
        have r2:=r2.ext x3
        have r1:=r1.ext (x2.trans x3)
        have x13:=(x1.trans x2).trans x3
        cases r2 with
        | ref ha=>
          obtain⟨kv,h1,h2⟩:=st3.obj k _ _ ha hs
          obtain⟨st4,x4⟩:=st3.putKd ha hs (h2.put (k:=ky) r1)
          exact⟨_,_,rfl,Ag.k h1 (by rw[←h2.length];exact hl),q _ _ _ (x13.trans x4) ((ok.to x13 st3).to x4 st4)⟩
      · cases e
    · cases e
  |_=>cases e
open Classical in
noncomputable def Ea(f:eR)(g:bq):bq:=fun Γ S=>(f Γ S).bind fun(p,S1)=>if p.2.isL=true then(g Γ S1).bind fun(y,S2)=>if p.2.stays S2 p.1 then(rO y).bind fun v=>(jE p.1).bind fun vs=>(mF v vs).bind fun j=>some (.int (j:Nat),S2) else none else none
theorem Ci{f:eR}{g:bq}{o:Expr}{apos cpos:Pos}(ho:PE X o (tQ (md X) f))(ha:PE X e (tD (md X) g))(hbase:attributeBase o "index" X.env (eval o X.env)=eval o X.env:=by rfl) (hfew:((backTo cpos (starEach [e] X.env)).all (fun x=> !x.1)&&(backToKw cpos (keywordEach [] X.env)).all (fun x=>x.1.isSome)
   &&decide ([e].length+([]:List Keyword).length+(if ([]:List Keyword).isEmpty then 0 else 1)<30))=true:=by rfl)
  (hline:(apos.endLine==cpos.line)=true:=by rfl) (hs:starEach [e] X.env= [(false,eval e X.env)]:=by rfl):PE X (.Call (.Attribute o "index" apos) [e] [] cpos) (tD (md X) (Ea f g)):=
 je (sx PySem.F.plainAttrs_list PySem.F.slot_list_index PySem.F.type_list_index AC ho (aa ha ah hs) hbase hfew hline hs) fun σ H Q qq=>by
  obtain⟨ρ,Γ,S,d,S',ok,e,q⟩:=qq
  obtain⟨⟨⟨ds,t⟩,S1⟩,e1,e⟩:=bind_some e
  dsimp only at e
  split at e
  ·rename_i cL
   obtain⟨⟨y,S2⟩,e2,e⟩:=bind_some e
   dsimp only at e
   split at e
   ·rename_i cS
    obtain⟨v,e3,e⟩:=bind_some e
    obtain⟨vs,e4,e⟩:=bind_some e
    obtain⟨j,e5,e⟩:=bind_some e
    obtain⟨rfl,rfl⟩:=cu e
    refine⟨ρ,Γ,S,ds,t,S1,ok,e1,fun ρ1 a us H1 x1 st1 h1 r1=>⟨.inl ⟨rfl,us,h1.sqL cL⟩,ρ1,Γ,S1,[y],S2,ok.to x1 st1,by simp only[ae,ai,e2,Option.bind_some],fun ρ2 ws H2 x2 st2 r2=> ?_⟩⟩
    obtain⟨us',h3,r3⟩:=h1.to r1 x2 st2 cS
    cases r2 with
    | cons r2 rr=>
      cases rr
      cases jO r2 e3
      obtain⟨rfl,f1⟩:=lP r3 e4
      exact⟨a,us',_,j,rfl,rfl,h3.sqL cL,lD e3,f1,e5,q _ _ _ (x1.trans x2) st2 (.int _)⟩
   ·cases e
  ·cases e
end
section
variable{X:Cx}{a b c e:Expr}{pos:Pos}{st:Stmt}
def HH:V->List V->Hp->VK->Prop:=fun x vs H Q=>∃a b kvs more,x=.ref a/\vs= [.ref b]/\a≠b/\H a=some (.dK kvs)/\H b=some (.dK more)/\kvs.length+more.length<=sizeLine/\Q .non (upd H a (.dK (iK kvs more)))
theorem zM:Gq X "dict.update" HH:=by
 intro pins s σ H x vs v us Q I rx rv h
 obtain⟨a,b,kvs,more,rfl,rfl,ab,ha,hb,hz,q⟩:=h
 cases rx
 obtain⟨u,rfl,ru⟩:=rv.one
 cases ru
 obtain⟨z,hd,ks,rel,dd⟩:=yf I.hok ha
 obtain⟨z2,hd2,ms,rel2,dd2⟩:=yf I.hok hb
 refine call_meetsIn PySem.F.slot_dict_update dd.typeIs PySem.F.entry_dict_update (PySem.F.args_dict_update_2 _ _) (meets_dict_update (bK X.prog X.w) a b ab hd2) ⟨ks,ms,dd,dd2,by rw[←rel.length,←rel2.length];exact hz,fun h' dd' _ hs=> ?_⟩
 have he:∃q,h'.get? a=some q:=let ⟨q,_,_,hq,_⟩:=dd';⟨q,hq⟩
 have hl:=g7 more kvs
 exact⟨.non,_,oW I (by rw[ha];exact True.intro) hs he (pO (by omega) hd (KV.merge rel2 rel) dd'),rfl,q⟩
def Ck(f g:bq):bq:=fun Γ S=>(f Γ S).bind fun(x,S1)=>(g Γ S1).bind fun(y,S2)=>match x,y with
 | .ref k,.ref j=>if k≠j then match S1[k]?,S2[k]?,S2[j]? with
   |some (.dct _),some (.dct l),some (.dct m)=>if l.length+m.length<=sizeLine then some (.non,S2.set k (.dct (cR l m))) else none
   |_,_,_=>none
   else none
 |_,_=>none
theorem Bv{f g:bq}{o:Expr}{apos cpos:Pos}(ho:PE X o (tD (md X) f))(ha:PE X e (tD (md X) g))(hbase:attributeBase o "update" X.env (eval o X.env)=eval o X.env:=by rfl) (hfew:((backTo cpos (starEach [e] X.env)).all (fun x=> !x.1)&&(backToKw cpos (keywordEach [] X.env)).all (fun x=>x.1.isSome)
   &&decide ([e].length+([]:List Keyword).length+(if ([]:List Keyword).isEmpty then 0 else 1)<30))=true:=by rfl)
  (hline:(apos.endLine==cpos.line)=true:=by rfl) (hs:starEach [e] X.env= [(false,eval e X.env)]:=by rfl):PE X (.Call (.Attribute o "update" apos) [e] [] cpos) (tD (md X) (Ck f g)):=
 je (sx PySem.F.plainAttrs_dict PySem.F.slot_dict_update PySem.F.type_dict_update zM ho (aa ha ah hs) hbase hfew hline hs) fun σ H Q qq=>by
  obtain⟨ρ,Γ,S,d,S',ok,e,q⟩:=qq
  obtain⟨⟨x,S1⟩,e1,e⟩:=bind_some e
  obtain⟨⟨y,S2⟩,e2,e⟩:=bind_some e
  cases x with
  | ref k=>
    cases y with
    | ref j=>
      dsimp only at e
      split at e
      · rename_i ne
        cases h1:S1[k]? with
        |none=>rw[h1] at e;cases e
        | some o1=>
          rw[h1] at e
          cases o1 with
          | dct l0=>
            cases h2:S2[k]? with
            |none=>rw[h2] at e;cases e
            | some o2=>
              rw[h2] at e
              cases o2 with
              | dct l=>
                cases h3:S2[j]? with
                |none=>rw[h3] at e;cases e
                | some o3=>
                  rw[h3] at e
                  cases o3 with
                  | dct m=>
                    dsimp only at e
                    split at e
                    · rename_i hl
                      obtain⟨rfl,rfl⟩:=cu e
                      refine⟨ρ,Γ,S,_,S1,ok,e1,fun ρ1 v H1 x1 st1 r1=> ?_⟩
                      cases r1 with
                      | ref ha=>
                        rename_i a
                        obtain⟨kv0,g0,_⟩:=st1.obj k a _ ha h1
                        refine⟨.inr (.inr (.inl ⟨rfl,.inl ⟨kv0,g0⟩⟩)),ρ1,Γ,S1,[.ref j],S2,ok.to x1 st1,by simp only[ae,ai,e2,Option.bind_some],fun ρ2 ws H2 x2 st2 r2=> ?_⟩
                        cases r2 with
                        | cons r2 rr=>
                          cases rr
                          cases r2 with
                          | ref hb=>
                            rename_i b
                            have ha2:=cQ x2.pre ha
                            obtain⟨kv,g1,g2⟩:=st2.obj k a _ ha2 h2
                            obtain⟨kw,g3,g4⟩:=st2.obj j b _ hb h3
                            have ab:a≠b:=fun z=>by subst z;exact ne (jw st2.nd ha2 hb)
                            obtain⟨st3,x3⟩:=st2.putKd ha2 h2 (cf.merge g4 g2)
                            exact⟨a,b,kv,kw,rfl,rfl,ab,g1,g3,by rw[←g2.length,←g4.length];exact hl,q _ _ _ ((x1.trans x2).trans x3) st3 .non⟩
                    · cases e
                  |_=>cases e
              |_=>cases e
          |_=>cases e
      · cases e
    |_=>cases e
  |_=>cases e
end
end DL
namespace L2
open PySem PySem.Spec PyProof.Rows
section
variable{prog:Program}{w:World}{A:Around}{s:Shared}
theorem rX{kx vx target iter:Expr}{ifs:List Expr}{scope:Scope}{pos:Pos}{it:Value}{D:Addr}{env:Env}{R:Result->Shared->Prop}(I:Nat->Shared->Prop)
  (turn:∀n s,I n s->wpAny (model prog w) A (pyNext it) (fun r s₁=>match r with
   |none=>R (.ok .next) s₁
   |some v=>wpAny (model prog w) A (letOwnedTupleGo target it v) (fun _ s₁'=>wpAny (model prog w) A (assign target env v) (fun _ s₂=>
     wpAny (model prog w) A (forIn ifs true fun c r=>if r=true then do let ok←isTrue c env (eval c env);pure (ForInStep.yield ok) else pure (ForInStep.yield r)) (fun ok s₃=>
      if ok=true then wpAny (model prog w) A (eval kx env) (fun x s₄=>wpAny (model prog w) A (eval vx env) (fun y s₅=>
       wpAny (model prog w) A (dictSet D x y) (fun _ s₆=>∃m,m<n/\I m s₆) (fun _ _=>False) s₅) (fun _ _=>False) s₄) (fun _ _=>False) s₃
      else∃m,m<n/\I m s₃) (fun _ _=>False) s₂) (fun _ _=>False) s₁') (fun _ _=>False) s₁) (fun _ _=>False) s)
  (n:Nat) (h:I n s):codeAny (model prog w) A (.compLoop (.DictComp kx vx [⟨target,iter,ifs,0⟩] scope pos) 0 it (.ref D) env) R s:=by
 refine codeAny_loop rfl I (fun n s hI=> ?_) n h
 show wpAny _ A ((compTurn (.DictComp kx vx [⟨target,iter,ifs,0⟩] scope pos) 0 it (.ref D) env).onRaise (fun x=>do noteFrame x env;theTreesLotGoes x)) _ _ s
 refine wpAny_noted ?_
 rw[compTurn_dict]
 refine wpAny_bind (wpAny_standAt (wpAny_bind (wpAny_mono (turn n s hI) (fun r s₁ h₁=> ?_) fun _ _ h'=>h'.elim)))
 cases r with
 |none=>exact wpAny_pure h₁
 | some v=>
   refine wpAny_bind (wpAny_mono h₁ (fun _ s₁' h₁'=> ?_) fun _ _ h'=>h'.elim)
   refine wpAny_bind (wpAny_mono h₁' (fun _ s₂ h₂=>wpAny_bind (wpAny_mono h₂ (fun ok s₃ h₃=> ?_) fun _ _ h'=>h'.elim)) fun _ _ h'=>h'.elim)
   cases ok with
   |false=>exact wpAny_pure ⟨rfl,h₃⟩
   | true=>
     exact wpAny_bind (wpAny_bind (wpAny_mono h₃ (fun x s₄ h₄=>wpAny_bind (wpAny_holding (wpAny_mono h₄ (fun y s₅ h₅=>wpAny_bind (wpAny_standAt (wpAny_holding (wpAny_mono h₅ (fun _ s₆ h₆=>wpAny_pure ⟨rfl,h₆⟩) fun _ _ h'=>h'.elim)))) fun _ _ h'=>h'.elim))) fun _ _ h'=>h'.elim))
end
def D2(J:It)(g:TG)(tt:TT)(tk tv:TE)(Q:VK)(D:Addr)(σ:St)(H:Hp):Prop:=
 ∃ W:Nat->Nat->St->Hp->Prop,(∃m,W 0 m σ H)/\∀i m σ' H',W i m σ' H'→
   (J.stop i H'/\Q (.ref D) H')\/(J.go i H'/\∃Nx:St->Hp->Prop,(∀σ'' H'',Nx σ'' H''->∃m',m'<m/\W (i+1) m' σ'' H'')∧
     ∀ x H2,J.yld i H' x H2->g x σ' H2 fun σ3 H3=>tt σ3 H3 fun ok H4=>
       if ok=true then tk σ3 H4 fun k H5=>tv σ3 H5 fun y H6=>∃kvs ky,k=kV ky/\H6 D=some (.dK kvs)/\kvs.length<sizeLine/\Nx σ3 (upd H6 D (.dK (putK kvs ky y))) else Nx σ3 H4)
def Am(js:List (Option Nat))(wi:TI)(g:TG)(tt:TT)(tk tv:TE):TE:=fun σ H Q=>wi σ H fun J H1=>∀D,H1 D=none->D2 J g tt tk tv Q D (iL js σ) (upd H1 D (.dK []))
theorem Bf{X:Cx}{N:List Str}{js:List (Option Nat)}{scope:Scope}{cl:List (Str×Addr)}{tg iter kx vx tgt:Expr}{ifs:List Expr}{pos spos:Pos}{wi:TI}{g gt:TG}{tt:TT}{tk tv:TE}
  (S:aQ X N js scope cl) (hc:X.calm=true) (hi:PI X tg iter wi)
  (hg:∀C s H fp,PG (aV X N scope cl C s H fp) tg g) (ht:∀C s H fp,oP (aV X N scope cl C s H fp) ifs tt) (hk:∀C s H fp,PE (aV X N scope cl C s H fp) kx tk) (hv:∀C s H fp,PE (aV X N scope cl C s H fp) vx tv) (hgt:PG X tgt gt)
  (hs:∀x,foldedSetIterable iter X.env x=pure x:=by intro _;rfl) (hsw:swapsWithSole [tgt] (.DictComp kx vx [⟨tg,iter,ifs,0⟩] scope pos) spos.line X.env=pure true:=by rfl)
  (h1:(assignEach [tgt] X.env).map (·.2)= [assign tgt X.env]:=by rfl):PS X (.Assign [tgt] (.DictComp kx vx [⟨tg,iter,ifs,0⟩] scope pos) spos) (zV (Am js wi g tt tk tv) gt):=by
 intro pins s σ H Dn I h
 rw[exec_Assign_arm]
 refine wpAny_bind (wpAny_standAt (wpAny_bind (wpAny_of_eq hsw (wpAny_ite_true rfl (wpAny_bind ?_)))))
 rw[h1]
 show wpAny _ _ (do let _←comprehension _ _ _ _ _ _ _ (some fun v=>assignAll v [assign tgt X.env]);pure ()) _ _ _
 refine wpAny_bind ?_
 refine wpAny_comprehension_free (use:=some fun v=>assignAll v [assign tgt X.env]) rfl hs S.clos S.kind S.names (cG (hi pins s σ H _ I h) fun v s1 h1=>cG h1 fun itv s2 h2=> ?_)
 obtain⟨it,fp,tn,J,H2,e,I2,T,st2,f2,hD⟩:=h2
 subst e
 refine wpAny_newObj_type (wpAny_newFunctionEnv S.nocell (by intro y hy;simp at hy) (fun h₁ hns₁ hsb₁=> ?_) S.kind)
 dsimp only at hns₁ hsb₁⊢
 generalize hH2:s2.heap.push {cls:=.type "dict",data:=.dict #[]}=P2 at hns₁ hsb₁⊢
 have hC:P2.objs.size=s2.heap.objs.size+1:=by rw[←hH2,Heap.size_push]
 have hDC:s2.heap.objs.size≠P2.objs.size:=by rw[hC];exact Nat.ne_of_lt (Nat.lt_succ_self _)
 have hCle:s2.heap.objs.size<=P2.objs.size:=by rw[hC];exact Nat.le_succ _
 have below:∀b,b<s2.heap.objs.size->b≠P2.objs.size:=fun b hb=>by rw[hC];exact Nat.ne_of_lt (Nat.lt_succ_of_lt hb)
 have old:∀b o,s2.heap.get? b=some o->h₁.get? b=some o:=fun b o e=>hsb₁.extBut b o (below b (Heap.lt_size e)) (Heap.get?_push_of_some _ (hH2▸Heap.get?_push_of_some _ e))
 have hnew:h₁.get? s2.heap.objs.size=some {cls:=.type "dict",data:=.dict #[]}:=hsb₁.extBut _ _ hDC (Heap.get?_push_of_some _ (hH2▸Heap.get?_push_size _ rfl))
 have nD:H2 s2.heap.objs.size=none:=I2.fresh
 have nC:H2 P2.objs.size=none:=I2.hok.fresh hCle
 have fpo:∀b∈fp,b<s2.heap.objs.size:=fun b hb=>by
  obtain⟨o,e,_⟩:=T.obj _ _ st2 b hb
  exact Heap.lt_size e
 obtain⟨W,⟨m0,w0⟩,turn⟩:=hD s2.heap.objs.size nD
 have ok':(aV X N scope cl P2.objs.size s2 H2 fp).Ok:=by
  refine⟨I2.ok.mod,S.kind,I2.ok.glob,I2.ok.blt,hCle,fun x y c h1 h2=>I2.ok.inj x y c (S.sub x c h1) (S.sub y c h2),S.has,(fun x c h=>by cases h),I2.ok.hd,I2.ok.frames,.inl rfl,
   fun b hb=>⟨below b (fpo b hb),fun x c h=>(f2 b hb).2.2.2.2.1 x c (S.sub x c h)⟩,I2.bs,Nat.le_trans I2.ok.bsz I2.sz,fun b o e hb=> ?_,fun b hb z=> ?_,I2.stack,I2.stkFree⟩
  ·rcases(f2 b hb).2.2.2.1 with z|z
   ·exact I2.ok.noex b o e z
   ·exact absurd (Nat.lt_of_lt_of_le (Nat.lt_of_lt_of_le (Heap.lt_size e) I2.ok.bsz) z) (Nat.lt_irrefl _)
  ·rcases List.mem_cons.mp (I2.stkSub b z) with q|q
   ·exact(f2 b hb).2.1 q
   ·exact(f2 b hb).2.2.1 q
 have hobj:cK X.prog X.w (upd H2 s2.heap.objs.size (.dK [])) h₁ s2.heap.objs.size (.dK []):=by
  obtain⟨o,es,ep,e1,e2⟩:=Heap.DictOf.new (knd:=bK X.prog X.w) s2.heap
  exact pO (Nat.zero_le _) (beq_eq_false_iff_ne.mpr (Ne.symm (Nat.ne_of_lt I2.big))) .nil ⟨o,es,ep,hsb₁.extBut _ _ hDC (Heap.get?_push_of_some _ (hH2▸e1)),e2⟩
 have I4:Inv (aV X N scope cl P2.objs.size s2 H2 fp) [] (iL js σ) (upd H2 s2.heap.objs.size (.dK [])) {s2 with heap:=h₁,toks:=s2.toks+([]:List (Str×Value)).length}:=by
  refine⟨ok',rfl,I2.bare,Un.laid old (Nat.le_refl _) nD,⟨_,hns₁,fun i x v h1 h2 h3=> ?_⟩,fun x c h=> ?_,by show upd H2 _ _ P2.objs.size=none;rw[bf hDC.symm];exact nC,fun x c h=> ?_,fun p hp=>absurd (show p∈([]:List (Addr×Obj)) from hp) (by simp),I2.hok.laid old (Nat.le_refl _) hobj,by show(iL js σ).length=N.length;unfold iL;rw[lQm];exact S.len⟩
  ·unfold iL at h2
   rw[gQm] at h2
   cases e:js[i]? with
   |none=>rw[e] at h2;cases h2
   | some o=>
     rw[e] at h2
     cases o with
     |none=>cases h2
     | some j=>
       have h2':σ.getD j none=some v:=Option.some.inj h2
       have hj:σ[j]?=some (some v):=by
         rw[List.getD_eq_getElem?_getD] at h2'
         cases q:σ[j]? with
         |none=>rw[q] at h2';cases h2'
         |some y=>rw[q] at h2';exact congrArg some h2'
       obtain⟨c1,c2,c3⟩:=S.cap i j x e h1
       obtain⟨m,hn,hl⟩:=I2.loc
       have vis:DM X.env.scope x:=by
         rcases c2 with z|z
         · exact .inr (.inl z)
         · exact .inr (.inr z)
       obtain⟨u,r,l⟩:=hl j x v c1 hj vis
       refine⟨u,r,.inr ⟨c3,?_⟩⟩
       obtain⟨c,hc'⟩:=S.has x c3
       refine⟨c,hc',?_⟩
       rcases l with⟨z,_⟩|⟨_,c',e',z⟩
       · rcases c2 with y|y <;>rw[y] at z <;>cases z
       · rw[S.sub x c hc'] at e'
         cases e'
         obtain⟨o,ho,hd⟩:=z
         exact⟨o,old _ _ ho,hd⟩
  ·obtain⟨v,o,ho,hd⟩:=I2.cell x c (S.sub x c h)
   exact⟨v,o,old _ _ ho,hd⟩
  ·obtain⟨v,o,ho,hd⟩:=I2.cell x c (S.sub x c h)
   rw[bf (Nat.ne_of_lt (Heap.lt_size ho))]
   exact I2.freeC x c (S.sub x c h)
 have stat:∀{pins':List (Addr×Obj)} {H':Hp},pins'= []->(∀b∈fp,H' b=none)->∀b∈fp,mH (aV X N scope cl P2.objs.size s2 H2 fp) pins' H' b:=fun{pins' H'} ep hn b hb=>by
  subst ep
  refine⟨hn b hb,below b (fpo b hb),fun z=>ok'.exfs b hb z,.inl hb,fun x c h=>(f2 b hb).2.2.2.2.1 x c (S.sub x c h),fun p hp=>absurd (show p∈([]:List (Addr×Obj)) from hp) (by simp)⟩
 have loop:codeAny (model X.prog X.w) X.A (.compLoop (.DictComp kx vx [⟨tg,iter,ifs,0⟩] scope pos) 0 (.ref it) (.ref s2.heap.objs.size) (compEnvC scope cl P2.objs.size X.env))
   (compPost (model X.prog X.w) X.A X.xe (some fun v=>assignAll v [assign tgt X.env]) (fun _ s9=>wpAny (model X.prog X.w) X.A (pure ()) (fun _ s10=>wpAny (model X.prog X.w) X.A (pure Flow.next) (SP X pins Dn) X.xe s10) X.xe s9) (.ref s2.heap.objs.size) P2.objs.size) {s2 with heap:=h₁,toks:=s2.toks+([]:List (Str×Value)).length}:=by
  refine rX (fun n s'=>∃i σ' H',Inv (aV X N scope cl P2.objs.size s2 H2 fp) [] σ' H' s'/\tn i s'.heap/\(∀b∈fp,H' b=none)/\W i n σ' H') ?_ m0
   ⟨0,_,_,I4,T.keep _ _ _ st2 fun b _ o e=>old b o e,fun b hb=>by rw[bf (Nat.ne_of_lt (fpo b hb))];exact(f2 b hb).1,w0⟩
  rintro n s3 ⟨i,σ3,H3,I3,st3,fr3,w3⟩
  rcases turn i n σ3 H3 w3 with⟨stop,q⟩|⟨go,Nx,hN,step⟩
  ·refine cG (T.done (aV X N scope cl P2.objs.size s2 H2 fp) rfl rfl rfl hc i [] s3 σ3 H3 _ I3 (stat rfl fr3) st3 stop) fun r s4 qr=> ?_
   obtain⟨hr,I5⟩:=qr
   subst hr
   obtain⟨m,hn,_⟩:=id I5.loc
   have toX:∀h',Heap.SameBut P2.objs.size s4.heap h'->Inv X pins σ H3 {s4 with heap:=h'}:=by
    intro h' hs'
    have u:=I5.base
    have ne:∀b o,s2.heap.get? b=some o->b≠P2.objs.size:=fun b o e=>below b (Heap.lt_size e)
    refine I2.call' (ch:=fp) I5.os ⟨fun b o e n hb hx=>(hs'.2 b (ne b o e)).trans (u.keep b o e n hb hx),fun b o e n hb hx=> ?_,u.free,fun b o e hx=> ?_,u.tups,u.frzs,u.tbls⟩ (fun b ob e=> ?_) I5.bare fun b hb=>⟨(f2 b hb).2.2.2.1,(f2 b hb).2.1,(f2 b hb).2.2.2.2.1,(f2 b hb).2.2.2.2.2⟩
    ·obtain⟨sl,e1⟩:=u.slot b o e n hb hx
     exact⟨sl,(hs'.2 b (ne b o e)).trans e1⟩
    ·obtain⟨o',e1⟩:=u.there b o e hx
     exact⟨o',(hs'.2 b (ne b o e)).trans e1⟩
    ·refine(I5.hok b ob e).stay (fun c w' hc q=>(hs'.2 c ?_).trans q) (fun _ q=>q) fun _ _ q=>q
     have fC:H3 P2.objs.size=none:=I5.free
     rintro rfl
     rcases hc with z|z
     ·rw[←z,fC] at e;cases e
     ·rw[fC] at z;cases z
   have IX:=toX s4.heap ⟨rfl,fun _ _=>rfl⟩
   have okC:mH X pins H3 P2.objs.size:=I2.fpOk hCle I5.free
   obtain⟨oC,es,ep,hoC,hdC,hrC⟩:=hn
   have IP:=IX.pinned (fp:= [P2.objs.size]) (fun b hb=>by rw[List.mem_singleton] at hb;rw[hb];exact okC) (fun b hb=>by rw[List.mem_singleton] at hb;rw[hb];exact⟨oC,hoC,fun v=>by rw[hdC];simp⟩)
   show wpAny _ _ (assignAll (.ref s2.heap.objs.size) [assign tgt X.env]) _ _ _
   rw[assignAll.eq_2]
   refine cG (hgt _ s4 σ H3 (.ref s2.heap.objs.size) (.ref s2.heap.objs.size) _ IP rfl q) fun _ s6 qr=> ?_
   obtain⟨σ6,H6,I6,q6⟩:=qr
   have pC:=I6.pin (P2.objs.size,oC) (List.mem_append_right _ (List.mem_append_right _ (dh (List.mem_singleton.mpr rfl) hoC)))
   refine⟨m,⟨oC,es,ep,pC.1,hdC,hrC⟩,fun h' hs'=>wpAny_pure (wpAny_pure ⟨σ6,H6,?_,q6⟩)⟩
   exact I6.unpinned.turned (it:=P2.objs.size) (t':=s6.toks) (fun b o' hb e=>(hs'.2 b hb).trans e) pC.2.1 pC.2.2.1 okC.2.2.2.1 okC.2.2.2.2.1 okC.2.2.2.2.2
  ·refine cG (T.item (aV X N scope cl P2.objs.size s2 H2 fp) rfl rfl rfl hc i [] s3 σ3 H3 _ I3 (stat rfl fr3) st3 go) fun r s4 qr=> ?_
   obtain⟨u,hr,h4⟩:=qr
   subst hr
   refine cG h4 fun _ s5 qr=> ?_
   obtain⟨x,H5,I5,r5,y5,st5,fr5⟩:=qr
   have I5':=I5.pinned (stat rfl fr5) (T.obj _ _ st5)
   refine cG (hg P2.objs.size s2 H2 fp _ s5 σ3 H5 x u _ I5' r5 (step x H5 y5)) fun _ s6 qr=> ?_
   obtain⟨σ6,H6,I6,q6⟩:=qr
   refine cG (ht P2.objs.size s2 H2 fp _ s6 σ6 H6 _ I6 q6) fun ok s7 qr=> ?_
   obtain⟨H7,I7,q7⟩:=qr
   have again:∀{s8:Shared} {H8:Hp},Inv (aV X N scope cl P2.objs.size s2 H2 fp) ([]++kJ fp s5.heap) σ6 H8 s8->Nx σ6 H8->∃m,m<n/\∃i σ' H',Inv (aV X N scope cl P2.objs.size s2 H2 fp) [] σ' H' s8/\tn i s8.heap/\(∀b∈fp,H' b=none)/\W i m σ' H':=fun{s8 H8} I8 n8=>by
    obtain⟨m',hm,w8⟩:=hN σ6 H8 n8
    refine⟨m',hm,i+1,σ6,H8,I8.unpinned,T.keep _ _ _ st5 fun b hb o e=>(I8.pin (b,o) (List.mem_append_right _ (List.mem_append_right _ (dh hb e)))).1,fun b hb=> ?_,w8⟩
    obtain⟨o,e,d⟩:=T.obj _ _ st5 b hb
    exact(I8.pin (b,o) (List.mem_append_right _ (List.mem_append_right _ (dh hb e)))).2.1
   cases ok with
   |false=>exact again I7 q7
   | true=>
     refine cG (hk P2.objs.size s2 H2 fp _ s7 σ6 H7 _ I7 q7) fun kv s8 qr=> ?_
     obtain⟨k,H8,I8,rk,q8⟩:=qr
     refine cG (hv P2.objs.size s2 H2 fp _ s8 σ6 H8 _ I8 q8) fun yv s9 qr=> ?_
     obtain⟨y,H9,I9,ry,kvs,ky,ek,hx,hl,n9⟩:=qr
     subst ek
     obtain⟨z,hd,vs,rel,dd⟩:=yf I9.hok hx
     refine wpAny_dictSet_pairs (wA rk) dd (fun h' dd' hs'=> ?_) (by rw[←rel.length];exact z)
     have he:∃q,h'.get? s2.heap.objs.size=some q:=let ⟨q,_,_,hq,_⟩:=dd';⟨q,hq⟩
     have hl':=g5 kvs ky y
     exact again (oW I9 (by rw[hx];exact True.intro) hs' he (pO (by omega) hd (rel.put ky ry) dd')) n9
 exact codeAny_compStart_dict loop (T.self _ 0 _ _ _ (T.keep _ _ _ st2 fun b _ o e=>old b o e) loop)
end L2
namespace DL
open PySem PySem.Spec PyProof.Rows L2
section
variable{M:Md}{ρ:List Addr}{H:Hp}{b:Addr}{us:List (Key×V)}{o:HO}
theorem ft.offK{S:aA}(st:ft M ρ S H)(hb:H b=some (.dK us))(n:b∉ρ):ft M ρ S (upd H b o):=⟨st.len,st.nd,fun k a p h1 h2=>by
 have q:=st.obj k a p h1 h2
 have ab:a≠b:=fun z=>n (z▸mQg h1)
 cases p with
 |lst ds=>obtain⟨vs,q1,q2⟩:=q;exact⟨vs,by rw[bf ab];exact q1,q2.offK hb⟩
 |frz ds=>obtain⟨vs,o,q1,q2⟩:=q;exact⟨vs,o,by rw[bf ab];exact q1,q2.offK hb⟩
 |dct kvs=>obtain⟨kv,q1,q2⟩:=q;exact⟨kv,by rw[bf ab];exact q1,q2.imp fun _ _ r=>r.offK hb⟩⟩
theorem En.offK{Γ:cE}{σ:L2.St}(h:En M ρ H Γ σ)(hb:H b=some (.dK us)):En M ρ (upd H b o) Γ σ:=⟨h.len,fun i d q=>by obtain⟨v,h1,h2⟩:=h.get i d q;exact⟨v,h1,h2.offK hb⟩⟩
end
open Classical in
noncomputable def g8(g:lu)(t:i6)(fk fv:bq)(W:aA->Prop):List D->cE->aA->List (Key×D)->Option (List (Key×D)×aA)
 | [],Γ,S,acc=>if W S then some (acc,S) else none
 |d ::ds,Γ,S,acc=>if W S then(g d Γ S).bind fun(Γ1,S1)=>(t Γ1 S1).bind fun(k,S2)=>
    if k=true then(fk Γ1 S2).bind fun(x,S3)=>(fv Γ1 S3).bind fun(y,S4)=>(rP x).bind fun kk=>if acc.length<sizeLine then g8 g t fk fv W ds Γ1 S4 (putD acc kk y) else none
    else g8 g t fk fv W ds Γ1 S2 acc
  else none
noncomputable def qG(js:List (Option Nat))(i:wR)(g:lu)(t:i6)(fk fv:bq):cE->aA->Option (List (Key×D)×aA):=fun Γ S=>(i Γ S).bind fun(p,S1)=>g8 g t fk fv p.2 p.1 (lj js Γ) S1 []
theorem Dt{M:Md}{js:List (Option Nat)}{i:wR}{g:lu}{t:i6}{fk fv:bq}{σ:L2.St}{H:Hp}{Q:VK}{ρ:List Addr}{Γ:cE}{S S':aA}{l:List (Key×D)}(ok:Ok M ρ Γ S σ H)(e:qG js i g t fk fv Γ S=some (l,S'))
  (q:∀ρ' a kv H',bT ρ H ρ' H'->ft M ρ' S' H'->H a=none->a∉ρ'->H' a=some (.dK kv)->cf M ρ' H' l kv->Q (.ref a) H'):Am js (tI M i) (tG M g) (tB M t) (tD M fk) (tD M fv) σ H Q:=by
 obtain⟨⟨⟨ds,W⟩,S1⟩,e1,e⟩:=bind_some e
 refine⟨ρ,Γ,S,ds,W,S1,ok,e1,fun ρ1 J H1 x1 st1 wk D hD=> ?_⟩
 have n1:D∉ρ1:=cM x1 st1 hD
 have ok1:Ok M ρ1 (lj js Γ) S1 (iL js σ) (upd H1 D (.dK [])):=⟨((ok.en.ext x1).ext (bT.laid hD)).sig js,st1.lay hD⟩
 refine⟨fun i m σ' H'=>m=ds.length-i/\i<=ds.length/\∃ρ2 Γ2 S2 acc vs,bT ρ1 H1 ρ2 H'/\Ok M ρ2 Γ2 S2 σ' H'/\D∉ρ2/\H' D=some (.dK vs)/\cf M ρ2 H' acc vs/\g8 g t fk fv W (ds.drop i) Γ2 S2 acc=some (l,S'),
  ⟨ds.length,by simp,Nat.zero_le _,ρ1,_,S1,[],[],bT.laid hD,ok1,n1,bA,rfl,e⟩,?_⟩
 rintro i m σ2 H2 ⟨rfl,hi,ρ2,Γ2,S2,acc,vs,x2,ok2,n2,hD2,racc,e2⟩
 by_cases hlt:i<ds.length
 ·have hd:ds[i]?=some ds[i]:=gQe hlt
  rw[List.drop_eq_getElem_cons hlt] at e2
  unfold g8 at e2
  split at e2
  ·rename_i w
   obtain⟨w1,w2⟩:=wk i ρ2 S2 H2 x2 ok2.st w
   obtain⟨go,yld⟩:=w1 _ hd
   refine .inr ⟨go,fun σ' H'=>∃ρ' Γ' S'' acc vs,bT ρ1 H1 ρ' H'/\Ok M ρ' Γ' S'' σ' H'/\D∉ρ'/\H' D=some (.dK vs)/\cf M ρ' H' acc vs/\g8 g t fk fv W (ds.drop (i+1)) Γ' S'' acc=some (l,S'),
    fun σ' H' ⟨ρ',Γ',S'',acc,vs,h1,h2,h3,h4,h5,h6⟩=>⟨ds.length-(i+1),by omega,rfl,hlt,ρ',Γ',S'',acc,vs,h1,h2,h3,h4,h5,h6⟩,fun x H3 hy=> ?_⟩
   obtain⟨x3,st3,r3⟩:=yld x H3 hy
   obtain⟨⟨Γ4,S4⟩,e4,e5⟩:=bind_some e2
   refine⟨ρ2,Γ2,S2,_,Γ4,S4,ok2.to x3 st3,r3,e4,fun ρ4 σ4 H4 x4 ok4=> ?_⟩
   obtain⟨⟨k,S5⟩,e6,e7⟩:=bind_some e5
   refine⟨ρ4,Γ4,S4,k,S5,ok4,e6,fun ρ5 H5 x5 st5=> ?_⟩
   have x25:=(x3.trans x4).trans x5
   have keep:∀{ρ' H'},bT ρ2 H2 ρ' H'->H' D=some (.dK vs)/\D∉ρ':=fun{ρ' H'} x=>⟨x.keep _ _ hD2 (.inl n2),fun m=>(x.new _ m).elim n2 fun z=>by rw[z] at hD2;cases hD2⟩
   dsimp only at e7⊢
   split at e7
   ·rename_i ck
    rw[if_pos ck]
    obtain⟨⟨kx,S6⟩,e8,e9⟩:=bind_some e7
    obtain⟨⟨y,S7⟩,e10,e11⟩:=bind_some e9
    obtain⟨kk,e12,e13⟩:=bind_some e11
    refine⟨ρ5,Γ4,S5,kx,S6,ok4.to x5 st5,e8,fun ρ6 kv H6 x6 st6 r6=>⟨ρ6,Γ4,S6,y,S7,(ok4.to x5 st5).to x6 st6,e10,fun ρ7 v H7 x7 st7 r7=> ?_⟩⟩
    have x27:=(x25.trans x6).trans x7
    obtain⟨hD7,n7⟩:=keep x27
    have racc7:=racc.ext' x27
    split at e13
    ·rename_i cl
     refine⟨vs,kk,oX r6 e12,hD7,by rw[←racc.length];exact cl,ρ7,Γ4,S7,putD acc kk y,_,(x2.trans x27).off hD _,⟨(((ok4.en.ext x5).ext x6).ext x7).offK hD7,st7.offK hD7 n7⟩,n7,bA,(racc7.put r7).imp fun _ _ r=>r.offK hD7,e13⟩
    ·cases e13
   ·rename_i ck
    rw[if_neg ck]
    obtain⟨hD5,n5⟩:=keep x25
    exact⟨ρ5,Γ4,S5,acc,vs,x2.trans x25,ok4.to x5 st5,n5,hD5,racc.ext' x25,e7⟩
  ·cases e2
 ·have e3:i=ds.length:=by omega
  subst e3
  rw[List.drop_length] at e2
  unfold g8 at e2
  split at e2
  ·rename_i w
   obtain⟨rfl,rfl⟩:=cu e2
   obtain⟨w1,w2⟩:=wk ds.length ρ2 S2 H2 x2 ok2.st w
   exact .inl ⟨w2 rfl,q ρ2 D vs H2 (x1.trans x2) ok2.st (x1.grow _ hD) n2 hD2 racc⟩
  ·cases e2
noncomputable def G5(n:Nat)(f:cE->aA->Option (List (Key×D)×aA)):cH:=fun Γ S=>(f Γ S).bind fun(l,S1)=>some (.nx (Γ.set n (some (.ref S1.length))) (S1++ [.dct l]))
section
variable{X:Cx}{pos:Pos}
theorem CM{N:List Str}{js:List (Option Nat)}{scope:Scope}{cl:List (Str×Addr)}{tg iter kx vx tgt:Expr}{ifs:List Expr}{i:wR}{g:lu}{t:i6}{fk fv:bq}{n:Nat}{spos:Pos}
  (S:aQ X N js scope cl) (hc:X.calm=true) (hi:PI X tg iter (tI (md X) i))
  (hg:∀C s H fp,PG (aV X N scope cl C s H fp) tg (tG (md X) g)) (ht:∀C s H fp,oP (aV X N scope cl C s H fp) ifs (tB (md X) t)) (hk:∀C s H fp,PE (aV X N scope cl C s H fp) kx (tD (md X) fk)) (hv:∀C s H fp,PE (aV X N scope cl C s H fp) vx (tD (md X) fv)) (hgt:PG X tgt (qd n))
  (hs:∀x,foldedSetIterable iter X.env x=pure x:=by intro _;rfl) (hsw:swapsWithSole [tgt] (.DictComp kx vx [⟨tg,iter,ifs,0⟩] scope pos) spos.line X.env=pure true:=by rfl)
  (h1:(assignEach [tgt] X.env).map (·.2)= [assign tgt X.env]:=by rfl):PS X (.Assign [tgt] (.DictComp kx vx [⟨tg,iter,ifs,0⟩] scope pos) spos) (tS (md X) (G5 n (qG js i g t fk fv))):=
 yj (Bf S hc hi hg ht hk hv hgt hs hsw h1) fun D σ H qq=>by
  obtain⟨ρ,Γ,S,o,ok,e,q⟩:=qq
  obtain⟨⟨l,S1⟩,e1,e⟩:=bind_some e
  cases e
  refine Dt ok e1 fun ρ' a kv H' x st fr nr ha rs=> ?_
  have st':=st.box (o:=.dct l) nr ⟨kv,ha,rs.pre' (List.prefix_append ρ' [a])⟩
  have x':bT ρ H (ρ'++ [a]) H':=⟨x.pre.trans (List.prefix_append _ _),fun b hb=>by
   rcases mQa.mp hb with hb|hb
   ·exact x.new b hb
   ·rw[List.mem_singleton] at hb;subst hb;exact .inr fr,x.keep,x.grow⟩
  refine q (ρ'++ [a]) _ H' x' ⟨((ok.en.ext x').set (.ref ?_)),st'⟩
  rw[←st.len,List.getElem?_append_right (Nat.le_refl _)]
  simp
end
end DL
namespace Zp
open PySem PySem.W PyProof.Rows
def ig(lt:Nat->Nat->Bool):KasT (Array Nat)->Array Nat
 |.ret p=>p
 |.ask i j k=>ig lt (k (lt i j))
theorem gF(lt:Nat->Nat->Bool):∀t:KasT (Array Nat),ig lt t∈nj t
 |.ret p=>by simp[ig,nj]
 | .ask i j k=>by
   unfold ig nj
   cases lt i j with
   |true=>exact List.mem_append_left _ (gF lt (k true))
   |false=>exact List.mem_append_right _ (gF lt (k false))
theorem u4{cmp:Nat->Nat->(Bool->Shared->Prop)->Shared->Prop}{Q:Array Nat->Shared->Prop}{s:Shared}{n:Nat}{lt:Nat->Nat->Bool}(hc:∀i j C,i<n->j<n->i≠j->C (lt i j) s->cmp i j C s):
  ∀t:KasT (Array Nat),ql n t=true->Q (ig lt t) s->t.kasWp cmp Q s
 |.ret p,_,h=>h
 | .ask i j k,ha,h=>by
   simp only[ql,Bool.and_eq_true,decide_eq_true_eq] at ha
   obtain⟨⟨⟨⟨h1,h2⟩,h3⟩,h4⟩,h5⟩:=ha
   refine hc i j _ h1 h2 h3 ?_
   cases e:lt i j with
   |true=>exact u4 hc (k true) h4 (by unfold ig at h;rw[e] at h;exact h)
   |false=>exact u4 hc (k false) h5 (by unfold ig at h;rw[e] at h;exact h)
def FA(fs:List Str)(i j:Nat):Bool:=decide ((fs.getD i "").cps.toList<(fs.getD j "").cps.toList)
def sortBy{α:Type}(fs:List Str)(d:α)(xs:List α):List α:=if xs.length<2 then xs else(ig (FA fs) (kas_sort xs.length)).toList.map fun i=>xs.getD i d
theorem d_{α:Type}{d:α}(fs:List Str)(xs:List α)(h:xs.length<=3):(sortBy fs d xs).Perm xs:=by
 unfold sortBy
 split
 ·exact List.Perm.refl _
 ·rename_i h2
  obtain⟨_,perm⟩:=oQ xs.length h (by omega)
  have hp:(ig (FA fs) (kas_sort xs.length)).toList.Perm (List.range xs.length):=List.isPerm_iff.mp (List.all_eq_true.mp perm _ (gF _ _))
  have e:(List.range xs.length).map (fun i=>xs.getD i d)=xs:=by
   apply List.ext_getElem
   ·simp
   ·intro i h1 h2
    simp[List.getD_eq_getElem?_getD,h2]
  have:=hp.map fun i=>xs.getD i d
  rw[e] at this
  exact this
section
variable{prog:Program}{w:World}{A:Around}{E:Value->Shared->Prop}{s:Shared}
theorem xI{a:Addr}{vs:List Value}{fs:List Str}{n:Nat}{P:PySem.Fin->Shared->Prop}(ho:s.heap.get? a=some (seqObj "list" vs.toArray n))(h3:vs.length<=3)(ht:ee s.heap vs fs)(hd:fs.Nodup)
  (q:∀out:Array Value,out.toList=sortBy fs Value.none vs->P (.done (.ret .none)) {s with heap:=sortedHeap s.heap a vs out}):wpAny (model prog w) A (Builtin.«list.sort» ⟨[.ref a],[]⟩) P E s:=by
 rw[list_sort_plain]
 have ha:a<s.heap.objs.size:=Heap.lt_size ho
 refine wpAny_bind (listItems_at ho rfl (wpAny_bind (listUpdate_at ho rfl ?_ (by rw[List.size_toArray,sizeLine_eq];omega) (Nat.zero_le _))))
 obtain⟨e1,ho1⟩:∃e1,(s.heap.update a (Obj.mapSeq fun _=> #[])).get? a=some (seqObj "list" #[] e1):=⟨_,get?_update_seq ho (fun _=> #[])⟩
 refine wpAny_bind (seqEpoch_at ho1 rfl (wpAny_bind (wpAny_newTuple ?_ (by show vs.length<=_;rw[sizeLine_eq];omega))))
 refine wpAny_bind (wpAny_newList (wpAny_holding ?_) (Nat.zero_le _))
 have ho6:(((s.heap.update a (Obj.mapSeq fun _=> #[])).push (seqObj "tuple" vs.toArray 0)).push (seqObj "list" #[] 0)).get? a=some (seqObj "list" #[] e1):=Heap.get?_push_of_some _ (Heap.get?_push_of_some _ ho1)
 have ht6:ee (((s.heap.update a (Obj.mapSeq fun _=> #[])).push (seqObj "tuple" vs.toArray 0)).push (seqObj "list" #[] 0)) vs fs:=ht.keep fun b o e c=>by
  have nb:b≠a:=fun z=>by rw[z,ho] at e;cases e;simp[seqObj] at c
  exact Heap.get?_push_of_some _ (Heap.get?_push_of_some _ (by rw[Heap.get?_update_ne _ _ _ _ nb];exact e))
 refine(?_:wpAny (model prog w) A _ P E {s with heap:=((s.heap.update a (Obj.mapSeq fun _=> #[])).push (seqObj "tuple" vs.toArray 0)).push (seqObj "list" #[] 0)})
 dsimp only
 by_cases h2:vs.toArray.size<2
 ·rw[if_pos h2,if_pos h2]
  refine wpAny_bind (wpAny_pure ?_)
  rw[StateT.run_pure]
  refine wpAny_bind (wpAny_pure ?_)
  dsimp only
  have e2:((vs.toArray.zip vs.toArray).map (·.2))=vs.toArray:=by
   apply Array.toList_inj.mp
   simp
   exact List.map_snd_zip (Nat.le_refl _)
  refine wpAny_bind (seqEpoch_at ho6 rfl (wpAny_bind (listUpdate_at ho6 rfl ?_ (hsz2:=by
   refine Nat.le_trans (Nat.le_of_eq (congrArg Array.size e2)) ?_
   rw[List.size_toArray,sizeLine_eq]
   omega))))
  simp only[bne_self_eq_false,Bool.false_eq_true,if_false]
  refine wpAny_pure ?_
  have:=q vs.toArray (by unfold sortBy;rw[if_pos (by simpa using h2)])
  rw[←e2] at this
  exact this
 ·rw[if_neg h2,if_neg h2]
  have hn:2<=vs.length:=by simpa using h2
  obtain⟨gs,kt,lg,mg⟩:=ht6.firsts
  have lf:=ht.len
  refine wpAny_bind (kat_kind (T:=.type "str") kt (by omega) (fun v hv=> ?_) rfl ?_)
  ·obtain⟨x,t,rfl⟩:=mg v hv
   exact .now
  obtain⟨ok,perm⟩:=oQ vs.length h3 hn
  have est:SortSt.mk' (tuples' true) (vs.toArray.zip vs.toArray) #[] 7 none=kas_st (tuples' true) (pairsOf vs) (List.toArray (List.range vs.length)):=by
   have e:=kas_range (pairsOf vs)
   rw[pairsOf_size] at e
   refine(?_:SortSt.mk' (tuples' true) (pairsOf vs) #[] 7 none=SortSt.mk' (tuples' true) ((List.toArray (List.range vs.length)).map (kas_item (pairsOf vs))) #[] 7 none)
   rw[e]
  refine(?_:wpAny (model prog w) A (StateT.run sortRuns' (SortSt.mk' (tuples' true) (vs.toArray.zip vs.toArray) #[] 7 none) >>= _) P E _)
  rw[est]
  have run:=kas_runs (prog:=prog) (w:=w) (A:=A) (E:=E) (κ:=tuples' true) (it:=pairsOf vs) (n:=vs.length)
   (s:={s with heap:=((s.heap.update a (Obj.mapSeq fun _=> #[])).push (seqObj "tuple" vs.toArray 0)).push (seqObj "list" #[] 0)})
   (G:=fun p s'=>p=ig (FA fs) (kas_sort vs.length)/\s'={s with heap:=((s.heap.update a (Obj.mapSeq fun _=> #[])).push (seqObj "tuple" vs.toArray 0)).push (seqObj "list" #[] 0)})
   (Q:=fun _ st' s'=>s'={s with heap:=((s.heap.update a (Obj.mapSeq fun _=> #[])).push (seqObj "tuple" vs.toArray 0)).push (seqObj "list" #[] 0)}/\failedOf st'=none/\∃p,p=ig (FA fs) (kas_sort vs.length)/\arrOf st'=p.map (kas_item (pairsOf vs)))
   hn (by omega) (fun p' st' s' a1 a2 a3 a4=>⟨a4.2,a3,p',a4.1,a2⟩) (u4 (n:=vs.length) (fun i j C hi hj hij hC=> ?_) _ ok ⟨rfl,rfl⟩)
  ·refine wpAny_bind (wpAny_mono run ?_ fun _ _ e=>e)
   rintro⟨⟨⟩,st'⟩ s' ⟨rfl,hf,p,hp,har⟩
   dsimp only
   have hout:((arrOf st').map (·.2)).toList=sortBy fs Value.none vs:=by
    unfold sortBy
    rw[if_neg (by omega),har,Array.map_map,Array.toList_map,hp]
    refine List.map_congr_left fun k _=> ?_
    show(kas_item (pairsOf vs) k).2=_
    rw[kas_item_eq]
   have hperm2:=d_ (d:=Value.none) fs vs h3
   have hsz:((arrOf st').map (·.2)).size=vs.length:=by
    have:=congrArg List.length hout
    rw[hperm2.length_eq] at this
    simpa using this
   refine wpAny_bind (seqEpoch_at ho6 rfl (wpAny_bind (listUpdate_at ho6 rfl ?_ (hsz2:=by
    refine Nat.le_trans (Nat.le_of_eq hsz) ?_
    rw[sizeLine_eq]
    omega))))
   rw[hf]
   simp only[bne_self_eq_false,Bool.false_eq_true,if_false]
   exact wpAny_pure (q _ hout)
  ·unfold kas_cmp
   rw[kas_item_eq,kas_item_eq]
   obtain⟨x,ox,xs,nx,tx,ex,gx,dx,fx⟩:=ht6.get (i:=i) (by omega)
   obtain⟨y,oy,ys,ny,ty,ey,gy,dy,fy⟩:=ht6.get (i:=j) (by omega)
   dsimp only
   rw[ex,ey]
   have hne:¬fs.getD i ""=fs.getD j "":=fun z=>by
    have hi':i<fs.length:=by omega
    have hj':j<fs.length:=by omega
    rw[List.getD_eq_getElem?_getD,List.getD_eq_getElem?_getD,gQe hi',gQe hj'] at z
    have z':fs[i]=fs[j]:=z
    rcases Nat.lt_or_gt_of_ne hij with lt|lt
    ·exact List.pairwise_iff_getElem.mp hd i j hi' hj' lt z'
    ·exact List.pairwise_iff_getElem.mp hd j i hj' hi' lt z'.symm
   refine kat_lt gx dx gy dy ?_
   obtain⟨xr,hxr⟩:∃r,xs.toList=.str (fs.getD i "") tx::r:=by
    cases e:xs.toList with
    |nil=>have:=congrArg (·[0]?) e;simp[fx] at this
    |cons v r=>have:=congrArg (·[0]?) e;simp[fx] at this;exact⟨r,by rw[List.getD_eq_getElem?_getD,this]⟩
   obtain⟨yr,hyr⟩:∃r,ys.toList=.str (fs.getD j "") ty::r:=by
    cases e:ys.toList with
    |nil=>have:=congrArg (·[0]?) e;simp[fy] at this
    |cons v r=>have:=congrArg (·[0]?) e;simp[fy] at this;exact⟨r,by rw[List.getD_eq_getElem?_getD,this]⟩
   rw[hxr,hyr,List.zip_cons_cons]
   refine kat_cons (wpAny_eqBool_str ?_)
   rw[decide_eq_false hne]
   exact kat_no (oneLt_str hC)
theorem uM{l:Addr}{vs:List Value}{fs:List Str}{Q:Value->Shared->Prop}(hl:s.heap.IsList l vs.toArray)(h3:vs.length<=3)(ht:ee s.heap vs fs)(hd:fs.Nodup)
  (q:∀out:Array Value,out.toList=sortBy fs Value.none vs->Q (.ref (s.heap.objs.size+1)) {s with heap:=sortedAll s.heap vs out}):wpAny (model prog w) A (call (.builtin "sorted") [.ref l]) Q E s:=by
 refine Calls.call_function_entry kind_sorted plain_sorted entry_sorted (args_sorted1 _) ?_
 unfold Builtin.«sorted»
 refine wpAny_bind (m:=checkCount "sorted" 1 1 _) (wpAny_pure (wpAny_bind (collect_list hl (wpAny_bind (wpAny_newList ?_ (by rw[sizeLine_eq];omega))) (by rw[sizeLine_eq];omega))))
 have sz:((s.heap.push (seqObj "list" #[] 0)).update s.heap.objs.size (Obj.mapSeq (·++vs.toArray))).objs.size=s.heap.objs.size+1:=by rw[Heap.size_update,size_push']
 have gl:(((s.heap.push (seqObj "list" #[] 0)).update s.heap.objs.size (Obj.mapSeq (·++vs.toArray))).push (seqObj "list" vs.toArray 0)).get? (s.heap.objs.size+1)=some (seqObj "list" vs.toArray 0):=by
  rw[←sz]
  exact Heap.get?_push_size _ rfl
 have ht':ee (((s.heap.push (seqObj "list" #[] 0)).update s.heap.objs.size (Obj.mapSeq (·++vs.toArray))).push (seqObj "list" vs.toArray 0)) vs fs:=ht.keep fun b o e _=>by
  have lt:b<s.heap.objs.size:=Heap.lt_size e
  refine Heap.get?_push_of_some _ ?_
  rw[Heap.get?_update_ne _ _ _ _ (Nat.ne_of_lt lt)]
  exact Heap.get?_push_of_some _ e
 refine(?_:wpAny _ _ _ _ _ {s with heap:=((s.heap.push (seqObj "list" #[] 0)).update s.heap.objs.size (Obj.mapSeq (·++vs.toArray))).push (seqObj "list" vs.toArray 0)})
 rw[sz]
 refine wpAny_bind (wpAny_holding (wpAny_call_entry slot_list_sort ⟨_,gl,rfl⟩ entry_list_sort (xI gl h3 ht' hd fun out hp=>⟨_,rfl,?_⟩) (args_list_sort _)))
 exact wpAny_pure ⟨_,rfl,q out hp⟩
end
end Zp
namespace L2
open PySem PySem.Spec PyProof.Rows
section
variable{X:Cx}
def CN(K:PySem.W.Frag):List V->Hp->VK->Prop:=fun xs H Q=>∃(a:Addr) (rs:List Addr) (ss:List Str),xs= [.ref a]/\hG K H a (rs.map V.ref)/\rs.length<=3/\sY H rs ss/\ss.Nodup/\∀(l:Addr),H l=none->Q (.ref l) (upd H l (.lst ((Zp.sortBy ss 0 rs).map V.ref)))
theorem rF:gC X (.builtin "sorted") (CN X.K):=by
 intro pins s σ H xs us Q I r h
 obtain⟨a,rs,ss,rfl,ha,h3,hF,hd,q⟩:=h
 obtain⟨u,rfl,rx⟩:=vals1 r
 cases (show u=Value.ref a from rx)
 obtain⟨its,rv,pl,hz⟩:=I.list ha
 cases sQ rv
 have big:s.heap.objs.size<=s.heap.objs.size+1:=Nat.le_succ _
 refine Zp.uM pl.isList (by simpa using h3) (vN I hF) hd fun out hp=> ?_
 have e1:out.toList=(Zp.sortBy ss 0 rs).map Value.ref:=by
  rw[hp]
  unfold Zp.sortBy
  rw[lQm]
  split
  ·rfl
  ·rename_i h2
   rw[List.map_map]
   obtain⟨_,perm⟩:=Zp.oQ rs.length h3 (by omega)
   have hperm:(Zp.ig (Zp.FA ss) (PySem.W.kas_sort rs.length)).toList.Perm (List.range rs.length):=List.isPerm_iff.mp (List.all_eq_true.mp perm _ (Zp.gF _ _))
   refine List.map_congr_left fun i hi=> ?_
   have hl:i<rs.length:=List.mem_range.mp (hperm.mem_iff.mp hi)
   show(rs.map Value.ref).getD i Value.none=Value.ref (rs.getD i 0)
   rw[List.getD_eq_getElem?_getD,List.getD_eq_getElem?_getD,gQm,gQe hl]
   rfl
 obtain⟨e,he⟩:=sortedAll_at s.heap (rs.map Value.ref) out
 refine⟨.ref (s.heap.objs.size+1),_,I.laid (a:=s.heap.objs.size+1) (o:=.lst ((Zp.sortBy ss 0 rs).map V.ref)) (h':=sortedAll s.heap (rs.map Value.ref) out) (t':=s.toks) (fun b o hb=>sortedAll_old hb) big ⟨?_,out.toList,e,?_,?_⟩,rfl,q _ (I.hok.fresh big)⟩
 ·rw[lQm,(Zp.d_ ss rs h3).length_eq]
  exact Nat.le_trans h3 (by decide)
 ·have:=pB (Zp.sortBy ss 0 rs)
  rw[←e1] at this
  exact this
 ·simpa using he
end
end L2
namespace DL
open PySem PySem.Spec PyProof.Rows L2
def sy(a b:Str):Prop:=¬(b.cps.toList<a.cps.toList)
instance(a b:Str):Decidable (sy a b):=by unfold sy;infer_instance
theorem zz(a b:Str):sy a b\/sy b a:=by
 by_cases h:b.cps.toList<a.cps.toList
 ·exact .inr fun h'=>List.lt_asymm h h'
 ·exact .inl h
theorem tq{a b c:Str}(h1:sy a b)(h2:sy b c):sy a c:=by
 unfold sy at *
 rw[List.not_lt] at *
 exact List.le_trans h1 h2
theorem AZ{a b:Str}(h1:sy a b)(h2:sy b a):a=b:=by
 unfold sy at *
 rw[List.not_lt] at *
 have:=List.le_antisymm h1 h2
 cases a
 cases b
 simp only[Str.mk.injEq]
 exact Array.toList_inj.mp this
def xD(x:Str):List Str->List Str
 | []=> [x]
 |y::r=>if sy x y then x::y::r else y::xD x r
def ni:List Str->List Str
 | []=> []
 |x::r=>xD x (ni r)
theorem mG(x:Str):∀l:List Str,(xD x l).Perm (x::l)
 | []=>List.Perm.refl _
 | y::r=>by
   unfold xD
   split
   · exact List.Perm.refl _
   · exact((mG x r).cons y).trans (List.Perm.swap _ _ _)
theorem g6:∀l:List Str,(ni l).Perm l
 | []=>List.Perm.refl _
 |x::r=>(mG x _).trans ((g6 r).cons x)
theorem oq{x:Str}:∀{l:List Str},l.Pairwise sy->(xD x l).Pairwise sy
 | [],_=>by simp[xD]
 | y::r,h=>by
   rw[List.pairwise_cons] at h
   unfold xD
   split
   · rename_i c
     refine List.pairwise_cons.mpr ⟨fun z hz=> ?_,List.pairwise_cons.mpr h⟩
     rcases List.mem_cons.mp hz with rfl|hz
     · exact c
     · exact tq c (h.1 z hz)
   · rename_i c
     refine List.pairwise_cons.mpr ⟨fun z hz=> ?_,oq h.2⟩
     rcases List.mem_cons.mp ((mG x r).mem_iff.mp hz) with rfl|hz
     · exact(zz _ _).resolve_left c
     · exact h.1 z hz
theorem ko:∀l:List Str,(ni l).Pairwise sy
 | []=>List.Pairwise.nil
 |x::r=>oq (ko r)
theorem tV:∀{l:List Str},sortedS l=true->l.Pairwise sy
 | [],_=>List.Pairwise.nil
 | x::r,h=>by
   have go:∀(r:List Str) (x:Str),risingS x r=true->(x::r).Pairwise sy:=by
     intro r
     induction r with
     |nil=>intro x _;simp
     | cons y r ih=>
       intro x h
       unfold risingS at h
       simp only[Bool.and_eq_true] at h
       have h2:=ih y h.2
       have xy:sy x y:=by
         have:=h.1
         unfold sy
         rw[ltCps_eq] at this
         simpa using this
       refine List.pairwise_cons.mpr ⟨fun z hz=> ?_,h2⟩
       rcases List.mem_cons.mp hz with rfl|hz
       · exact xy
       · exact tq xy ((List.pairwise_cons.mp h2).1 z hz)
   exact go r x h
theorem y_{out ss:List Str}(h:sortedS out=true)(p:out.Perm ss):out=ni ss:=
 List.Perm.eq_of_pairwise (le:=sy) (fun a b _ _ h1 h2=>AZ h1 h2) (tV h) (ko ss) (p.trans (g6 ss).symm)
end DL
namespace L2
open PySem PySem.Spec PyProof.Rows
section
variable{X:Cx}
theorem zQ:gC X (.type "range") (fun xs H Q=>∃i j:Int,xs= [.int i,.int j]/\∀p,H p=none->Q (.ref p) (upd H p (.rng i j))):=by
 intro pins s σ H xs us Q I r h
 obtain⟨i,j,rfl,q⟩:=h
 cases r with
 | cons r1 r2=>
   cases r2 with
   | cons r2 r3=>
     cases r3
     obtain⟨t,rfl⟩:=r1
     obtain⟨u,rfl⟩:=r2
     refine call_range_2 ⟨.ref _,_,I.laid (o:=.rng i j) (fun b ob q=>Heap.get?_push_of_some _ q) (Nat.le_refl _) ⟨_,_,_,Heap.get?_push_size _ rfl⟩,rfl,q _ I.fresh⟩
theorem jN(hc:X.calm=true):gC X (.type "list") (fun xs H Q=>∃p i j,xs= [.ref p]/\H p=some (.rng i j)/\(-1000<=i/\i<=1000/\ -1000<=j/\j<=1000)/\∀l,H l=none->Q (.ref l) (upd H l (.lst (upTo i (j-i).toNat)))):=by
 intro pins s σ H xs us Q I r h
 obtain⟨p,i,j,rfl,hp,⟨h1,h2,h3,h4⟩,q⟩:=h
 obtain⟨u,rfl,rx⟩:=vals1 r
 cases (show u=Value.ref p from rx)
 obtain⟨t,u,v,e⟩:=(show cK X.prog X.w H s.heap p (.rng i j) from I.hok p _ hp)
 refine call_list_range (n:=(j-i).toNat) (I.ok.hd hc) (show IsRange s.heap p i j 1 t u v from e) (small_one (by omega) (by omega) (by omega) (by omega)) (by rw[rangeSize_one];split <;>omega) (by omega) fun h' tk acc' c' hk hS hacc=> ?_
 have hv:bx (upTo i (j-i).toNat) acc'.toList:=zu (by simpa using hacc.1) fun j w hw=>by
  obtain⟨t,ht⟩:=hacc.2 j w (by simpa using hw)
  exact⟨t,by rw[ht];simp⟩
 refine⟨.ref _,_,I.laid (o:=.lst (upTo i (j-i).toNat)) hk (Nat.le_refl _) ⟨?_,acc'.toList,c',hv,by simpa using hS⟩,rfl,q _ I.fresh⟩
 unfold upTo
 rw[lQm,List.length_range]
 exact Nat.le_trans (show(j-i).toNat<=2000 by omega) (by decide)
theorem zU:Gq X "tuple.count" (fun x vs H Q=>∃a xs y,x=.ref a/\vs= [y]/\gL X.K H a xs/\eZ y=true/\xs.all eZ=true/\Q (.int ((xs.countP fun z=>kf z y:Nat):Int)) H):=by
 intro pins s σ H x vs v us Q I rx rv h
 obtain⟨a,xs,y,rfl,rfl,hq,fy,fs,q⟩:=h
 cases rx
 obtain⟨u,rfl,ru⟩:=rv.one
 obtain⟨its,r,pl,hz⟩:=I.tuple hq
 obtain⟨⟨cls,dd,dat,sl⟩,e,hc,n,hd⟩:=pl
 simp only at hc hd
 subst hc hd
 have cnt:∀{xs:List V} {its:List Value},bx xs its->xs.all eZ=true->its.countP (vb y)=xs.countP fun z=>kf z y:=by
  intro xs its r
  induction r with
  |nil=>intro _;rfl
  | cons h t ih=>
    intro f
    simp only[List.all_cons,Bool.and_eq_true] at f
    rw[List.countP_cons,List.countP_cons,ih f.2,pP h f.1]
 refine call_meets PySem.F.slot_tuple_count ⟨_,e,rfl⟩ PySem.F.entry_tuple_count (PySem.F.args_tuple_count_2 _ _)
  (SeqAt.tuple_countAt a its.toArray n dd sl u (vb y))
  ⟨e,fun w hw=>gG ru fy r fs w (by simpa using hw),⟨.int _,H,I.tok _,⟨_,rfl⟩,?_⟩⟩
 rw[cnt r fs]
 exact q
end
end L2
namespace DL
open PySem PySem.Spec L2
section
variable{X:Cx}{a b e:Expr}{pos:Pos}
def sD:List D->Option (List Str)
 | []=>some []
 |.str x::r=>(sD r).bind fun xs=>some (x::xs)
 |_::_=>none
theorem vY{M:Md}{ρ:List Addr}{H:Hp}:∀{ds:List D} {vs:List V} {xs:List Str},aY M ρ H ds vs->sD ds=some xs->vs=xs.map V.str
 | [],_,_,h,e=>by cases h;cases e;rfl
 | d::ds,_,_,h,e=>by
   cases d with
   | str b=>
     simp only[sD] at e
     obtain⟨bs',e1,e⟩:=bind_some e
     cases e
     cases h with
     | cons h hs=>
       cases h
       rw[vY hs e1]
       rfl
   |_=>cases e
theorem tE{M:Md}{ρ:List Addr}{H:Hp}:∀ss:List Str,aY M ρ H (ss.map D.str) (ss.map V.str)
 | []=>.nil
 |s::ss=>.cons (.str s) (tE ss)
def yP(f:eR):fG:=fun Γ S=>(f Γ S).bind fun(p,S1)=>if p.2.isL=true then(sD p.1).bind fun ss=>if ss.length<64 then some ((ni ss).map D.str,S1) else none else none
theorem AU{f:eR}{p:Pos}(hg:Gl X "sorted")(hm:X.mg "sorted"=none)(ha:PE X a (tQ (md X) f))(hs:starEach [a] X.env= [(false,eval a X.env)]:=by rfl):
  PE X (.Call (.Name "sorted" p) [a] [] pos) (tL (md X) (yP f)):=
 je (dZ ue hg hm PyProof.Rows.boot_sorted (cW ha eL hs) (he:=hs)) fun σ H Q qq=>by
  obtain⟨ρ,Γ,S,d,S',ok,e,q⟩:=qq
  obtain⟨⟨⟨ds,t⟩,S1⟩,e1,e⟩:=bind_some e
  dsimp only at e
  split at e
  ·rename_i c
   obtain⟨ss,e2,e⟩:=bind_some e
   split at e
   ·rename_i c2
    obtain⟨rfl,rfl⟩:=cu e
    refine⟨ρ,Γ,S,ds,t,S1,ok,e1,fun ρ' a vs H' x st h r=>⟨a,ss,rfl,?_,c2,fun l out hl h1 h2=> ?_⟩⟩
    ·rw[←vY r e2];exact h.sqL c
    ·cases y_ h1 h2
     exact q _ _ _ _ (x.trans (bT.laid hl)) (st.lay hl) (x.grow _ hl) (cM x st hl) bA (tE _)
   ·cases e
  ·cases e
def nT:List D->Option (List Str)
 | []=>some []
 |.tup (.str x::_)::r=>(nT r).bind fun xs=>some (x::xs)
 |_::_=>none
theorem vz{M:Md}{ρ:List Addr}{H:Hp}:∀{ds:List D} {vs:List V} {xs:List Str},aY M ρ H ds vs->nT ds=some xs->∃rs:List Addr,vs=rs.map V.ref/\sY H rs xs
 | [],_,_,h,e=>by cases h;cases e;exact⟨[],rfl,.nil⟩
 | .tup (.str x::us)::r,_,_,h,e=>by
   simp only[nT] at e
   obtain⟨bs',e1,e⟩:=bind_some e
   cases e
   cases h with
   | cons h hs=>
     cases h with
     | tup h hr=>
       obtain⟨rs,rfl,F⟩:=vz hs e1
       cases hr with
       | cons hx hr=>
         cases hx
         exact⟨_::rs,rfl,.cons h F⟩
 |.tup (.non::_)::_,_,_,_,e=>by cases e
 |.tup (.bl _::_)::_,_,_,_,e=>by cases e
 |.tup (.int _::_)::_,_,_,_,e=>by cases e
 |.tup (.tup _::_)::_,_,_,_,e=>by cases e
 |.tup (.ref _::_)::_,_,_,_,e=>by cases e
 |.tup (.fn _::_)::_,_,_,_,e=>by cases e
 |.tup []::_,_,_,_,e=>by cases e
 |.non::_,_,_,_,e=>by cases e
 |.bl _::_,_,_,_,e=>by cases e
 |.int _::_,_,_,_,e=>by cases e
 |.str _::_,_,_,_,e=>by cases e
 |.ref _::_,_,_,_,e=>by cases e
 |.fn _::_,_,_,_,e=>by cases e
def p6(ss:List Str)(ds:List D):List D:=Zp.sortBy ss .non ds
theorem qc{α β:Type}{R:α->β->Prop}{ss:List Str}{xs:List α}{ys:List β}{d:α}{d':β}(hl:xs.length=ys.length)(h3:xs.length<=3)(h:∀(i:Nat) (x:α),xs[i]?=some x->∃y,ys[i]?=some y/\R x y):
  ∀(i:Nat) (x:α),(Zp.sortBy ss d xs)[i]?=some x->∃y,(Zp.sortBy ss d' ys)[i]?=some y/\R x y:=by
 intro i x e
 unfold Zp.sortBy at *
 rw[←hl]
 split at e
 ·rename_i c;rw[if_pos c];exact h i x e
 ·rename_i h2
  obtain⟨_,perm⟩:=Zp.oQ xs.length h3 (by omega)
  have hperm:(Zp.ig (Zp.FA ss) (PySem.W.kas_sort xs.length)).toList.Perm (List.range xs.length):=List.isPerm_iff.mp (List.all_eq_true.mp perm _ (Zp.gF _ _))
  rw[gQm] at e
  obtain⟨k,hk,e⟩:=oQm.mp e
  have hlt:k<xs.length:=List.mem_range.mp (hperm.mem_iff.mp (mQg hk))
  have ex:xs[k]?=some x:=by
   rw[List.getD_eq_getElem?_getD,gQe hlt] at e
   rw[gQe hlt]
   exact congrArg some e
  obtain⟨y,ey,r⟩:=h k x ex
  refine⟨y,?_,r⟩
  rw[if_neg (by omega),gQm,hk]
  simp[List.getD_eq_getElem?_getD,ey]
theorem aY.of_get{M:Md}{ρ:List Addr}{H:Hp}:∀{ds:List D} {vs:List V},ds.length=vs.length->(∀(i:Nat) (d:D),ds[i]?=some d->∃v,vs[i]?=some v/\Rel M ρ H d v)->aY M ρ H ds vs
 | [],[],_,_=>.nil
 | [],_::_,h,_=>by cases h
 |_::_,[],h,_=>by cases h
 | d::ds,v::vs,h,g=>by
   obtain⟨v',e,r⟩:=g 0 d rfl
   cases e
   exact .cons r (aY.of_get (Nat.succ.inj h) fun i d hd=>by
     obtain⟨v,e,r⟩:=g (i+1) d (by simpa using hd)
     exact⟨v,by simpa using e,r⟩)
def uj(f:eR):fG:=fun Γ S=>(f Γ S).bind fun(p,S1)=>if p.2.isL=true then(nT p.1).bind fun ss=>if p.1.length<=3/\ss.Nodup then some (p6 ss p.1,S1) else none else none
theorem zS{f:eR}{p:Pos}(hg:Gl X "sorted")(hm:X.mg "sorted"=none)(ha:PE X a (tQ (md X) f))(hs:starEach [a] X.env= [(false,eval a X.env)]:=by rfl):
  PE X (.Call (.Name "sorted" p) [a] [] pos) (tL (md X) (uj f)):=
 je (dZ rF hg hm PyProof.Rows.boot_sorted (cW ha eL hs) (he:=hs)) fun σ H Q qq=>by
  obtain⟨ρ,Γ,S,d,S',ok,e,q⟩:=qq
  obtain⟨⟨⟨ds,t⟩,S1⟩,e1,e⟩:=bind_some e
  dsimp only at e
  split at e
  ·rename_i c
   obtain⟨ss,e2,e⟩:=bind_some e
   split at e
   ·rename_i c2
    obtain⟨rfl,rfl⟩:=cu e
    refine⟨ρ,Γ,S,ds,t,S1,ok,e1,fun ρ' a vs H' x st h r=> ?_⟩
    obtain⟨rs,rfl,F⟩:=vz r e2
    have hl:ds.length=rs.length:=by have:=r.length;simpa using this
    refine⟨a,rs,ss,rfl,h.sqL c,by omega,F,c2.2,fun l hl'=> ?_⟩
    refine q _ _ _ _ (x.trans (bT.laid hl')) (st.lay hl') (x.grow _ hl') (cM x st hl') bA (aY.ext (bT.laid hl') ?_)
    refine aY.of_get ?_ fun i d hd=> ?_
    ·rw[lQm]
     unfold p6
     rw[(Zp.d_ ss ds c2.1).length_eq,(Zp.d_ ss rs (by omega)).length_eq,hl]
    ·obtain⟨y,ey,r'⟩:=qc (R:=fun(d:D) (a:Addr)=>Rel (md X) ρ' H' d (.ref a)) (d':=0) hl c2.1 (fun i d hd=>by
      obtain⟨v,ev,rv⟩:=r.get hd
      rw[gQm] at ev
      obtain⟨y,ey,rfl⟩:=oQm.mp ev
      exact⟨y,ey,rv⟩) i d hd
     exact⟨.ref y,by rw[gQm,ey];rfl,r'⟩
   ·cases e
  ·cases e
theorem sV{M:Md}{ρ:List Addr}{H:Hp}{lo hi:Int}:aY M ρ H (fc lo hi) (L2.upTo lo (hi-lo).toNat):=by
 refine aY.of_get (by unfold fc L2.upTo;simp) fun i d hd=> ?_
 unfold fc at hd
 unfold L2.upTo
 rw[gQm] at hd⊢
 obtain⟨k,hk,rfl⟩:=oQm.mp hd
 exact⟨_,by rw[hk];rfl,.int _⟩
def yU(f:bq):fG:=fun Γ S=>(f Γ S).bind fun(d,S1)=>match d with
 |.int j=>if -1000<=j/\j<=1000 then some (fc 0 j,S1) else none
 |_=>none
theorem E_{f:bq}{p p2 pos2:Pos}(hc:X.calm=true)(hg:Gl X "list")(hm:X.mg "list"=none)(hg2:Gl X "range")(hm2:X.mg "range"=none)(ha:PE X a (tD (md X) f))(hs:starEach [a] X.env= [(false,eval a X.env)]:=by rfl)
  (hs2:starEach [Expr.Call (.Name "range" p2) [a] [] pos2] X.env= [(false,eval (Expr.Call (.Name "range" p2) [a] [] pos2) X.env)]:=by rfl):
  PE X (.Call (.Name "list" p) [.Call (.Name "range" p2) [a] [] pos2] [] pos) (tL (md X) (yU f)):=
 je (dq (jN hc) hg hm (by rfl) (cW (dq AW hg2 hm2 PyProof.Rows.boot_range (cW ha eL hs) (he:=hs)) eL hs2) (he:=hs2)) fun σ H Q qq=>by
  obtain⟨ρ,Γ,S,d,S',ok,e,q⟩:=qq
  obtain⟨⟨d',S1⟩,e1,e⟩:=bind_some e
  cases d' with
  | int j=>
    dsimp only at e
    split at e
    · rename_i c
      obtain⟨rfl,rfl⟩:=cu e
      refine⟨ρ,Γ,S,.int j,S1,ok,e1,fun ρ' v H' x st r=> ?_⟩
      cases r
      refine⟨j,rfl,fun p hp=>⟨p,0,j,rfl,bA,⟨by omega,by omega,c.1,c.2⟩,fun l hl=> ?_⟩⟩
      have x2:=x.trans ((bT.laid (ρ:=ρ') (o:=.rng 0 j) hp).trans (bT.laid (o:=.lst (L2.upTo 0 (j-0).toNat)) hl))
      refine q _ _ _ _ x2 ((st.lay hp).lay hl) ?_ (cM (x.trans (bT.laid hp)) (st.lay hp) hl) bA ?_
      · exact(x.trans (bT.laid (o:=.rng 0 j) hp)).grow _ hl
      · have:=sV (M:=md X) (ρ:=ρ') (H:=upd (upd H' p (.rng 0 j)) l (.lst (L2.upTo 0 (j-0).toNat))) (lo:=0) (hi:=j)
        exact this
    · cases e
  |_=>cases e
def yu(f g:bq):fG:=fun Γ S=>(f Γ S).bind fun(d,S1)=>(g Γ S1).bind fun(d2,S2)=>match d,d2 with
 |.int i,.int j=>if -1000<=i/\i<=1000/\ -1000<=j/\j<=1000 then some (fc i j,S2) else none
 |_,_=>none
theorem EM{f g:bq}{p p2 pos2:Pos}(hc:X.calm=true)(hg:Gl X "list")(hm:X.mg "list"=none)(hg2:Gl X "range")(hm2:X.mg "range"=none)(ha:PE X a (tD (md X) f))(hb:PE X b (tD (md X) g))(hs:starEach [a,b] X.env= [(false,eval a X.env),(false,eval b X.env)]:=by rfl)(hs1:starEach [b] X.env= [(false,eval b X.env)]:=by rfl)
  (hs2:starEach [Expr.Call (.Name "range" p2) [a,b] [] pos2] X.env= [(false,eval (Expr.Call (.Name "range" p2) [a,b] [] pos2) X.env)]:=by rfl):
  PE X (.Call (.Name "list" p) [.Call (.Name "range" p2) [a,b] [] pos2] [] pos) (tL (md X) (yu f g)):=
 je (dq (jN hc) hg hm (by rfl) (cW (dq zQ hg2 hm2 PyProof.Rows.boot_range (aa ha (aa hb ah hs1) (by rw[hs,hs1])) (he:=by rw[hs,hs1]) (hpl:=by rw[hs1];rfl)) eL hs2) (he:=hs2)) fun σ H Q qq=>by
  obtain⟨ρ,Γ,S,d,S',ok,e,q⟩:=qq
  obtain⟨⟨d',S1⟩,e1,e⟩:=bind_some e
  obtain⟨⟨d2,S2⟩,e2,e⟩:=bind_some e
  cases d' with
  | int i=>
    cases d2 with
    | int j=>
      dsimp only at e
      split at e
      · rename_i c
        obtain⟨rfl,rfl⟩:=cu e
        refine⟨ρ,Γ,S,[.int i,.int j],S2,ok,by simp only[ae,ai,e1,Option.bind_some,e2],fun ρ' v H' x st r=> ?_⟩
        cases r with
        | cons r rr=>
          cases rr with
          | cons r' rr=>
            cases rr
            cases r
            cases r'
            refine⟨i,j,rfl,fun p hp=>⟨p,i,j,rfl,bA,c,fun l hl=> ?_⟩⟩
            have x2:=x.trans ((bT.laid (ρ:=ρ') (o:=.rng i j) hp).trans (bT.laid (o:=.lst (L2.upTo i (j-i).toNat)) hl))
            refine q _ _ _ _ x2 ((st.lay hp).lay hl) ?_ (cM (x.trans (bT.laid hp)) (st.lay hp) hl) bA sV
            exact(x.trans (bT.laid (o:=.rng i j) hp)).grow _ hl
      · cases e
    |_=>cases e
  |_=>cases e
end
theorem ui{P:Program}{w:World}{K:PySem.W.Frag}{mg:Str->Option Value}{base:Heap}{f:Addr}{fd:FuncData}{ps:List Str}{k n:Nat}:bo P w K mg base dv k f fd ps (dR ⟨K,mg⟩ n fun _ _=>none):=
 {len:=fun vs H Q E h=>by
   obtain⟨_,_,_,_,_,_,_,_,e,_⟩:=h
   cases e
  run:=fun A outer s H args us vs Q E _ _ _ _ h=>by
   obtain⟨_,_,_,_,_,_,_,_,e,_⟩:=h
   cases e}
end DL
namespace Zq
open PySem PyProof.Rows
end Zq
namespace L2
open PySem PyProof.Rows Zq
end L2
namespace DL
open PySem PySem.Spec L2
structure yF(P:Program)(w:World)(K:PySem.W.Frag)(mg:Str->Option Value)(x:Str)(tbl:List (Str×Str)):Prop where
 at_:∃a,mg x=some (.ref a)/\∀h:Heap,K.In h->∃vs,h.DictOf (bK P w) a vs/\∀k nm,tbl.lookup k=some nm->∃f,valueAt vs (Sum.inr k:Key)=some (.ref f)/\mg nm=some (.ref f)
section
variable{X:Cx}{a b c e:Expr}{pos:Pos}
def G1(tbl:List (Str×Str))(g:bq):bq:=fun Γ S=>(g Γ S).bind fun(y,S1)=>match y with
 |.str x=>(tbl.lookup x).bind fun nm=>some (.fn nm,S1)
 |_=>none
theorem C4{x:Str}{tbl:List (Str×Str)}{g:bq}{p:Pos}(hD:yF X.prog X.w X.K X.mg x tbl)(hg:Gl X x)(hb:PE X b (tD (md X) g))(hs:Df b)(hd:(x==("__debug__":Str))=false:=by decide):
  PE X (.Subscript (.Name x p) b pos) (tD (md X) (G1 tbl g)):=by
 rintro pins s σ H Q I ⟨ρ,Γ,S,d,S',ok,e,q⟩
 obtain⟨a,hm,hK⟩:=hD.at_
 obtain⟨⟨y,S1⟩,e1,e⟩:=bind_some e
 cases y with
 | str z=>
   obtain⟨nm,e2,e⟩:=bind_some e
   obtain⟨rfl,rfl⟩:=cu e
   refine yK PySem.F.slot_dict_getitem.lookup hs (uT I hg hm ?_ hd)
   refine cG (hb pins s σ H (fun v H'=>∃ρ',bT ρ H ρ' H'/\ft (md X) ρ' S1 H'/\Rel (md X) ρ' H' (.str z) v) I ⟨ρ,Γ,S,_,S1,ok,e1,fun ρ' v H' x st r=>⟨ρ',x,st,r⟩⟩) fun iv s2 qr=> ?_
   obtain⟨v,H2,I2,rv,ρ',x2,st2,r2⟩:=qr
   obtain⟨vs,dd,hv⟩:=hK _ I2.kIn
   obtain⟨f,hf,hmf⟩:=hv z nm e2
   cases r2
   have ty:s2.TypeIs (.ref a) "dict":=by
     obtain⟨o,es,ep,h1,h2,h3,_⟩:=dd
     exact⟨o,h1,h2.1⟩
   refine⟨ty,wpAny_getItem_of (wA (k:=Sum.inr z) rv) dd.mapOf hf ?_⟩
   exact⟨.ref f,H2,I2.tok _,rfl,q _ _ _ x2 st2 (.fn hmf)⟩
 |_=>cases e
noncomputable def qP(i:Nat)(T:List (Str×c9))(g:fG):bq:=fun Γ S=>match Γ[i]? with
 |some (some (.fn x))=>(T.lookup x).bind fun F=>ao F g Γ S
 |_=>none
theorem CH{i k:Nat}{y:Str}{ps:List Str}{T:List (Str×c9)}{es:List Expr}{g:fG}{p:Pos}(hT:∀x F,T.lookup x=some F->bI X.prog X.w X.K X.mg X.base k x ps F)(hr:eW k X.A)(hN:X.N[i]?=some y)(hv:DM X.env.scope y)
  (ha:PA X (e::es) (vm (md X) g)) (hn:nA ps.length g) (hdb:(y==("__debug__":Str))=false:=by decide) (hcd:(y==("__classdict__":Str))=false:=by decide) (he:starEach (e::es) X.env=(false,eval e X.env)::starEach es X.env:=by rfl) (hpl:(backTo pos (starEach es X.env)).any (·.1)=false:=by rfl):
  PE X (.Call (.Name y p) (e::es) [] pos) (tD (md X) (qP i T g)):=by
 rintro pins s σ H Q I ⟨ρ,Γ,S,d,S',ok,e,q⟩
 unfold qP at e
 split at e
 ·rename_i x hx
  obtain⟨F,e1,e⟩:=bind_some e
  obtain⟨f,fd,G,bb,kp,m⟩:=(hT x F e1).ex
  obtain⟨v,hσ,rv⟩:=ok.en.get i _ hx
  cases rv with
  | fn hm=>
    have hh:(md X).mg x=some (.ref f):=m
    rw[hm] at hh
    cases hh
    refine wpAny_Call_Name_kw (cG (Bc hN hv hdb hcd pins s σ H (fun v' H'=>v'=.ref f/\H'=H) I ⟨_,hσ,rfl,rfl⟩) fun u s1 qr=> ?_)
    obtain⟨v',H',I1,r1,e1,e2⟩:=qr
    subst e1 e2
    cases (show u=Value.ref f from r1)
    refine PySem.W.callWith_K (h₀:=X.base) I.ok.mod.kin kp (cG (ha pos pins s1 σ H' _ I1 (yd hn σ H' Q ⟨ρ,Γ,S,d,S',ok,e,q⟩)) fun us s2 ⟨vs,H1,I2,r,q2⟩=>⟨I2.kIn,?_⟩) he hpl
    exact Ba G hr bb .nil BF I2 r q2
 ·cases e
end
theorem xx(w:World)(x:Str):PyData.keyHash w.params x=hashStr w x:=by
 unfold PyData.keyHash hashStr
 first|rfl|simp
inductive Al(w:World)(mg:Str->Option Value):List DictEntry->List (Str×Str)->Prop
 |nil:Al w mg [] []
 |cons {x nm:Str} {t:Tok} {f:Addr} {es:List DictEntry} {tbl:List (Str×Str)}:mg nm=some (.ref f)->Al w mg es tbl->Al w mg (⟨PyData.keyHash w.params x,.str x t,.ref f⟩::es) ((x,nm)::tbl)
theorem Al.keys{P:Program}{w:World}{mg:Str->Option Value}{es:List DictEntry}{tbl:List (Str×Str)}(al:Al w mg es tbl):∀e∈es,∃k,(bK P w).is k e.key=true/\e.hash=(bK P w).hash k:=by
 induction al with
 |nil=>intro e h;cases h
 | @cons x nm t f es tbl hm al ih=>
   intro e h
   rcases List.mem_cons.mp h with rfl|h
   · exact⟨Sum.inr x,mJ x t,xx w x⟩
   · exact ih e h
theorem Al.pairs{P:Program}{w:World}{mg:Str->Option Value}{es:List DictEntry}{tbl:List (Str×Str)}(al:Al w mg es tbl):∃vs:List (Key×Value),Pairs (bK P w) es vs/\vs.map (·.1)=tbl.map (fun p=>Sum.inr p.1)∧
  ∀k nm,tbl.lookup k=some nm->∃f,valueAt vs (Sum.inr k:Key)=some (.ref f)/\mg nm=some (.ref f):=by
 induction al with
 |nil=>exact⟨[],.nil,rfl,fun k nm h=>by cases h⟩
 | @cons x nm t f es tbl hm al ih=>
   obtain⟨vs,h1,h2,h3⟩:=ih
   refine⟨(Sum.inr x,.ref f)::vs,.cons (mJ x t) rfl h1,by simp[h2],fun k n h=> ?_⟩
   by_cases c:k=x
   · subst c
     rw[List.lookup_cons_self] at h
     cases h
     refine⟨f,?_,hm⟩
     unfold valueAt
     rw[List.find?_cons_of_pos (by simp)]
     rfl
   · have hb:(k==x)=false:=by simpa using c
     rw[List.lookup_cons,hb] at h
     obtain⟨g,g1,g2⟩:=h3 k n h
     refine⟨g,?_,g2⟩
     unfold valueAt at g1⊢
     rw[List.find?_cons_of_neg]
     · exact g1
     · intro z
       have:(Sum.inr x:Key)=Sum.inr k:=by simpa using z
       exact c (Sum.inr.inj this).symm
theorem B3{P:Program}{w:World}{K:PySem.W.Frag}{mg:Str->Option Value}{x:Str}{tbl:List (Str×Str)}{a:Addr}{es:List DictEntry}{ep:Nat}(hm:mg x=some (.ref a))(l:K.lookup a=some ⟨.type "dict",none,.dict es.toArray ep,#[]⟩)(al:Al w mg es tbl)(nd:(tbl.map (·.1)).Nodup):yF P w K mg x tbl:=by
 obtain⟨vs,h1,h2,h3⟩:=al.pairs (P:=P)
 refine⟨a,hm,fun h hk=>⟨vs,⟨_,_,_,hk _ _ l,⟨rfl,rfl,rfl⟩,rfl,fun e he=>al.keys e (by simpa using he),by simpa using h1,?_⟩,h3⟩⟩
 rw[h2]
 have:tbl.map (fun p=>(Sum.inr p.1:Key))=(tbl.map (·.1)).map Sum.inr:=by rw[List.map_map];rfl
 rw[this]
 exact List.Pairwise.map _ (fun a b n e=>n (Sum.inr.inj e)) nd
theorem Bn{P:Program}{w:World}{K:PySem.W.Frag}{mg:Str->Option Value}{base:Heap}{k:Nat}{ps:List Str}:∀{T:List (Str×c9)},(∀p∈T,bI P w K mg base k p.1 ps p.2)->∀x F,T.lookup x=some F->bI P w K mg base k x ps F
 | [],_,x,F,h=>by cases h
 | p::T,g,x,F,h=>by
   by_cases c:x=p.1
   · subst c
     rw[List.lookup_cons_self] at h
     cases h
     exact g p (List.mem_cons_self ..)
   · have hb:(x==p.1)=false:=by simpa using c
     rw[List.lookup_cons,hb] at h
     exact Bn (fun q hq=>g q (List.mem_cons_of_mem _ hq)) x F h
def vI:Sp:=fun vs H Q _=>∃(a:Addr) (ns:List Int) (o:Obj),vs= [.ref a]/\H a=some (.frz o (.lst (ns.map V.int)))/\ns.length<=63/\∀H',Q (.bl true) H'
theorem sN{M:Md}{ρ:List Addr}{H:Hp}:∀ns:List Int,aY M ρ H (ns.map D.int) (ns.map V.int)
 | []=>.nil
 |s::ss=>.cons (.int s) (sN ss)
theorem Dq{P:Program}{w:World}{K:PySem.W.Frag}{mg:Str->Option Value}{base:Heap}{k:Nat}{f:Addr}{fd:FuncData}{ps:List Str}{F:c9}(G:bo P w K mg base dv k f fd ps (dR ⟨K,mg⟩ 1 F))
  (h:∀ns:List Int,ns.length<=63->∃S',F [.ref 0] [.frz (ns.map D.int)]=some (.d (.bl true),S')):bo P w K mg base dv k f fd ps vI:=
 G.imp fun vs H Q E qq=>by
  obtain⟨a,ns,o,e,ha,hl,q⟩:=qq
  subst e
  obtain⟨S',e⟩:=h ns hl
  refine⟨[a],[.frz (ns.map D.int)],[.ref 0],_,S',rfl,.cons (.ref rfl) .nil,⟨rfl,by simp,fun k b o' h1 h2=> ?_⟩,e,fun ρ' v H' x st r=> ?_⟩
  ·cases k with
   |zero=>cases h1;cases h2;exact⟨_,o,ha,sN ns⟩
   |succ k=>simp at h1
  ·cases r
   exact q H'
def x9(K:PySem.W.Frag):Bool:=K.all fun p=>match p.2.data with|.seq _ _=>(match p.2.cls with|.type s=>s !="list" |_=>true)|_=>true
theorem zX{K:PySem.W.Frag}(h:x9 K=true){a:Addr}{o:Obj}(e:K.lookup a=some o){its:Array Value}{n:Nat}(hd:o.data=.seq its n):o.cls≠.type "list":=by
 intro hc
 have gen:∀(K:List (Addr×Obj)),K.all (fun p=>match p.2.data with|.seq _ _=>(match p.2.cls with|.type s=>s !="list" |_=>true)|_=>true)=true->K.lookup a=some o->False:=by
  intro K
  induction K with
  |nil=>intro _ e;cases e
  | cons p K ih=>
    intro h e
    rw[List.all_cons,Bool.and_eq_true] at h
    obtain⟨b,q⟩:=p
    rw[List.lookup_cons] at e
    by_cases c:a=b
    · subst c
      simp only[BEq.rfl] at e
      cases e
      have h1:=h.1
      simp only[hd,hc] at h1
      simp at h1
    · have hb:(a==b)=false:=by simpa using c
      rw[hb] at e
      exact ih h.2 e
 exact gen K h e
theorem FZ{K:PySem.W.Frag}{H:Hp}{a:Addr}{ns:List Int}(nl:x9 K=true)(hl:ns.length<=63)(hO:Cg H)(hS:hG K H a (ns.map V.int)):vI [.ref a] H (fun v _=>v=.bl true) fun _ _ _=>False:=by
 rcases hS with(h|⟨o,h⟩)|⟨o,its,n,h,hc,_,hd,_⟩
 ·rcases hO a with z|⟨o,xs,z⟩
  ·rw[h] at z;cases z
  ·rw[h] at z;cases z
 ·exact⟨a,ns,o,rfl,h,hl,fun _=>rfl⟩
 ·exact absurd hc (zX nl h hd)
theorem F0{l:PySem.W.OpenLaw}{q:Program}{loose:List Str}{XP:(Str->Option Value)->Heap->Prop}{YP:World->Heap->Prop}{d:DefRec}{K:Params->PySem.W.Frag}{k:Nat}(hn:l.most=some 63)(hdf:d.params.defaults= [])(hr:eW k PySem.callerA)
  (hY:∀(w:World) (h:Heap),YP w h->(K w.params).In h) (nl:∀w:World,x9 (K w.params)=true)
  (F:∀(w:World) (mg:Str->Option Value) (fa:Addr) (h:Heap),(K w.params).In h->h.Ns mainGlobals mg->mg d.name=some (.ref fa)→
   ∃fd:FuncData,(∀(s:Shared) (u:Value),BindsTo s fd ⟨[u],[]⟩ [("_law_script",u)])/\∀base:Heap,(K w.params).In base->base.Ns mainGlobals mg->bo l.prog w (K w.params) mg base dv k fa fd ["_law_script"] vI):
  PySem.W.WalkO q loose XP YP l.row.toRowW d [] (fun f vs=>PySem.call f vs):=
 L2.Dd (n:=63) (k:=k) (x:="_law_script") (CX:=fun _=>dv) (sp:=fun _=>vI) hn (by decide) hdf hr hY F (fun w H a ns hl hO hS=>FZ (nl w) hl hO hS) fun _ _ _ _ _ z=>z
end DL
namespace DL
open PySem PySem.Spec L2 PyProof.Rows
section
variable{X:Cx}{x:Str}{e:Expr}{f:bq}{pos pos':Pos}
theorem bc(i:Nat)(hN:X.N.Nodup)(he:PE X e (tD (md X) f))(hi:X.N[i]?=some x:=by rfl)(hx:Loc X.env.scope x:=by first|exact Or.inl rfl|exact Or.inr rfl)(hs:swapsWith e (some (.Name x pos')) pos.line X.env=pure false:=by rfl)
  (hf:X.fn x=true\/X.env.scope.names.lookup x=some .local:=by first|exact .inl rfl|exact .inr rfl|assumption):PS X (.Assign [.Name x pos'] e pos) (tS (md X) (aU i f)):=GG (Fc hN hi hx he hs hf)
theorem Gd(i:Nat)(hN:X.N.Nodup)(hi:X.N[i]?=some x:=by rfl)(hx:Loc X.env.scope x:=by first|exact Or.inl rfl|exact Or.inr rfl)(hf:X.fn x=true\/X.env.scope.names.lookup x=some .local:=by first|exact .inl rfl|exact .inr rfl|assumption):PG X (.Name x pos) (qd i):=uO hN hi hx hf
theorem bj(i:Nat)(hN:X.N.Nodup)(hi:X.N[i]?=some x:=by rfl)(hx:Loc X.env.scope x:=by first|exact Or.inl rfl|exact Or.inr rfl)(hf:X.fn x=true\/X.env.scope.names.lookup x=some .local:=by first|exact .inl rfl|exact .inr rfl|assumption):PG X (.Name x pos) (tG (md X) (bO i)):=Bh (uO hN hi hx hf)
theorem fe{N:List Str}{scope:Scope}{cl:List (Str×Addr)}{C:Addr}{s:Shared}{H:Hp}{fp:List Addr}(i:Nat)(hN:N.Nodup:=by decide +kernel)(hi:(aV X N scope cl C s H fp).N[i]?=some x:=by rfl)(hx:Loc (aV X N scope cl C s H fp).env.scope x:=by first|exact Or.inl rfl|exact Or.inr rfl)
  (hf:(aV X N scope cl C s H fp).fn x=true\/(aV X N scope cl C s H fp).env.scope.names.lookup x=some .local:=by first|exact .inl rfl|exact .inr rfl|assumption):PG (aV X N scope cl C s H fp) (.Name x pos) (tG (md (aV X N scope cl C s H fp)) (bO i)):=Bh (uO hN hi hx hf)
theorem v_(i:Nat)(hN:X.N[i]?=some x:=by rfl)(hv:DM X.env.scope x:=by first|exact Or.inl rfl|exact Or.inr (Or.inl rfl)|exact Or.inr (Or.inr rfl))(hd:(x==("__debug__":Str))=false:=by decide)(hcd:(x==("__classdict__":Str))=false:=by decide):PE X (.Name x pos) (tD (md X) (af i)):=Gv (pv i hN hv hd hcd)
end
section
variable{X:Cx}{x:Str}{k k':Nat}{ps:List Str}{F:c9}{e:Expr}{es:List Expr}{g:fG}{p pos:Pos}
theorem aC(C:bI X.prog X.w X.K X.mg X.base k x ps F)(hr:eW k' X.A)(ha:PA X (e::es) (vm (md X) g))(hk:k<=k':=by first|decide|omega)(hg:Gl X x:=by rfl)
  (hn:nA ps.length g:=by first|exact bL gJ|exact bL (bL gJ)|exact bL (bL (bL gJ))|exact bL (bL (bL (bL gJ)))|repeat (first|exact gJ|refine bL ?_))
  (hdb:(x==("__debug__":Str))=false:=by decide) (he:starEach (e::es) X.env=(false,eval e X.env)::starEach es X.env:=by rfl) (hpl:(backTo pos (starEach es X.env)).any (·.1)=false:=by rfl):
  PE X (.Call (.Name x p) (e::es) [] pos) (tD (md X) (ao F g)):=Gz C (hr.mono hk) hg ha hn hdb he hpl
theorem hJ(C:bI X.prog X.w X.K X.mg X.base k x ps F)(hr:eW k' X.A)(ha:PA X (e::es) (vm (md X) g))(hk:k<=k':=by first|decide|omega)(hg:Gl X x:=by rfl)
  (hn:nA ps.length g:=by first|exact bL gJ|exact bL (bL gJ)|exact bL (bL (bL gJ))|exact bL (bL (bL (bL gJ)))|repeat (first|exact gJ|refine bL ?_))
  (hdb:(x==("__debug__":Str))=false:=by decide) (he:starEach (e::es) X.env=(false,eval e X.env)::starEach es X.env:=by rfl) (hpl:(backTo pos (starEach es X.env)).any (·.1)=false:=by rfl):
  PE X (.Call (.Name x p) (e::es) [] pos) (tL (md X) (dk F g)):=FV C (hr.mono hk) hg ha hn hdb he hpl
end
theorem Fp{us:List Value}(h:us.length=1):∃a0,us= [a0]:=by
 cases us with
 |nil=>simp at h
 | cons x0 us=>
   cases us with
   |cons y us=>simp at h
   |nil=>exact⟨x0,rfl⟩
theorem DG{us:List Value}(h:us.length=2):∃a0 a1,us= [a0,a1]:=by
 cases us with
 |nil=>simp at h
 | cons x0 us=>
   cases us with
   |nil=>simp at h
   | cons x1 us=>
     cases us with
     |cons y us=>simp at h
     |nil=>exact⟨x0,x1,rfl⟩
theorem rg{us:List Value}(h:us.length=3):∃a0 a1 a2,us= [a0,a1,a2]:=by
 cases us with
 |nil=>simp at h
 | cons x0 us=>
   cases us with
   |nil=>simp at h
   | cons x1 us=>
     cases us with
     |nil=>simp at h
     | cons x2 us=>
       cases us with
       |cons y us=>simp at h
       |nil=>exact⟨x0,x1,x2,rfl⟩
theorem pd{us:List Value}(h:us.length=4):∃a0 a1 a2 a3,us= [a0,a1,a2,a3]:=by
 cases us with
 |nil=>simp at h
 | cons x0 us=>
   cases us with
   |nil=>simp at h
   | cons x1 us=>
     cases us with
     |nil=>simp at h
     | cons x2 us=>
       cases us with
       |nil=>simp at h
       | cons x3 us=>
         cases us with
         |cons y us=>simp at h
         |nil=>exact⟨x0,x1,x2,x3,rfl⟩
theorem Hr{us:List Value}(h:us.length=5):∃a0 a1 a2 a3 a4,us= [a0,a1,a2,a3,a4]:=by
 cases us with
 |nil=>simp at h
 | cons x0 us=>
   cases us with
   |nil=>simp at h
   | cons x1 us=>
     cases us with
     |nil=>simp at h
     | cons x2 us=>
       cases us with
       |nil=>simp at h
       | cons x3 us=>
         cases us with
         |nil=>simp at h
         | cons x4 us=>
           cases us with
           |cons y us=>simp at h
           |nil=>exact⟨x0,x1,x2,x3,x4,rfl⟩
structure aW(K:PySem.W.Frag)(x:Str)(st:Stmt)(f:Addr):Prop where
 ex:∃(oc:Value) (od:Option Addr) (kV dc pm:Value) (an:Option Addr) (cd ct:Value) (sl:Array (Option Value)),PySem.W.nsIn K mainGlobals x=some (some (.ref f))∧
  K.lookup f=some ⟨oc,od,.func (PySem.W.fnOf x x (fW st) (fh st) (ar st) .none kV dc pm an cd ct),sl⟩/\PySem.W.codeIn K cd x=true/\PySem.W.keepIn K (.ref f)=true
theorem aW.of{K:PySem.W.Frag}{x:Str}{st:Stmt}{f:Addr}{oc:Value}{od:Option Addr}{kV dc pm:Value}{an:Option Addr}{cd ct:Value}{sl:Array (Option Value)}(a:PySem.W.nsIn K mainGlobals x=some (some (.ref f)))
  (l:K.lookup f=some ⟨oc,od,.func (PySem.W.fnOf x x (fW st) (fh st) (ar st) .none kV dc pm an cd ct),sl⟩) (c:PySem.W.codeIn K cd x=true) (k:PySem.W.keepIn K (.ref f)=true):aW K x st f:=⟨oc,od,kV,dc,pm,an,cd,ct,sl,a,l,c,k⟩
structure G_(K:PySem.W.Frag)(mg:Str->Option Value)(x:Str)(st:Stmt)(ps:List Str)(f:Addr):Prop where
 ex:∃fd,dW K x x st f fd/\Binds K fd ps []/\PySem.W.keepIn K (.ref f)=true
 m:mg x=some (.ref f)
theorem aW.ok1{K:PySem.W.Frag}{mg:Str->Option Value}{x:Str}{st:Stmt}{ps:List Str}{f:Addr}{h:Heap}(D:aW K x st f)(X:K.In h)(G:h.Ns mainGlobals mg)
  (hb:∀(kV doc pm:Value) (an:Option Addr) (cdv ct:Value) (us:List Value),us.length=ps.length->bindArgs (PySem.W.fnOf x x (fW st) (fh st) (ar st) .none kV doc pm an cdv ct) ⟨us,[]⟩=pure (ps.zip us)):G_ K mg x st ps f:=by
 obtain⟨oc,od,kV,dc,pm,an,cd,ct,sl,h1,h2,h3,h4⟩:=D.ex
 exact⟨⟨_,xg h2 h3 h4,(xg h2 h3 h4).binds hb,h4⟩,PySem.W.mg_of X G h1⟩
structure Pk(P:Program)(w:World)(base:Heap):Prop where
theorem G_.cal{P:Program}{w:World}{base:Heap}{K:PySem.W.Frag}{mg:Str->Option Value}{x:Str}{st:Stmt}{ps:List Str}{f:Addr}{k:Nat}{F:c9}(O:G_ K mg x st ps f)(Z:Pk P w base)
  (h:∀fd,dW K x x st f fd->Binds K fd ps []->PySem.W.keepIn K (.ref f)=true->mg x=some (.ref f)->bo P w K mg base dv k f fd ps (dR ⟨K,mg⟩ ps.length F)):bI P w K mg base k x ps F:=by
 obtain⟨fd,h1,h2,h3⟩:=O.ex
 exact⟨f,fd,h fd h1 h2 h3 O.m,h2,h3,O.m⟩
end DL
namespace DL
open PySem PySem.Spec L2
def E{α:Type}(f:cE->aA->Option (α×aA))(Γ:cE)(S:aA)(Q:α->aA->Prop):Prop:=∃a S',f Γ S=some (a,S')/\Q a S'
def T(f:cH)(Γ:cE)(S:aA)(Q:Out->Prop):Prop:=∃o,f Γ S=some o/\Q o
def Fn(F:c9)(ds:List D)(S:aA)(Q:Res->aA->Prop):Prop:=∃r S',F ds S=some (r,S')/\Q r S'
def Tg(g:lu)(d:D)(Γ:cE)(S:aA)(Q:cE->aA->Prop):Prop:=∃Γ' S',g d Γ S=some (Γ',S')/\Q Γ' S'
def GX(g:oA)(d:List D)(Γ:cE)(S:aA)(Q:cE->aA->Prop):Prop:=∃Γ' S',g d Γ S=some (Γ',S')/\Q Γ' S'
def Op{α:Type}(o:Option α)(Q:α->Prop):Prop:=∃d,o=some d/\Q d
section
variable{Γ:cE}{S:aA}
theorem E.mono{α:Type}{f:cE->aA->Option (α×aA)}{Q R:α->aA->Prop}(h:E f Γ S Q)(i:∀a S,Q a S->R a S):E f Γ S R:=by
 obtain⟨a,S',e,q⟩:=h
 exact⟨a,S',e,i _ _ q⟩
theorem T.mono{f:cH}{Q R:Out->Prop}(h:T f Γ S Q)(i:∀o,Q o->R o):T f Γ S R:=by
 obtain⟨a,e,q⟩:=h
 exact⟨a,e,i _ q⟩
theorem cN{i:Nat}{d:D}{Q:D->aA->Prop}(h:Γ[i]?=some (some d))(q:Q d S):E (af i) Γ S Q:=⟨d,S,by unfold af;rw[h],q⟩
theorem Fz{d:D}{Q:D->aA->Prop}(q:Q d S):E (cF d) Γ S Q:=⟨d,S,rfl,q⟩
theorem FT{Q:List D->aA->Prop}(q:Q [] S):E ai Γ S Q:=⟨[],S,rfl,q⟩
theorem Fk{f:bq}{g:fG}{Q:List D->aA->Prop}(h:E f Γ S fun d S1=>E g Γ S1 fun ds S2=>Q (d::ds) S2):E (ae f g) Γ S Q:=by
 obtain⟨d,S1,e1,ds,S2,e2,q⟩:=h
 exact⟨_,_,by unfold ae;rw[e1];simp only[Option.bind_some];rw[e2];rfl,q⟩
theorem wq{o:rp}{f g:bq}{Q:D->aA->Prop}(h:E f Γ S fun x S1=>E g Γ S1 fun y S2=>Op (o S2 x y) fun d=>Q d S2):E (ay o f g) Γ S Q:=by
 obtain⟨x,S1,e1,y,S2,e2,d,e3,q⟩:=h
 exact⟨d,S2,by unfold ay;rw[e1];simp only[Option.bind_some];rw[e2];simp only[Option.bind_some];rw[e3];rfl,q⟩
theorem Ig{f:fG}{Q:D->aA->Prop}(h:E f Γ S fun ds S1=>ds.length<=sizeLine/\Q (.tup ds) S1):E (aP f) Γ S Q:=by
 obtain⟨ds,S1,e1,l,q⟩:=h
 exact⟨_,_,by unfold aP;rw[e1];simp only[Option.bind_some];rw[if_pos l],q⟩
theorem GV{f:fG}{Q:List D->aA->Prop}(h:E f Γ S fun ds S1=>ds.length<=sizeLine/\Q ds S1):E (bB f) Γ S Q:=by
 obtain⟨ds,S1,e1,l,q⟩:=h
 exact⟨_,_,by unfold bB;rw[e1];simp only[Option.bind_some];rw[if_pos l],q⟩
theorem HR{f:fG}{Q:D->aA->Prop}(h:E f Γ S fun ds S1=>Q (.ref S1.length) (S1++ [.lst ds])):E (cv f) Γ S Q:=by
 obtain⟨ds,S1,e1,q⟩:=h
 exact⟨_,_,by unfold cv;rw[e1];rfl,q⟩
theorem Hy{o:DT}{f:fG}{Q:D->aA->Prop}(h:E f Γ S fun ds S1=>Op (o ds) fun d=>Q d S1):E (tX o f) Γ S Q:=by
 obtain⟨ds,S1,e1,d,e2,q⟩:=h
 exact⟨d,S1,by unfold tX;rw[e1];simp only[Option.bind_some];rw[e2];rfl,q⟩
theorem qY{f:bq}{Q:(List D×Tag)->aA->Prop}(h:E f Γ S fun d S1=>Op (pY S1 d) fun p=>Q p S1):E (a8 f) Γ S Q:=by
 obtain⟨ds,S1,e1,d,e2,q⟩:=h
 exact⟨d,S1,by unfold a8;rw[e1];simp only[Option.bind_some];rw[e2];rfl,q⟩
theorem oK{f:fG}{Q:(List D×Tag)->aA->Prop}(h:E f Γ S fun ds S1=>Q (ds,.fr) S1):E (fL f) Γ S Q:=by
 obtain⟨ds,S1,e1,q⟩:=h
 exact⟨_,S1,by unfold fL;rw[e1];rfl,q⟩
theorem Gx{f:eR}{Q:D->aA->Prop}(h:E f Γ S fun p S1=>Q (.int p.1.length) S1):E (gk f) Γ S Q:=by
 obtain⟨p,S1,e1,q⟩:=h
 exact⟨_,S1,by unfold gk;rw[e1];rfl,q⟩
theorem EF{f:eR}{Q:D->aA->Prop}(h:E f Γ S fun p S1=>Q (.tup p.1) S1):E (tupQ f) Γ S Q:=by
 obtain⟨p,S1,e1,q⟩:=h
 exact⟨_,S1,by unfold tupQ;rw[e1];rfl,q⟩
theorem Fy{f:eR}{Q:(List D×Tag)->aA->Prop}(h:E f Γ S fun p S1=>p.2.isL=true/\Q p S1):E (fU f) Γ S Q:=by
 obtain⟨p,S1,e1,l,q⟩:=h
 exact⟨_,S1,by unfold fU;rw[e1];simp only[Option.bind_some];rw[if_pos l],q⟩
theorem yX{f:eR}{Q:D->aA->Prop}(h:E f Γ S fun p S1=>(p.2.isL=true/\p.2.stays S1 p.1)/\Q (.bl (!p.1.isEmpty)) S1):E (di f) Γ S Q:=by
 obtain⟨p,S1,e1,l,q⟩:=h
 exact⟨_,S1,by unfold di;rw[e1];simp only[Option.bind_some];rw[if_pos l],q⟩
theorem HJ{F:c9}{g:fG}{Q:D->aA->Prop}(h:E g Γ S fun ds S1=>Fn F ds S1 fun r S2=>match r with|.d x=>Q x S2|.l _=>False):E (ao F g) Γ S Q:=by
 obtain⟨ds,S1,e1,r,S2,e2,q⟩:=h
 cases r with
 |d x=>exact⟨x,S2,by unfold ao;rw[e1];simp only[Option.bind_some];rw[e2];rfl,q⟩
 |l x=>exact q.elim
theorem G3{F:c9}{g:fG}{Q:List D->aA->Prop}(h:E g Γ S fun ds S1=>Fn F ds S1 fun r S2=>match r with|.d _=>False|.l x=>Q x S2):E (dk F g) Γ S Q:=by
 obtain⟨ds,S1,e1,r,S2,e2,q⟩:=h
 cases r with
 |d x=>exact q.elim
 |l x=>exact⟨x,S2,by unfold dk;rw[e1];simp only[Option.bind_some];rw[e2];rfl,q⟩
theorem fo{f:bq}{Q:Bool->aA->Prop}(h:E f Γ S fun d S1=>match d with|.bl k=>Q k S1|_=>False):E (aF f) Γ S Q:=by
 obtain⟨d,S1,e1,q⟩:=h
 cases d with
 |bl k=>exact⟨k,S1,by unfold aF;rw[e1];rfl,q⟩
 |_=>exact q.elim
theorem GL{f:bq}{Q:Bool->aA->Prop}(h:E f Γ S fun d S1=>Op (xb S1 d) fun k=>Q k S1):E (jo f) Γ S Q:=by
 obtain⟨d,S1,e1,k,e2,q⟩:=h
 exact⟨k,S1,by unfold jo;rw[e1];simp only[Option.bind_some];rw[e2];rfl,q⟩
theorem Ey{f:i6}{Q:Bool->aA->Prop}(h:E f Γ S fun k S1=>Q (!k) S1):E (u0 f) Γ S Q:=by
 obtain⟨k,S1,e1,q⟩:=h
 exact⟨_,S1,by unfold u0;rw[e1];rfl,q⟩
theorem uh{f g:i6}{Q:Bool->aA->Prop}(h:E f Γ S fun k S1=>if k=true then E g Γ S1 Q else Q false S1):E (gn f g) Γ S Q:=by
 obtain⟨k,S1,e1,q⟩:=h
 cases k with
 |true=>obtain⟨j,S2,e2,q⟩:=(q:E g Γ S1 Q);exact⟨j,S2,by unfold gn;rw[e1];exact e2,q⟩
 |false=>exact⟨false,S1,by unfold gn;rw[e1];rfl,q⟩
theorem Aq{f g:i6}{Q:Bool->aA->Prop}(h:E f Γ S fun k S1=>if k=true then Q true S1 else E g Γ S1 Q):E (DH f g) Γ S Q:=by
 obtain⟨k,S1,e1,q⟩:=h
 cases k with
 |true=>exact⟨true,S1,by unfold DH;rw[e1];rfl,q⟩
 |false=>obtain⟨j,S2,e2,q⟩:=(q:E g Γ S1 Q);exact⟨j,S2,by unfold DH;rw[e1];exact e2,q⟩
theorem Ib{c:i6}{f g:bq}{Q:D->aA->Prop}(h:E c Γ S fun k S1=>if k=true then E f Γ S1 Q else E g Γ S1 Q):E (qM c f g) Γ S Q:=by
 obtain⟨k,S1,e1,q⟩:=h
 cases k with
 |true=>obtain⟨j,S2,e2,q⟩:=(q:E f Γ S1 Q);exact⟨j,S2,by unfold qM;rw[e1];exact e2,q⟩
 |false=>obtain⟨j,S2,e2,q⟩:=(q:E g Γ S1 Q);exact⟨j,S2,by unfold qM;rw[e1];exact e2,q⟩
theorem Ay{i:Nat}{f:bq}{Q:Out->Prop}(h:E f Γ S fun d S1=>Q (.nx (Γ.set i (some d)) S1)):T (aU i f) Γ S Q:=by
 obtain⟨d,S1,e1,q⟩:=h
 exact⟨_,by unfold aU;rw[e1];rfl,q⟩
theorem og{f:bq}{Q:Out->Prop}(h:E f Γ S fun d S1=>Q (.rt d S1)):T (b9 f) Γ S Q:=by
 obtain⟨d,S1,e1,q⟩:=h
 exact⟨_,by unfold b9;rw[e1];rfl,q⟩
theorem HE{f:fG}{Q:Out->Prop}(h:E f Γ S fun d S1=>Q (.rl d S1)):T (AX f) Γ S Q:=by
 obtain⟨d,S1,e1,q⟩:=h
 exact⟨_,by unfold AX;rw[e1];rfl,q⟩
theorem gB{f:bq}{Q:Out->Prop}(h:E f Γ S fun d S1=>Q (.nx Γ S1)):T (kA f) Γ S Q:=by
 obtain⟨d,S1,e1,q⟩:=h
 exact⟨_,by unfold kA;rw[e1];rfl,q⟩
theorem cp{Q:Out->Prop}(q:Q (.nx Γ S)):T fu Γ S Q:=⟨_,rfl,q⟩
theorem Iu{f:bq}{g:lu}{Q:Out->Prop}(h:E f Γ S fun d S1=>Tg g d Γ S1 fun Γ1 S2=>Q (.nx Γ1 S2)):T (pq f g) Γ S Q:=by
 obtain⟨d,S1,e1,Γ1,S2,e2,q⟩:=h
 exact⟨_,by unfold pq;rw[e1];simp only[Option.bind_some];rw[e2];rfl,q⟩
theorem bC{f g:cH}{Q:Out->Prop}(h:T f Γ S fun o=>match o with|.nx Γ1 S1=>T g Γ1 S1 Q|o=>Q o):T (az f g) Γ S Q:=by
 obtain⟨o,e1,q⟩:=h
 cases o with
 |nx Γ1 S1=>obtain⟨o,e2,q⟩:=(q:T g Γ1 S1 Q);exact⟨o,by unfold az;rw[e1];exact e2,q⟩
 |_=>exact⟨_,by unfold az;rw[e1];rfl,q⟩
theorem dU{c:i6}{f g:cH}{Q:Out->Prop}(h:E c Γ S fun k S1=>if k=true then T f Γ S1 Q else T g Γ S1 Q):T (eC c f g) Γ S Q:=by
 obtain⟨k,S1,e1,q⟩:=h
 cases k with
 |true=>obtain⟨j,e2,q⟩:=(q:T f Γ S1 Q);exact⟨j,by unfold eC;rw[e1];exact e2,q⟩
 |false=>obtain⟨j,e2,q⟩:=(q:T g Γ S1 Q);exact⟨j,by unfold eC;rw[e1];exact e2,q⟩
theorem aR{i:Nat}{d:D}{Q:cE->aA->Prop}(q:Q (Γ.set i (some d)) S):Tg (bO i) d Γ S Q:=⟨_,_,rfl,q⟩
theorem Iq{f g:bq}{d:D}{Q:cE->aA->Prop}(h:E f Γ S fun x S1=>E g Γ S1 fun y S2=>∃k i ds j,x=.ref k/\y=.int i/\S2[k]?=some (.lst ds)/\zH ds.length i=some j/\Q Γ (S2.set k (.lst (ds.set j d)))):Tg (Fw f g) d Γ S Q:=by
 obtain⟨x,S1,e1,y,S2,e2,k,i,ds,j,rfl,rfl,h1,h2,q⟩:=h
 exact⟨_,_,by unfold Fw;rw[e1];simp only[Option.bind_some];rw[e2];simp only[Option.bind_some,h1,h2],q⟩
theorem Ie{f g h:bq}{Q:Out->Prop}(w:E f Γ S fun x S1=>E g Γ S1 fun y S2=>∃k i ds m,x=.ref k/\y=.int i/\S2[k]?=some (.lst ds)/\0<=i/\ds[i.toNat]?=some (.int m)/\E h Γ S2 fun z S3=>∃n es j,z=.int n/\S3[k]?=some (.lst es)/\zH es.length i=some j/\Q (.nx Γ (S3.set k (.lst (es.set j (.int (m+n))))))):T (G0 f g h) Γ S Q:=by
 obtain⟨x,S1,e1,y,S2,e2,k,i,ds,m,rfl,rfl,h1,h2,h3,z,S3,e3,n,es,j,rfl,h4,h5,q⟩:=w
 exact⟨_,by unfold G0;rw[e1];simp only[Option.bind_some];rw[e2];simp only[Option.bind_some,h1,if_pos h2,h3,e3,h4,h5],q⟩
theorem fJ{i:wR}{g:lu}{b:cH}{Q:Out->Prop} (h:E i Γ S fun p S1=>∃I:Nat->cE->aA->Prop,I 0 Γ S1/\(∀n Γ' S',I n Γ' S'->p.2 S')∧
   (∀(n:Nat) (d:D) (Γ':cE) (S':aA),p.1[n]?=some d->I n Γ' S'->Tg g d Γ' S' fun Γ1 S2=>T b Γ1 S2 fun o=>match o with|.nx Γ2 S3=>I (n+1) Γ2 S3|.ct Γ2 S3=>I (n+1) Γ2 S3|.bk Γ2 S3=>Q (.nx Γ2 S3)|o=>Q o)∧
   ∀Γ' S',I p.1.length Γ' S'->Q (.nx Γ' S')):T (gM i g b) Γ S Q:=by
 obtain⟨⟨ds,W⟩,S1,e1,I,h0,hW,hstep,hend⟩:=h
 have go:∀(k n:Nat) (Γ':cE) (S':aA),n+k=ds.length->I n Γ' S'->∃o,forL g b W (ds.drop n) Γ' S'=some o/\Q o:=by
  intro k
  induction k with
  | zero=>
    intro n Γ' S' hn hi
    rw[List.drop_of_length_le (by omega)]
    refine⟨.nx Γ' S',by simp only[forL];rw[if_pos (hW _ _ _ hi)],hend _ _ (by rw[←hn];exact hi)⟩
  | succ k ih=>
    intro n Γ' S' hn hi
    have hlt:n<ds.length:=by omega
    rw[List.drop_eq_getElem_cons hlt]
    obtain⟨Γ1,S2,e2,o,e3,q⟩:=hstep n ds[n] Γ' S' (gQe hlt) hi
    simp only[forL]
    rw[if_pos (hW _ _ _ hi),e2]
    simp only[Option.bind_some]
    rw[e3]
    simp only[Option.bind_some]
    cases o with
    |nx Γ2 S3=>exact ih (n+1) Γ2 S3 (by omega) q
    |ct Γ2 S3=>exact ih (n+1) Γ2 S3 (by omega) q
    |bk Γ2 S3=>exact⟨_,rfl,q⟩
    |rt d S3=>exact⟨_,rfl,q⟩
    |rl d S3=>exact⟨_,rfl,q⟩
 obtain⟨o,e2,q⟩:=go ds.length 0 Γ S1 (by omega) h0
 exact⟨o,by unfold gM;rw[e1];exact e2,q⟩
theorem jx{js:List (Option Nat)}{i:wR}{g:lu}{t:i6}{f:bq}{Q:List D->aA->Prop} (h:E i Γ S fun p S1=>∃I:Nat->cE->aA->List D->Prop,I 0 (lj js Γ) S1 []/\(∀n Γ' S' acc,I n Γ' S' acc->p.2 S')∧
   (∀(n:Nat) (d:D) (Γ':cE) (S':aA) (acc:List D),p.1[n]?=some d->I n Γ' S' acc->Tg g d Γ' S' fun Γ1 S2=>E t Γ1 S2 fun k S3=>if k=true then E f Γ1 S3 fun y S4=>acc.length<sizeLine/\I (n+1) Γ1 S4 (acc++ [y]) else I (n+1) Γ1 S3 acc)∧
   ∀Γ' S' acc,I p.1.length Γ' S' acc->Q acc S'):E (cC js i g t f) Γ S Q:=by
 obtain⟨⟨ds,W⟩,S1,e1,I,h0,hW,hstep,hend⟩:=h
 have go:∀(k n:Nat) (Γ':cE) (S':aA) (acc:List D),n+k=ds.length->I n Γ' S' acc->∃r S'',kn g t f W (ds.drop n) Γ' S' acc=some (r,S'')/\Q r S'':=by
  intro k
  induction k with
  | zero=>
    intro n Γ' S' acc hn hi
    rw[List.drop_of_length_le (by omega)]
    refine⟨acc,S',by simp only[kn];rw[if_pos (hW _ _ _ _ hi)],hend _ _ _ (by rw[←hn];exact hi)⟩
  | succ k ih=>
    intro n Γ' S' acc hn hi
    have hlt:n<ds.length:=by omega
    rw[List.drop_eq_getElem_cons hlt]
    obtain⟨Γ1,S2,e2,c,S3,e3,q⟩:=hstep n ds[n] Γ' S' acc (gQe hlt) hi
    simp only[kn]
    rw[if_pos (hW _ _ _ _ hi),e2]
    simp only[Option.bind_some]
    rw[e3]
    simp only[Option.bind_some]
    cases c with
    | true=>
      rw[if_pos rfl] at q⊢
      obtain⟨y,S4,e4,hl,q⟩:=q
      rw[e4]
      simp only[Option.bind_some]
      rw[if_pos hl]
      exact ih (n+1) Γ1 S4 _ (by omega) q
    | false=>
      rw[if_neg (by decide)] at q⊢
      exact ih (n+1) Γ1 S3 _ (by omega) q
 obtain⟨r,S'',e2,q⟩:=go ds.length 0 _ S1 [] (by omega) h0
 exact⟨r,S'',by unfold cC;rw[e1];exact e2,q⟩
theorem Dx{f:bq}{Q:(List D×(aA->Prop))->aA->Prop}(h:E f Γ S fun d S1=>∃j,d=.int j/\(-(2^62)<=j/\j<2^62)/\Q (fc 0 j,fun _=>True) S1):E (rJ f) Γ S Q:=by
 obtain⟨d,S1,e1,j,rfl,hj,q⟩:=h
 exact⟨_,S1,by unfold rJ;rw[e1];simp only[Option.bind_some];rw[if_pos hj],q⟩
theorem qX{f:eR}{Q:(List D×(aA->Prop))->aA->Prop}(h:E f Γ S fun p S1=>Q (p.1,fun S'=>p.2.stays S' p.1) S1):E (jm f) Γ S Q:=by
 obtain⟨p,S1,e1,q⟩:=h
 exact⟨_,S1,by unfold jm;rw[e1];rfl,q⟩
theorem ji{m:List D->List D->Option (List D×D)}{f:bq}{g:fG}{Q:D->aA->Prop}(h:E f Γ S fun x S1=>∃k ds0,x=.ref k/\S1[k]?=some (.lst ds0)/\E g Γ S1 fun ys S2=>∃ds,S2[k]?=some (.lst ds)/\Op (m ds ys) fun p=>Q p.2 (S2.set k (.lst p.1))):E (oB m f g) Γ S Q:=by
 obtain⟨x,S1,e1,k,ds0,rfl,h1,ys,S2,e2,ds,h2,p,e3,q⟩:=h
 exact⟨_,_,by unfold oB;rw[e1];simp only[Option.bind_some,e2,h1,h2,e3],q⟩
end
theorem bF{n:Nat}{b:cH}{ds:List D}{S:aA}{Q:Res->aA->Prop} (h:T b (ds.map some++List.replicate (n-ds.length) none) S fun o=>match o with
   |.nx _ S'=>Op (settle S .non S') fun p=>Q p.1 p.2|.rt d S'=>Op (settle S d S') fun p=>Q p.1 p.2|.rl l S'=>Op (dD S l S') fun p=>Q p.1 p.2|_=>False):Fn (ef n b) ds S Q:=by
 obtain⟨o,e1,q⟩:=h
 cases o with
 |nx Γ S'=>obtain⟨⟨r,S2⟩,e2,q⟩:=q;exact⟨r,S2,by unfold ef;rw[e1];exact e2,q⟩
 |rt d S'=>obtain⟨⟨r,S2⟩,e2,q⟩:=q;exact⟨r,S2,by unfold ef;rw[e1];exact e2,q⟩
 |rl d S'=>obtain⟨⟨r,S2⟩,e2,q⟩:=q;exact⟨r,S2,by unfold ef;rw[e1];exact e2,q⟩
 |bk=>exact q.elim
 |ct=>exact q.elim
theorem fZ{S S' S2:aA}{d:D}{Q:Res×aA->Prop}(hc:lL S S')(ht:S'.take S.length=S2)(hd:∀k,d≠.ref k)(hl:bJ S.length d=true)(q:Q (.d d,S2)):Op (settle S d S') Q:=by
 refine⟨_,?_,q⟩
 unfold settle
 rw[if_pos hc,ht]
 cases d with
 |ref k=>exact absurd rfl (hd k)
 |_=>simp only[hl,if_true]
theorem kU{S S' S2:aA}{ds:List D}{Q:Res×aA->Prop}(hc:lL S S')(ht:S'.take S.length=S2)(hl:bG S.length ds=true)(q:Q (.l ds,S2)):Op (dD S ds S') Q:=by
 refine⟨_,?_,q⟩
 unfold dD
 rw[if_pos ⟨hc,hl⟩,ht]
theorem pG{S:aA}:lL S S:=⟨Nat.le_refl _,fun k o _ h=>.inl h⟩
theorem sR{S:aA}{k:Nat}{o:O}(h:Cd S.length o=true):lL S (S.set k o):=by
 refine⟨by simp,fun j u _ e=> ?_⟩
 rw[List.getElem?_set] at e
 split at e
 ·split at e
  ·cases e;exact .inr h
  ·cases e
 ·exact .inl e
end DL
namespace L2
open PySem PySem.Spec PyProof.Rows
section
variable{X:Cx}{o e:Expr}{es:List Expr}{to:TE}{t:TA}{name:Str}{apos cpos:Pos}{id:String}{r:V->List V->Hp->VK->Prop}
def Il(r:V->List V->Hp->VK->Prop)(to:TE)(t:TA):TE:=fun σ H Q=>to σ H fun x H1=>(∃p xs,x=.ref p/\H1 p=some (.tup xs))/\t σ H1 fun xs H2=>r x xs H2 Q
theorem Ec(pa:PlainAttrs "tuple")(slot:Slot "tuple" name id)(hty:typeOf (.builtin id)=pure (.type "method_descriptor"))(hm:Gq X id r)(ho:PE X o to)(ha:PA X (e::es) t)
  (hbase:attributeBase o name X.env (eval o X.env)=eval o X.env:=by rfl)
  (hfew:((backTo cpos (starEach (e::es) X.env)).all (fun x=> !x.1)&&(backToKw cpos (keywordEach [] X.env)).all (fun x=>x.1.isSome)
   &&decide ((e::es).length+([]:List Keyword).length+(if ([]:List Keyword).isEmpty then 0 else 1)<30))=true:=by rfl)
  (hline:(apos.endLine==cpos.line)=true:=by rfl) (hs:starEach (e::es) X.env=(false,eval e X.env)::starEach es X.env:=by rfl) (hplain:(backTo cpos (starEach es X.env)).any (·.1)=false:=by rfl):
  PE X (.Call (.Attribute o name apos) (e::es) [] cpos) (Il r to t):=by
 intro pins s σ H Q I h
 refine wpAny_Call_method_late hbase hfew hline rfl (cG (ho pins s σ H _ I h) fun v s1 qr=> ?_)
 obtain⟨x,H1,I1,r1,⟨p,xs,e1,hp⟩,q1⟩:=qr
 subst e1
 cases r1
 obtain⟨_,its,_,ob,e1,c1,d1,_⟩:=(show cK X.prog X.w H1 s1.heap p (.tup xs) from I1.hok p _ hp)
 refine⟨"tuple",id,pa,slot,hty,⟨ob,e1,c1⟩,fun a e=>by cases e;exact⟨ob,e1,d1⟩,?_⟩
 have hA:=ha cpos pins s1 σ H1 _ I1 q1
 rw[hs] at hA⊢
 refine Calls.callWith_builtin (by show(false||(backTo cpos (starEach es X.env)).any (·.1))=false;rw[hplain] <;>rfl) (Calls.evalArgs_plain ?_)
 exact cG hA fun us s2 ⟨vs,H2,I2,r2,q2⟩=>hm pins s2 σ H2 (.ref p) vs (.ref p) us Q I2 rfl r2 q2
end
end L2
namespace DL
open PySem PySem.Spec L2
section
variable{X:Cx}{e:Expr}
def nc(f g:bq):bq:=fun Γ S=>(f Γ S).bind fun(x,S1)=>match x with
 |.tup ds=>(g Γ S1).bind fun(y,S2)=>(rO y).bind fun v=>(jE ds).bind fun vs=>some (.int ((vs.countP fun z=>kf z v:Nat):Int),S2)
 |_=>none
theorem uc{f g:bq}{o:Expr}{apos cpos:Pos}(ho:PE X o (tD (md X) f))(ha:PE X e (tD (md X) g))(hbase:attributeBase o "count" X.env (eval o X.env)=eval o X.env:=by rfl) (hfew:((backTo cpos (starEach [e] X.env)).all (fun x=> !x.1)&&(backToKw cpos (keywordEach [] X.env)).all (fun x=>x.1.isSome)
   &&decide ([e].length+([]:List Keyword).length+(if ([]:List Keyword).isEmpty then 0 else 1)<30))=true:=by rfl)
  (hline:(apos.endLine==cpos.line)=true:=by rfl) (hs:starEach [e] X.env= [(false,eval e X.env)]:=by rfl):PE X (.Call (.Attribute o "count" apos) [e] [] cpos) (tD (md X) (nc f g)):=
 je (Ec PySem.F.plainAttrs_tuple PySem.F.slot_tuple_count PySem.F.type_tuple_count zU ho (cW ha eL hs) hbase hfew hline hs) fun σ H Q qq=>by
  obtain⟨ρ,Γ,S,d,S',ok,e,q⟩:=qq
  obtain⟨⟨x,S1⟩,e1,e⟩:=bind_some e
  cases x with
  | tup ds=>
    dsimp only at e
    obtain⟨⟨y,S2⟩,e2,e⟩:=bind_some e
    obtain⟨v,e3,e⟩:=bind_some e
    obtain⟨vs,e4,e⟩:=bind_some e
    obtain⟨rfl,rfl⟩:=cu e
    refine⟨ρ,Γ,S,_,S1,ok,e1,fun ρ1 v1 H1 x1 st1 r1=> ?_⟩
    cases r1 with
    | tup ht hr=>
      refine⟨⟨_,_,rfl,ht⟩,ρ1,Γ,S1,y,S2,ok.to x1 st1,e2,fun ρ2 w H2 x2 st2 r2=> ?_⟩
      obtain⟨f1,f2⟩:=lP (hr.ext x2) e4
      subst f1
      cases jO r2 e3
      exact⟨_,_,_,rfl,rfl,gL.of (x2.keep _ _ ht (.inr trivial)),lD e3,f2,q _ _ _ (x1.trans x2) st2 (.int _)⟩
  |_=>cases e
theorem uA{Γ:cE}{S:aA}{f g:bq}{Q:D->aA->Prop}(h:E f Γ S fun x S1=>∃ds,x=.tup ds/\E g Γ S1 fun y S2=>∃v vs,rO y=some v/\jE ds=some vs/\Q (.int ((vs.countP fun z=>kf z v:Nat):Int)) S2):E (nc f g) Γ S Q:=by
 obtain⟨x,S1,e1,ds,rfl,y,S2,e2,v,vs,h1,h2,q⟩:=h
 exact⟨_,S2,by unfold nc;rw[e1];simp only[Option.bind_some];rw[e2];simp only[Option.bind_some,h1,h2],q⟩
end
end DL
namespace W28
open PySem PySem.Spec L2 DL
noncomputable def tK:cH:=
 (az (aU 2 (cF (.int 0)))
 (az (eC (aF (ay AY (af 1) (gk (a8 (af 0))))) (aU 2 (tX C0 (ae (ay aJ (af 0) (af 1)) ai))) fu)
 (az (aU 3 (ay kO (ay oG (af 2) (ay kO (ay uB (cF (.int 10)) (cF (.int 60))) (ay uB (cF (.int 10)) (cF (.int 60))))) (tX intOfD (ae (ay Hl (af 2) (ay uB (cF (.int 10)) (cF (.int 18)))) ai))))
 (AX (bB (ae (af 3) (ae (ay oG (ay cq (ay cq (af 2) (ay kO (cF (.int 104729)) (af 1))) (cF (.int 7))) (cF (.int 2305843009213693951))) (ae (cF (.int 0)) ai))))))))
noncomputable def jZ:c9:=ef 4 tK
noncomputable def qx:cH:=
 (az (eC (aF (ay Fx (ay aJ (af 0) (cF (.int 0))) (cF (.int 0)))) (az (aU 2 (ay oG (ay aJ (af 0) (cF (.int 0))) (af 1)))
 (az (pq (ay vc (ay aJ (af 0) (cF (.int 0))) (af 1)) (Fw (af 0) (cF (.int 0))))
 (b9 (af 2)))) fu)
 (az (G0 (af 0) (cF (.int 2)) (cF (.int 1)))
 (az (aU 3 (ay oG (ay cq (ay cq (ay kO (ay aJ (af 0) (cF (.int 1))) (cF (.int 69069))) (ay kO (cF (.int 9973)) (ay aJ (af 0) (cF (.int 2))))) (cF (.int 5))) (cF (.int 2305843009213693921))))
 (az (pq (ay oG (ay kO (af 3) (ay cq (ay cq (ay oG (af 3) (cF (.int 999983))) (ay kO (cF (.int 2)) (ay aJ (af 0) (cF (.int 2))))) (cF (.int 3)))) (cF (.int 2305843009213693907))) (Fw (af 0) (cF (.int 1))))
 (b9 (ay oG (ay vc (ay aJ (af 0) (cF (.int 1))) (cF (.int 65537))) (af 1)))))))
noncomputable def aw:c9:=ef 4 qx
noncomputable def nQ:cH:=
 (az (aU 3 (cv (cC [none,some 1] (jm (fL (bB (ae (cF (.str "a")) (ae (cF (.str "b")) (ae (cF (.str "c")) (ae (cF (.str "d")) (ae (cF (.str "e")) (ae (cF (.str "zz")) ai))))))))) (bO 0) cX (ay cq (af 1) (af 0)))))
 (AX (yP (fL (cC [none,some 0,some 3] (rJ (af 2)) (bO 0) cX (oB kF (af 2) (ae (ao aw (ae (af 1) (ae (gk (a8 (af 2))) ai))) ai)))))))
noncomputable def cj:c9:=ef 4 nQ
noncomputable def qm:cH:=
 (b9 (ay aJ (af 1) (ao aw (ae (af 0) (ae (gk (a8 (af 1))) ai)))))
noncomputable def aZ:c9:=ef 2 qm
noncomputable def sA(self:c9):cH:=
 (az (aU 4 (ao aw (ae (af 0) (ae (cF (.int 9)) ai))))
 (az (eC (DH (aF (ay AY (af 3) (cF (.int 1)))) (aF (ay AY (af 4) (cF (.int 3))))) (az (eC (gn (aF (di (a8 (af 1)))) (aF (ay Fx (ao aw (ae (af 0) (ae (cF (.int 3)) ai))) (cF (.int 0))))) (b9 (ao aZ (ae (af 0) (ae (af 1) ai)))) fu)
 (b9 (ao aw (ae (af 0) (ae (ay aJ (cv (bB (ae (cF (.int 3)) (ae (cF (.int 10)) ai)))) (tX intOfD (ae (ay (eB false) (ao aw (ae (af 0) (ae (cF (.int 5)) ai))) (cF (.int 0))) ai))) ai))))) fu)
 (az (eC (gn (aF (ay (eB false) (af 4) (cF (.int 3)))) (aF (di (a8 (af 2))))) (b9 (aP (ae (cF (.str "waits")) (ae (ao aZ (ae (af 0) (ae (af 2) ai))) ai)))) fu)
 (az (eC (aF (ay (eB false) (af 4) (cF (.int 4)))) (b9 (aP (ae (cF (.str "not")) (ae (ao self (ae (af 0) (ae (af 1) (ae (af 2) (ae (ay j7 (af 3) (cF (.int 1))) ai))))) ai)))) fu)
 (az (aU 5 (ay aJ (cv (bB (ae (cF (.str "plus")) (ae (cF (.str "minus")) (ae (cF (.str "less")) (ae (cF (.str "same")) (ae (cF (.str "both")) ai))))))) (ao aw (ae (af 0) (ae (cF (.int 5)) ai)))))
 (b9 (aP (ae (af 5) (ae (ao self (ae (af 0) (ae (af 1) (ae (af 2) (ae (ay j7 (af 3) (cF (.int 1))) ai))))) (ae (ao self (ae (af 0) (ae (af 1) (ae (af 2) (ae (ay j7 (af 3) (cF (.int 1))) ai))))) ai))))))))))
noncomputable def a9:Nat->c9
 |0=>fun _ _=>none
 |n+1=>ef 6 (sA (a9 n))
noncomputable def nH:cH:=
 (az (aU 4 (ay aJ (cv (bB (ae (cF (.int 0)) (ae (cF (.str "given")) (ae (ao (a9 4) (ae (af 0) (ae (af 1) (ae (af 2) (ae (cF (.int 1)) ai))))) ai))))) (ao aw (ae (af 0) (ae (cF (.int 3)) ai)))))
 (az (aU 5 (aP (ae (cF (.str "wait")) (ae (ao aZ (ae (af 0) (ae (af 2) ai))) (ae (af 4) ai)))))
 (az (aU 6 (ao aw (ae (af 0) (ae (cF (.int 3)) ai))))
 (az (eC (aF (ay (eB false) (af 6) (cF (.int 0)))) (AX (bB (ae (af 5) ai))) fu)
 (az (aU 7 (aP (ae (cF (.str "not")) (ae (ao (a9 4) (ae (af 0) (ae (af 1) (ae (af 2) (ae (cF (.int 2)) ai))))) ai))))
 (AX (bB (ae (aP (ae (cF (.str "unless")) (ae (af 7) (ae (ay cq (af 3) (cF (.int 3))) ai)))) (ae (af 5) (ae (aP (ae (cF (.str "go")) (ae (ay aJ (cv (bB (ae (af 3) (ae (ay cq (af 3) (cF (.int 3))) ai)))) (ay j7 (af 6) (cF (.int 1)))) ai))) ai))))))))))
noncomputable def gV:c9:=ef 8 nH
noncomputable def vt:cH:=
 (az (pq (ao aZ (ae (af 0) (ae (af 1) ai))) (iB (nG 2 (aE (bO 4) (aE (bO 5) dC)))))
 (az (aU 6 (ao aZ (ae (af 0) (ae (cv (uJ (fL (bB (ae (cF .non) ai))) (a8 (af 2)))) ai))))
 (b9 (aP (ae (cF (.str "do")) (ae (af 6) (ae (af 4) (ae (af 5) (ae (ao (a9 4) (ae (af 0) (ae (af 3) (ae (cv (bB ai)) (ae (cF (.int 1)) ai))))) ai)))))))))
noncomputable def ik:c9:=ef 7 vt
noncomputable def qD:cH:=
 (az (pq (af 1) (iB (nG 3 (aE (bO 4) (aE (bO 5) (aE (bO 6) dC))))))
 (az (aU 7 (cv (uJ (a8 (af 5)) (fL (bB (ae (cF (.str "given")) ai))))))
 (az (aU 8 (cv (bB ai)))
 (az (gM (rJ (ay cq (cF (.int 1)) (ao aw (ae (af 0) (ae (af 3) ai))))) (bO 9) (az (aU 10 (ao aw (ae (af 0) (ae (cF (.int 9)) ai))))
 (eC (gn (aF (ay AY (af 10) (cF (.int 2)))) (aF (di (a8 (af 6))))) (kA (oM (af 8) (fL (dk gV (ae (af 0) (ae (af 7) (ae (af 6) (ae (gk (a8 (af 8))) ai)))))))) (eC (gn (aF (ay AY (af 10) (cF (.int 4)))) (aF (di (a8 (af 6))))) (az (aU 11 (ay aJ (cv (bB (ae (cF (.str "call")) (ae (cF (.str "all")) ai)))) (tX intOfD (ae (rR (ay (eB false) (af 4) (cF (.str "when free"))) (ay (eB false) (af 10) (cF (.int 3)))) ai))))
 (kA (oB gH (af 8) (ae (aP (ae (af 11) (ae (ao aZ (ae (af 0) (ae (af 6) ai))) ai))) ai)))) (eC (gn (aF (ay (eB false) (af 10) (cF (.int 4)))) (aF (di (a8 (af 2))))) (kA (oB gH (af 8) (ae (ao ik (ae (af 0) (ae (af 2) (ae (af 5) (ae (af 7) ai))))) ai))) (eC (aF (ay (eB false) (af 10) (cF (.int 5)))) (az (kA (oB gH (af 8) (ae (aP (ae (cF (.str "unless")) (ae (ao (a9 4) (ae (af 0) (ae (af 7) (ae (af 6) (ae (cF (.int 2)) ai))))) (ae (ay cq (gk (a8 (af 8))) (cF (.int 2))) ai)))) ai)))
 (kA (oB gH (af 8) (ae (aP (ae (cF (.str "tell")) (ae (ao aw (ae (af 0) (ae (cF (.int 10)) ai))) ai))) ai)))) (eC (gn (aF (ay AY (af 10) (cF (.int 8)))) (aF (di (a8 (af 5))))) (kA (oB gH (af 8) (ae (aP (ae (cF (.str "put")) (ae (ao aZ (ae (af 0) (ae (af 5) ai))) (ae (ao (a9 4) (ae (af 0) (ae (af 7) (ae (af 6) (ae (cF (.int 2)) ai))))) ai)))) ai))) (kA (oB gH (af 8) (ae (aP (ae (cF (.str "tell")) (ae (ao (a9 4) (ae (af 0) (ae (af 7) (ae (af 6) (ae (cF (.int 1)) ai))))) ai))) ai))))))))))
 (b9 (tupQ (fU (a8 (af 8)))))))))
noncomputable def iE:c9:=ef 12 qD
noncomputable def pQ:cH:=
 (az (aU 5 (ao aZ (ae (af 0) (ae (af 3) ai))))
 (az (aU 6 (cv (dk cj (ae (af 0) (ae (cF (.str "")) (ae (ay aJ (cv (bB (ae (cF (.int 1)) (ae (cF (.int 1)) (ae (cF (.int 2)) (ae (cF (.int 0)) ai)))))) (ao aw (ae (af 0) (ae (cF (.int 4)) ai)))) ai))))))
 (az (aU 7 (cv (dk cj (ae (af 0) (ae (cF (.str "")) (ae (ao aw (ae (af 0) (ae (ay cq (af 4) (cF (.int 1))) ai))) ai))))))
 (az (aU 8 (cv (bB ai)))
 (az (gM (jm (fL (dk cj (ae (af 0) (ae (cF (.str "")) (ae (ay cq (cF (.int 1)) (ao aw (ae (af 0) (ae (cF (.int 3)) ai)))) ai)))))) (bO 9) (az (aU 10 (cv (cC [none,some 1] (jm (a8 (af 8))) (bO 0) cX (aP (ae (af 1) (ae (ay aJ (af 0) (cF (.int 0))) ai))))))
 (az (aU 11 (cv (uJ (a8 (af 2)) (fL (rq (a8 (af 10)) (tX intOfD (ae (ay (eB false) (ao aw (ae (af 0) (ae (cF (.int 5)) ai))) (cF (.int 0))) ai)))))))
 (kA (oB gH (af 8) (ae (aP (ae (af 9) (ae (ao iE (ae (af 0) (ae (aP (ae (af 5) (ae (af 6) (ae (af 7) ai)))) (ae (af 11) (ae (cF (.int 4)) ai))))) ai))) ai))))))
 (az (aU 12 (tupQ (fL (cC [none,some 0] (jm (a8 (af 7))) (bO 0) cX (aP (ae (af 0) (ae (ay aJ (cv (bB (ae (cF (.str "row")) (ae (cF (.str "turns")) ai)))) (ao aw (ae (af 1) (ae (cF (.int 2)) ai)))) ai)))))))
 (b9 (aP (ae (af 1) (ae (af 5) (ae (tupQ (fL (cC [none,some 0] (jm (a8 (af 6))) (bO 0) cX (aP (ae (af 0) (ae (ao aw (ae (af 1) (ae (cF (.int 3)) ai))) ai)))))) (ae (af 12) (ae (tupQ (fU (a8 (af 8)))) ai)))))))))))))
noncomputable def iM:c9:=ef 13 pQ
noncomputable def nZ:cH:=
 (az (aU 4 (cv (dk cj (ae (af 0) (ae (cF (.str "")) (ae (af 1) ai))))))
 (az (aU 5 (cv (bB ai)))
 (az (B9 (aF (di (a8 (af 4)))) (az (aU 6 (cv (bB ai)))
 (az (gM (jm (a8 (af 5))) (bO 7) (kA (oM (af 6) (fL (cC [none,some 7] (jm (a8 (ay aJ (af 7) (cF (.int 4))))) (bO 0) cX (aP (ae (ay aJ (af 1) (cF (.int 0))) (ae (ay aJ (af 0) (cF (.int 0))) ai))))))))
 (az (aU 8 (oB kF (af 4) (ae (ao aw (ae (af 0) (ae (gk (a8 (af 4))) ai))) ai)))
 (kA (oB gH (af 5) (ae (ao iM (ae (af 0) (ae (af 8) (ae (af 6) (ae (af 2) (ae (af 3) ai)))))) ai)))))) 4)
 (b9 (tupQ (fL (uj (a8 (af 5)))))))))
noncomputable def gS:c9:=ef 9 nZ
noncomputable def tw:cH:=
 (az (aU 5 (cv (bB ai)))
 (az (gM (rJ (ay cq (cF (.int 1)) (ao aw (ae (af 0) (ae (af 4) ai))))) (bO 6) (az (aU 7 (ao aw (ae (af 0) (ae (cF (.int 10)) ai))))
 (eC (gn (aF (ay AY (af 7) (cF (.int 5)))) (aF (di (a8 (af 1))))) (kA (oB gH (af 5) (ae (ao ik (ae (af 0) (ae (af 1) (ae (af 2) (ae (af 2) ai))))) ai))) (eC (gn (aF (ay (eB false) (af 7) (cF (.int 5)))) (aF (di (a8 (af 3))))) (kA (oB gH (af 5) (ae (aP (ae (ay aJ (cv (bB (ae (cF (.str "take")) (ae (cF (.str "give")) ai)))) (ao aw (ae (af 0) (ae (cF (.int 2)) ai)))) (ae (ao aZ (ae (af 0) (ae (af 3) ai))) ai))) ai))) (eC (gn (aF (ay (eB false) (af 7) (cF (.int 6)))) (aF (di (a8 (af 3))))) (kA (oB gH (af 5) (ae (aP (ae (cF (.str "pass")) (ae (ao aZ (ae (af 0) (ae (af 3) ai))) (ae (ao aZ (ae (af 0) (ae (af 3) ai))) ai)))) ai))) (eC (gn (aF (ay (eB false) (af 7) (cF (.int 7)))) (aF (di (a8 (af 2))))) (kA (oB gH (af 5) (ae (aP (ae (cF (.str "put")) (ae (ao aZ (ae (af 0) (ae (af 2) ai))) (ae (ao (a9 4) (ae (af 0) (ae (af 2) (ae (cv (bB ai)) (ae (cF (.int 2)) ai))))) ai)))) ai))) (eC (aF (ay (eB false) (af 7) (cF (.int 8)))) (az (kA (oB gH (af 5) (ae (aP (ae (cF (.str "unless")) (ae (ao (a9 4) (ae (af 0) (ae (af 2) (ae (cv (bB ai)) (ae (cF (.int 2)) ai))))) (ae (ay cq (gk (a8 (af 5))) (cF (.int 2))) ai)))) ai)))
 (kA (oB gH (af 5) (ae (aP (ae (cF (.str "say")) (ae (ao (a9 4) (ae (af 0) (ae (af 2) (ae (cv (bB ai)) (ae (cF (.int 1)) ai))))) ai))) ai)))) (kA (oB gH (af 5) (ae (aP (ae (cF (.str "say")) (ae (ao (a9 4) (ae (af 0) (ae (af 2) (ae (cv (bB ai)) (ae (cF (.int 1)) ai))))) ai))) ai))))))))))
 (az (eC (aF (ay (eB false) (ao aw (ae (af 0) (ae (cF (.int 5)) ai))) (cF (.int 0)))) (kA (oB gH (af 5) (ae (aP (ae (cF (.str "go")) (ae (ao aw (ae (af 0) (ae (ay cq (gk (a8 (af 5))) (cF (.int 2))) ai))) ai))) ai))) fu)
 (b9 (tupQ (fU (a8 (af 5))))))))
noncomputable def jW:c9:=ef 8 tw
noncomputable def nR:cH:=
 (az (aU 4 (cv (bB ai)))
 (az (gM (jm (a8 (af 1))) (bO 5) (kA (oM (af 4) (fL (cC [none,some 5] (jm (a8 (ay aJ (af 5) (cF (.int 4))))) (bO 0) cX (aP (ae (ay aJ (af 1) (cF (.int 0))) (ae (ay aJ (af 0) (cF (.int 0))) ai))))))))
 (az (aU 6 (cv (dk cj (ae (af 0) (ae (cF (.str "p")) (ae (ao aw (ae (af 0) (ae (ay cq (af 3) (cF (.int 1))) ai))) ai))))))
 (az (aU 7 (cv (dk cj (ae (af 0) (ae (cF (.str "o")) (ae (ay aJ (cv (bB (ae (cF (.int 0)) (ae (cF (.int 0)) (ae (cF (.int 1)) (ae (cF (.int 2)) ai)))))) (ao aw (ae (af 0) (ae (cF (.int 4)) ai)))) ai))))))
 (az (aU 8 (cv (bB ai)))
 (az (gM (rJ (af 2)) (bO 9) (az (aU 10 (cv (dk cj (ae (af 0) (ae (cF (.str "")) (ae (ay aJ (cv (bB (ae (cF (.int 0)) (ae (cF (.int 1)) (ae (cF (.int 1)) (ae (cF (.int 2)) ai)))))) (ao aw (ae (af 0) (ae (cF (.int 4)) ai)))) ai))))))
 (az (aU 11 (ao jW (ae (af 0) (ae (af 4) (ae (cv (uJ (a8 (af 10)) (a8 (af 7)))) (ae (af 6) (ae (cF (.int 4)) ai)))))))
 (kA (oB gH (af 8) (ae (aP (ae (tupQ (fL (cC [none,some 0] (jm (a8 (af 10))) (bO 0) cX (aP (ae (af 0) (ae (ao aw (ae (af 1) (ae (cF (.int 3)) ai))) ai)))))) (ae (af 11) ai))) ai))))))
 (az (aU 12 (tupQ (fL (cC [none,some 0] (jm (a8 (af 6))) (bO 0) cX (aP (ae (af 0) (ae (ao aw (ae (af 1) (ae (cF (.int 3)) ai))) ai)))))))
 (b9 (aP (ae (af 1) (ae (af 12) (ae (tupQ (fL (cC [none,some 0] (jm (a8 (af 7))) (bO 0) cX (aP (ae (af 0) (ae (ao aw (ae (af 1) (ae (cF (.int 3)) ai))) ai)))))) (ae (tupQ (fU (a8 (af 8)))) ai)))))))))))))
noncomputable def gX:c9:=ef 13 nR
noncomputable def ja:cH:=
 (az (aU 1 (ao gS (ae (af 0) (ae (ay aJ (cv (bB (ae (cF (.int 1)) (ae (cF (.int 2)) (ae (cF (.int 3)) (ae (cF (.int 1)) (ae (cF (.int 2)) (ae (cF (.int 0)) ai)))))))) (ao aw (ae (af 0) (ae (cF (.int 6)) ai)))) (ae (cv (bB (ae (cF (.str "at once")) (ae (cF (.str "when free")) ai)))) (ae (cF (.int 2)) ai))))))
 (b9 (ao gX (ae (af 0) (ae (af 1) (ae (ay cq (cF (.int 1)) (ao aw (ae (af 0) (ae (cF (.int 4)) ai)))) (ae (cF (.int 2)) ai)))))))
noncomputable def dG:c9:=ef 2 ja
noncomputable def qk:cH:=
 (b9 (tupQ (fL (cC [none,none] (jm (a8 (af 0))) (iB (nG 2 (aE (bO 0) (aE (bO 1) dC)))) cX (af 1)))))
noncomputable def eP:c9:=ef 1 qk
noncomputable def nM:cH:=
 (az (pq (af 0) (iB (nG 5 (aE (bO 1) (aE (bO 2) (aE (bO 3) (aE (bO 4) (aE (bO 5) dC))))))))
 (b9 (aP (ae (ao eP (ae (af 3) ai)) (ae (cF (.int (-1))) (ae (aP ai) (ae (aP ai) (ae (tupQ (fL (cC [none] (jm (a8 (af 4))) (bO 0) cX (aP ai)))) ai))))))))
noncomputable def gP:c9:=ef 6 nM
noncomputable def BS:cH:=
 (az (pq (af 0) (iB (nG 4 (aE (bO 1) (aE (bO 2) (aE (bO 3) (aE (bO 4) dC)))))))
 (az (aU 5 (aP (ae (cF (.int (-1))) (ae (cF (.int (-1))) (ae (cF (.int 0)) (ae (cF (.int 0)) (ae (cF (.int 0)) ai)))))))
 (b9 (aP (ae (tupQ (fL (cC [none] (jm (a8 (af 1))) (bO 0) cX (ao gP (ae (af 0) ai))))) (ae (tupQ (fL (cC [none,none] (jm (a8 (af 2))) (iB (nG 2 (aE (bO 0) (aE (bO 1) dC)))) cX (aP (ae (af 1) (ae (aP ai) ai)))))) (ae (ao eP (ae (af 3) ai)) (ae (tupQ (fL (cC [none,none,some 5] (jm (a8 (af 4))) (iB (nG 2 (aE (bO 0) (aE (bO 1) dC)))) cX (aP (ae (ao eP (ae (af 0) ai)) (ae (aP (ae (af 2) ai)) ai)))))) ai))))))))
noncomputable def uz:c9:=ef 6 BS
noncomputable def sM:cH:=
 (AX (cC [none,none] (jm (a8 (af 0))) (iB (nG 2 (aE (bO 0) (aE (bO 1) dC)))) cX (af 1)))
noncomputable def gd:c9:=ef 1 sM
noncomputable def jL:cH:=
 (az (aU 1 (cv (bB ai)))
 (az (gM (jm (a8 (ay aJ (af 0) (cF (.int 1))))) (iB (nG 2 (aE (bO 2) (aE (bO 3) dC)))) (kA (sS (af 1) (a8 (af 3)))))
 (az (gM (jm (a8 (ay aJ (af 0) (cF (.int 0))))) (iB (nG 5 (aE (bO 4) (aE (bO 5) (aE (bO 3) (aE (bO 6) (aE (bO 7) dC))))))) (az (kA (sS (af 1) (a8 (ay cq (af 3) (af 6)))))
 (gM (jm (a8 (af 7))) (bO 8) (kA (oM (af 1) (fL (dk gd (ae (af 8) ai))))))))
 (b9 (af 1)))))
noncomputable def d0:c9:=ef 9 jL
noncomputable def n_:cH:=
 (b9 (ay aJ (ay aJ (ay aJ (ay aJ (af 0) (cF (.int 3))) (af 1)) (cF (.int 1))) (oI (cF (.int 1)))))
noncomputable def bp:c9:=ef 2 n_
noncomputable def nI:cH:=
 (az (Dv 3 4 (ae (ay aJ (af 2) (cF (.int 0))) (ae (ay aJ (af 2) (cF (.int 1))) ai)))
 (az (eC (aF (ay (eB false) (af 3) (cF (.int (-1))))) (b9 (ay aJ (ay aJ (ay aJ (af 0) (cF (.int 3))) (af 1)) (cF (.int 1)))) fu)
 (b9 (ay aJ (ay aJ (ay aJ (ay aJ (ay aJ (af 0) (cF (.int 0))) (af 3)) (cF (.int 4))) (af 4)) (cF (.int 1))))))
noncomputable def cI:c9:=ef 5 nI
noncomputable def jG:cH:=
 (az (aU 3 (ao bp (ae (af 1) (ae (af 2) ai))))
 (b9 (rR (ay (eB false) (ay aJ (af 3) (cF (.int 0))) (cF (.int (-1)))) (ay (eB false) (ay aJ (af 3) (cF (.int 2))) (gk (a8 (ao cI (ae (af 0) (ae (af 2) (ae (af 3) ai))))))))))
noncomputable def eX:c9:=ef 4 jG
noncomputable def tm:cH:=
 (az (aU 2 (cv (dk d0 (ae (af 1) ai))))
 (AX (cC [none,some 0,some 1,some 2] (rJ (gk (a8 (ay aJ (af 1) (cF (.int 3)))))) (bO 0) (gn (aF (ye true (af 0) (a8 (af 3)))) (u0 (jo (ao eX (ae (af 1) (ae (af 2) (ae (af 0) ai))))))) (af 0))))
noncomputable def gf:c9:=ef 3 tm
noncomputable def oo:cH:=
 (az (aU 3 (cv (bB ai)))
 (az (gM (q0 (a8 (ay aJ (af 0) (cF (.int 1)))) (a8 (ay aJ (af 1) (cF (.int 1))))) (iB (nG 2 (aE (bO 4) (aE (bO 5) dC)))) (kA (oM (af 3) (fL (rq (fL (bB (ae (aP (ae (cF (.str "pass")) (ae (ay aJ (af 4) (cF (.int 0))) ai))) ai))) (nc (ay aJ (af 5) (cF (.int 1))) (af 2)))))))
 (az (gM (q0 (a8 (ay aJ (af 0) (cF (.int 0)))) (a8 (ay aJ (af 1) (cF (.int 0))))) (iB (nG 2 (aE (bO 6) (aE (bO 5) dC)))) (az (kA (oM (af 3) (fL (uJ (fL (rq (fL (bB (ae (aP (ae (cF (.str "row")) (ae (ay aJ (af 6) (cF (.int 0))) ai))) ai))) (nc (ay aJ (af 5) (cF (.int 2))) (af 2)))) (fL (rq (fL (bB (ae (aP (ae (cF (.str "late")) (ae (ay aJ (af 6) (cF (.int 0))) ai))) ai))) (nc (ay aJ (af 5) (cF (.int 3))) (af 2))))))))
 (gM (q0 (a8 (ay aJ (af 6) (cF (.int 3)))) (a8 (ay aJ (af 5) (cF (.int 4))))) (iB (nG 2 (aE (bO 7) (aE (bO 8) dC)))) (kA (oM (af 3) (fL (rq (fL (bB (ae (aP (ae (cF (.str "bell")) (ae (ay aJ (af 6) (cF (.int 0))) (ae (ay aJ (af 7) (cF (.int 0))) ai)))) ai))) (gk (fL (cC [none,some 2] (jm (a8 (af 8))) (bO 0) (aF (ay (eB false) (ay aJ (af 0) (cF (.int 1))) (af 1))) (af 0)))))))))))
 (b9 (af 3)))))
noncomputable def gU:c9:=ef 9 oo
noncomputable def qZ:cH:=
 (az (pq (ay aJ (ay aJ (ay aJ (ay aJ (af 1) (cF (.int 3))) (af 2)) (cF (.int 1))) (oI (cF (.int 1)))) (iB (nG 5 (aE (bO 3) (aE (bO 4) (aE (bO 5) (aE (bO 6) (aE (bO 7) dC))))))))
 (az (eC (aF (ay AY (af 3) (cF (.int 0)))) (b9 (ay aJ (cv (bB (ae (cF (.str "out")) (ae (cF (.str "done")) ai)))) (tX intOfD (ae (ay (eB false) (af 5) (gk (a8 (ay aJ (ay aJ (ay aJ (af 0) (cF (.int 3))) (af 2)) (cF (.int 1)))))) ai)))) fu)
 (b9 (ay aJ (cv (bB (ae (cF (.str "called")) (ae (cF (.str "within")) ai)))) (tX intOfD (ae (ay (eB false) (ay aJ (ay aJ (ay aJ (af 1) (cF (.int 0))) (af 3)) (cF (.int 1))) (af 2)) ai))))))
noncomputable def iR:c9:=ef 8 qZ
noncomputable def mE:cH:=
 (az (aU 3 (cv (dk gU (ae (af 0) (ae (af 1) (ae (af 2) ai))))))
 (az (eC (aF (di (a8 (af 3)))) (b9 (ay aJ (af 3) (cF (.int 0)))) fu)
 (az (aU 4 (ao iR (ae (af 0) (ae (af 1) (ae (af 2) ai)))))
 (az (eC (aF (ye false (af 4) (a8 (aP (ae (cF (.str "out")) (ae (cF (.str "done")) ai)))))) (b9 (aP (ae (af 4) ai))) fu)
 (b9 (aP (ae (af 4) (ae (ay aJ (ay aJ (ay aJ (af 0) (cF (.int 0))) (ay aJ (ay aJ (ay aJ (ay aJ (ay aJ (af 1) (cF (.int 3))) (af 2)) (cF (.int 1))) (oI (cF (.int 1)))) (cF (.int 0)))) (cF (.int 0))) ai))))))))
noncomputable def fQ:c9:=ef 5 mE
noncomputable def i0(self:c9):cH:=
 (az (eC (jo (m3 "tuple" (af 1))) (az (eC (DH (u0 (jo (m3 "tuple" (af 0)))) (aF (ay (eB true) (gk (a8 (af 0))) (gk (a8 (af 1)))))) (b9 (cF (.bl false))) fu)
 (b9 (CB (fL (cC [none,none] (q0 (a8 (af 0)) (a8 (af 1))) (iB (nG 2 (aE (bO 0) (aE (bO 1) dC)))) cX (ao self (ae (af 0) (ae (af 1) ai)))))))) fu)
 (az (eC (DH (jo (m3 "str" (af 1))) (aF (ay (vT false) (af 1) (cF .non)))) (b9 (rR (ay (eB false) (m3 "str" (af 0)) (m3 "str" (af 1))) (ay (eB false) (af 0) (af 1)))) fu)
 (b9 (rR (m3 "int" (af 0)) (rR (CY (m3 "bool" (af 0))) (ay (eB false) (af 0) (af 1)))))))
noncomputable def eN:Nat->c9
 |0=>fun _ _=>none
 |n+1=>ef 2 (i0 (eN n))
noncomputable def jg:cH:=
 (az (gM (q0 (a8 (ay aJ (af 0) (cF (.int 1)))) (a8 (ay aJ (af 1) (cF (.int 1))))) (iB (nG 2 (aE (iB (nG 2 (aE (bO 3) (aE (bO 4) dC)))) (aE (iB (nG 2 (aE (bO 5) (aE (bO 6) dC)))) dC)))) (eC (aF (ye false (af 2) (a8 (af 6)))) (b9 (aP (ae (cF (.str "pass")) (ae (af 3) ai)))) fu))
 (az (gM (q0 (a8 (ay aJ (af 0) (cF (.int 0)))) (a8 (ay aJ (af 1) (cF (.int 0))))) (iB (nG 2 (aE (bO 7) (aE (bO 8) dC)))) (az (eC (aF (ye false (af 2) (a8 (ay aJ (af 8) (cF (.int 2)))))) (b9 (aP (ae (cF (.str "row")) (ae (ay aJ (af 7) (cF (.int 0))) ai)))) fu)
 (az (eC (aF (ye false (af 2) (a8 (ay aJ (af 8) (cF (.int 3)))))) (b9 (aP (ae (cF (.str "late")) (ae (ay aJ (af 7) (cF (.int 0))) ai)))) fu)
 (gM (q0 (a8 (ay aJ (af 7) (cF (.int 3)))) (a8 (ay aJ (af 8) (cF (.int 4))))) (iB (nG 2 (aE (iB (nG 2 (aE (bO 9) (aE (bO 10) dC)))) (aE (bO 11) dC)))) (eC (aF (ye false (af 2) (fL (dk gd (ae (af 11) ai))))) (b9 (aP (ae (cF (.str "bell")) (ae (ay aJ (af 7) (cF (.int 0))) (ae (af 9) ai))))) fu)))))
 (b9 (cF .non))))
noncomputable def eJ:c9:=ef 12 jg
noncomputable def yT:cH:=
 (az (aU 3 (ao eJ (ae (af 0) (ae (af 1) (ae (af 2) ai)))))
 (az (eC (aF (ay (vT true) (af 3) (cF .non))) (b9 (af 3)) fu)
 (az (aU 4 (ao bp (ae (af 1) (ae (af 2) ai))))
 (az (aU 5 (ay aJ (af 4) (cF (.int 0))))
 (az (eC (aF (ay (eB false) (af 5) (cF (.int (-1))))) (b9 (qM (aF (ay (eB false) (ay aJ (af 4) (cF (.int 2))) (gk (a8 (ao cI (ae (af 0) (ae (af 2) (ae (af 4) ai)))))))) (aP (ae (cF (.str "done")) ai)) (aP (ae (cF (.str "out")) ai)))) fu)
 (az (aU 6 (ay aJ (ay aJ (ay aJ (af 0) (cF (.int 0))) (af 5)) (cF (.int 0))))
 (b9 (qM (aF (ay (eB false) (ay aJ (ay aJ (ay aJ (af 1) (cF (.int 0))) (af 5)) (cF (.int 1))) (af 2))) (aP (ae (cF (.str "within")) (ae (af 6) ai))) (aP (ae (cF (.str "called")) (ae (af 6) ai)))))))))))
noncomputable def mC:c9:=ef 7 yT
noncomputable def nK:cH:=
 (az (aU 3 (gk (a8 (ay aJ (af 1) (cF (.int 3))))))
 (az (aU 4 (ao aw (ae (af 0) (ae (af 3) ai))))
 (az (gM (jm (fL (uJ (fL (yu (af 4) (af 3))) (fL (yU (af 4)))))) (bO 5) (az (aU 6 (ao fQ (ae (af 1) (ae (af 2) (ae (af 5) ai)))))
 (eC (DH (u0 (jo (ao (eN 10) (ae (ao mC (ae (af 1) (ae (af 2) (ae (af 5) ai)))) (ae (af 6) ai))))) (u0 (jo (ao (eN 10) (ae (ao mC (ae (af 1) (ae (af 2) (ae (af 5) ai)))) (ae (af 6) ai)))))) (b9 (cF (.bl false))) fu)))
 (b9 (cF (.bl true))))))
noncomputable def gW:c9:=ef 7 nK
noncomputable def pW:cH:=
 (az (eC (gn (aF (ye false (af 2) (a8 (af 1)))) (aF (ay (eB false) (ao aw (ae (af 0) (ae (cF (.int 2)) ai))) (cF (.int 0))))) (b9 (af 2)) fu)
 (b9 (ao aZ (ae (af 0) (ae (af 1) ai)))))
noncomputable def iX:c9:=ef 3 pW
noncomputable def tj:cH:=
 (AX (cC [none] (jm (a8 (af 0))) (bO 0) cX (ay aJ (af 0) (cF (.int 0)))))
noncomputable def cY:c9:=ef 1 tj
noncomputable def tM:cH:=
 (b9 (Ea (fL (dk cY (ae (af 0) ai))) (af 1)))
noncomputable def cc:c9:=ef 2 tM
noncomputable def qK:cH:=
 (b9 (ay cq (ay cq (qu (af 0) rh (qO (af 1))) (aP (ae (af 2) ai))) (qu (af 0) (qO (ay cq (af 1) (cF (.int 1)))) rh)))
noncomputable def bZ:c9:=ef 3 qK
noncomputable def pS:cH:=
 (b9 (ay cq (qu (af 0) rh (qO (cF (.int 3)))) (aP (ae (ao bZ (ae (ay aJ (af 0) (cF (.int 3))) (ae (af 1) (ae (aP (ae (af 2) (ae (af 3) ai))) ai)))) ai))))
noncomputable def dg:c9:=ef 4 pS
noncomputable def pM:cH:=
 (b9 (ay cq (aP (ae (ao bZ (ae (ay aJ (af 0) (cF (.int 0))) (ae (af 1) (ae (af 2) ai)))) ai)) (qu (af 0) (qO (cF (.int 1))) rh)))
noncomputable def bS:c9:=ef 3 pM
noncomputable def kP:cH:=
 (az (aU 5 (ay aJ (ao bp (ae (af 1) (ae (af 2) ai))) (cF (.int 0))))
 (az (eC (aF (ay (eB true) (af 5) (cF (.int (-1))))) (az (aU 6 (ao cc (ae (ay aJ (ay aJ (ay aJ (af 0) (cF (.int 0))) (af 5)) (cF (.int 2))) (ae (af 3) ai))))
 (az (aU 7 (ao bZ (ae (ay aJ (ay aJ (ay aJ (af 1) (cF (.int 0))) (af 5)) (cF (.int 0))) (ae (af 6) (ae (af 4) ai)))))
 (b9 (ao bS (ae (af 1) (ae (af 5) (ae (ay cq (aP (ae (af 7) ai)) (qu (ay aJ (ay aJ (af 1) (cF (.int 0))) (af 5)) (qO (cF (.int 1))) rh)) ai))))))) fu)
 (az (eC (aF (ye false (af 3) (fL (dk cY (ae (ay aJ (af 0) (cF (.int 2))) ai))))) (az (aU 8 (ao bZ (ae (ay aJ (af 1) (cF (.int 2))) (ae (ao cc (ae (ay aJ (af 0) (cF (.int 2))) (ae (af 3) ai))) (ae (af 4) ai)))))
 (b9 (aP (ae (ay aJ (af 1) (cF (.int 0))) (ae (ay aJ (af 1) (cF (.int 1))) (ae (af 8) (ae (ay aJ (af 1) (cF (.int 3))) ai))))))) fu)
 (az (pq (ay aJ (ay aJ (af 1) (cF (.int 3))) (af 2)) (iB (nG 2 (aE (bO 7) (aE (bO 9) dC)))))
 (az (aU 6 (ao cc (ae (ay aJ (ay aJ (ay aJ (af 0) (cF (.int 3))) (af 2)) (cF (.int 0))) (ae (af 3) ai))))
 (b9 (ao dg (ae (af 1) (ae (af 2) (ae (ao bZ (ae (af 7) (ae (af 6) (ae (af 4) ai)))) (ae (af 9) ai)))))))))))
noncomputable def ed:c9:=ef 10 kP
noncomputable def ki:cH:=
 (az (eC (aF (ay (eB false) (af 0) (cF (.str "plus")))) (b9 (tX minD (ae (ay cq (af 1) (af 2)) (ae (cF (.int (9))) ai)))) fu)
 (az (eC (aF (ay (eB false) (af 0) (cF (.str "minus")))) (b9 (tX maxD (ae (ay j7 (af 1) (af 2)) (ae (cF (.int 0)) ai)))) fu)
 (az (eC (aF (ay (eB false) (af 0) (cF (.str "less")))) (b9 (qM (aF (ay AY (af 1) (af 2))) (cF (.int 1)) (cF (.int 0)))) fu)
 (az (eC (aF (ay (eB false) (af 0) (cF (.str "same")))) (b9 (qM (aF (ay (eB false) (af 1) (af 2))) (cF (.int 1)) (cF (.int 0)))) fu)
 (b9 (qM (gn (aF (ay (eB true) (af 1) (cF (.int 0)))) (aF (ay (eB true) (af 2) (cF (.int 0))))) (cF (.int 1)) (cF (.int 0))))))))
noncomputable def fE:c9:=ef 3 ki
noncomputable def sZ(self:c9):cH:=
 (az (eC (jo (m3 "int" (af 0))) (b9 (af 0)) fu)
 (az (eC (jo (m3 "str" (af 0))) (b9 (GD (af 1) (af 0))) fu)
 (az (eC (aF (ay (eB false) (ay aJ (af 0) (cF (.int 0))) (cF (.str "waits")))) (b9 (qM (aF (ay Fx (GD (af 2) (ay aJ (af 0) (cF (.int 1)))) (cF (.int 0)))) (cF (.int 1)) (cF (.int 0)))) fu)
 (az (aU 3 (ao self (ae (ay aJ (af 0) (cF (.int 1))) (ae (af 1) (ae (af 2) ai)))))
 (az (eC (aF (ay (eB false) (ay aJ (af 0) (cF (.int 0))) (cF (.str "not")))) (b9 (qM (aF (ay (eB false) (af 3) (cF (.int 0)))) (cF (.int 1)) (cF (.int 0)))) fu)
 (b9 (ao fE (ae (ay aJ (af 0) (cF (.int 0))) (ae (af 3) (ae (ao self (ae (ay aJ (af 0) (cF (.int 2))) (ae (af 1) (ae (af 2) ai)))) ai))))))))))
noncomputable def fA:Nat->c9
 |0=>fun _ _=>none
 |n+1=>ef 4 (sZ (fA n))
noncomputable def m9:cH:=
 (az (aU 4 (ao bp (ae (af 1) (ae (af 2) ai))))
 (az (aU 5 (ay aJ (af 4) (cF (.int 0))))
 (az (eC (aF (ay (eB false) (af 5) (cF (.int (-1))))) (az (aU 6 (FD (fL (dk cY (ae (ay aJ (af 0) (cF (.int 2))) ai))) (a8 (ay aJ (af 1) (cF (.int 2))))))
 (az (kA (Ck (af 6) (FD (fL (dk cY (ae (ay aJ (ay aJ (ay aJ (af 0) (cF (.int 3))) (af 2)) (cF (.int 0))) ai))) (a8 (ay aJ (ay aJ (ay aJ (af 1) (cF (.int 3))) (af 2)) (cF (.int 0)))))))
 (b9 (ao (fA 6) (ae (af 3) (ae (af 6) (ae HI ai))))))) fu)
 (az (aU 6 (FD (fL (dk cY (ae (ay aJ (ay aJ (ay aJ (af 0) (cF (.int 0))) (af 5)) (cF (.int 2))) ai))) (a8 (ay aJ (ay aJ (ay aJ (af 1) (cF (.int 0))) (af 5)) (cF (.int 0))))))
 (az (GU (af 6) (cF (.str "given")) (ay aJ (af 4) (cF (.int 3))))
 (az (G5 7 (qG [none,none] (q0 (fL (dk cY (ae (ay aJ (ay aJ (ay aJ (af 0) (cF (.int 0))) (af 5)) (cF (.int 3))) ai))) (a8 (ay aJ (ay aJ (ay aJ (af 1) (cF (.int 0))) (af 5)) (cF (.int 4))))) (iB (nG 2 (aE (bO 0) (aE (bO 1) dC)))) cX (af 0) (gk (a8 (af 1)))))
 (b9 (ao (fA 6) (ae (af 3) (ae (af 6) (ae (af 7) ai)))))))))))
noncomputable def b_:c9:=ef 8 m9
noncomputable def yD:cH:=
 (b9 (ao ed (ae (af 0) (ae (af 1) (ae (af 2) (ae (ay aJ (af 3) (cF (.int 1))) (ae (ao b_ (ae (af 0) (ae (af 1) (ae (af 2) (ae (ay aJ (af 3) (cF (.int 2))) ai))))) ai)))))))
noncomputable def pw:c9:=ef 4 yD
noncomputable def ia:cH:=
 (az (pq (ay aJ (ay aJ (af 0) (cF (.int 3))) (af 1)) (iB (nG 2 (aE (bO 3) (aE (bO 4) dC)))))
 (b9 (ao dg (ae (af 0) (ae (af 1) (ae (af 3) (ae (ay cq (qu (af 4) rh (qO (oI (cF (.int 1))))) (aP (ae (af 2) ai))) ai)))))))
noncomputable def cO:c9:=ef 5 ia
noncomputable def yo:cH:=
 (az (aU 3 (ao bp (ae (af 0) (ae (af 1) ai))))
 (b9 (ao cO (ae (af 0) (ae (af 1) (ae (ay cq (ay cq (qu (af 3) rh (qO (cF (.int 2)))) (aP (ae (af 2) ai))) (qu (af 3) (qO (cF (.int 3))) rh)) ai))))))
noncomputable def fS:c9:=ef 4 yo
noncomputable def pJ:cH:=
 (az (eC (aF (ay (eB false) (ao b_ (ae (af 0) (ae (af 1) (ae (af 2) (ae (ay aJ (af 3) (cF (.int 1))) ai))))) (cF (.int 0)))) (b9 (ao fS (ae (af 1) (ae (af 2) (ae (ay aJ (af 3) (cF (.int 2))) ai))))) fu)
 (b9 (af 1)))
noncomputable def i7:c9:=ef 4 pJ
noncomputable def An:cH:=
 (b9 (ao fS (ae (af 1) (ae (af 2) (ae (ay aJ (af 3) (cF (.int 1))) ai)))))
noncomputable def u5:c9:=ef 4 An
noncomputable def vA:cH:=
 (az (pq (ay aJ (ay aJ (af 0) (cF (.int 0))) (af 1)) (iB (nG 5 (aE (bO 3) (aE (bO 4) (aE (bO 5) (aE (bO 6) (aE (bO 7) dC))))))))
 (az (eC (aF (ay (eB false) (af 4) (cF (.int (-1))))) (b9 (ao bS (ae (af 0) (ae (af 1) (ae (aP (ae (af 3) (ae (af 2) (ae (af 5) (ae (af 6) (ae (af 7) ai)))))) ai))))) fu)
 (b9 (ao bS (ae (af 0) (ae (af 1) (ae (aP (ae (af 3) (ae (af 4) (ae (ay cq (af 5) (aP (ae (af 2) ai))) (ae (af 6) (ae (af 7) ai)))))) ai)))))))
noncomputable def iy:c9:=ef 8 vA
noncomputable def Bg:cH:=
 (az (aU 4 (ao cc (ae (ay aJ (af 0) (cF (.int 0))) (ae (ay aJ (af 3) (cF (.int 2))) ai))))
 (az (aU 5 (ao cc (ae (ay aJ (ay aJ (ay aJ (af 0) (cF (.int 0))) (af 4)) (cF (.int 4))) (ae (ay aJ (af 3) (cF (.int 3))) ai))))
 (az (aU 6 (aP (ae (af 4) (ae (af 5) (ae (cF (.int 0)) (ae (ao b_ (ae (af 0) (ae (af 1) (ae (af 2) (ae (ay aJ (af 3) (cF (.int 4))) ai))))) (ae (cF (.int 0)) ai)))))))
 (az (pq (ay aJ (ay aJ (af 1) (cF (.int 3))) (af 2)) (iB (nG 2 (aE (bO 7) (aE (bO 8) dC)))))
 (b9 (ao iy (ae (ao dg (ae (af 1) (ae (af 2) (ae (af 7) (ae (ay cq (af 8) (aP (ae (af 6) ai))) ai))))) (ae (af 4) (ae (af 2) ai)))))))))
noncomputable def u6:c9:=ef 9 Bg
noncomputable def vF:cH:=
 (az (aU 4 (ay aJ (ao bp (ae (af 1) (ae (af 2) ai))) (cF (.int 0))))
 (b9 (aP (ae (af 4) (ae (ao cc (ae (ay aJ (ay aJ (ay aJ (af 0) (cF (.int 0))) (af 4)) (cF (.int 3))) (ae (af 3) ai))) ai)))))
noncomputable def fH:c9:=ef 5 vF
noncomputable def qV:cH:=
 (az (aU 4 (ay aJ (ay aJ (af 0) (cF (.int 0))) (af 1)))
 (b9 (ao bS (ae (af 0) (ae (af 1) (ae (ay cq (qu (af 4) rh (qO (cF (.int 4)))) (aP (ae (ao bZ (ae (ay aJ (af 4) (cF (.int 4))) (ae (af 2) (ae (af 3) ai)))) ai))) ai))))))
noncomputable def dE:c9:=ef 5 qV
noncomputable def AE:cH:=
 (az (pq (ay aJ (ay aJ (af 0) (cF (.int 0))) (af 1)) (iB (nG 5 (aE (bO 2) (aE (bO 3) (aE (bO 4) (aE (bO 5) (aE (bO 6) dC))))))))
 (az (eC (jo (af 5)) (b9 (ao bS (ae (af 0) (ae (af 1) (ae (aP (ae (af 2) (ae (ay aJ (af 5) (cF (.int 0))) (ae (af 4) (ae (qu (af 5) (qO (cF (.int 1))) rh) (ae (af 6) ai)))))) ai))))) fu)
 (az (eC (jo (af 4)) (b9 (ao bS (ae (af 0) (ae (af 1) (ae (aP (ae (af 2) (ae (ay aJ (af 4) (cF (.int 0))) (ae (qu (af 4) (qO (cF (.int 1))) rh) (ae (af 5) (ae (af 6) ai)))))) ai))))) fu)
 (b9 (ao bS (ae (af 0) (ae (af 1) (ae (aP (ae (af 2) (ae (cF (.int (-1))) (ae (af 4) (ae (af 5) (ae (af 6) ai)))))) ai))))))))
noncomputable def kL:c9:=ef 7 AE
noncomputable def wM:cH:=
 (az (pq (ao fH (ae (af 0) (ae (af 1) (ae (af 2) (ae (ay aJ (af 3) (cF (.int 1))) ai))))) (iB (nG 2 (aE (bO 4) (aE (bO 5) dC)))))
 (az (aU 6 (cF (.int 0)))
 (az (eC (aF (ay (eB false) (ay aJ (ay aJ (ay aJ (ay aJ (ay aJ (af 0) (cF (.int 0))) (af 4)) (cF (.int 3))) (af 5)) (cF (.int 1))) (cF (.str "turns")))) (aU 6 (ao b_ (ae (af 0) (ae (af 1) (ae (af 2) (ae (ay aJ (af 3) (cF (.int 2))) ai)))))) fu)
 (az (aU 7 (ay aJ (ay aJ (ay aJ (ay aJ (af 1) (cF (.int 0))) (af 4)) (cF (.int 4))) (af 5)))
 (az (aU 8 (gk (fL (cC [none,none,some 6] (jm (a8 (af 7))) (iB (nG 2 (aE (bO 0) (aE (bO 1) dC)))) (aF (ay HL (af 0) (af 2))) (af 0)))))
 (az (aU 9 (ao dE (ae (af 1) (ae (af 4) (ae (af 5) (ae (ay cq (ay cq (qu (af 7) rh (qO (af 8))) (aP (ae (aP (ae (af 6) (ae (af 2) ai))) ai))) (qu (af 7) (qO (af 8)) rh)) ai))))))
 (b9 (ao kL (ae (af 9) (ae (af 4) ai))))))))))
noncomputable def lW:c9:=ef 10 wM
noncomputable def wG:cH:=
 (az (pq (ao fH (ae (af 0) (ae (af 1) (ae (af 2) (ae (ay aJ (af 3) (cF (.int 1))) ai))))) (iB (nG 2 (aE (bO 4) (aE (bO 5) dC)))))
 (az (aU 6 (ay aJ (ay aJ (ay aJ (ay aJ (af 1) (cF (.int 0))) (af 4)) (cF (.int 4))) (af 5)))
 (az (eC (u0 (jo (af 6))) (b9 (af 1)) fu)
 (az (aU 7 (ao dE (ae (af 1) (ae (af 4) (ae (af 5) (ae (qu (af 6) (qO (cF (.int 1))) rh) ai))))))
 (az (eC (aF (ay (eB false) (ay aJ (ay aJ (ay aJ (af 0) (cF (.int 0))) (af 4)) (cF (.int 1))) (cF (.str "when free")))) (b9 (af 7)) fu)
 (az (pq (ay aJ (ay aJ (af 7) (cF (.int 0))) (af 4)) (iB (nG 5 (aE (bO 8) (aE (bO 9) (aE (bO 10) (aE (bO 11) (aE (bO 12) dC))))))))
 (b9 (ao bS (ae (af 7) (ae (af 4) (ae (aP (ae (af 8) (ae (ay aJ (ay aJ (af 6) (cF (.int 0))) (cF (.int 1))) (ae (af 10) (ae (ay cq (af 11) (aP (ae (af 2) ai))) (ae (af 12) ai)))))) ai)))))))))))
noncomputable def lE:c9:=ef 13 wG
noncomputable def yh:cH:=
 (az (pq (ao fH (ae (af 0) (ae (af 1) (ae (af 2) (ae (ay aJ (af 3) (cF (.int 1))) ai))))) (iB (nG 2 (aE (bO 4) (aE (bO 5) dC)))))
 (b9 (ao dE (ae (af 1) (ae (af 4) (ae (af 5) (ae (aP ai) ai)))))))
noncomputable def oV:c9:=ef 6 yh
noncomputable def vC:cH:=
 (az (aU 4 (ao b_ (ae (af 0) (ae (af 1) (ae (af 2) (ae (ay aJ (af 3) (cF (.int 1))) ai))))))
 (b9 (ao cO (ae (af 1) (ae (af 2) (ae (ay cq (qu (ao bp (ae (af 1) (ae (af 2) ai))) rh (qO (cF (.int 4)))) (aP (ae (af 4) ai))) ai))))))
noncomputable def lC:c9:=ef 5 vC
noncomputable def qH:cH:=
 (b9 (ay cq (aP (ae (ay aJ (af 0) (cF (.int 0))) (ae (ao bZ (ae (ay aJ (af 0) (cF (.int 1))) (ae (af 1) (ae (af 2) ai)))) ai))) (qu (af 0) (qO (cF (.int 2))) rh)))
noncomputable def dY:c9:=ef 3 qH
noncomputable def BX:cH:=
 (az (aU 4 (ao cc (ae (ay aJ (af 0) (cF (.int 1))) (ae (af 3) ai))))
 (az (pq (ay aJ (ay aJ (af 1) (cF (.int 1))) (af 4)) (iB (nG 2 (aE (bO 5) (aE (bO 6) dC)))))
 (az (eC (aF (ay Fx (af 5) (cF (.int 0)))) (b9 (ao dY (ae (af 1) (ae (af 4) (ae (aP (ae (ay j7 (af 5) (cF (.int 1))) (ae (af 6) ai))) ai))))) fu)
 (b9 (ao dY (ae (af 1) (ae (af 4) (ae (aP (ae (af 5) (ae (ay cq (af 6) (aP (ae (af 2) ai))) ai))) ai))))))))
noncomputable def nq:c9:=ef 7 BX
noncomputable def vL:cH:=
 (b9 (ao nq (ae (af 0) (ae (af 1) (ae (af 2) (ae (ay aJ (af 3) (cF (.int 1))) ai))))))
noncomputable def mz:c9:=ef 4 vL
noncomputable def nE:cH:=
 (az (aU 3 (ao cc (ae (ay aJ (af 0) (cF (.int 1))) (ae (af 2) ai))))
 (az (pq (ay aJ (ay aJ (af 1) (cF (.int 1))) (af 3)) (iB (nG 2 (aE (bO 4) (aE (bO 5) dC)))))
 (az (eC (jo (af 5)) (b9 (ao dY (ae (af 1) (ae (af 3) (ae (aP (ae (af 4) (ae (qu (af 5) (qO (cF (.int 1))) rh) ai))) ai))))) fu)
 (b9 (ao dY (ae (af 1) (ae (af 3) (ae (aP (ae (tX minD (ae (ay cq (af 4) (cF (.int 1))) (ae (cF (.int (9))) ai))) (ae (af 5) ai))) ai))))))))
noncomputable def eS:c9:=ef 6 nE
noncomputable def wQ:cH:=
 (b9 (ao eS (ae (af 0) (ae (af 1) (ae (ay aJ (af 3) (cF (.int 1))) ai)))))
noncomputable def lF:c9:=ef 4 wQ
noncomputable def wF:cH:=
 (b9 (ao nq (ae (af 0) (ae (ao eS (ae (af 0) (ae (af 1) (ae (ay aJ (af 3) (cF (.int 1))) ai)))) (ae (af 2) (ae (ay aJ (af 3) (cF (.int 2))) ai))))))
noncomputable def mh:c9:=ef 4 wF
noncomputable def yW:cH:=
 (b9 (af 1))
noncomputable def oT:c9:=ef 4 yW
def jX:List (Str×Str):= [("put","by_put"),("unless","by_unless"),("go","by_go"),("do","by_do"),("wait","by_wait"),("call","by_call"),("all","by_all"),("tell","by_tell"),("take","by_take"),("give","by_give"),("pass","by_pass"),("say","by_say")]
noncomputable def qJ:List (Str×c9):= [("by_put",pw),("by_unless",i7),("by_go",u5),("by_do",u6),("by_wait",lW),("by_call",lE),("by_all",oV),("by_tell",lC),("by_take",mz),("by_give",lF),("by_pass",mh),("by_say",oT)]
noncomputable def tU:cH:=
 (az (aU 4 (G1 jX (ay aJ (af 3) (cF (.int 0)))))
 (b9 (qP 4 qJ (ae (af 0) (ae (af 1) (ae (af 2) (ae (af 3) ai)))))))
noncomputable def ib:c9:=ef 5 tU
noncomputable def sW:cH:=
 (az (pq (ay aJ (ay aJ (af 1) (cF (.int 3))) (af 2)) (iB (nG 2 (aE (bO 3) (aE (bO 4) dC)))))
 (az (pq (ay aJ (af 4) (oI (cF (.int 1)))) (iB (nG 5 (aE (bO 5) (aE (bO 6) (aE (bO 7) (aE (bO 8) (aE (bO 9) dC))))))))
 (az (aU 10 (ao dg (ae (ao kL (ae (af 1) (ae (af 5) ai))) (ae (af 2) (ae (af 3) (ae (qu (af 4) rh (qO (oI (cF (.int 1))))) ai))))))
 (az (aU 11 (ay aJ (ao cI (ae (af 0) (ae (af 2) (ae (ay aJ (af 4) (oI (cF (.int 2)))) ai)))) (ay j7 (ay aJ (ay aJ (af 4) (oI (cF (.int 2)))) (cF (.int 2))) (cF (.int 1)))))
 (az (eC (aF (ay (vT false) (ay aJ (af 11) (cF (.int 1))) (cF .non))) (b9 (af 10)) fu)
 (b9 (ao ed (ae (af 0) (ae (af 10) (ae (af 2) (ae (ay aJ (af 11) (cF (.int 1))) (ae (af 9) ai))))))))))))
noncomputable def ix:c9:=ef 12 sW
noncomputable def lV:cH:=
 (az (aU 3 (ao bp (ae (af 1) (ae (af 2) ai))))
 (az (aU 4 (ay aJ (af 3) (cF (.int 0))))
 (az (eC (gn (aF (ay (eB true) (af 4) (cF (.int (-1))))) (aF (ay (eB true) (ay aJ (ay aJ (ay aJ (af 1) (cF (.int 0))) (af 4)) (cF (.int 1))) (af 2)))) (b9 (aP (ae (ao iy (ae (af 1) (ae (af 4) (ae (af 2) ai)))) (ae (cF .non) ai)))) fu)
 (az (aU 5 (ao cI (ae (af 0) (ae (af 2) (ae (af 3) ai)))))
 (az (eC (aF (ay (eB false) (ay aJ (af 3) (cF (.int 2))) (gk (a8 (af 5))))) (b9 (aP (ae (ao ix (ae (af 0) (ae (af 1) (ae (af 2) ai)))) (ae (cF .non) ai)))) fu)
 (az (aU 6 (ay aJ (af 5) (ay aJ (af 3) (cF (.int 2)))))
 (az (aU 7 (cF .non))
 (az (eC (aF (ay (eB false) (ay aJ (af 6) (cF (.int 0))) (cF (.str "say")))) (aU 7 (aP (ae (af 2) (ae (ao b_ (ae (af 0) (ae (af 1) (ae (af 2) (ae (ay aJ (af 6) (cF (.int 1))) ai))))) ai)))) fu)
 (b9 (aP (ae (ao ib (ae (af 0) (ae (ao fS (ae (af 1) (ae (af 2) (ae (ay cq (ay aJ (af 3) (cF (.int 2))) (cF (.int 1))) ai)))) (ae (af 2) (ae (af 6) ai))))) (ae (af 7) ai))))))))))))
noncomputable def lT:c9:=ef 8 lV
noncomputable def wz:cH:=
 (az (eC (aF (ye true (af 2) (fL (dk gf (ae (af 0) (ae (af 1) ai)))))) never fu)
 (b9 (ao lT (ae (af 0) (ae (af 1) (ae (af 2) ai))))))
noncomputable def lX:c9:=ef 3 wz
noncomputable def Gh:cH:=
 (az (gM (rJ (tX maxD (ae (cF (.int 1)) (ae (tX minD (ae (gk (a8 (af 0))) (ae (cF (.int 5)) ai))) ai)))) (bO 1) (az (aU 2 (cv (dk jZ (ae (af 0) (ae (af 1) ai)))))
 (az (aU 3 (ao dG (ae (af 2) ai)))
 (az (aU 4 (ao uz (ae (af 3) ai)))
 (az (aU 5 (oI (cF (.int 1))))
 (gM (rJ (cF (.int 40))) (bO 6) (az (eC (u0 (jo (ao gW (ae (af 2) (ae (af 3) (ae (af 4) ai)))))) (b9 (cF (.bl false))) fu)
 (az (aU 7 (cv (dk gf (ae (af 3) (ae (af 4) ai)))))
 (eC (aF (di (a8 (af 7)))) (az (aU 5 (ao iX (ae (af 2) (ae (af 7) (ae (af 5) ai)))))
 (aU 4 (ay aJ (ao lX (ae (af 3) (ae (af 4) (ae (af 5) ai)))) (cF (.int 0))))) fu)))))))))
 (b9 (cF (.bl true))))
noncomputable def CZ:c9:=ef 8 Gh
def top(i:Nat):Stmt:=PySem.Challenge.pw_calledroom_k15_stands_along.main.body.getD i (.Pass ⟨0,0,0,0⟩)
abbrev kH:Stmt:=top 58
abbrev jq:Stmt:=top 59
abbrev iY:Stmt:=top 61
abbrev jr:Stmt:=top 60
abbrev kR:Stmt:=top 62
abbrev iP:Stmt:=top 63
abbrev mS:Stmt:=top 64
abbrev jT:Stmt:=top 65
abbrev jA:Stmt:=top 66
abbrev iC:Stmt:=top 67
abbrev kC:Stmt:=top 68
abbrev iQ:Stmt:=top 69
abbrev fB:Stmt:=top 70
abbrev jH:Stmt:=top 7
abbrev i9:Stmt:=top 9
abbrev ug:Stmt:=top 8
abbrev kB:Stmt:=top 20
abbrev fK:Stmt:=top 53
abbrev iG:Stmt:=top 10
abbrev iT:Stmt:=top 11
abbrev fN:Stmt:=top 54
abbrev kS:Stmt:=top 52
abbrev iJ:Stmt:=top 72
abbrev jM:Stmt:=top 73
abbrev hU:Stmt:=top 74
abbrev jt:Stmt:=top 75
abbrev fD:Stmt:=top 19
abbrev p0:Stmt:=top 18
abbrev iW:Stmt:=top 76
abbrev jz:Stmt:=top 71
abbrev kE:Stmt:=top 25
abbrev kW:Stmt:=top 27
abbrev jI:Stmt:=top 12
abbrev jn:Stmt:=top 15
abbrev jR:Stmt:=top 13
abbrev jK:Stmt:=top 29
abbrev gu:Stmt:=top 3
abbrev kI:Stmt:=top 2
abbrev kD:Stmt:=top 28
abbrev pN:Stmt:=top 33
abbrev eY:Stmt:=top 16
abbrev qQ:Stmt:=top 17
abbrev jF:Stmt:=top 34
abbrev u3:Stmt:=top 35
abbrev nz:Stmt:=top 30
abbrev uY:Stmt:=top 36
abbrev mN:Stmt:=top 37
abbrev jC:Stmt:=top 38
abbrev uQ:Stmt:=top 31
abbrev nk:Stmt:=top 39
abbrev mX:Stmt:=top 40
abbrev qL:Stmt:=top 41
abbrev mV:Stmt:=top 42
abbrev jQ:Stmt:=top 14
abbrev tW:Stmt:=top 44
abbrev mZ:Stmt:=top 43
abbrev iS:Stmt:=top 46
abbrev mR:Stmt:=top 45
abbrev mT:Stmt:=top 47
abbrev qF:Stmt:=top 48
abbrev kQ:Stmt:=top 50
abbrev kT:Stmt:=top 32
abbrev mO:Stmt:=top 56
abbrev m8:Stmt:=top 55
abbrev mB:Stmt:=top 77
end W28
namespace W28
open PySem PySem.Spec L2 DL PyProof.Rows
section
variable{P:Program}{w:World}{K:PySem.W.Frag}{mg:Str->Option Value}{base:Heap}{f:Addr}{fd:FuncData}
theorem nU:aB ["_law_script","_law_k","_law_cell","_law_digits"] ["_law_script","_law_k"] (ar kH):=⟨rfl,rfl,rfl,by decide +kernel,rfl,by decide +kernel,by decide +kernel⟩
theorem vi(F:dW K "_law_pot" "_law_pot" kH f fd)(B:Bl mg):bo P w K mg base dv 1 f fd ["_law_script","_law_k"] (dR ⟨K,mg⟩ 2 jZ):=by
 have nd:=nU.nd
 refine a_ F nU fun cdv A outer s H E hr=> ?_
 exact(aj (bc 2 nd ag)
  (aj (bV (bt mm lN (v_ 1) (eV rfl B.len (cZ (v_ 0))) (aI _)) (ax (bc 2 nd (oO Ei (dZ BI rfl B.abs (by rfl) (aa (av (v_ 0) (v_ 1)) ah))))) bD)
  (aj (bc 3 nd (pX (p8 (v_ 2) (pX (BL ag ag) (BL ag ag))) (oO hZ (dq f_ rfl B.int (by rfl) (aa (jb GH Gm (v_ 2) (BL ag ag) (aI _)) ah)))))
  (ax (kG (bX (aa (v_ 3) (aa (p8 (bU (bU (v_ 2) (pX ag (v_ 1))) ag) ag) (aa ag ah)))))))))
theorem lz:aB ["_law_pot_here","_law_many","_law_digit","_law_mixed"] ["_law_pot_here","_law_many"] (ar jq):=⟨rfl,rfl,rfl,by decide +kernel,rfl,by decide +kernel,by decide +kernel⟩
theorem ub(F:dW K "_law_take" "_law_take" jq f fd)(B:Bl mg):bo P w K mg base dv 1 f fd ["_law_pot_here","_law_many"] (dR ⟨K,mg⟩ 2 aw):=by
 have nd:=lz.nd
 refine a_ F lz fun cdv A outer s H E hr=> ?_
 exact(aj (bV (bt yH yL (av (v_ 0) ag) ag (aI _)) (aj (bc 2 nd (p8 (av (v_ 0) ag) (v_ 1)))
  (aj (eU (Ak (av (v_ 0) ag) (v_ 1)) (DK (v_ 0) ag))
  (ax (aD (v_ 2))))) bD)
  (aj (Ff (v_ 0) ag ag)
  (aj (bc 3 nd (p8 (bU (bU (pX (av (v_ 0) ag) ag) (pX ag (av (v_ 0) ag))) ag) ag))
  (aj (eU (p8 (pX (v_ 3) (bU (bU (p8 (v_ 3) ag) (pX ag (av (v_ 0) ag))) ag)) ag) (DK (v_ 0) ag))
  (ax (aD (p8 (Ak (av (v_ 0) ag) ag) (v_ 1))))))))
theorem j_:aB ["_law_pot_here","_law_stem","_law_many","_law_left"] ["_law_pot_here","_law_stem","_law_many"] (ar iY):=⟨rfl,rfl,rfl,by decide +kernel,rfl,by decide +kernel,by decide +kernel⟩
theorem rY(F:dW K "_law_words" "_law_words" iY f fd)(B:Bl mg)(c__law_take:bI P w K mg base 1 "_law_take" ["_law_pot_here","_law_many"] aw):bo P w K mg base dv 2 f fd ["_law_pot_here","_law_stem","_law_many"] (dR ⟨K,mg⟩ 3 cj):=by
 have nd:=j_.nd
 refine a_ F j_ fun cdv A outer s H E hr=> ?_
 exact(aj (bc 3 nd (bN (dt (N:= ["_law_one","_law_stem"]) (js:= [none,some 1]) (aQ.gen rfl rfl rfl rfl rfl rfl) rfl (dH (gQ (bX (aa aN (aa aN (aa aN (aa aN (aa aN (aa aN ah))))))))) (fun _ _ _ _=>(fe 0)) (fun _ _ _ _=>fj) (fun _ _ _ _=>(bU (v_ 1) (v_ 0))))))
  (ax (kG (AU rfl B.sorted (gQ (dt (N:= ["_law_k","_law_pot_here","_law_left"]) (js:= [none,some 0,some 3]) (aQ.gen rfl rfl rfl rfl rfl rfl) rfl (kX rfl B.range (v_ 2)) (fun _ _ _ _=>(fe 0)) (fun _ _ _ _=>fj) (fun _ _ _ _=>(yS (v_ 2) (aC c__law_take hr (aa (v_ 1) (aa (eV rfl B.len (cZ (v_ 2))) ah)))))))))))
theorem uW:aB ["_law_pot_here","_law_some"] ["_law_pot_here","_law_some"] (ar jr):=⟨rfl,rfl,rfl,by decide +kernel,rfl,by decide +kernel,by decide +kernel⟩
theorem t6(F:dW K "_law_pick" "_law_pick" jr f fd)(B:Bl mg)(c__law_take:bI P w K mg base 1 "_law_take" ["_law_pot_here","_law_many"] aw):bo P w K mg base dv 2 f fd ["_law_pot_here","_law_some"] (dR ⟨K,mg⟩ 2 aZ):=by
 refine a_ F uW fun cdv A outer s H E hr=> ?_
 exact(ax (aD (av (v_ 1) (aC c__law_take hr (aa (v_ 0) (aa (eV rfl B.len (cZ (v_ 1))) ah))))))
theorem nB:aB ["_law_pot_here","_law_words_here","_law_bells","_law_deep","_law_way","_law_word"] ["_law_pot_here","_law_words_here","_law_bells","_law_deep"] (ar kR):=⟨rfl,rfl,rfl,by decide +kernel,rfl,by decide +kernel,by decide +kernel⟩
theorem oa(F:dW K "_law_sum" "_law_sum" kR f fd)(B:Bl mg)(c__law_take:bI P w K mg base 1 "_law_take" ["_law_pot_here","_law_many"] aw)(c__law_pick:bI P w K mg base 2 "_law_pick" ["_law_pot_here","_law_some"] aZ)(b:Binds K fd ["_law_pot_here","_law_words_here","_law_bells","_law_deep"] [])(kp:PySem.W.keepIn K (.ref f)=true)(m:mg "_law_sum"=some (.ref f)):∀n,bo P w K mg base dv (3+n) f fd ["_law_pot_here","_law_words_here","_law_bells","_law_deep"] (dR ⟨K,mg⟩ 4 (a9 n))
 |0=>ui
 | n+1=>by
   have c__law_sum:bI P w K mg base (3+n) "_law_sum" ["_law_pot_here","_law_words_here","_law_bells","_law_deep"] (a9 n):=⟨f,fd,oa F B c__law_take c__law_pick b kp m n,b,kp,m⟩
   have nd:=nB.nd
   refine a_ (k:=3+n) F nB fun cdv A outer s H E hr=> ?_
   have hu:=hr.units0
   exact(aj (bc 4 nd (aC c__law_take hr (aa (v_ 0) (aa ag ah))))
   (aj (bV (PW.pt (w_or (bt mm lN (v_ 3) ag (aI _)) (yQ (bt mm lN (v_ 4) ag (aI _))))) (aj (bV (PW.pt (w_and (er hu (cZ (v_ 1))) (fg (bt yH yL (aC c__law_take hr (aa (v_ 0) (aa ag ah))) ag (aI _))))) (ax (aD (aC c__law_pick hr (aa (v_ 0) (aa (v_ 1) ah))))) bD)
   (ax (aD (aC c__law_take hr (aa (v_ 0) (aa (av (bN (bX (aa ag (aa ag ah)))) (oO hZ (dq f_ rfl B.int (by rfl) (aa (jb bQ bP (aC c__law_take hr (aa (v_ 0) (aa ag ah))) ag (aI _)) ah)))) ah)))))) bD)
   (aj (bV (PW.pt (w_and (bt bQ bP (v_ 4) ag (aI _)) (fg (er hu (cZ (v_ 2)))))) (ax (aD (aH (aa aN (aa (aC c__law_pick hr (aa (v_ 0) (aa (v_ 2) ah))) ah))))) bD)
   (aj (bV (bt bQ bP (v_ 4) ag (aI _)) (ax (aD (aH (aa aN (aa (aC c__law_sum hr (aa (v_ 0) (aa (v_ 1) (aa (v_ 2) (aa (qf (v_ 3) ag) ah))))) ah))))) bD)
   (aj (bc 5 nd (av (bN (bX (aa aN (aa aN (aa aN (aa aN (aa aN ah))))))) (aC c__law_take hr (aa (v_ 0) (aa ag ah)))))
   (ax (aD (aH (aa (v_ 5) (aa (aC c__law_sum hr (aa (v_ 0) (aa (v_ 1) (aa (v_ 2) (aa (qf (v_ 3) ag) ah))))) (aa (aC c__law_sum hr (aa (v_ 0) (aa (v_ 1) (aa (v_ 2) (aa (qf (v_ 3) ag) ah))))) ah)))))))))))
theorem kc:aB ["_law_pot_here","_law_words_here","_law_bells","_law_at","_law_turn","_law_row","_law_way","_law_test"] ["_law_pot_here","_law_words_here","_law_bells","_law_at"] (ar iP):=⟨rfl,rfl,rfl,by decide +kernel,rfl,by decide +kernel,by decide +kernel⟩
theorem rQ(F:dW K "_law_waits" "_law_waits" iP f fd)(B:Bl mg)(c__law_sum:bI P w K mg base 7 "_law_sum" ["_law_pot_here","_law_words_here","_law_bells","_law_deep"] (a9 4))(c__law_take:bI P w K mg base 1 "_law_take" ["_law_pot_here","_law_many"] aw)(c__law_pick:bI P w K mg base 2 "_law_pick" ["_law_pot_here","_law_some"] aZ):bo P w K mg base dv 8 f fd ["_law_pot_here","_law_words_here","_law_bells","_law_at"] (dR ⟨K,mg⟩ 4 gV):=by
 have nd:=kc.nd
 refine a_ F kc fun cdv A outer s H E hr=> ?_
 exact(aj (bc 4 nd (av (bN (bX (aa ag (aa aN (aa (aC c__law_sum hr (aa (v_ 0) (aa (v_ 1) (aa (v_ 2) (aa ag ah))))) ah))))) (aC c__law_take hr (aa (v_ 0) (aa ag ah)))))
  (aj (bc 5 nd (aH (aa aN (aa (aC c__law_pick hr (aa (v_ 0) (aa (v_ 2) ah))) (aa (v_ 4) ah)))))
  (aj (bc 6 nd (aC c__law_take hr (aa (v_ 0) (aa ag ah))))
  (aj (bV (bt bQ bP (v_ 6) ag (aI _)) (ax (kG (bX (aa (v_ 5) ah)))) bD)
  (aj (bc 7 nd (aH (aa aN (aa (aC c__law_sum hr (aa (v_ 0) (aa (v_ 1) (aa (v_ 2) (aa ag ah))))) ah))))
  (ax (kG (bX (aa (aH (aa aN (aa (v_ 7) (aa (bU (v_ 3) ag) ah)))) (aa (v_ 5) (aa (aH (aa aN (aa (av (bN (bX (aa (v_ 3) (aa (bU (v_ 3) ag) ah)))) (qf (v_ 6) ag)) ah))) ah)))))))))))
theorem qA:aB ["_law_pot_here","_law_goals","_law_things","_law_words_here","_law_room_here","_law_deed_here","_law_goal"] ["_law_pot_here","_law_goals","_law_things","_law_words_here"] (ar mS):=⟨rfl,rfl,rfl,by decide +kernel,rfl,by decide +kernel,by decide +kernel⟩
theorem x_(F:dW K "_law_do" "_law_do" mS f fd)(B:Bl mg)(c__law_pick:bI P w K mg base 2 "_law_pick" ["_law_pot_here","_law_some"] aZ)(c__law_sum:bI P w K mg base 7 "_law_sum" ["_law_pot_here","_law_words_here","_law_bells","_law_deep"] (a9 4)):bo P w K mg base dv 8 f fd ["_law_pot_here","_law_goals","_law_things","_law_words_here"] (dR ⟨K,mg⟩ 4 ik):=by
 have nd:=qA.nd
 refine a_ F qA fun cdv A outer s H E hr=> ?_
 exact(aj (eU (aC c__law_pick hr (aa (v_ 0) (aa (v_ 1) ah))) (cy rfl (au (bj 4 nd) (au (bj 5 nd) bE))))
  (aj (bc 6 nd (aC c__law_pick hr (aa (v_ 0) (aa (bN (sf (gQ (bX (aa om ah))) (cZ (v_ 2)))) ah))))
  (ax (aD (aH (aa aN (aa (v_ 6) (aa (v_ 4) (aa (v_ 5) (aa (aC c__law_sum hr (aa (v_ 0) (aa (v_ 3) (aa (bN (bX ah)) (aa ag ah))))) ah))))))))))
theorem my:aB ["_law_pot_here","_law_room_here","_law_goals","_law_most","_law_manner","_law_things","_law_bells","_law_words_here","_law_rows","_law_k","_law_way","_law_word"] ["_law_pot_here","_law_room_here","_law_goals","_law_most"] (ar jT):=⟨rfl,rfl,rfl,by decide +kernel,rfl,by decide +kernel,by decide +kernel⟩
theorem va(F:dW K "_law_deed" "_law_deed" jT f fd)(B:Bl mg)(c__law_take:bI P w K mg base 1 "_law_take" ["_law_pot_here","_law_many"] aw)(c__law_waits:bI P w K mg base 8 "_law_waits" ["_law_pot_here","_law_words_here","_law_bells","_law_at"] gV)(c__law_pick:bI P w K mg base 2 "_law_pick" ["_law_pot_here","_law_some"] aZ)(c__law_do:bI P w K mg base 8 "_law_do" ["_law_pot_here","_law_goals","_law_things","_law_words_here"] ik)(c__law_sum:bI P w K mg base 7 "_law_sum" ["_law_pot_here","_law_words_here","_law_bells","_law_deep"] (a9 4)):bo P w K mg base dv 9 f fd ["_law_pot_here","_law_room_here","_law_goals","_law_most"] (dR ⟨K,mg⟩ 4 iE):=by
 have nd:=my.nd
 refine a_ F my fun cdv A outer s H E hr=> ?_
 have hu:=hr.units0
 exact(aj (eU (v_ 1) (cy rfl (au (bj 4 nd) (au (bj 5 nd) (au (bj 6 nd) bE)))))
  (aj (bc 7 nd (bN (sf (cZ (v_ 5)) (gQ (bX (aa aN ah))))))
  (aj (bc 8 nd (bN (bX ah)))
  (aj (fw PassesOwn.never rfl (kX rfl B.range (bU ag (aC c__law_take hr (aa (v_ 0) (aa (v_ 3) ah))))) (bj 9 nd) (aj (bc 10 nd (aC c__law_take hr (aa (v_ 0) (aa ag ah))))
  (ax (bV (PW.pt (w_and (bt mm lN (v_ 10) ag (aI _)) (fg (er hu (cZ (v_ 6)))))) (ax (cx (gK (v_ 8) (gQ (hJ c__law_waits hr (aa (v_ 0) (aa (v_ 7) (aa (v_ 6) (aa (eV rfl B.len (cZ (v_ 8))) ah))))))))) (ax (bV (PW.pt (w_and (bt mm lN (v_ 10) ag (aI _)) (fg (er hu (cZ (v_ 6)))))) (aj (bc 11 nd (av (bN (bX (aa aN (aa aN ah)))) (oO hZ (dq f_ rfl B.int (by rfl) (aa (vS (jb bQ bP (v_ 4) aN (aI _)) (yI (jb bQ bP (v_ 10) ag (aI _)))) ah)))))
  (ax (cx (cA (v_ 8) (aH (aa (v_ 11) (aa (aC c__law_pick hr (aa (v_ 0) (aa (v_ 6) ah))) ah))))))) (ax (bV (PW.pt (w_and (bt bQ bP (v_ 10) ag (aI _)) (fg (er hu (cZ (v_ 2)))))) (ax (cx (cA (v_ 8) (aC c__law_do hr (aa (v_ 0) (aa (v_ 2) (aa (v_ 5) (aa (v_ 7) ah)))))))) (ax (bV (bt bQ bP (v_ 10) ag (aI _)) (aj (cx (cA (v_ 8) (aH (aa aN (aa (aC c__law_sum hr (aa (v_ 0) (aa (v_ 7) (aa (v_ 6) (aa ag ah))))) (aa (bU (eV rfl B.len (cZ (v_ 8))) ag) ah))))))
  (ax (cx (cA (v_ 8) (aH (aa aN (aa (aC c__law_take hr (aa (v_ 0) (aa ag ah))) ah))))))) (ax (bV (PW.pt (w_and (bt mm lN (v_ 10) ag (aI _)) (fg (er hu (cZ (v_ 5)))))) (ax (cx (cA (v_ 8) (aH (aa aN (aa (aC c__law_pick hr (aa (v_ 0) (aa (v_ 5) ah))) (aa (aC c__law_sum hr (aa (v_ 0) (aa (v_ 7) (aa (v_ 6) (aa ag ah))))) ah))))))) (ax (cx (cA (v_ 8) (aH (aa aN (aa (aC c__law_sum hr (aa (v_ 0) (aa (v_ 7) (aa (v_ 6) (aa ag ah))))) ah))))))))))))))))))
  (ax (aD (dB rfl B.tuple (yy (cZ (v_ 8))) (ht:=gY))))))))
theorem lG:aB ["_law_pot_here","_law_name","_law_goals","_law_manners","_law_bells_most","_law_manner","_law_things","_law_bells","_law_deeds","_law_word","_law_here","_law_some","_law_sorts"] ["_law_pot_here","_law_name","_law_goals","_law_manners","_law_bells_most"] (ar jA):=⟨rfl,rfl,rfl,by decide +kernel,rfl,by decide +kernel,by decide +kernel⟩
theorem uK(F:dW K "_law_room" "_law_room" jA f fd)(B:Bl mg)(c__law_pick:bI P w K mg base 2 "_law_pick" ["_law_pot_here","_law_some"] aZ)(c__law_words:bI P w K mg base 2 "_law_words" ["_law_pot_here","_law_stem","_law_many"] cj)(c__law_take:bI P w K mg base 1 "_law_take" ["_law_pot_here","_law_many"] aw)(c__law_deed:bI P w K mg base 9 "_law_deed" ["_law_pot_here","_law_room_here","_law_goals","_law_most"] iE):bo P w K mg base dv 10 f fd ["_law_pot_here","_law_name","_law_goals","_law_manners","_law_bells_most"] (dR ⟨K,mg⟩ 5 iM):=by
 have nd:=lG.nd
 refine a_ F lG fun cdv A outer s H E hr=> ?_
 exact(aj (bc 5 nd (aC c__law_pick hr (aa (v_ 0) (aa (v_ 3) ah))))
  (aj (bc 6 nd (bN (hJ c__law_words hr (aa (v_ 0) (aa aN (aa (av (bN (bX (aa ag (aa ag (aa ag (aa ag ah)))))) (aC c__law_take hr (aa (v_ 0) (aa ag ah)))) ah))))))
  (aj (bc 7 nd (bN (hJ c__law_words hr (aa (v_ 0) (aa aN (aa (aC c__law_take hr (aa (v_ 0) (aa (bU (v_ 4) ag) ah))) ah))))))
  (aj (bc 8 nd (bN (bX ah)))
  (aj (fw PassesOwn.never rfl (dH (gQ (hJ c__law_words hr (aa (v_ 0) (aa aN (aa (bU ag (aC c__law_take hr (aa (v_ 0) (aa ag ah)))) ah)))))) (bj 9 nd) (aj (EN (n:=10) (N:= ["_law_deed_here","_law_name"]) (js:= [none,some 1]) (aQ.gen rfl rfl rfl rfl rfl rfl) rfl (dH (cZ (v_ 8))) (fun _ _ _ _=>(fe 0)) (fun _ _ _ _=>fj) (fun _ _ _ _=>(aH (aa (v_ 1) (aa (av (v_ 0) ag) ah)))) (Gd 10 nd))
  (aj (bc 11 nd (bN (sf (cZ (v_ 2)) (gQ (wI (cZ (v_ 10)) (oO hZ (dq f_ rfl B.int (by rfl) (aa (jb bQ bP (aC c__law_take hr (aa (v_ 0) (aa ag ah))) ag (aI _)) ah))))))))
  (ax (cx (cA (v_ 8) (aH (aa (v_ 9) (aa (aC c__law_deed hr (aa (v_ 0) (aa (aH (aa (v_ 5) (aa (v_ 6) (aa (v_ 7) ah)))) (aa (v_ 11) (aa ag ah))))) ah)))))))))
  (aj (bc 12 nd (dB rfl B.tuple (gQ (dt (N:= ["_law_bell","_law_pot_here"]) (js:= [none,some 0]) (aQ.gen rfl rfl rfl rfl rfl rfl) rfl (dH (cZ (v_ 7))) (fun _ _ _ _=>(fe 0)) (fun _ _ _ _=>fj) (fun _ _ _ _=>(aH (aa (v_ 0) (aa (av (bN (bX (aa aN (aa aN ah)))) (aC c__law_take hr (aa (v_ 1) (aa ag ah)))) ah)))))) (ht:=e_)))
  (ax (aD (aH (aa (v_ 1) (aa (v_ 5) (aa (dB rfl B.tuple (gQ (dt (N:= ["_law_thing","_law_pot_here"]) (js:= [none,some 0]) (aQ.gen rfl rfl rfl rfl rfl rfl) rfl (dH (cZ (v_ 6))) (fun _ _ _ _=>(fe 0)) (fun _ _ _ _=>fj) (fun _ _ _ _=>(aH (aa (v_ 0) (aa (aC c__law_take hr (aa (v_ 1) (aa ag ah))) ah)))))) (ht:=e_)) (aa (v_ 12) (aa (dB rfl B.tuple (yy (cZ (v_ 8))) (ht:=gY)) ah))))))))))))))
end
section
variable{P:Program}{w:World}{K:PySem.W.Frag}{mg:Str->Option Value}{base:Heap}{f:Addr}{fd:FuncData}
theorem kd:aB ["_law_pot_here","_law_many","_law_manners","_law_bells_most","_law_names","_law_rooms_here","_law_goals","_law_room_here","_law_name"] ["_law_pot_here","_law_many","_law_manners","_law_bells_most"] (ar iC):=⟨rfl,rfl,rfl,by decide +kernel,rfl,by decide +kernel,by decide +kernel⟩
theorem rE(F:dW K "_law_rooms" "_law_rooms" iC f fd)(B:Bl mg)(c__law_words:bI P w K mg base 2 "_law_words" ["_law_pot_here","_law_stem","_law_many"] cj)(c__law_take:bI P w K mg base 1 "_law_take" ["_law_pot_here","_law_many"] aw)(c__law_room:bI P w K mg base 10 "_law_room" ["_law_pot_here","_law_name","_law_goals","_law_manners","_law_bells_most"] iM):bo P w K mg base dv 11 f fd ["_law_pot_here","_law_many","_law_manners","_law_bells_most"] (dR ⟨K,mg⟩ 4 gS):=by
 have nd:=kd.nd
 refine a_ F kd fun cdv A outer s H E hr=> ?_
 have hu:=hr.units0
 exact(aj (bc 4 nd (bN (hJ c__law_words hr (aa (v_ 0) (aa aN (aa (v_ 1) ah))))))
  (aj (bc 5 nd (bN (bX ah)))
  (aj (CQ 4 PassesOwn.never (er hu (cZ (v_ 4))) (aj (bc 6 nd (bN (bX ah)))
  (aj (fw PassesOwn.never rfl (dH (cZ (v_ 5))) (bj 7 nd) (ax (cx (gK (v_ 6) (gQ (dt (N:= ["_law_deed_here","_law_room_here"]) (js:= [none,some 7]) (aQ.gen rfl rfl rfl rfl rfl rfl) rfl (dH (cZ (av (v_ 7) ag))) (fun _ _ _ _=>(fe 0)) (fun _ _ _ _=>fj) (fun _ _ _ _=>(aH (aa (av (v_ 1) ag) (aa (av (v_ 0) ag) ah))))))))))
  (aj (bc 8 nd (yS (v_ 4) (aC c__law_take hr (aa (v_ 0) (aa (eV rfl B.len (cZ (v_ 4))) ah)))))
  (ax (cx (cA (v_ 5) (aC c__law_room hr (aa (v_ 0) (aa (v_ 8) (aa (v_ 6) (aa (v_ 2) (aa (v_ 3) ah)))))))))))))
  (ax (aD (dB rfl B.tuple (gQ (zS rfl B.sorted (cZ (v_ 5)))) (ht:=e_)))))))
theorem nL:aB ["_law_pot_here","_law_goals","_law_words_here","_law_passes","_law_most","_law_rows","_law_k","_law_way"] ["_law_pot_here","_law_goals","_law_words_here","_law_passes","_law_most"] (ar kC):=⟨rfl,rfl,rfl,by decide +kernel,rfl,by decide +kernel,by decide +kernel⟩
theorem wm(F:dW K "_law_own" "_law_own" kC f fd)(B:Bl mg)(c__law_take:bI P w K mg base 1 "_law_take" ["_law_pot_here","_law_many"] aw)(c__law_do:bI P w K mg base 8 "_law_do" ["_law_pot_here","_law_goals","_law_things","_law_words_here"] ik)(c__law_pick:bI P w K mg base 2 "_law_pick" ["_law_pot_here","_law_some"] aZ)(c__law_sum:bI P w K mg base 7 "_law_sum" ["_law_pot_here","_law_words_here","_law_bells","_law_deep"] (a9 4)):bo P w K mg base dv 9 f fd ["_law_pot_here","_law_goals","_law_words_here","_law_passes","_law_most"] (dR ⟨K,mg⟩ 5 jW):=by
 have nd:=nL.nd
 refine a_ F nL fun cdv A outer s H E hr=> ?_
 have hu:=hr.units0
 exact(aj (bc 5 nd (bN (bX ah)))
  (aj (fw PassesOwn.never rfl (kX rfl B.range (bU ag (aC c__law_take hr (aa (v_ 0) (aa (v_ 4) ah))))) (bj 6 nd) (aj (bc 7 nd (aC c__law_take hr (aa (v_ 0) (aa ag ah))))
  (ax (bV (PW.pt (w_and (bt mm lN (v_ 7) ag (aI _)) (fg (er hu (cZ (v_ 1)))))) (ax (cx (cA (v_ 5) (aC c__law_do hr (aa (v_ 0) (aa (v_ 1) (aa (v_ 2) (aa (v_ 2) ah)))))))) (ax (bV (PW.pt (w_and (bt bQ bP (v_ 7) ag (aI _)) (fg (er hu (cZ (v_ 3)))))) (ax (cx (cA (v_ 5) (aH (aa (av (bN (bX (aa aN (aa aN ah)))) (aC c__law_take hr (aa (v_ 0) (aa ag ah)))) (aa (aC c__law_pick hr (aa (v_ 0) (aa (v_ 3) ah))) ah)))))) (ax (bV (PW.pt (w_and (bt bQ bP (v_ 7) ag (aI _)) (fg (er hu (cZ (v_ 3)))))) (ax (cx (cA (v_ 5) (aH (aa aN (aa (aC c__law_pick hr (aa (v_ 0) (aa (v_ 3) ah))) (aa (aC c__law_pick hr (aa (v_ 0) (aa (v_ 3) ah))) ah))))))) (ax (bV (PW.pt (w_and (bt bQ bP (v_ 7) ag (aI _)) (fg (er hu (cZ (v_ 2)))))) (ax (cx (cA (v_ 5) (aH (aa aN (aa (aC c__law_pick hr (aa (v_ 0) (aa (v_ 2) ah))) (aa (aC c__law_sum hr (aa (v_ 0) (aa (v_ 2) (aa (bN (bX ah)) (aa ag ah))))) ah))))))) (ax (bV (bt bQ bP (v_ 7) ag (aI _)) (aj (cx (cA (v_ 5) (aH (aa aN (aa (aC c__law_sum hr (aa (v_ 0) (aa (v_ 2) (aa (bN (bX ah)) (aa ag ah))))) (aa (bU (eV rfl B.len (cZ (v_ 5))) ag) ah))))))
  (ax (cx (cA (v_ 5) (aH (aa aN (aa (aC c__law_sum hr (aa (v_ 0) (aa (v_ 2) (aa (bN (bX ah)) (aa ag ah))))) ah))))))) (ax (cx (cA (v_ 5) (aH (aa aN (aa (aC c__law_sum hr (aa (v_ 0) (aa (v_ 2) (aa (bN (bX ah)) (aa ag ah))))) ah))))))))))))))))))
  (aj (bV (bt bQ bP (aC c__law_take hr (aa (v_ 0) (aa ag ah))) ag (aI _)) (ax (cx (cA (v_ 5) (aH (aa aN (aa (aC c__law_take hr (aa (v_ 0) (aa (bU (eV rfl B.len (cZ (v_ 5))) ag) ah))) ah)))))) bD)
  (ax (aD (dB rfl B.tuple (yy (cZ (v_ 5))) (ht:=gY)))))))
theorem kb:aB ["_law_pot_here","_law_rooms_here","_law_hands","_law_passes_most","_law_goals","_law_room_here","_law_passes","_law_shared","_law_made","_law_k","_law_own_here","_law_program","_law_counted"] ["_law_pot_here","_law_rooms_here","_law_hands","_law_passes_most"] (ar iQ):=⟨rfl,rfl,rfl,by decide +kernel,rfl,by decide +kernel,by decide +kernel⟩
theorem rH(F:dW K "_law_world" "_law_world" iQ f fd)(B:Bl mg)(c__law_words:bI P w K mg base 2 "_law_words" ["_law_pot_here","_law_stem","_law_many"] cj)(c__law_take:bI P w K mg base 1 "_law_take" ["_law_pot_here","_law_many"] aw)(c__law_own:bI P w K mg base 9 "_law_own" ["_law_pot_here","_law_goals","_law_words_here","_law_passes","_law_most"] jW):bo P w K mg base dv 10 f fd ["_law_pot_here","_law_rooms_here","_law_hands","_law_passes_most"] (dR ⟨K,mg⟩ 4 gX):=by
 have nd:=kb.nd
 refine a_ F kb fun cdv A outer s H E hr=> ?_
 exact(aj (bc 4 nd (bN (bX ah)))
  (aj (fw PassesOwn.never rfl (dH (cZ (v_ 1))) (bj 5 nd) (ax (cx (gK (v_ 4) (gQ (dt (N:= ["_law_deed_here","_law_room_here"]) (js:= [none,some 5]) (aQ.gen rfl rfl rfl rfl rfl rfl) rfl (dH (cZ (av (v_ 5) ag))) (fun _ _ _ _=>(fe 0)) (fun _ _ _ _=>fj) (fun _ _ _ _=>(aH (aa (av (v_ 1) ag) (aa (av (v_ 0) ag) ah))))))))))
  (aj (bc 6 nd (bN (hJ c__law_words hr (aa (v_ 0) (aa aN (aa (aC c__law_take hr (aa (v_ 0) (aa (bU (v_ 3) ag) ah))) ah))))))
  (aj (bc 7 nd (bN (hJ c__law_words hr (aa (v_ 0) (aa aN (aa (av (bN (bX (aa ag (aa ag (aa ag (aa ag ah)))))) (aC c__law_take hr (aa (v_ 0) (aa ag ah)))) ah))))))
  (aj (bc 8 nd (bN (bX ah)))
  (aj (fw PassesOwn.never rfl (kX rfl B.range (v_ 2)) (bj 9 nd) (aj (bc 10 nd (bN (hJ c__law_words hr (aa (v_ 0) (aa aN (aa (av (bN (bX (aa ag (aa ag (aa ag (aa ag ah)))))) (aC c__law_take hr (aa (v_ 0) (aa ag ah)))) ah))))))
  (aj (bc 11 nd (aC c__law_own hr (aa (v_ 0) (aa (v_ 4) (aa (bN (sf (cZ (v_ 10)) (cZ (v_ 7)))) (aa (v_ 6) (aa ag ah)))))))
  (ax (cx (cA (v_ 8) (aH (aa (dB rfl B.tuple (gQ (dt (N:= ["_law_word","_law_pot_here"]) (js:= [none,some 0]) (aQ.gen rfl rfl rfl rfl rfl rfl) rfl (dH (cZ (v_ 10))) (fun _ _ _ _=>(fe 0)) (fun _ _ _ _=>fj) (fun _ _ _ _=>(aH (aa (v_ 0) (aa (aC c__law_take hr (aa (v_ 1) (aa ag ah))) ah)))))) (ht:=e_)) (aa (v_ 11) ah)))))))))
  (aj (bc 12 nd (dB rfl B.tuple (gQ (dt (N:= ["_law_word","_law_pot_here"]) (js:= [none,some 0]) (aQ.gen rfl rfl rfl rfl rfl rfl) rfl (dH (cZ (v_ 6))) (fun _ _ _ _=>(fe 0)) (fun _ _ _ _=>fj) (fun _ _ _ _=>(aH (aa (v_ 0) (aa (aC c__law_take hr (aa (v_ 1) (aa ag ah))) ah)))))) (ht:=e_)))
  (ax (aD (aH (aa (v_ 1) (aa (v_ 12) (aa (dB rfl B.tuple (gQ (dt (N:= ["_law_word","_law_pot_here"]) (js:= [none,some 0]) (aQ.gen rfl rfl rfl rfl rfl rfl) rfl (dH (cZ (v_ 7))) (fun _ _ _ _=>(fe 0)) (fun _ _ _ _=>fj) (fun _ _ _ _=>(aH (aa (v_ 0) (aa (aC c__law_take hr (aa (v_ 1) (aa ag ah))) ah)))))) (ht:=e_)) (aa (dB rfl B.tuple (yy (cZ (v_ 8))) (ht:=gY)) ah))))))))))))))
theorem gZ:aB ["_law_pot_here","_law_rooms_here"] ["_law_pot_here"] (ar fB):=⟨rfl,rfl,rfl,by decide +kernel,rfl,by decide +kernel,by decide +kernel⟩
theorem mf(F:dW K "_law_any_world" "_law_any_world" fB f fd)(B:Bl mg)(c__law_rooms:bI P w K mg base 11 "_law_rooms" ["_law_pot_here","_law_many","_law_manners","_law_bells_most"] gS)(c__law_take:bI P w K mg base 1 "_law_take" ["_law_pot_here","_law_many"] aw)(c__law_world:bI P w K mg base 10 "_law_world" ["_law_pot_here","_law_rooms_here","_law_hands","_law_passes_most"] gX):bo P w K mg base dv 12 f fd ["_law_pot_here"] (dR ⟨K,mg⟩ 1 dG):=by
 have nd:=gZ.nd
 refine a_ F gZ fun cdv A outer s H E hr=> ?_
 exact(aj (bc 1 nd (aC c__law_rooms hr (aa (v_ 0) (aa (av (bN (bX (aa ag (aa ag (aa ag (aa ag (aa ag (aa ag ah)))))))) (aC c__law_take hr (aa (v_ 0) (aa ag ah)))) (aa (bN (bX (aa aN (aa aN ah)))) (aa ag ah))))))
  (ax (aD (aC c__law_world hr (aa (v_ 0) (aa (v_ 1) (aa (bU ag (aC c__law_take hr (aa (v_ 0) (aa ag ah)))) (aa ag ah))))))))
theorem uL:aB ["things"] ["things"] (ar jH):=⟨rfl,rfl,rfl,by decide +kernel,rfl,by decide +kernel,by decide +kernel⟩
theorem uE(F:dW K "values_of" "values_of" jH f fd)(B:Bl mg):bo P w K mg base dv 1 f fd ["things"] (dR ⟨K,mg⟩ 1 eP):=by
 refine a_ F uL fun cdv A outer s H E hr=> ?_
 exact(ax (aD (dB rfl B.tuple (gQ (dt (N:= ["word","value"]) (js:= [none,none]) (aQ.gen rfl rfl rfl rfl rfl rfl) rfl (dH (cZ (v_ 0))) (fun _ _ _ _=>(cy rfl (au (fe 0) (au (fe 1) bE)))) (fun _ _ _ _=>fj) (fun _ _ _ _=>(v_ 1)))) (ht:=e_))))
theorem ke:aB ["room","name","manner","things","bells","deeds"] ["room"] (ar i9):=⟨rfl,rfl,rfl,by decide +kernel,rfl,by decide +kernel,by decide +kernel⟩
theorem rC(F:dW K "begun_room" "begun_room" i9 f fd)(B:Bl mg)(c_values_of:bI P w K mg base 1 "values_of" ["things"] eP){t_NOBODY:Tok}(h_NOBODY:mg "NOBODY"=some (.int (-1) t_NOBODY)):bo P w K mg base dv 2 f fd ["room"] (dR ⟨K,mg⟩ 1 gP):=by
 have nd:=ke.nd
 refine a_ F ke fun cdv A outer s H E hr=> ?_
 exact(aj (eU (v_ 0) (cy rfl (au (bj 1 nd) (au (bj 2 nd) (au (bj 3 nd) (au (bj 4 nd) (au (bj 5 nd) bE)))))))
  (ax (aD (aH (aa (aC c_values_of hr (aa (v_ 3) ah)) (aa (c7 (eg (v:=.int (-1)) rfl h_NOBODY ⟨_,rfl⟩) fun _ _=>.int (-1)) (aa (aH ah) (aa (aH ah) (aa (dB rfl B.tuple (gQ (dt (N:= ["bell"]) (js:= [none]) (aQ.gen rfl rfl rfl rfl rfl rfl) rfl (dH (cZ (v_ 4))) (fun _ _ _ _=>(fe 0)) (fun _ _ _ _=>fj) (fun _ _ _ _=>(aH ah)))) (ht:=e_)) ah)))))))))
theorem vn:aB ["world","rooms","passes","shared","hands","own"] ["world"] (ar ug):=⟨rfl,rfl,rfl,by decide +kernel,rfl,by decide +kernel,by decide +kernel⟩
theorem Bt(F:dW K "begun" "begun" ug f fd)(B:Bl mg)(c_values_of:bI P w K mg base 1 "values_of" ["things"] eP)(c_begun_room:bI P w K mg base 2 "begun_room" ["room"] gP){t_OWN:Tok}(h_OWN:mg "OWN"=some (.int (-1) t_OWN)):bo P w K mg base dv 3 f fd ["world"] (dR ⟨K,mg⟩ 1 uz):=by
 have nd:=vn.nd
 refine a_ F vn fun cdv A outer s H E hr=> ?_
 exact(aj (eU (v_ 0) (cy rfl (au (bj 1 nd) (au (bj 2 nd) (au (bj 3 nd) (au (bj 4 nd) bE))))))
  (aj (bc 5 nd (aH (aa (c7 (eg (v:=.int (-1)) rfl h_OWN ⟨_,rfl⟩) fun _ _=>.int (-1)) (aa (c7 (eg (v:=.int (-1)) rfl h_OWN ⟨_,rfl⟩) fun _ _=>.int (-1)) (aa ag (aa ag (aa ag ah)))))))
  (ax (aD (aH (aa (dB rfl B.tuple (gQ (dt (N:= ["room"]) (js:= [none]) (aQ.gen rfl rfl rfl rfl rfl rfl) rfl (dH (cZ (v_ 1))) (fun _ _ _ _=>(fe 0)) (fun _ _ _ _=>fj) (fun _ _ _ _=>(aC c_begun_room hr (aa (v_ 0) ah))))) (ht:=e_)) (aa (dB rfl B.tuple (gQ (dt (N:= ["name","value"]) (js:= [none,none]) (aQ.gen rfl rfl rfl rfl rfl rfl) rfl (dH (cZ (v_ 2))) (fun _ _ _ _=>(cy rfl (au (fe 0) (au (fe 1) bE)))) (fun _ _ _ _=>fj) (fun _ _ _ _=>(aH (aa (v_ 1) (aa (aH ah) ah)))))) (ht:=e_)) (aa (aC c_values_of hr (aa (v_ 3) ah)) (aa (dB rfl B.tuple (gQ (dt (N:= ["things","program","own"]) (js:= [none,none,some 5]) (aQ.gen rfl rfl rfl rfl rfl rfl) rfl (dH (cZ (v_ 4))) (fun _ _ _ _=>(cy rfl (au (fe 0) (au (fe 1) bE)))) (fun _ _ _ _=>fj) (fun _ _ _ _=>(aH (aa (aC c_values_of hr (aa (v_ 0) ah)) (aa (aH (aa (v_ 2) ah)) ah)))))) (ht:=e_)) ah)))))))))
theorem wV:aB ["line"] ["line"] (ar kB):=⟨rfl,rfl,rfl,by decide +kernel,rfl,by decide +kernel,by decide +kernel⟩
theorem vD(F:dW K "hands_at" "hands_at" kB f fd)(B:Bl mg):bo P w K mg base dv 1 f fd ["line"] (dR ⟨K,mg⟩ 1 gd):=by
 refine a_ F wV fun cdv A outer s H E hr=> ?_
 exact(ax (kG (dt (N:= ["turn","hand"]) (js:= [none,none]) (aQ.gen rfl rfl rfl rfl rfl rfl) rfl (dH (cZ (v_ 0))) (fun _ _ _ _=>(cy rfl (au (fe 0) (au (fe 1) bE)))) (fun _ _ _ _=>fj) (fun _ _ _ _=>(v_ 1)))))
theorem iu:aB ["scene","hands","value","row","values","within","late","bells","line"] ["scene"] (ar fK):=⟨rfl,rfl,rfl,by decide +kernel,rfl,by decide +kernel,by decide +kernel⟩
theorem mP(F:dW K "hands_in_rows" "hands_in_rows" fK f fd)(B:Bl mg)(c_hands_at:bI P w K mg base 1 "hands_at" ["line"] gd):bo P w K mg base dv 2 f fd ["scene"] (dR ⟨K,mg⟩ 1 d0):=by
 have nd:=iu.nd
 refine a_ F iu fun cdv A outer s H E hr=> ?_
 exact(aj (bc 1 nd (bN (bX ah)))
  (aj (fw PassesOwn.never rfl (dH (cZ (av (v_ 0) ag))) (cy rfl (au (bj 2 nd) (au (bj 3 nd) bE))) (ax (cx (sP (v_ 1) (cZ (v_ 3))))))
  (aj (fw PassesOwn.never rfl (dH (cZ (av (v_ 0) ag))) (cy rfl (au (bj 4 nd) (au (bj 5 nd) (au (bj 3 nd) (au (bj 6 nd) (au (bj 7 nd) bE)))))) (aj (cx (sP (v_ 1) (cZ (bU (v_ 3) (v_ 6)))))
  (ax (fw PassesOwn.never rfl (dH (cZ (v_ 7))) (bj 8 nd) (ax (cx (gK (v_ 1) (gQ (hJ c_hands_at hr (aa (v_ 8) ah))))))))))
  (ax (aD (v_ 1))))))
end
section
variable{P:Program}{w:World}{K:PySem.W.Frag}{mg:Str->Option Value}{base:Heap}{f:Addr}{fd:FuncData}
theorem rA:aB ["scene","hand"] ["scene","hand"] (ar iG):=⟨rfl,rfl,rfl,by decide +kernel,rfl,by decide +kernel,by decide +kernel⟩
theorem rD(F:dW K "last_frame" "last_frame" iG f fd)(B:Bl mg):bo P w K mg base dv 1 f fd ["scene","hand"] (dR ⟨K,mg⟩ 2 bp):=by
 refine a_ F rA fun cdv A outer s H E hr=> ?_
 exact(ax (aD (av (av (av (av (v_ 0) ag) (v_ 1)) ag) (mi ag))))
theorem kg:aB ["world","hand","frame","room","deed"] ["world","hand","frame"] (ar iT):=⟨rfl,rfl,rfl,by decide +kernel,rfl,by decide +kernel,by decide +kernel⟩
theorem rL(F:dW K "program_of" "program_of" iT f fd)(B:Bl mg){t_OWN:Tok}(h_OWN:mg "OWN"=some (.int (-1) t_OWN)):bo P w K mg base dv 1 f fd ["world","hand","frame"] (dR ⟨K,mg⟩ 3 cI):=by
 have nd:=kg.nd
 refine a_ F kg fun cdv A outer s H E hr=> ?_
 exact(aj (GM (Ek (i:=3) (j:=4) rfl nd rfl rfl (by decide) rfl rfl (aa (av (v_ 2) ag) (aa (av (v_ 2) ag) ah)) rfl))
  (aj (bV (bt bQ bP (v_ 3) (c7 (eg (v:=.int (-1)) rfl h_OWN ⟨_,rfl⟩) fun _ _=>.int (-1)) (aI _)) (ax (aD (av (av (av (v_ 0) ag) (v_ 1)) ag))) bD)
  (ax (aD (av (av (av (av (av (v_ 0) ag) (v_ 3)) ag) (v_ 4)) ag)))))
theorem ic:aB ["world","scene","hand","frame"] ["world","scene","hand"] (ar fN):=⟨rfl,rfl,rfl,by decide +kernel,rfl,by decide +kernel,by decide +kernel⟩
theorem mY(F:dW K "is_behind_all" "is_behind_all" fN f fd)(B:Bl mg)(c_last_frame:bI P w K mg base 1 "last_frame" ["scene","hand"] bp)(c_program_of:bI P w K mg base 1 "program_of" ["world","hand","frame"] cI){t_OWN:Tok}(h_OWN:mg "OWN"=some (.int (-1) t_OWN)):bo P w K mg base dv 2 f fd ["world","scene","hand"] (dR ⟨K,mg⟩ 3 eX):=by
 have nd:=ic.nd
 refine a_ F ic fun cdv A outer s H E hr=> ?_
 exact(aj (bc 3 nd (aC c_last_frame hr (aa (v_ 1) (aa (v_ 2) ah))))
  (ax (aD (vS (jb bQ bP (av (v_ 3) ag) (c7 (eg (v:=.int (-1)) rfl h_OWN ⟨_,rfl⟩) fun _ _=>.int (-1)) (aI _)) (yI (jb bQ bP (av (v_ 3) ag) (eV rfl B.len (cZ (aC c_program_of hr (aa (v_ 0) (aa (v_ 2) (aa (v_ 3) ah)))))) (aI _)))))))
theorem nV:aB ["world","scene","held_up"] ["world","scene"] (ar kS):=⟨rfl,rfl,rfl,by decide +kernel,rfl,by decide +kernel,by decide +kernel⟩
theorem vR(F:dW K "may_step" "may_step" kS f fd)(B:Bl mg)(c_hands_in_rows:bI P w K mg base 2 "hands_in_rows" ["scene"] d0)(c_is_behind_all:bI P w K mg base 2 "is_behind_all" ["world","scene","hand"] eX):bo P w K mg base dv 3 f fd ["world","scene"] (dR ⟨K,mg⟩ 2 gf):=by
 have nd:=nV.nd
 refine a_ F nV fun cdv A outer s H E hr=> ?_
 exact(aj (bc 2 nd (bN (hJ c_hands_in_rows hr (aa (v_ 1) ah))))
  (ax (kG (dt (N:= ["hand","world","scene","held_up"]) (js:= [none,some 0,some 1,some 2]) (aQ.gen rfl rfl rfl rfl rfl rfl) rfl (kX rfl B.range (eV rfl B.len (cZ (av (v_ 1) ag)))) (fun _ _ _ _=>(fe 0)) (fun _ _ _ _=>(A6 (PW.pt (w_and (yG (v_ 0) (cZ (v_ 3))) (fg (sm (h_ (aC c_is_behind_all hr (aa (v_ 1) (aa (v_ 2) (aa (v_ 0) ah))))))))))) (fun _ _ _ _=>(v_ 0))))))
theorem kj:aB ["_law_world_here","_law_scene","_law_own_here","_law_found","_law_told","_law_here","_law_room_here","_law_bell","_law_rows"] ["_law_world_here","_law_scene","_law_own_here"] (ar iJ):=⟨rfl,rfl,rfl,by decide +kernel,rfl,by decide +kernel,by decide +kernel⟩
theorem rV(F:dW K "_law_bound" "_law_bound" iJ f fd)(B:Bl mg):bo P w K mg base dv 1 f fd ["_law_world_here","_law_scene","_law_own_here"] (dR ⟨K,mg⟩ 3 gU):=by
 have nd:=kj.nd
 refine a_ F kj fun cdv A outer s H E hr=> ?_
 exact(aj (bc 3 nd (bN (bX ah)))
  (aj (fw PassesOwn.never rfl (n0 rfl B.zip (cZ (av (v_ 0) ag)) (cZ (av (v_ 1) ag))) (cy rfl (au (bj 4 nd) (au (bj 5 nd) bE))) (ax (cx (gK (v_ 3) (gQ (wI (gQ (bX (aa (aH (aa aN (aa (av (v_ 4) ag) ah))) ah))) (uc (av (v_ 5) ag) (v_ 2))))))))
  (aj (fw PassesOwn.never rfl (n0 rfl B.zip (cZ (av (v_ 0) ag)) (cZ (av (v_ 1) ag))) (cy rfl (au (bj 6 nd) (au (bj 5 nd) bE))) (aj (cx (gK (v_ 3) (gQ (sf (gQ (wI (gQ (bX (aa (aH (aa aN (aa (av (v_ 6) ag) ah))) ah))) (uc (av (v_ 5) ag) (v_ 2)))) (gQ (wI (gQ (bX (aa (aH (aa aN (aa (av (v_ 6) ag) ah))) ah))) (uc (av (v_ 5) ag) (v_ 2))))))))
  (ax (fw PassesOwn.never rfl (n0 rfl B.zip (cZ (av (v_ 6) ag)) (cZ (av (v_ 5) ag))) (cy rfl (au (bj 7 nd) (au (bj 8 nd) bE))) (ax (cx (gK (v_ 3) (gQ (wI (gQ (bX (aa (aH (aa aN (aa (av (v_ 6) ag) (aa (av (v_ 7) ag) ah)))) ah))) (eV rfl B.len (gQ (dt (N:= ["_law_one","_law_own_here"]) (js:= [none,some 2]) (aQ.gen rfl rfl rfl rfl rfl rfl) rfl (dH (cZ (v_ 8))) (fun _ _ _ _=>(fe 0)) (fun _ _ _ _=>(A6 (bt bQ bP (av (v_ 0) ag) (v_ 1) (aI _)))) (fun _ _ _ _=>(v_ 0))))))))))))))
  (ax (aD (v_ 3))))))
theorem lZ:aB ["_law_world_here","_law_scene","_law_own_here","_law_room_here","_law_deed_here","_law_row","_law_given","_law_told"] ["_law_world_here","_law_scene","_law_own_here"] (ar jM):=⟨rfl,rfl,rfl,by decide +kernel,rfl,by decide +kernel,by decide +kernel⟩
theorem u9(F:dW K "_law_free" "_law_free" jM f fd)(B:Bl mg):bo P w K mg base dv 1 f fd ["_law_world_here","_law_scene","_law_own_here"] (dR ⟨K,mg⟩ 3 iR):=by
 have nd:=lZ.nd
 refine a_ F lZ fun cdv A outer s H E hr=> ?_
 exact(aj (eU (av (av (av (av (v_ 1) ag) (v_ 2)) ag) (mi ag)) (cy rfl (au (bj 3 nd) (au (bj 4 nd) (au (bj 5 nd) (au (bj 6 nd) (au (bj 7 nd) bE)))))))
  (aj (bV (bt mm lN (v_ 3) ag (aI _)) (ax (aD (av (bN (bX (aa aN (aa aN ah)))) (oO hZ (dq f_ rfl B.int (by rfl) (aa (jb bQ bP (v_ 5) (eV rfl B.len (cZ (av (av (av (v_ 0) ag) (v_ 2)) ag))) (aI _)) ah)))))) bD)
  (ax (aD (av (bN (bX (aa aN (aa aN ah)))) (oO hZ (dq f_ rfl B.int (by rfl) (aa (jb bQ bP (av (av (av (v_ 1) ag) (v_ 3)) ag) (v_ 2) (aI _)) ah))))))))
theorem jD:aB ["_law_world_here","_law_scene","_law_own_here","_law_found","_law_word"] ["_law_world_here","_law_scene","_law_own_here"] (ar hU):=⟨rfl,rfl,rfl,by decide +kernel,rfl,by decide +kernel,by decide +kernel⟩
theorem p5(F:dW K "_law_stands" "_law_stands" hU f fd)(B:Bl mg)(c__law_bound:bI P w K mg base 1 "_law_bound" ["_law_world_here","_law_scene","_law_own_here"] gU)(c__law_free:bI P w K mg base 1 "_law_free" ["_law_world_here","_law_scene","_law_own_here"] iR):bo P w K mg base dv 2 f fd ["_law_world_here","_law_scene","_law_own_here"] (dR ⟨K,mg⟩ 3 fQ):=by
 have nd:=jD.nd
 refine a_ F jD fun cdv A outer s H E hr=> ?_
 have hu:=hr.units0
 exact(aj (bc 3 nd (bN (hJ c__law_bound hr (aa (v_ 0) (aa (v_ 1) (aa (v_ 2) ah))))))
  (aj (bV (er hu (cZ (v_ 3))) (ax (aD (av (v_ 3) ag))) bD)
  (aj (bc 4 nd (aC c__law_free hr (aa (v_ 0) (aa (v_ 1) (aa (v_ 2) ah)))))
  (aj (bV (xJ (v_ 4) (cZ (aH (aa aN (aa aN ah))))) (ax (aD (aH (aa (v_ 4) ah)))) bD)
  (ax (aD (aH (aa (v_ 4) (aa (av (av (av (v_ 0) ag) (av (av (av (av (av (v_ 1) ag) (v_ 2)) ag) (mi ag)) ag)) ag) ah)))))))))
theorem t5:aB ["_law_found","_law_due"] ["_law_found","_law_due"] (ar jt):=⟨rfl,rfl,rfl,by decide +kernel,rfl,by decide +kernel,by decide +kernel⟩
theorem me(F:dW K "_law_same" "_law_same" jt f fd)(B:Bl mg)(b:Binds K fd ["_law_found","_law_due"] [])(kp:PySem.W.keepIn K (.ref f)=true)(m:mg "_law_same"=some (.ref f)):∀n,bo P w K mg base dv (1+n) f fd ["_law_found","_law_due"] (dR ⟨K,mg⟩ 2 (eN n))
 |0=>ui
 | n+1=>by
   have c__law_same:bI P w K mg base (1+n) "_law_same" ["_law_found","_law_due"] (eN n):=⟨f,fd,me F B b kp m n,b,kp,m⟩
   refine a_ (k:=1+n) F t5 fun cdv A outer s H E hr=> ?_
   exact(aj (bV (h_ (lQ (T:="tuple") ⟨rfl,rfl,rfl,rfl,rfl,rfl,rfl⟩ rfl B.isi (v_ 1) (fT (v:=.ty "tuple") rfl B.tuple PyProof.Rows.boot_tuple rfl))) (aj (bV (PW.pt (w_or (sm (h_ (lQ (T:="tuple") ⟨rfl,rfl,rfl,rfl,rfl,rfl,rfl⟩ rfl B.isi (v_ 0) (fT (v:=.ty "tuple") rfl B.tuple PyProof.Rows.boot_tuple rfl)))) (yQ (bt sr tO (eV rfl B.len (cZ (v_ 0))) (eV rfl B.len (cZ (v_ 1))) (aI _))))) (ax (aD Av)) bD)
   (ax (aD (FM rfl rfl B.all (gQ (dt (N:= ["_law_one","_law_other"]) (js:= [none,none]) (aQ.gen rfl rfl rfl rfl rfl rfl) rfl (n0 rfl B.zip (cZ (v_ 0)) (cZ (v_ 1))) (fun _ _ _ _=>(cy rfl (au (fe 0) (au (fe 1) bE)))) (fun _ _ _ _=>fj) (fun _ _ _ _=>(aC c__law_same hr (aa (v_ 0) (aa (v_ 1) ah)))))))))) bD)
   (aj (bV (PW.pt (w_or (h_ (lQ (T:="str") ⟨rfl,rfl,rfl,rfl,rfl,rfl,rfl⟩ rfl B.isi (v_ 1) (fT (v:=.ty "str") rfl B.str PyProof.Rows.boot_str rfl))) (yQ (bt AL AD (v_ 1) om (aI _))))) (ax (aD (vS (jb bQ bP (lQ (T:="str") ⟨rfl,rfl,rfl,rfl,rfl,rfl,rfl⟩ rfl B.isi (v_ 0) (fT (v:=.ty "str") rfl B.str PyProof.Rows.boot_str rfl)) (lQ (T:="str") ⟨rfl,rfl,rfl,rfl,rfl,rfl,rfl⟩ rfl B.isi (v_ 1) (fT (v:=.ty "str") rfl B.str PyProof.Rows.boot_str rfl)) (aI _)) (yI (jb bQ bP (v_ 0) (v_ 1) (aI _)))))) bD)
   (ax (aD (vS (lQ (T:="int") ⟨rfl,rfl,rfl,rfl,rfl,rfl,rfl⟩ rfl B.isi (v_ 0) (fT (v:=.ty "int") rfl B.int PyProof.Rows.boot_int rfl)) (vS (Gf (lQ (T:="bool") ⟨rfl,rfl,rfl,rfl,rfl,rfl,rfl⟩ rfl B.isi (v_ 0) (fT (v:=.ty "bool") rfl B.bool PyProof.Rows.boot_bool rfl))) (yI (jb bQ bP (v_ 0) (v_ 1) (aI _)))))))))
theorem gR:aB ["world","scene","hand","name","first","value","row","room","state","bell","sort","line"] ["world","scene","hand"] (ar fD):=⟨rfl,rfl,rfl,by decide +kernel,rfl,by decide +kernel,by decide +kernel⟩
theorem lH(F:dW K "place_in_a_row" "place_in_a_row" fD f fd)(B:Bl mg)(c_hands_at:bI P w K mg base 1 "hands_at" ["line"] gd):bo P w K mg base dv 2 f fd ["world","scene","hand"] (dR ⟨K,mg⟩ 3 eJ):=by
 have nd:=gR.nd
 refine a_ F gR fun cdv A outer s H E hr=> ?_
 exact(aj (fw PassesOwn.never rfl (n0 rfl B.zip (cZ (av (v_ 0) ag)) (cZ (av (v_ 1) ag))) (cy rfl (au (cy rfl (au (bj 3 nd) (au (bj 4 nd) bE))) (au (cy rfl (au (bj 5 nd) (au (bj 6 nd) bE))) bE))) (ax (bV (xJ (v_ 2) (cZ (v_ 6))) (ax (aD (aH (aa aN (aa (v_ 3) ah))))) bD)))
  (aj (fw PassesOwn.never rfl (n0 rfl B.zip (cZ (av (v_ 0) ag)) (cZ (av (v_ 1) ag))) (cy rfl (au (bj 7 nd) (au (bj 8 nd) bE))) (aj (bV (xJ (v_ 2) (cZ (av (v_ 8) ag))) (ax (aD (aH (aa aN (aa (av (v_ 7) ag) ah))))) bD)
  (aj (bV (xJ (v_ 2) (cZ (av (v_ 8) ag))) (ax (aD (aH (aa aN (aa (av (v_ 7) ag) ah))))) bD)
  (ax (fw PassesOwn.never rfl (n0 rfl B.zip (cZ (av (v_ 7) ag)) (cZ (av (v_ 8) ag))) (cy rfl (au (cy rfl (au (bj 9 nd) (au (bj 10 nd) bE))) (au (bj 11 nd) bE))) (ax (bV (xJ (v_ 2) (gQ (hJ c_hands_at hr (aa (v_ 11) ah)))) (ax (aD (aH (aa aN (aa (av (v_ 7) ag) (aa (v_ 9) ah)))))) bD)))))))
  (ax (aD om))))
theorem su:aB ["world","scene","hand","waits","frame","room","name"] ["world","scene","hand"] (ar p0):=⟨rfl,rfl,rfl,by decide +kernel,rfl,by decide +kernel,by decide +kernel⟩
theorem y0(F:dW K "stands" "stands" p0 f fd)(B:Bl mg)(c_place_in_a_row:bI P w K mg base 2 "place_in_a_row" ["world","scene","hand"] eJ)(c_last_frame:bI P w K mg base 1 "last_frame" ["scene","hand"] bp)(c_program_of:bI P w K mg base 1 "program_of" ["world","hand","frame"] cI){t_OWN:Tok}(h_OWN:mg "OWN"=some (.int (-1) t_OWN)):bo P w K mg base dv 3 f fd ["world","scene","hand"] (dR ⟨K,mg⟩ 3 mC):=by
 have nd:=su.nd
 refine a_ F su fun cdv A outer s H E hr=> ?_
 exact(aj (bc 3 nd (aC c_place_in_a_row hr (aa (v_ 0) (aa (v_ 1) (aa (v_ 2) ah)))))
  (aj (bV (bt Cm CK (v_ 3) om (aI _)) (ax (aD (v_ 3))) bD)
  (aj (bc 4 nd (aC c_last_frame hr (aa (v_ 1) (aa (v_ 2) ah))))
  (aj (bc 5 nd (av (v_ 4) ag))
  (aj (bV (bt bQ bP (v_ 5) (c7 (eg (v:=.int (-1)) rfl h_OWN ⟨_,rfl⟩) fun _ _=>.int (-1)) (aI _)) (ax (aD (qj (bt bQ bP (av (v_ 4) ag) (eV rfl B.len (cZ (aC c_program_of hr (aa (v_ 0) (aa (v_ 2) (aa (v_ 4) ah)))))) (aI _)) (aH (aa aN ah)) (aH (aa aN ah))))) bD)
  (aj (bc 6 nd (av (av (av (v_ 0) ag) (v_ 5)) ag))
  (ax (aD (qj (bt bQ bP (av (av (av (v_ 1) ag) (v_ 5)) ag) (v_ 2) (aI _)) (aH (aa aN (aa (v_ 6) ah))) (aH (aa aN (aa (v_ 6) ah))))))))))))
theorem kq:aB ["_law_pot_here","_law_world_here","_law_scene","_law_many","_law_first","_law_own_here","_law_due"] ["_law_pot_here","_law_world_here","_law_scene"] (ar iW):=⟨rfl,rfl,rfl,by decide +kernel,rfl,by decide +kernel,by decide +kernel⟩
theorem rN(F:dW K "_law_right" "_law_right" iW f fd)(B:Bl mg)(c__law_take:bI P w K mg base 1 "_law_take" ["_law_pot_here","_law_many"] aw)(c__law_stands:bI P w K mg base 2 "_law_stands" ["_law_world_here","_law_scene","_law_own_here"] fQ)(c__law_same:bI P w K mg base 11 "_law_same" ["_law_found","_law_due"] (eN 10))(c_stands:bI P w K mg base 3 "stands" ["world","scene","hand"] mC):bo P w K mg base dv 12 f fd ["_law_pot_here","_law_world_here","_law_scene"] (dR ⟨K,mg⟩ 3 gW):=by
 have nd:=kq.nd
 refine a_ F kq fun cdv A outer s H E hr=> ?_
 exact(aj (bc 3 nd (eV rfl B.len (cZ (av (v_ 1) ag))))
  (aj (bc 4 nd (aC c__law_take hr (aa (v_ 0) (aa (v_ 3) ah))))
  (aj (fw PassesOwn.never rfl (dH (gQ (sf (gQ (EM rfl rfl B.list rfl B.range (v_ 4) (v_ 3))) (gQ (E_ rfl rfl B.list rfl B.range (v_ 4)))))) (bj 5 nd) (aj (bc 6 nd (aC c__law_stands hr (aa (v_ 1) (aa (v_ 2) (aa (v_ 5) ah)))))
  (ax (bV (PW.pt (w_or (sm (h_ (aC c__law_same hr (aa (aC c_stands hr (aa (v_ 1) (aa (v_ 2) (aa (v_ 5) ah)))) (aa (v_ 6) ah))))) (yQ (sm (h_ (aC c__law_same hr (aa (aC c_stands hr (aa (v_ 1) (aa (v_ 2) (aa (v_ 5) ah)))) (aa (v_ 6) ah)))))))) (ax (aD Av)) bD))))
  (ax (aD Av)))))
end
section
variable{P:Program}{w:World}{K:PySem.W.Frag}{mg:Str->Option Value}{base:Heap}{f:Addr}{fd:FuncData}
theorem uu:aB ["_law_pot_here","_law_some","_law_last"] ["_law_pot_here","_law_some","_law_last"] (ar jz):=⟨rfl,rfl,rfl,by decide +kernel,rfl,by decide +kernel,by decide +kernel⟩
theorem uw(F:dW K "_law_next" "_law_next" jz f fd)(B:Bl mg)(c__law_take:bI P w K mg base 1 "_law_take" ["_law_pot_here","_law_many"] aw)(c__law_pick:bI P w K mg base 2 "_law_pick" ["_law_pot_here","_law_some"] aZ):bo P w K mg base dv 3 f fd ["_law_pot_here","_law_some","_law_last"] (dR ⟨K,mg⟩ 3 iX):=by
 refine a_ F uu fun cdv A outer s H E hr=> ?_
 exact(aj (bV (PW.pt (w_and (xJ (v_ 2) (cZ (v_ 1))) (fg (bt bQ bP (aC c__law_take hr (aa (v_ 0) (aa ag ah))) ag (aI _))))) (ax (aD (v_ 2))) bD)
  (ax (aD (aC c__law_pick hr (aa (v_ 0) (aa (v_ 1) ah))))))
theorem ve:aB ["roll"] ["roll"] (ar kE):=⟨rfl,rfl,rfl,by decide +kernel,rfl,by decide +kernel,by decide +kernel⟩
theorem wB(F:dW K "names_of" "names_of" kE f fd)(B:Bl mg):bo P w K mg base dv 1 f fd ["roll"] (dR ⟨K,mg⟩ 1 cY):=by
 refine a_ F ve fun cdv A outer s H E hr=> ?_
 exact(ax (kG (dt (N:= ["row"]) (js:= [none]) (aQ.gen rfl rfl rfl rfl rfl rfl) rfl (dH (cZ (v_ 0))) (fun _ _ _ _=>(fe 0)) (fun _ _ _ _=>fj) (fun _ _ _ _=>(av (v_ 0) ag)))))
theorem vk:aB ["roll","name"] ["roll","name"] (ar kW):=⟨rfl,rfl,rfl,by decide +kernel,rfl,by decide +kernel,by decide +kernel⟩
theorem vQ(F:dW K "place_of" "place_of" kW f fd)(B:Bl mg)(c_names_of:bI P w K mg base 1 "names_of" ["roll"] cY):bo P w K mg base dv 2 f fd ["roll","name"] (dR ⟨K,mg⟩ 2 cc):=by
 refine a_ F vk fun cdv A outer s H E hr=> ?_
 exact(ax (aD (Ci (gQ (hJ c_names_of hr (aa (v_ 0) ah))) (v_ 1))))
theorem uZ:aB ["parts","at","part"] ["parts","at","part"] (ar jI):=⟨rfl,rfl,rfl,by decide +kernel,rfl,by decide +kernel,by decide +kernel⟩
theorem uo(F:dW K "with_part" "with_part" jI f fd)(B:Bl mg):bo P w K mg base dv 1 f fd ["parts","at","part"] (dR ⟨K,mg⟩ 3 bZ):=by
 refine a_ F uZ fun cdv A outer s H E hr=> ?_
 exact(ax (aD (bU (bU (cT (v_ 0) dJ (dP (v_ 1))) (aH (aa (v_ 2) ah))) (cT (v_ 0) (dP (bU (v_ 1) ag)) dJ))))
theorem uU:aB ["scene","hand","values","frames"] ["scene","hand","values","frames"] (ar jn):=⟨rfl,rfl,rfl,by decide +kernel,rfl,by decide +kernel,by decide +kernel⟩
theorem ua(F:dW K "with_hand" "with_hand" jn f fd)(B:Bl mg)(c_with_part:bI P w K mg base 1 "with_part" ["parts","at","part"] bZ):bo P w K mg base dv 2 f fd ["scene","hand","values","frames"] (dR ⟨K,mg⟩ 4 dg):=by
 refine a_ F uU fun cdv A outer s H E hr=> ?_
 exact(ax (aD (bU (cT (v_ 0) dJ (dP ag)) (aH (aa (aC c_with_part hr (aa (av (v_ 0) ag) (aa (v_ 1) (aa (aH (aa (v_ 2) (aa (v_ 3) ah))) ah)))) ah)))))
theorem u_:aB ["scene","at","room"] ["scene","at","room"] (ar jR):=⟨rfl,rfl,rfl,by decide +kernel,rfl,by decide +kernel,by decide +kernel⟩
theorem tY(F:dW K "with_room" "with_room" jR f fd)(B:Bl mg)(c_with_part:bI P w K mg base 1 "with_part" ["parts","at","part"] bZ):bo P w K mg base dv 2 f fd ["scene","at","room"] (dR ⟨K,mg⟩ 3 bS):=by
 refine a_ F u_ fun cdv A outer s H E hr=> ?_
 exact(ax (aD (bU (aH (aa (aC c_with_part hr (aa (av (v_ 0) ag) (aa (v_ 1) (aa (v_ 2) ah)))) ah)) (cT (v_ 0) (dP ag) dJ))))
theorem l_:aB ["world","scene","hand","word","value","room","place","values","shared","frames"] ["world","scene","hand","word","value"] (ar jK):=⟨rfl,rfl,rfl,by decide +kernel,rfl,by decide +kernel,by decide +kernel⟩
theorem uC(F:dW K "put_thing" "put_thing" jK f fd)(B:Bl mg)(c_last_frame:bI P w K mg base 1 "last_frame" ["scene","hand"] bp)(c_place_of:bI P w K mg base 2 "place_of" ["roll","name"] cc)(c_with_part:bI P w K mg base 1 "with_part" ["parts","at","part"] bZ)(c_with_room:bI P w K mg base 2 "with_room" ["scene","at","room"] bS)(c_names_of:bI P w K mg base 1 "names_of" ["roll"] cY)(c_with_hand:bI P w K mg base 2 "with_hand" ["scene","hand","values","frames"] dg){t_OWN:Tok}(h_OWN:mg "OWN"=some (.int (-1) t_OWN)):bo P w K mg base dv 3 f fd ["world","scene","hand","word","value"] (dR ⟨K,mg⟩ 5 ed):=by
 have nd:=l_.nd
 refine a_ F l_ fun cdv A outer s H E hr=> ?_
 exact(aj (bc 5 nd (av (aC c_last_frame hr (aa (v_ 1) (aa (v_ 2) ah))) ag))
  (aj (bV (bt sr tO (v_ 5) (c7 (eg (v:=.int (-1)) rfl h_OWN ⟨_,rfl⟩) fun _ _=>.int (-1)) (aI _)) (aj (bc 6 nd (aC c_place_of hr (aa (av (av (av (v_ 0) ag) (v_ 5)) ag) (aa (v_ 3) ah))))
  (aj (bc 7 nd (aC c_with_part hr (aa (av (av (av (v_ 1) ag) (v_ 5)) ag) (aa (v_ 6) (aa (v_ 4) ah)))))
  (ax (aD (aC c_with_room hr (aa (v_ 1) (aa (v_ 5) (aa (bU (aH (aa (v_ 7) ah)) (cT (av (av (v_ 1) ag) (v_ 5)) (dP ag) dJ)) ah)))))))) bD)
  (aj (bV (xJ (v_ 3) (gQ (hJ c_names_of hr (aa (av (v_ 0) ag) ah)))) (aj (bc 8 nd (aC c_with_part hr (aa (av (v_ 1) ag) (aa (aC c_place_of hr (aa (av (v_ 0) ag) (aa (v_ 3) ah))) (aa (v_ 4) ah)))))
  (ax (aD (aH (aa (av (v_ 1) ag) (aa (av (v_ 1) ag) (aa (v_ 8) (aa (av (v_ 1) ag) ah)))))))) bD)
  (aj (eU (av (av (v_ 1) ag) (v_ 2)) (cy rfl (au (bj 7 nd) (au (bj 9 nd) bE))))
  (aj (bc 6 nd (aC c_place_of hr (aa (av (av (av (v_ 0) ag) (v_ 2)) ag) (aa (v_ 3) ah))))
  (ax (aD (aC c_with_hand hr (aa (v_ 1) (aa (v_ 2) (aa (aC c_with_part hr (aa (v_ 7) (aa (v_ 6) (aa (v_ 4) ah)))) (aa (v_ 9) ah))))))))))))
theorem oJ:aB ["form","first","second"] ["form","first","second"] (ar gu):=⟨rfl,rfl,rfl,by decide +kernel,rfl,by decide +kernel,by decide +kernel⟩
theorem ow(F:dW K "value_of_two" "value_of_two" gu f fd)(B:Bl mg){t_HIGHEST:Tok}(h_HIGHEST:mg "HIGHEST"=some (.int (9) t_HIGHEST)):bo P w K mg base dv 1 f fd ["form","first","second"] (dR ⟨K,mg⟩ 3 fE):=by
 refine a_ F oJ fun cdv A outer s H E hr=> ?_
 exact(aj (bV (bt bQ bP (v_ 0) aN (aI _)) (ax (aD (oO xS (dZ (mM rfl) rfl B.min (by rfl) (aa (bU (v_ 1) (v_ 2)) (aa (c7 (eg (v:=.int (9)) rfl h_HIGHEST ⟨_,rfl⟩) fun _ _=>.int (9)) ah)))))) bD)
  (aj (bV (bt bQ bP (v_ 0) aN (aI _)) (ax (aD (oO Bw (dZ (r_ rfl) rfl B.max (by rfl) (aa (qf (v_ 1) (v_ 2)) (aa ag ah)))))) bD)
  (aj (bV (bt bQ bP (v_ 0) aN (aI _)) (ax (aD (qj (bt mm lN (v_ 1) (v_ 2) (aI _)) ag ag))) bD)
  (aj (bV (bt bQ bP (v_ 0) aN (aI _)) (ax (aD (qj (bt bQ bP (v_ 1) (v_ 2) (aI _)) ag ag))) bD)
  (ax (aD (qj (PW.pt (w_and (bt sr tO (v_ 1) ag (aI _)) (fg (bt sr tO (v_ 2) ag (aI _))))) ag ag)))))))
theorem nP:aB ["tree","things","waiting","first"] ["tree","things","waiting"] (ar kI):=⟨rfl,rfl,rfl,by decide +kernel,rfl,by decide +kernel,by decide +kernel⟩
theorem nJ(F:dW K "value_of" "value_of" kI f fd)(B:Bl mg)(c_value_of_two:bI P w K mg base 1 "value_of_two" ["form","first","second"] fE)(b:Binds K fd ["tree","things","waiting"] [])(kp:PySem.W.keepIn K (.ref f)=true)(m:mg "value_of"=some (.ref f)):∀n,bo P w K mg base dv (2+n) f fd ["tree","things","waiting"] (dR ⟨K,mg⟩ 3 (fA n))
 |0=>ui
 | n+1=>by
   have c_value_of:bI P w K mg base (2+n) "value_of" ["tree","things","waiting"] (fA n):=⟨f,fd,nJ F B c_value_of_two b kp m n,b,kp,m⟩
   have nd:=nP.nd
   refine a_ (k:=2+n) F nP fun cdv A outer s H E hr=> ?_
   have hu1:=DE hr
   exact(aj (bV (h_ (lQ (T:="int") ⟨rfl,rfl,rfl,rfl,rfl,rfl,rfl⟩ rfl B.isi (v_ 0) (fT (v:=.ty "int") rfl B.int PyProof.Rows.boot_int rfl))) (ax (aD (v_ 0))) bD)
   (aj (bV (h_ (lQ (T:="str") ⟨rfl,rfl,rfl,rfl,rfl,rfl,rfl⟩ rfl B.isi (v_ 0) (fT (v:=.ty "str") rfl B.str PyProof.Rows.boot_str rfl))) (ax (aD (BC hu1 (v_ 1) (v_ 0) (fun _ _=>rfl)))) bD)
   (aj (bV (bt bQ bP (av (v_ 0) ag) aN (aI _)) (ax (aD (qj (bt yH yL (BC hu1 (v_ 2) (av (v_ 0) ag) (fun _ _=>rfl)) ag (aI _)) ag ag))) bD)
   (aj (bc 3 nd (aC c_value_of hr (aa (av (v_ 0) ag) (aa (v_ 1) (aa (v_ 2) ah)))))
   (aj (bV (bt bQ bP (av (v_ 0) ag) aN (aI _)) (ax (aD (qj (bt bQ bP (v_ 3) ag (aI _)) ag ag))) bD)
   (ax (aD (aC c_value_of_two hr (aa (av (v_ 0) ag) (aa (v_ 3) (aa (aC c_value_of hr (aa (av (v_ 0) ag) (aa (v_ 1) (aa (v_ 2) ah)))) ah)))))))))))
theorem nN:aB ["world","scene","hand","tree","frame","room","things","waiting"] ["world","scene","hand","tree"] (ar kD):=⟨rfl,rfl,rfl,by decide +kernel,rfl,by decide +kernel,by decide +kernel⟩
theorem vj(F:dW K "reckoned" "reckoned" kD f fd)(B:Bl mg)(c_last_frame:bI P w K mg base 1 "last_frame" ["scene","hand"] bp)(c_names_of:bI P w K mg base 1 "names_of" ["roll"] cY)(c_value_of:bI P w K mg base 8 "value_of" ["tree","things","waiting"] (fA 6)){t_OWN:Tok}(h_OWN:mg "OWN"=some (.int (-1) t_OWN)):bo P w K mg base dv 9 f fd ["world","scene","hand","tree"] (dR ⟨K,mg⟩ 4 b_):=by
 have nd:=nN.nd
 refine a_ F nN fun cdv A outer s H E hr=> ?_
 have hu1:=DE hr
 exact(aj (bc 4 nd (aC c_last_frame hr (aa (v_ 1) (aa (v_ 2) ah))))
  (aj (bc 5 nd (av (v_ 4) ag))
  (aj (bV (bt bQ bP (v_ 5) (c7 (eg (v:=.int (-1)) rfl h_OWN ⟨_,rfl⟩) fun _ _=>.int (-1)) (aI _)) (aj (bc 6 nd (mU rfl rfl B.dict rfl B.zip (gQ (hJ c_names_of hr (aa (av (v_ 0) ag) ah))) (cZ (av (v_ 1) ag))))
  (aj (cx (Bv (v_ 6) (mU rfl rfl B.dict rfl B.zip (gQ (hJ c_names_of hr (aa (av (av (av (v_ 0) ag) (v_ 2)) ag) ah))) (cZ (av (av (av (v_ 1) ag) (v_ 2)) ag)))))
  (ax (aD (aC c_value_of hr (aa (v_ 3) (aa (v_ 6) (aa DU ah)))))))) bD)
  (aj (bc 6 nd (mU rfl rfl B.dict rfl B.zip (gQ (hJ c_names_of hr (aa (av (av (av (v_ 0) ag) (v_ 5)) ag) ah))) (cZ (av (av (av (v_ 1) ag) (v_ 5)) ag))))
  (aj (Et hu1 (v_ 6) aN (av (v_ 4) ag))
  (aj (CM (n:=7) (N:= ["bell","line"]) (js:= [none,none]) (aQ.gen rfl rfl rfl rfl rfl rfl) rfl (n0 rfl B.zip (gQ (hJ c_names_of hr (aa (av (av (av (v_ 0) ag) (v_ 5)) ag) ah))) (cZ (av (av (av (v_ 1) ag) (v_ 5)) ag))) (fun _ _ _ _=>(cy rfl (au (fe 0) (au (fe 1) bE)))) (fun _ _ _ _=>fj) (fun _ _ _ _=>(v_ 0)) (fun _ _ _ _=>(eV rfl B.len (cZ (v_ 1)))) (Gd 7 nd))
  (ax (aD (aC c_value_of hr (aa (v_ 3) (aa (v_ 6) (aa (v_ 7) ah))))))))))))
theorem zB:aB ["world","scene","hand","row"] ["world","scene","hand","row"] (ar pN):=⟨rfl,rfl,rfl,by decide +kernel,rfl,by decide +kernel,by decide +kernel⟩
theorem zJ(F:dW K "by_put" "by_put" pN f fd)(B:Bl mg)(c_put_thing:bI P w K mg base 3 "put_thing" ["world","scene","hand","word","value"] ed)(c_reckoned:bI P w K mg base 9 "reckoned" ["world","scene","hand","tree"] b_):bo P w K mg base dv 10 f fd ["world","scene","hand","row"] (dR ⟨K,mg⟩ 4 pw):=by
 refine a_ F zB fun cdv A outer s H E hr=> ?_
 exact(ax (aD (aC c_put_thing hr (aa (v_ 0) (aa (v_ 1) (aa (v_ 2) (aa (av (v_ 3) ag) (aa (aC c_reckoned hr (aa (v_ 0) (aa (v_ 1) (aa (v_ 2) (aa (av (v_ 3) ag) ah))))) ah))))))))
theorem gq:aB ["scene","hand","frame","values","frames"] ["scene","hand","frame"] (ar eY):=⟨rfl,rfl,rfl,by decide +kernel,rfl,by decide +kernel,by decide +kernel⟩
theorem k8(F:dW K "with_last_frame" "with_last_frame" eY f fd)(B:Bl mg)(c_with_hand:bI P w K mg base 2 "with_hand" ["scene","hand","values","frames"] dg):bo P w K mg base dv 3 f fd ["scene","hand","frame"] (dR ⟨K,mg⟩ 3 cO):=by
 have nd:=gq.nd
 refine a_ F gq fun cdv A outer s H E hr=> ?_
 exact(aj (eU (av (av (v_ 0) ag) (v_ 1)) (cy rfl (au (bj 3 nd) (au (bj 4 nd) bE))))
  (ax (aD (aC c_with_hand hr (aa (v_ 0) (aa (v_ 1) (aa (v_ 3) (aa (bU (cT (v_ 4) dJ (dP (mi ag))) (aH (aa (v_ 2) ah))) ah))))))))
theorem tN:aB ["scene","hand","row","frame"] ["scene","hand","row"] (ar qQ):=⟨rfl,rfl,rfl,by decide +kernel,rfl,by decide +kernel,by decide +kernel⟩
theorem yY(F:dW K "at_row" "at_row" qQ f fd)(B:Bl mg)(c_last_frame:bI P w K mg base 1 "last_frame" ["scene","hand"] bp)(c_with_last_frame:bI P w K mg base 3 "with_last_frame" ["scene","hand","frame"] cO):bo P w K mg base dv 4 f fd ["scene","hand","row"] (dR ⟨K,mg⟩ 3 fS):=by
 have nd:=tN.nd
 refine a_ F tN fun cdv A outer s H E hr=> ?_
 exact(aj (bc 3 nd (aC c_last_frame hr (aa (v_ 0) (aa (v_ 1) ah))))
  (ax (aD (aC c_with_last_frame hr (aa (v_ 0) (aa (v_ 1) (aa (bU (bU (cT (v_ 3) dJ (dP ag)) (aH (aa (v_ 2) ah))) (cT (v_ 3) (dP ag) dJ)) ah)))))))
theorem uR:aB ["world","scene","hand","row"] ["world","scene","hand","row"] (ar jF):=⟨rfl,rfl,rfl,by decide +kernel,rfl,by decide +kernel,by decide +kernel⟩
theorem uS(F:dW K "by_unless" "by_unless" jF f fd)(B:Bl mg)(c_reckoned:bI P w K mg base 9 "reckoned" ["world","scene","hand","tree"] b_)(c_at_row:bI P w K mg base 4 "at_row" ["scene","hand","row"] fS):bo P w K mg base dv 10 f fd ["world","scene","hand","row"] (dR ⟨K,mg⟩ 4 i7):=by
 refine a_ F uR fun cdv A outer s H E hr=> ?_
 exact(aj (bV (bt bQ bP (aC c_reckoned hr (aa (v_ 0) (aa (v_ 1) (aa (v_ 2) (aa (av (v_ 3) ag) ah))))) ag (aI _)) (ax (aD (aC c_at_row hr (aa (v_ 1) (aa (v_ 2) (aa (av (v_ 3) ag) ah)))))) bD)
  (ax (aD (v_ 1))))
end
section
variable{P:Program}{w:World}{K:PySem.W.Frag}{mg:Str->Option Value}{base:Heap}{f:Addr}{fd:FuncData}
theorem Ap:aB ["world","scene","hand","row"] ["world","scene","hand","row"] (ar u3):=⟨rfl,rfl,rfl,by decide +kernel,rfl,by decide +kernel,by decide +kernel⟩
theorem AR(F:dW K "by_go" "by_go" u3 f fd)(B:Bl mg)(c_at_row:bI P w K mg base 4 "at_row" ["scene","hand","row"] fS):bo P w K mg base dv 5 f fd ["world","scene","hand","row"] (dR ⟨K,mg⟩ 4 u5):=by
 refine a_ F Ap fun cdv A outer s H E hr=> ?_
 exact(ax (aD (aC c_at_row hr (aa (v_ 1) (aa (v_ 2) (aa (av (v_ 3) ag) ah))))))
theorem qe:aB ["scene","room","hand","values","within","row","late","bells"] ["scene","room","hand"] (ar nz):=⟨rfl,rfl,rfl,by decide +kernel,rfl,by decide +kernel,by decide +kernel⟩
theorem xa(F:dW K "come_in" "come_in" nz f fd)(B:Bl mg)(c_with_room:bI P w K mg base 2 "with_room" ["scene","at","room"] bS){t_NOBODY:Tok}(h_NOBODY:mg "NOBODY"=some (.int (-1) t_NOBODY)):bo P w K mg base dv 3 f fd ["scene","room","hand"] (dR ⟨K,mg⟩ 3 iy):=by
 have nd:=qe.nd
 refine a_ F qe fun cdv A outer s H E hr=> ?_
 exact(aj (eU (av (av (v_ 0) ag) (v_ 1)) (cy rfl (au (bj 3 nd) (au (bj 4 nd) (au (bj 5 nd) (au (bj 6 nd) (au (bj 7 nd) bE)))))))
  (aj (bV (bt bQ bP (v_ 4) (c7 (eg (v:=.int (-1)) rfl h_NOBODY ⟨_,rfl⟩) fun _ _=>.int (-1)) (aI _)) (ax (aD (aC c_with_room hr (aa (v_ 0) (aa (v_ 1) (aa (aH (aa (v_ 3) (aa (v_ 2) (aa (v_ 5) (aa (v_ 6) (aa (v_ 7) ah)))))) ah)))))) bD)
  (ax (aD (aC c_with_room hr (aa (v_ 0) (aa (v_ 1) (aa (aH (aa (v_ 3) (aa (v_ 4) (aa (bU (v_ 5) (aH (aa (v_ 2) ah))) (aa (v_ 6) (aa (v_ 7) ah)))))) ah))))))))
theorem wj:aB ["world","scene","hand","row","room","deed","frame","values","frames"] ["world","scene","hand","row"] (ar uY):=⟨rfl,rfl,rfl,by decide +kernel,rfl,by decide +kernel,by decide +kernel⟩
theorem AV(F:dW K "by_do" "by_do" uY f fd)(B:Bl mg)(c_place_of:bI P w K mg base 2 "place_of" ["roll","name"] cc)(c_reckoned:bI P w K mg base 9 "reckoned" ["world","scene","hand","tree"] b_)(c_come_in:bI P w K mg base 3 "come_in" ["scene","room","hand"] iy)(c_with_hand:bI P w K mg base 2 "with_hand" ["scene","hand","values","frames"] dg):bo P w K mg base dv 10 f fd ["world","scene","hand","row"] (dR ⟨K,mg⟩ 4 u6):=by
 have nd:=wj.nd
 refine a_ F wj fun cdv A outer s H E hr=> ?_
 exact(aj (bc 4 nd (aC c_place_of hr (aa (av (v_ 0) ag) (aa (av (v_ 3) ag) ah))))
  (aj (bc 5 nd (aC c_place_of hr (aa (av (av (av (v_ 0) ag) (v_ 4)) ag) (aa (av (v_ 3) ag) ah))))
  (aj (bc 6 nd (aH (aa (v_ 4) (aa (v_ 5) (aa ag (aa (aC c_reckoned hr (aa (v_ 0) (aa (v_ 1) (aa (v_ 2) (aa (av (v_ 3) ag) ah))))) (aa ag ah)))))))
  (aj (eU (av (av (v_ 1) ag) (v_ 2)) (cy rfl (au (bj 7 nd) (au (bj 8 nd) bE))))
  (ax (aD (aC c_come_in hr (aa (aC c_with_hand hr (aa (v_ 1) (aa (v_ 2) (aa (v_ 7) (aa (bU (v_ 8) (aH (aa (v_ 6) ah))) ah))))) (aa (v_ 4) (aa (v_ 2) ah))))))))))
theorem p9:aB ["world","scene","hand","word","room"] ["world","scene","hand","word"] (ar mN):=⟨rfl,rfl,rfl,by decide +kernel,rfl,by decide +kernel,by decide +kernel⟩
theorem xw(F:dW K "bell_of" "bell_of" mN f fd)(B:Bl mg)(c_last_frame:bI P w K mg base 1 "last_frame" ["scene","hand"] bp)(c_place_of:bI P w K mg base 2 "place_of" ["roll","name"] cc):bo P w K mg base dv 3 f fd ["world","scene","hand","word"] (dR ⟨K,mg⟩ 4 fH):=by
 have nd:=p9.nd
 refine a_ F p9 fun cdv A outer s H E hr=> ?_
 exact(aj (bc 4 nd (av (aC c_last_frame hr (aa (v_ 1) (aa (v_ 2) ah))) ag))
  (ax (aD (aH (aa (v_ 4) (aa (aC c_place_of hr (aa (av (av (av (v_ 0) ag) (v_ 4)) ag) (aa (v_ 3) ah))) ah))))))
theorem mr:aB ["scene","room","bell","line","state"] ["scene","room","bell","line"] (ar jC):=⟨rfl,rfl,rfl,by decide +kernel,rfl,by decide +kernel,by decide +kernel⟩
theorem uv(F:dW K "with_line" "with_line" jC f fd)(B:Bl mg)(c_with_room:bI P w K mg base 2 "with_room" ["scene","at","room"] bS)(c_with_part:bI P w K mg base 1 "with_part" ["parts","at","part"] bZ):bo P w K mg base dv 3 f fd ["scene","room","bell","line"] (dR ⟨K,mg⟩ 4 dE):=by
 have nd:=mr.nd
 refine a_ F mr fun cdv A outer s H E hr=> ?_
 exact(aj (bc 4 nd (av (av (v_ 0) ag) (v_ 1)))
  (ax (aD (aC c_with_room hr (aa (v_ 0) (aa (v_ 1) (aa (bU (cT (v_ 4) dJ (dP ag)) (aH (aa (aC c_with_part hr (aa (av (v_ 4) ag) (aa (v_ 2) (aa (v_ 3) ah)))) ah))) ah)))))))
theorem vy:aB ["scene","room","values","within","row","late","bells"] ["scene","room"] (ar uQ):=⟨rfl,rfl,rfl,by decide +kernel,rfl,by decide +kernel,by decide +kernel⟩
theorem Ax(F:dW K "leave" "leave" uQ f fd)(B:Bl mg)(c_with_room:bI P w K mg base 2 "with_room" ["scene","at","room"] bS){t_NOBODY:Tok}(h_NOBODY:mg "NOBODY"=some (.int (-1) t_NOBODY)):bo P w K mg base dv 3 f fd ["scene","room"] (dR ⟨K,mg⟩ 2 kL):=by
 have nd:=vy.nd
 refine a_ F vy fun cdv A outer s H E hr=> ?_
 exact(aj (eU (av (av (v_ 0) ag) (v_ 1)) (cy rfl (au (bj 2 nd) (au (bj 3 nd) (au (bj 4 nd) (au (bj 5 nd) (au (bj 6 nd) bE)))))))
  (aj (bV (h_ (v_ 5)) (ax (aD (aC c_with_room hr (aa (v_ 0) (aa (v_ 1) (aa (aH (aa (v_ 2) (aa (av (v_ 5) ag) (aa (v_ 4) (aa (cT (v_ 5) (dP ag) dJ) (aa (v_ 6) ah)))))) ah)))))) bD)
  (aj (bV (h_ (v_ 4)) (ax (aD (aC c_with_room hr (aa (v_ 0) (aa (v_ 1) (aa (aH (aa (v_ 2) (aa (av (v_ 4) ag) (aa (cT (v_ 4) (dP ag) dJ) (aa (v_ 5) (aa (v_ 6) ah)))))) ah)))))) bD)
  (ax (aD (aC c_with_room hr (aa (v_ 0) (aa (v_ 1) (aa (aH (aa (v_ 2) (aa (c7 (eg (v:=.int (-1)) rfl h_NOBODY ⟨_,rfl⟩) fun _ _=>.int (-1)) (aa (v_ 4) (aa (v_ 5) (aa (v_ 6) ah)))))) ah)))))))))
theorem qS:aB ["world","scene","hand","row","room","bell","turn","line","ahead","waiting"] ["world","scene","hand","row"] (ar nk):=⟨rfl,rfl,rfl,by decide +kernel,rfl,by decide +kernel,by decide +kernel⟩
theorem xQ(F:dW K "by_wait" "by_wait" nk f fd)(B:Bl mg)(c_bell_of:bI P w K mg base 3 "bell_of" ["world","scene","hand","word"] fH)(c_reckoned:bI P w K mg base 9 "reckoned" ["world","scene","hand","tree"] b_)(c_with_line:bI P w K mg base 3 "with_line" ["scene","room","bell","line"] dE)(c_leave:bI P w K mg base 3 "leave" ["scene","room"] kL):bo P w K mg base dv 10 f fd ["world","scene","hand","row"] (dR ⟨K,mg⟩ 4 lW):=by
 have nd:=qS.nd
 refine a_ F qS fun cdv A outer s H E hr=> ?_
 exact(aj (eU (aC c_bell_of hr (aa (v_ 0) (aa (v_ 1) (aa (v_ 2) (aa (av (v_ 3) ag) ah))))) (cy rfl (au (bj 4 nd) (au (bj 5 nd) bE))))
  (aj (bc 6 nd ag)
  (aj (bV (bt bQ bP (av (av (av (av (av (v_ 0) ag) (v_ 4)) ag) (v_ 5)) ag) aN (aI _)) (ax (bc 6 nd (aC c_reckoned hr (aa (v_ 0) (aa (v_ 1) (aa (v_ 2) (aa (av (v_ 3) ag) ah))))))) bD)
  (aj (bc 7 nd (av (av (av (av (v_ 1) ag) (v_ 4)) ag) (v_ 5)))
  (aj (bc 8 nd (eV rfl B.len (gQ (dt (N:= ["other","waiter","turn"]) (js:= [none,none,some 6]) (aQ.gen rfl rfl rfl rfl rfl rfl) rfl (dH (cZ (v_ 7))) (fun _ _ _ _=>(cy rfl (au (fe 0) (au (fe 1) bE)))) (fun _ _ _ _=>(A6 (bt FW F1 (v_ 0) (v_ 2) (aI _)))) (fun _ _ _ _=>(v_ 0))))))
  (aj (bc 9 nd (aC c_with_line hr (aa (v_ 1) (aa (v_ 4) (aa (v_ 5) (aa (bU (bU (cT (v_ 7) dJ (dP (v_ 8))) (aH (aa (aH (aa (v_ 6) (aa (v_ 2) ah))) ah))) (cT (v_ 7) (dP (v_ 8)) dJ)) ah))))))
  (ax (aD (aC c_leave hr (aa (v_ 9) (aa (v_ 4) ah)))))))))))
theorem pz:aB ["world","scene","hand","row","room","bell","line","called","values","within","queue","late","bells"] ["world","scene","hand","row"] (ar mX):=⟨rfl,rfl,rfl,by decide +kernel,rfl,by decide +kernel,by decide +kernel⟩
theorem xv(F:dW K "by_call" "by_call" mX f fd)(B:Bl mg)(c_bell_of:bI P w K mg base 3 "bell_of" ["world","scene","hand","word"] fH)(c_with_line:bI P w K mg base 3 "with_line" ["scene","room","bell","line"] dE)(c_with_room:bI P w K mg base 2 "with_room" ["scene","at","room"] bS):bo P w K mg base dv 4 f fd ["world","scene","hand","row"] (dR ⟨K,mg⟩ 4 lE):=by
 have nd:=pz.nd
 refine a_ F pz fun cdv A outer s H E hr=> ?_
 exact(aj (eU (aC c_bell_of hr (aa (v_ 0) (aa (v_ 1) (aa (v_ 2) (aa (av (v_ 3) ag) ah))))) (cy rfl (au (bj 4 nd) (au (bj 5 nd) bE))))
  (aj (bc 6 nd (av (av (av (av (v_ 1) ag) (v_ 4)) ag) (v_ 5)))
  (aj (bV (sm (h_ (v_ 6))) (ax (aD (v_ 1))) bD)
  (aj (bc 7 nd (aC c_with_line hr (aa (v_ 1) (aa (v_ 4) (aa (v_ 5) (aa (cT (v_ 6) (dP ag) dJ) ah))))))
  (aj (bV (bt bQ bP (av (av (av (v_ 0) ag) (v_ 4)) ag) aN (aI _)) (ax (aD (v_ 7))) bD)
  (aj (eU (av (av (v_ 7) ag) (v_ 4)) (cy rfl (au (bj 8 nd) (au (bj 9 nd) (au (bj 10 nd) (au (bj 11 nd) (au (bj 12 nd) bE)))))))
  (ax (aD (aC c_with_room hr (aa (v_ 7) (aa (v_ 4) (aa (aH (aa (v_ 8) (aa (av (av (v_ 6) ag) ag) (aa (v_ 10) (aa (bU (v_ 11) (aH (aa (v_ 2) ah))) (aa (v_ 12) ah)))))) ah))))))))))))
theorem tR:aB ["world","scene","hand","row","room","bell"] ["world","scene","hand","row"] (ar qL):=⟨rfl,rfl,rfl,by decide +kernel,rfl,by decide +kernel,by decide +kernel⟩
theorem zj(F:dW K "by_all" "by_all" qL f fd)(B:Bl mg)(c_bell_of:bI P w K mg base 3 "bell_of" ["world","scene","hand","word"] fH)(c_with_line:bI P w K mg base 3 "with_line" ["scene","room","bell","line"] dE):bo P w K mg base dv 4 f fd ["world","scene","hand","row"] (dR ⟨K,mg⟩ 4 oV):=by
 have nd:=tR.nd
 refine a_ F tR fun cdv A outer s H E hr=> ?_
 exact(aj (eU (aC c_bell_of hr (aa (v_ 0) (aa (v_ 1) (aa (v_ 2) (aa (av (v_ 3) ag) ah))))) (cy rfl (au (bj 4 nd) (au (bj 5 nd) bE))))
  (ax (aD (aC c_with_line hr (aa (v_ 1) (aa (v_ 4) (aa (v_ 5) (aa (aH ah) ah))))))))
theorem pV:aB ["world","scene","hand","row","told"] ["world","scene","hand","row"] (ar mV):=⟨rfl,rfl,rfl,by decide +kernel,rfl,by decide +kernel,by decide +kernel⟩
theorem xU(F:dW K "by_tell" "by_tell" mV f fd)(B:Bl mg)(c_reckoned:bI P w K mg base 9 "reckoned" ["world","scene","hand","tree"] b_)(c_with_last_frame:bI P w K mg base 3 "with_last_frame" ["scene","hand","frame"] cO)(c_last_frame:bI P w K mg base 1 "last_frame" ["scene","hand"] bp):bo P w K mg base dv 10 f fd ["world","scene","hand","row"] (dR ⟨K,mg⟩ 4 lC):=by
 have nd:=pV.nd
 refine a_ F pV fun cdv A outer s H E hr=> ?_
 exact(aj (bc 4 nd (aC c_reckoned hr (aa (v_ 0) (aa (v_ 1) (aa (v_ 2) (aa (av (v_ 3) ag) ah))))))
  (ax (aD (aC c_with_last_frame hr (aa (v_ 1) (aa (v_ 2) (aa (bU (cT (aC c_last_frame hr (aa (v_ 1) (aa (v_ 2) ah))) dJ (dP ag)) (aH (aa (v_ 4) ah))) ah)))))))
theorem uG:aB ["scene","at","turnstile"] ["scene","at","turnstile"] (ar jQ):=⟨rfl,rfl,rfl,by decide +kernel,rfl,by decide +kernel,by decide +kernel⟩
theorem t8(F:dW K "with_pass" "with_pass" jQ f fd)(B:Bl mg)(c_with_part:bI P w K mg base 1 "with_part" ["parts","at","part"] bZ):bo P w K mg base dv 2 f fd ["scene","at","turnstile"] (dR ⟨K,mg⟩ 3 dY):=by
 refine a_ F uG fun cdv A outer s H E hr=> ?_
 exact(ax (aD (bU (aH (aa (av (v_ 0) ag) (aa (aC c_with_part hr (aa (av (v_ 0) ag) (aa (v_ 1) (aa (v_ 2) ah)))) ah))) (cT (v_ 0) (dP ag) dJ))))
theorem v8:aB ["world","scene","hand","name","place","value","row"] ["world","scene","hand","name"] (ar tW):=⟨rfl,rfl,rfl,by decide +kernel,rfl,by decide +kernel,by decide +kernel⟩
theorem AN(F:dW K "taken" "taken" tW f fd)(B:Bl mg)(c_place_of:bI P w K mg base 2 "place_of" ["roll","name"] cc)(c_with_pass:bI P w K mg base 2 "with_pass" ["scene","at","turnstile"] dY):bo P w K mg base dv 3 f fd ["world","scene","hand","name"] (dR ⟨K,mg⟩ 4 nq):=by
 have nd:=v8.nd
 refine a_ F v8 fun cdv A outer s H E hr=> ?_
 exact(aj (bc 4 nd (aC c_place_of hr (aa (av (v_ 0) ag) (aa (v_ 3) ah))))
  (aj (eU (av (av (v_ 1) ag) (v_ 4)) (cy rfl (au (bj 5 nd) (au (bj 6 nd) bE))))
  (aj (bV (bt yH yL (v_ 5) ag (aI _)) (ax (aD (aC c_with_pass hr (aa (v_ 1) (aa (v_ 4) (aa (aH (aa (qf (v_ 5) ag) (aa (v_ 6) ah))) ah)))))) bD)
  (ax (aD (aC c_with_pass hr (aa (v_ 1) (aa (v_ 4) (aa (aH (aa (v_ 5) (aa (bU (v_ 6) (aH (aa (v_ 2) ah))) ah))) ah)))))))))
theorem xT:aB ["world","scene","hand","row"] ["world","scene","hand","row"] (ar mZ):=⟨rfl,rfl,rfl,by decide +kernel,rfl,by decide +kernel,by decide +kernel⟩
theorem xf(F:dW K "by_take" "by_take" mZ f fd)(B:Bl mg)(c_taken:bI P w K mg base 3 "taken" ["world","scene","hand","name"] nq):bo P w K mg base dv 4 f fd ["world","scene","hand","row"] (dR ⟨K,mg⟩ 4 mz):=by
 refine a_ F xT fun cdv A outer s H E hr=> ?_
 exact(ax (aD (aC c_taken hr (aa (v_ 0) (aa (v_ 1) (aa (v_ 2) (aa (av (v_ 3) ag) ah)))))))
theorem ku:aB ["world","scene","name","place","value","row"] ["world","scene","name"] (ar iS):=⟨rfl,rfl,rfl,by decide +kernel,rfl,by decide +kernel,by decide +kernel⟩
theorem rM(F:dW K "given_back" "given_back" iS f fd)(B:Bl mg)(c_place_of:bI P w K mg base 2 "place_of" ["roll","name"] cc)(c_with_pass:bI P w K mg base 2 "with_pass" ["scene","at","turnstile"] dY){t_HIGHEST:Tok}(h_HIGHEST:mg "HIGHEST"=some (.int (9) t_HIGHEST)):bo P w K mg base dv 3 f fd ["world","scene","name"] (dR ⟨K,mg⟩ 3 eS):=by
 have nd:=ku.nd
 refine a_ F ku fun cdv A outer s H E hr=> ?_
 exact(aj (bc 3 nd (aC c_place_of hr (aa (av (v_ 0) ag) (aa (v_ 2) ah))))
  (aj (eU (av (av (v_ 1) ag) (v_ 3)) (cy rfl (au (bj 4 nd) (au (bj 5 nd) bE))))
  (aj (bV (h_ (v_ 5)) (ax (aD (aC c_with_pass hr (aa (v_ 1) (aa (v_ 3) (aa (aH (aa (v_ 4) (aa (cT (v_ 5) (dP ag) dJ) ah))) ah)))))) bD)
  (ax (aD (aC c_with_pass hr (aa (v_ 1) (aa (v_ 3) (aa (aH (aa (oO xS (dZ (mM rfl) rfl B.min (by rfl) (aa (bU (v_ 4) ag) (aa (c7 (eg (v:=.int (9)) rfl h_HIGHEST ⟨_,rfl⟩) fun _ _=>.int (9)) ah)))) (aa (v_ 5) ah))) ah)))))))))
end
section
variable{P:Program}{w:World}{K:PySem.W.Frag}{mg:Str->Option Value}{base:Heap}{f:Addr}{fd:FuncData}
theorem xX:aB ["world","scene","hand","row"] ["world","scene","hand","row"] (ar mR):=⟨rfl,rfl,rfl,by decide +kernel,rfl,by decide +kernel,by decide +kernel⟩
theorem xW(F:dW K "by_give" "by_give" mR f fd)(B:Bl mg)(c_given_back:bI P w K mg base 3 "given_back" ["world","scene","name"] eS):bo P w K mg base dv 4 f fd ["world","scene","hand","row"] (dR ⟨K,mg⟩ 4 lF):=by
 refine a_ F xX fun cdv A outer s H E hr=> ?_
 exact(ax (aD (aC c_given_back hr (aa (v_ 0) (aa (v_ 1) (aa (av (v_ 3) ag) ah))))))
theorem xE:aB ["world","scene","hand","row"] ["world","scene","hand","row"] (ar mT):=⟨rfl,rfl,rfl,by decide +kernel,rfl,by decide +kernel,by decide +kernel⟩
theorem xn(F:dW K "by_pass" "by_pass" mT f fd)(B:Bl mg)(c_taken:bI P w K mg base 3 "taken" ["world","scene","hand","name"] nq)(c_given_back:bI P w K mg base 3 "given_back" ["world","scene","name"] eS):bo P w K mg base dv 4 f fd ["world","scene","hand","row"] (dR ⟨K,mg⟩ 4 mh):=by
 refine a_ F xE fun cdv A outer s H E hr=> ?_
 exact(ax (aD (aC c_taken hr (aa (v_ 0) (aa (aC c_given_back hr (aa (v_ 0) (aa (v_ 1) (aa (av (v_ 3) ag) ah)))) (aa (v_ 2) (aa (av (v_ 3) ag) ah)))))))
theorem zF:aB ["world","scene","hand","row"] ["world","scene","hand","row"] (ar qF):=⟨rfl,rfl,rfl,by decide +kernel,rfl,by decide +kernel,by decide +kernel⟩
theorem zN(F:dW K "by_say" "by_say" qF f fd)(B:Bl mg):bo P w K mg base dv 1 f fd ["world","scene","hand","row"] (dR ⟨K,mg⟩ 4 oT):=by
 refine a_ F zF fun cdv A outer s H E hr=> ?_
 exact(ax (aD (v_ 1)))
theorem ou:aB ["world","scene","hand","row","deed"] ["world","scene","hand","row"] (ar kQ):=⟨rfl,rfl,rfl,by decide +kernel,rfl,by decide +kernel,by decide +kernel⟩
theorem vO(F:dW K "row_done" "row_done" kQ f fd)(B:Bl mg)(T_doneBy:∀x F,qJ.lookup x=some F->bI P w K mg base 10 x ["world","scene","hand","row"] F)(D_DONE_BY:yF P w K mg "DONE_BY" jX):bo P w K mg base dv 11 f fd ["world","scene","hand","row"] (dR ⟨K,mg⟩ 4 ib):=by
 have nd:=ou.nd
 refine a_ F ou fun cdv A outer s H E hr=> ?_
 exact(aj (bc 4 nd (C4 D_DONE_BY rfl (av (v_ 3) ag) (fun _ _=>rfl)))
  (ax (aD (CH T_doneBy (hr.mono (by decide)) rfl (by first|exact Or.inl rfl|exact Or.inr (Or.inl rfl)) (aa (v_ 0) (aa (v_ 1) (aa (v_ 2) (aa (v_ 3) ah)))) (bL (bL (bL (bL gJ))))))))
theorem oh:aB ["world","scene","hand","values","frames","room","deed","row","given","told","outside","came_by"] ["world","scene","hand"] (ar kT):=⟨rfl,rfl,rfl,by decide +kernel,rfl,by decide +kernel,by decide +kernel⟩
theorem vJ(F:dW K "end_deed" "end_deed" kT f fd)(B:Bl mg)(c_with_hand:bI P w K mg base 2 "with_hand" ["scene","hand","values","frames"] dg)(c_leave:bI P w K mg base 3 "leave" ["scene","room"] kL)(c_program_of:bI P w K mg base 1 "program_of" ["world","hand","frame"] cI)(c_put_thing:bI P w K mg base 3 "put_thing" ["world","scene","hand","word","value"] ed):bo P w K mg base dv 4 f fd ["world","scene","hand"] (dR ⟨K,mg⟩ 3 ix):=by
 have nd:=oh.nd
 refine a_ F oh fun cdv A outer s H E hr=> ?_
 exact(aj (eU (av (av (v_ 1) ag) (v_ 2)) (cy rfl (au (bj 3 nd) (au (bj 4 nd) bE))))
  (aj (eU (av (v_ 4) (mi ag)) (cy rfl (au (bj 5 nd) (au (bj 6 nd) (au (bj 7 nd) (au (bj 8 nd) (au (bj 9 nd) bE)))))))
  (aj (bc 10 nd (aC c_with_hand hr (aa (aC c_leave hr (aa (v_ 1) (aa (v_ 5) ah))) (aa (v_ 2) (aa (v_ 3) (aa (cT (v_ 4) dJ (dP (mi ag))) ah))))))
  (aj (bc 11 nd (av (aC c_program_of hr (aa (v_ 0) (aa (v_ 2) (aa (av (v_ 4) (mi ag)) ah)))) (qf (av (av (v_ 4) (mi ag)) ag) ag)))
  (aj (bV (bt AL AD (av (v_ 11) ag) om (aI _)) (ax (aD (v_ 10))) bD)
  (ax (aD (aC c_put_thing hr (aa (v_ 0) (aa (v_ 10) (aa (v_ 2) (aa (av (v_ 11) ag) (aa (v_ 9) ah)))))))))))))
theorem pD:aB ["world","scene","hand","frame","room","program","row","event"] ["world","scene","hand"] (ar mO):=⟨rfl,rfl,rfl,by decide +kernel,rfl,by decide +kernel,by decide +kernel⟩
theorem xB(F:dW K "step_of" "step_of" mO f fd)(B:Bl mg)(c_last_frame:bI P w K mg base 1 "last_frame" ["scene","hand"] bp)(c_come_in:bI P w K mg base 3 "come_in" ["scene","room","hand"] iy)(c_program_of:bI P w K mg base 1 "program_of" ["world","hand","frame"] cI)(c_end_deed:bI P w K mg base 4 "end_deed" ["world","scene","hand"] ix)(c_reckoned:bI P w K mg base 9 "reckoned" ["world","scene","hand","tree"] b_)(c_row_done:bI P w K mg base 11 "row_done" ["world","scene","hand","row"] ib)(c_at_row:bI P w K mg base 4 "at_row" ["scene","hand","row"] fS){t_OWN:Tok}(h_OWN:mg "OWN"=some (.int (-1) t_OWN)):bo P w K mg base dv 12 f fd ["world","scene","hand"] (dR ⟨K,mg⟩ 3 lT):=by
 have nd:=pD.nd
 refine a_ F pD fun cdv A outer s H E hr=> ?_
 exact(aj (bc 3 nd (aC c_last_frame hr (aa (v_ 1) (aa (v_ 2) ah))))
  (aj (bc 4 nd (av (v_ 3) ag))
  (aj (bV (PW.pt (w_and (bt sr tO (v_ 4) (c7 (eg (v:=.int (-1)) rfl h_OWN ⟨_,rfl⟩) fun _ _=>.int (-1)) (aI _)) (fg (bt sr tO (av (av (av (v_ 1) ag) (v_ 4)) ag) (v_ 2) (aI _))))) (ax (aD (aH (aa (aC c_come_in hr (aa (v_ 1) (aa (v_ 4) (aa (v_ 2) ah)))) (aa om ah))))) bD)
  (aj (bc 5 nd (aC c_program_of hr (aa (v_ 0) (aa (v_ 2) (aa (v_ 3) ah)))))
  (aj (bV (bt bQ bP (av (v_ 3) ag) (eV rfl B.len (cZ (v_ 5))) (aI _)) (ax (aD (aH (aa (aC c_end_deed hr (aa (v_ 0) (aa (v_ 1) (aa (v_ 2) ah)))) (aa om ah))))) bD)
  (aj (bc 6 nd (av (v_ 5) (av (v_ 3) ag)))
  (aj (bc 7 nd om)
  (aj (bV (bt bQ bP (av (v_ 6) ag) aN (aI _)) (ax (bc 7 nd (aH (aa (v_ 2) (aa (aC c_reckoned hr (aa (v_ 0) (aa (v_ 1) (aa (v_ 2) (aa (av (v_ 6) ag) ah))))) ah))))) bD)
  (ax (aD (aH (aa (aC c_row_done hr (aa (v_ 0) (aa (aC c_at_row hr (aa (v_ 1) (aa (v_ 2) (aa (bU (av (v_ 3) ag) ag) ah)))) (aa (v_ 2) (aa (v_ 6) ah))))) (aa (v_ 7) ah)))))))))))))
theorem w6:aB ["world","scene","hand"] ["world","scene","hand"] (ar m8):=⟨rfl,rfl,rfl,by decide +kernel,rfl,by decide +kernel,by decide +kernel⟩
theorem xN(F:dW K "stepped" "stepped" m8 f fd)(B:Bl mg)(c_may_step:bI P w K mg base 3 "may_step" ["world","scene"] gf)(c_step_of:bI P w K mg base 12 "step_of" ["world","scene","hand"] lT):bo P w K mg base dv 13 f fd ["world","scene","hand"] (dR ⟨K,mg⟩ 3 lX):=by
 refine a_ F w6 fun cdv A outer s H E hr=> ?_
 exact(aj (bV (yG (v_ 2) (gQ (hJ c_may_step hr (aa (v_ 0) (aa (v_ 1) ah))))) (ax Da) bD)
  (ax (aD (aC c_step_of hr (aa (v_ 0) (aa (v_ 1) (aa (v_ 2) ah)))))))
theorem A3:aB ["_law_script","_law_k","_law_pot_here","_law_world_here","_law_scene","_law_last","_law_turn","_law_some"] ["_law_script"] (ar mB):=⟨rfl,rfl,rfl,by decide +kernel,rfl,by decide +kernel,by decide +kernel⟩
theorem Eo(F:dW K "law" "law" mB f fd)(B:Bl mg)(c__law_pot:bI P w K mg base 1 "_law_pot" ["_law_script","_law_k"] jZ)(c__law_any_world:bI P w K mg base 12 "_law_any_world" ["_law_pot_here"] dG)(c_begun:bI P w K mg base 3 "begun" ["world"] uz)(c__law_right:bI P w K mg base 12 "_law_right" ["_law_pot_here","_law_world_here","_law_scene"] gW)(c_may_step:bI P w K mg base 3 "may_step" ["world","scene"] gf)(c__law_next:bI P w K mg base 3 "_law_next" ["_law_pot_here","_law_some","_law_last"] iX)(c_stepped:bI P w K mg base 13 "stepped" ["world","scene","hand"] lX):bo P w K mg base dv 14 f fd ["_law_script"] (dR ⟨K,mg⟩ 1 CZ):=by
 have nd:=A3.nd
 refine a_ F A3 fun cdv A outer s H E hr=> ?_
 have hu:=hr.units0
 exact(aj (fw PassesOwn.never rfl (kX rfl B.range (oO Bw (dZ (r_ rfl) rfl B.max (by rfl) (aa ag (aa (oO xS (dZ (mM rfl) rfl B.min (by rfl) (aa (eV rfl B.len (cZ (v_ 0))) (aa ag ah)))) ah))))) (bj 1 nd) (aj (bc 2 nd (bN (hJ c__law_pot hr (aa (v_ 0) (aa (v_ 1) ah)))))
  (aj (bc 3 nd (aC c__law_any_world hr (aa (v_ 2) ah)))
  (aj (bc 4 nd (aC c_begun hr (aa (v_ 3) ah)))
  (aj (bc 5 nd (mi ag))
  (ax (fw PassesOwn.never rfl (kX rfl B.range ag) (bj 6 nd) (aj (bV (sm (h_ (aC c__law_right hr (aa (v_ 2) (aa (v_ 3) (aa (v_ 4) ah)))))) (ax (aD Av)) bD)
  (aj (bc 7 nd (bN (hJ c_may_step hr (aa (v_ 3) (aa (v_ 4) ah)))))
  (ax (bV (er hu (cZ (v_ 7))) (aj (bc 5 nd (aC c__law_next hr (aa (v_ 2) (aa (v_ 7) (aa (v_ 5) ah)))))
  (ax (bc 4 nd (av (aC c_stepped hr (aa (v_ 3) (aa (v_ 4) (aa (v_ 5) ah)))) ag)))) bD)))))))))))
  (ax (aD Av)))
end
theorem all_mk{l:PySem.W.OpenLaw}{w:World}{K:PySem.W.Frag}{h:Heap}{mg:Str->Option Value}{fa f1 f2 f3 f4 f5 f6 f7 f8 f9 f10 f11 f12 f13 f14 f15 f16 f17 f18 f19 f20 f21 f22 f23 f24 f25 f26 f27 f28 f29 f30 f31 f32 f33 f34 f35 f36 f37 f38 f39 f40 f41 f42 f43 f44 f45 f46 f47 f48 f49 f50 f51 f52 f53 f54 f55 f56 f57 f58 f59 f60 f61 f62 f63 f64 f65:Addr}(X:K.In h)(G:h.Ns mainGlobals mg)(hfa:mg "law"=some (.ref fa))
  (d1:aW K "_law_pot" kH f1)
  (d2:aW K "_law_take" jq f2)
  (d3:aW K "_law_words" iY f3)
  (d4:aW K "_law_pick" jr f4)
  (d5:aW K "_law_sum" kR f5)
  (d6:aW K "_law_waits" iP f6)
  (d7:aW K "_law_do" mS f7)
  (d8:aW K "_law_deed" jT f8)
  (d9:aW K "_law_room" jA f9)
  (d10:aW K "_law_rooms" iC f10)
  (d11:aW K "_law_own" kC f11)
  (d12:aW K "_law_world" iQ f12)
  (d13:aW K "_law_any_world" fB f13)
  (d14:aW K "values_of" jH f14)
  (d15:aW K "begun_room" i9 f15)
  (d16:aW K "begun" ug f16)
  (d17:aW K "hands_at" kB f17)
  (d18:aW K "hands_in_rows" fK f18)
  (d19:aW K "last_frame" iG f19)
  (d20:aW K "program_of" iT f20)
  (d21:aW K "is_behind_all" fN f21)
  (d22:aW K "may_step" kS f22)
  (d23:aW K "_law_bound" iJ f23)
  (d24:aW K "_law_free" jM f24)
  (d25:aW K "_law_stands" hU f25)
  (d26:aW K "_law_same" jt f26)
  (d27:aW K "place_in_a_row" fD f27)
  (d28:aW K "stands" p0 f28)
  (d29:aW K "_law_right" iW f29)
  (d30:aW K "_law_next" jz f30)
  (d31:aW K "names_of" kE f31)
  (d32:aW K "place_of" kW f32)
  (d33:aW K "with_part" jI f33)
  (d34:aW K "with_hand" jn f34)
  (d35:aW K "with_room" jR f35)
  (d36:aW K "put_thing" jK f36)
  (d37:aW K "value_of_two" gu f37)
  (d38:aW K "value_of" kI f38)
  (d39:aW K "reckoned" kD f39)
  (d40:aW K "by_put" pN f40)
  (d41:aW K "with_last_frame" eY f41)
  (d42:aW K "at_row" qQ f42)
  (d43:aW K "by_unless" jF f43)
  (d44:aW K "by_go" u3 f44)
  (d45:aW K "come_in" nz f45)
  (d46:aW K "by_do" uY f46)
  (d47:aW K "bell_of" mN f47)
  (d48:aW K "with_line" jC f48)
  (d49:aW K "leave" uQ f49)
  (d50:aW K "by_wait" nk f50)
  (d51:aW K "by_call" mX f51)
  (d52:aW K "by_all" qL f52)
  (d53:aW K "by_tell" mV f53)
  (d54:aW K "with_pass" jQ f54)
  (d55:aW K "taken" tW f55)
  (d56:aW K "by_take" mZ f56)
  (d57:aW K "given_back" iS f57)
  (d58:aW K "by_give" mR f58)
  (d59:aW K "by_pass" mT f59)
  (d60:aW K "by_say" qF f60)
  (d61:aW K "row_done" kQ f61)
  (d62:aW K "end_deed" kT f62)
  (d63:aW K "step_of" mO f63)
  (d64:aW K "stepped" m8 f64)
  {oc kV dc pm cd ct:Value} {od an:Option Addr} {sl:Array (Option Value)} (a65:PySem.W.nsIn K mainGlobals "law"=some (some (.ref f65))) (l65:K.lookup f65=some ⟨oc,od,.func (PySem.W.fnOf "law" "law" (fW mB) (fh mB) (ar mB) .none kV dc pm an cd ct),sl⟩) (c65:PySem.W.codeIn K cd "law"=true) (k65:PySem.W.keepIn K (.ref f65)=true)
  {t_NOBODY:Tok} (g_NOBODY:PySem.W.nsIn K mainGlobals "NOBODY"=some (some (.int (-1) t_NOBODY)))
  {t_OWN:Tok} (g_OWN:PySem.W.nsIn K mainGlobals "OWN"=some (some (.int (-1) t_OWN)))
  {t_HIGHEST:Tok} (g_HIGHEST:PySem.W.nsIn K mainGlobals "HIGHEST"=some (some (.int (9) t_HIGHEST)))
  {a_DONE_BY ep_DONE_BY:Nat} {tk_DONE_BY_0 tk_DONE_BY_1 tk_DONE_BY_2 tk_DONE_BY_3 tk_DONE_BY_4 tk_DONE_BY_5 tk_DONE_BY_6 tk_DONE_BY_7 tk_DONE_BY_8 tk_DONE_BY_9 tk_DONE_BY_10 tk_DONE_BY_11:Tok} (g_DONE_BY:PySem.W.nsIn K mainGlobals "DONE_BY"=some (some (.ref a_DONE_BY))) (lk_DONE_BY:K.lookup a_DONE_BY=some ⟨.type "dict",none,.dict (List.toArray [⟨PyData.keyHash w.params "put",.str "put" tk_DONE_BY_0,.ref f40⟩,⟨PyData.keyHash w.params "unless",.str "unless" tk_DONE_BY_1,.ref f43⟩,⟨PyData.keyHash w.params "go",.str "go" tk_DONE_BY_2,.ref f44⟩,⟨PyData.keyHash w.params "do",.str "do" tk_DONE_BY_3,.ref f46⟩,⟨PyData.keyHash w.params "wait",.str "wait" tk_DONE_BY_4,.ref f50⟩,⟨PyData.keyHash w.params "call",.str "call" tk_DONE_BY_5,.ref f51⟩,⟨PyData.keyHash w.params "all",.str "all" tk_DONE_BY_6,.ref f52⟩,⟨PyData.keyHash w.params "tell",.str "tell" tk_DONE_BY_7,.ref f53⟩,⟨PyData.keyHash w.params "take",.str "take" tk_DONE_BY_8,.ref f56⟩,⟨PyData.keyHash w.params "give",.str "give" tk_DONE_BY_9,.ref f58⟩,⟨PyData.keyHash w.params "pass",.str "pass" tk_DONE_BY_10,.ref f59⟩,⟨PyData.keyHash w.params "say",.str "say" tk_DONE_BY_11,.ref f60⟩]) ep_DONE_BY,#[]⟩)
  (z_len:PySem.W.nsIn K mainGlobals "len"=some none) (z_tuple:PySem.W.nsIn K mainGlobals "tuple"=some none) (z_list:PySem.W.nsIn K mainGlobals "list"=some none) (z_dict:PySem.W.nsIn K mainGlobals "dict"=some none) (z_set:PySem.W.nsIn K mainGlobals "set"=some none) (z_int:PySem.W.nsIn K mainGlobals "int"=some none) (z_str:PySem.W.nsIn K mainGlobals "str"=some none) (z_bool:PySem.W.nsIn K mainGlobals "bool"=some none) (z_all:PySem.W.nsIn K mainGlobals "all"=some none) (z_any:PySem.W.nsIn K mainGlobals "any"=some none) (z_range:PySem.W.nsIn K mainGlobals "range"=some none) (z_zip:PySem.W.nsIn K mainGlobals "zip"=some none) (z_sorted:PySem.W.nsIn K mainGlobals "sorted"=some none) (z_isinstance:PySem.W.nsIn K mainGlobals "isinstance"=some none) (z_min:PySem.W.nsIn K mainGlobals "min"=some none) (z_max:PySem.W.nsIn K mainGlobals "max"=some none) (z_abs:PySem.W.nsIn K mainGlobals "abs"=some none) (z_enumerate:PySem.W.nsIn K mainGlobals "enumerate"=some none)
  (T:∀ns:List Int,ns.length<=63->∃S',CZ [.ref 0] [.frz (ns.map D.int)]=some (.d (.bl true),S')):
  ∃fd:FuncData,(∀(s:Shared) (v:Value),BindsTo s fd ⟨[v],[]⟩ [("_law_script",v)])/\∀base:Heap,K.In base->base.Ns mainGlobals mg->bo l.prog w K mg base dv 14 fa fd ["_law_script"] vI:=by
 have e:=hfa.symm.trans (PySem.W.mg_of X G a65)
 cases e
 have F65:=xg (st:=mB) l65 c65 k65
 have O1:=d1.ok1 (ps:= ["_law_script","_law_k"]) X G fun _ _ _ _ _ _ us hl=>by obtain⟨_,_,rfl⟩:=DG hl;rfl
 have O2:=d2.ok1 (ps:= ["_law_pot_here","_law_many"]) X G fun _ _ _ _ _ _ us hl=>by obtain⟨_,_,rfl⟩:=DG hl;rfl
 have O3:=d3.ok1 (ps:= ["_law_pot_here","_law_stem","_law_many"]) X G fun _ _ _ _ _ _ us hl=>by obtain⟨_,_,_,rfl⟩:=rg hl;rfl
 have O4:=d4.ok1 (ps:= ["_law_pot_here","_law_some"]) X G fun _ _ _ _ _ _ us hl=>by obtain⟨_,_,rfl⟩:=DG hl;rfl
 have O5:=d5.ok1 (ps:= ["_law_pot_here","_law_words_here","_law_bells","_law_deep"]) X G fun _ _ _ _ _ _ us hl=>by obtain⟨_,_,_,_,rfl⟩:=pd hl;rfl
 have O6:=d6.ok1 (ps:= ["_law_pot_here","_law_words_here","_law_bells","_law_at"]) X G fun _ _ _ _ _ _ us hl=>by obtain⟨_,_,_,_,rfl⟩:=pd hl;rfl
 have O7:=d7.ok1 (ps:= ["_law_pot_here","_law_goals","_law_things","_law_words_here"]) X G fun _ _ _ _ _ _ us hl=>by obtain⟨_,_,_,_,rfl⟩:=pd hl;rfl
 have O8:=d8.ok1 (ps:= ["_law_pot_here","_law_room_here","_law_goals","_law_most"]) X G fun _ _ _ _ _ _ us hl=>by obtain⟨_,_,_,_,rfl⟩:=pd hl;rfl
 have O9:=d9.ok1 (ps:= ["_law_pot_here","_law_name","_law_goals","_law_manners","_law_bells_most"]) X G fun _ _ _ _ _ _ us hl=>by obtain⟨_,_,_,_,_,rfl⟩:=Hr hl;rfl
 have O10:=d10.ok1 (ps:= ["_law_pot_here","_law_many","_law_manners","_law_bells_most"]) X G fun _ _ _ _ _ _ us hl=>by obtain⟨_,_,_,_,rfl⟩:=pd hl;rfl
 have O11:=d11.ok1 (ps:= ["_law_pot_here","_law_goals","_law_words_here","_law_passes","_law_most"]) X G fun _ _ _ _ _ _ us hl=>by obtain⟨_,_,_,_,_,rfl⟩:=Hr hl;rfl
 have O12:=d12.ok1 (ps:= ["_law_pot_here","_law_rooms_here","_law_hands","_law_passes_most"]) X G fun _ _ _ _ _ _ us hl=>by obtain⟨_,_,_,_,rfl⟩:=pd hl;rfl
 have O13:=d13.ok1 (ps:= ["_law_pot_here"]) X G fun _ _ _ _ _ _ us hl=>by obtain⟨_,rfl⟩:=Fp hl;rfl
 have O14:=d14.ok1 (ps:= ["things"]) X G fun _ _ _ _ _ _ us hl=>by obtain⟨_,rfl⟩:=Fp hl;rfl
 have O15:=d15.ok1 (ps:= ["room"]) X G fun _ _ _ _ _ _ us hl=>by obtain⟨_,rfl⟩:=Fp hl;rfl
 have O16:=d16.ok1 (ps:= ["world"]) X G fun _ _ _ _ _ _ us hl=>by obtain⟨_,rfl⟩:=Fp hl;rfl
 have O17:=d17.ok1 (ps:= ["line"]) X G fun _ _ _ _ _ _ us hl=>by obtain⟨_,rfl⟩:=Fp hl;rfl
 have O18:=d18.ok1 (ps:= ["scene"]) X G fun _ _ _ _ _ _ us hl=>by obtain⟨_,rfl⟩:=Fp hl;rfl
 have O19:=d19.ok1 (ps:= ["scene","hand"]) X G fun _ _ _ _ _ _ us hl=>by obtain⟨_,_,rfl⟩:=DG hl;rfl
 have O20:=d20.ok1 (ps:= ["world","hand","frame"]) X G fun _ _ _ _ _ _ us hl=>by obtain⟨_,_,_,rfl⟩:=rg hl;rfl
 have O21:=d21.ok1 (ps:= ["world","scene","hand"]) X G fun _ _ _ _ _ _ us hl=>by obtain⟨_,_,_,rfl⟩:=rg hl;rfl
 have O22:=d22.ok1 (ps:= ["world","scene"]) X G fun _ _ _ _ _ _ us hl=>by obtain⟨_,_,rfl⟩:=DG hl;rfl
 have O23:=d23.ok1 (ps:= ["_law_world_here","_law_scene","_law_own_here"]) X G fun _ _ _ _ _ _ us hl=>by obtain⟨_,_,_,rfl⟩:=rg hl;rfl
 have O24:=d24.ok1 (ps:= ["_law_world_here","_law_scene","_law_own_here"]) X G fun _ _ _ _ _ _ us hl=>by obtain⟨_,_,_,rfl⟩:=rg hl;rfl
 have O25:=d25.ok1 (ps:= ["_law_world_here","_law_scene","_law_own_here"]) X G fun _ _ _ _ _ _ us hl=>by obtain⟨_,_,_,rfl⟩:=rg hl;rfl
 have O26:=d26.ok1 (ps:= ["_law_found","_law_due"]) X G fun _ _ _ _ _ _ us hl=>by obtain⟨_,_,rfl⟩:=DG hl;rfl
 have O27:=d27.ok1 (ps:= ["world","scene","hand"]) X G fun _ _ _ _ _ _ us hl=>by obtain⟨_,_,_,rfl⟩:=rg hl;rfl
 have O28:=d28.ok1 (ps:= ["world","scene","hand"]) X G fun _ _ _ _ _ _ us hl=>by obtain⟨_,_,_,rfl⟩:=rg hl;rfl
 have O29:=d29.ok1 (ps:= ["_law_pot_here","_law_world_here","_law_scene"]) X G fun _ _ _ _ _ _ us hl=>by obtain⟨_,_,_,rfl⟩:=rg hl;rfl
 have O30:=d30.ok1 (ps:= ["_law_pot_here","_law_some","_law_last"]) X G fun _ _ _ _ _ _ us hl=>by obtain⟨_,_,_,rfl⟩:=rg hl;rfl
 have O31:=d31.ok1 (ps:= ["roll"]) X G fun _ _ _ _ _ _ us hl=>by obtain⟨_,rfl⟩:=Fp hl;rfl
 have O32:=d32.ok1 (ps:= ["roll","name"]) X G fun _ _ _ _ _ _ us hl=>by obtain⟨_,_,rfl⟩:=DG hl;rfl
 have O33:=d33.ok1 (ps:= ["parts","at","part"]) X G fun _ _ _ _ _ _ us hl=>by obtain⟨_,_,_,rfl⟩:=rg hl;rfl
 have O34:=d34.ok1 (ps:= ["scene","hand","values","frames"]) X G fun _ _ _ _ _ _ us hl=>by obtain⟨_,_,_,_,rfl⟩:=pd hl;rfl
 have O35:=d35.ok1 (ps:= ["scene","at","room"]) X G fun _ _ _ _ _ _ us hl=>by obtain⟨_,_,_,rfl⟩:=rg hl;rfl
 have O36:=d36.ok1 (ps:= ["world","scene","hand","word","value"]) X G fun _ _ _ _ _ _ us hl=>by obtain⟨_,_,_,_,_,rfl⟩:=Hr hl;rfl
 have O37:=d37.ok1 (ps:= ["form","first","second"]) X G fun _ _ _ _ _ _ us hl=>by obtain⟨_,_,_,rfl⟩:=rg hl;rfl
 have O38:=d38.ok1 (ps:= ["tree","things","waiting"]) X G fun _ _ _ _ _ _ us hl=>by obtain⟨_,_,_,rfl⟩:=rg hl;rfl
 have O39:=d39.ok1 (ps:= ["world","scene","hand","tree"]) X G fun _ _ _ _ _ _ us hl=>by obtain⟨_,_,_,_,rfl⟩:=pd hl;rfl
 have O40:=d40.ok1 (ps:= ["world","scene","hand","row"]) X G fun _ _ _ _ _ _ us hl=>by obtain⟨_,_,_,_,rfl⟩:=pd hl;rfl
 have O41:=d41.ok1 (ps:= ["scene","hand","frame"]) X G fun _ _ _ _ _ _ us hl=>by obtain⟨_,_,_,rfl⟩:=rg hl;rfl
 have O42:=d42.ok1 (ps:= ["scene","hand","row"]) X G fun _ _ _ _ _ _ us hl=>by obtain⟨_,_,_,rfl⟩:=rg hl;rfl
 have O43:=d43.ok1 (ps:= ["world","scene","hand","row"]) X G fun _ _ _ _ _ _ us hl=>by obtain⟨_,_,_,_,rfl⟩:=pd hl;rfl
 have O44:=d44.ok1 (ps:= ["world","scene","hand","row"]) X G fun _ _ _ _ _ _ us hl=>by obtain⟨_,_,_,_,rfl⟩:=pd hl;rfl
 have O45:=d45.ok1 (ps:= ["scene","room","hand"]) X G fun _ _ _ _ _ _ us hl=>by obtain⟨_,_,_,rfl⟩:=rg hl;rfl
 have O46:=d46.ok1 (ps:= ["world","scene","hand","row"]) X G fun _ _ _ _ _ _ us hl=>by obtain⟨_,_,_,_,rfl⟩:=pd hl;rfl
 have O47:=d47.ok1 (ps:= ["world","scene","hand","word"]) X G fun _ _ _ _ _ _ us hl=>by obtain⟨_,_,_,_,rfl⟩:=pd hl;rfl
 have O48:=d48.ok1 (ps:= ["scene","room","bell","line"]) X G fun _ _ _ _ _ _ us hl=>by obtain⟨_,_,_,_,rfl⟩:=pd hl;rfl
 have O49:=d49.ok1 (ps:= ["scene","room"]) X G fun _ _ _ _ _ _ us hl=>by obtain⟨_,_,rfl⟩:=DG hl;rfl
 have O50:=d50.ok1 (ps:= ["world","scene","hand","row"]) X G fun _ _ _ _ _ _ us hl=>by obtain⟨_,_,_,_,rfl⟩:=pd hl;rfl
 have O51:=d51.ok1 (ps:= ["world","scene","hand","row"]) X G fun _ _ _ _ _ _ us hl=>by obtain⟨_,_,_,_,rfl⟩:=pd hl;rfl
 have O52:=d52.ok1 (ps:= ["world","scene","hand","row"]) X G fun _ _ _ _ _ _ us hl=>by obtain⟨_,_,_,_,rfl⟩:=pd hl;rfl
 have O53:=d53.ok1 (ps:= ["world","scene","hand","row"]) X G fun _ _ _ _ _ _ us hl=>by obtain⟨_,_,_,_,rfl⟩:=pd hl;rfl
 have O54:=d54.ok1 (ps:= ["scene","at","turnstile"]) X G fun _ _ _ _ _ _ us hl=>by obtain⟨_,_,_,rfl⟩:=rg hl;rfl
 have O55:=d55.ok1 (ps:= ["world","scene","hand","name"]) X G fun _ _ _ _ _ _ us hl=>by obtain⟨_,_,_,_,rfl⟩:=pd hl;rfl
 have O56:=d56.ok1 (ps:= ["world","scene","hand","row"]) X G fun _ _ _ _ _ _ us hl=>by obtain⟨_,_,_,_,rfl⟩:=pd hl;rfl
 have O57:=d57.ok1 (ps:= ["world","scene","name"]) X G fun _ _ _ _ _ _ us hl=>by obtain⟨_,_,_,rfl⟩:=rg hl;rfl
 have O58:=d58.ok1 (ps:= ["world","scene","hand","row"]) X G fun _ _ _ _ _ _ us hl=>by obtain⟨_,_,_,_,rfl⟩:=pd hl;rfl
 have O59:=d59.ok1 (ps:= ["world","scene","hand","row"]) X G fun _ _ _ _ _ _ us hl=>by obtain⟨_,_,_,_,rfl⟩:=pd hl;rfl
 have O60:=d60.ok1 (ps:= ["world","scene","hand","row"]) X G fun _ _ _ _ _ _ us hl=>by obtain⟨_,_,_,_,rfl⟩:=pd hl;rfl
 have O61:=d61.ok1 (ps:= ["world","scene","hand","row"]) X G fun _ _ _ _ _ _ us hl=>by obtain⟨_,_,_,_,rfl⟩:=pd hl;rfl
 have O62:=d62.ok1 (ps:= ["world","scene","hand"]) X G fun _ _ _ _ _ _ us hl=>by obtain⟨_,_,_,rfl⟩:=rg hl;rfl
 have O63:=d63.ok1 (ps:= ["world","scene","hand"]) X G fun _ _ _ _ _ _ us hl=>by obtain⟨_,_,_,rfl⟩:=rg hl;rfl
 have O64:=d64.ok1 (ps:= ["world","scene","hand"]) X G fun _ _ _ _ _ _ us hl=>by obtain⟨_,_,_,rfl⟩:=rg hl;rfl
 have h_NOBODY:=PySem.W.mg_of X G g_NOBODY
 have h_OWN:=PySem.W.mg_of X G g_OWN
 have h_HIGHEST:=PySem.W.mg_of X G g_HIGHEST
 have D_DONE_BY:yF l.prog w K mg "DONE_BY" jX:=B3 (PySem.W.mg_of X G g_DONE_BY) lk_DONE_BY (.cons O40.m (.cons O43.m (.cons O44.m (.cons O46.m (.cons O50.m (.cons O51.m (.cons O52.m (.cons O53.m (.cons O56.m (.cons O58.m (.cons O59.m (.cons O60.m .nil)))))))))))) (by decide +kernel)
 have B:Bl mg:=⟨PySem.W.mg_none_of X G z_len,PySem.W.mg_none_of X G z_tuple,PySem.W.mg_none_of X G z_list,PySem.W.mg_none_of X G z_dict,PySem.W.mg_none_of X G z_set,PySem.W.mg_none_of X G z_int,PySem.W.mg_none_of X G z_str,PySem.W.mg_none_of X G z_bool,PySem.W.mg_none_of X G z_all,PySem.W.mg_none_of X G z_any,PySem.W.mg_none_of X G z_range,PySem.W.mg_none_of X G z_zip,PySem.W.mg_none_of X G z_sorted,PySem.W.mg_none_of X G z_isinstance,PySem.W.mg_none_of X G z_min,PySem.W.mg_none_of X G z_max,PySem.W.mg_none_of X G z_abs,PySem.W.mg_none_of X G z_enumerate⟩
 refine⟨PySem.W.fnOf "law" "law" (fW mB) (fh mB) (ar mB) .none kV dc pm an cd ct,fun s v=>.of_eq rfl,fun base _ _=> ?_⟩
 have Z:Pk l.prog w base:=⟨⟩
 have c__law_pot:=O1.cal Z fun _ F _ _ _=>vi F B
 have c__law_take:=O2.cal Z fun _ F _ _ _=>ub F B
 have c__law_words:=O3.cal Z fun _ F _ _ _=>rY F B c__law_take
 have c__law_pick:=O4.cal Z fun _ F _ _ _=>t6 F B c__law_take
 have c__law_sum:=O5.cal Z fun _ F b k m=>oa F B c__law_take c__law_pick b k m 4
 have c__law_waits:=O6.cal Z fun _ F _ _ _=>rQ F B c__law_sum c__law_take c__law_pick
 have c__law_do:=O7.cal Z fun _ F _ _ _=>x_ F B c__law_pick c__law_sum
 have c__law_deed:=O8.cal Z fun _ F _ _ _=>va F B c__law_take c__law_waits c__law_pick c__law_do c__law_sum
 have c__law_room:=O9.cal Z fun _ F _ _ _=>uK F B c__law_pick c__law_words c__law_take c__law_deed
 have c__law_rooms:=O10.cal Z fun _ F _ _ _=>rE F B c__law_words c__law_take c__law_room
 have c__law_own:=O11.cal Z fun _ F _ _ _=>wm F B c__law_take c__law_do c__law_pick c__law_sum
 have c__law_world:=O12.cal Z fun _ F _ _ _=>rH F B c__law_words c__law_take c__law_own
 have c__law_any_world:=O13.cal Z fun _ F _ _ _=>mf F B c__law_rooms c__law_take c__law_world
 have c_values_of:=O14.cal Z fun _ F _ _ _=>uE F B
 have c_begun_room:=O15.cal Z fun _ F _ _ _=>rC F B c_values_of h_NOBODY
 have c_begun:=O16.cal Z fun _ F _ _ _=>Bt F B c_values_of c_begun_room h_OWN
 have c_hands_at:=O17.cal Z fun _ F _ _ _=>vD F B
 have c_hands_in_rows:=O18.cal Z fun _ F _ _ _=>mP F B c_hands_at
 have c_last_frame:=O19.cal Z fun _ F _ _ _=>rD F B
 have c_program_of:=O20.cal Z fun _ F _ _ _=>rL F B h_OWN
 have c_is_behind_all:=O21.cal Z fun _ F _ _ _=>mY F B c_last_frame c_program_of h_OWN
 have c_may_step:=O22.cal Z fun _ F _ _ _=>vR F B c_hands_in_rows c_is_behind_all
 have c__law_bound:=O23.cal Z fun _ F _ _ _=>rV F B
 have c__law_free:=O24.cal Z fun _ F _ _ _=>u9 F B
 have c__law_stands:=O25.cal Z fun _ F _ _ _=>p5 F B c__law_bound c__law_free
 have c__law_same:=O26.cal Z fun _ F b k m=>me F B b k m 10
 have c_place_in_a_row:=O27.cal Z fun _ F _ _ _=>lH F B c_hands_at
 have c_stands:=O28.cal Z fun _ F _ _ _=>y0 F B c_place_in_a_row c_last_frame c_program_of h_OWN
 have c__law_right:=O29.cal Z fun _ F _ _ _=>rN F B c__law_take c__law_stands c__law_same c_stands
 have c__law_next:=O30.cal Z fun _ F _ _ _=>uw F B c__law_take c__law_pick
 have c_names_of:=O31.cal Z fun _ F _ _ _=>wB F B
 have c_place_of:=O32.cal Z fun _ F _ _ _=>vQ F B c_names_of
 have c_with_part:=O33.cal Z fun _ F _ _ _=>uo F B
 have c_with_hand:=O34.cal Z fun _ F _ _ _=>ua F B c_with_part
 have c_with_room:=O35.cal Z fun _ F _ _ _=>tY F B c_with_part
 have c_put_thing:=O36.cal Z fun _ F _ _ _=>uC F B c_last_frame c_place_of c_with_part c_with_room c_names_of c_with_hand h_OWN
 have c_value_of_two:=O37.cal Z fun _ F _ _ _=>ow F B h_HIGHEST
 have c_value_of:=O38.cal Z fun _ F b k m=>nJ F B c_value_of_two b k m 6
 have c_reckoned:=O39.cal Z fun _ F _ _ _=>vj F B c_last_frame c_names_of c_value_of h_OWN
 have c_by_put:=O40.cal Z fun _ F _ _ _=>zJ F B c_put_thing c_reckoned
 have c_with_last_frame:=O41.cal Z fun _ F _ _ _=>k8 F B c_with_hand
 have c_at_row:=O42.cal Z fun _ F _ _ _=>yY F B c_last_frame c_with_last_frame
 have c_by_unless:=O43.cal Z fun _ F _ _ _=>uS F B c_reckoned c_at_row
 have c_by_go:=O44.cal Z fun _ F _ _ _=>AR F B c_at_row
 have c_come_in:=O45.cal Z fun _ F _ _ _=>xa F B c_with_room h_NOBODY
 have c_by_do:=O46.cal Z fun _ F _ _ _=>AV F B c_place_of c_reckoned c_come_in c_with_hand
 have c_bell_of:=O47.cal Z fun _ F _ _ _=>xw F B c_last_frame c_place_of
 have c_with_line:=O48.cal Z fun _ F _ _ _=>uv F B c_with_room c_with_part
 have c_leave:=O49.cal Z fun _ F _ _ _=>Ax F B c_with_room h_NOBODY
 have c_by_wait:=O50.cal Z fun _ F _ _ _=>xQ F B c_bell_of c_reckoned c_with_line c_leave
 have c_by_call:=O51.cal Z fun _ F _ _ _=>xv F B c_bell_of c_with_line c_with_room
 have c_by_all:=O52.cal Z fun _ F _ _ _=>zj F B c_bell_of c_with_line
 have c_by_tell:=O53.cal Z fun _ F _ _ _=>xU F B c_reckoned c_with_last_frame c_last_frame
 have c_with_pass:=O54.cal Z fun _ F _ _ _=>t8 F B c_with_part
 have c_taken:=O55.cal Z fun _ F _ _ _=>AN F B c_place_of c_with_pass
 have c_by_take:=O56.cal Z fun _ F _ _ _=>xf F B c_taken
 have c_given_back:=O57.cal Z fun _ F _ _ _=>rM F B c_place_of c_with_pass h_HIGHEST
 have c_by_give:=O58.cal Z fun _ F _ _ _=>xW F B c_given_back
 have c_by_pass:=O59.cal Z fun _ F _ _ _=>xn F B c_taken c_given_back
 have c_by_say:=O60.cal Z fun _ F _ _ _=>zN F B
 have T_doneBy:∀x F,qJ.lookup x=some F->bI l.prog w K mg base 10 x ["world","scene","hand","row"] F:=by
  refine Bn fun p hp=> ?_
  simp only[qJ,List.mem_cons,List.not_mem_nil,or_false] at hp
  rcases hp with rfl|rfl|rfl|rfl|rfl|rfl|rfl|rfl|rfl|rfl|rfl|rfl
  ·exact c_by_put.mono (by decide)
  ·exact c_by_unless.mono (by decide)
  ·exact c_by_go.mono (by decide)
  ·exact c_by_do.mono (by decide)
  ·exact c_by_wait.mono (by decide)
  ·exact c_by_call.mono (by decide)
  ·exact c_by_all.mono (by decide)
  ·exact c_by_tell.mono (by decide)
  ·exact c_by_take.mono (by decide)
  ·exact c_by_give.mono (by decide)
  ·exact c_by_pass.mono (by decide)
  ·exact c_by_say.mono (by decide)
 have c_row_done:=O61.cal Z fun _ F _ _ _=>vO F B T_doneBy D_DONE_BY
 have c_end_deed:=O62.cal Z fun _ F _ _ _=>vJ F B c_with_hand c_leave c_program_of c_put_thing
 have c_step_of:=O63.cal Z fun _ F _ _ _=>xB F B c_last_frame c_come_in c_program_of c_end_deed c_reckoned c_row_done c_at_row h_OWN
 have c_stepped:=O64.cal Z fun _ F _ _ _=>xN F B c_may_step c_step_of
 exact Dq (Eo F65 B c__law_pot c__law_any_world c_begun c__law_right c_may_step c__law_next c_stepped) T
end W28
namespace DL
open PySem PySem.Spec L2
theorem uX{Γ:cE}{S:aA}{Q:Bool->aA->Prop}(q:Q true S):E cX Γ S Q:=⟨_,_,rfl,q⟩
section
variable{S:aA}
theorem HV{i j:Int}{Q:D->Prop}(q:Q (.int (i+j))):Op (cq S (.int i) (.int j)) Q:=⟨_,rfl,q⟩
theorem DX{i j:Str}{Q:D->Prop}(h:i.length+j.length<=sizeLine)(q:Q (.str (i++j))):Op (cq S (.str i) (.str j)) Q:=⟨_,by simp only[cq];rw[if_pos h],q⟩
theorem dN{i j:List D}{Q:D->Prop}(h:i.length+j.length<=sizeLine)(q:Q (.tup (i++j))):Op (cq S (.tup i) (.tup j)) Q:=⟨_,by simp only[cq];rw[if_pos h],q⟩
theorem Ez{k:Int->Int->D}{i j:Int}{Q:D->Prop}(q:Q (k i j)):Op (intD (fun _ _=>True) k S (.int i) (.int j)) Q:=⟨_,by simp only[intD,if_true],q⟩
theorem pK{i j:Int}{Q:D->Prop}(h:0<j)(q:Q (.int (i%j))):Op (oG S (.int i) (.int j)) Q:=⟨_,by simp only[oG,intD];rw[if_pos h],q⟩
theorem Be{i j:Int}{Q:D->Prop}(h:AS i j)(q:Q (.int (i/j))):Op (vc S (.int i) (.int j)) Q:=⟨_,by simp only[vc,intD];rw[if_pos h],q⟩
theorem rZ{i j:Int}{Q:D->Prop}(h:CU i j)(q:Q (.int (i*j))):Op (kO S (.int i) (.int j)) Q:=⟨_,by simp only[kO,intD];rw[if_pos h.ok],q⟩
theorem ak{ds:List D}{i:Int}{d:D}{Q:D->Prop}(h:jk ds i=some d)(q:Q d):Op (aJ S (.tup ds) (.int i)) Q:=⟨_,h,q⟩
theorem dS{k:Nat}{ds:List D}{i:Int}{d:D}{Q:D->Prop}(hS:S[k]?=some (.lst ds))(h:jk ds i=some d)(q:Q d):Op (aJ S (.ref k) (.int i)) Q:=⟨_,by simp only[aJ,hS];exact h,q⟩
theorem bW{ds:List D}{Q:List D×Tag->Prop}(q:Q (ds,.tu)):Op (pY S (.tup ds)) Q:=⟨_,rfl,q⟩
theorem bR{k:Nat}{ds:List D}{Q:List D×Tag->Prop}(hS:S[k]?=some (.lst ds))(q:Q (ds,.st k)):Op (pY S (.ref k)) Q:=⟨_,by simp only[pY,hS],q⟩
theorem GJ{α:Type}{o:Option α}{d:α}{Q:α->Prop}(h:o=some d)(q:Q d):Op o Q:=⟨d,h,q⟩
end
theorem aM{b:Bool}{p q:Prop}(h1:b=true->p)(h2:b=false->q):if b=true then p else q:=by
 cases b with
 |true=>exact h1 rfl
 |false=>exact h2 rfl
end DL
local macro_rules|`(tactic|symm)=>`(tactic|repeat(first|with_reducible refine DL.bC ?_|with_reducible refine DL.dU ?_|with_reducible refine DL.og ?_|with_reducible refine DL.HE ?_|with_reducible refine DL.Ay ?_|with_reducible refine DL.Iu ?_|with_reducible refine DL.gB ?_|with_reducible refine DL.cp ?_|with_reducible refine DL.Ie ?_|with_reducible refine DL.wq ?_|with_reducible refine DL.Fz ?_|((with_reducible refine DL.cN (d := ?_) ?_ ?_); rotate_left; rfl)|with_reducible refine DL.Fk ?_|with_reducible refine DL.FT ?_|with_reducible refine DL.Ig ?_|with_reducible refine DL.GV ?_|with_reducible refine DL.HR ?_|with_reducible refine DL.Hy ?_|with_reducible refine DL.qY ?_|with_reducible refine DL.oK ?_|with_reducible refine DL.Gx ?_|with_reducible refine DL.EF ?_|with_reducible refine DL.Fy ?_|with_reducible refine DL.yX ?_|with_reducible refine DL.HJ ?_|with_reducible refine DL.G3 ?_|with_reducible refine DL.fo ?_|with_reducible refine DL.GL ?_|with_reducible refine DL.Ey ?_|with_reducible refine DL.uh ?_|with_reducible refine DL.Aq ?_|with_reducible refine DL.Ib ?_|with_reducible refine DL.uX ?_|with_reducible refine DL.aR ?_|with_reducible refine DL.Iq ?_|with_reducible refine DL.Dx ?_|with_reducible refine DL.qX ?_|with_reducible refine DL.HV ?_|with_reducible refine DL.Ez ?_|with_reducible refine DL.bW ?_|dsimp only))
namespace W28
open PySem PySem.Spec L2 DL
def lA(a b c:Int):O:=.lst [.int a,.int b,.int c]
theorem zG{S:aA}{k:Nat}{a b c0 m:Int}{Q:Res->aA->Prop}(hS:S[k]?=some (lA a b c0))(m0:0<m)(m1:m<1000000)
  (h:∀(d a' b' c':Int),0<=d->d<m->Q (.d (.int d)) (S.set k (lA a' b' c'))):Fn aw [.ref k,.int m] S Q:=by
 have hk:k<S.length:=(gQs.mp hS).1
 have tk:∀(o:O),(S.set k o).take S.length=S.set k o:=fun o=>by rw[List.take_of_length_le];simp
 refine bF ?_
 unfold qx
 symm
 refine dS hS rfl ?_
 symm
 refine aM (fun c=> ?_) (fun c=> ?_)
 ·symm
  refine dS hS rfl ?_
  symm
  refine pK m0 ?_
  symm
  refine dS hS rfl ?_
  symm
  refine Be ⟨m0,by omega⟩ ?_
  symm
  refine⟨_,_,_,_,rfl,rfl,hS,rfl,?_⟩
  symm
  refine fZ (sR (by rfl)) (tk _) (fun _ z=>by cases z) rfl ?_
  exact h _ _ _ _ (Int.emod_nonneg _ (by omega)) (Int.emod_lt_of_pos _ m0)
 ·symm
  refine⟨_,_,_,_,rfl,rfl,hS,by decide,rfl,?_⟩
  symm
  refine⟨_,_,_,rfl,hS,rfl,?_⟩
  have s1:∀o:O,(S.set k o)[k]?=some o:=fun o=>by rw[List.getElem?_set_self hk]
  symm
  refine dS (s1 _) rfl ?_
  symm
  refine rZ (.inr ⟨by decide,by decide⟩) ?_
  symm
  refine dS (s1 _) rfl ?_
  refine rZ (.inl ⟨by decide,by decide⟩) ?_
  symm
  refine pK (by decide) ?_
  generalize hmx:(b*69069+9973*_+5)%2305843009213693921=mx
  have b0:0<=mx:=by rw[←hmx];exact Int.emod_nonneg _ (by decide)
  have b1:mx<2305843009213693921:=by rw[←hmx];exact Int.emod_lt_of_pos _ (by decide)
  symm
  refine pK (by decide) ?_
  symm
  refine dS (s1 _) rfl ?_
  refine rZ (.inl ⟨by decide,by decide⟩) ?_
  symm
  refine rZ (.inl ⟨by omega,by omega⟩) ?_
  symm
  refine pK (by decide) ?_
  symm
  refine⟨_,_,_,_,rfl,rfl,s1 _,rfl,?_⟩
  symm
  refine dS (by rw[List.set_set];exact s1 _) rfl ?_
  symm
  refine Be ⟨by decide,by decide⟩ ?_
  symm
  refine pK m0 ?_
  symm
  rw[List.set_set]
  refine fZ (sR (by rfl)) (tk _) (fun _ z=>by cases z) rfl ?_
  exact h _ _ _ _ (Int.emod_nonneg _ (by omega)) (Int.emod_lt_of_pos _ m0)
structure Ex(k:Nat)(S S':aA):Prop where
 len:S.length<=S'.length
 keep:∀(j:Nat) (o:O),j≠k->S[j]?=some o->S'[j]?=some o
 pot:∃a b c,S'[k]?=some (lA a b c)
theorem Ex.refl{k:Nat}{S:aA}{a b c:Int}(h:S[k]?=some (lA a b c)):Ex k S S:=⟨Nat.le_refl _,fun _ _ _ h=>h,_,_,_,h⟩
theorem Ex.trans{k:Nat}{S S1 S2:aA}(x:Ex k S S1)(y:Ex k S1 S2):Ex k S S2:=⟨Nat.le_trans x.len y.len,fun j o n h=>y.keep j o n (x.keep j o n h),y.pot⟩
theorem Ex.set{k:Nat}{S S1:aA}{a b c:Int}(x:Ex k S S1):Ex k S (S1.set k (lA a b c)):=by
 obtain⟨_,_,_,h⟩:=x.pot
 refine⟨by simpa using x.len,fun j o n h=> ?_,a,b,c,List.getElem?_set_self (gQs.mp h).1⟩
 rw[List.getElem?_set_ne (Ne.symm n)]
 exact x.keep j o n h
theorem Ex.app{k:Nat}{S S1 G:aA}(x:Ex k S S1):Ex k S (S1++G):=by
 obtain⟨a,b,c,h⟩:=x.pot
 refine⟨by rw[lQa];have:=x.len;omega,fun j o n h=> ?_,a,b,c,?_⟩
 ·have:=x.keep j o n h
  rw[List.getElem?_append_left (gQs.mp this).1]
  exact this
 ·rw[List.getElem?_append_left (gQs.mp h).1]
  exact h
theorem Ex.put{k r:Nat}{S S1:aA}{o:O}(x:Ex k S S1)(hr:S.length<=r)(hk:k<S.length):Ex k S (S1.set r o):=by
 obtain⟨a,b,c,h⟩:=x.pot
 refine⟨by simpa using x.len,fun j o' n h=> ?_,a,b,c,?_⟩
 ·have hj:=(gQs.mp h).1
  rw[List.getElem?_set_ne (by omega)]
  exact x.keep j o' n h
 ·rw[List.getElem?_set_ne (by omega)]
  exact h
theorem Ex.lt{k:Nat}{S S1:aA}(x:Ex k S S1):k<S1.length:=by
 obtain⟨a,b,c,h⟩:=x.pot
 exact(gQs.mp h).1
theorem aS{S G:aA}{j:Nat}{o:O}(h:S[j]?=some o):(S++G)[j]?=some o:=by
 rw[List.getElem?_append_left (gQs.mp h).1]
 exact h
theorem aG{S:aA}{o:O}:(S++ [o])[S.length]?=some o:=by simp
theorem eE{S:aA}{k j:Nat}{o o':O}(n:j≠k)(h:S[j]?=some o):(S.set k o')[j]?=some o:=by
 rw[List.getElem?_set_ne (Ne.symm n)]
 exact h
theorem cz{S:aA}{j:Nat}{o o':O}(h:S[j]?=some o):(S.set j o')[j]?=some o':=List.getElem?_set_self (gQs.mp h).1
theorem Ex.clean{k:Nat}{S S':aA}(x:Ex k S S')(hk:k<S.length):lL S S'/\∃a b c,S'.take S.length=S.set k (lA a b c):=by
 obtain⟨a,b,c,h⟩:=x.pot
 have key:∀j,j<S.length->S'[j]?=(S.set k (lA a b c))[j]? :=fun j hj=>by
  by_cases e:j=k
  ·subst e
   rw[h,List.getElem?_set_self hj]
  ·rw[List.getElem?_set_ne (Ne.symm e),x.keep j _ e (gQe hj),gQe hj]
 refine⟨⟨x.len,fun j o hj e=> ?_⟩,a,b,c,?_⟩
 ·by_cases e':j=k
  ·subst e'
   rw[h] at e
   cases e
   exact .inr rfl
  ·rw[x.keep j _ e' (gQe hj)] at e
   rw[gQe hj]
   exact .inl e
 ·apply List.ext_getElem?
  intro j
  by_cases hj:j<S.length
  ·rw[List.getElem?_take_of_lt hj]
   exact key j hj
  ·rw[List.getElem?_eq_none (by rw[List.length_take];omega),List.getElem?_eq_none (by simp;omega)]
theorem i_{k:Nat}{S S':aA}{d:D}{Q:Res->aA->Prop}(x:Ex k S S')(hk:k<S.length)(hd:∀k,d≠.ref k)(hl:bJ S.length d=true)(q:∀a b c,Q (.d d) (S.set k (lA a b c))):Op (settle S d S') fun p=>Q p.1 p.2:=by
 obtain⟨hc,a,b,c,ht⟩:=x.clean hk
 exact fZ hc ht hd hl (q a b c)
theorem DS{k:Nat}{S S':aA}{ds:List D}{Q:Res->aA->Prop}(x:Ex k S S')(hk:k<S.length)(hl:bG S.length ds=true)(q:∀a b c,Q (.l ds) (S.set k (lA a b c))):Op (dD S ds S') fun p=>Q p.1 p.2:=by
 obtain⟨hc,a,b,c,ht⟩:=x.clean hk
 exact kU hc ht hl (q a b c)
theorem bz{S S0:aA}{k:Nat}{m:Int}{Q:Res->aA->Prop}(x:Ex k S0 S)(m0:0<m)(m1:m<1000000)
  (h:∀(d:Nat) (S':aA),(d:Int)<m->Ex k S0 S'->Ex k S S'->S'.length=S.length->Q (.d (.int d)) S'):Fn aw [.ref k,.int m] S Q:=by
 obtain⟨a,b,c,hS⟩:=x.pot
 refine zG hS m0 m1 fun d a' b' c' h0 h1=> ?_
 obtain⟨n,rfl⟩:∃n:Nat,d=n:=⟨d.toNat,by omega⟩
 exact h n _ h1 x.set (Ex.refl hS).set (by simp)
theorem aO{α:Type}{xs:List α}{j:Nat}{x:α}(h:xs[j]?=some x):jk xs (j:Int)=some x:=by
 have hj:=(gQs.mp h).1
 unfold jk zH
 rw[if_pos (by omega),if_pos (by omega)]
 simpa using h
theorem eA{S S0:aA}{k i:Nat}{xs:List D}{Q:Res->aA->Prop}(x:Ex k S0 S)(hi:i≠k)(hS:S[i]?=some (.lst xs))(h0:0<xs.length)(h1:xs.length<1000)(hl:∀d∈xs,(∀k,d≠.ref k)/\bJ 0 d=true)
  (hlow:∀d∈xs,bJ S.length d=true)
  (h:∀(d:D) (S':aA),d∈xs->Ex k S0 S'->Ex k S S'->S'.length=S.length->Q (.d d) S'):Fn aZ [.ref k,.ref i] S Q:=by
 have y:Ex k S S:=by obtain⟨a,b,c,hh⟩:=x.pot;exact Ex.refl hh
 refine bF ?_
 unfold qm
 symm
 refine bR hS ?_
 symm
 refine bz y (by show(0:Int)<xs.length;omega) (by show(xs.length:Int)<1000000;omega) fun d S' hd e1 e2 hl2=> ?_
 dsimp only
 have hd':d<xs.length:=by have:(d:Int)<(xs.length:Int):=hd;omega
 refine dS (e1.keep _ _ hi hS) (aO (gQe hd')) ?_
 have hm:=List.getElem_mem hd'
 refine i_ e1 x.lt (hl _ hm).1 (hlow _ hm) fun a b c=> ?_
 exact h _ _ hm x.set y.set (by simp)
end W28
namespace DL
open PySem PySem.Spec L2
mutual
theorem da{m:Nat}:∀{d:D},bJ 0 d=true->bJ m d=true
 |.non,_=>rfl
 |.bl _,_=>rfl
 |.int _,_=>rfl
 |.str _,_=>rfl
 |.tup ds,h=>by simp only[bJ] at h⊢;exact hX h
 |.ref k,h=>by simp[bJ] at h
 |.fn _,_=>rfl
theorem hX{m:Nat}:∀{ds:List D},bG 0 ds=true->bG m ds=true
 | [],_=>rfl
 | d::ds,h=>by
   simp only[bG,Bool.and_eq_true] at h⊢
   exact⟨da h.1,hX h.2⟩
end
theorem oU{m:Nat}:∀{ds:List D},(∀d∈ds,bJ m d=true)->bG m ds=true
 | [],_=>rfl
 | d::ds,h=>by
   simp only[bG,Bool.and_eq_true]
   exact⟨h d (List.mem_cons_self ..),oU fun e he=>h e (List.mem_cons_of_mem _ he)⟩
theorem aX{α:Type}{m:Nat}{f:α->D}{l:List α}(h:∀a∈l,bJ m (f a)=true):bG m (l.map f)=true:=oU fun d hd=>by
 obtain⟨a,ha,rfl⟩:=List.mem_map.mp hd
 exact h a ha
theorem sG:∀ss:List Str,sD (ss.map D.str)=some ss
 | []=>rfl
 |s::ss=>by simp only[List.map_cons,sD];rw[sG ss];rfl
theorem E8{Γ:cE}{S:aA}{f:eR}{Q:List D->aA->Prop}(h:E f Γ S fun p S1=>p.2.isL=true/\∃ss:List Str,p.1=ss.map D.str/\ss.length<64/\Q ((ni ss).map D.str) S1):E (yP f) Γ S Q:=by
 obtain⟨p,S1,e1,l,ss,h1,h2,q⟩:=h
 exact⟨_,S1,by unfold yP;rw[e1];simp only[Option.bind_some];rw[if_pos l,h1,sG];simp only[Option.bind_some];rw[if_pos h2],q⟩
end DL
namespace W28
open PySem PySem.Spec L2 DL
def six:List Str:= ["a","b","c","d","e","zz"]
theorem m4{α β:Type}(g:α->β):∀(l:List α) (k:Nat),(l.map g).eraseIdx k=(l.eraseIdx k).map g
 | [],_=>rfl
 |_::_,0=>rfl
 |x::l,k+1=>congrArg (g x::·) (m4 g l k)
theorem vw{α:Type}{acc left all:List α}{j:Nat}(hj:j<left.length)(h:(acc++left).Perm all):((acc++ [left[j]])++left.eraseIdx j).Perm all:=by
 refine List.Perm.trans ?_ h
 rw[List.append_assoc]
 refine List.Perm.append_left acc ?_
 show(left[j]::left.eraseIdx j).Perm left
 rw[List.eraseIdx_eq_take_drop_succ]
 have e:left=left.take j++left[j]::left.drop (j+1):=by rw[←List.drop_eq_getElem_cons hj,List.take_append_drop]
 refine List.Perm.trans ?_ (List.Perm.of_eq e.symm)
 exact List.perm_middle.symm
theorem DN{n j:Nat}(h:j<n)(h2:n<1000):seqIndex? (j:Int) n=some j:=(ur (by unfold zH;rw[if_pos (by omega),if_pos (by omega)];simp)).1
theorem gh{S S0:aA}{k:Nat}{stem:Str}{many:Int}{Q:Res->aA->Prop}(x:Ex k S0 S)(hm:0<=many)(hm6:many<=6)(hst:stem.length<=1)
  (h:∀(ws:List Str) (S':aA),(∃l,(ws++l).Perm (six.map (stem++·)))->(ws.length:Int)=many->Ex k S0 S'->Ex k S S'->S'.length=S.length->Q (.l (ws.map D.str)) S'):Fn cj [.ref k,.str stem,.int many] S Q:=by
 have y:Ex k S S:=by obtain⟨a,b,c,hh⟩:=x.pot;exact Ex.refl hh
 refine bF ?_
 unfold nQ
 symm
 refine jx ?_
 symm
 refine⟨by decide,⟨fun n Γ' S' acc=>Γ'= [Γ'.getD 0 none,some (.str stem)]/\S'=S/\acc=((six.take n).map (stem++·)).map D.str,⟨rfl,rfl,rfl⟩,fun n Γ' S' acc h=>trivial,fun n d Γ' S' acc hd ⟨hΓ,hS,hacc⟩=> ?_,fun Γ' S' acc ⟨_,hS,hacc⟩=> ?_⟩⟩
 ·have hS:=hS.symm
  subst hS hacc
  obtain⟨o,rfl⟩:∃o,Γ'= [o,some (.str stem)]:=⟨_,hΓ⟩
  have hd':∃z,six[n]?=some z/\d=.str z:=by
   rcases n with _|_|_|_|_|_|n <;>first|(cases hd;exact⟨_,rfl,rfl⟩)|(simp at hd)
  obtain⟨z,hz,rfl⟩:=hd'
  have hzl:z.length<=2:=by
   have:=mQg hz
   simp only[six,List.mem_cons,List.not_mem_nil,or_false] at this
   rcases this with rfl|rfl|rfl|rfl|rfl|rfl <;>decide
  symm
  rw[if_pos rfl]
  symm
  refine DX (Nat.le_trans (show stem.length+z.length<=3 by omega) (by decide)) ?_
  have hn:n<6:=(gQs.mp hz).1
  refine⟨?_,rfl,rfl,?_⟩
  ·simp only[lQm,List.length_take]
   exact Nat.lt_of_le_of_lt (Nat.min_le_left _ _) (Nat.lt_trans hn (by decide))
  ·rw[List.take_add_one,hz]
   simp
 ·have hS:=hS.symm
  subst hS hacc
  symm
  refine E8 ?_
  symm
  refine jx ?_
  symm
  refine⟨many,rfl,⟨by omega,by omega⟩,fun n Γ' S2 acc=>∃(ac lf:List Str),Γ'= [Γ'.getD 0 none,some (.ref k),some (.ref S.length)]/\Ex k S S2/\S2.length=S.length+1/\S2[S.length]?=some (.lst (lf.map D.str))/\acc=ac.map D.str/\ac.length=n/\(ac++lf).Perm (six.map (stem++·)),?_,fun _ _ _ _ _=>trivial,?_,?_⟩
  ·refine⟨[],six.map (stem++·),rfl,y.app,by simp,?_,rfl,rfl,List.Perm.refl _⟩
   exact aG
  ·rintro n d Γ' S2 acc hd ⟨ac,lf,hΓ,e2,hl2,hr,rfl,hn,hp⟩
   obtain⟨o,rfl⟩:∃o,Γ'= [o,some (.ref k),some (.ref S.length)]:=⟨_,hΓ⟩
   have hlen:=hp.length_eq
   simp only[lQa,lQm] at hlen
   have h6:six.length=6:=rfl
   have hn6:n<6:=by
    have:=(gQs.mp hd).1
    simp only[fc,lQm,List.length_range] at this
    omega
   have hlf:0<lf.length:=by omega
   symm
   rw[if_pos rfl]
   refine ji ?_
   symm
   refine⟨_,_,rfl,hr,?_⟩
   symm
   refine bR hr ?_
   symm
   refine bz e2 (by simp only[lQm];omega) (by simp only[lQm];omega) fun j S3 hj e3 e3' hl3=> ?_
   dsimp only
   symm
   have hj':j<lf.length:=by simpa using hj
   have hne:S.length≠k:=by have:=x.lt;omega
   have hr3:=e3'.keep _ _ hne hr
   refine⟨_,hr3,?_⟩
   refine GJ (d:=((lf.map D.str).eraseIdx j,D.str lf[j])) ?_ ?_
   ·simp only[kF]
    rw[if_pos ⟨by omega,by omega⟩,lQm,DN hj' (by omega)]
    simp[gQe hj']
   ·refine⟨?_,ac++ [lf[j]],lf.eraseIdx j,rfl,e3.put (Nat.le_refl _) x.lt,by simp[hl3,hl2],?_,by simp,by simp[hn],vw hj' hp⟩
    ·simp only[lQm]
     exact Nat.lt_trans (show ac.length<6 by omega) (by decide)
    ·rw[cz hr3,m4]
  ·rintro Γ' S2 acc ⟨ac,lf,hΓ,e2,hl2,hr,rfl,hn,hp⟩
   have hlen:=hp.length_eq
   simp only[lQa,lQm] at hlen
   have h6:six.length=6:=rfl
   refine⟨rfl,ac,rfl,by omega,?_⟩
   refine DS e2 x.lt (aX fun _ _=>rfl) fun a b c=> ?_
   refine h _ _ ⟨lf,(List.Perm.append_right lf (g6 ac)).trans hp⟩ ?_ x.set y.set (by simp)
   rw[(g6 ac).length_eq,hn]
   simp only[fc,lQm,List.length_range]
   omega
end W28
namespace DL
open PySem PySem.Spec L2
theorem tF{Γ:cE}{S:aA}{f g:eR}{Q:List D->aA->Prop}(h:E f Γ S fun p S1=>E g Γ S1 fun r S2=>(p.2.isM=true/\r.2.isM=true/\p.2.stays S2 p.1/\p.1.length+r.1.length<=sizeLine)/\Q (p.1++r.1) S2):E (uJ f g) Γ S Q:=by
 obtain⟨p,S1,e1,r,S2,e2,l,q⟩:=h
 exact⟨_,S2,by unfold uJ;rw[e1];simp only[Option.bind_some];rw[e2];simp only[Option.bind_some];rw[if_pos l],q⟩
theorem dj{S:aA}{i j:Int}{Q:D->Prop}(q:Q (.bl (decide (i=j)))):Op (eB false S (.int i) (.int j)) Q:=⟨_,by simp[eB,rO,xo],q⟩
theorem gI{S:aA}{i j:Str}{Q:D->Prop}(q:Q (.bl (decide (i=j)))):Op (eB false S (.str i) (.str j)) Q:=⟨_,by simp[eB,rO,xo],q⟩
theorem dX{Γ:cE}{S:aA}{n:Nat}{g:oA}{ds:List D}{Q:cE->aA->Prop}(hn:ds.length=n)(h:GX g ds Γ S Q):Tg (iB (nG n g)) (.tup ds) Γ S Q:=by
 obtain⟨Γ',S',e,q⟩:=h
 exact⟨Γ',S',by show nG n g ds Γ S=_;unfold nG;rw[if_pos hn];exact e,q⟩
theorem bg{Γ:cE}{S:aA}{Q:cE->aA->Prop}(q:Q Γ S):GX dC [] Γ S Q:=⟨_,_,rfl,q⟩
theorem aq{Γ:cE}{S:aA}{f:lu}{g:oA}{d:D}{ds:List D}{Q:cE->aA->Prop}(h:Tg f d Γ S fun Γ1 S1=>GX g ds Γ1 S1 Q):GX (aE f g) (d::ds) Γ S Q:=by
 obtain⟨Γ1,S1,e1,Γ2,S2,e2,q⟩:=h
 exact⟨Γ2,S2,by show(f d Γ S).bind _=_;rw[e1];exact e2,q⟩
end DL
namespace W28
open PySem PySem.Spec L2 DL
def ops:List Str:= ["plus","minus","less","same","both"]
inductive Tr where
 |num (n:Nat)|word (x:Str)|waits (b:Str)|no (t:Tr)|two (o:Str) (a b:Tr)
def Tr.d:Tr->D
 |.num n=>.int n
 |.word x=>.str x
 |.waits b=>.tup [.str "waits",.str b]
 |.no t=>.tup [.str "not",t.d]
 |.two o a b=>.tup [.str o,a.d,b.d]
def Tr.Ok(ws bs:List Str):Tr->Prop
 |.num n=>n<=9
 |.word x=>x∈ws
 |.waits b=>b∈bs
 |.no t=>t.Ok ws bs
 |.two o a b=>o∈ops/\a.Ok ws bs/\b.Ok ws bs
def Tr.dep:Tr->Nat
 |.num _=>1
 |.word _=>1
 |.waits _=>1
 |.no t=>t.dep+1
 |.two _ a b=>max a.dep b.dep+1
theorem Tr.low:∀t:Tr,bJ 0 t.d=true
 |.num _=>rfl
 |.word _=>rfl
 |.waits _=>rfl
 |.no t=>by simp only[Tr.d,bJ,bG];rw[t.low];rfl
 |.two _ a b=>by simp only[Tr.d,bJ,bG];rw[a.low,b.low];rfl
theorem Tr.noref(t:Tr):∀k,t.d≠.ref k:=by
 intro k
 cases t <;>simp[Tr.d]
theorem dA{ws:List Str}:∀d∈ws.map D.str,(∀k,d≠.ref k)/\bJ 0 d=true:=fun d hd=>by
 obtain⟨a,_,rfl⟩:=List.mem_map.mp hd
 exact⟨fun k z=>(nomatch z),rfl⟩
theorem ff{ws:List Str}{m:Nat}:∀d∈ws.map D.str,bJ m d=true:=fun d hd=>by
 obtain⟨a,_,rfl⟩:=List.mem_map.mp hd
 rfl
theorem DV{n:Nat}(h:(n:Int)<5):∃o,o∈ops/\jk ([.str "plus",.str "minus",.str "less",.str "same",.str "both"]:List D) (n:Int)=some (.str o):=by
 rcases n with _|_|_|_|_|n
 ·exact⟨"plus",by simp[ops],rfl⟩
 ·exact⟨"minus",by simp[ops],rfl⟩
 ·exact⟨"less",by simp[ops],rfl⟩
 ·exact⟨"same",by simp[ops],rfl⟩
 ·exact⟨"both",by simp[ops],rfl⟩
 ·omega
theorem g_:∀(n:Nat) {S S0:aA} {k i j:Nat} {ws bs:List Str} {deep:Nat} {Q:Res->aA->Prop} (x:Ex k S0 S) (hi:i≠k) (hj:j≠k) (hw:S[i]?=some (.lst (ws.map D.str))) (hb:S[j]?=some (.lst (bs.map D.str))) (lw:ws.length<1000) (lb:bs.length<1000) (hn:deep<n)
  (h:∀(t:Tr) (S':aA),t.Ok ws bs->t.dep<=deep+1->Ex k S0 S'->Ex k S S'->S'.length=S.length->Q (.d t.d) S'),Fn (a9 n) [.ref k,.ref i,.ref j,.int deep] S Q
 |0,_,_,_,_,_,_,_,_,_,_,_,_,_,_,_,_,hn,_=>absurd hn (Nat.not_lt_zero _)
 | n+1,S,S0,k,i,j,ws,bs,deep,Q,x,hi,hj,hw,hb,lw,lb,hn,h=>by
   have y:Ex k S S:=by obtain⟨a,b,c,hh⟩:=x.pot;exact Ex.refl hh
   have fin:∀(t:Tr) (S':aA),t.Ok ws bs->t.dep<=deep+1->Ex k S S'->Op (settle S t.d S') fun p=>Q p.1 p.2:=fun t S' h1 h2 e=>i_ e x.lt t.noref (da t.low) fun a b c=>h _ _ h1 h2 x.set y.set (by simp)
   refine bF ?_
   unfold sA
   symm
   refine bz y (by decide) (by decide) fun way S1 hway e1 _ l1=> ?_
   symm
   have hw1:=e1.keep _ _ hi hw
   have hb1:=e1.keep _ _ hj hb
   have bare:∀S2,Ex k S S2->T (az (eC (gn (aF (di (a8 (af 1)))) (aF (ay Fx (ao aw (ae (af 0) (ae (cF (.int 3)) ai))) (cF (.int 0))))) (b9 (ao aZ (ae (af 0) (ae (af 1) ai)))) fu)
     (b9 (ao aw (ae (af 0) (ae (ay aJ (cv (bB (ae (cF (.int 3)) (ae (cF (.int 10)) ai)))) (tX intOfD (ae (ay (eB false) (ao aw (ae (af 0) (ae (cF (.int 5)) ai))) (cF (.int 0))) ai))) ai)))))
     [some (.ref k),some (.ref i),some (.ref j),some (.int deep),some (.int way),none] S2 fun o=>match o with|.rt d S'=>Op (settle S d S') fun p=>Q p.1 p.2|_=>False:=by
     intro S2 e2
     have hw2:=e2.keep _ _ hi hw
     have plain:∀S3,Ex k S S3->T (b9 (ao aw (ae (af 0) (ae (ay aJ (cv (bB (ae (cF (.int 3)) (ae (cF (.int 10)) ai)))) (tX intOfD (ae (ay (eB false) (ao aw (ae (af 0) (ae (cF (.int 5)) ai))) (cF (.int 0))) ai))) ai))))
       [some (.ref k),some (.ref i),some (.ref j),some (.int deep),some (.int way),none] S3 fun o=>match o with|.rt d S'=>Op (settle S d S') fun p=>Q p.1 p.2|_=>False:=by
       intro S3 e3
       symm
       refine⟨by decide,?_⟩
       symm
       refine bz (e3.app (G:= [O.lst [D.int 3,D.int 10]])) (by decide) (by decide) fun d S4 hd e4 e4' l4=> ?_
       symm
       refine dj ?_
       symm
       have hnew:S4[S3.length]?=some (.lst [.int 3,.int 10]):=e4'.keep _ _ (by have:=e3.lt;omega) aG
       have hm:∃m:Int,(m=3\/m=10)/\Op (intOfD [D.bl (decide ((d:Int)=0))]) (fun z=>∃r,z=.int r/\jk ([.int 3,.int 10]:List D) r=some (.int m)):=by
         by_cases c:(d:Int)=0
         · exact⟨10,.inr rfl,_,rfl,1,by rw[decide_eq_true c];rfl,rfl⟩
         · exact⟨3,.inl rfl,_,rfl,0,by rw[decide_eq_false c];rfl,rfl⟩
       obtain⟨m,hm,z,e5,r,rfl,e6⟩:=hm
       refine⟨_,e5,?_⟩
       refine dS hnew e6 ?_
       symm
       refine bz e4 (by omega) (by omega) fun v S5 hv e5 _ l5=> ?_
       dsimp only
       exact fin (.num v) _ (by show v<=9;omega) (by show 1<=deep+1;omega) e5
     symm
     refine bR hw2 ?_
     refine⟨⟨rfl,hw2⟩,?_⟩
     dsimp only
     refine aM (fun c=> ?_) (fun c=> ?_)
     · symm
       refine bz e2 (by decide) (by decide) fun d S3 hd e3 _ l3=> ?_
       symm
       refine aM (fun c2=> ?_) (fun c2=> ?_)
       · symm
         have hne:0<(ws.map D.str).length:=by
           cases ws with
           |nil=>simp at c
           |cons a b=>simp
         refine eA e3 hi (e3.keep _ _ hi hw) hne (by simpa using lw) dA ff fun v S4 hv e4 _ l4=> ?_
         obtain⟨z,hz,rfl⟩:=List.mem_map.mp hv
         exact fin (.word z) _ hz (by show 1<=deep+1;omega) e4
       · exact cp (plain S3 e3)
     · rw[if_neg (by decide)]
       exact cp (plain S2 e2)
   have go:∀{R:Res->aA->Prop} {S2:aA},Ex k S S2->1<=deep->(∀(t:Tr) (S':aA),t.Ok ws bs->t.dep<=deep->Ex k S S'->R (.d t.d) S')->Fn (a9 n) [.ref k,.ref i,.ref j,.int ((deep:Int)-1)] S2 R:=by
     intro R S2 e2 hd hR
     have e:((deep:Int)-1)=((deep-1:Nat):Int):=by omega
     rw[e]
     exact g_ n e2 hi hj (e2.keep _ _ hi hw) (e2.keep _ _ hj hb) lw lb (by omega) fun t S' h1 h2 h3 _ _=>hR t S' h1 (by omega) h3
   have rest:∀S2,Ex k S S2->1<=deep->T (az (eC (gn (aF (ay (eB false) (af 4) (cF (.int 3)))) (aF (di (a8 (af 2))))) (b9 (aP (ae (cF (.str "waits")) (ae (ao aZ (ae (af 0) (ae (af 2) ai))) ai)))) fu)
     (az (eC (aF (ay (eB false) (af 4) (cF (.int 4)))) (b9 (aP (ae (cF (.str "not")) (ae (ao (a9 n) (ae (af 0) (ae (af 1) (ae (af 2) (ae (ay j7 (af 3) (cF (.int 1))) ai))))) ai)))) fu)
     (az (aU 5 (ay aJ (cv (bB (ae (cF (.str "plus")) (ae (cF (.str "minus")) (ae (cF (.str "less")) (ae (cF (.str "same")) (ae (cF (.str "both")) ai))))))) (ao aw (ae (af 0) (ae (cF (.int 5)) ai)))))
     (b9 (aP (ae (af 5) (ae (ao (a9 n) (ae (af 0) (ae (af 1) (ae (af 2) (ae (ay j7 (af 3) (cF (.int 1))) ai))))) (ae (ao (a9 n) (ae (af 0) (ae (af 1) (ae (af 2) (ae (ay j7 (af 3) (cF (.int 1))) ai))))) ai))))))))
     [some (.ref k),some (.ref i),some (.ref j),some (.int deep),some (.int way),none] S2 fun o=>match o with|.rt d S'=>Op (settle S d S') fun p=>Q p.1 p.2|_=>False:=by
     intro S2 e2 hd1
     have hb2:=e2.keep _ _ hj hb
     have third:T (az (aU 5 (ay aJ (cv (bB (ae (cF (.str "plus")) (ae (cF (.str "minus")) (ae (cF (.str "less")) (ae (cF (.str "same")) (ae (cF (.str "both")) ai))))))) (ao aw (ae (af 0) (ae (cF (.int 5)) ai)))))
       (b9 (aP (ae (af 5) (ae (ao (a9 n) (ae (af 0) (ae (af 1) (ae (af 2) (ae (ay j7 (af 3) (cF (.int 1))) ai))))) (ae (ao (a9 n) (ae (af 0) (ae (af 1) (ae (af 2) (ae (ay j7 (af 3) (cF (.int 1))) ai))))) ai))))))
       [some (.ref k),some (.ref i),some (.ref j),some (.int deep),some (.int way),none] S2 fun o=>match o with|.rt d S'=>Op (settle S d S') fun p=>Q p.1 p.2|_=>False:=by
       symm
       refine⟨by decide,?_⟩
       symm
       refine bz (e2.app (G:= [O.lst [.str "plus",.str "minus",.str "less",.str "same",.str "both"]])) (by decide) (by decide) fun d S4 hd e4 e4' l4=> ?_
       dsimp only
       obtain⟨o,ho,e5⟩:=DV hd
       refine dS (e4'.keep _ _ (by have:=e2.lt;omega) aG) e5 ?_
       symm
       refine go e4 hd1 fun t1 S5 h1 h2 e5=> ?_
       symm
       refine go e5 hd1 fun t2 S6 h3 h4 e6=> ?_
       symm
       refine⟨by show 3<=sizeLine;decide,?_⟩
       exact fin (.two o t1 t2) _ ⟨ho,h1,h3⟩ (by simp only[Tr.dep];omega) e6
     have second:T (az (eC (aF (ay (eB false) (af 4) (cF (.int 4)))) (b9 (aP (ae (cF (.str "not")) (ae (ao (a9 n) (ae (af 0) (ae (af 1) (ae (af 2) (ae (ay j7 (af 3) (cF (.int 1))) ai))))) ai)))) fu)
       (az (aU 5 (ay aJ (cv (bB (ae (cF (.str "plus")) (ae (cF (.str "minus")) (ae (cF (.str "less")) (ae (cF (.str "same")) (ae (cF (.str "both")) ai))))))) (ao aw (ae (af 0) (ae (cF (.int 5)) ai)))))
       (b9 (aP (ae (af 5) (ae (ao (a9 n) (ae (af 0) (ae (af 1) (ae (af 2) (ae (ay j7 (af 3) (cF (.int 1))) ai))))) (ae (ao (a9 n) (ae (af 0) (ae (af 1) (ae (af 2) (ae (ay j7 (af 3) (cF (.int 1))) ai))))) ai)))))))
       [some (.ref k),some (.ref i),some (.ref j),some (.int deep),some (.int way),none] S2 fun o=>match o with|.rt d S'=>Op (settle S d S') fun p=>Q p.1 p.2|_=>False:=by
       symm
       refine dj ?_
       dsimp only
       refine aM (fun c=> ?_) (fun c=> ?_)
       · symm
         refine go e2 hd1 fun t S5 h1 h2 e5=> ?_
         symm
         refine⟨by show 2<=sizeLine;decide,?_⟩
         exact fin (.no t) _ h1 (by simp only[Tr.dep];omega) e5
       · exact cp third
     symm
     refine dj ?_
     dsimp only
     refine aM (fun c=> ?_) (fun c=> ?_)
     · symm
       refine bR hb2 ?_
       refine⟨⟨rfl,hb2⟩,?_⟩
       dsimp only
       refine aM (fun c=> ?_) (fun c=> ?_)
       · symm
         have hne:0<(bs.map D.str).length:=by
           cases bs with
           |nil=>simp at c
           |cons a b=>simp
         refine eA e2 hj hb2 hne (by simpa using lb) dA ff fun v S4 hv e4 _ l4=> ?_
         obtain⟨z,hz,rfl⟩:=List.mem_map.mp hv
         symm
         refine⟨by show 2<=sizeLine;decide,?_⟩
         exact fin (.waits z) _ hz (by show 1<=deep+1;omega) e4
       · exact cp second
     · rw[if_neg (by decide)]
       exact cp second
   refine aM (fun c=> ?_) (fun c=> ?_)
   · rw[if_pos rfl]
     exact(bare S1 e1).mono fun o ho=>by
       cases o with
       |rt d S'=>exact ho
       |_=>exact ho.elim
   · symm
     refine aM (fun c2=> ?_) (fun c2=> ?_)
     · exact(bare S1 e1).mono fun o ho=>by
         cases o with
         |rt d S'=>exact ho
         |_=>exact ho.elim
     · have hd1:1<=deep:=by
         have:=of_decide_eq_false c
         omega
       refine cp ?_
       exact(rest S1 e1 hd1).mono fun o ho=>by
         cases o with
         |rt d S'=>exact ho
         |_=>exact ho.elim
inductive Rw where
 |put (x:Str) (t:Tr)|unl (t:Tr) (n:Nat)|go (n:Nat)|do_ (g:Option Str) (r d:Str) (t:Tr)|wait (b:Str) (t:Tr)|call (b:Str)|all (b:Str)|tell (t:Tr)
 |take (p:Str)|give (p:Str)|pass (p q:Str)|say (t:Tr)
def Cr:Option Str->D
 |none=>.non
 |some x=>.str x
def Rw.d:Rw->D
 |.put x t=>.tup [.str "put",.str x,t.d]
 |.unl t n=>.tup [.str "unless",t.d,.int n]
 |.go n=>.tup [.str "go",.int n]
 |.do_ g r d t=>.tup [.str "do",Cr g,.str r,.str d,t.d]
 |.wait b t=>.tup [.str "wait",.str b,t.d]
 |.call b=>.tup [.str "call",.str b]
 |.all b=>.tup [.str "all",.str b]
 |.tell t=>.tup [.str "tell",t.d]
 |.take p=>.tup [.str "take",.str p]
 |.give p=>.tup [.str "give",.str p]
 |.pass p q=>.tup [.str "pass",.str p,.str q]
 |.say t=>.tup [.str "say",t.d]
structure Sc where
 own:Bool
 ws:List Str
 ps:List Str
 bs:List Str
 gs:List (Str×Str)
 ts:List Str
def A5(sc:Sc)(t:Tr):Prop:=t.Ok sc.ws sc.bs/\t.dep<=4
def Rw.Ok(sc:Sc)(n:Nat):Rw->Prop
 |.put x t=>x∈sc.ps/\A5 sc t
 |.unl t m=>A5 sc t/\m<=n
 |.go m=>m<=n
 |.do_ g r d t=>(∀x,g=some x->x∈sc.ps)/\(r,d)∈sc.gs/\A5 sc t
 |.wait b t=>sc.own=false/\b∈sc.bs/\A5 sc t
 |.call b=>sc.own=false/\b∈sc.bs
 |.all b=>sc.own=false/\b∈sc.bs
 |.tell t=>sc.own=false/\A5 sc t
 |.take p=>sc.own=true/\p∈sc.ts
 |.give p=>sc.own=true/\p∈sc.ts
 |.pass p q=>sc.own=true/\p∈sc.ts/\q∈sc.ts
 |.say t=>sc.own=true/\A5 sc t
theorem Rw.Ok.mono{sc:Sc}{n m:Nat}{r:Rw}(h:r.Ok sc n)(l:n<=m):r.Ok sc m:=by
 cases r with
 |unl t k=>exact⟨h.1,Nat.le_trans h.2 l⟩
 |go k=>exact Nat.le_trans h l
 |_=>exact h
theorem Rw.low(r:Rw):bJ 0 r.d=true:=by
 cases r with
 |do_ g r d t=>cases g <;>simp only[Rw.d,bJ,bG,Cr,t.low,Bool.and_true,Bool.true_and]
 |_=>simp only[Rw.d,bJ,bG,Tr.low,Bool.and_true,Bool.true_and]
def qR(sc:Sc)(rs:List Rw):Prop:=∀r∈rs,r.Ok sc rs.length
theorem Bo{S S0:aA}{k i j:Nat}{at_:Nat}{sc:Sc}{Q:Res->aA->Prop}(x:Ex k S0 S)(hi:i≠k)(hj:j≠k)(hw:S[i]?=some (.lst (sc.ws.map D.str)))(hb:S[j]?=some (.lst (sc.bs.map D.str)))(lw:sc.ws.length<1000)(lb:sc.bs.length<1000)(b0:0<sc.bs.length)(hg:(("given":Str))∈sc.ws)(ho:sc.own=false)
  (h:∀(rs:List Rw) (S':aA),(∀r∈rs,r.Ok sc (at_+rs.length))->1<=rs.length->rs.length<=3->Ex k S0 S'->Ex k S S'->S'.length=S.length->Q (.l (rs.map Rw.d)) S'):Fn gV [.ref k,.ref i,.ref j,.int at_] S Q:=by
 have y:Ex k S S:=by obtain⟨a,b,c,hh⟩:=x.pot;exact Ex.refl hh
 have fin:∀(rs:List Rw) (S':aA),(∀r∈rs,r.Ok sc (at_+rs.length))->1<=rs.length->rs.length<=3->Ex k S S'->Op (dD S (rs.map Rw.d) S') fun p=>Q p.1 p.2:=fun rs S' h1 h2 h2' e=>DS e x.lt (aX fun r _=>da r.low) fun a b c=>h _ _ h1 h2 h2' x.set y.set (by simp)
 refine bF ?_
 unfold nH
 symm
 refine g_ 4 (deep:=1) y hi hj hw hb lw lb (by decide) fun t S1 h1 h2 e1 _ l1=> ?_
 symm
 refine⟨by show 3<=sizeLine;decide,?_⟩
 symm
 refine bz (e1.app (G:= [O.lst [.int 0,.str "given",t.d]])) (by decide) (by decide) fun d S2 hd e2 e2' l2=> ?_
 dsimp only
 have ht:∃t2:Tr,A5 sc t2/\jk ([.int 0,.str "given",t.d]:List D) (d:Int)=some t2.d:=by
  rcases d with _|_|_|d
  ·exact⟨.num 0,⟨by show 0<=9;omega,by show 1<=4;omega⟩,rfl⟩
  ·exact⟨.word "given",⟨hg,by show 1<=4;omega⟩,rfl⟩
  ·exact⟨t,⟨h1,by omega⟩,rfl⟩
  ·omega
 obtain⟨t2,ht2,ha⟩:=ht
 refine dS (e2'.keep _ _ (by have:=e1.lt;omega) aG) ha ?_
 symm
 refine eA e2 hj (e2.keep _ _ hj hb) (by simpa using b0) (by simpa using lb) dA ff fun v S3 hv e3 _ l3=> ?_
 obtain⟨z,hz,rfl⟩:=List.mem_map.mp hv
 symm
 refine⟨by show 3<=sizeLine;decide,?_⟩
 symm
 refine bz e3 (by decide) (by decide) fun way S4 hway e4 _ l4=> ?_
 symm
 refine dj ?_
 dsimp only
 refine aM (fun c=> ?_) (fun c=> ?_)
 ·symm
  refine⟨by show 1<=sizeLine;decide,?_⟩
  refine fin [.wait z t2] _ (fun r hr=> ?_) (by simp) (by simp) e4
  rw[List.mem_singleton.mp hr]
  exact⟨ho,hz,ht2⟩
 ·symm
  refine g_ 4 (deep:=2) e4 hi hj (e4.keep _ _ hi hw) (e4.keep _ _ hj hb) lw lb (by decide) fun t3 S5 h3 h4 e5 _ l5=> ?_
  symm
  refine⟨by show 2<=sizeLine;decide,?_⟩
  symm
  refine⟨by show 3<=sizeLine;decide,?_⟩
  symm
  refine⟨by show 2<=sizeLine;decide,?_⟩
  symm
  have hw3:∃g:Nat,(g=at_\/g=at_+3)/\jk ([.int at_,.int ((at_:Int)+3)]:List D) ((way:Int)-1)=some (.int (g:Nat)):=by
   have:=of_decide_eq_false c
   rcases way with _|_|_|way
   ·exact absurd rfl this
   ·exact⟨at_,.inl rfl,rfl⟩
   ·exact⟨at_+3,.inr rfl,rfl⟩
   ·omega
  obtain⟨g,hg',hga⟩:=hw3
  refine dS aG hga ?_
  symm
  refine⟨by show 2<=sizeLine;decide,?_⟩
  symm
  refine⟨by show 3<=sizeLine;decide,?_⟩
  refine fin [.unl (.no t3) (at_+3),.wait z t2,.go g] _ (fun r hr=> ?_) (by simp) (by simp) e5.app
  simp only[List.mem_cons,List.not_mem_nil,or_false] at hr
  have hl:([.unl (.no t3) (at_+3),.wait z t2,.go g]:List Rw).length=3:=rfl
  rcases hr with rfl|rfl|rfl
  ·exact⟨⟨h3,by show t3.dep+1<=4;omega⟩,by rw[hl];exact Nat.le_refl _⟩
  ·exact⟨ho,hz,ht2⟩
  ·show g<=at_+3
   omega
def c8(g:Str×Str):D:=.tup [.str g.1,.str g.2]
theorem v9{gs:List (Str×Str)}:∀d∈gs.map c8,(∀k,d≠.ref k)/\bJ 0 d=true:=fun d hd=>by
 obtain⟨a,_,rfl⟩:=List.mem_map.mp hd
 exact⟨fun k z=>(nomatch z),rfl⟩
theorem zk{gs:List (Str×Str)}{m:Nat}:∀d∈gs.map c8,bJ m d=true:=fun d hd=>by
 obtain⟨a,_,rfl⟩:=List.mem_map.mp hd
 rfl
theorem DJ{S S0:aA}{k g t i:Nat}{sc:Sc}{Q:Res->aA->Prop}{n:Nat}(x:Ex k S0 S)(hg:g≠k)(ht:t≠k)(hi:i≠k)(gg:S[g]?=some (.lst (sc.gs.map c8)))(gt:S[t]?=some (.lst (sc.ps.map D.str)))(gw:S[i]?=some (.lst (sc.ws.map D.str)))
  (g0:0<sc.gs.length) (lg:sc.gs.length<1000) (lt:sc.ps.length<900) (lw:sc.ws.length<1000)
  (h:∀(r:Rw) (S':aA),r.Ok sc n->Ex k S0 S'->Ex k S S'->S'.length=S.length->Q (.d r.d) S'):Fn ik [.ref k,.ref g,.ref t,.ref i] S Q:=by
 have y:Ex k S S:=by obtain⟨a,b,c,hh⟩:=x.pot;exact Ex.refl hh
 refine bF ?_
 unfold vt
 symm
 refine eA y hg gg (by simpa using g0) (by simpa using lg) v9 zk fun v S1 hv e1 _ l1=> ?_
 obtain⟨⟨rm,dd⟩,hm,rfl⟩:=List.mem_map.mp hv
 dsimp only
 refine dX rfl (aq (aR (aq (aR (bg ?_)))))
 symm
 refine tF ?_
 symm
 refine⟨by decide,?_⟩
 symm
 refine bR (e1.keep _ _ ht gt) ?_
 refine⟨⟨rfl,rfl,trivial,by simp only[lQm,List.length_cons,List.length_nil];exact Nat.le_trans (show 0+1+sc.ps.length<=1000 by omega) (by decide)⟩,?_⟩
 symm
 have hnr:∀d∈([.non]++sc.ps.map D.str:List D),(∃o:Option Str,d=Cr o/\∀z,o=some z->z∈sc.ps):=fun d hd=>by
  rcases mQa.mp hd with hd|hd
  ·rw[List.mem_singleton.mp hd]
   exact⟨none,rfl,fun z hz=>by cases hz⟩
  ·obtain⟨a,ha,rfl⟩:=List.mem_map.mp hd
   exact⟨some a,rfl,fun z hz=>by cases hz;exact ha⟩
 have hnr2:∀(m:Nat),∀d∈([.non]++sc.ps.map D.str:List D),(∀k,d≠.ref k)/\bJ m d=true:=fun m d hd=>by
  obtain⟨o,rfl,_⟩:=hnr d hd
  cases o <;>exact⟨fun k z=>(nomatch z),rfl⟩
 refine eA (i:=S1.length) (e1.app (G:= [O.lst ([.non]++sc.ps.map D.str)])) (by have:=e1.lt;omega) aG (by simp) (by simp;omega) (hnr2 0) (fun d hd=>(hnr2 _ d hd).2) fun v2 S2 hv2 e2 _ l2=> ?_
 obtain⟨o,rfl,ho⟩:=hnr v2 hv2
 symm
 refine⟨by decide,?_⟩
 symm
 refine g_ 4 (deep:=1) (bs:= []) (e2.app (G:= [O.lst []])) hi (j:=S2.length) (by have:=e2.lt;omega) (aS (e2.keep _ _ hi gw)) aG lw (by decide) (by decide) fun t3 S3 h3 h4 e3 _ l3=> ?_
 symm
 refine⟨by show 5<=sizeLine;decide,?_⟩
 have hsub:t3.Ok sc.ws sc.bs:=by
  have gen:∀t:Tr,t.Ok sc.ws []->t.Ok sc.ws sc.bs:=by
   intro t
   induction t with
   |num n=>exact id
   |word x=>exact id
   |waits b=>intro z;exact absurd z (by simp[Tr.Ok])
   |no t ih=>exact ih
   |two o a b iha ihb=>exact fun z=>⟨z.1,iha z.2.1,ihb z.2.2⟩
  exact gen t3 h3
 refine i_ (d:=(Rw.do_ o rm dd t3).d) e3 x.lt (fun k z=>(nomatch z)) (da (Rw.low _)) fun a b c=> ?_
 exact h (.do_ o rm dd t3) _ ⟨ho,hm,hsub,by omega⟩ x.set y.set (by simp)
end W28
namespace DL
open PySem PySem.Spec L2
theorem sX{Γ:cE}{S:aA}{f:bq}{g:eR}{Q:D->aA->Prop}(h:E f Γ S fun x S1=>∃k ds0,x=.ref k/\S1[k]?=some (.lst ds0)/\E g Γ S1 fun p S2=>∃ds,S2[k]?=some (.lst ds)/\(p.2.isM=true/\ds.length+p.1.length<=sizeLine)/\Q .non (S2.set k (.lst (ds++p.1)))):E (oM f g) Γ S Q:=by
 obtain⟨x,S1,e1,k,ds0,rfl,h1,p,S2,e2,ds,h2,h3,q⟩:=h
 exact⟨_,_,by unfold oM;rw[e1];simp only[Option.bind_some,e2,h1,h2];rw[if_pos h3],q⟩
theorem pA{Γ:cE}{S:aA}{f g:bq}{Q:D->aA->Prop}(h:E f Γ S fun d S1=>∃k,d=.bl k/\if k=true then E g Γ S1 Q else Q (.bl false) S1):E (rR f g) Γ S Q:=by
 obtain⟨d,S1,e1,k,rfl,q⟩:=h
 cases k with
 |true=>obtain⟨j,S2,e2,q⟩:=(q:E g Γ S1 Q);exact⟨j,S2,by unfold rR;rw[e1];exact e2,q⟩
 |false=>exact⟨_,S1,by unfold rR;rw[e1];rfl,q⟩
theorem eD{ds:List D}{y:D}{Q:List D×D->Prop}(h:ds.length<sizeLine)(q:Q (ds++ [y],.non)):Op (gH ds [y]) Q:=⟨_,by simp only[gH];rw[if_pos h],q⟩
end DL
namespace W28
open PySem PySem.Spec L2 DL
def fq:List Str:= ["given"]
theorem oZ{Γ:cE}{S:aA}{i j l:Nat}{w m:Int}{ds:List D}{Q:Bool->aA->Prop}(hi:Γ[i]?=some (some (.int w)))(hj:Γ[j]?=some (some (.ref l)))(hS:S[l]?=some (.lst ds))(q:∀c,(c=true->0<ds.length)->Q c S):
  E (gn (aF (ay AY (af i) (cF (.int m)))) (aF (di (a8 (af j))))) Γ S Q:=by
 refine uh (fo (wq (cN hi (Fz (Ez ?_)))))
 refine aM (fun c=> ?_) fun c=>q false fun z=>(nomatch z)
 refine fo (yX (qY (cN hj (bR hS ⟨⟨rfl,hS⟩,q _ fun z=> ?_⟩))))
 cases ds with
 |nil=>cases z
 |cons a b=>simp
theorem pj{Γ:cE}{S:aA}{i j l:Nat}{w m:Int}{ds:List D}{Q:Bool->aA->Prop}(hi:Γ[i]?=some (some (.int w)))(hj:Γ[j]?=some (some (.ref l)))(hS:S[l]?=some (.lst ds))(q:∀c,(c=true->0<ds.length)->Q c S):
  E (gn (aF (ay (eB false) (af i) (cF (.int m)))) (aF (di (a8 (af j))))) Γ S Q:=by
 refine uh (fo (wq (cN hi (Fz (dj ?_)))))
 refine aM (fun c=> ?_) fun c=>q false fun z=>(nomatch z)
 refine fo (yX (qY (cN hj (bR hS ⟨⟨rfl,hS⟩,q _ fun z=> ?_⟩))))
 cases ds with
 |nil=>cases z
 |cons a b=>simp
theorem DP{Γ:cE}{S:aA}{i:Nat}{w m:Int}{Q:Bool->aA->Prop}(hi:Γ[i]?=some (some (.int w)))(q:∀c,Q c S):E (aF (ay (eB false) (af i) (cF (.int m)))) Γ S Q:=fo (wq (cN hi (Fz (dj (q _)))))
theorem Cj{Γ:cE}{S:aA}{i j:Nat}{m s:Str}{w n:Int}{Q:D->aA->Prop}(hi:Γ[i]?=some (some (.str m)))(hj:Γ[j]?=some (some (.int w)))(q:∀b:Nat,b<=1->Q (.int b) S):
  E (tX intOfD (ae (rR (ay (eB false) (af i) (cF (.str s))) (ay (eB false) (af j) (cF (.int n)))) ai)) Γ S Q:=by
 refine Hy (Fk (pA (wq (cN hi (Fz (gI ⟨_,rfl,?_⟩))))))
 have fin:∀b:Bool,E ai Γ S fun ds S2=>Op (intOfD (.bl b::ds)) fun d=>Q d S2:=fun b=>FT (by
  cases b with
  |true=>exact⟨_,rfl,q 1 (by omega)⟩
  |false=>exact⟨_,rfl,q 0 (by omega)⟩)
 refine aM (fun c=> ?_) (fun c=> ?_)
 ·exact wq (cN hj (Fz (dj (fin _))))
 ·exact fin false
theorem CS{S S0:aA}{k t b g:Nat}{manner:Str}{things bells:List Str}{goals:List (Str×Str)}{Q:Res->aA->Prop}(x:Ex k S0 S)(nt:t≠k)(nb:b≠k)(ng:g≠k)(gt:S[t]?=some (.lst (things.map D.str)))(gb:S[b]?=some (.lst (bells.map D.str)))(gg:S[g]?=some (.lst (goals.map c8)))
  (lt:things.length<500) (lb:bells.length<500) (lg:goals.length<500)
  (h:∀(rs:List Rw) (S':aA),qR ⟨false,things++fq,things,bells,goals,[]⟩ rs->0<rs.length->rs.length<=12->Ex k S0 S'->Ex k S S'->S'.length=S.length->Q (.d (.tup (rs.map Rw.d))) S'):
  Fn iE [.ref k,.tup [.str manner,.ref t,.ref b],.ref g,.int 4] S Q:=by
 have y:Ex k S S:=by obtain⟨a,b,c,hh⟩:=x.pot;exact Ex.refl hh
 have kl:=x.lt
 have tl:=(gQs.mp gt).1
 have bl:=(gQs.mp gb).1
 have gl:=(gQs.mp gg).1
 generalize hsc:(⟨false,things++fq,things,bells,goals,[]⟩:Sc)=sc at h
 have so:sc.own=false:=by rw[←hsc]
 have sw:sc.ws=things++fq:=by rw[←hsc]
 have sp:sc.ps=things:=by rw[←hsc]
 have sb:sc.bs=bells:=by rw[←hsc]
 have sg:sc.gs=goals:=by rw[←hsc]
 refine bF ?_
 unfold qD
 symm
 refine dX rfl (aq (aR (aq (aR (aq (aR (bg ?_)))))))
 symm
 refine tF ?_
 symm
 refine bR gt ?_
 symm
 refine⟨by decide,?_⟩
 refine⟨⟨rfl,rfl,gt,by simp only[lQm,List.length_cons,List.length_nil];exact Nat.le_trans (show things.length+(0+1)<=1000 by omega) (by decide)⟩,?_⟩
 symm
 refine⟨by decide,?_⟩
 have ew:things.map D.str++ [D.str "given"]=sc.ws.map D.str:=by rw[sw];simp[fq]
 rw[ew]
 have e0:Ex k S (S++ [O.lst (sc.ws.map D.str)]++ [O.lst []]):=y.app.app
 generalize hr:S.length+1=r
 have hlen0:(S++ [O.lst (sc.ws.map D.str)]).length=r:=by simp[hr]
 rw[hlen0]
 have iw:(S++ [O.lst (sc.ws.map D.str)]++ [O.lst []])[S.length]?=some (.lst (sc.ws.map D.str)):=aS aG
 have ir:(S++ [O.lst (sc.ws.map D.str)]++ [O.lst []])[r]?=some (.lst []):=by rw[←hlen0];exact aG
 have il:(S++ [O.lst (sc.ws.map D.str)]++ [O.lst []]).length=r+1:=by simp[←hr]
 generalize (S++ [O.lst (sc.ws.map D.str)]++ [O.lst []])=S1 at e0 iw ir il⊢
 refine bC (fJ ?_)
 symm
 refine bz e0 (by decide) (by decide) fun many S2 hmany e2 e2' l2=> ?_
 symm
 refine⟨_,rfl,⟨by omega,by omega⟩,?_⟩
 have nr:r≠k:=by omega
 have nw:S.length≠k:=by omega
 let Inv:Nat->cE->aA->Prop:=fun n Γ' S'=>∃(o9 o10 o11:Option D) (rs:List Rw),Γ'= [some (.ref k),some (.tup [.str manner,.ref t,.ref b]),some (.ref g),some (.int 4),some (.str manner),some (.ref t),some (.ref b),some (.ref S.length),some (.ref r),o9,o10,o11]∧
  Ex k S S'/\S'[S.length]?=some (.lst (sc.ws.map D.str))/\S'[r]?=some (.lst (rs.map Rw.d))/\rs.length<=3*n/\n<=rs.length/\n<=4/\∀q∈rs,q.Ok sc rs.length
 refine⟨Inv,⟨_,_,_,[],rfl,e2,e2'.keep _ _ nw iw,e2'.keep _ _ nr ir,by simp,by simp,by omega,by simp⟩,fun _ _ _ _=>trivial,?_,?_⟩
 ·rintro n d Γ' S3 hd ⟨o9,o10,o11,rs,rfl,e3,hw3,hr3,hl1,hl2,hn4,hok⟩
  have hn4':n<4:=by
   have:=(gQs.mp hd).1
   simp only[fc,lQm,List.length_range] at this
   omega
  refine aR ?_
  symm
  refine bz e3 (by decide) (by decide) fun way S4 hway e4 e4' l4=> ?_
  dsimp only
  have hw4:=e4'.keep _ _ nw hw3
  have hr4:=e4'.keep _ _ nr hr3
  have gt4:=e4.keep _ _ nt gt
  have gb4:=e4.keep _ _ nb gb
  have gg4:=e4.keep _ _ ng gg
  rw[←sp] at gt4
  rw[←sb] at gb4
  rw[←sg] at gg4
  have more:∀(ms:List Rw) (o11':Option D) (S5:aA),Ex k S S5->S5[S.length]?=some (.lst (sc.ws.map D.str))->S5[r]?=some (.lst (rs.map Rw.d++ms.map Rw.d))->1<=ms.length->ms.length<=3->(∀q∈ms,q.Ok sc (rs.length+ms.length))→
    Inv (n+1) [some (.ref k),some (.tup [.str manner,.ref t,.ref b]),some (.ref g),some (.int 4),some (.str manner),some (.ref t),some (.ref b),some (.ref S.length),some (.ref r),some d,some (.int way),o11'] S5:=by
   intro ms o11' S5 e5 h1 h2 h3 h4 h5
   refine⟨_,_,_,rs++ms,rfl,e5,h1,by rw[h2,List.map_append],by rw[lQa];omega,by rw[lQa];omega,by omega,fun q hq=> ?_⟩
   rw[lQa]
   rcases mQa.mp hq with hq|hq
   ·exact(hok q hq).mono (by omega)
   ·exact h5 q hq
  have small:∀m:Nat,m<=100->m<sizeLine:=fun m hm=>Nat.lt_of_le_of_lt hm (by decide)
  have l9:rs.length<=9:=by omega
  have lr:(rs.map Rw.d).length=rs.length:=by simp
  have sok:∀{t':Tr},t'.Ok sc.ws sc.bs->t'.dep<=3->A5 sc t':=fun h1 h2=>⟨h1,by omega⟩
  have lw':sc.ws.length<1000:=by rw[sw];simp[fq];omega
  have lb':sc.bs.length<1000:=by rw[sb];omega
  have lp':sc.ps.length<900:=by rw[sp];omega
  have lg':sc.gs.length<1000:=by rw[sg];omega
  refine dU (oZ rfl rfl gb4 fun c hc=>aM (fun c1=> ?_) (fun c1=> ?_))
  ·
   refine gB (sX ?_)
   symm
   refine⟨_,_,rfl,hr4,?_⟩
   symm
   refine bR hr4 ?_
   symm
   rw[lr]
   refine Bo (sc:=sc) e4 nw nb hw4 gb4 lw' lb' (by simpa using hc c1) (by rw[sw];simp[fq]) so fun ms S5 h1 h1' h2 e5 e5' l5=> ?_
   dsimp only
   have hr5:=e5'.keep _ _ nr hr4
   have hlen:=ms.length
   refine⟨_,hr5,⟨rfl,?_⟩,?_⟩
   ·simp only[lQm]
    exact nQl (small _ (by omega))
   ·exact more ms _ _ (e5.put (by omega) kl) (eE (by omega) (e5'.keep _ _ nw hw4)) (cz hr5) h1' h2 h1
  refine dU (oZ rfl rfl gb4 fun c hc=>aM (fun c1=> ?_) (fun c1=> ?_))
  ·refine bC (Ay ?_)
   symm
   refine⟨by decide,?_⟩
   refine Cj rfl rfl fun v hv=> ?_
   have hc2:∃(f:Str->Rw) (s:Str),(∀z,(f z).d=.tup [.str s,.str z])/\(∀z n,z∈sc.bs->(f z).Ok sc n)/\jk ([.str "call",.str "all"]:List D) (v:Int)=some (.str s):=by
    rcases v with _|_|v
    ·exact⟨.call,"call",fun _=>rfl,fun z n hz=>⟨so,hz⟩,rfl⟩
    ·exact⟨.all,"all",fun _=>rfl,fun z n hz=>⟨so,hz⟩,rfl⟩
    ·omega
   obtain⟨f,s,hf,hfo,hs⟩:=hc2
   refine dS aG hs ?_
   refine gB (ji ?_)
   symm
   refine⟨_,_,rfl,aS hr4,?_⟩
   symm
   refine eA (e4.app (G:= [O.lst [.str "call",.str "all"]])) nb (aS gb4) (hc c1) (by simp;omega) dA ff fun v2 S5 hv2 e5 e5' l5=> ?_
   obtain⟨z,hz,rfl⟩:=List.mem_map.mp hv2
   symm
   refine⟨by show 2<=sizeLine;decide,?_⟩
   symm
   have hr5:=e5'.keep _ _ nr (aS hr4)
   refine⟨_,hr5,eD (small _ (by rw[lr];omega)) ?_⟩
   refine more [f z] _ _ (e5.put (by omega) kl) (eE (by omega) (e5'.keep _ _ nw (aS hw4))) ?_ (by simp) (by simp) fun q' hq'=>by rw[List.mem_singleton.mp hq'];exact hfo _ _ hz
   rw[cz hr5]
   simp[hf]
  refine dU (pj rfl rfl gg4 fun c hc=>aM (fun c1=> ?_) (fun c1=> ?_))
  ·refine gB (ji ?_)
   symm
   refine⟨_,_,rfl,hr4,?_⟩
   symm
   refine DJ (n:=rs.length+1) (sc:=sc) e4 ng nt nw gg4 gt4 hw4 (by simpa using hc c1) lg' lp' lw' fun q S5 h1 e5 e5' l5=> ?_
   symm
   have hr5:=e5'.keep _ _ nr hr4
   refine⟨_,hr5,eD (small _ (by rw[lr];omega)) ?_⟩
   exact more [q] _ _ (e5.put (by omega) kl) (eE (by omega) (e5'.keep _ _ nw hw4)) (cz hr5) (by simp) (by simp) fun q' hq'=>by rw[List.mem_singleton.mp hq'];exact h1
  refine dU (DP rfl fun c=>aM (fun c1=> ?_) (fun c1=> ?_))
  ·refine bC (gB (ji ?_))
   symm
   refine⟨_,_,rfl,hr4,?_⟩
   symm
   refine g_ 4 (deep:=2) e4 nw nb hw4 gb4 lw' lb' (by decide) fun t3 S5 h3 h4 e5 e5' l5=> ?_
   symm
   have hr5:=e5'.keep _ _ nr hr4
   refine bR hr5 ?_
   symm
   refine⟨by show 3<=sizeLine;decide,?_⟩
   symm
   refine⟨_,hr5,eD (small _ (by rw[lr];omega)) ?_⟩
   dsimp only
   refine gB (ji ?_)
   symm
   refine⟨_,_,rfl,cz hr5,?_⟩
   symm
   refine bz (e5.put (r:=r) (by omega) kl) (by decide) (by decide) fun v S6 hv e6 e6' l6=> ?_
   symm
   refine⟨by show 2<=sizeLine;decide,?_⟩
   symm
   have hr6:=e6'.keep _ _ nr (cz hr5)
   refine⟨_,hr6,eD (small _ (by simp;omega)) ?_⟩
   refine more [.unl t3 (rs.length+2),.tell (.num v)] _ _ (e6.put (by omega) kl) (eE (by omega) (e6'.keep _ _ nw (eE (by omega) (e5'.keep _ _ nw hw4)))) ?_ (by simp) (by simp) fun q hq=> ?_
   ·rw[cz hr6]
    simp[Rw.d,Tr.d]
   ·simp only[List.mem_cons,List.not_mem_nil,or_false] at hq
    rcases hq with rfl|rfl
    ·exact⟨sok h3 (by omega),by show rs.length+2<=rs.length+2;omega⟩
    ·exact⟨so,by show v<=9;omega,by show 1<=4;omega⟩
  refine dU (oZ rfl rfl gt4 fun c hc=>aM (fun c1=> ?_) (fun c1=> ?_))
  ·refine gB (ji ?_)
   symm
   refine⟨_,_,rfl,hr4,?_⟩
   symm
   refine eA e4 nt gt4 (hc c1) (by simp;omega) dA ff fun v S5 hv e5 e5' l5=> ?_
   obtain⟨z,hz,rfl⟩:=List.mem_map.mp hv
   symm
   refine g_ 4 (deep:=2) e5 nw nb (e5'.keep _ _ nw hw4) (e5'.keep _ _ nb gb4) lw' lb' (by decide) fun t3 S6 h3 h4 e6 e6' l6=> ?_
   symm
   refine⟨by show 3<=sizeLine;decide,?_⟩
   symm
   have hr6:=e6'.keep _ _ nr (e5'.keep _ _ nr hr4)
   refine⟨_,hr6,eD (small _ (by rw[lr];omega)) ?_⟩
   exact more [.put z t3] _ _ (e6.put (by omega) kl) (eE (by omega) (e6'.keep _ _ nw (e5'.keep _ _ nw hw4))) (cz hr6) (by simp) (by simp) fun q' hq'=>by rw[List.mem_singleton.mp hq'];exact⟨hz,sok h3 (by omega)⟩
  ·refine gB (ji ?_)
   symm
   refine⟨_,_,rfl,hr4,?_⟩
   symm
   refine g_ 4 (deep:=1) e4 nw nb hw4 gb4 lw' lb' (by decide) fun t3 S6 h3 h4 e6 e6' l6=> ?_
   symm
   refine⟨by show 2<=sizeLine;decide,?_⟩
   symm
   have hr6:=e6'.keep _ _ nr hr4
   refine⟨_,hr6,eD (small _ (by rw[lr];omega)) ?_⟩
   exact more [.tell t3] _ _ (e6.put (by omega) kl) (eE (by omega) (e6'.keep _ _ nw hw4)) (cz hr6) (by simp) (by simp) fun q' hq'=>by rw[List.mem_singleton.mp hq'];exact⟨so,sok h3 (by omega)⟩
 ·rintro Γ' S3 ⟨o9,o10,o11,rs,rfl,e3,hw3,hr3,hl1,hl2,hn4,hok⟩
  have hlen:(fc 0 (1+(many:Int))).length=many+1:=by simp only[fc,lQm,List.length_range];omega
  rw[hlen] at hl1 hl2 hn4
  symm
  refine bR hr3 ?_
  refine⟨rfl,?_⟩
  dsimp only
  refine i_ e3 x.lt (fun k z=>(nomatch z)) (by simp only[bJ];exact aX fun q _=>da q.low) fun a b c=> ?_
  exact h rs _ hok (by omega) (by omega) x.set y.set (by simp)
end W28
namespace DL
open PySem PySem.Spec L2
theorem Hm{Γ' Γ0:cE}{d:D}(h:Γ'.set 0 none=Γ0.set 0 none):Γ'.set 0 (some d)=Γ0.set 0 (some d):=by
 have:=congrArg (fun Γ:cE=>Γ.set 0 (some d)) h
 simpa using this
theorem x8{Γ:cE}{S:aA}{js:List (Option Nat)}{f:eR}{elt:bq}{Q:List D->aA->Prop}(F:D->D)(h:E f Γ S fun p S1=>p.2.stays S1 p.1/\p.1.length<=1000/\(∀d∈p.1,E elt ((lj js Γ).set 0 (some d)) S1 fun y S2=>y=F d/\S2=S1)/\Q (p.1.map F) S1):
  E (cC js (jm f) (bO 0) cX elt) Γ S Q:=by
 refine jx (qX (h.mono fun p S1 hp=> ?_))
 obtain⟨hs,hl,he,q⟩:=hp
 refine⟨fun n Γ' S' acc=>S'=S1/\acc=(p.1.take n).map F/\Γ'.set 0 none=(lj js Γ).set 0 none,⟨rfl,rfl,rfl⟩,fun n Γ' S' acc h=>by rw[h.1];exact hs,fun n d Γ' S' acc hd h=> ?_,fun Γ' S' acc h=> ?_⟩
 ·obtain⟨rfl,rfl,h3⟩:=h
  refine aR (uX ?_)
  rw[if_pos rfl,Hm h3]
  refine(he d (mQg hd)).mono fun y S2 qr=> ?_
  obtain⟨e1,e2⟩:=qr
  subst e1 e2
  have hn:=(gQs.mp hd).1
  refine⟨?_,rfl,?_,by simp⟩
  ·rw[lQm,List.length_take]
   exact bh (by omega)
  ·rw[List.take_add_one,hd]
   simp
 ·obtain⟨rfl,rfl,_⟩:=h
  rw[List.take_length]
  exact q
end DL
namespace W28
open PySem PySem.Spec L2 DL
def rj(p:Str×Nat):D:=.tup [.str p.1,.int p.2]
def BJ(p:Str×Str):D:=.tup [.str p.1,.str p.2]
def iz(p:Str×List Rw):D:=.tup [.str p.1,.tup (p.2.map Rw.d)]
theorem yJ{Γ:cE}{S S0:aA}{k j l:Nat}{m:Nat}{ws:List Str}{Q:List D->aA->Prop}(x:Ex k S0 S)(h0:Γ.getD 0 none=some (.ref k))(hj:Γ[j]?=some (some (.ref l)))(hl:S[l]?=some (.lst (ws.map D.str)))(nl:l≠k)(m0:0<m)(m1:m<1000)(lw:ws.length<=1000)
  (h:∀(ps:List (Str×Nat)) (S':aA),ps.map (·.1)=ws->(∀p∈ps,p.2<m)->Ex k S0 S'->Ex k S S'->S'.length=S.length->Q (ps.map rj) S'):
  E (cC [none,some 0] (jm (a8 (af j))) (bO 0) cX (aP (ae (af 0) (ae (ao aw (ae (af 1) (ae (cF (.int m)) ai))) ai)))) Γ S Q:=by
 have y:Ex k S S:=by obtain⟨a,b,c,hh⟩:=x.pot;exact Ex.refl hh
 refine jx (qX (qY (cN hj (bR hl ?_))))
 refine⟨fun n Γ' S' acc=>∃(o:Option D) (ps:List (Str×Nat)),Γ'= [o,some (.ref k)]/\Ex k S0 S'/\Ex k S S'/\S'.length=S.length/\ps.map (·.1)=ws.take n/\(∀p∈ps,p.2<m)/\acc=ps.map rj,⟨none,[],by show [none,Γ.getD 0 none]=_;rw[h0],x,y,rfl,rfl,by simp,rfl⟩,?_,?_,?_⟩
 ·rintro n Γ' S' acc ⟨o,ps,_,_,e,_⟩
  exact e.keep _ _ nl hl
 ·rintro n d Γ' S' acc hd ⟨o,ps,rfl,e0,e1,el,h1,h2,rfl⟩
  obtain⟨z,hz,rfl⟩:∃z,ws[n]?=some z/\d=.str z:=by
   rw[gQm] at hd
   obtain⟨z,hz,e⟩:=oQm.mp hd
   exact⟨z,hz,e.symm⟩
  symm
  rw[if_pos rfl]
  symm
  refine bz e0 (by omega) (by omega) fun v S2 hv e2 e2' l2=> ?_
  symm
  refine⟨by show 2<=sizeLine;decide,?_⟩
  have hn:=(gQs.mp hz).1
  have hlen:ps.length=n:=by
   have:=congrArg List.length h1
   rw[lQm,List.length_take] at this
   omega
  refine⟨?_,_,ps++ [(z,v)],rfl,e2,e1.trans e2',by omega,?_,fun p hp=> ?_,by simp[rj]⟩
  ·rw[lQm]
   exact bh (by omega)
  ·rw[List.map_append,h1,List.take_add_one,hz]
   rfl
  ·rcases mQa.mp hp with hp|hp
   ·exact h2 p hp
   ·rw[List.mem_singleton.mp hp]
    show v<m
    omega
 ·rintro Γ' S' acc ⟨o,ps,rfl,e0,e1,el,h1,h2,rfl⟩
  exact h ps S' (by rw[h1];simp) h2 e0 e1 el
theorem EB{Γ:cE}{S S0:aA}{k j l:Nat}{ws:List Str}{Q:List D->aA->Prop}(x:Ex k S0 S)(h0:Γ.getD 0 none=some (.ref k))(hj:Γ[j]?=some (some (.ref l)))(hl:S[l]?=some (.lst (ws.map D.str)))(nl:l≠k)(lw:ws.length<=1000)
  (h:∀(ps:List (Str×Str)) (S':aA),ps.map (·.1)=ws->(∀p∈ps,p.2="row" \/p.2="turns")->Ex k S0 S'->Ex k S S'->Q (ps.map BJ) S'):
  E (cC [none,some 0] (jm (a8 (af j))) (bO 0) cX (aP (ae (af 0) (ae (ay aJ (cv (bB (ae (cF (.str "row")) (ae (cF (.str "turns")) ai)))) (ao aw (ae (af 1) (ae (cF (.int 2)) ai)))) ai)))) Γ S Q:=by
 have y:Ex k S S:=by obtain⟨a,b,c,hh⟩:=x.pot;exact Ex.refl hh
 refine jx (qX (qY (cN hj (bR hl ?_))))
 refine⟨fun n Γ' S' acc=>∃(o:Option D) (ps:List (Str×Str)),Γ'= [o,some (.ref k)]/\Ex k S0 S'/\Ex k S S'/\ps.map (·.1)=ws.take n/\(∀p∈ps,p.2="row" \/p.2="turns")/\acc=ps.map BJ,⟨none,[],by show [none,Γ.getD 0 none]=_;rw[h0],x,y,rfl,by simp,rfl⟩,?_,?_,?_⟩
 ·rintro n Γ' S' acc ⟨o,ps,_,_,e,_⟩
  exact e.keep _ _ nl hl
 ·rintro n d Γ' S' acc hd ⟨o,ps,rfl,e0,e1,h1,h2,rfl⟩
  obtain⟨z,hz,rfl⟩:∃z,ws[n]?=some z/\d=.str z:=by
   rw[gQm] at hd
   obtain⟨z,hz,e⟩:=oQm.mp hd
   exact⟨z,hz,e.symm⟩
  symm
  rw[if_pos rfl]
  symm
  refine⟨by decide,?_⟩
  symm
  refine bz (e0.app (G:= [O.lst [.str "row",.str "turns"]])) (by decide) (by decide) fun v S2 hv e2 e2' l2=> ?_
  dsimp only
  have hs:∃s:Str,(s="row" \/s="turns")/\jk ([.str "row",.str "turns"]:List D) (v:Int)=some (.str s):=by
   rcases v with _|_|v
   ·exact⟨"row",.inl rfl,rfl⟩
   ·exact⟨"turns",.inr rfl,rfl⟩
   ·omega
  obtain⟨s,hs,ha⟩:=hs
  refine dS (e2'.keep _ _ (by have:=e0.lt;omega) aG) ha ?_
  symm
  refine⟨by show 2<=sizeLine;decide,?_⟩
  have hn:=(gQs.mp hz).1
  have hlen:ps.length=n:=by
   have:=congrArg List.length h1
   rw[lQm,List.length_take] at this
   omega
  refine⟨?_,_,ps++ [(z,s)],rfl,e2,(e1.app).trans e2',?_,fun p hp=> ?_,by simp[BJ]⟩
  ·rw[lQm]
   exact bh (by omega)
  ·rw[List.map_append,h1,List.take_add_one,hz]
   rfl
  ·rcases mQa.mp hp with hp|hp
   ·exact h2 p hp
   ·rw[List.mem_singleton.mp hp]
    exact hs
 ·rintro Γ' S' acc ⟨o,ps,rfl,e0,e1,h1,h2,rfl⟩
  exact h ps S' (by rw[h1];simp) h2 e0 e1
theorem Rw.Ok.sub{a:Bool}{ws ps bs ts:List Str}{gs gs':List (Str×Str)}{n:Nat}{r:Rw}(h:r.Ok ⟨a,ws,ps,bs,gs,ts⟩ n)(hs:∀g∈gs,g∈gs'):r.Ok ⟨a,ws,ps,bs,gs',ts⟩ n:=by
 cases r with
 |do_ g r d t=>exact⟨h.1,hs _ h.2.1,h.2.2⟩
 |_=>exact h
theorem qR.sub{a:Bool}{ws ps bs ts:List Str}{gs gs':List (Str×Str)}{rs:List Rw}(h:qR ⟨a,ws,ps,bs,gs,ts⟩ rs)(hs:∀g∈gs,g∈gs'):qR ⟨a,ws,ps,bs,gs',ts⟩ rs:=fun r hr=>(h r hr).sub hs
structure Rm where
 name:Str
 manner:Str
 things:List (Str×Nat)
 bells:List (Str×Str)
 deeds:List (Str×List Rw)
def Rm.d(r:Rm):D:=.tup [.str r.name,.str r.manner,.tup (r.things.map rj),.tup (r.bells.map BJ),.tup (r.deeds.map iz)]
structure uI(gs:List (Str×Str))(r:Rm):Prop where
 mn:r.manner="at once" \/r.manner="when free"
 tv:∀p∈r.things,p.2<=9
 l1:r.things.length<=6
 l2:r.bells.length<=6
 l3:r.deeds.length<=6
 bv:∀p∈r.bells,p.2="row" \/p.2="turns"
 pr:∀p∈r.deeds,qR ⟨false,r.things.map (·.1)++fq,r.things.map (·.1),r.bells.map (·.1),gs,[]⟩ p.2/\p.2.length<=12
theorem Bm(p:Str×List Rw):bJ 0 (iz p)=true:=by
 simp only[iz,bJ,bG,Bool.and_true,Bool.true_and]
 exact aX fun r _=>r.low
theorem Rm.low(r:Rm):bJ 0 r.d=true:=by
 simp only[Rm.d,bJ,bG,Bool.and_true,Bool.true_and,Bool.and_eq_true]
 exact⟨aX fun _ _=>rfl,aX fun _ _=>rfl,aX fun p _=>Bm p⟩
end W28
namespace DL
open PySem PySem.Spec L2
theorem FY{Γ:cE}{S:aA}{f:eR}{g:bq}{Q:List D->aA->Prop}(h:E f Γ S fun p S1=>E g Γ S1 fun r S2=>∃n:Nat,r=.int n/\(p.2.isM=true/\p.2.stays S2 p.1/\p.1.length*n<=1000/\n<=1)/\Q ((List.replicate n p.1).flatten) S2):E (rq f g) Γ S Q:=by
 obtain⟨p,S1,e1,r,S2,e2,n,rfl,⟨h1,h2,h3,h4⟩,q⟩:=h
 refine⟨_,S2,?_,q⟩
 unfold rq
 rw[e1]
 simp only[Option.bind_some]
 rw[e2]
 simp only[Option.bind_some]
 rw[if_pos ⟨h1,h2,by omega,by omega,by simpa using Nat.le_trans h3 (by decide)⟩]
 simp
end DL
namespace W28
open PySem PySem.Spec L2 DL
theorem Du{S S0:aA}{k g m:Nat}{name:Str}{goals:List (Str×Str)}{Q:Res->aA->Prop}(x:Ex k S0 S)(ng:g≠k)(nm:m≠k)(gg:S[g]?=some (.lst (goals.map c8)))(gm:S[m]?=some (.lst [.str "at once",.str "when free"]))(lg:goals.length<=100)
  (h:∀(r:Rm) (S':aA),r.name=name->uI (goals++r.deeds.map fun p=>(name,p.1)) r->Ex k S0 S'->Ex k S S'->S'.length=S.length->Q (.d r.d) S'):
  Fn iM [.ref k,.str name,.ref g,.ref m,.int 2] S Q:=by
 have y:Ex k S S:=by obtain⟨a,b,c,hh⟩:=x.pot;exact Ex.refl hh
 have kl:=x.lt
 refine bF ?_
 unfold pQ
 symm
 refine eA y nm gm (by decide) (by decide) (fun d hd=> ?_) (fun d hd=> ?_) fun mn S1 hmn e1 _ l1=> ?_
 ·simp only[List.mem_cons,List.not_mem_nil,or_false] at hd
  rcases hd with rfl|rfl <;>exact⟨fun k z=>(nomatch z),rfl⟩
 ·simp only[List.mem_cons,List.not_mem_nil,or_false] at hd
  rcases hd with rfl|rfl <;>rfl
 obtain⟨manner,hman,rfl⟩:∃s:Str,(s="at once" \/s="when free")/\mn=.str s:=by
  simp only[List.mem_cons,List.not_mem_nil,or_false] at hmn
  rcases hmn with rfl|rfl
  ·exact⟨_,.inl rfl,rfl⟩
  ·exact⟨_,.inr rfl,rfl⟩
 symm
 refine⟨by decide,?_⟩
 symm
 refine bz (e1.app (G:= [O.lst [.int 1,.int 1,.int 2,.int 0]])) (by decide) (by decide) fun v S2 hv e2 e2' l2=> ?_
 dsimp only
 obtain⟨nt,hnt,ha⟩:∃n:Nat,n<=2/\jk ([.int 1,.int 1,.int 2,.int 0]:List D) (v:Int)=some (.int n):=by
  rcases v with _|_|_|_|v
  ·exact⟨1,by omega,rfl⟩
  ·exact⟨1,by omega,rfl⟩
  ·exact⟨2,by omega,rfl⟩
  ·exact⟨0,by omega,rfl⟩
  ·omega
 refine dS (e2'.keep _ _ (by have:=e1.lt;omega) aG) ha ?_
 symm
 refine gh e2 (by omega) (by omega) (by decide) fun things S3 _ hth e3 e3' l3=> ?_
 symm
 refine bz (e3.app (G:= [O.lst (things.map D.str)])) (by decide) (by decide) fun nb S4 hnb e4 e4' l4=> ?_
 symm
 refine gh e4 (by omega) (by omega) (by decide) fun bells S5 _ hbe e5 e5' l5=> ?_
 symm
 refine⟨by decide,?_⟩
 have k3:S3.length≠k:=by have:=e3.lt;omega
 have k5:S5.length≠k:=by have:=e5.lt;omega
 have gt:(S5++ [O.lst (bells.map D.str)]++ [O.lst []])[S3.length]?=some (.lst (things.map D.str)):=aS (aS (e5'.keep _ _ k3 (e4'.keep _ _ k3 aG)))
 have gb:(S5++ [O.lst (bells.map D.str)]++ [O.lst []])[S5.length]?=some (.lst (bells.map D.str)):=aS aG
 have hl3:S.length<=S3.length:=e3.len
 have hl5:S.length<=S5.length:=e5.len
 have h35:S3.length<S5.length:=by
  have:=e5'.len
  have:=e4'.len
  simp only[lQa,List.length_cons,List.length_nil] at *
  omega
 have e6:Ex k S (S5++ [O.lst (bells.map D.str)]++ [O.lst []]):=e5.app.app
 generalize hr:S5.length+1=r
 have hlen0:(S5++ [O.lst (bells.map D.str)]).length=r:=by simp[hr]
 rw[hlen0]
 have gr:(S5++ [O.lst (bells.map D.str)]++ [O.lst []])[r]?=some (.lst []):=by rw[←hlen0];exact aG
 generalize (S5++ [O.lst (bells.map D.str)]++ [O.lst []])=S6 at e6 gt gb gr⊢
 have hth':things.length=nt:=by omega
 have hbe':bells.length=nb:=by omega
 refine bC (fJ ?_)
 symm
 refine bz e6 (by decide) (by decide) fun nd S7 hnd e7 e7' l7=> ?_
 symm
 refine gh e7 (by omega) (by omega) (by decide) fun dws S8 _ hdw e8 e8' l8=> ?_
 symm
 have kr:r≠k:=by omega
 let Inv:Nat->cE->aA->Prop:=fun n Γ' S'=>∃(o9 o10 o11:Option D) (ds:List (Str×List Rw)),Γ'= [some (.ref k),some (.str name),some (.ref g),some (.ref m),some (.int 2),some (.str manner),some (.ref S3.length),some (.ref S5.length),some (.ref r),o9,o10,o11,none]∧
  Ex k S S'/\S'[S3.length]?=some (.lst (things.map D.str))/\S'[S5.length]?=some (.lst (bells.map D.str))/\S'[r]?=some (.lst (ds.map iz))/\ds.length=n/\(∀p∈ds,qR ⟨false,things++fq,things,bells,goals++ds.map fun p=>(name,p.1),[]⟩ p.2/\p.2.length<=12)
 refine⟨Inv,⟨none,none,none,[],rfl,e8,e8'.keep _ _ k3 (e7'.keep _ _ k3 gt),e8'.keep _ _ k5 (e7'.keep _ _ k5 gb),e8'.keep _ _ kr (e7'.keep _ _ kr gr),rfl,by simp⟩,fun _ _ _ _=>trivial,?_,?_⟩
 ·rintro n d Γ' S9 hd ⟨o9,o10,o11,ds,rfl,e9,gt9,gb9,gr9,hn,hpr⟩
  obtain⟨w,hw,rfl⟩:∃z,dws[n]?=some z/\d=.str z:=by
   rw[gQm] at hd
   obtain⟨z,hz,e⟩:=oQm.mp hd
   exact⟨z,hz,e.symm⟩
  have hn6:n<3:=by
   have:=(gQs.mp hw).1
   omega
  refine aR ?_
  symm
  refine x8 (fun d=>match d with|.tup (a::_)=>.tup [.str name,a]|d=>d) ?_
  symm
  refine bR gr9 ?_
  refine⟨gr9,by simp;omega,fun d hd=> ?_,?_⟩
  ·obtain⟨p,_,rfl⟩:=List.mem_map.mp hd
   symm
   refine ak rfl ?_
   symm
   exact⟨by show 2<=sizeLine;decide,rfl,rfl⟩
  have eh:(ds.map iz).map (fun d=>match d with|.tup (a::_)=>.tup [.str name,a]|d=>d)=(ds.map fun p=>(name,p.1)).map c8:=by
   rw[List.map_map,List.map_map]
   rfl
  rw[eh]
  generalize hh:(ds.map fun p=>(name,p.1))=here
  have lh:here.length=n:=by rw[←hh];simpa using hn
  symm
  refine tF ?_
  symm
  have gg9:=e9.keep _ _ ng gg
  refine bR (aS gg9) ?_
  symm
  refine FY ?_
  symm
  refine bR aG ?_
  symm
  refine bz (e9.app (G:= [O.lst (here.map c8)])) (by decide) (by decide) fun v2 S10 hv2 e10 e10' l10=> ?_
  symm
  refine dj ?_
  symm
  have k9:S9.length≠k:=by have:=e9.lt;omega
  have g10:=e10'.keep _ _ k9 aG
  obtain⟨q,hq,hqe⟩:∃q:Nat,q<=1/\intOfD [D.bl (decide ((v2:Int)=0))]=some (.int q):=by
   by_cases c:(v2:Int)=0
   ·exact⟨1,by omega,by rw[decide_eq_true c];rfl⟩
   ·exact⟨0,by omega,by rw[decide_eq_false c];rfl⟩
  refine⟨_,hqe,?_⟩
  refine⟨q,rfl,⟨rfl,g10,?_,hq⟩,?_⟩
  ·simp only[lQm]
   have:here.length*q<=here.length*1:=Nat.mul_le_mul_left _ hq
   omega
  obtain⟨some_,hso,hsub,hsl⟩:∃l:List (Str×Str),goals.map c8++(List.replicate q (here.map c8)).flatten=l.map c8/\(∀g∈l,g∈goals++here)/\l.length<=goals.length+10:=by
   rcases q with _|_|q
   ·exact⟨goals,by simp,fun g hg=>List.mem_append_left _ hg,by omega⟩
   ·exact⟨goals++here,by simp,fun g hg=>hg,by rw[lQa];omega⟩
   ·omega
  refine⟨⟨rfl,rfl,e10.keep _ _ ng gg,?_⟩,?_⟩
  ·have:=congrArg List.length hso
   rw[lQa] at this
   rw[this,lQm]
   exact nQl (bh (by omega))
  rw[hso]
  symm
  refine ji ?_
  symm
  have gr11:(S10++ [O.lst (some_.map c8)])[r]?=some (.lst (ds.map iz)):=aS (e10'.keep _ _ kr (aS gr9))
  refine⟨_,_,rfl,gr11,?_⟩
  symm
  refine⟨by show 3<=sizeLine;decide,?_⟩
  symm
  refine CS (goals:=some_) (e10.app (G:= [O.lst (some_.map c8)])) k3 k5 (by have:=e10.lt;omega) (aS (e10'.keep _ _ k3 (aS gt9))) (aS (e10'.keep _ _ k5 (aS gb9))) aG (by omega) (by omega) (by omega) fun rs S11 h1 h2 h3 e11 e11' l11=> ?_
  symm
  refine⟨by show 2<=sizeLine;decide,?_⟩
  symm
  have gr12:=e11'.keep _ _ kr gr11
  refine⟨_,gr12,eD (bh (by simp;omega)) ?_⟩
  refine⟨_,_,_,ds++ [(w,rs)],rfl,e11.put (by omega) kl,eE (by omega) (e11'.keep _ _ k3 (aS (e10'.keep _ _ k3 (aS gt9)))),eE (by omega) (e11'.keep _ _ k5 (aS (e10'.keep _ _ k5 (aS gb9)))),?_,by simp[hn],fun p hp=> ?_⟩
  ·rw[cz gr12]
   simp[iz]
  ·rcases mQa.mp hp with hp|hp
   ·refine⟨(hpr p hp).1.sub fun g hg=> ?_,(hpr p hp).2⟩
    rw[List.map_append,←List.append_assoc]
    exact List.mem_append_left _ hg
   ·rw[List.mem_singleton.mp hp]
    refine⟨h1.sub fun g hg=> ?_,h3⟩
    rw[List.map_append,←List.append_assoc]
    refine List.mem_append_left _ ?_
    rw[hh]
    exact hsub g hg
 ·rintro Γ' S9 ⟨o9,o10,o11,ds,rfl,e9,gt9,gb9,gr9,hn,hpr⟩
  have hn4:ds.length<=3:=by
   rw[hn]
   simp only[lQm]
   omega
  symm
  refine EB e9 rfl rfl gb9 k5 (by omega) fun bs S10 hb1 hb2 e10 e10'=> ?_
  symm
  refine yJ (m:=3) e10 rfl rfl (e10'.keep _ _ k3 gt9) k3 (by decide) (by decide) (by omega) fun ts S11 ht1 ht2 e11 e11' l11=> ?_
  symm
  refine bR (e11'.keep _ _ kr (e10'.keep _ _ kr gr9)) ?_
  refine⟨rfl,?_⟩
  symm
  refine⟨by show 5<=sizeLine;decide,?_⟩
  have lt1:ts.length=things.length:=by rw[←ht1];simp
  have lb1:bs.length=bells.length:=by rw[←hb1];simp
  refine i_ (d:=(Rm.mk name manner ts bs ds).d) e11 x.lt (fun k z=>(nomatch z)) (da (Rm.low _)) fun a b c=> ?_
  refine h ⟨name,manner,ts,bs,ds⟩ _ rfl ⟨hman,fun p hp=>by have:=ht2 p hp;omega,by show ts.length<=6;omega,by show bs.length<=6;omega,by show ds.length<=6;omega,hb2,?_⟩ x.set y.set (by simp)
  intro p hp
  show qR ⟨false,ts.map (·.1)++fq,ts.map (·.1),bs.map (·.1),_,[]⟩ p.2/\_
  rw[ht1,hb1]
  exact hpr p hp
end W28
namespace DL
open PySem PySem.Spec L2
theorem F9{c:i6}{b:cH}{Q:Out->Prop}(I:Nat->cE->aA->Prop)(hc:∀m Γ S,I m Γ S->E c Γ S fun k S1=>if k=true then∃m',m=m'+1/\T b Γ S1 fun o=>match o with|.nx Γ2 S2=>I m' Γ2 S2|_=>False else Q (.nx Γ S1)):
  ∀(n m:Nat) (Γ:cE) (S:aA),m<n->I m Γ S->T (B9 c b n) Γ S Q
 |0,_,_,_,h,_=>absurd h (Nat.not_lt_zero _)
 | n+1,m,Γ,S,h,hi=>by
   obtain⟨k,S1,e1,q⟩:=hc m Γ S hi
   cases k with
   |false=>exact⟨_,by simp only[B9];rw[e1];rfl,q⟩
   | true=>
     obtain⟨m',rfl,o,e2,q⟩:=(q:∃m',m=m'+1/\T b Γ S1 _)
     cases o with
     | nx Γ2 S2=>
       obtain⟨o,e3,q⟩:=F9 I hc n m' Γ2 S2 (by omega) q
       exact⟨o,by simp only[B9];rw[e1];simp only[Option.bind_some,if_true];rw[e2];exact e3,q⟩
     |_=>exact q.elim
theorem De{Γ:cE}{S:aA}{f:eR}{Q:List D->aA->Prop}(h:E f Γ S fun p S1=>p.2.isL=true/\∃ss,nT p.1=some ss/\(p.1.length<=3/\ss.Nodup)/\Q (p6 ss p.1) S1):E (uj f) Γ S Q:=by
 obtain⟨p,S1,e1,l,ss,h1,h2,q⟩:=h
 exact⟨_,S1,by unfold uj;rw[e1];simp only[Option.bind_some];rw[if_pos l,h1];simp only[Option.bind_some];rw[if_pos h2],q⟩
theorem zo{α:Type}{f:α->D}{ss:List Str}{xs:List α}(a0:α)(h3:xs.length<=3):∃ys:List α,ys.Perm xs/\p6 ss (xs.map f)=ys.map f:=by
 refine⟨Zp.sortBy ss a0 xs,Zp.d_ ss xs h3,?_⟩
 have hl:(p6 ss (xs.map f)).length=((Zp.sortBy ss a0 xs).map f).length:=by
  unfold p6
  rw[(Zp.d_ ss (xs.map f) (by simpa using h3)).length_eq,lQm,lQm,(Zp.d_ ss xs h3).length_eq]
 apply List.ext_getElem?
 intro i
 cases e:(p6 ss (xs.map f))[i]? with
 | none=>
   rw[List.getElem?_eq_none_iff] at e
   rw[eq_comm,List.getElem?_eq_none_iff]
   omega
 | some d=>
   obtain⟨y,hy,r⟩:=qc (R:=fun(d:D) (a:α)=>d=f a) (ss:=ss) (xs:=xs.map f) (ys:=xs) (d:=.non) (d':=a0) (by simp) (by simpa using h3) (fun i d hd=>by
     rw[gQm] at hd
     obtain⟨y,hy,e⟩:=oQm.mp hd
     exact⟨y,hy,e.symm⟩) i d e
   rw[gQm,hy,r]
   rfl
end DL
namespace W28
open PySem PySem.Spec L2 DL
def aK(rs:List Rm):List (Str×Str):=rs.flatMap fun r=>r.deeds.map fun p=>(r.name,p.1)
theorem uI.sub{gs gs':List (Str×Str)}{r:Rm}(h:uI gs r)(hs:∀g∈gs,g∈gs'):uI gs' r:={h with pr:=fun p hp=>⟨(h.pr p hp).1.sub hs,(h.pr p hp).2⟩}
theorem yx:∀rs:List Rm,nT (rs.map Rm.d)=some (rs.map (·.name))
 | []=>rfl
 | r::rs=>by
   show nT (Rm.d r::rs.map Rm.d)=_
   simp only[Rm.d,nT]
   rw[yx rs]
   rfl
theorem wy{S:aA}{Γ:cE}{i j v:Nat}{rs:List Rm}{f:eR}{Q:Out->Prop}{tg:Tag}(hv:v<Γ.length)(hj:Γ[j]?=some (some (.ref i)))(hS:S[i]?=some (.lst []))
  (hf:∀(R:List D×Tag->aA->Prop),R (rs.map Rm.d,tg) S->E f Γ S R) (hs:∀o,tg.stays (S.set i o) (rs.map Rm.d)) (nvj:v≠j) (hd:∀r∈rs,r.deeds.length<=6) (hl:rs.length<=3)
  (q:∀o,Q (.nx (Γ.set v o) (S.set i (.lst ((aK rs).map c8))))):
  T (gM (jm f) (bO v) (kA (oM (af j) (fL (cC [none,some v] (jm (a8 (ay aJ (af v) (cF (.int 4))))) (bO 0) cX (aP (ae (ay aJ (af 1) (cF (.int 0))) (ae (ay aJ (af 0) (cF (.int 0))) ai)))))))) Γ S Q:=by
 refine fJ (qX (hf _ ?_))
 have si:i<S.length:=(gQs.mp hS).1
 have vget:∀o:Option D,(Γ.set v o)[v]?=some o:=fun o=>List.getElem?_set_self hv
 have jget:∀o:Option D,(Γ.set v o)[j]?=some (some (.ref i)):=fun o=>by rw[List.getElem?_set_ne nvj];exact hj
 refine⟨fun n Γ' S'=>(n=0->Γ'=Γ)/\(∃o,Γ'=Γ.set v o)/\S'=S.set i (.lst ((aK (rs.take n)).map c8)),⟨fun _=>rfl,?_,?_⟩,fun n Γ' S' h=> ?_,fun n d Γ' S' hd' ⟨_,⟨o,hΓ⟩,hS'⟩=> ?_,fun Γ' S' ⟨h0,⟨o,hΓ⟩,hS'⟩=> ?_⟩
 ·exact⟨Γ[v],by rw[List.set_getElem_self]⟩
 ·apply List.ext_getElem?
  intro x
  rw[List.getElem?_set]
  split
  ·rename_i e
   subst e
   rw[hS]
   rfl
  ·rfl
 ·rw[h.2.2];exact hs _
 ·obtain⟨r,hr,rfl⟩:∃r,rs[n]?=some r/\d=r.d:=by
   rw[gQm] at hd'
   obtain⟨z,hz,e⟩:=oQm.mp hd'
   exact⟨z,hz,e.symm⟩
  subst hΓ hS'
  have hn:=(gQs.mp hr).1
  refine aR (gB (sX ?_))
  rw[List.set_set]
  refine cN (jget _) ?_
  refine⟨_,_,rfl,cz hS,oK (x8 (fun d=>match d with|.tup (a::_)=>.tup [.str r.name,a]|d=>d) ?_)⟩
  refine qY (wq (cN (vget _) (Fz (ak rfl (bW ?_)))))
  have hdl:=hd r (mQg hr)
  refine⟨trivial,by simp;omega,fun d hd=> ?_,?_⟩
  ·obtain⟨p,_,rfl⟩:=List.mem_map.mp hd
   have sg:(lj [none,some v] (Γ.set v (some r.d))).set 0 (some (iz p))= [some (iz p),some r.d]:=by
    show [some (iz p),(Γ.set v (some r.d)).getD v none]=_
    rw[List.getD_eq_getElem?_getD,vget]
    rfl
   rw[sg]
   symm
   refine ak rfl ?_
   symm
   refine ak rfl ?_
   symm
   exact⟨by show 2<=sizeLine;decide,rfl,rfl⟩
  ·have lg:∀l:List Rm,(∀r∈l,r.deeds.length<=6)->(aK l).length<=6*l.length:=by
    intro l
    induction l with
    |nil=>intro _;simp[aK]
    | cons a l ih=>
      intro h
      have:=ih fun r hr=>h r (List.mem_cons_of_mem _ hr)
      have:=h a (List.mem_cons_self ..)
      simp only[aK,List.flatMap_cons,lQa,lQm,List.length_cons] at *
      omega
   have lt:=lg (rs.take n) fun r hr=>hd r (List.mem_of_mem_take hr)
   rw[List.length_take] at lt
   refine⟨_,cz hS,⟨rfl,?_⟩,fun z=>absurd z (by omega),⟨_,rfl⟩,?_⟩
   ·simp only[lQm]
    exact nQl (bh (by omega))
   ·rw[List.set_set,List.take_add_one,hr]
    congr 2
    simp only[aK,List.flatMap_append,List.map_append,Option.toList_some,List.flatMap_cons,List.flatMap_nil,List.append_nil,List.map_map]
    rfl
 ·subst hΓ hS'
  rw[lQm,List.take_length]
  exact q o
theorem CA(stem:Str):∀a b:Str,stem++a=stem++b->a=b:=by
 intro a b h
 have h1:(stem++a).cps.toList=(stem++b).cps.toList:=by rw[h]
 have e:∀c:Str,(stem++c).cps.toList=stem.cps.toList++c.cps.toList:=fun c=>by
  show(stem.cps++c.cps).toList=_
  simp
 rw[e,e] at h1
 exact Str.ext' (Array.toList_inj.mp (List.append_cancel_left h1))
theorem zq(stem:Str):(six.map (stem++·)).Nodup:=by
 have base:six.Nodup:=by decide +kernel
 exact List.Pairwise.map (R:=(·≠·)) (S:=(·≠·)) _ (fun a b n e=>n (CA stem a b e)) base
theorem Bq{S S0:aA}{k m many:Nat}{Q:Res->aA->Prop}(x:Ex k S0 S)(nm:m≠k)(gm:S[m]?=some (.lst [.str "at once",.str "when free"]))(hm:many<=3)
  (h:∀(rs:List Rm) (S':aA),(rs.map (·.name)).Nodup->rs.length<=3->(∀r∈rs,uI (aK rs) r)->Ex k S0 S'->Ex k S S'->S'.length=S.length->Q (.d (.tup (rs.map Rm.d))) S'):
  Fn gS [.ref k,.int many,.ref m,.int 2] S Q:=by
 have y:Ex k S S:=by obtain⟨a,b,c,hh⟩:=x.pot;exact Ex.refl hh
 have kl:=x.lt
 have ml:=(gQs.mp gm).1
 refine bF ?_
 unfold nZ
 symm
 refine gh y (by omega) (by omega) (by decide) fun names S1 hp hnl e1 e1' l1=> ?_
 symm
 refine⟨by decide,?_⟩
 have nn:names.Nodup:=by
  obtain⟨l,hp⟩:=hp
  exact(List.nodup_append.mp (hp.nodup_iff.mpr (zq _))).1
 generalize ha:S1.length=a
 generalize hr:a+1=r
 have hlen0:(S1++ [O.lst (names.map D.str)]).length=r:=by simp[ha,hr]
 rw[hlen0]
 have e2:Ex k S (S1++ [O.lst (names.map D.str)]++ [O.lst []]):=e1.app.app
 have ga:(S1++ [O.lst (names.map D.str)]++ [O.lst []])[a]?=some (.lst (names.map D.str)):=by rw[←ha];exact aS aG
 have gr:(S1++ [O.lst (names.map D.str)]++ [O.lst []])[r]?=some (.lst []):=by rw[←hlen0];exact aG
 have hk1:=e1.lt
 generalize (S1++ [O.lst (names.map D.str)]++ [O.lst []])=S2 at e2 ga gr⊢
 have sa:S.length<=a:=by rw[←ha];exact e1.len
 have ka:a≠k:=by omega
 have kr:r≠k:=by omega
 refine bC (F9 (fun q Γ' S'=>∃(o6 o7 o8:Option D) (lf:List Str) (rs:List Rm),Γ'= [some (.ref k),some (.int many),some (.ref m),some (.int 2),some (.ref a),some (.ref r),o6,o7,o8]/\Ex k S S'/\S'[a]?=some (.lst (lf.map D.str))/\S'[r]?=some (.lst (rs.map Rm.d))/\lf.length=q/\(rs.map (·.name)++lf).Perm names/\∀x∈rs,uI (aK rs) x) ?_ 4 names.length _ _ (by omega) ?_)
 ·rintro q Γ' S3 ⟨o6,o7,o8,lf,rs,rfl,e3,ga3,gr3,hq,hpm,hok⟩
  have hlen:=hpm.length_eq
  rw[lQa,lQm] at hlen
  symm
  refine bR ga3 ?_
  refine⟨⟨rfl,ga3⟩,?_⟩
  dsimp only
  refine aM (fun c=> ?_) (fun c=> ?_)
  ·have hl0:0<lf.length:=by
    cases lf with
    |nil=>simp at c
    |cons a b=>simp
   refine⟨lf.length-1,by omega,?_⟩
   symm
   refine⟨by decide,?_⟩
   refine bC ?_
   have k3:S3.length≠k:=by have:=e3.lt;omega
   have r3:=(gQs.mp gr3).1
   have a3:=(gQs.mp ga3).1
   have stay:∀o,Tag.stays ((S3++ [O.lst []]).set S3.length o) (rs.map Rm.d) (.st r):=fun o=>eE (by omega) (aS gr3)
   refine wy (i:=S3.length) (j:=6) (v:=7) (rs:=rs) (tg:=.st r) (by simp) rfl aG (fun R hR=>qY (cN rfl (bR (aS gr3) hR))) stay (by decide) (fun r hr=>(hok r hr).l3) (by omega) (fun o=> ?_)
   have e4:Ex k S ((S3++ [O.lst []]).set S3.length (.lst ((aK rs).map c8))):=e3.app.put e3.len kl
   have ga4:((S3++ [O.lst []]).set S3.length (.lst ((aK rs).map c8)))[a]?=some (.lst (lf.map D.str)):=eE (by omega) (aS ga3)
   have gr4:((S3++ [O.lst []]).set S3.length (.lst ((aK rs).map c8)))[r]?=some (.lst (rs.map Rm.d)):=eE (by omega) (aS gr3)
   have gg4:((S3++ [O.lst []]).set S3.length (.lst ((aK rs).map c8)))[S3.length]?=some (.lst ((aK rs).map c8)):=cz aG
   have lg:(aK rs).length<=100:=by
    have gen:∀l:List Rm,(∀r∈l,r.deeds.length<=6)->(aK l).length<=6*l.length:=by
     intro l
     induction l with
     |nil=>intro _;simp[aK]
     | cons a l ih=>
       intro h
       have:=ih fun r hr=>h r (List.mem_cons_of_mem _ hr)
       have:=h a (List.mem_cons_self ..)
       simp only[aK,List.flatMap_cons,lQa,lQm,List.length_cons] at *
       omega
    have:=gen rs fun r hr=>(hok r hr).l3
    omega
   generalize ((S3++ [O.lst []]).set S3.length (.lst ((aK rs).map c8)))=S4 at e4 ga4 gr4 gg4⊢
   dsimp only
   refine bC (Ay (ji ?_))
   symm
   refine⟨_,_,rfl,ga4,?_⟩
   symm
   refine bR ga4 ?_
   symm
   refine bz e4 (by simp only[lQm];omega) (by simp only[lQm];omega) fun j S5 hj e5 e5' l5=> ?_
   dsimp only
   symm
   have hj':j<lf.length:=by simpa using hj
   have ga5:=e5'.keep _ _ ka ga4
   refine⟨_,ga5,?_⟩
   refine GJ (d:=((lf.map D.str).eraseIdx j,D.str lf[j])) ?_ ?_
   ·simp only[kF]
    rw[if_pos ⟨by omega,by omega⟩,lQm,DN hj' (by omega)]
    simp[gQe hj']
   dsimp only
   refine gB (ji ?_)
   have e6:Ex k S (S5.set a (.lst ((lf.map D.str).eraseIdx j))):=e5.put sa kl
   have ga6:(S5.set a (.lst ((lf.map D.str).eraseIdx j)))[a]?=some (.lst ((lf.eraseIdx j).map D.str)):=by rw[cz ga5,m4]
   have gr6:(S5.set a (.lst ((lf.map D.str).eraseIdx j)))[r]?=some (.lst (rs.map Rm.d)):=eE (by omega) (e5'.keep _ _ kr gr4)
   have gg6:(S5.set a (.lst ((lf.map D.str).eraseIdx j)))[S3.length]?=some (.lst ((aK rs).map c8)):=eE (by omega) (e5'.keep _ _ k3 gg4)
   generalize (S5.set a (.lst ((lf.map D.str).eraseIdx j)))=S6 at e6 ga6 gr6 gg6⊢
   symm
   refine⟨_,_,rfl,gr6,?_⟩
   symm
   refine Du (goals:=aK rs) e6 k3 nm gg6 (e6.keep _ _ nm gm) lg fun rm S7 hrn hro e7 e7' l7=> ?_
   symm
   have gr7:=e7'.keep _ _ kr gr6
   refine⟨_,gr7,eD (bh (by simp only[lQm];omega)) ?_⟩
   have hgo:aK (rs++ [rm])=aK rs++rm.deeds.map fun p=>(rm.name,p.1):=by simp[aK]
   refine⟨_,_,_,lf.eraseIdx j,rs++ [rm],rfl,e7.put (by omega) kl,eE (by omega) (e7'.keep _ _ ka ga6),?_,?_,?_,fun q hq=> ?_⟩
   ·rw[cz gr7]
    simp
   ·rw[List.length_eraseIdx_of_lt hj']
   ·rw[List.map_append]
    show((rs.map (·.name)++ [rm.name])++lf.eraseIdx j).Perm names
    rw[hrn]
    exact vw hj' hpm
   ·rw[hgo]
    rcases mQa.mp hq with hq|hq
    ·exact(hok q hq).sub fun g hg=>List.mem_append_left _ hg
    ·rw[List.mem_singleton.mp hq,hrn]
     exact hro
  ·have hl0:lf= []:=by
    cases lf with
    |nil=>rfl
    |cons a b=>simp at c
   subst hl0
   rw[List.append_nil] at hpm
   refine og (EF (oK (De ?_)))
   symm
   refine bR gr3 ?_
   have l3:rs.length<=3:=by simp at hlen;omega
   refine⟨rfl,_,yx rs,⟨by simpa using l3,hpm.nodup_iff.mpr nn⟩,?_⟩
   obtain⟨ys,hy,he⟩:=zo (f:=Rm.d) (ss:=rs.map (·.name)) (xs:=rs) ⟨"","",[],[],[]⟩ l3
   rw[he]
   refine i_ e3 x.lt (fun k z=>(nomatch z)) (by simp only[bJ];exact aX fun q _=>da q.low) fun a b c=> ?_
   refine h ys _ ((hy.map _).nodup_iff.mpr (hpm.nodup_iff.mpr nn)) (by rw[hy.length_eq];exact l3) (fun q hq=>(hok q (hy.mem_iff.mp hq)).sub fun g hg=> ?_) x.set y.set (by simp)
   simp only[aK,List.mem_flatMap] at hg⊢
   obtain⟨z,hz,hg⟩:=hg
   exact⟨z,hy.mem_iff.mpr hz,hg⟩
 ·exact⟨none,none,none,names,[],rfl,e2,ga,gr,rfl,by simp,by simp⟩
theorem Ep{S S0:aA}{k g w p:Nat}{words passes:List Str}{goals:List (Str×Str)}{Q:Res->aA->Prop}(x:Ex k S0 S)(ng:g≠k)(nw:w≠k)(np:p≠k)(gg:S[g]?=some (.lst (goals.map c8)))(gw:S[w]?=some (.lst (words.map D.str)))(gp:S[p]?=some (.lst (passes.map D.str)))
  (lg:goals.length<500) (lw:words.length<500) (lp:passes.length<500)
  (h:∀(rs:List Rw) (S':aA),qR ⟨true,words,words,[],goals,passes⟩ rs->0<rs.length->rs.length<=9->Ex k S0 S'->Ex k S S'->S'.length=S.length->Q (.d (.tup (rs.map Rw.d))) S'):
  Fn jW [.ref k,.ref g,.ref w,.ref p,.int 4] S Q:=by
 have y:Ex k S S:=by obtain⟨a,b,c,hh⟩:=x.pot;exact Ex.refl hh
 have kl:=x.lt
 have gl:=(gQs.mp gg).1
 have wl:=(gQs.mp gw).1
 have pl:=(gQs.mp gp).1
 generalize hsc:(⟨true,words,words,[],goals,passes⟩:Sc)=sc at h
 have so:sc.own=true:=by rw[←hsc]
 have sw:sc.ws=words:=by rw[←hsc]
 have sp:sc.ps=words:=by rw[←hsc]
 have sb:sc.bs= []:=by rw[←hsc]
 have sg:sc.gs=goals:=by rw[←hsc]
 have st:sc.ts=passes:=by rw[←hsc]
 refine bF ?_
 unfold tw
 symm
 refine⟨by decide,?_⟩
 generalize hr:S.length=r
 have ir:(S++ [O.lst []])[r]?=some (.lst []):=by rw[←hr];exact aG
 have e0:Ex k S (S++ [O.lst []]):=y.app
 generalize (S++ [O.lst []])=S1 at e0 ir⊢
 have nr:r≠k:=by omega
 refine bC (fJ ?_)
 symm
 refine bz e0 (by decide) (by decide) fun many S2 hmany e2 e2' l2=> ?_
 symm
 refine⟨_,rfl,⟨by omega,by omega⟩,?_⟩
 let Inv:Nat->cE->aA->Prop:=fun n Γ' S'=>∃(o6 o7:Option D) (rs:List Rw),Γ'= [some (.ref k),some (.ref g),some (.ref w),some (.ref p),some (.int 4),some (.ref r),o6,o7]∧
  Ex k S S'/\S'[r]?=some (.lst (rs.map Rw.d))/\rs.length<=2*n/\n<=rs.length/\n<=4/\∀q∈rs,q.Ok sc rs.length
 have small:∀m:Nat,m<=100->m<sizeLine:=fun m hm=>Nat.lt_of_le_of_lt hm (by decide)
 have lw':sc.ws.length<1000:=by rw[sw];omega
 have lp':sc.ps.length<900:=by rw[sp];omega
 have lg':sc.gs.length<1000:=by rw[sg];omega
 have up:∀{t':Tr} {d:Nat},t'.Ok sc.ws []->t'.dep<=d+1->d<=3->A5 sc t':=fun h1 h2 h3=>⟨by rw[sb];exact h1,by omega⟩
 refine⟨Inv,⟨_,_,[],rfl,e2,e2'.keep _ _ nr ir,by simp,by simp,by omega,by simp⟩,fun _ _ _ _=>trivial,?_,?_⟩
 ·rintro n d Γ' S3 hd ⟨o6,o7,rs,rfl,e3,hr3,hl1,hl2,hn4,hok⟩
  have hn4':n<4:=by
   have:=(gQs.mp hd).1
   simp only[fc,lQm,List.length_range] at this
   omega
  refine aR ?_
  symm
  refine bz e3 (by decide) (by decide) fun way S4 hway e4 e4' l4=> ?_
  dsimp only
  have hr4:=e4'.keep _ _ nr hr3
  have gw4:=e4.keep _ _ nw gw
  have gg4:=e4.keep _ _ ng gg
  have gp4:=e4.keep _ _ np gp
  rw[←sw] at gw4
  rw[←sg] at gg4
  rw[←st] at gp4
  have gw4':=gw4
  rw[sw,←sp] at gw4'
  have more:∀(ms:List Rw) (S5:aA),Ex k S S5->S5[r]?=some (.lst (rs.map Rw.d++ms.map Rw.d))->1<=ms.length->ms.length<=2->(∀q∈ms,q.Ok sc (rs.length+ms.length))→
    Inv (n+1) [some (.ref k),some (.ref g),some (.ref w),some (.ref p),some (.int 4),some (.ref r),some d,some (.int way)] S5:=by
   intro ms S5 e5 h2 h3 h4 h5
   refine⟨_,_,rs++ms,rfl,e5,by rw[h2,List.map_append],by rw[lQa];omega,by rw[lQa];omega,by omega,fun q hq=> ?_⟩
   rw[lQa]
   rcases mQa.mp hq with hq|hq
   ·exact(hok q hq).mono (by omega)
   ·exact h5 q hq
  have lr:(rs.map Rw.d).length=rs.length:=by simp
  have said:∀S5 (q5:List Rw),Ex k S S5->S5[r]?=some (.lst (q5.map Rw.d))->q5.length<=50->∀(R:Out->Prop),(∀(t:Tr) (S6:aA),A5 sc t->Ex k S S6->S6[r]?=some (.lst ((q5++ [Rw.say t]).map Rw.d))->R (.nx [some (.ref k),some (.ref g),some (.ref w),some (.ref p),some (.int 4),some (.ref r),some d,some (.int way)] S6))→
    T (kA (oB gH (af 5) (ae (aP (ae (cF (.str "say")) (ae (ao (a9 4) (ae (af 0) (ae (af 2) (ae (cv (bB ai)) (ae (cF (.int 1)) ai))))) ai))) ai))) [some (.ref k),some (.ref g),some (.ref w),some (.ref p),some (.int 4),some (.ref r),some d,some (.int way)] S5 R:=by
   intro S5 q5 e5 hr5 hl5 R hR
   refine gB (ji ?_)
   symm
   refine⟨_,_,rfl,hr5,?_⟩
   symm
   refine⟨by decide,?_⟩
   symm
   have w5:=e5.keep _ _ nw gw
   rw[←sw] at w5
   refine g_ 4 (deep:=1) (bs:= []) (e5.app (G:= [O.lst []])) nw (j:=S5.length) (by have:=e5.lt;omega) (aS w5) aG lw' (by decide) (by decide) fun t3 S6 h3 h4 e6 e6' l6=> ?_
   symm
   refine⟨by show 2<=sizeLine;decide,?_⟩
   symm
   have hr6:=e6'.keep _ _ nr (aS hr5)
   refine⟨_,hr6,eD (small _ (by simp;omega)) ?_⟩
   refine hR t3 _ (up h3 h4 (by omega)) (e6.put (by omega) kl) ?_
   rw[cz hr6]
   simp[Rw.d]
  refine dU (oZ rfl rfl gg4 fun c hc=>aM (fun c1=> ?_) (fun c1=> ?_))
  ·refine gB (ji ?_)
   symm
   refine⟨_,_,rfl,hr4,?_⟩
   symm
   refine DJ (n:=rs.length+1) (sc:=sc) e4 ng nw nw gg4 gw4' gw4 (by simpa using hc c1) lg' lp' lw' fun q S5 h1 e5 e5' l5=> ?_
   symm
   have hr5:=e5'.keep _ _ nr hr4
   refine⟨_,hr5,eD (small _ (by rw[lr];omega)) ?_⟩
   exact more [q] _ (e5.put (by omega) kl) (cz hr5) (by simp) (by simp) fun q' hq'=>by rw[List.mem_singleton.mp hq'];exact h1
  refine dU (pj rfl rfl gp4 fun c hc=>aM (fun c1=> ?_) (fun c1=> ?_))
  ·refine gB (ji ?_)
   symm
   refine⟨_,_,rfl,hr4,?_⟩
   symm
   refine⟨by decide,?_⟩
   symm
   refine bz (e4.app (G:= [O.lst [.str "take",.str "give"]])) (by decide) (by decide) fun v S5 hv e5 e5' l5=> ?_
   dsimp only
   have hc2:∃(f:Str->Rw) (s:Str),(∀z,(f z).d=.tup [.str s,.str z])/\(∀z n,z∈sc.ts->(f z).Ok sc n)/\jk ([.str "take",.str "give"]:List D) (v:Int)=some (.str s):=by
    rcases v with _|_|v
    ·exact⟨.take,"take",fun _=>rfl,fun z n hz=>⟨so,hz⟩,rfl⟩
    ·exact⟨.give,"give",fun _=>rfl,fun z n hz=>⟨so,hz⟩,rfl⟩
    ·omega
   obtain⟨f,s,hf,hfo,hs⟩:=hc2
   refine dS (e5'.keep _ _ (by have:=e4.lt;omega) aG) hs ?_
   symm
   refine eA e5 np (e5'.keep _ _ np (aS gp4)) (hc c1) (by rw[st];simp;omega) dA ff fun v2 S6 hv2 e6 e6' l6=> ?_
   obtain⟨z,hz,rfl⟩:=List.mem_map.mp hv2
   symm
   refine⟨by show 2<=sizeLine;decide,?_⟩
   symm
   have hr6:=e6'.keep _ _ nr (e5'.keep _ _ nr (aS hr4))
   refine⟨_,hr6,eD (small _ (by rw[lr];omega)) ?_⟩
   refine more [f z] _ (e6.put (by omega) kl) ?_ (by simp) (by simp) fun q' hq'=>by rw[List.mem_singleton.mp hq'];exact hfo _ _ hz
   rw[cz hr6]
   simp[hf]
  refine dU (pj rfl rfl gp4 fun c hc=>aM (fun c1=> ?_) (fun c1=> ?_))
  ·refine gB (ji ?_)
   symm
   refine⟨_,_,rfl,hr4,?_⟩
   symm
   refine eA e4 np gp4 (hc c1) (by rw[st];simp;omega) dA ff fun v2 S5 hv2 e5 e5' l5=> ?_
   obtain⟨z,hz,rfl⟩:=List.mem_map.mp hv2
   symm
   refine eA e5 np (e5'.keep _ _ np gp4) (hc c1) (by rw[st];simp;omega) dA ff fun v3 S6 hv3 e6 e6' l6=> ?_
   obtain⟨z2,hz2,rfl⟩:=List.mem_map.mp hv3
   symm
   refine⟨by show 3<=sizeLine;decide,?_⟩
   symm
   have hr6:=e6'.keep _ _ nr (e5'.keep _ _ nr hr4)
   refine⟨_,hr6,eD (small _ (by rw[lr];omega)) ?_⟩
   exact more [.pass z z2] _ (e6.put (by omega) kl) (cz hr6) (by simp) (by simp) fun q' hq'=>by rw[List.mem_singleton.mp hq'];exact⟨so,hz,hz2⟩
  refine dU (pj rfl rfl gw4 fun c hc=>aM (fun c1=> ?_) (fun c1=> ?_))
  ·refine gB (ji ?_)
   symm
   refine⟨_,_,rfl,hr4,?_⟩
   symm
   refine eA e4 nw gw4 (hc c1) (by simp;omega) dA ff fun v2 S5 hv2 e5 e5' l5=> ?_
   obtain⟨z,hz,rfl⟩:=List.mem_map.mp hv2
   symm
   refine⟨by decide,?_⟩
   symm
   refine g_ 4 (deep:=2) (bs:= []) (e5.app (G:= [O.lst []])) nw (j:=S5.length) (by have:=e5.lt;omega) (aS (e5'.keep _ _ nw gw4)) aG lw' (by decide) (by decide) fun t3 S6 h3 h4 e6 e6' l6=> ?_
   symm
   refine⟨by show 3<=sizeLine;decide,?_⟩
   symm
   have hr6:=e6'.keep _ _ nr (aS (e5'.keep _ _ nr hr4))
   refine⟨_,hr6,eD (small _ (by rw[lr];omega)) ?_⟩
   exact more [.put z t3] _ (e6.put (by omega) kl) (cz hr6) (by simp) (by simp) fun q' hq'=>by rw[List.mem_singleton.mp hq'];exact⟨by rw[sp,←sw];exact hz,up h3 h4 (by omega)⟩
  refine dU (DP rfl fun c=>aM (fun c1=> ?_) (fun c1=> ?_))
  ·refine bC (gB (ji ?_))
   symm
   refine⟨_,_,rfl,hr4,?_⟩
   symm
   refine⟨by decide,?_⟩
   symm
   refine g_ 4 (deep:=2) (bs:= []) (e4.app (G:= [O.lst []])) nw (j:=S4.length) (by have:=e4.lt;omega) (aS gw4) aG lw' (by decide) (by decide) fun t3 S5 h3 h4 e5 e5' l5=> ?_
   symm
   have hr5:=e5'.keep _ _ nr (aS hr4)
   refine bR hr5 ?_
   symm
   refine⟨by show 3<=sizeLine;decide,?_⟩
   symm
   refine⟨_,hr5,eD (small _ (by rw[lr];omega)) ?_⟩
   dsimp only
   have hr6:(S5.set r (.lst (rs.map Rw.d++ [.tup [.str "unless",t3.d,.int (((rs.map Rw.d).length:Int)+2)]])))[r]?=some (.lst ((rs++ [Rw.unl t3 (rs.length+2)]).map Rw.d)):=by
    rw[cz hr5]
    simp[Rw.d]
   refine said _ (rs++ [Rw.unl t3 (rs.length+2)]) (e5.put (by omega) kl) hr6 (by simp;omega) _ fun t4 S6 h5 e6 hr7=> ?_
   refine more [.unl t3 (rs.length+2),.say t4] _ e6 (by rw[hr7];simp) (by simp) (by simp) fun q hq=> ?_
   simp only[List.mem_cons,List.not_mem_nil,or_false] at hq
   rcases hq with rfl|rfl
   ·exact⟨up h3 h4 (by omega),Nat.le_refl _⟩
   ·exact⟨so,h5⟩
  ·refine said _ rs e4 hr4 (by omega) _ fun t4 S6 h5 e6 hr7=> ?_
   exact more [.say t4] _ e6 (by rw[hr7];simp) (by simp) (by simp) fun q' hq'=>by rw[List.mem_singleton.mp hq'];exact⟨so,h5⟩
 ·rintro Γ' S3 ⟨o6,o7,rs,rfl,e3,hr3,hl1,hl2,hn4,hok⟩
  have hlen:(fc 0 (1+(many:Int))).length=many+1:=by simp only[fc,lQm,List.length_range];omega
  rw[hlen] at hl1 hl2 hn4
  have fin:∀(rs:List Rw) (S4:aA),Ex k S S4->S4[r]?=some (.lst (rs.map Rw.d))->(∀q∈rs,q.Ok sc rs.length)->0<rs.length->rs.length<=9->T (b9 (tupQ (fU (a8 (af 5))))) [some (.ref k),some (.ref g),some (.ref w),some (.ref p),some (.int 4),some (.ref r),o6,o7] S4 fun o=>match o with
    |.nx _ S'=>Op (settle S .non S') fun p=>Q p.1 p.2|.rt d S'=>Op (settle S d S') fun p=>Q p.1 p.2|.rl l S'=>Op (dD S l S') fun p=>Q p.1 p.2|_=>False:=by
   intro rs S4 e4 hr4 hok h1 h2
   symm
   refine bR hr4 ?_
   refine⟨rfl,?_⟩
   dsimp only
   refine i_ e4 x.lt (fun k z=>(nomatch z)) (by simp only[bJ];exact aX fun q _=>da q.low) fun a b c=> ?_
   exact h rs _ hok h1 h2 x.set y.set (by simp)
  refine bC (dU ?_)
  symm
  refine bz e3 (by decide) (by decide) fun v S4 hv e4 e4' l4=> ?_
  symm
  refine dj ?_
  dsimp only
  have hr4:=e4'.keep _ _ nr hr3
  refine aM (fun c=> ?_) (fun c=> ?_)
  ·refine gB (ji ?_)
   symm
   refine⟨_,_,rfl,hr4,?_⟩
   symm
   refine bR hr4 ?_
   symm
   refine bz e4 (by simp only[lQm];omega) (by simp only[lQm];omega) fun v2 S5 hv2 e5 e5' l5=> ?_
   symm
   refine⟨by show 2<=sizeLine;decide,?_⟩
   symm
   have hr5:=e5'.keep _ _ nr hr4
   refine⟨_,hr5,eD (small _ (by simp;omega)) ?_⟩
   dsimp only
   simp only[lQm] at hv2
   refine fin (rs++ [Rw.go v2]) _ (e5.put (by omega) kl) (by rw[cz hr5];simp[Rw.d]) (fun q hq=> ?_) (by simp) (by simp;omega)
   rw[lQa]
   rcases mQa.mp hq with hq|hq
   ·exact(hok q hq).mono (by simp)
   ·rw[List.mem_singleton.mp hq]
    show v2<=rs.length+1
    omega
  ·exact cp (fin rs S4 e4 hr4 hok (by omega) (by omega))
def jB(p:List (Str×Nat)×List Rw):D:=.tup [.tup (p.1.map rj),.tup (p.2.map Rw.d)]
structure du where
 rooms:List Rm
 passes:List (Str×Nat)
 shared:List (Str×Nat)
 hands:List (List (Str×Nat)×List Rw)
def du.d(w:du):D:=.tup [.tup (w.rooms.map Rm.d),.tup (w.passes.map rj),.tup (w.shared.map rj),.tup (w.hands.map jB)]
structure xO(gs:List (Str×Str))(shared passes:List Str)(h:List (Str×Nat)×List Rw):Prop where
 tv:∀p∈h.1,p.2<=9
 l1:h.1.length<=6
 l2:h.2.length<=9
 l0:0<h.2.length
 pr:qR ⟨true,h.1.map (·.1)++shared,h.1.map (·.1)++shared,[],gs,passes⟩ h.2
structure eQ(w:du):Prop where
 nd:(w.rooms.map (·.name)).Nodup
 l1:w.rooms.length<=3
 l2:w.passes.length<=6
 l3:w.shared.length<=6
 l4:w.hands.length<=4
 l0:0<w.hands.length
 pv:∀p∈w.passes,p.2<=9
 sv:∀p∈w.shared,p.2<=9
 rm:∀r∈w.rooms,uI (aK w.rooms) r
 hd:∀h∈w.hands,xO (aK w.rooms) (w.shared.map (·.1)) (w.passes.map (·.1)) h
theorem B1(p:List (Str×Nat)×List Rw):bJ 0 (jB p)=true:=by
 simp only[jB,bJ,bG,Bool.and_true,Bool.true_and,Bool.and_eq_true]
 exact⟨aX fun _ _=>rfl,aX fun r _=>r.low⟩
theorem du.low(w:du):bJ 0 w.d=true:=by
 simp only[du.d,bJ,bG,Bool.and_true,Bool.true_and,Bool.and_eq_true]
 exact⟨aX fun r _=>r.low,aX fun _ _=>rfl,aX fun _ _=>rfl,aX fun p _=>B1 p⟩
theorem zv{rs:List Rm}(hd:∀r∈rs,r.deeds.length<=6):(aK rs).length<=6*rs.length:=by
 induction rs with
 |nil=>simp[aK]
 | cons a l ih=>
   have:=ih fun r hr=>hd r (List.mem_cons_of_mem _ hr)
   have:=hd a (List.mem_cons_self ..)
   simp only[aK,List.flatMap_cons,lQa,lQm,List.length_cons] at *
   omega
theorem BQ{S S0:aA}{k hands:Nat}{rs:List Rm}{Q:Res->aA->Prop}(x:Ex k S0 S)(h0:0<hands)(h4:hands<=4)(nd:(rs.map (·.name)).Nodup)(hl:rs.length<=3)(hok:∀r∈rs,uI (aK rs) r)
  (h:∀(w:du) (S':aA),eQ w->Ex k S0 S'->Ex k S S'->S'.length=S.length->Q (.d w.d) S'):
  Fn gX [.ref k,.tup (rs.map Rm.d),.int hands,.int 2] S Q:=by
 have y:Ex k S S:=by obtain⟨a,b,c,hh⟩:=x.pot;exact Ex.refl hh
 have kl:=x.lt
 have gln:=zv fun r hr=>(hok r hr).l3
 refine bF ?_
 unfold nR
 symm
 refine⟨by decide,?_⟩
 refine bC ?_
 refine wy (i:=S.length) (j:=4) (v:=5) (rs:=rs) (tg:=.tu) (by simp) rfl aG (fun R hR=>qY (cN rfl (bW hR))) (fun _=>trivial) (by decide) (fun r hr=>(hok r hr).l3) hl (fun o=> ?_)
 have e1:Ex k S ((S++ [O.lst []]).set S.length (.lst ((aK rs).map c8))):=y.app.put (Nat.le_refl _) kl
 have gg1:((S++ [O.lst []]).set S.length (.lst ((aK rs).map c8)))[S.length]?=some (.lst ((aK rs).map c8)):=cz aG
 generalize ((S++ [O.lst []]).set S.length (.lst ((aK rs).map c8)))=S1 at e1 gg1⊢
 generalize hg:S.length=g at gg1⊢
 have ng:g≠k:=by omega
 symm
 refine bz e1 (by decide) (by decide) fun np S2 hnp e2 e2' l2=> ?_
 symm
 refine gh e2 (by omega) (by omega) (by decide) fun passes S3 _ hpl e3 e3' l3=> ?_
 symm
 refine⟨by decide,?_⟩
 symm
 have k3:S3.length≠k:=by have:=e3.lt;omega
 have gg3:(S3++ [O.lst (passes.map D.str)])[g]?=some (.lst ((aK rs).map c8)):=aS (e3'.keep _ _ ng (e2'.keep _ _ ng gg1))
 have gp3:(S3++ [O.lst (passes.map D.str)])[S3.length]?=some (.lst (passes.map D.str)):=aG
 have e3a:Ex k S (S3++ [O.lst (passes.map D.str)]):=e3.app
 have sl3:S.length<=S3.length:=e3.len
 have l3a:(S3++ [O.lst (passes.map D.str)]).length=S3.length+1:=by simp
 generalize (S3++ [O.lst (passes.map D.str)])=T3 at gg3 gp3 e3a l3a⊢
 refine bz (e3a.app (G:= [O.lst [.int 0,.int 0,.int 1,.int 2]])) (by decide) (by decide) fun v S4 hv e4 e4' l4=> ?_
 dsimp only
 obtain⟨ns,hns,ha⟩:∃n:Nat,n<=2/\jk ([.int 0,.int 0,.int 1,.int 2]:List D) (v:Int)=some (.int n):=by
  rcases v with _|_|_|_|v
  ·exact⟨0,by omega,rfl⟩
  ·exact⟨0,by omega,rfl⟩
  ·exact⟨1,by omega,rfl⟩
  ·exact⟨2,by omega,rfl⟩
  ·omega
 refine dS (e4'.keep _ _ (by have:=e3a.lt;omega) aG) ha ?_
 symm
 refine gh e4 (by omega) (by omega) (by decide) fun shared S5 _ hsl e5 e5' l5=> ?_
 symm
 refine⟨by decide,?_⟩
 have k5:S5.length≠k:=by have:=e5.lt;omega
 have gg5:(S5++ [O.lst (shared.map D.str)]++ [O.lst []])[g]?=some (.lst ((aK rs).map c8)):=aS (aS (e5'.keep _ _ ng (e4'.keep _ _ ng (aS gg3))))
 have gp5:(S5++ [O.lst (shared.map D.str)]++ [O.lst []])[S3.length]?=some (.lst (passes.map D.str)):=aS (aS (e5'.keep _ _ k3 (e4'.keep _ _ k3 (aS gp3))))
 have gs5:(S5++ [O.lst (shared.map D.str)]++ [O.lst []])[S5.length]?=some (.lst (shared.map D.str)):=aS aG
 have h35:S3.length<S5.length:=by
  have:=e5'.len
  have:=e4'.len
  simp only[lQa,List.length_cons,List.length_nil] at *
  omega
 have e6:Ex k S (S5++ [O.lst (shared.map D.str)]++ [O.lst []]):=e5.app.app
 generalize hr:S5.length+1=r
 have hlen0:(S5++ [O.lst (shared.map D.str)]).length=r:=by simp[hr]
 rw[hlen0]
 have gr:(S5++ [O.lst (shared.map D.str)]++ [O.lst []])[r]?=some (.lst []):=by rw[←hlen0];exact aG
 generalize (S5++ [O.lst (shared.map D.str)]++ [O.lst []])=S6 at e6 gg5 gp5 gs5 gr⊢
 have kr:r≠k:=by have:=e5.lt;omega
 refine bC (fJ ?_)
 symm
 refine⟨_,rfl,⟨by omega,by omega⟩,?_⟩
 let Inv:Nat->cE->aA->Prop:=fun n Γ' S'=>∃(o9 o10 o11:Option D) (hs:List (List (Str×Nat)×List Rw)),Γ'= [some (.ref k),some (.tup (rs.map Rm.d)),some (.int hands),some (.int 2),some (.ref g),o,some (.ref S3.length),some (.ref S5.length),some (.ref r),o9,o10,o11,none]∧
  Ex k S S'/\S'[g]?=some (.lst ((aK rs).map c8))/\S'[S3.length]?=some (.lst (passes.map D.str))/\S'[S5.length]?=some (.lst (shared.map D.str))/\S'[r]?=some (.lst (hs.map jB))/\hs.length=n/\(∀p∈hs,xO (aK rs) shared passes p)
 refine⟨Inv,⟨none,none,none,[],rfl,e6,gg5,gp5,gs5,gr,rfl,by simp⟩,fun _ _ _ _=>trivial,?_,?_⟩
 ·rintro n d Γ' S7 hd ⟨o9,o10,o11,hs,rfl,e7,gg7,gp7,gs7,gr7,hn,hpr⟩
  have hn4:n<4:=by
   have:=(gQs.mp hd).1
   simp only[fc,lQm,List.length_range] at this
   omega
  refine aR ?_
  symm
  refine⟨by decide,?_⟩
  symm
  refine bz (e7.app (G:= [O.lst [.int 0,.int 1,.int 1,.int 2]])) (by decide) (by decide) fun v S8 hv e8 e8' l8=> ?_
  dsimp only
  obtain⟨nw,hnw,ha⟩:∃n:Nat,n<=2/\jk ([.int 0,.int 1,.int 1,.int 2]:List D) (v:Int)=some (.int n):=by
   rcases v with _|_|_|_|v
   ·exact⟨0,by omega,rfl⟩
   ·exact⟨1,by omega,rfl⟩
   ·exact⟨1,by omega,rfl⟩
   ·exact⟨2,by omega,rfl⟩
   ·omega
  refine dS (e8'.keep _ _ (by have:=e7.lt;omega) aG) ha ?_
  symm
  refine gh e8 (by omega) (by omega) (by decide) fun own S9 _ hol e9 e9' l9=> ?_
  symm
  have k9:S9.length≠k:=by have:=e9.lt;omega
  have keep9:∀{i:Nat} {o:O},i≠k->S7[i]?=some o->(S9++ [O.lst (own.map D.str)])[i]?=some o:=fun n h=>aS (e9'.keep _ _ n (e8'.keep _ _ n (aS h)))
  have go9:(S9++ [O.lst (own.map D.str)])[S9.length]?=some (.lst (own.map D.str)):=aG
  have e9a:Ex k S (S9++ [O.lst (own.map D.str)]):=e9.app
  have gg9:=keep9 ng gg7
  have gp9:=keep9 k3 gp7
  have gs9:=keep9 k5 gs7
  have gr9:=keep9 kr gr7
  have r9:r<S9.length:=by
   have:=(gQs.mp gr7).1
   have:=e8'.len
   have:=e9'.len
   simp only[lQa,List.length_cons,List.length_nil] at *
   omega
  generalize (S9++ [O.lst (own.map D.str)])=T9 at go9 e9a gg9 gp9 gs9 gr9⊢
  refine tF ?_
  symm
  refine bR go9 ?_
  symm
  refine bR gs9 ?_
  refine⟨⟨rfl,rfl,go9,by simp only[lQm];exact nQl (bh (by omega))⟩,?_⟩
  rw[←List.map_append]
  symm
  refine Ep (words:=own++shared) (passes:=passes) (goals:=aK rs) (e9a.app (G:= [O.lst ((own++shared).map D.str)])) ng (by have:=e9a.lt;omega) k3 (aS gg9) aG (aS gp9) (by omega) (by rw[lQa];omega) (by omega) fun pr S10 h1 h2 h3 e10 e10' l10=> ?_
  symm
  refine ji ?_
  symm
  have gr10:=e10'.keep _ _ kr (aS gr9)
  refine⟨_,_,rfl,gr10,?_⟩
  symm
  refine yJ (m:=3) e10 rfl rfl (e10'.keep _ _ k9 (aS go9)) k9 (by decide) (by decide) (by omega) fun ts S11 ht1 ht2 e11 e11' l11=> ?_
  symm
  refine⟨by show 2<=sizeLine;decide,?_⟩
  symm
  have gr11:=e11'.keep _ _ kr gr10
  refine⟨_,gr11,eD (bh (by simp only[lQm];omega)) ?_⟩
  have kp:∀{i:Nat} {o:O},i≠k->i≠r->T9[i]?=some o->∀o',(S11.set r o')[i]?=some o:=fun n n2 h o'=>eE n2 (e11'.keep _ _ n (e10'.keep _ _ n (aS h)))
  have lt1:ts.length=own.length:=by rw[←ht1];simp
  refine⟨_,_,_,hs++ [(ts,pr)],rfl,e11.put (by omega) kl,kp ng (by omega) gg9 _,kp k3 (by omega) gp9 _,kp k5 (by omega) gs9 _,?_,by simp[hn],fun p hp=> ?_⟩
  ·rw[cz gr11]
   simp[jB]
  ·rcases mQa.mp hp with hp|hp
   ·exact hpr p hp
   ·rw[List.mem_singleton.mp hp]
    refine⟨fun p hp=>by have:=ht2 p hp;omega,by show ts.length<=6;omega,h3,h2,?_⟩
    show qR ⟨true,ts.map (·.1)++shared,ts.map (·.1)++shared,[],_,_⟩ pr
    rw[ht1]
    exact h1
 ·rintro Γ' S7 ⟨o9,o10,o11,hs,rfl,e7,gg7,gp7,gs7,gr7,hn,hpr⟩
  have hn4:hs.length=hands:=by
   rw[hn]
   simp only[fc,lQm,List.length_range]
   omega
  symm
  refine yJ (m:=3) e7 rfl rfl gp7 k3 (by decide) (by decide) (by omega) fun ps S8 hp1 hp2 e8 e8' l8=> ?_
  symm
  refine yJ (m:=3) e8 rfl rfl (e8'.keep _ _ k5 gs7) k5 (by decide) (by decide) (by omega) fun ss S9 hs1 hs2 e9 e9' l9=> ?_
  symm
  refine bR (e9'.keep _ _ kr (e8'.keep _ _ kr gr7)) ?_
  refine⟨rfl,?_⟩
  symm
  refine⟨by show 4<=sizeLine;decide,?_⟩
  have lp1:ps.length=passes.length:=by rw[←hp1];simp
  have ls1:ss.length=shared.length:=by rw[←hs1];simp
  refine i_ (d:=(du.mk rs ps ss hs).d) e9 x.lt (fun k z=>(nomatch z)) (da (du.low _)) fun a b c=> ?_
  refine h ⟨rs,ps,ss,hs⟩ _ ⟨nd,hl,by show ps.length<=6;omega,by show ss.length<=6;omega,by show hs.length<=4;omega,by show 0<hs.length;omega,fun p hp=>by have:=hp2 p hp;omega,fun p hp=>by have:=hs2 p hp;omega,hok,?_⟩ x.set y.set (by simp)
  show∀h∈hs,xO (aK rs) (ss.map (·.1)) (ps.map (·.1)) h
  rw[hs1,hp1]
  exact hpr
theorem uk{S S0:aA}{k:Nat}{Q:Res->aA->Prop}(x:Ex k S0 S)(h:∀(w:du) (S':aA),eQ w->Ex k S0 S'->Ex k S S'->S'.length=S.length->Q (.d w.d) S'):Fn dG [.ref k] S Q:=by
 have y:Ex k S S:=by obtain⟨a,b,c,hh⟩:=x.pot;exact Ex.refl hh
 have kl:=x.lt
 refine bF ?_
 unfold ja
 symm
 refine⟨by decide,?_⟩
 symm
 refine bz (y.app (G:= [O.lst [.int 1,.int 2,.int 3,.int 1,.int 2,.int 0]])) (by decide) (by decide) fun v S1 hv e1 e1' l1=> ?_
 dsimp only
 obtain⟨n,hn,ha⟩:∃n:Nat,n<=3/\jk ([.int 1,.int 2,.int 3,.int 1,.int 2,.int 0]:List D) (v:Int)=some (.int n):=by
  rcases v with _|_|_|_|_|_|v
  ·exact⟨1,by omega,rfl⟩
  ·exact⟨2,by omega,rfl⟩
  ·exact⟨3,by omega,rfl⟩
  ·exact⟨1,by omega,rfl⟩
  ·exact⟨2,by omega,rfl⟩
  ·exact⟨0,by omega,rfl⟩
  ·omega
 refine dS (e1'.keep _ _ (by omega) aG) ha ?_
 symm
 refine⟨by decide,?_⟩
 symm
 refine Bq (m:=S1.length) (e1.app (G:= [O.lst [.str "at once",.str "when free"]])) (by have:=e1.lt;omega) aG hn fun rs S2 nd hl hok e2 e2' l2=> ?_
 symm
 refine bz e2 (by decide) (by decide) fun v2 S3 hv2 e3 e3' l3=> ?_
 symm
 rw[show(1:Int)+(v2:Int)=((1+v2:Nat):Int) by omega]
 refine BQ e3 (by omega) (by omega) nd hl hok fun w S4 hw e4 e4' l4=> ?_
 dsimp only
 refine i_ e4 x.lt (fun k z=>(nomatch z)) (da (du.low _)) fun a b c=> ?_
 exact h w _ hw x.set y.set (by simp)
end W28
namespace DL
open PySem PySem.Spec L2
theorem EV{Γ:cE}{S:aA}{js:List (Option Nat)}{f:eR}{g:lu}{elt:bq}{Q:List D->aA->Prop}(P:cE->Prop)(F:D->D)(h0:P (lj js Γ)) (h:E f Γ S fun p S1=>p.2.stays S1 p.1/\p.1.length<=1000∧
   (∀d∈p.1,∀Γ',P Γ'->Tg g d Γ' S1 fun Γ1 S2=>S2=S1/\P Γ1/\E elt Γ1 S1 fun y S3=>y=F d/\S3=S1)/\Q (p.1.map F) S1):E (cC js (jm f) g cX elt) Γ S Q:=by
 refine jx (qX (h.mono fun p S1 hp=> ?_))
 obtain⟨hs,hl,he,q⟩:=hp
 refine⟨fun n Γ' S' acc=>S'=S1/\acc=(p.1.take n).map F/\P Γ',⟨rfl,rfl,h0⟩,fun n Γ' S' acc h=>by rw[h.1];exact hs,fun n d Γ' S' acc hd h=> ?_,fun Γ' S' acc h=> ?_⟩
 ·obtain⟨rfl,rfl,h3⟩:=h
  obtain⟨Γ1,S2,e1,rfl,h4,h5⟩:=he d (mQg hd) Γ' h3
  refine⟨Γ1,S2,e1,uX ?_⟩
  rw[if_pos rfl]
  refine h5.mono fun y S3 qr=> ?_
  obtain⟨e2,e3⟩:=qr
  subst e2 e3
  have hn:=(gQs.mp hd).1
  refine⟨?_,rfl,?_,h4⟩
  ·rw[lQm,List.length_take]
   exact bh (by omega)
  ·rw[List.take_add_one,hd]
   simp
 ·obtain⟨rfl,rfl,_⟩:=h
  rw[List.take_length]
  exact q
theorem qN{α:Type}{Γ:cE}{S:aA}{js:List (Option Nat)}{f:eR}{g:lu}{elt:bq}{Q:List D->aA->Prop}(P:cE->Prop)(enc G:α->D)(h0:P (lj js Γ)) (h:E f Γ S fun p S1=>∃xs:List α,p.1=xs.map enc/\p.2.stays S1 p.1/\xs.length<=1000∧
   (∀x∈xs,∀Γ',P Γ'->Tg g (enc x) Γ' S1 fun Γ1 S2=>S2=S1/\P Γ1/\E elt Γ1 S1 fun y S3=>y=G x/\S3=S1)/\Q (xs.map G) S1):E (cC js (jm f) g cX elt) Γ S Q:=by
 refine jx (qX (h.mono fun p S1 hp=> ?_))
 obtain⟨xs,hx,hs,hl,he,q⟩:=hp
 refine⟨fun n Γ' S' acc=>S'=S1/\acc=(xs.take n).map G/\P Γ',⟨rfl,rfl,h0⟩,fun n Γ' S' acc h=>by rw[h.1];exact hs,fun n d Γ' S' acc hd h=> ?_,fun Γ' S' acc h=> ?_⟩
 ·obtain⟨rfl,rfl,h3⟩:=h
  have hd:p.1[n]?=some d:=hd
  rw[hx,gQm] at hd
  obtain⟨x,hxn,rfl⟩:=oQm.mp hd
  obtain⟨Γ1,S2,e1,rfl,h4,h5⟩:=he x (mQg hxn) Γ' h3
  refine⟨Γ1,S2,e1,uX ?_⟩
  rw[if_pos rfl]
  refine h5.mono fun y S3 qr=> ?_
  obtain⟨e2,e3⟩:=qr
  subst e2 e3
  have hn:=(gQs.mp hxn).1
  refine⟨?_,rfl,?_,h4⟩
  ·rw[lQm,List.length_take]
   exact bh (by omega)
  ·rw[List.take_add_one,hxn]
   simp
 ·obtain⟨rfl,rfl,_⟩:=h
  have e:p.1.length=xs.length:=by rw[hx,lQm]
  show Q ((xs.take p.1.length).map G) _
  rw[e,List.take_length]
  exact q
theorem cg{S:aA}{d:D}{Q:Res->aA->Prop}(hd:∀k,d≠.ref k)(hl:bJ 0 d=true)(q:Q (.d d) S):Op (settle S d S) fun p=>Q p.1 p.2:=fZ pG (List.take_length) hd (da hl) q
theorem BP{S:aA}{ds:List D}{Q:Res->aA->Prop}(hl:bG 0 ds=true)(q:Q (.l ds) S):Op (dD S ds S) fun p=>Q p.1 p.2:=kU pG (List.take_length) (hX hl) q
end DL
namespace W28
open PySem PySem.Spec L2 DL
structure cD where
 room:Int
 deed:Int
 row:Int
 given:Int
 told:Int
structure eI where
 vals:List Int
 within:Int
 row:List Int
 late:List Int
 bells:List (List (Int×Int))
structure bu where
 rooms:List eI
 passes:List (Int×List Int)
 shared:List Int
 hands:List (List Int×List cD)
def cJ(l:List Int):D:=.tup (l.map D.int)
def cD.d(f:cD):D:=.tup [.int f.room,.int f.deed,.int f.row,.int f.given,.int f.told]
def pairD(p:Int×Int):D:=.tup [.int p.1,.int p.2]
def dQ(l:List (Int×Int)):D:=.tup (l.map pairD)
def eI.d(r:eI):D:=.tup [cJ r.vals,.int r.within,cJ r.row,cJ r.late,.tup (r.bells.map dQ)]
def wW(p:Int×List Int):D:=.tup [.int p.1,cJ p.2]
def xF(h:List Int×List cD):D:=.tup [cJ h.1,.tup (h.2.map cD.d)]
def bu.d(s:bu):D:=.tup [.tup (s.rooms.map eI.d),.tup (s.passes.map wW),cJ s.shared,.tup (s.hands.map xF)]
theorem ju(l:List Int):bJ 0 (cJ l)=true:=by simp only[cJ,bJ];exact aX fun _ _=>rfl
theorem p_(l:List (Int×Int)):bJ 0 (dQ l)=true:=by simp only[dQ,bJ];exact aX fun _ _=>rfl
theorem eI.low(r:eI):bJ 0 r.d=true:=by
 simp only[eI.d,bJ,bG,ju,Bool.and_true,Bool.true_and]
 exact aX fun l _=>p_ l
theorem xt(p:Int×List Int):bJ 0 (wW p)=true:=by simp only[wW,bJ,bG,ju,Bool.and_true]
theorem wZ(h:List Int×List cD):bJ 0 (xF h)=true:=by
 simp only[xF,bJ,bG,ju,Bool.and_true,Bool.true_and]
 exact aX fun _ _=>rfl
theorem bu.low(s:bu):bJ 0 s.d=true:=by
 simp only[bu.d,bJ,bG,ju,Bool.and_true,Bool.true_and,Bool.and_eq_true]
 exact⟨aX fun r _=>r.low,aX fun p _=>xt p,aX fun h _=>wZ h⟩
def eM(ts:List (Str×Nat)):List Int:=ts.map fun p=>(p.2:Int)
def et(r:Rm):eI:=⟨eM r.things,-1,[],[],r.bells.map fun _=> []⟩
def AQ:cD:=⟨-1,-1,0,0,0⟩
def dM(w:du):bu:=⟨w.rooms.map et,w.passes.map fun p=>((p.2:Int),[]),eM w.shared,w.hands.map fun h=>(eM h.1,[AQ])⟩
section
variable{S:aA}{Q:Res->aA->Prop}
theorem i3{ts:List (Str×Nat)}(l:ts.length<=1000)(h:Q (.d (cJ (eM ts))) S):Fn eP [.tup (ts.map rj)] S Q:=by
 refine bF ?_
 unfold qk
 symm
 refine EV (fun Γ'=>∃a b,Γ'= [a,b]) (fun d=>match d with|.tup [_,v]=>v|d=>d) ⟨none,none,rfl⟩ ?_
 symm
 refine⟨trivial,by simpa using l,fun d hd Γ' hΓ=> ?_,?_⟩
 ·obtain⟨p,_,rfl⟩:=List.mem_map.mp hd
  obtain⟨a,b,rfl⟩:=hΓ
  refine dX rfl (aq (aR (aq (aR (bg ?_)))))
  refine⟨rfl,⟨_,_,rfl⟩,?_⟩
  symm
  exact⟨rfl,rfl⟩
 ·have e:(ts.map rj).map (fun d=>match d with|.tup [_,v]=>v|d=>d)=(eM ts).map D.int:=by
   simp only[eM,List.map_map]
   rfl
  rw[e]
  exact cg (d:=cJ (eM ts)) (fun k z=>(nomatch z)) (ju _) h
theorem rS{r:Rm}(l1:r.things.length<=6)(l2:r.bells.length<=6)(h:Q (.d (et r).d) S):Fn gP [r.d] S Q:=by
 refine bF ?_
 unfold nM
 symm
 refine dX rfl (aq (aR (aq (aR (aq (aR (aq (aR (aq (aR (bg ?_)))))))))))
 symm
 refine i3 (by omega) ?_
 symm
 refine⟨by decide,?_⟩
 symm
 refine⟨by decide,?_⟩
 symm
 refine x8 (fun _=>.tup []) ?_
 symm
 refine⟨trivial,by simp;omega,fun d hd=> ?_,?_⟩
 ·symm
  exact⟨by decide,rfl,rfl⟩
 ·symm
  refine⟨by show 5<=sizeLine;decide,?_⟩
  have e:D.tup ((r.bells.map BJ).map fun _=>D.tup [])=D.tup ((et r).bells.map dQ):=by
   simp only[et,List.map_map]
   rfl
  rw[e]
  exact cg (d:=(et r).d) (fun k z=>(nomatch z)) (eI.low _) h
theorem BN{w:du}(o:eQ w)(h:Q (.d (dM w).d) S):Fn uz [w.d] S Q:=by
 refine bF ?_
 unfold BS
 symm
 refine dX rfl (aq (aR (aq (aR (aq (aR (aq (aR (bg ?_)))))))))
 symm
 refine⟨by decide,?_⟩
 symm
 have l1:=o.l1
 have l2:=o.l2
 have l3:=o.l3
 have l4:=o.l4
 refine qN (α:=Rm) (fun Γ'=>∃a,Γ'= [a]) Rm.d (fun r=>(et r).d) ⟨none,rfl⟩ ?_
 symm
 refine⟨w.rooms,rfl,trivial,by omega,fun r hr Γ' hΓ=> ?_,?_⟩
 ·obtain⟨a,rfl⟩:=hΓ
  refine aR ⟨rfl,⟨_,rfl⟩,?_⟩
  symm
  exact rS (o.rm r hr).l1 (o.rm r hr).l2 ⟨rfl,rfl⟩
 symm
 refine qN (α:=Str×Nat) (fun Γ'=>∃a b,Γ'= [a,b]) rj (fun p=>wW ((p.2:Int),[])) ⟨none,none,rfl⟩ ?_
 symm
 refine⟨w.passes,rfl,trivial,by omega,fun r hr Γ' hΓ=> ?_,?_⟩
 ·obtain⟨a,b,rfl⟩:=hΓ
  refine dX rfl (aq (aR (aq (aR (bg ?_)))))
  refine⟨rfl,⟨_,_,rfl⟩,?_⟩
  symm
  refine⟨by decide,?_⟩
  symm
  exact⟨by show 2<=sizeLine;decide,rfl,rfl⟩
 symm
 refine i3 (by omega) ?_
 symm
 refine qN (α:=List (Str×Nat)×List Rw) (fun Γ'=>∃a b,Γ'= [a,b,some AQ.d]) jB (fun h=>xF (eM h.1,[AQ])) ⟨none,none,rfl⟩ ?_
 symm
 refine⟨w.hands,rfl,trivial,by omega,fun r hr Γ' hΓ=> ?_,?_⟩
 ·obtain⟨a,b,rfl⟩:=hΓ
  refine dX rfl (aq (aR (aq (aR (bg ?_)))))
  refine⟨rfl,⟨_,_,rfl⟩,?_⟩
  symm
  refine i3 (by have:=(o.hd r hr).l1;omega) ?_
  symm
  refine⟨by show 1<=sizeLine;decide,?_⟩
  symm
  exact⟨by show 2<=sizeLine;decide,rfl,rfl⟩
 symm
 refine⟨by show 4<=sizeLine;decide,?_⟩
 have e1:w.rooms.map (fun r=>(et r).d)=(dM w).rooms.map eI.d:=by simp only[dM,List.map_map];rfl
 have e2:w.passes.map (fun p=>wW ((p.2:Int),[]))=(dM w).passes.map wW:=by simp only[dM,List.map_map];rfl
 have e3:w.hands.map (fun h=>xF (eM h.1,[AQ]))=(dM w).hands.map xF:=by simp only[dM,List.map_map];rfl
 rw[e1,e2,e3]
 exact cg (d:=(dM w).d) (fun k z=>(nomatch z)) (bu.low _) h
end
end W28
namespace DL
open PySem PySem.Spec L2
section
variable{Γ:cE}{S:aA}
theorem lU{f:bq}{Q:D->aA->Prop}(h:E f Γ S fun d S1=>∃i,d=.int i/\Q (.int (-i)) S1):E (oI f) Γ S Q:=by
 obtain⟨d,S1,e1,i,rfl,q⟩:=h
 exact⟨_,S1,by unfold oI;rw[e1];rfl,q⟩
theorem cV{Q:Option Int->aA->Prop}(q:Q none S):E rh Γ S Q:=⟨_,_,rfl,q⟩
theorem cU{f:bq}{Q:Option Int->aA->Prop}(h:E f Γ S fun d S1=>∃i,d=.int i/\Q (some i) S1):E (qO f) Γ S Q:=by
 obtain⟨d,S1,e1,i,rfl,q⟩:=h
 exact⟨_,S1,by unfold qO;rw[e1];rfl,q⟩
theorem jh{f:bq}{lo hi:FC}{Q:D->aA->Prop}(h:E f Γ S fun d S1=>E lo Γ S1 fun l S2=>E hi Γ S2 fun u S3=>∃ds,d=.tup ds/\Q (.tup (i4 ds l u)) S3):E (qu f lo hi) Γ S Q:=by
 obtain⟨d,S1,e1,l,S2,e2,u,S3,e3,ds,rfl,q⟩:=h
 exact⟨_,S3,by unfold qu;rw[e1];simp only[Option.bind_some];rw[e2];simp only[Option.bind_some];rw[e3];rfl,q⟩
theorem Gu{i j:Nat}{f:fG}{Q:Out->Prop}(h:E f Γ S fun ds S1=>∃a b,ds= [a,b]/\Q (.nx ((Γ.set i (some a)).set j (some b)) S1)):T (Dv i j f) Γ S Q:=by
 obtain⟨ds,S1,e1,a,b,rfl,q⟩:=h
 exact⟨_,by unfold Dv;rw[e1];rfl,q⟩
end
theorem Ah{α:Type}{xs:List α}{i:Nat}(h:i<=xs.length):i4 xs none (some (i:Int))=xs.take i:=by
 unfold i4
 rw[HT.qt,HT.yp,Nat.min_eq_left h]
 simp
theorem ij{α:Type}{xs:List α}{i:Nat}(h:i<=xs.length):i4 xs (some (i:Int)) none=xs.drop i:=by
 unfold i4
 rw[HT.qt,HT.yp,Nat.min_eq_left h]
 rw[List.take_of_length_le]
 simp
theorem wO{α:Type}{xs:List α}(h:0<xs.length):i4 xs none (some (-1))=xs.dropLast:=by
 unfold i4
 rw[HT.qt]
 show(xs.drop 0).take (HT.eO xs.length xs.length (some (-1))-0)=_
 rw[show HT.eO xs.length xs.length (some (-1))=xs.length-1 by simp only[HT.eO];rw[if_pos (by omega)];omega]
 simp[List.dropLast_eq_take]
theorem lK{α:Type}{xs:List α}{x:α}(h:xs.getLast? =some x):jk xs (-1)=some x:=by
 have h0:0<xs.length:=by
  cases xs with
  |nil=>cases h
  |cons a b=>simp
 unfold jk zH
 rw[if_neg (by omega),if_pos (by omega)]
 rw[List.getLast?_eq_getElem?] at h
 simp only[Option.bind_some]
 rw[show((-1:Int)+(xs.length:Int)).toNat=xs.length-1 by omega]
 exact h
end DL
namespace W28
open PySem PySem.Spec L2 DL
section
variable{S:aA}{Q:Res->aA->Prop}
theorem bH{s:bu}{h:Nat}{vs:List Int}{fs:List cD}{f:cD}(h1:s.hands[h]?=some (vs,fs))(h2:fs.getLast? =some f)(q:Q (.d f.d) S):Fn bp [s.d,.int h] S Q:=by
 refine bF ?_
 unfold n_
 symm
 refine ak rfl ?_
 symm
 refine ak (d:=xF (vs,fs)) (aO (by rw[gQm,h1];rfl)) ?_
 symm
 refine ak rfl ?_
 refine lU ?_
 symm
 refine⟨1,rfl,?_⟩
 refine ak (d:=f.d) (lK (by rw[List.getLast?_map,h2];rfl)) ?_
 exact cg (fun k z=>(nomatch z)) rfl q
def progOf(w:du)(h:Nat)(f:cD):Option (List Rw):=
 if f.room= -1 then(w.hands[h]?).map (·.2) else if 0<=f.room/\0<=f.deed then(w.rooms[f.room.toNat]?).bind fun r=>(r.deeds[f.deed.toNat]?).map (·.2) else none
theorem jV{α:Type}{xs:List α}{i:Int}{x:α}(h0:0<=i)(h:xs[i.toNat]?=some x):jk xs i=some x:=by
 obtain⟨n,rfl⟩:∃n:Nat,i=n:=⟨i.toNat,by omega⟩
 exact aO (by simpa using h)
theorem wb(rs:List Rw):bJ 0 (.tup (rs.map Rw.d))=true:=by simp only[bJ];exact aX fun r _=>r.low
theorem eF{w:du}{h:Nat}{f:cD}{pr:List Rw}(hp:progOf w h f=some pr)(q:Q (.d (.tup (pr.map Rw.d))) S):Fn cI [w.d,.int h,f.d] S Q:=by
 refine bF ?_
 unfold nI
 refine bC (Gu ?_)
 symm
 refine ak rfl ?_
 symm
 refine ak rfl ?_
 symm
 refine⟨_,_,rfl,?_⟩
 symm
 refine dj ?_
 dsimp only
 unfold progOf at hp
 by_cases c:f.room= -1
 ·rw[if_pos c] at hp
  obtain⟨hh,h1,rfl⟩:=oQm.mp hp
  rw[decide_eq_true c,if_pos rfl]
  symm
  refine ak rfl ?_
  symm
  refine ak (d:=jB hh) (aO (by rw[gQm,h1];rfl)) ?_
  symm
  refine ak rfl ?_
  exact cg (fun k z=>(nomatch z)) (wb _) q
 ·rw[if_neg c] at hp
  split at hp
  ·rename_i c2
   obtain⟨r,h1,hp⟩:=bind_some hp
   obtain⟨dd,h2,rfl⟩:=oQm.mp hp
   rw[decide_eq_false c,if_neg (by decide)]
   symm
   refine ak rfl ?_
   symm
   refine ak (d:=r.d) (jV c2.1 (by rw[gQm,h1];rfl)) ?_
   symm
   refine ak rfl ?_
   symm
   refine ak (d:=iz dd) (jV c2.2 (by rw[gQm,h2];rfl)) ?_
   symm
   refine ak rfl ?_
   exact cg (fun k z=>(nomatch z)) (wb _) q
  ·cases hp
theorem dz{xs:List D}{i:Nat}{d:D}(hi:i<xs.length)(hl:xs.length<=900)(h1:bG 0 xs=true)(h2:bJ 0 d=true)(q:Q (.d (.tup (xs.set i d))) S):Fn bZ [.tup xs,.int i,d] S Q:=by
 refine bF ?_
 unfold qK
 symm
 refine jh ?_
 symm
 refine cV (cU ?_)
 symm
 refine⟨_,rfl,_,rfl,?_⟩
 symm
 refine⟨by show 1<=sizeLine;decide,?_⟩
 rw[Ah (by omega)]
 refine dN (by simp only[List.length_take,List.length_cons,List.length_nil];exact nQl (bh (by omega))) ?_
 refine jh ?_
 symm
 refine cU ?_
 symm
 refine⟨_,rfl,cV ⟨_,rfl,?_⟩⟩
 rw[show((i:Int)+1)=((i+1:Nat):Int) by omega,ij (by omega)]
 refine dN (by simp only[lQa,List.length_take,List.length_drop,List.length_cons,List.length_nil];exact nQl (bh (by omega))) ?_
 have e:xs.take i++ [d]++xs.drop (i+1)=xs.set i d:=by
  rw[List.set_eq_take_append_cons_drop,if_pos hi]
  simp
 rw[e]
 refine cg (fun k z=>(nomatch z)) ?_ q
 simp only[bJ]
 refine oU fun z hz=> ?_
 rcases List.mem_or_eq_of_mem_set hz with hz|rfl
 ·have gen:∀l:List D,bG 0 l=true->∀z∈l,bJ 0 z=true:=by
   intro l
   induction l with
   |nil=>intro _ z hz;cases hz
   | cons a l ih=>
     intro h z hz
     simp only[bG,Bool.and_eq_true] at h
     rcases List.mem_cons.mp hz with rfl|hz
     · exact h.1
     · exact ih h.2 z hz
  exact gen xs h1 z hz
 ·exact h2
end
section
variable{S:aA}{Q:Res->aA->Prop}
theorem map_set{α β:Type}(f:α->β)(l:List α)(i:Nat)(a:α):(l.set i a).map f=(l.map f).set i (f a):=by
 rw[List.map_set]
theorem aL(s:bu):∀k,s.d≠.ref k:=fun k z=>(nomatch z)
theorem df{s:bu}{i:Nat}{r:eI}(hi:i<s.rooms.length)(hl:s.rooms.length<=900)(q:Q (.d ({s with rooms:=s.rooms.set i r}:bu).d) S):Fn bS [s.d,.int i,r.d] S Q:=by
 refine bF ?_
 unfold pM
 symm
 refine ak rfl ?_
 symm
 refine dz (by simpa using hi) (by simpa using hl) (aX fun r _=>r.low) r.low ?_
 symm
 refine⟨by show 1<=sizeLine;decide,?_⟩
 refine jh ?_
 symm
 refine cU ?_
 symm
 refine⟨_,rfl,cV ⟨_,rfl,?_⟩⟩
 refine dN (by show 4<=sizeLine;decide) ?_
 refine cg (d:=({s with rooms:=s.rooms.set i r}:bu).d) (aL _) (bu.low _) q|>fun z=> ?_
 rw[←map_set]
 exact z
theorem fP{s:bu}{i:Nat}{p:Int×List Int}(hi:i<s.passes.length)(hl:s.passes.length<=900)(q:Q (.d ({s with passes:=s.passes.set i p}:bu).d) S):Fn dY [s.d,.int i,wW p] S Q:=by
 refine bF ?_
 unfold qH
 symm
 refine ak rfl ?_
 symm
 refine ak rfl ?_
 symm
 refine dz (by simpa using hi) (by simpa using hl) (aX fun r _=>xt r) (xt p) ?_
 symm
 refine⟨by show 2<=sizeLine;decide,?_⟩
 refine jh ?_
 symm
 refine cU ?_
 symm
 refine⟨_,rfl,cV ⟨_,rfl,?_⟩⟩
 refine dN (by show 4<=sizeLine;decide) ?_
 refine cg (d:=({s with passes:=s.passes.set i p}:bu).d) (aL _) (bu.low _) q|>fun z=> ?_
 rw[←map_set]
 exact z
theorem fR{s:bu}{i:Nat}{vs:List Int}{fs:List cD}(hi:i<s.hands.length)(hl:s.hands.length<=900)(q:Q (.d ({s with hands:=s.hands.set i (vs,fs)}:bu).d) S):Fn dg [s.d,.int i,cJ vs,.tup (fs.map cD.d)] S Q:=by
 refine bF ?_
 unfold pS
 refine og (wq (jh ?_))
 symm
 refine cV (cU ?_)
 symm
 refine⟨_,rfl,_,rfl,?_⟩
 symm
 refine ak rfl ?_
 symm
 refine⟨by show 2<=sizeLine;decide,?_⟩
 symm
 refine dz (d:=xF (vs,fs)) (by simpa using hi) (by simpa using hl) (aX fun r _=>wZ r) (wZ (vs,fs)) ?_
 symm
 refine⟨by show 1<=sizeLine;decide,?_⟩
 refine dN (by show 4<=sizeLine;decide) ?_
 refine cg (d:=({s with hands:=s.hands.set i (vs,fs)}:bu).d) (aL _) (bu.low _) q|>fun z=> ?_
 rw[←map_set]
 exact z
theorem gE{s:bu}{h:Nat}{vs:List Int}{fs:List cD}{f:cD}(h1:s.hands[h]?=some (vs,fs))(h0:0<fs.length)(lf:fs.length<=900)(hl:s.hands.length<=900)(q:Q (.d ({s with hands:=s.hands.set h (vs,fs.dropLast++ [f])}:bu).d) S):Fn cO [s.d,.int h,f.d] S Q:=by
 refine bF ?_
 unfold ia
 symm
 refine ak rfl ?_
 symm
 refine ak (d:=xF (vs,fs)) (aO (by rw[gQm,h1];rfl)) ?_
 refine dX rfl (aq (aR (aq (aR (bg ?_)))))
 symm
 refine jh ?_
 symm
 refine cV (cU (lU ?_))
 symm
 refine⟨1,rfl,_,rfl,_,rfl,?_⟩
 symm
 refine⟨by show 1<=sizeLine;decide,?_⟩
 rw[wO (by simpa using h0)]
 refine dN (by simp only[List.length_dropLast,lQm,List.length_cons,List.length_nil];exact nQl (bh (by omega))) ?_
 symm
 have e:(fs.map cD.d).dropLast++ [f.d]=(fs.dropLast++ [f]).map cD.d:=by rw[List.map_append,List.map_dropLast];rfl
 rw[e]
 refine fR (gQs.mp h1).1 hl ?_
 exact cg (aL _) (bu.low _) q
theorem mK{s:bu}{h:Nat}{vs:List Int}{fs:List cD}{f:cD}{n:Int}(h1:s.hands[h]?=some (vs,fs))(h2:fs.getLast? =some f)(lf:fs.length<=900)(hl:s.hands.length<=900)(q:Q (.d ({s with hands:=s.hands.set h (vs,fs.dropLast++ [{f with row:=n}])}:bu).d) S):Fn fS [s.d,.int h,.int n] S Q:=by
 refine bF ?_
 unfold yo
 symm
 refine bH h1 h2 ?_
 symm
 refine jh ?_
 symm
 refine cV (cU ?_)
 symm
 refine⟨_,rfl,_,rfl,?_⟩
 symm
 refine⟨by show 1<=sizeLine;decide,?_⟩
 refine dN (by show 3<=sizeLine;decide) ?_
 refine jh ?_
 symm
 refine cU ?_
 symm
 refine⟨_,rfl,cV ⟨_,rfl,?_⟩⟩
 refine dN (by show 5<=sizeLine;decide) ?_
 symm
 have h0:0<fs.length:=by
  cases fs with
  |nil=>cases h2
  |cons a b=>simp
 refine gE (f:={f with row:=n}) h1 h0 lf hl ?_
 exact cg (aL _) (bu.low _) q
def q_(r:eI)(h:Int):eI:=if r.within= -1 then{r with within:=h} else{r with row:=r.row++ [h]}
def g9(r:eI):eI:=match r.late,r.row with
 |a::l,_=>{r with within:=a,late:=l}
 | [],a::l=>{r with within:=a,row:=l}
 | [],[]=>{r with within:= -1}
theorem qh{s:bu}{i:Nat}{h:Int}{r:eI}(h1:s.rooms[i]?=some r)(hl:s.rooms.length<=900)(lr:r.row.length<=900)(q:Q (.d ({s with rooms:=s.rooms.set i (q_ r h)}:bu).d) S):Fn iy [s.d,.int i,.int h] S Q:=by
 have hi:=(gQs.mp h1).1
 refine bF ?_
 unfold vA
 symm
 refine ak rfl ?_
 symm
 refine ak (d:=r.d) (aO (by rw[gQm,h1];rfl)) ?_
 refine dX rfl (aq (aR (aq (aR (aq (aR (aq (aR (aq (aR (bg ?_)))))))))))
 symm
 refine dj ?_
 dsimp only
 unfold q_ at q
 by_cases c:r.within= -1
 ·rw[if_pos c] at q
  rw[decide_eq_true c,if_pos rfl]
  symm
  refine⟨by show 5<=sizeLine;decide,?_⟩
  symm
  refine df (r:={r with within:=h}) hi hl ?_
  exact cg (aL _) (bu.low _) q
 ·rw[if_neg c] at q
  rw[decide_eq_false c,if_neg (by decide)]
  symm
  refine⟨by show 1<=sizeLine;decide,?_⟩
  refine dN (by simp only[lQm,List.length_cons,List.length_nil];exact nQl (bh (by omega))) ?_
  symm
  refine⟨by show 5<=sizeLine;decide,?_⟩
  symm
  have e:D.tup (r.row.map D.int++ [D.int h])=cJ (r.row++ [h]):=by simp[cJ]
  rw[e]
  refine df (r:={r with row:=r.row++ [h]}) hi hl ?_
  exact cg (aL _) (bu.low _) q
end
section
variable{S:aA}{Q:Res->aA->Prop}
theorem y6{α:Type}{a:α}{l:List α}:jk (a::l) 0=some a:=aO (j:=0) rfl
theorem uf{S:aA}{ds:List D}{Q:Bool->Prop}(q:Q (!ds.isEmpty)):Op (xb S (.tup ds)) Q:=⟨_,rfl,q⟩
theorem vP{s:bu}{i:Nat}{r:eI}(h1:s.rooms[i]?=some r)(hl:s.rooms.length<=900)(q:Q (.d ({s with rooms:=s.rooms.set i (g9 r)}:bu).d) S):Fn kL [s.d,.int i] S Q:=by
 have hi:=(gQs.mp h1).1
 refine bF ?_
 unfold AE
 symm
 refine ak rfl ?_
 symm
 refine ak (d:=r.d) (aO (by rw[gQm,h1];rfl)) ?_
 refine dX rfl (aq (aR (aq (aR (aq (aR (aq (aR (aq (aR (bg ?_)))))))))))
 obtain⟨vals,within,row,late,bells⟩:=r
 symm
 refine uf ?_
 cases late with
 | cons a l=>
   refine aM (fun _=> ?_) (fun c=>by cases c)
   symm
   refine ak (d:=.int a) y6 ?_
   symm
   refine jh ?_
   symm
   refine cU ?_
   symm
   refine⟨_,rfl,cV ⟨_,rfl,?_⟩⟩
   symm
   refine⟨by show 5<=sizeLine;decide,?_⟩
   symm
   have e:D.tup (i4 ((a::l).map D.int) (some 1) none)=cJ l:=by
     rw[show(some (1:Int))=some ((1:Nat):Int) from rfl,ij (by simp)]
     rfl
   rw[e]
   refine df (r:=⟨vals,a,row,l,bells⟩) hi hl ?_
   exact cg (aL _) (bu.low _) q
 | nil=>
   refine aM (fun c=>by cases c) (fun _=> ?_)
   refine cp ?_
   symm
   refine uf ?_
   cases row with
   | cons a l=>
     refine aM (fun _=> ?_) (fun c=>by cases c)
     symm
     refine ak (d:=.int a) y6 ?_
     symm
     refine jh ?_
     symm
     refine cU ?_
     symm
     refine⟨_,rfl,cV ⟨_,rfl,?_⟩⟩
     symm
     refine⟨by show 5<=sizeLine;decide,?_⟩
     symm
     have e:D.tup (i4 ((a::l).map D.int) (some 1) none)=cJ l:=by
       rw[show(some (1:Int))=some ((1:Nat):Int) from rfl,ij (by simp)]
       rfl
     rw[e]
     refine df (r:=⟨vals,a,l,[],bells⟩) hi hl ?_
     exact cg (aL _) (bu.low _) q
   | nil=>
     refine aM (fun c=>by cases c) (fun _=> ?_)
     refine cp ?_
     symm
     refine⟨by show 5<=sizeLine;decide,?_⟩
     symm
     refine df (r:=⟨vals,-1,[],[],bells⟩) hi hl ?_
     exact cg (aL _) (bu.low _) q
theorem eT{α:Type}{enc:α->D}{nm:α->Str}{xs:List α}(he:∀a,∃r,enc a=.tup (.str (nm a)::r))(hl:xs.length<=1000)(q:Q (.l ((xs.map nm).map D.str)) S):Fn cY [.tup (xs.map enc)] S Q:=by
 refine bF ?_
 unfold tj
 symm
 refine qN (α:=α) (fun Γ'=>∃a,Γ'= [a]) enc (fun a=>.str (nm a)) ⟨none,rfl⟩ ?_
 symm
 refine⟨xs,rfl,trivial,hl,fun r hr Γ' hΓ=> ?_,?_⟩
 ·obtain⟨a,rfl⟩:=hΓ
  refine aR ⟨rfl,⟨_,rfl⟩,?_⟩
  obtain⟨rr,e⟩:=he r
  rw[e]
  symm
  exact ak y6 ⟨rfl,rfl⟩
 ·have e:xs.map (fun a=>D.str (nm a))=(xs.map nm).map D.str:=by rw[List.map_map];rfl
  rw[e]
  exact BP (aX fun _ _=>rfl) q
theorem iZ:∀ss:List Str,jE (ss.map D.str)=some (ss.map V.str)
 | []=>rfl
 |s::ss=>by simp only[List.map_cons,jE,rO,Option.bind_some];rw[iZ ss];rfl
theorem uq{x:Str}:∀{ns:List Str},x∈ns->∃j,mF (.str x) (ns.map V.str)=some j/\ns[j]?=some x
 | [],h=>by cases h
 | n::ns,h=>by
   by_cases c:n=x
   · subst c
     exact⟨0,by simp[mF,kf],rfl⟩
   · obtain⟨j,h1,h2⟩:=uq (ns:=ns) ((List.mem_cons.mp h).resolve_left (Ne.symm c))
     exact⟨j+1,by simp only[List.map_cons,mF];rw[h1];simp[kf,c],by simpa using h2⟩
end
end W28
namespace DL
open PySem PySem.Spec L2
section
variable{Γ:cE}{S:aA}
theorem wu{T:String}{f:bq}{Q:D->aA->Prop}(h:E f Γ S fun d S1=>Op (Co S1 T d) fun k=>Q (.bl k) S1):E (m3 T f) Γ S Q:=by
 obtain⟨d,S1,e1,k,e2,q⟩:=h
 exact⟨_,S1,by unfold m3;rw[e1];simp only[Option.bind_some];rw[e2];rfl,q⟩
theorem qB{b:Bool}{Q:Bool->Prop}(q:Q b):Op (xb S (.bl b)) Q:=⟨_,rfl,q⟩
theorem GA{f g:bq}{Q:D->aA->Prop}(h:E f Γ S fun x S1=>E g Γ S1 fun y S2=>∃k kvs z v,x=.ref k/\y=.str z/\S2[k]?=some (.dct kvs)/\qz kvs (.inr z)=some v/\Q v S2):E (GD f g) Γ S Q:=by
 obtain⟨x,S1,e1,y,S2,e2,k,kvs,z,v,rfl,rfl,h1,h2,q⟩:=h
 exact⟨v,S2,by unfold GD;rw[e1];simp only[Option.bind_some];rw[e2];simp only[Option.bind_some,h1,rP,h2],q⟩
theorem j9{i j:Int}{Q:D->Prop}(q:Q (.bl (!decide (i=j)))):Op (eB true S (.int i) (.int j)) Q:=⟨_,by simp[eB,rO,xo],q⟩
theorem BO{i j:Int}{Q:D->Prop}(q:Q (.int (if j<i then j else i))):Op (minD [.int i,.int j]) Q:=⟨_,rfl,q⟩
theorem DA{i j:Int}{Q:D->Prop}(q:Q (.int (if j>i then j else i))):Op (maxD [.int i,.int j]) Q:=⟨_,rfl,q⟩
end
end DL
namespace W28
open PySem PySem.Spec L2 DL
def FB(o:Str)(a b:Int):Int:=
 if o="plus" then(if 9<a+b then 9 else a+b) else if o="minus" then(if 0>a-b then 0 else a-b) else if o="less" then(if a<b then 1 else 0)
 else if o="same" then(if a=b then 1 else 0) else(if a≠0/\b≠0 then 1 else 0)
def wX(th wt:Str->Int):Tr->Int
 |.num n=>n
 |.word x=>th x
 |.waits b=>if 0<wt b then 1 else 0
 |.no t=>if wX th wt t=0 then 1 else 0
 |.two o a b=>FB o (wX th wt a) (wX th wt b)
theorem zt{o:Str}{a b:Int}(ha:0<=a/\a<=9)(hb:0<=b/\b<=9):0<=FB o a b/\FB o a b<=9:=by
 unfold FB
 repeat' split
 all_goals omega
theorem j3{th wt:Str->Int}{ws bs:List Str}(h:∀x∈ws,0<=th x/\th x<=9):∀{t:Tr},t.Ok ws bs->0<=wX th wt t/\wX th wt t<=9
 |.num n,ho=>by have:n<=9:=ho;simp only[wX];omega
 |.word x,ho=>h x ho
 |.waits b,_=>by simp only[wX];split <;>omega
 |.no t,_=>by simp only[wX];split <;>omega
 |.two o a b,ho=>zt (j3 h ho.2.1) (j3 h ho.2.2)
section
variable{S:aA}{Q:Res->aA->Prop}
theorem dm{S:aA}{i:Int}{Q:Res->aA->Prop}(q:Q (.d (.int i)) S):Op (settle S (.int i) S) fun p=>Q p.1 p.2:=cg (fun k z=>(nomatch z)) rfl q
theorem oE{o:Str}{a b:Int}(q:Q (.d (.int (FB o a b))) S):Fn fE [.str o,.int a,.int b] S Q:=by
 refine bF ?_
 unfold ki
 unfold FB at q
 symm
 refine gI ?_
 dsimp only
 by_cases c1:o="plus"
 ·rw[if_pos c1] at q
  rw[decide_eq_true c1,if_pos rfl]
  symm
  refine BO ?_
  exact dm q
 rw[if_neg c1] at q
 rw[decide_eq_false c1,if_neg (by decide)]
 refine cp ?_
 symm
 refine gI ?_
 dsimp only
 by_cases c2:o="minus"
 ·rw[if_pos c2] at q
  rw[decide_eq_true c2,if_pos rfl]
  symm
  refine DA ?_
  exact dm q
 rw[if_neg c2] at q
 rw[decide_eq_false c2,if_neg (by decide)]
 refine cp ?_
 symm
 refine gI ?_
 dsimp only
 by_cases c3:o="less"
 ·rw[if_pos c3] at q
  rw[decide_eq_true c3,if_pos rfl]
  symm
  by_cases c:a<b
  ·rw[if_pos c] at q
   rw[decide_eq_true c,if_pos rfl]
   symm
   exact dm q
  ·rw[if_neg c] at q
   rw[decide_eq_false c,if_neg (by decide)]
   symm
   exact dm q
 rw[if_neg c3] at q
 rw[decide_eq_false c3,if_neg (by decide)]
 refine cp ?_
 symm
 refine gI ?_
 dsimp only
 by_cases c4:o="same"
 ·rw[if_pos c4] at q
  rw[decide_eq_true c4,if_pos rfl]
  symm
  refine dj ?_
  dsimp only
  by_cases c:a=b
  ·rw[if_pos c] at q
   rw[decide_eq_true c,if_pos rfl]
   symm
   exact dm q
  ·rw[if_neg c] at q
   rw[decide_eq_false c,if_neg (by decide)]
   symm
   exact dm q
 rw[if_neg c4] at q
 rw[decide_eq_false c4,if_neg (by decide)]
 refine cp ?_
 symm
 refine j9 ?_
 dsimp only
 by_cases c5:a=0
 ·rw[if_neg (fun z=>z.1 c5)] at q
  rw[decide_eq_true c5]
  show if (false=true) then _ else _
  rw[if_neg (by decide)]
  show if (false=true) then _ else _
  rw[if_neg (by decide)]
  symm
  exact dm q
 ·rw[decide_eq_false c5]
  show if (true=true) then _ else _
  rw[if_pos rfl]
  symm
  refine j9 ?_
  dsimp only
  by_cases c6:b=0
  ·rw[if_neg (fun z=>z.2 c6)] at q
   rw[decide_eq_true c6]
   show if (false=true) then _ else _
   rw[if_neg (by decide)]
   symm
   exact dm q
  ·rw[if_pos ⟨c5,c6⟩] at q
   rw[decide_eq_false c6]
   show if (true=true) then _ else _
   rw[if_pos rfl]
   symm
   exact dm q
end
theorem dw{Γ:cE}{S:aA}{T:String}{f:bq}{d:D}{b:Bool}{Q:Bool->aA->Prop}(h:E f Γ S fun x S1=>x=d/\S1=S)(hd:Co S T d=some b)(q:Q b S):E (jo (m3 T f)) Γ S Q:=by
 refine GL (wu (h.mono fun x S1 qr=> ?_))
 obtain⟨e1,e2⟩:=qr
 subst e1 e2
 exact⟨b,hd,qB q⟩
theorem C5{o:Str}(h:o∈ops):o≠"waits" /\o≠"not":=by
 simp only[ops,List.mem_cons,List.not_mem_nil,or_false] at h
 rcases h with rfl|rfl|rfl|rfl|rfl <;>exact⟨by decide +kernel,by decide +kernel⟩
theorem fF{th wt:Str->Int}{ws bs:List Str}{i j:Nat}{kvs kws:List (Key×D)}{S:aA}(hi:S[i]?=some (.dct kvs))(hj:S[j]?=some (.dct kws))(h1:∀x∈ws,qz kvs (.inr x)=some (.int (th x)))(h2:∀b∈bs,qz kws (.inr b)=some (.int (wt b))):
  ∀(n:Nat) (t:Tr) {Q:Res->aA->Prop},t.Ok ws bs->t.dep<=n->Q (.d (.int (wX th wt t))) S->Fn (fA n) [t.d,.ref i,.ref j] S Q
 |0,t,Q,_,hd,_=>by cases t <;>simp[Tr.dep] at hd
 | n+1,t,Q,ho,hd,q=>by
   refine bF ?_
   unfold sZ
   cases t with
   | num v=>
     refine bC (dU (dw (d:=.int v) (cN rfl ⟨rfl,rfl⟩) rfl ?_))
     refine aM (fun _=> ?_) (fun c=>by cases c)
     symm
     exact dm q
   | word x=>
     refine bC (dU (dw (d:=.str x) (cN rfl ⟨rfl,rfl⟩) rfl ?_))
     refine aM (fun c=>by cases c) (fun _=>cp ?_)
     refine bC (dU (dw (d:=.str x) (cN rfl ⟨rfl,rfl⟩) rfl ?_))
     refine aM (fun _=> ?_) (fun c=>by cases c)
     refine og (GA ?_)
     symm
     refine⟨_,_,_,_,rfl,rfl,hi,h1 x ho,?_⟩
     exact dm q
   | waits b=>
     refine bC (dU (dw (d:=.tup [.str "waits",.str b]) (cN rfl ⟨rfl,rfl⟩) rfl ?_))
     refine aM (fun c=>by cases c) (fun _=>cp ?_)
     refine bC (dU (dw (d:=.tup [.str "waits",.str b]) (cN rfl ⟨rfl,rfl⟩) rfl ?_))
     refine aM (fun c=>by cases c) (fun _=>cp ?_)
     symm
     refine ak rfl ?_
     symm
     refine gI ?_
     dsimp only
     rw[decide_eq_true rfl,if_pos rfl]
     symm
     refine GA ?_
     symm
     refine ak rfl ?_
     refine⟨_,_,_,_,rfl,rfl,hj,h2 b ho,?_⟩
     symm
     simp only[wX] at q
     by_cases c:0<wt b
     · rw[if_pos c] at q
       rw[decide_eq_true c,if_pos rfl]
       symm
       exact dm q
     · rw[if_neg c] at q
       rw[decide_eq_false c,if_neg (by decide)]
       symm
       exact dm q
   | no t=>
     have hd':t.dep<=n:=by simp only[Tr.dep] at hd;omega
     refine bC (dU (dw (d:=.tup [.str "not",t.d]) (cN rfl ⟨rfl,rfl⟩) rfl ?_))
     refine aM (fun c=>by cases c) (fun _=>cp ?_)
     refine bC (dU (dw (d:=.tup [.str "not",t.d]) (cN rfl ⟨rfl,rfl⟩) rfl ?_))
     refine aM (fun c=>by cases c) (fun _=>cp ?_)
     symm
     refine ak rfl ?_
     symm
     refine gI ?_
     dsimp only
     rw[decide_eq_false (show¬(("not":Str)="waits") by decide +kernel),if_neg (by decide)]
     refine cp ?_
     symm
     refine ak rfl ?_
     symm
     refine fF hi hj h1 h2 n t ho hd' ?_
     symm
     refine ak rfl ?_
     symm
     refine gI ?_
     dsimp only
     rw[decide_eq_true rfl,if_pos rfl]
     symm
     refine dj ?_
     dsimp only
     simp only[wX] at q
     by_cases c:wX th wt t=0
     · rw[if_pos c] at q
       rw[decide_eq_true c,if_pos rfl]
       symm
       exact dm q
     · rw[if_neg c] at q
       rw[decide_eq_false c,if_neg (by decide)]
       symm
       exact dm q
   | two o a b=>
     have hda:a.dep<=n:=by simp only[Tr.dep] at hd;omega
     have hdb:b.dep<=n:=by simp only[Tr.dep] at hd;omega
     obtain⟨n1,n2⟩:=C5 ho.1
     refine bC (dU (dw (d:=.tup [.str o,a.d,b.d]) (cN rfl ⟨rfl,rfl⟩) rfl ?_))
     refine aM (fun c=>by cases c) (fun _=>cp ?_)
     refine bC (dU (dw (d:=.tup [.str o,a.d,b.d]) (cN rfl ⟨rfl,rfl⟩) rfl ?_))
     refine aM (fun c=>by cases c) (fun _=>cp ?_)
     symm
     refine ak rfl ?_
     symm
     refine gI ?_
     dsimp only
     rw[decide_eq_false n1,if_neg (by decide)]
     refine cp ?_
     symm
     refine ak rfl ?_
     symm
     refine fF hi hj h1 h2 n a ho.2.1 hda ?_
     symm
     refine ak rfl ?_
     symm
     refine gI ?_
     dsimp only
     rw[decide_eq_false n2,if_neg (by decide)]
     refine cp ?_
     symm
     refine ak rfl ?_
     symm
     refine ak rfl ?_
     symm
     refine fF hi hj h1 h2 n b ho.2.2 hdb ?_
     symm
     refine oE ?_
     exact dm q
end W28
namespace DL
open PySem PySem.Spec L2
theorem sJ{l:List (Key×D)}{k:Key}(h:k∈l.map (·.1)):∃d,qz l k=some d/\(k,d)∈l:=by
 unfold qz
 cases e:l.find? fun kv=>decide (kv.1=k) with
 | none=>
   obtain⟨p,hp,rfl⟩:=List.mem_map.mp h
   have:=List.find?_eq_none.mp e p hp
   simp at this
 | some p=>
   have h1:=List.find?_some e
   have h2:=List.mem_of_find?_eq_some e
   have h3:p.1=k:=by simpa using h1
   exact⟨p.2,rfl,by rw[←h3];exact h2⟩
theorem wo{l:List (Key×D)}{k:Key}{v:D}{p:Key×D}(h:p∈putD l k v):p∈l\/p=(k,v):=by
 unfold putD at h
 split at h
 ·obtain⟨q,hq,e⟩:=List.mem_map.mp h
  split at e
  ·rename_i c
   rw[←e,c]
   exact .inr rfl
  ·rw[←e]
   exact .inl hq
 ·rcases mQa.mp h with h|h
  ·exact .inl h
  ·exact .inr (List.mem_singleton.mp h)
theorem jY{l:List (Key×D)}{k x:Key}{v:D}(h:x=k\/x∈l.map (·.1)):x∈(putD l k v).map (·.1):=by
 unfold putD
 split
 ·rename_i c
  have key:∀p∈l,(if p.1=k then(p.1,v) else p).1=p.1:=fun p _=>by split <;>rfl
  have e:(l.map fun p=>if p.1=k then(p.1,v) else p).map (·.1)=l.map (·.1):=by
   rw[List.map_map]
   exact List.map_congr_left key
  rw[e]
  rcases h with rfl|h
  ·obtain⟨p,hp,hc⟩:=List.any_eq_true.mp c
   exact List.mem_map.mpr ⟨p,hp,by simpa using hc⟩
  ·exact h
 ·rw[List.map_append]
  rcases h with rfl|h
  ·exact List.mem_append_right _ (by simp)
  ·exact List.mem_append_left _ h
theorem k_:∀{more l:List (Key×D)} {p:Key×D},p∈cR l more->p∈l\/p∈more
 | [],l,p,h=>.inl h
 | q::more,l,p,h=>by
   rcases k_ (more:=more) (l:=putD l q.1 q.2) h with h|h
   · rcases wo h with h|rfl
     · exact .inl h
     · exact .inr (List.mem_cons_self ..)
   · exact .inr (List.mem_cons_of_mem _ h)
theorem fI:∀{more l:List (Key×D)} {x:Key},x∈l.map (·.1)\/x∈more.map (·.1)->x∈(cR l more).map (·.1)
 | [],l,x,h=>h.elim id fun z=>by cases z
 | q::more,l,x,h=>by
   refine fI (more:=more) (l:=putD l q.1 q.2) ?_
   rcases h with h|h
   · exact .inl (jY (.inr h))
   · rcases List.mem_cons.mp h with rfl|h
     · exact .inl (jY (.inl rfl))
     · exact .inr h
theorem pE:∀ss:List Str,vH (ss.map D.str)=some (ss.map Sum.inr)
 | []=>rfl
 |s::ss=>by simp only[List.map_cons,vH,rP,Option.bind_some];rw[pE ss];rfl
section
variable{Γ:cE}{S:aA}
theorem He{Q:D->aA->Prop}(q:Q (.ref S.length) (S++ [.dct []])):E HI Γ S Q:=⟨_,_,rfl,q⟩
theorem EL{f g:eR}{Q:D->aA->Prop}(h:E f Γ S fun p S1=>E g Γ S1 fun r S2=>∃ss:List Str,p.1=ss.map D.str/\(p.2.stays S2 p.1/\p.1.length=r.1.length)/\Q (.ref S2.length) (S2++ [.dct (cR [] ((ss.map Sum.inr).zip r.1))])):E (FD f g) Γ S Q:=by
 obtain⟨p,S1,e1,r,S2,e2,ss,h1,h2,q⟩:=h
 refine⟨_,_,?_,q⟩
 unfold FD
 rw[e1]
 simp only[Option.bind_some]
 rw[e2]
 simp only[Option.bind_some]
 rw[if_pos h2,h1,pE]
 rfl
theorem GE{f g:bq}{Q:D->aA->Prop}(h:E f Γ S fun x S1=>E g Γ S1 fun y S2=>∃k j l0 l m,x=.ref k/\y=.ref j/\k≠j/\S1[k]?=some (.dct l0)/\S2[k]?=some (.dct l)/\S2[j]?=some (.dct m)/\l.length+m.length<=sizeLine/\Q .non (S2.set k (.dct (cR l m)))):E (Ck f g) Γ S Q:=by
 obtain⟨x,S1,e1,y,S2,e2,k,j,l0,l,m,rfl,rfl,hn,h0,h1,h2,h3,q⟩:=h
 exact⟨_,_,by unfold Ck;rw[e1];simp only[Option.bind_some];rw[e2];simp only[Option.bind_some];rw[if_pos hn];simp only[h0,h1,h2];rw[if_pos h3],q⟩
theorem HF{f g h:bq}{Q:Out->Prop}(w:E h Γ S fun d S1=>E f Γ S1 fun x S2=>E g Γ S2 fun y S3=>∃k l z,x=.ref k/\y=.str z/\S3[k]?=some (.dct l)/\l.length<sizeLine/\Q (.nx Γ (S3.set k (.dct (putD l (.inr z) d))))):T (GU f g h) Γ S Q:=by
 obtain⟨d,S1,e1,x,S2,e2,y,S3,e3,k,l,z,rfl,rfl,h1,h2,q⟩:=w
 exact⟨_,by unfold GU;rw[e1];simp only[Option.bind_some];rw[e2];simp only[Option.bind_some];rw[e3];simp only[Option.bind_some,h1,rP];rw[if_pos h2],q⟩
theorem Hf{α:Type}{n:Nat}{js:List (Option Nat)}{i:wR}{g:lu}{fk fv:bq}{Q:Out->Prop}(P:cE->Prop)(enc:α->D)(key:α->Str)(val:α->D)(h0:P (lj js Γ)) (h:E i Γ S fun p S1=>∃xs:List α,p.1=xs.map enc/\p.2 S1/\xs.length<=1000∧
   (∀x∈xs,∀Γ',P Γ'->Tg g (enc x) Γ' S1 fun Γ1 S2=>S2=S1/\P Γ1/\E fk Γ1 S1 fun y S3=>y=.str (key x)/\S3=S1/\E fv Γ1 S1 fun z S4=>z=val x/\S4=S1)∧
   Q (.nx (Γ.set n (some (.ref S1.length))) (S1++ [.dct (cR [] (xs.map fun x=>(Sum.inr (key x),val x)))]))):T (G5 n (qG js i g cX fk fv)) Γ S Q:=by
 obtain⟨⟨ds,W⟩,S1,e1,xs,rfl,hW,hl,hs,q⟩:=h
 have lp:∀(l:List (Key×D)) (k:Key) (v:D),(putD l k v).length<=l.length+1:=fun l k v=>by
  unfold putD
  split <;>simp
 have go:∀(ys:List α) (Γ':cE) (acc:List (Key×D)),(∀y∈ys,y∈xs)->P Γ'->acc.length+ys.length<=1000->∃r,g8 g cX fk fv W (ys.map enc) Γ' S1 acc=some (r,S1)/\r=cR acc (ys.map fun x=>(Sum.inr (key x),val x)):=by
  intro ys
  induction ys with
  |nil=>intro Γ' acc _ _ _;exact⟨acc,by simp only[List.map_nil,g8];rw[if_pos hW],rfl⟩
  | cons a ys ih=>
    intro Γ' acc hm hp hlen
    obtain⟨Γ1,S2,e2,rfl,hp1,y,S3,e3,rfl,rfl,z,S4,e4,rfl,rfl⟩:=hs a (hm a (List.mem_cons_self ..)) Γ' hp
    have hlen2:=lp acc (Sum.inr (key a)) (val a)
    simp only[List.length_cons] at hlen
    obtain⟨r,e5,hr⟩:=ih Γ1 (putD acc (Sum.inr (key a)) (val a)) (fun y hy=>hm y (List.mem_cons_of_mem _ hy)) hp1 (by omega)
    refine⟨r,?_,hr⟩
    simp only[List.map_cons,g8]
    rw[if_pos hW,e2]
    simp only[Option.bind_some,cX,if_true]
    rw[e3]
    simp only[Option.bind_some]
    rw[e4]
    simp only[Option.bind_some,rP]
    rw[if_pos (bh (by omega))]
    exact e5
 obtain⟨r,e2,rfl⟩:=go xs _ [] (fun _ h=>h) h0 (by simpa using hl)
 exact⟨_,by unfold G5 qG;rw[e1];simp only[Option.bind_some];rw[e2];rfl,q⟩
end
theorem jP{Γ:cE}{S:aA}{f g:eR}{Q:(List D×(aA->Prop))->aA->Prop}(h:E f Γ S fun p S1=>E g Γ S1 fun r S2=>(p.2.stays S2 p.1/\p.1.length<=r.1.length)/\Q (rT p.1 r.1,fun S=>p.2.stays S p.1/\r.2.stays S r.1) S2):E (q0 f g) Γ S Q:=by
 obtain⟨p,S1,e1,r,S2,e2,hc,q⟩:=h
 exact⟨_,S2,by unfold q0;rw[e1];simp only[Option.bind_some];rw[e2];simp only[Option.bind_some];rw[if_pos hc],q⟩
def jU(l:List (Key×D)):Prop:=∀p∈l,∃v:Int,p.2=.int v/\0<=v/\v<=9
theorem jU.merge{l m:List (Key×D)}(h1:jU l)(h2:jU m):jU (cR l m):=fun p hp=>(k_ hp).elim (h1 p) (h2 p)
theorem jU.put{l:List (Key×D)}{k:Key}{v:Int}(h:jU l)(h0:0<=v)(h9:v<=9):jU (putD l k (.int v)):=fun p hp=>by
 rcases wo hp with hp|rfl
 ·exact h p hp
 ·exact⟨v,rfl,h0,h9⟩
def numAt(l:List (Key×D))(x:Str):Int:=match qz l (.inr x) with|some (.int v)=>v|_=>0
theorem lR{l:List (Key×D)}(h:jU l){x:Str}(hx:(Sum.inr x:Key)∈l.map (·.1)):qz l (.inr x)=some (.int (numAt l x))/\0<=numAt l x/\numAt l x<=9:=by
 obtain⟨d,h1,h2⟩:=sJ hx
 obtain⟨v,h3,h4,h5⟩:=h _ h2
 have h3:d=.int v:=h3
 subst h3
 have e:numAt l x=v:=by unfold numAt;rw[h1]
 rw[e]
 exact⟨h1,h4,h5⟩
theorem BH{ss:List Str}{vs:List Int}(h:∀v∈vs,0<=v/\v<=9):jU ((ss.map (Sum.inr:Str->Key)).zip (vs.map D.int)):=fun p hp=>by
 have h2:p.2∈vs.map D.int:=(List.of_mem_zip (show(p.1,p.2)∈_ from hp)).2
 obtain⟨v,hv,e⟩:=List.mem_map.mp h2
 exact⟨v,e.symm,h v hv⟩
theorem BZ{ss:List Str}{ds:List D}(h:ss.length=ds.length):((ss.map (Sum.inr:Str->Key)).zip ds).map (·.1)=ss.map Sum.inr:=by
 rw[List.map_fst_zip]
 simpa using Nat.le_of_eq h
end DL
namespace W28
open PySem PySem.Spec L2 DL
def dF(ts:List (Str×Nat))(vs:List Int):List (Key×D):=cR [] (((ts.map (·.1)).map Sum.inr).zip (vs.map D.int))
def zw(w:du)(s:bu)(ts:List (Str×Nat))(vs:List Int):List (Key×D):=cR (dF w.shared s.shared) (dF ts vs)
def tT(r:Rm)(rs:eI)(given:Int):List (Key×D):=putD (dF r.things rs.vals) (.inr "given") (.int given)
def yE(r:Rm)(rs:eI):List (Key×D):=cR [] ((r.bells.zip rs.bells).map fun p=>(Sum.inr p.1.1,D.int (p.2.length:Nat)))
theorem gc{ts:List (Str×Nat)}{vs:List Int}(h:∀v∈vs,0<=v/\v<=9):jU (dF ts vs):=jU.merge (fun p hp=>by cases hp) (BH h)
theorem fX{ts:List (Str×Nat)}{vs:List Int}(hl:ts.length=vs.length){x:Str}(h:x∈ts.map (·.1)):(Sum.inr x:Key)∈(dF ts vs).map (·.1):=by
 refine fI (.inr ?_)
 rw[BZ (by simpa using hl)]
 exact List.mem_map.mpr ⟨x,h,rfl⟩
structure lY(S S':aA):Prop where
 len:S.length<=S'.length
 eq:∀j,j<S.length->S'[j]?=S[j]?
theorem lY.refl{S:aA}:lY S S:=⟨Nat.le_refl _,fun _ _=>rfl⟩
theorem lY.app{S S1 G:aA}(x:lY S S1):lY S (S1++G):=⟨by rw[lQa];have:=x.len;omega,fun j hj=>by rw[List.getElem?_append_left (by have:=x.len;omega)];exact x.eq j hj⟩
theorem lY.put{S S1:aA}{r:Nat}{o:O}(x:lY S S1)(hr:S.length<=r):lY S (S1.set r o):=⟨by simpa using x.len,fun j hj=>by rw[List.getElem?_set_ne (by omega)];exact x.eq j hj⟩
theorem lS{S S':aA}{d:D}{Q:Res->aA->Prop}(x:lY S S')(hd:∀k,d≠.ref k)(hl:bJ 0 d=true)(q:Q (.d d) S):Op (settle S d S') fun p=>Q p.1 p.2:=by
 refine fZ ⟨x.len,fun k o hk e=>.inl (by rw[←x.eq k hk];exact e)⟩ ?_ hd (da hl) q
 apply List.ext_getElem?
 intro j
 by_cases hj:j<S.length
 ·rw[List.getElem?_take_of_lt hj]
  exact x.eq j hj
 ·rw[List.getElem?_eq_none (by rw[List.length_take];omega),List.getElem?_eq_none (by omega)]
theorem fV:∀a:Str×Nat,∃r,rj a=.tup (.str a.1::r):=fun a=>⟨_,rfl⟩
theorem yC:∀a:Str×Str,∃r,BJ a=.tup (.str a.1::r):=fun a=>⟨_,rfl⟩
section
variable{S:aA}{Q:Res->aA->Prop}
theorem pH:∀{m l:List (Key×D)},(cR l m).length<=l.length+m.length
 | [],l=>Nat.le_refl _
 | q::m,l=>by
   have h1:(cR (putD l q.1 q.2) m).length<=(putD l q.1 q.2).length+m.length:=pH
   have h2:(putD l q.1 q.2).length<=l.length+1:=by unfold putD;split <;>simp
   show(cR (putD l q.1 q.2) m).length<=_
   simp only[List.length_cons]
   omega
theorem qv{ts:List (Str×Nat)}{vs:List Int}:(dF ts vs).length<=ts.length:=by
 refine Nat.le_trans pH ?_
 simp only[List.length_nil,List.length_zip,lQm]
 omega
theorem uN{w:du}{s:bu}{h:Nat}{ts:List (Str×Nat)}{pr:List Rw}{vs:List Int}{fs:List cD}{f:cD}{t:Tr}(hw:w.hands[h]?=some (ts,pr))(hs:s.hands[h]?=some (vs,fs))(hf:fs.getLast? =some f)(hr:f.room= -1)
  (l1:w.shared.length=s.shared.length) (l2:ts.length=vs.length) (b1:w.shared.length<=100) (b2:ts.length<=100) (v1:∀v∈s.shared,0<=v/\v<=9) (v2:∀v∈vs,0<=v/\v<=9)
  (ho:t.Ok (ts.map (·.1)++w.shared.map (·.1)) []) (hd:t.dep<=6) (q:Q (.d (.int (wX (numAt (zw w s ts vs)) (fun _=>0) t))) S):Fn b_ [w.d,s.d,.int h,t.d] S Q:=by
 have nine:jU (zw w s ts vs):=jU.merge (gc v1) (gc v2)
 refine bF ?_
 unfold m9
 symm
 refine bH hs hf ?_
 symm
 refine ak (d:=.int f.room) rfl ?_
 symm
 refine dj ?_
 dsimp only
 rw[decide_eq_true hr,if_pos rfl]
 symm
 refine EL ?_
 symm
 refine ak rfl ?_
 symm
 refine eT (enc:=rj) (nm:=(·.1)) fV (by omega) ?_
 symm
 refine ak rfl ?_
 refine bW (ds:=s.shared.map D.int) ?_
 refine⟨_,rfl,⟨trivial,by simp only[lQm];exact l1⟩,?_⟩
 dsimp only
 rw[show cR [] (((w.shared.map (·.1)).map (Sum.inr:Str->Key)).zip (s.shared.map D.int))=dF w.shared s.shared from rfl]
 refine bC (gB (GE ?_))
 symm
 refine EL ?_
 symm
 refine ak rfl ?_
 symm
 refine ak (d:=jB (ts,pr)) (aO (by rw[gQm,hw];rfl)) ?_
 symm
 refine ak rfl ?_
 symm
 refine eT (enc:=rj) (nm:=(·.1)) fV (by omega) ?_
 symm
 refine ak rfl ?_
 symm
 refine ak (d:=xF (vs,fs)) (aO (by rw[gQm,hs];rfl)) ?_
 symm
 refine ak rfl ?_
 refine bW (ds:=vs.map D.int) ?_
 refine⟨_,rfl,⟨trivial,by simp only[lQm];exact l2⟩,?_⟩
 dsimp only
 rw[show cR [] (((ts.map (·.1)).map (Sum.inr:Str->Key)).zip (vs.map D.int))=dF ts vs from rfl]
 have ga:(S++ [O.dct (dF w.shared s.shared)])[S.length]?=some (.dct (dF w.shared s.shared)):=aG
 have hlen:(S++ [O.dct (dF w.shared s.shared)]).length=S.length+1:=by simp
 have x1:lY S (S++ [O.dct (dF w.shared s.shared)]):=lY.refl.app
 show∃k j l0 l m,D.ref S.length=.ref k/\D.ref (S++ [O.dct (dF w.shared s.shared)]).length=.ref j/\k≠j/\(S++ [O.dct (dF w.shared s.shared)])[k]?=some (.dct l0)/\(S++ [O.dct (dF w.shared s.shared)]++ [O.dct (dF ts vs)])[k]?=some (.dct l)/\(S++ [O.dct (dF w.shared s.shared)]++ [O.dct (dF ts vs)])[j]?=some (.dct m)/\_
 refine⟨_,_,_,_,_,rfl,rfl,by omega,ga,aS ga,aG,?_,?_⟩
 ·have h1:=qv (ts:=w.shared) (vs:=s.shared)
  have h2:=qv (ts:=ts) (vs:=vs)
  exact nQl (bh (by omega))
 have gm:((S++ [O.dct (dF w.shared s.shared)]++ [O.dct (dF ts vs)]).set S.length (.dct (cR (dF w.shared s.shared) (dF ts vs))))[S.length]?=some (.dct (zw w s ts vs)):=cz (aS ga)
 have x2:lY S ((S++ [O.dct (dF w.shared s.shared)]++ [O.dct (dF ts vs)]).set S.length (.dct (cR (dF w.shared s.shared) (dF ts vs)))):=x1.app.put (Nat.le_refl _)
 generalize ((S++ [O.dct (dF w.shared s.shared)]++ [O.dct (dF ts vs)]).set S.length (.dct (cR (dF w.shared s.shared) (dF ts vs))))=S2 at gm x2⊢
 symm
 refine He ?_
 symm
 refine fF (th:=numAt (zw w s ts vs)) (wt:=fun _=>0) (ws:=ts.map (·.1)++w.shared.map (·.1)) (bs:= []) (aS gm) aG (fun x hx=> ?_) (fun b hb=>by cases hb) 6 t ho hd ?_
 ·refine(lR nine ?_).1
  refine fI ?_
  rcases mQa.mp hx with hx|hx
  ·exact .inr (fX l2 hx)
  ·exact .inl (fX l1 hx)
 ·exact lS x2.app (fun k z=>(nomatch z)) rfl q
end
section
variable{S:aA}{Q:Res->aA->Prop}
theorem wN:∀(bs:List (Str×Str)) (ls:List (List (Int×Int))),rT ((bs.map (·.1)).map D.str) (ls.map dQ)=(bs.zip ls).map fun p=>D.tup [.str p.1.1,dQ p.2]
 | [],_=>rfl
 |_::_,[]=>rfl
 | b::bs,l::ls=>by
   have:=wN bs ls
   simp only[rT,List.map_cons,List.zipWith_cons_cons,List.zip_cons_cons] at this⊢
   rw[this]
def wL(r:Rm)(rs:eI)(x:Str):Int:=numAt (yE r rs) x
theorem z9{r:Rm}{rs:eI}(hl:r.bells.length=rs.bells.length){x:Str}(h:x∈r.bells.map (·.1)):qz (yE r rs) (.inr x)=some (.int (wL r rs x)):=by
 have hk:(Sum.inr x:Key)∈(yE r rs).map (·.1):=by
  refine fI (.inr ?_)
  rw[List.map_map]
  obtain⟨b,hb,rfl⟩:=List.mem_map.mp h
  obtain⟨i,hi,e⟩:=List.getElem_of_mem hb
  refine List.mem_map.mpr ⟨(b,rs.bells[i]'(by omega)),?_,rfl⟩
  rw[←e]
  have:(r.bells.zip rs.bells)[i]?=some (r.bells[i],rs.bells[i]'(by omega)):=by
   rw[List.getElem?_zip_eq_some]
   exact⟨gQe hi,gQe (by omega)⟩
  exact mQg this
 obtain⟨d,h1,h2⟩:=sJ hk
 have hi:∃v:Int,d=.int v:=by
  rcases k_ h2 with h2|h2
  ·cases h2
  ·obtain⟨p,_,e⟩:=List.mem_map.mp h2
   exact⟨_,(congrArg (·.2) e).symm⟩
 obtain⟨v,rfl⟩:=hi
 unfold wL DL.numAt
 rw[h1]
theorem rG{w:du}{s:bu}{h i:Nat}{vs:List Int}{fs:List cD}{f:cD}{r:Rm}{rs:eI}{t:Tr}(hs:s.hands[h]?=some (vs,fs))(hf:fs.getLast? =some f)(hr:f.room=i)(hw:w.rooms[i]?=some r)(hsr:s.rooms[i]?=some rs)
  (l1:r.things.length=rs.vals.length) (l2:r.bells.length=rs.bells.length) (b1:r.things.length<=100) (b2:r.bells.length<=100) (v1:∀v∈rs.vals,0<=v/\v<=9) (v2:0<=f.given/\f.given<=9)
  (ho:t.Ok (r.things.map (·.1)++fq) (r.bells.map (·.1))) (hd:t.dep<=6) (q:Q (.d (.int (wX (numAt (tT r rs f.given)) (wL r rs) t))) S):Fn b_ [w.d,s.d,.int h,t.d] S Q:=by
 have nine:jU (tT r rs f.given):=(gc v1).put v2.1 v2.2
 refine bF ?_
 unfold m9
 symm
 refine bH hs hf ?_
 symm
 refine ak (d:=.int f.room) rfl ?_
 symm
 refine dj ?_
 dsimp only
 rw[decide_eq_false (show¬f.room= -1 by omega),if_neg (by decide),hr]
 refine cp ?_
 symm
 refine EL ?_
 symm
 refine ak rfl ?_
 symm
 refine ak (d:=r.d) (aO (by rw[gQm,hw];rfl)) ?_
 symm
 refine ak rfl ?_
 symm
 refine eT (enc:=rj) (nm:=(·.1)) fV (by omega) ?_
 symm
 refine ak rfl ?_
 symm
 refine ak (d:=rs.d) (aO (by rw[gQm,hsr];rfl)) ?_
 symm
 refine ak rfl ?_
 refine bW (ds:=rs.vals.map D.int) ?_
 refine⟨_,rfl,⟨trivial,by simp only[lQm];exact l1⟩,?_⟩
 dsimp only
 rw[show cR [] (((r.things.map (·.1)).map (Sum.inr:Str->Key)).zip (rs.vals.map D.int))=dF r.things rs.vals from rfl]
 have x1:lY S (S++ [O.dct (dF r.things rs.vals)]):=lY.refl.app
 refine bC (HF ?_)
 symm
 refine ak (d:=.int f.given) rfl ?_
 symm
 refine⟨_,_,_,rfl,rfl,aG,bh (by have:=qv (ts:=r.things) (vs:=rs.vals);omega),?_⟩
 have gm:((S++ [O.dct (dF r.things rs.vals)]).set S.length (.dct (putD (dF r.things rs.vals) (.inr "given") (.int f.given))))[S.length]?=some (.dct (tT r rs f.given)):=cz aG
 have x2:lY S ((S++ [O.dct (dF r.things rs.vals)]).set S.length (.dct (putD (dF r.things rs.vals) (.inr "given") (.int f.given)))):=x1.put (Nat.le_refl _)
 generalize ((S++ [O.dct (dF r.things rs.vals)]).set S.length (.dct (putD (dF r.things rs.vals) (.inr "given") (.int f.given))))=S2 at gm x2⊢
 refine bC (Hf (α:=(Str×Str)×List (Int×Int)) (fun Γ'=>∃a b,Γ'= [a,b]) (fun p=>D.tup [.str p.1.1,dQ p.2]) (fun p=>p.1.1) (fun p=>.int (p.2.length:Nat)) ⟨none,none,rfl⟩ (jP ?_))
 symm
 refine ak rfl ?_
 symm
 refine ak (d:=r.d) (aO (by rw[gQm,hw];rfl)) ?_
 symm
 refine ak rfl ?_
 symm
 refine eT (enc:=BJ) (nm:=(·.1)) yC (by omega) ?_
 symm
 refine ak rfl ?_
 symm
 refine ak (d:=rs.d) (aO (by rw[gQm,hsr];rfl)) ?_
 symm
 refine ak rfl ?_
 refine bW (ds:=rs.bells.map dQ) ?_
 refine⟨⟨trivial,by simp only[lQm];omega⟩,r.bells.zip rs.bells,wN _ _,⟨trivial,trivial⟩,by rw[List.length_zip];omega,fun p hp Γ' hΓ=> ?_,?_⟩
 ·obtain⟨a,b,rfl⟩:=hΓ
  refine dX rfl (aq (aR (aq (aR (bg ?_)))))
  refine⟨rfl,⟨_,_,rfl⟩,?_⟩
  symm
  refine⟨rfl,rfl,?_⟩
  symm
  refine bW (ds:=p.2.map pairD) ?_
  exact⟨by simp,rfl⟩
 symm
 refine fF (th:=numAt (tT r rs f.given)) (wt:=wL r rs) (ws:=r.things.map (·.1)++fq) (bs:=r.bells.map (·.1)) (kws:=yE r rs) (aS gm) aG (fun x hx=> ?_) (fun b hb=>z9 l2 hb) 6 t ho hd ?_
 ·refine(lR nine ?_).1
  refine jY ?_
  rcases mQa.mp hx with hx|hx
  ·exact .inr (fX l1 hx)
  ·left
   rw[List.mem_singleton.mp hx]
 ·exact lS x2.app (fun k z=>(nomatch z)) rfl q
end
end W28
namespace DL
open PySem PySem.Spec L2
theorem t_{Γ:cE}{S:aA}{neg:Bool}{f:bq}{g:eR}{Q:D->aA->Prop}(h:E f Γ S fun x S1=>E g Γ S1 fun p S2=>∃v vs,rO x=some v/\jE p.1=some vs/\Q (.bl (if neg then !Bj v vs else Bj v vs)) S2):E (ye neg f g) Γ S Q:=by
 obtain⟨x,S1,e1,p,S2,e2,v,vs,h1,h2,q⟩:=h
 exact⟨_,S2,by unfold ye;rw[e1];simp only[Option.bind_some];rw[e2];simp only[Option.bind_some];rw[h1,h2];rfl,q⟩
theorem yB{x:Str}{ss:List Str}:Bj (.str x) (ss.map V.str)=decide (x∈ss):=by
 induction ss with
 |nil=>rfl
 | cons a ss ih=>
   show(kf (.str a) (.str x)||Bj (.str x) (ss.map V.str))=_
   rw[ih]
   simp only[kf,List.mem_cons]
   by_cases c:a=x
   · subst c;simp
   · have c':¬x=a:=fun z=>c z.symm
     simp[c,c']
end DL
namespace W28
open PySem PySem.Spec L2 DL
section
variable{S:aA}{Q:Res->aA->Prop}
def eG(ns:List Str)(vs:List Int)(x:Str)(v:Int):List Int:=vs.set ((mF (.str x) (ns.map V.str)).getD 0) v
theorem lM{α:Type}{enc:α->D}{nm:α->Str}{xs:List α}{x:Str}(he:∀a,∃r,enc a=.tup (.str (nm a)::r))(hl:xs.length<=1000)(hx:x∈xs.map nm)(q:((mF (.str x) ((xs.map nm).map V.str)).getD 0)<xs.length->Q (.d (.int ((mF (.str x) ((xs.map nm).map V.str)).getD 0:Nat))) S):Fn cc [.tup (xs.map enc),.str x] S Q:=by
 refine bF ?_
 unfold tM
 obtain⟨j,h1,h2⟩:=uq hx
 have hj:j<xs.length:=by have:=(gQs.mp h2).1;simpa using this
 rw[h1] at q
 refine og ?_
 have key:E (fL (dk cY (ae (af 0) ai))) ([D.tup (xs.map enc),D.str x].map some++List.replicate (2- [D.tup (xs.map enc),D.str x].length) none) S fun p S1=>p=((xs.map nm).map D.str,.fr)/\S1=S:=by
  symm
  exact eT he hl ⟨rfl,rfl⟩
 obtain⟨p,S1,e1,rfl,rfl⟩:=key
 refine⟨.int j,S1,?_,cg (fun k z=>(nomatch z)) rfl (q hj)⟩
 unfold Ea
 rw[e1]
 simp only[Option.bind_some]
 rw[if_pos (show Tag.fr.isL=true from rfl)]
 show((af 1 _ S1).bind _)=_
 rw[show af 1 ([D.tup (xs.map enc),D.str x].map some++List.replicate (2- [D.tup (xs.map enc),D.str x].length) none) S1=some (.str x,S1) from rfl]
 simp only[Option.bind_some]
 rw[if_pos (show Tag.stays S1 _ .fr from trivial)]
 show(rO (.str x)).bind _=_
 simp only[rO,Option.bind_some]
 rw[iZ]
 simp only[Option.bind_some]
 rw[h1]
 rfl
theorem AF{w:du}{s:bu}{h i:Nat}{vs:List Int}{fs:List cD}{f:cD}{r:Rm}{rs:eI}{x:Str}{v:Int}(hs:s.hands[h]?=some (vs,fs))(hf:fs.getLast? =some f)(hr:f.room=i)(hw:w.rooms[i]?=some r)(hsr:s.rooms[i]?=some rs)
  (l1:r.things.length=rs.vals.length) (b1:r.things.length<=100) (b2:s.rooms.length<=100) (hx:x∈r.things.map (·.1))
  (q:Q (.d ({s with rooms:=s.rooms.set i {rs with vals:=eG (r.things.map (·.1)) rs.vals x v}}:bu).d) S):Fn ed [w.d,s.d,.int h,.str x,.int v] S Q:=by
 refine bF ?_
 unfold kP
 symm
 refine bH hs hf ?_
 symm
 refine ak (d:=.int f.room) rfl ?_
 symm
 refine j9 ?_
 dsimp only
 rw[decide_eq_false (show¬f.room= -1 by omega),hr]
 show if (true=true) then _ else _
 rw[if_pos rfl]
 symm
 refine ak rfl ?_
 symm
 refine ak (d:=r.d) (aO (by rw[gQm,hw];rfl)) ?_
 symm
 refine ak rfl ?_
 symm
 refine lM (enc:=rj) (nm:=(·.1)) fV (by omega) hx fun hj=> ?_
 symm
 refine ak rfl ?_
 symm
 refine ak (d:=rs.d) (aO (by rw[gQm,hsr];rfl)) ?_
 symm
 refine ak rfl ?_
 symm
 refine dz (xs:=rs.vals.map D.int) (by rw[lQm];omega) (by rw[lQm];omega) (aX fun _ _=>rfl) rfl ?_
 symm
 refine⟨by show 1<=sizeLine;decide,?_⟩
 refine jh ?_
 symm
 refine ak rfl ?_
 symm
 refine ak (d:=rs.d) (aO (by rw[gQm,hsr];rfl)) ?_
 refine cU ?_
 symm
 refine⟨_,rfl,cV ⟨_,rfl,?_⟩⟩
 refine dN (by show 5<=sizeLine;decide) ?_
 symm
 have e:({rs with vals:=eG (r.things.map (·.1)) rs.vals x v}:eI).d=.tup ([.tup ((rs.vals.map D.int).set ((mF (.str x) ((r.things.map (·.1)).map V.str)).getD 0) (.int v))]++i4 [cJ rs.vals,.int rs.within,cJ rs.row,cJ rs.late,.tup (rs.bells.map dQ)] (some 1) none):=by
  show D.tup [cJ (eG _ _ _ _),_,_,_,_]=_
  unfold eG cJ
  rw[map_set]
  rfl
 rw[←e]
 refine df (gQs.mp hsr).1 (by omega) ?_
 exact cg (aL _) (bu.low _) q
end
section
variable{S:aA}{Q:Res->aA->Prop}
def uD(w:du)(s:bu)(h:Nat)(ts:List (Str×Nat))(vs:List Int)(fs:List cD)(x:Str)(v:Int):bu:=
 if x∈w.shared.map (·.1) then{s with shared:=eG (w.shared.map (·.1)) s.shared x v} else{s with hands:=s.hands.set h (eG (ts.map (·.1)) vs x v,fs)}
theorem Cp{w:du}{s:bu}{h:Nat}{ts:List (Str×Nat)}{pr:List Rw}{vs:List Int}{fs:List cD}{f:cD}{x:Str}{v:Int}(hw:w.hands[h]?=some (ts,pr))(hs:s.hands[h]?=some (vs,fs))(hf:fs.getLast? =some f)(hr:f.room= -1)
  (l1:w.shared.length=s.shared.length) (l2:ts.length=vs.length) (b1:w.shared.length<=100) (b2:ts.length<=100) (b3:s.hands.length<=100) (hx:x∈ts.map (·.1)++w.shared.map (·.1))
  (q:Q (.d (uD w s h ts vs fs x v).d) S):Fn ed [w.d,s.d,.int h,.str x,.int v] S Q:=by
 refine bF ?_
 unfold kP
 symm
 refine bH hs hf ?_
 symm
 refine ak (d:=.int f.room) rfl ?_
 symm
 refine j9 ?_
 dsimp only
 rw[decide_eq_true hr]
 refine aM (fun c=>by cases c) (fun _=>cp ?_)
 refine bC (dU (fo (t_ ?_)))
 symm
 refine ak rfl ?_
 symm
 refine eT (enc:=rj) (nm:=(·.1)) fV (by omega) ?_
 symm
 refine⟨_,_,rfl,iZ _,?_⟩
 unfold uD at q
 show if Bj (.str x) ((w.shared.map (·.1)).map V.str)=true then _ else _
 rw[yB]
 by_cases c:x∈w.shared.map (·.1)
 ·rw[if_pos c] at q
  rw[decide_eq_true c,if_pos rfl]
  symm
  refine ak rfl ?_
  symm
  refine ak rfl ?_
  symm
  refine lM (enc:=rj) (nm:=(·.1)) fV (by omega) c fun hj=> ?_
  symm
  refine dz (xs:=s.shared.map D.int) (by rw[lQm];omega) (by rw[lQm];omega) (aX fun _ _=>rfl) rfl ?_
  symm
  refine ak rfl ?_
  symm
  refine ak rfl ?_
  symm
  refine ak rfl ?_
  symm
  refine⟨by show 4<=sizeLine;decide,?_⟩
  rw[←map_set]
  exact cg (d:=({s with shared:=eG (w.shared.map (·.1)) s.shared x v}:bu).d) (aL _) (bu.low _) q
 ·rw[if_neg c] at q
  rw[decide_eq_false c,if_neg (by decide)]
  refine cp ?_
  have hx':x∈ts.map (·.1):=(mQa.mp hx).resolve_right c
  symm
  refine ak rfl ?_
  symm
  refine ak (d:=xF (vs,fs)) (aO (by rw[gQm,hs];rfl)) ?_
  refine dX rfl (aq (aR (aq (aR (bg ?_)))))
  symm
  refine ak rfl ?_
  symm
  refine ak (d:=jB (ts,pr)) (aO (by rw[gQm,hw];rfl)) ?_
  symm
  refine ak rfl ?_
  symm
  refine lM (enc:=rj) (nm:=(·.1)) fV (by omega) hx' fun hj=> ?_
  symm
  refine dz (xs:=vs.map D.int) (by rw[lQm];omega) (by rw[lQm];omega) (aX fun _ _=>rfl) rfl ?_
  symm
  rw[←map_set]
  rw[show D.tup ((vs.set ((mF (.str x) ((ts.map (·.1)).map V.str)).getD 0) v).map D.int)=cJ (eG (ts.map (·.1)) vs x v) from rfl]
  generalize eG (ts.map (·.1)) vs x v=nv at q⊢
  have hh:h<s.hands.length:=(gQs.mp hs).1
  have hb:s.hands.length<=900:=by omega
  have q2:Op (settle S ({s with hands:=s.hands.set h (nv,fs)}:bu).d S) fun p=>Q p.1 p.2:=cg (aL _) (bu.low _) q
  exact fR hh hb q2
end
section
variable{S:aA}{Q:Res->aA->Prop}
def fO(ns:List Str)(x:Str):Nat:=(mF (.str x) (ns.map V.str)).getD 0
theorem k0{ns:List Str}{x:Str}(h:x∈ns):fO ns x<ns.length/\ns[fO ns x]?=some x:=by
 obtain⟨j,h1,h2⟩:=uq h
 unfold fO
 rw[h1]
 exact⟨(gQs.mp h2).1,h2⟩
theorem hV{α:Type}{enc:α->D}{nm:α->Str}{xs:List α}{x:Str}(he:∀a,∃r,enc a=.tup (.str (nm a)::r))(hl:xs.length<=1000)(hx:x∈xs.map nm)(q:Q (.d (.int (fO (xs.map nm) x:Nat))) S):Fn cc [.tup (xs.map enc),.str x] S Q:=lM he hl hx fun _=>q
theorem kM{w:du}{s:bu}{h i:Nat}{vs:List Int}{fs:List cD}{f:cD}{r:Rm}{x:Str}(hs:s.hands[h]?=some (vs,fs))(hf:fs.getLast? =some f)(hr:f.room=i)(hw:w.rooms[i]?=some r)(b2:r.bells.length<=100)(hx:x∈r.bells.map (·.1))
  (q:Q (.d (.tup [.int i,.int (fO (r.bells.map (·.1)) x:Nat)])) S):Fn fH [w.d,s.d,.int h,.str x] S Q:=by
 refine bF ?_
 unfold vF
 symm
 refine bH hs hf ?_
 symm
 refine ak (d:=.int f.room) rfl ?_
 rw[hr]
 symm
 refine ak rfl ?_
 symm
 refine ak (d:=r.d) (aO (by rw[gQm,hw];rfl)) ?_
 symm
 refine ak rfl ?_
 symm
 refine hV (enc:=BJ) (nm:=(·.1)) yC (by omega) hx ?_
 symm
 refine⟨by show 2<=sizeLine;decide,?_⟩
 exact cg (fun k z=>(nomatch z)) rfl q
theorem iV{s:bu}{i b:Nat}{rs:eI}{l:List (Int×Int)}(hsr:s.rooms[i]?=some rs)(hb:b<rs.bells.length)(b1:rs.bells.length<=100)(b2:s.rooms.length<=100)
  (q:Q (.d ({s with rooms:=s.rooms.set i {rs with bells:=rs.bells.set b l}}:bu).d) S):Fn dE [s.d,.int i,.int b,dQ l] S Q:=by
 refine bF ?_
 unfold qV
 symm
 refine ak rfl ?_
 symm
 refine ak (d:=rs.d) (aO (by rw[gQm,hsr];rfl)) ?_
 symm
 refine jh ?_
 symm
 refine cV (cU ?_)
 symm
 refine⟨_,rfl,_,rfl,?_⟩
 symm
 refine ak rfl ?_
 symm
 refine dz (xs:=rs.bells.map dQ) (by rw[lQm];omega) (by rw[lQm];omega) (aX fun l _=>p_ l) (p_ l) ?_
 symm
 refine⟨by show 1<=sizeLine;decide,?_⟩
 refine dN (by show 5<=sizeLine;decide) ?_
 symm
 rw[←map_set]
 generalize hnb:rs.bells.set b l=nb at q⊢
 have e:({rs with bells:=nb}:eI).d=.tup (i4 [cJ rs.vals,.int rs.within,cJ rs.row,cJ rs.late,.tup (rs.bells.map dQ)] none (some 4)++ [.tup (nb.map dQ)]):=rfl
 rw[←e]
 have hi:i<s.rooms.length:=(gQs.mp hsr).1
 have hl:s.rooms.length<=900:=by omega
 have q2:Op (settle S ({s with rooms:=s.rooms.set i {rs with bells:=nb}}:bu).d S) fun p=>Q p.1 p.2:=cg (aL _) (bu.low _) q
 exact df hi hl q2
def lB(p:Int×List Int)(h:Int):Int×List Int:=if 0<p.1 then(p.1-1,p.2) else(p.1,p.2++ [h])
def jJ(p:Int×List Int):Int×List Int:=match p.2 with
 |_::l=>(p.1,l)
 | []=>(if 9<p.1+1 then 9 else p.1+1,[])
theorem vf{w:du}{s:bu}{h:Int}{x:Str}{p:Int×List Int}(hx:x∈w.passes.map (·.1))(hp:s.passes[fO (w.passes.map (·.1)) x]?=some p)(b1:w.passes.length<=100)(b2:s.passes.length<=100)(b3:p.2.length<=900)
  (q:Q (.d ({s with passes:=s.passes.set (fO (w.passes.map (·.1)) x) (lB p h)}:bu).d) S):Fn nq [w.d,s.d,.int h,.str x] S Q:=by
 refine bF ?_
 unfold BX
 symm
 refine ak rfl ?_
 symm
 refine hV (enc:=rj) (nm:=(·.1)) fV (by omega) hx ?_
 generalize fO (w.passes.map (·.1)) x=j at hp q⊢
 have hj:j<s.passes.length:=(gQs.mp hp).1
 have hl:s.passes.length<=900:=by omega
 symm
 refine ak rfl ?_
 symm
 refine ak (d:=wW p) (aO (by rw[gQm,hp];rfl)) ?_
 refine dX rfl (aq (aR (aq (aR (bg ?_)))))
 have q2:Op (settle S ({s with passes:=s.passes.set j (lB p h)}:bu).d S) fun p=>Q p.1 p.2:=cg (aL _) (bu.low _) q
 unfold lB at q2
 symm
 by_cases c:0<p.1
 ·rw[if_pos c] at q2
  rw[decide_eq_true c,if_pos rfl]
  symm
  refine⟨by show 2<=sizeLine;decide,?_⟩
  symm
  exact fP (p:=(p.1-1,p.2)) hj hl q2
 ·rw[if_neg c] at q2
  rw[decide_eq_false c,if_neg (by decide)]
  refine cp ?_
  symm
  refine⟨by show 1<=sizeLine;decide,?_⟩
  refine dN (by simp only[lQm,List.length_cons,List.length_nil];exact nQl (bh (by omega))) ?_
  symm
  refine⟨by show 2<=sizeLine;decide,?_⟩
  symm
  have e:D.tup [.int p.1,.tup (p.2.map D.int++ [.int h])]=wW (p.1,p.2++ [h]):=by simp[wW,cJ]
  rw[e]
  exact fP hj hl q2
end
section
variable{S:aA}{Q:Res->aA->Prop}
theorem kh{w:du}{s:bu}{x:Str}{p:Int×List Int}(hx:x∈w.passes.map (·.1))(hp:s.passes[fO (w.passes.map (·.1)) x]?=some p)(b1:w.passes.length<=100)(b2:s.passes.length<=100)
  (q:Q (.d ({s with passes:=s.passes.set (fO (w.passes.map (·.1)) x) (jJ p)}:bu).d) S):Fn eS [w.d,s.d,.str x] S Q:=by
 refine bF ?_
 unfold nE
 symm
 refine ak rfl ?_
 symm
 refine hV (enc:=rj) (nm:=(·.1)) fV (by omega) hx ?_
 generalize fO (w.passes.map (·.1)) x=j at hp q⊢
 have hj:j<s.passes.length:=(gQs.mp hp).1
 have hl:s.passes.length<=900:=by omega
 symm
 refine ak rfl ?_
 symm
 refine ak (d:=wW p) (aO (by rw[gQm,hp];rfl)) ?_
 refine dX rfl (aq (aR (aq (aR (bg ?_)))))
 have q2:Op (settle S ({s with passes:=s.passes.set j (jJ p)}:bu).d S) fun p=>Q p.1 p.2:=cg (aL _) (bu.low _) q
 obtain⟨v,row⟩:=p
 symm
 refine uf ?_
 cases row with
 | cons a l=>
   refine aM (fun _=> ?_) (fun c=>by cases c)
   symm
   refine jh ?_
   symm
   refine cU ?_
   symm
   refine⟨_,rfl,cV ⟨_,rfl,?_⟩⟩
   symm
   refine⟨by show 2<=sizeLine;decide,?_⟩
   symm
   have e:D.tup (i4 ((a::l).map D.int) (some 1) none)=cJ l:=by
     rw[show(some (1:Int))=some ((1:Nat):Int) from rfl,ij (by simp)]
     rfl
   rw[e]
   exact fP (p:=(v,l)) hj hl q2
 | nil=>
   refine aM (fun c=>by cases c) (fun _=>cp ?_)
   symm
   refine BO ?_
   symm
   refine⟨by show 2<=sizeLine;decide,?_⟩
   symm
   exact fP (p:=(if 9<v+1 then 9 else v+1,[])) hj hl q2
theorem zI{wd sd hd rd:D}{s:bu}(q:Q (.d s.d) S):Fn oT [wd,s.d,hd,rd] S Q:=by
 refine bF ?_
 unfold yW
 symm
 exact cg (aL _) (bu.low _) q
theorem AK{wd:D}{s:bu}{h n:Nat}{vs:List Int}{fs:List cD}{f:cD}(h1:s.hands[h]?=some (vs,fs))(h2:fs.getLast? =some f)(lf:fs.length<=900)(hl:s.hands.length<=900)(q:Q (.d ({s with hands:=s.hands.set h (vs,fs.dropLast++ [{f with row:=n}])}:bu).d) S):Fn u5 [wd,s.d,.int h,(Rw.go n).d] S Q:=by
 refine bF ?_
 unfold An
 symm
 refine ak (d:=.int n) rfl ?_
 symm
 have q2:Op (settle S ({s with hands:=s.hands.set h (vs,fs.dropLast++ [{f with row:=n}])}:bu).d S) fun p=>Q p.1 p.2:=cg (aL _) (bu.low _) q
 exact mK h1 h2 lf hl q2
end
section
variable{S:aA}{Q:Res->aA->Prop}
theorem xG{w:du}{s:bu}{h:Int}{x:Str}{p:Int×List Int}(hx:x∈w.passes.map (·.1))(hp:s.passes[fO (w.passes.map (·.1)) x]?=some p)(b1:w.passes.length<=100)(b2:s.passes.length<=100)(b3:p.2.length<=900)
  (q:Q (.d ({s with passes:=s.passes.set (fO (w.passes.map (·.1)) x) (lB p h)}:bu).d) S):Fn mz [w.d,s.d,.int h,(Rw.take x).d] S Q:=by
 refine bF ?_
 unfold vL
 symm
 refine ak (d:=.str x) rfl ?_
 symm
 have q2:Op (settle S ({s with passes:=s.passes.set (fO (w.passes.map (·.1)) x) (lB p h)}:bu).d S) fun p=>Q p.1 p.2:=cg (aL _) (bu.low _) q
 exact vf hx hp b1 b2 b3 q2
theorem xA{w:du}{s:bu}{hd:D}{x:Str}{p:Int×List Int}(hx:x∈w.passes.map (·.1))(hp:s.passes[fO (w.passes.map (·.1)) x]?=some p)(b1:w.passes.length<=100)(b2:s.passes.length<=100)
  (q:Q (.d ({s with passes:=s.passes.set (fO (w.passes.map (·.1)) x) (jJ p)}:bu).d) S):Fn lF [w.d,s.d,hd,(Rw.give x).d] S Q:=by
 refine bF ?_
 unfold wQ
 symm
 refine ak (d:=.str x) rfl ?_
 symm
 have q2:Op (settle S ({s with passes:=s.passes.set (fO (w.passes.map (·.1)) x) (jJ p)}:bu).d S) fun p=>Q p.1 p.2:=cg (aL _) (bu.low _) q
 exact kh hx hp b1 b2 q2
end
section
variable{S:aA}{Q:Res->aA->Prop}
def xH(w:du)(s:bu)(h:Nat)(t:Tr)(v:Int):Prop:=∀(S:aA) (Q:Res->aA->Prop),Q (.d (.int v)) S->Fn b_ [w.d,s.d,.int h,t.d] S Q
def Puts(w:du)(s:bu)(h:Nat)(x:Str)(v:Int)(s':bu):Prop:=∀(S:aA) (Q:Res->aA->Prop),Q (.d s'.d) S->Fn ed [w.d,s.d,.int h,.str x,.int v] S Q
theorem xh{w:du}{s:bu}{h:Int}{x y:Str}{p p2:Int×List Int}(hx:x∈w.passes.map (·.1))(hy:y∈w.passes.map (·.1))(hp:s.passes[fO (w.passes.map (·.1)) x]?=some p)(b1:w.passes.length<=100)(b2:s.passes.length<=100)(b3:p2.2.length<=900)
  (hp2:(s.passes.set (fO (w.passes.map (·.1)) x) (jJ p))[fO (w.passes.map (·.1)) y]?=some p2)
  (q:Q (.d ({s with passes:=(s.passes.set (fO (w.passes.map (·.1)) x) (jJ p)).set (fO (w.passes.map (·.1)) y) (lB p2 h)}:bu).d) S):Fn mh [w.d,s.d,.int h,(Rw.pass x y).d] S Q:=by
 refine bF ?_
 unfold wF
 symm
 refine ak (d:=.str x) rfl ?_
 symm
 refine kh hx hp b1 b2 ?_
 symm
 refine ak (d:=.str y) rfl ?_
 symm
 have q2:Op (settle S ({s with passes:=(s.passes.set (fO (w.passes.map (·.1)) x) (jJ p)).set (fO (w.passes.map (·.1)) y) (lB p2 h)}:bu).d S) fun p=>Q p.1 p.2:=cg (aL _) (bu.low _) q
 exact vf (s:={s with passes:=s.passes.set (fO (w.passes.map (·.1)) x) (jJ p)}) hy hp2 b1 (by simpa using b2) b3 q2
theorem zD{w:du}{s s':bu}{h:Nat}{x:Str}{t:Tr}{v:Int}(hr:xH w s h t v)(hp:Puts w s h x v s')(q:Q (.d s'.d) S):Fn pw [w.d,s.d,.int h,(Rw.put x t).d] S Q:=by
 refine bF ?_
 unfold yD
 symm
 refine ak (d:=.str x) rfl ?_
 symm
 refine ak (d:=t.d) rfl ?_
 symm
 refine hr _ _ ?_
 symm
 refine hp _ _ ?_
 exact cg (aL _) (bu.low _) q
theorem uH{w:du}{s:bu}{h n:Nat}{t:Tr}{v:Int}{vs:List Int}{fs:List cD}{f:cD}(hr:xH w s h t v)(h1:s.hands[h]?=some (vs,fs))(h2:fs.getLast? =some f)(lf:fs.length<=900)(hl:s.hands.length<=900)
  (q:Q (.d (if v=0 then({s with hands:=s.hands.set h (vs,fs.dropLast++ [{f with row:=n}])}:bu) else s).d) S):Fn i7 [w.d,s.d,.int h,(Rw.unl t n).d] S Q:=by
 refine bF ?_
 unfold pJ
 symm
 refine ak (d:=t.d) rfl ?_
 symm
 refine hr _ _ ?_
 symm
 refine dj ?_
 dsimp only
 by_cases c:v=0
 ·rw[if_pos c] at q
  rw[decide_eq_true c,if_pos rfl]
  symm
  refine ak (d:=.int n) rfl ?_
  symm
  have q2:Op (settle S ({s with hands:=s.hands.set h (vs,fs.dropLast++ [{f with row:=n}])}:bu).d S) fun p=>Q p.1 p.2:=cg (aL _) (bu.low _) q
  exact mK h1 h2 lf hl q2
 ·rw[if_neg c] at q
  rw[decide_eq_false c,if_neg (by decide)]
  refine cp ?_
  symm
  exact cg (aL _) (bu.low _) q
end
section
variable{S:aA}{Q:Res->aA->Prop}
theorem xj{w:du}{s:bu}{h:Nat}{t:Tr}{v:Int}{vs:List Int}{fs:List cD}{f:cD}(hr:xH w s h t v)(h1:s.hands[h]?=some (vs,fs))(h2:fs.getLast? =some f)(lf:fs.length<=900)(hl:s.hands.length<=900)
  (q:Q (.d ({s with hands:=s.hands.set h (vs,fs.dropLast++ [{f with told:=v}])}:bu).d) S):Fn lC [w.d,s.d,.int h,(Rw.tell t).d] S Q:=by
 refine bF ?_
 unfold vC
 symm
 refine ak (d:=t.d) rfl ?_
 symm
 refine hr _ _ ?_
 symm
 refine jh ?_
 symm
 refine bH h1 h2 ?_
 refine cV (cU ?_)
 symm
 refine⟨_,rfl,_,rfl,?_⟩
 symm
 refine⟨by show 1<=sizeLine;decide,?_⟩
 refine dN (by show 5<=sizeLine;decide) ?_
 symm
 have h0:0<fs.length:=by
  cases fs with
  |nil=>cases h2
  |cons a b=>simp
 have q2:Op (settle S ({s with hands:=s.hands.set h (vs,fs.dropLast++ [{f with told:=v}])}:bu).d S) fun p=>Q p.1 p.2:=cg (aL _) (bu.low _) q
 exact gE (f:={f with told:=v}) h1 h0 lf hl q2
theorem z3{w:du}{s:bu}{h i:Nat}{vs:List Int}{fs:List cD}{f:cD}{r:Rm}{rs:eI}{x:Str}(hs:s.hands[h]?=some (vs,fs))(hf:fs.getLast? =some f)(hr:f.room=i)(hw:w.rooms[i]?=some r)(hsr:s.rooms[i]?=some rs)(b2:r.bells.length<=100)(l2:r.bells.length=rs.bells.length)(b3:s.rooms.length<=100)(hx:x∈r.bells.map (·.1))
  (q:Q (.d ({s with rooms:=s.rooms.set i {rs with bells:=rs.bells.set (fO (r.bells.map (·.1)) x) []}}:bu).d) S):Fn oV [w.d,s.d,.int h,(Rw.all x).d] S Q:=by
 have hp:=(k0 hx).1
 rw[lQm] at hp
 refine bF ?_
 unfold yh
 symm
 refine ak (d:=.str x) rfl ?_
 symm
 refine kM hs hf hr hw b2 hx ?_
 refine dX rfl (aq (aR (aq (aR (bg ?_)))))
 generalize fO (r.bells.map (·.1)) x=b at hp q⊢
 symm
 refine⟨by decide,?_⟩
 symm
 have q2:Op (settle S ({s with rooms:=s.rooms.set i {rs with bells:=rs.bells.set b []}}:bu).d S) fun p=>Q p.1 p.2:=cg (aL _) (bu.low _) q
 exact iV (l:= []) hsr (by omega) (by omega) b3 q2
end
section
variable{S:aA}{Q:Res->aA->Prop}
theorem EA:∀a:Rm,∃r,a.d=.tup (.str a.name::r):=fun a=>⟨_,rfl⟩
theorem A8:∀a:Str×List Rw,∃r,iz a=.tup (.str a.1::r):=fun a=>⟨_,rfl⟩
theorem BU{w:du}{s:bu}{h:Nat}{g:Option Str}{rn dn:Str}{t:Tr}{v:Int}{vs:List Int}{fs:List cD}{r:Rm}{rs:eI}(hr:xH w s h t v)(hs:s.hands[h]?=some (vs,fs))(hrn:rn∈w.rooms.map (·.name))(hw:w.rooms[fO (w.rooms.map (·.name)) rn]?=some r)(hsr:s.rooms[fO (w.rooms.map (·.name)) rn]?=some rs)(hdn:dn∈r.deeds.map (·.1))
  (b1:w.rooms.length<=100) (b2:r.deeds.length<=100) (b3:s.rooms.length<=100) (b4:rs.row.length<=900) (b5:fs.length<=900) (b6:s.hands.length<=100)
  (q:Q (.d ({s with hands:=s.hands.set h (vs,fs++ [⟨(fO (w.rooms.map (·.name)) rn:Nat),(fO (r.deeds.map (·.1)) dn:Nat),0,v,0⟩]),rooms:=s.rooms.set (fO (w.rooms.map (·.name)) rn) (q_ rs h)}:bu).d) S):Fn u6 [w.d,s.d,.int h,(Rw.do_ g rn dn t).d] S Q:=by
 refine bF ?_
 unfold Bg
 symm
 refine ak rfl ?_
 symm
 refine ak (d:=.str rn) rfl ?_
 symm
 refine hV (enc:=Rm.d) (nm:=(·.name)) EA (by omega) hrn ?_
 generalize fO (w.rooms.map (·.name)) rn=i at hw hsr q⊢
 symm
 refine ak rfl ?_
 symm
 refine ak (d:=r.d) (aO (by rw[gQm,hw];rfl)) ?_
 symm
 refine ak rfl ?_
 symm
 refine ak (d:=.str dn) rfl ?_
 symm
 refine hV (enc:=iz) (nm:=(·.1)) A8 (by omega) hdn ?_
 generalize fO (r.deeds.map (·.1)) dn=dd at q⊢
 symm
 refine ak (d:=t.d) rfl ?_
 symm
 refine hr _ _ ?_
 symm
 refine⟨by show 5<=sizeLine;decide,?_⟩
 symm
 refine ak rfl ?_
 symm
 refine ak (d:=xF (vs,fs)) (aO (by rw[gQm,hs];rfl)) ?_
 refine dX rfl (aq (aR (aq (aR (bg ?_)))))
 symm
 refine⟨by show 1<=sizeLine;decide,?_⟩
 refine dN (by simp only[lQm,List.length_cons,List.length_nil];exact nQl (bh (by omega))) ?_
 symm
 have e:fs.map cD.d++ [D.tup [.int i,.int dd,.int 0,.int v,.int 0]]=(fs++ [(⟨i,dd,0,v,0⟩:cD)]).map cD.d:=by rw[List.map_append];rfl
 rw[e]
 generalize hnf:fs++ [(⟨i,dd,0,v,0⟩:cD)]=nf at q⊢
 have hh:h<s.hands.length:=(gQs.mp hs).1
 refine fR (vs:=vs) (fs:=nf) hh (by omega) ?_
 symm
 have q2:Op (settle S ({s with hands:=s.hands.set h (vs,nf),rooms:=s.rooms.set i (q_ rs h)}:bu).d S) fun p=>Q p.1 p.2:=cg (aL _) (bu.low _) q
 exact qh (s:={s with hands:=s.hands.set h (vs,nf)}) hsr (by show s.rooms.length<=900;omega) b4 q2
end
section
variable{S:aA}{Q:Res->aA->Prop}
def vd(free:Bool)(rs:eI)(b:Nat)(h:Int):eI:=match rs.bells[b]? with
 |some (p::l)=>if free then{rs with bells:=rs.bells.set b l} else{rs with bells:=rs.bells.set b l,within:=p.2,late:=rs.late++ [h]}
 |_=>rs
theorem ya{w:du}{s:bu}{h i:Nat}{vs:List Int}{fs:List cD}{f:cD}{r:Rm}{rs:eI}{x:Str}(hs:s.hands[h]?=some (vs,fs))(hf:fs.getLast? =some f)(hr:f.room=i)(hw:w.rooms[i]?=some r)(hsr:s.rooms[i]?=some rs)(b2:r.bells.length<=100)(l2:r.bells.length=rs.bells.length)(b3:s.rooms.length<=100)(b4:rs.late.length<=900)(hx:x∈r.bells.map (·.1))
  (q:Q (.d ({s with rooms:=s.rooms.set i (vd (decide (r.manner="when free")) rs (fO (r.bells.map (·.1)) x) h)}:bu).d) S):Fn lE [w.d,s.d,.int h,(Rw.call x).d] S Q:=by
 have hp:=(k0 hx).1
 rw[lQm] at hp
 have hi:i<s.rooms.length:=(gQs.mp hsr).1
 refine bF ?_
 unfold wG
 symm
 refine ak (d:=.str x) rfl ?_
 symm
 refine kM hs hf hr hw b2 hx ?_
 refine dX rfl (aq (aR (aq (aR (bg ?_)))))
 generalize fO (r.bells.map (·.1)) x=b at hp q⊢
 have hb:b<rs.bells.length:=by omega
 obtain⟨line,hline⟩:∃l,rs.bells[b]?=some l:=⟨_,gQe hb⟩
 have q2:Op (settle S ({s with rooms:=s.rooms.set i (vd (decide (r.manner="when free")) rs b h)}:bu).d S) fun p=>Q p.1 p.2:=cg (aL _) (bu.low _) q
 unfold vd at q2
 rw[hline] at q2
 symm
 refine ak rfl ?_
 symm
 refine ak (d:=rs.d) (aO (by rw[gQm,hsr];rfl)) ?_
 symm
 refine ak rfl ?_
 symm
 refine ak (d:=dQ line) (aO (by rw[gQm,hline];rfl)) ?_
 symm
 refine uf ?_
 cases line with
 | nil=>
   refine aM (fun _=> ?_) (fun c=>by cases c)
   symm
   have e:s.rooms.set i rs=s.rooms:=by
     apply List.ext_getElem?
     intro j
     rw[List.getElem?_set]
     split
     · rename_i c
       subst c
       rw[hsr]
       first|done|simp[hi]
     · rfl
   have e2:({s with rooms:=s.rooms.set i rs}:bu)=s:=by rw[e]
   have q3:Op (settle S ({s with rooms:=s.rooms.set i rs}:bu).d S) fun p=>Q p.1 p.2:=q2
   rw[e2] at q3
   exact q3
 | cons p l=>
   refine aM (fun c=>by cases c) (fun _=>cp ?_)
   symm
   refine jh ?_
   symm
   refine cU ?_
   symm
   refine⟨_,rfl,cV ⟨_,rfl,?_⟩⟩
   symm
   have e:D.tup (i4 ((p::l).map pairD) (some 1) none)=dQ l:=by
     rw[show(some (1:Int))=some ((1:Nat):Int) from rfl,ij (by simp)]
     rfl
   rw[e]
   refine iV hsr hb (by omega) b3 ?_
   dsimp only at q2
   generalize hnb:rs.bells.set b l=nb at q2⊢
   symm
   refine ak rfl ?_
   symm
   refine ak (d:=r.d) (aO (by rw[gQm,hw];rfl)) ?_
   symm
   refine ak (d:=.str r.manner) rfl ?_
   symm
   refine gI ?_
   dsimp only
   by_cases c:r.manner="when free"
   · rw[decide_eq_true c] at q2⊢
     rw[if_pos rfl] at q2
     rw[if_pos rfl]
     symm
     exact q2
   · rw[decide_eq_false c] at q2⊢
     rw[if_neg (by decide)] at q2
     rw[if_neg (by decide)]
     refine cp ?_
     symm
     refine ak rfl ?_
     have g1:((s.rooms.set i {rs with bells:=nb}).map eI.d)[i]?=some ({rs with bells:=nb}:eI).d:=by rw[gQm,List.getElem?_set_self hi];rfl
     symm
     refine ak (d:=({rs with bells:=nb}:eI).d) (aO g1) ?_
     refine dX rfl (aq (aR (aq (aR (aq (aR (aq (aR (aq (aR (bg ?_)))))))))))
     symm
     refine ak (d:=pairD p) y6 ?_
     symm
     refine ak (d:=.int p.2) rfl ?_
     symm
     refine⟨by show 1<=sizeLine;decide,?_⟩
     refine dN (by simp only[lQm,List.length_cons,List.length_nil];exact nQl (bh (by omega))) ?_
     symm
     refine⟨by show 5<=sizeLine;decide,?_⟩
     symm
     have e3:D.tup [cJ rs.vals,.int p.2,cJ rs.row,.tup (rs.late.map D.int++ [.int h]),.tup (nb.map dQ)]=({rs with bells:=nb,within:=p.2,late:=rs.late++ [(h:Int)]}:eI).d:=by simp[eI.d,cJ]
     rw[e3]
     have q3:Op (settle S ({s with rooms:=(s.rooms.set i {rs with bells:=nb}).set i {rs with bells:=nb,within:=p.2,late:=rs.late++ [(h:Int)]}}:bu).d S) fun p=>Q p.1 p.2:=by rw[List.set_set];exact q2
     exact df (s:={s with rooms:=s.rooms.set i {rs with bells:=nb}}) (by simpa using hi) (by simp;omega) q3
end
end W28
namespace DL
open PySem PySem.Spec L2
theorem pk{α:Type}{Γ:cE}{S:aA}{js:List (Option Nat)}{i:wR}{g:lu}{t:i6}{elt:bq}{Q:List D->aA->Prop}(P:cE->Prop)(enc G:α->D)(c:α->Bool)(h0:P (lj js Γ)) (h:E i Γ S fun p S1=>∃xs:List α,p.1=xs.map enc/\p.2 S1/\xs.length<=1000∧
   (∀x∈xs,∀Γ',P Γ'->Tg g (enc x) Γ' S1 fun Γ1 S2=>S2=S1/\P Γ1/\E t Γ1 S1 fun k S3=>S3=S1/\k=c x/\(c x=true->E elt Γ1 S1 fun y S4=>y=G x/\S4=S1))/\Q ((xs.filter c).map G) S1):E (cC js i g t elt) Γ S Q:=by
 refine jx (h.mono fun p S1 hp=> ?_)
 obtain⟨xs,hx,hs,hl,he,q⟩:=hp
 refine⟨fun n Γ' S' acc=>S'=S1/\acc=((xs.take n).filter c).map G/\P Γ',⟨rfl,rfl,h0⟩,fun n Γ' S' acc h=>by rw[h.1];exact hs,fun n d Γ' S' acc hd h=> ?_,fun Γ' S' acc h=> ?_⟩
 ·obtain⟨rfl,rfl,h3⟩:=h
  have hd:p.1[n]?=some d:=hd
  rw[hx,gQm] at hd
  obtain⟨x,hxn,rfl⟩:=oQm.mp hd
  obtain⟨Γ1,S2,e1,rfl,h4,h5⟩:=he x (mQg hxn) Γ' h3
  refine⟨Γ1,S2,e1,?_⟩
  refine h5.mono fun k S3 qr=> ?_
  obtain⟨e2,e3,h6⟩:=qr
  subst e2 e3
  have hn:=(gQs.mp hxn).1
  have tk:((xs.take (n+1)).filter c).map G=((xs.take n).filter c).map G++if c x=true then [G x] else []:=by
   rw[List.take_add_one,hxn]
   cases hc:c x <;>simp[hc]
  by_cases hc:c x=true
  ·rw[if_pos hc]
   refine(h6 hc).mono fun y S4 qr=> ?_
   obtain⟨e4,e5⟩:=qr
   subst e4 e5
   refine⟨?_,rfl,?_,h4⟩
   ·rw[lQm]
    have:=List.length_filter_le c (xs.take n)
    rw[List.length_take] at this
    exact bh (by omega)
   ·rw[tk,if_pos hc]
  ·rw[if_neg hc]
   refine⟨rfl,?_,h4⟩
   rw[tk,if_neg hc,List.append_nil]
 ·obtain⟨rfl,rfl,_⟩:=h
  have e:p.1.length=xs.length:=by rw[hx,lQm]
  show Q (((xs.take p.1.length).filter c).map G) _
  rw[e,List.take_length]
  exact q
end DL
namespace W28
open PySem PySem.Spec L2 DL
section
variable{S:aA}{Q:Res->aA->Prop}
def Dw(l:List (Int×Int))(t h:Int):List (Int×Int):=l.take (l.filter fun p=>decide (p.1<=t)).length++ [(t,h)]++l.drop (l.filter fun p=>decide (p.1<=t)).length
theorem xi{w:du}{s:bu}{h i:Nat}{vs:List Int}{fs:List cD}{f:cD}{r:Rm}{rs:eI}{x so:Str}{t:Tr}{v:Int}{line:List (Int×Int)}(hs:s.hands[h]?=some (vs,fs))(hf:fs.getLast? =some f)(hr:f.room=i)(hw:w.rooms[i]?=some r)(hsr:s.rooms[i]?=some rs)(b2:r.bells.length<=100)(l2:r.bells.length=rs.bells.length)(b3:s.rooms.length<=100)(hx:x∈r.bells.map (·.1))
  (hso:r.bells[fO (r.bells.map (·.1)) x]?=some (x,so)) (hline:rs.bells[fO (r.bells.map (·.1)) x]?=some line) (b4:line.length<=900) (hre:xH w s h t v)
  (q:Q (.d ({s with rooms:=s.rooms.set i (g9 {rs with bells:=rs.bells.set (fO (r.bells.map (·.1)) x) (Dw line (if so="turns" then v else 0) h)})}:bu).d) S):Fn lW [w.d,s.d,.int h,(Rw.wait x t).d] S Q:=by
 have hp:=(k0 hx).1
 rw[lQm] at hp
 have hi:i<s.rooms.length:=(gQs.mp hsr).1
 refine bF ?_
 unfold wM
 symm
 refine ak (d:=.str x) rfl ?_
 symm
 refine kM hs hf hr hw b2 hx ?_
 refine dX rfl (aq (aR (aq (aR (bg ?_)))))
 generalize fO (r.bells.map (·.1)) x=b at hp q hso hline⊢
 have hb:b<rs.bells.length:=by omega
 symm
 refine ak rfl ?_
 symm
 refine ak (d:=r.d) (aO (by rw[gQm,hw];rfl)) ?_
 symm
 refine ak rfl ?_
 symm
 refine ak (d:=BJ (x,so)) (aO (by rw[gQm,hso];rfl)) ?_
 symm
 refine ak (d:=.str so) rfl ?_
 symm
 refine gI ?_
 dsimp only
 have key:∀tv:Int,tv=(if so="turns" then v else 0)->T (az (aU 7 (ay aJ (ay aJ (ay aJ (ay aJ (af 1) (cF (.int 0))) (af 4)) (cF (.int 4))) (af 5)))
   (az (aU 8 (gk (fL (cC [none,none,some 6] (jm (a8 (af 7))) (iB (nG 2 (aE (bO 0) (aE (bO 1) dC)))) (aF (ay HL (af 0) (af 2))) (af 0)))))
   (az (aU 9 (ao dE (ae (af 1) (ae (af 4) (ae (af 5) (ae (ay cq (ay cq (qu (af 7) rh (qO (af 8))) (aP (ae (aP (ae (af 6) (ae (af 2) ai))) ai))) (qu (af 7) (qO (af 8)) rh)) ai))))))
   (b9 (ao kL (ae (af 9) (ae (af 4) ai)))))))
   [some w.d,some s.d,some (.int h),some (Rw.wait x t).d,some (.int i),some (.int b),some (.int tv),none,none,none] S (fun o=>match o with
   |.nx _ S'=>Op (settle S .non S') fun p=>Q p.1 p.2|.rt d S'=>Op (settle S d S') fun p=>Q p.1 p.2|.rl l S'=>Op (dD S l S') fun p=>Q p.1 p.2|_=>False):=by
  intro tv htv
  rw[←htv] at q
  symm
  refine ak rfl ?_
  symm
  refine ak (d:=rs.d) (aO (by rw[gQm,hsr];rfl)) ?_
  symm
  refine ak rfl ?_
  symm
  refine ak (d:=dQ line) (aO (by rw[gQm,hline];rfl)) ?_
  symm
  refine pk (α:=Int×Int) (fun Γ'=>∃a b,Γ'= [a,b,some (.int tv)]) pairD (fun p=>.int p.1) (fun p=>decide (p.1<=tv)) ⟨none,none,rfl⟩ ?_
  symm
  refine bW (ds:=line.map pairD) ?_
  refine⟨line,rfl,trivial,by omega,fun p hp Γ' hΓ=> ?_,?_⟩
  ·obtain⟨a,b,rfl⟩:=hΓ
   refine dX rfl (aq (aR (aq (aR (bg ?_)))))
   refine⟨rfl,⟨_,_,rfl⟩,?_⟩
   symm
   refine⟨rfl,rfl,fun _=> ?_⟩
   symm
   exact⟨rfl,rfl⟩
  have el:((line.filter fun p=>decide (p.1<=tv)).map fun p=>D.int p.1).length=(line.filter fun p=>decide (p.1<=tv)).length:=lQm ..
  have ln:=List.length_filter_le (fun p=>decide (p.1<=tv)) line
  unfold Dw at q
  symm
  rw[el]
  generalize (line.filter fun p=>decide (p.1<=tv)).length=n at q ln⊢
  refine jh ?_
  symm
  refine cV (cU ?_)
  symm
  refine⟨_,rfl,line.map pairD,rfl,?_⟩
  rw[Ah (by rw[lQm];exact ln)]
  symm
  refine⟨by show 2<=sizeLine;decide,?_⟩
  symm
  refine⟨by show 1<=sizeLine;decide,?_⟩
  refine dN (by simp only[lQm,List.length_take,List.length_cons,List.length_nil];exact nQl (bh (by omega))) ?_
  refine jh ?_
  symm
  refine cU ?_
  symm
  refine⟨_,rfl,cV ⟨line.map pairD,rfl,?_⟩⟩
  rw[ij (by rw[lQm];exact ln)]
  refine dN (by simp only[lQa,lQm,List.length_take,List.length_drop,List.length_cons,List.length_nil];exact nQl (bh (by omega))) ?_
  symm
  have e:D.tup ((line.map pairD).take n++ [D.tup [.int tv,.int h]]++(line.map pairD).drop n)=dQ (line.take n++ [(tv,(h:Int))]++line.drop n):=by
   simp only[dQ,List.map_append,List.map_take,List.map_drop]
   rfl
  rw[e]
  generalize line.take n++ [(tv,(h:Int))]++line.drop n=nl at q⊢
  refine iV hsr hb (by omega) b3 ?_
  symm
  have q2:Op (settle S ({s with rooms:=s.rooms.set i (g9 {rs with bells:=rs.bells.set b nl})}:bu).d S) fun p=>Q p.1 p.2:=cg (aL _) (bu.low _) q
  generalize hnr:({rs with bells:=rs.bells.set b nl}:eI)=nr at q2⊢
  have q3:Op (settle S ({s with rooms:=(s.rooms.set i nr).set i (g9 nr)}:bu).d S) fun p=>Q p.1 p.2:=by rw[List.set_set];exact q2
  exact vP (s:={s with rooms:=s.rooms.set i nr}) (List.getElem?_set_self hi) (by simp;omega) q3
 by_cases c:so="turns"
 ·rw[decide_eq_true c,if_pos rfl]
  symm
  refine ak (d:=t.d) rfl ?_
  symm
  refine hre _ _ ?_
  exact key v (by rw[if_pos c])
 ·rw[decide_eq_false c,if_neg (by decide)]
  refine cp ?_
  exact key 0 (by rw[if_neg c])
end
end W28
namespace DL
open PySem PySem.Spec L2
section
variable{Γ:cE}{S:aA}
theorem Hn{tbl:List (Str×Str)}{g:bq}{Q:D->aA->Prop}(h:E g Γ S fun y S1=>∃x nm,y=.str x/\tbl.lookup x=some nm/\Q (.fn nm) S1):E (G1 tbl g) Γ S Q:=by
 obtain⟨y,S1,e1,x,nm,rfl,e2,q⟩:=h
 exact⟨_,S1,by unfold G1;rw[e1];simp only[Option.bind_some];rw[e2];rfl,q⟩
theorem CV{i:Nat}{T:List (Str×c9)}{g:fG}{x:Str}{F:c9}{Q:D->aA->Prop}(h1:Γ[i]?=some (some (.fn x)))(h2:T.lookup x=some F)(h:E (ao F g) Γ S Q):E (qP i T g) Γ S Q:=by
 obtain⟨y,S1,e1,q⟩:=h
 exact⟨_,S1,by unfold qP;rw[h1];show(T.lookup x).bind _=_;rw[h2];exact e1,q⟩
theorem D3{f:bq}{Q:D->aA->Prop}(h:E f Γ S fun d S1=>∃k,d=.bl k/\Q (.bl (!k)) S1):E (CY f) Γ S Q:=by
 obtain⟨d,S1,e1,k,rfl,q⟩:=h
 exact⟨_,S1,by unfold CY;rw[e1];rfl,q⟩
theorem A2{neg:Bool}{x:D}{Q:D->Prop}(q:Q (.bl (if neg then !isNone x else isNone x))):Op (vT neg S x .non) Q:=⟨_,rfl,q⟩
end
theorem tJ{α:Type}{xs:List α}{a b:α}:jk (xs++ [a,b]) (-2)=some a:=by
 unfold jk zH
 rw[if_neg (by omega),if_pos (by simp;omega)]
 simp only[Option.bind_some]
 rw[show((-2:Int)+((xs++ [a,b]).length:Int)).toNat=xs.length by simp;omega]
 simp
end DL
namespace W28
open PySem PySem.Spec L2 DL
section
variable{S:aA}{Q:Res->aA->Prop}
noncomputable def HP:Rw->c9
 |.put _ _=>pw
 |.unl _ _=>i7
 |.go _=>u5
 |.do_ _ _ _ _=>u6
 |.wait _ _=>lW
 |.call _=>lE
 |.all _=>oV
 |.tell _=>lC
 |.take _=>mz
 |.give _=>lF
 |.pass _ _=>mh
 |.say _=>oT
def Rw.kind:Rw->Str
 |.put _ _=>"put"
 |.unl _ _=>"unless"
 |.go _=>"go"
 |.do_ _ _ _ _=>"do"
 |.wait _ _=>"wait"
 |.call _=>"call"
 |.all _=>"all"
 |.tell _=>"tell"
 |.take _=>"take"
 |.give _=>"give"
 |.pass _ _=>"pass"
 |.say _=>"say"
theorem Rw.d_kind(r:Rw):∃l,r.d=.tup (.str r.kind::l):=by cases r <;>exact⟨_,rfl⟩
theorem C8(r:Rw):∃nm,jX.lookup r.kind=some nm/\qJ.lookup nm=some (HP r):=by
 cases r
 ·exact⟨"by_put",rfl,rfl⟩
 ·exact⟨"by_unless",rfl,rfl⟩
 ·exact⟨"by_go",rfl,rfl⟩
 ·exact⟨"by_do",rfl,rfl⟩
 ·exact⟨"by_wait",rfl,rfl⟩
 ·exact⟨"by_call",rfl,rfl⟩
 ·exact⟨"by_all",rfl,rfl⟩
 ·exact⟨"by_tell",rfl,rfl⟩
 ·exact⟨"by_take",rfl,rfl⟩
 ·exact⟨"by_give",rfl,rfl⟩
 ·exact⟨"by_pass",rfl,rfl⟩
 ·exact⟨"by_say",rfl,rfl⟩
def D0(w:du)(s:bu)(h:Nat)(r:Rw)(s':bu):Prop:=∀(S:aA) (Q:Res->aA->Prop),Q (.d s'.d) S->Fn (HP r) [w.d,s.d,.int h,r.d] S Q
theorem wU{w:du}{s s':bu}{h:Nat}{r:Rw}(hd:D0 w s h r s')(q:Q (.d s'.d) S):Fn ib [w.d,s.d,.int h,r.d] S Q:=by
 obtain⟨nm,n1,n2⟩:=C8 r
 obtain⟨l,hl⟩:=r.d_kind
 refine bF ?_
 unfold tU
 refine bC (Ay (Hn ?_))
 symm
 rw[hl]
 refine ak (d:=.str r.kind) y6 ?_
 rw[←hl]
 refine⟨_,nm,rfl,n1,?_⟩
 refine og (CV (x:=nm) rfl n2 ?_)
 symm
 refine hd _ _ ?_
 exact cg (aL _) (bu.low _) q
theorem nY{w:du}{s s':bu}{h i:Nat}{vs:List Int}{gs:List cD}{f2 f:cD}{rs:eI}{pr:List Rw}{g:Option Str}{rn dn:Str}{t:Tr}(hs:s.hands[h]?=some (vs,gs++ [f2,f]))(hr:f.room=i)(hsr:s.rooms[i]?=some rs)(b3:s.rooms.length<=900)(b4:s.hands.length<=900)
  (hp:progOf w h f2=some pr) (h1:1<=f2.row) (hrow:pr[(f2.row-1).toNat]?=some (.do_ g rn dn t))
  (hg:∀outside:bu,outside={s with rooms:=s.rooms.set i (g9 rs),hands:=s.hands.set h (vs,gs++ [f2])}->match g with|none=>s'=outside|some x=>Puts w outside h x f.told s')
  (q:Q (.d s'.d) S):Fn ix [w.d,s.d,.int h] S Q:=by
 have hh:h<s.hands.length:=(gQs.mp hs).1
 refine bF ?_
 unfold sW
 symm
 refine ak rfl ?_
 symm
 refine ak (d:=xF (vs,gs++ [f2,f])) (aO (by rw[gQm,hs];rfl)) ?_
 refine dX rfl (aq (aR (aq (aR (bg ?_)))))
 have hml:(gs++ [f2,f]).map cD.d=gs.map cD.d++ [f2.d,f.d]:=by simp
 dsimp only
 rw[hml]
 symm
 refine lU ?_
 symm
 refine⟨1,rfl,?_⟩
 refine ak (d:=f.d) (lK (by simp)) ?_
 refine dX rfl (aq (aR (aq (aR (aq (aR (aq (aR (aq (aR (bg ?_)))))))))))
 rw[hr]
 symm
 refine vP hsr b3 ?_
 symm
 refine jh ?_
 symm
 refine cV (cU (lU ?_))
 symm
 refine⟨1,rfl,_,rfl,_,rfl,?_⟩
 rw[wO (by simp)]
 have hdl:D.tup ((gs.map cD.d++ [f2.d,f.d]).dropLast)=.tup ((gs++ [f2]).map cD.d):=by
  rw[show gs.map cD.d++ [f2.d,f.d]=(gs.map cD.d++ [f2.d])++ [f.d] by simp,List.dropLast_concat]
  simp
 rw[hdl]
 symm
 refine fR (s:={s with rooms:=s.rooms.set i (g9 rs)}) hh b4 ?_
 have hg:=hg _ rfl
 dsimp only at hg⊢
 generalize ({s with rooms:=s.rooms.set i (g9 rs),hands:=s.hands.set h (vs,gs++ [f2])}:bu)=outside at hg⊢
 symm
 refine lU ?_
 symm
 refine⟨2,rfl,?_⟩
 refine ak (d:=f2.d) tJ ?_
 symm
 refine eF hp ?_
 symm
 refine lU ?_
 symm
 refine⟨2,rfl,?_⟩
 refine ak (d:=f2.d) tJ ?_
 symm
 refine ak (d:=.int f2.row) rfl ?_
 symm
 refine ak (d:=(Rw.do_ g rn dn t).d) (jV (by omega) (by rw[gQm,hrow];rfl)) ?_
 symm
 refine ak (d:=Cr g) rfl ?_
 symm
 refine A2 ?_
 cases g with
 | none=>
   dsimp only at hg
   subst hg
   refine aM (fun _=> ?_) (fun c=>by cases c)
   symm
   exact cg (aL _) (bu.low _) q
 | some x=>
   refine aM (fun c=>by cases c) (fun _=>cp ?_)
   symm
   refine ak (d:=.str x) rfl ?_
   symm
   refine hg _ _ ?_
   exact cg (aL _) (bu.low _) q
end
section
variable{S:aA}{Q:Res->aA->Prop}
def Hs(h:Nat):Option Int->D
 |none=>.non
 |some v=>.tup [.int h,.int v]
theorem C6(h:Nat)(e:Option Int):bJ 0 (Hs h e)=true:=by cases e <;>rfl
def EW(s:bu)(h:Nat)(e:Option Int):D:=.tup [s.d,Hs h e]
theorem o_(s:bu)(h:Nat)(e:Option Int):bJ 0 (EW s h e)=true:=by
 simp only[EW,bJ,bG,C6,bu.low,Bool.and_true]
def vU(w:du)(s:bu)(h:Nat)(s':bu)(e:Option Int):Prop:=∀(S:aA) (Q:Res->aA->Prop),Q (.d (EW s' h e)) S->Fn lT [w.d,s.d,.int h] S Q
theorem zC{w:du}{s:bu}{h i:Nat}{vs:List Int}{fs:List cD}{f:cD}{rs:eI}(hs:s.hands[h]?=some (vs,fs))(hf:fs.getLast? =some f)(hr:f.room=i)(hsr:s.rooms[i]?=some rs)(hn:rs.within≠h)(b3:s.rooms.length<=900)(b4:rs.row.length<=900):
  vU w s h {s with rooms:=s.rooms.set i (q_ rs h)} none:=by
 intro S Q q
 refine bF ?_
 unfold lV
 symm
 refine bH hs hf ?_
 symm
 refine ak (d:=.int f.room) rfl ?_
 symm
 refine j9 ?_
 dsimp only
 rw[decide_eq_false (show¬f.room= -1 by omega),hr]
 show if (true=true) then _ else _
 rw[if_pos rfl]
 symm
 refine ak rfl ?_
 symm
 refine ak (d:=rs.d) (aO (by rw[gQm,hsr];rfl)) ?_
 symm
 refine ak (d:=.int rs.within) rfl ?_
 symm
 refine j9 ?_
 dsimp only
 rw[decide_eq_false hn]
 show if (true=true) then _ else _
 rw[if_pos rfl]
 symm
 refine qh hsr b3 b4 ?_
 symm
 refine⟨by show 2<=sizeLine;decide,?_⟩
 exact cg (d:=EW _ h none) (fun k z=>(nomatch z)) (o_ _ _ _) q
def Here(s:bu)(h:Nat)(f:cD):Prop:=f.room= -1\/∃(i:Nat) (rs:eI),f.room=i/\s.rooms[i]?=some rs/\rs.within=h
theorem sU{w:du}{s:bu}{h:Nat}{f:cD}{a b c d:Option D}{Q:Bool->aA->Prop}(hh:Here s h f)(q:Q false S):E (gn (aF (ay (eB true) (af 4) (cF (.int (-1))))) (aF (ay (eB true) (ay aJ (ay aJ (ay aJ (af 1) (cF (.int 0))) (af 4)) (cF (.int 1))) (af 2)))) [some w.d,some s.d,some (.int h),some f.d,some (.int f.room),a,b,c] S Q:=by
 rcases hh with hr|⟨i,rs,hr,hsr,hi⟩
 ·symm
  refine j9 ?_
  dsimp only
  rw[decide_eq_true hr]
  show if (false=true) then _ else _
  rw[if_neg (by decide)]
  exact q
 ·symm
  refine j9 ?_
  dsimp only
  rw[decide_eq_false (show¬f.room= -1 by omega),hr]
  show if (true=true) then _ else _
  rw[if_pos rfl]
  symm
  refine ak rfl ?_
  symm
  refine ak (d:=rs.d) (aO (by rw[gQm,hsr];rfl)) ?_
  symm
  refine ak (d:=.int rs.within) rfl ?_
  symm
  refine j9 ?_
  dsimp only
  rw[decide_eq_true hi]
  exact q
theorem vX{w:du}{s s':bu}{h:Nat}{vs:List Int}{fs:List cD}{f:cD}{pr:List Rw}(hs:s.hands[h]?=some (vs,fs))(hf:fs.getLast? =some f)(hh:Here s h f)(hp:progOf w h f=some pr)(hrow:f.row=pr.length)
  (he:∀(S:aA) (Q:Res->aA->Prop),Q (.d s'.d) S->Fn ix [w.d,s.d,.int h] S Q):vU w s h s' none:=by
 intro S Q q
 refine bF ?_
 unfold lV
 symm
 refine bH hs hf ?_
 symm
 refine ak (d:=.int f.room) rfl ?_
 refine bC (dU (sU (d:=none) hh ?_))
 refine aM (fun c=>by cases c) (fun _=>cp ?_)
 symm
 refine eF hp ?_
 symm
 refine ak (d:=.int f.row) rfl ?_
 symm
 refine dj ?_
 dsimp only
 rw[lQm,decide_eq_true hrow,if_pos rfl]
 symm
 refine he _ _ ?_
 symm
 refine⟨by show 2<=sizeLine;decide,?_⟩
 exact cg (d:=EW _ h none) (fun k z=>(nomatch z)) (o_ _ _ _) q
def ET(w:du)(s:bu)(h:Nat)(r:Rw)(e:Option Int):Prop:=match r with
 |.say t=>∃v,e=some v/\xH w s h t v
 |_=>e=none
theorem wc{w:du}{s s':bu}{h:Nat}{vs:List Int}{fs:List cD}{f:cD}{pr:List Rw}{r:Rw}{e:Option Int}(hs:s.hands[h]?=some (vs,fs))(hf:fs.getLast? =some f)(hh:Here s h f)(hp:progOf w h f=some pr)(h0:0<=f.row)(hrow:pr[f.row.toNat]?=some r)(b1:fs.length<=900)(b2:s.hands.length<=900)
  (hsay:ET w s h r e) (hd:D0 w {s with hands:=s.hands.set h (vs,fs.dropLast++ [{f with row:=f.row+1}])} h r s'):vU w s h s' e:=by
 intro S Q q
 have hlt:=(gQs.mp hrow).1
 refine bF ?_
 unfold lV
 symm
 refine bH hs hf ?_
 symm
 refine ak (d:=.int f.room) rfl ?_
 refine bC (dU (sU (d:=none) hh ?_))
 refine aM (fun c=>by cases c) (fun _=>cp ?_)
 symm
 refine eF hp ?_
 symm
 refine ak (d:=.int f.row) rfl ?_
 symm
 refine dj ?_
 dsimp only
 rw[lQm,decide_eq_false (show¬f.row=(pr.length:Int) by omega),if_neg (by decide)]
 refine cp ?_
 symm
 refine ak (d:=.int f.row) rfl ?_
 refine ak (d:=r.d) (jV h0 (by rw[gQm,hrow];rfl)) ?_
 symm
 obtain⟨l,hl⟩:=r.d_kind
 have key:T (b9 (aP (ae (ao ib (ae (af 0) (ae (ao fS (ae (af 1) (ae (af 2) (ae (ay cq (ay aJ (af 3) (cF (.int 2))) (cF (.int 1))) ai)))) (ae (af 2) (ae (af 6) ai))))) (ae (af 7) ai))))
   [some w.d,some s.d,some (.int h),some f.d,some (.int f.room),some (.tup (pr.map Rw.d)),some r.d,some (Hs h e)] S (fun o=>match o with
   |.nx _ S'=>Op (settle S .non S') fun p=>Q p.1 p.2|.rt d S'=>Op (settle S d S') fun p=>Q p.1 p.2|.rl l S'=>Op (dD S l S') fun p=>Q p.1 p.2|_=>False):=by
  symm
  refine ak (d:=.int f.row) rfl ?_
  symm
  refine mK hs hf b1 b2 ?_
  symm
  refine wU hd ?_
  symm
  refine⟨by show 2<=sizeLine;decide,?_⟩
  exact cg (d:=EW _ h e) (fun k z=>(nomatch z)) (o_ _ _ _) q
 cases r with
 | say t=>
   obtain⟨v,rfl,hv⟩:=hsay
   refine ak (d:=.str "say") rfl ?_
   symm
   refine gI ?_
   dsimp only
   rw[decide_eq_true rfl,if_pos rfl]
   symm
   refine ak (d:=t.d) rfl ?_
   symm
   refine hv _ _ ?_
   symm
   refine⟨by show 2<=sizeLine;decide,?_⟩
   exact key
 | _=>
   have hsay:e=none:=hsay
   subst hsay
   refine ak rfl ?_
   symm
   refine gI ?_
   dsimp only
   refine aM (fun c=>absurd (of_decide_eq_true c) (by decide +kernel)) (fun _=>cp ?_)
   exact key
end
end W28
namespace DL
open PySem PySem.Spec L2
section
variable{Γ:cE}{S:aA}
theorem z_{f:bq}{g:eR}{Q:D->aA->Prop}(h:E f Γ S fun x S1=>∃k ds0,x=.ref k/\S1[k]?=some (.lst ds0)/\E g Γ S1 fun p S2=>∃ds,S2[k]?=some (.lst ds)/\(p.2.isL=false/\ds.length+p.1.length<=sizeLine)/\Q .non (S2.set k (.lst (ds++p.1)))):E (sS f g) Γ S Q:=by
 obtain⟨x,S1,e1,k,ds0,rfl,h1,p,S2,e2,ds,h2,h3,q⟩:=h
 exact⟨_,_,by unfold sS;rw[e1];simp only[Option.bind_some,e2,h1,h2];rw[if_pos h3],q⟩
end
theorem xm{S S':aA}{k:Nat}{ds:List D}{Q:Res×aA->Prop}(hc:lL S S')(hk:S.length<=k)(hS:S'[k]?=some (.lst ds))(hl:bG S.length ds=true)(q:Q (.l ds,S'.take S.length)):Op (settle S (.ref k) S') Q:=by
 refine⟨_,?_,q⟩
 unfold settle
 rw[if_pos hc]
 show(if k<S.length then _ else _)=_
 rw[if_neg (by omega),hS]
 show(if bG S.length ds=true then _ else _)=_
 rw[if_pos hl]
theorem i8{n:Nat}(h:n<=100000):n<=sizeLine:=Nat.le_trans h (by decide)
theorem cP:∀ss:List Int,jE (ss.map D.int)=some (ss.map V.int)
 | []=>rfl
 |s::ss=>by simp only[List.map_cons,jE,rO,Option.bind_some];rw[cP ss];rfl
theorem iO{x:Int}{ss:List Int}:Bj (.int x) (ss.map V.int)=decide (x∈ss):=by
 induction ss with
 |nil=>rfl
 | cons a ss ih=>
   show(kf (.int a) (.int x)||Bj (.int x) (ss.map V.int))=_
   rw[ih]
   simp only[kf,List.mem_cons]
   by_cases c:a=x
   · subst c;simp
   · have c':¬x=a:=fun z=>c z.symm
     simp[c,c']
end DL
namespace W28
open PySem PySem.Spec L2 DL
section
variable{S:aA}{Q:Res->aA->Prop}
theorem wH{S S':aA}(x:lY S S'):S'.take S.length=S:=by
 apply List.ext_getElem?
 intro j
 by_cases hj:j<S.length
 ·rw[List.getElem?_take_of_lt hj]
  exact x.eq j hj
 ·rw[List.getElem?_eq_none (by rw[List.length_take];omega),List.getElem?_eq_none (by omega)]
theorem D6{S S':aA}{ds:List D}{Q:Res->aA->Prop}(x:lY S S')(hl:bG 0 ds=true)(q:Q (.l ds) S):Op (dD S ds S') fun p=>Q p.1 p.2:=
 kU ⟨x.len,fun k o hk e=>.inl (by rw[←x.eq k hk];exact e)⟩ (wH x) (hX hl) q
theorem B5{S S':aA}{k:Nat}{ds:List D}{Q:Res->aA->Prop}(x:lY S S')(hk:S.length<=k)(hS:S'[k]?=some (.lst ds))(hl:bG 0 ds=true)(q:Q (.l ds) S):Op (settle S (.ref k) S') fun p=>Q p.1 p.2:=
 xm ⟨x.len,fun k o hk e=>.inl (by rw[←x.eq k hk];exact e)⟩ hk hS (hX hl) (by rw[wH x];exact q)
theorem nF{l:List (Int×Int)}(hl:l.length<=1000)(q:Q (.l ((l.map (·.2)).map D.int)) S):Fn gd [dQ l] S Q:=by
 refine bF ?_
 unfold sM
 symm
 refine qN (α:=Int×Int) (fun Γ'=>∃a b,Γ'= [a,b]) pairD (fun p=>.int p.2) ⟨none,none,rfl⟩ ?_
 symm
 refine bW (ds:=l.map pairD) ?_
 refine⟨l,rfl,trivial,hl,fun p hp Γ' hΓ=> ?_,?_⟩
 ·obtain⟨a,b,rfl⟩:=hΓ
  refine dX rfl (aq (aR (aq (aR (bg ?_)))))
  refine⟨rfl,⟨_,_,rfl⟩,?_⟩
  symm
  exact⟨rfl,rfl⟩
 ·have e:l.map (fun p=>D.int p.2)=(l.map (·.2)).map D.int:=by rw[List.map_map];rfl
  rw[e]
  exact BP (aX fun _ _=>rfl) q
def iH(r:eI):List Int:=r.row++r.late++r.bells.flatMap fun l=>l.map (·.2)
def held(s:bu):List Int:=s.passes.flatMap (·.2)++s.rooms.flatMap iH
theorem gA{α β:Type}{f:α->List β}{n:Nat}:∀{l:List α},(∀a∈l,(f a).length<=n)->(l.flatMap f).length<=n*l.length
 | [],_=>by simp
 | a::l,h=>by
   have h1:=h a (List.mem_cons_self ..)
   have h2:=gA (f:=f) (l:=l) fun b hb=>h b (List.mem_cons_of_mem _ hb)
   rw[List.flatMap_cons,lQa,List.length_cons,Nat.mul_add]
   omega
theorem eo{α β:Type}{f:α->List β}{l:List α}{n:Nat}{a:α}(h:l[n]?=some a):(l.take (n+1)).flatMap f=(l.take n).flatMap f++f a:=by
 rw[List.take_add_one,h]
 simp
theorem m5{s:bu}{n:Nat}(hn:n<=100)(b1:s.passes.length<=100)(b2:s.rooms.length<=20)(p1:∀p∈s.passes,p.2.length<=n)(r1:∀r∈s.rooms,r.row.length<=n/\r.late.length<=n/\r.bells.length<=10/\∀l∈r.bells,l.length<=n)
  (q:Q (.l ((held s).map D.int)) S):Fn d0 [s.d] S Q:=by
 have bw:∀acc:List D,lY S (S++ [.lst acc]):=fun acc=>lY.refl.app
 have hr:∀r∈s.rooms,∀j:Nat,((r.bells.take j).flatMap fun l=>l.map (·.2)).length<=1000:=fun r hr j=>by
  obtain⟨_,_,h3,h4⟩:=r1 r hr
  have h5:=gA (f:=fun l:List (Int×Int)=>l.map (·.2)) (n:=n) (l:=r.bells.take j) fun l hl=>by rw[lQm];exact h4 l (List.mem_of_mem_take hl)
  have h6:(r.bells.take j).length<=10:=by rw[List.length_take];omega
  have h7:n*(r.bells.take j).length<=100*10:=Nat.mul_le_mul hn h6
  omega
 have hrm:∀r∈s.rooms,(iH r).length<=1200:=fun r h=>by
  have h1:=hr r h r.bells.length
  obtain⟨h2,h3,_⟩:=r1 r h
  rw[List.take_length] at h1
  simp only[iH,lQa]
  omega
 have hpl:∀j:Nat,((s.passes.take j).flatMap (·.2)).length<=10000:=fun j=>by
  have h5:=gA (f:=fun p:Int×List Int=>p.2) (n:=n) (l:=s.passes.take j) fun l hl=>p1 l (List.mem_of_mem_take hl)
  have h6:(s.passes.take j).length<=100:=by rw[List.length_take];omega
  have h7:n*(s.passes.take j).length<=100*100:=Nat.mul_le_mul hn h6
  omega
 have hrl:∀j:Nat,((s.rooms.take j).flatMap iH).length<=24000:=fun j=>by
  have h5:=gA (f:=iH) (n:=1200) (l:=s.rooms.take j) fun l hl=>hrm l (List.mem_of_mem_take hl)
  have h6:(s.rooms.take j).length<=20:=by rw[List.length_take];omega
  omega
 refine bF ?_
 unfold jL
 symm
 refine⟨by decide,?_⟩
 refine bC (fJ (qX ?_))
 symm
 refine ak rfl ?_
 refine bW (ds:=s.passes.map wW) ?_
 refine⟨fun j Γ' S'=>(∃a b c d e f g,Γ'= [some s.d,some (.ref S.length),a,b,c,d,e,f,g])/\S'=S++ [.lst (((s.passes.take j).flatMap (·.2)).map D.int)],⟨⟨_,_,_,_,_,_,_,rfl⟩,rfl⟩,fun _ _ _ _=>trivial,?_,?_⟩
 ·rintro j d Γ' S' hd ⟨⟨a,b,c,d1,e,f,g,rfl⟩,rfl⟩
  have hd:(s.passes.map wW)[j]?=some d:=hd
  rw[gQm] at hd
  obtain⟨p,hp,rfl⟩:=oQm.mp hd
  refine dX rfl (aq (aR (aq (aR (bg ?_)))))
  refine gB (z_ ?_)
  symm
  refine⟨_,_,rfl,aG,?_⟩
  symm
  refine bW (ds:=p.2.map D.int) ?_
  refine⟨_,aG,⟨rfl,?_⟩,⟨_,_,_,_,_,_,_,rfl⟩,?_⟩
  ·have:=hpl j
   have:=p1 p (mQg hp)
   simp only[lQm]
   exact i8 (by omega)
  ·rw[eo hp,List.map_append]
   simp
 rintro Γ' S' ⟨⟨a,b,c,d1,e,f,g,rfl⟩,rfl⟩
 have hl:(s.passes.map wW).length=s.passes.length:=lQm ..
 rw[hl,List.take_length]
 refine bC (fJ (qX ?_))
 symm
 refine ak rfl ?_
 refine bW (ds:=s.rooms.map eI.d) ?_
 refine⟨fun j Γ' S'=>(∃a b c d e f g,Γ'= [some s.d,some (.ref S.length),a,b,c,d,e,f,g])/\S'=S++ [.lst ((s.passes.flatMap (·.2)++(s.rooms.take j).flatMap iH).map D.int)],⟨⟨_,_,_,_,_,_,_,rfl⟩,by simp⟩,fun _ _ _ _=>trivial,?_,?_⟩
 ·rintro j d Γ' S' hd ⟨⟨a,b,c,d1,e,f,g,rfl⟩,rfl⟩
  have hd:(s.rooms.map eI.d)[j]?=some d:=hd
  rw[gQm] at hd
  obtain⟨r,hrj,rfl⟩:=oQm.mp hd
  have hrm':=mQg hrj
  obtain⟨h2,h3,h4,h5⟩:=r1 r hrm'
  have hlen:(s.passes.flatMap (·.2)++(s.rooms.take j).flatMap iH).length<=34000:=by
   have:=hpl s.passes.length
   rw[List.take_length] at this
   have:=hrl j
   rw[lQa]
   omega
  generalize hacc:s.passes.flatMap (·.2)++(s.rooms.take j).flatMap iH=acc at hlen⊢
  refine dX rfl (aq (aR (aq (aR (aq (aR (aq (aR (aq (aR (bg ?_)))))))))))
  refine bC (gB (z_ ?_))
  symm
  refine⟨_,_,rfl,aG,?_⟩
  symm
  refine dN (i:=r.row.map D.int) (j:=r.late.map D.int) (by simp only[lQm];exact i8 (by omega)) ?_
  refine bW ?_
  refine⟨_,aG,⟨rfl,?_⟩,?_⟩
  ·simp only[lQa,lQm]
   exact i8 (by omega)
  dsimp only
  have e1:(S++ [O.lst (acc.map D.int)]).set S.length (.lst (acc.map D.int++(r.row.map D.int++r.late.map D.int)))=S++ [.lst ((acc++(r.row++r.late)).map D.int)]:=by simp
  rw[e1]
  refine fJ (qX ?_)
  symm
  refine⟨fun j Γ' S'=>(∃a b c d e f g,Γ'= [some s.d,some (.ref S.length),a,b,c,d,e,f,g])/\S'=S++ [.lst ((acc++(r.row++r.late)++(r.bells.take j).flatMap fun l=>l.map (·.2)).map D.int)],⟨⟨_,_,_,_,_,_,_,rfl⟩,by simp⟩,fun _ _ _ _=>trivial,?_,?_⟩
  ·rintro m d Γ' S' hd ⟨⟨a,b,c,d1,e,f,g,rfl⟩,rfl⟩
   have hd:(r.bells.map dQ)[m]?=some d:=hd
   rw[gQm] at hd
   obtain⟨l,hlm,rfl⟩:=oQm.mp hd
   have hll:=h5 l (mQg hlm)
   refine aR ?_
   refine gB (sX ?_)
   symm
   refine⟨_,_,rfl,aG,?_⟩
   symm
   refine nF (by omega) ?_
   symm
   refine⟨_,aG,⟨rfl,?_⟩,⟨_,_,_,_,_,_,_,rfl⟩,?_⟩
   ·have:=hr r hrm' m
    simp only[lQa,lQm]
    exact i8 (by omega)
   ·rw[eo hlm,←List.append_assoc,List.map_append]
    simp
  ·rintro Γ' S' ⟨h1,rfl⟩
   refine⟨h1,?_⟩
   have hl:(r.bells.map dQ).length=r.bells.length:=lQm ..
   rw[hl,List.take_length,eo hrj]
   subst hacc
   simp only[iH,List.append_assoc]
 ·rintro Γ' S' ⟨⟨a,b,c,d1,e,f,g,rfl⟩,rfl⟩
  have hl:(s.rooms.map eI.d).length=s.rooms.length:=lQm ..
  rw[hl,List.take_length]
  symm
  exact B5 (bw _) (Nat.le_refl _) aG (aX fun _ _=>rfl) q
end
section
variable{S:aA}{Q:Res->aA->Prop}
def B0(s:bu)(h:Nat):Option cD:=(s.hands[h]?).bind fun p=>p.2.getLast?
def vM(w:du)(s:bu)(h:Nat):Bool:=match B0 s h with
 |some f=>decide (f.room= -1)&&decide (f.row=(((progOf w h f).getD []).length:Int))
 |none=>false
theorem m6{w:du}{s:bu}{h:Nat}{vs:List Int}{fs:List cD}{f:cD}{pr:List Rw}(hs:s.hands[h]?=some (vs,fs))(hf:fs.getLast? =some f)(hp:progOf w h f=some pr)(q:Q (.d (.bl (vM w s h))) S):Fn eX [w.d,s.d,.int h] S Q:=by
 have hb:vM w s h=(decide (f.room= -1)&&decide (f.row=(pr.length:Int))):=by
  unfold vM B0
  rw[hs]
  show(match fs.getLast? with|some f=>_|none=>_)=_
  rw[hf]
  simp only[hp,Option.getD_some]
 rw[hb] at q
 refine bF ?_
 unfold jG
 symm
 refine bH hs hf ?_
 symm
 refine pA ?_
 symm
 refine ak (d:=.int f.room) rfl ?_
 symm
 refine dj ?_
 refine⟨_,rfl,?_⟩
 by_cases c:f.room= -1
 ·rw[decide_eq_true c] at q⊢
  rw[if_pos rfl]
  symm
  refine ak (d:=.int f.row) rfl ?_
  symm
  refine eF hp ?_
  symm
  refine dj ?_
  rw[lQm]
  exact cg (fun k z=>(nomatch z)) rfl q
 ·rw[decide_eq_false c] at q⊢
  rw[if_neg (by decide)]
  exact cg (fun k z=>(nomatch z)) rfl q
def qW(w:du)(s:bu):List Nat:=(List.range s.hands.length).filter fun h=> !decide ((h:Int)∈held s)&& !vM w s h
def vo(h:Nat):D:=.int h
def EU(w:du)(s:bu):Prop:=∀(S:aA) (Q:Res->aA->Prop),Q (.l ((qW w s).map vo)) S->Fn gf [w.d,s.d] S Q
theorem v7{w:du}{s:bu}(hh:∀(S:aA) (Q:Res->aA->Prop),Q (.l ((held s).map D.int)) S->Fn d0 [s.d] S Q)(hp:∀h<s.hands.length,∃vs fs f pr,s.hands[h]?=some (vs,fs)/\fs.getLast? =some f/\progOf w h f=some pr)(b1:s.hands.length<=100):EU w s:=by
 intro S Q q
 refine bF ?_
 unfold tm
 symm
 refine hh _ _ ?_
 symm
 refine pk (α:=Nat) (fun Γ'=>∃a,Γ'= [a,some w.d,some s.d,some (.ref S.length)]) (fun(i:Nat)=>D.int (0+(i:Int))) vo (fun h=> !decide ((h:Int)∈held s)&& !vM w s h) ⟨none,rfl⟩ ?_
 symm
 refine ak rfl ?_
 symm
 refine⟨_,rfl,?_,?_⟩
 ·simp only[lQm]
  omega
 refine⟨List.range s.hands.length,?_,trivial,by simp;omega,fun h hm Γ' hΓ=> ?_,?_⟩
 ·simp only[fc,lQm]
  rfl
 ·obtain⟨a,rfl⟩:=hΓ
  obtain⟨vs,fs,f,pr,h1,h2,h3⟩:=hp h (List.mem_range.mp hm)
  refine aR ⟨rfl,⟨_,rfl⟩,?_⟩
  rw[Int.zero_add]
  refine uh (fo (t_ ?_))
  symm
  refine bR (ds:=(held s).map D.int) aG ?_
  refine⟨_,_,rfl,cP _,?_⟩
  rw[iO]
  by_cases c:(h:Int)∈held s
  ·rw[decide_eq_true c]
   refine aM (fun c=>by cases c) (fun _=> ?_)
   exact⟨rfl,rfl,fun c=>by cases c⟩
  ·rw[decide_eq_false c]
   refine aM (fun _=> ?_) (fun c=>by cases c)
   symm
   refine m6 h1 h2 h3 ?_
   dsimp only
   refine qB ?_
   refine⟨rfl,rfl,fun _=> ?_⟩
   symm
   exact⟨rfl,rfl⟩
 ·refine D6 (lY.refl.app) (aX fun _ _=>rfl) q
theorem xP{w:du}{s s':bu}{h:Nat}{e:Option Int}(hm:EU w s)(hh:h∈qW w s)(hst:vU w s h s' e)(q:Q (.d (EW s' h e)) S):Fn lX [w.d,s.d,.int h] S Q:=by
 refine bF ?_
 unfold wz
 refine bC (dU (fo (t_ ?_)))
 symm
 refine hm _ _ ?_
 dsimp only
 have e1:(qW w s).map vo=((qW w s).map fun h:Nat=>(h:Int)).map D.int:=by rw[List.map_map];rfl
 refine⟨_,_,rfl,by rw[e1];exact cP _,?_⟩
 rw[iO,decide_eq_true (List.mem_map.mpr ⟨h,hh,rfl⟩)]
 refine aM (fun c=>by cases c) (fun _=>cp ?_)
 symm
 refine hst _ _ ?_
 exact cg (fun k z=>(nomatch z)) (o_ _ _ _) q
end
structure gN(n:Nat)(r:Rm)(rs:eI):Prop where
 lv:r.things.length=rs.vals.length
 lb:r.bells.length=rs.bells.length
 vv:∀v∈rs.vals,0<=v/\v<=9
 br:rs.row.length<=n
 bl:rs.late.length<=n
 bb:∀l∈rs.bells,l.length<=n
structure BM(w:du)(h:Nat)(f:cD):Prop where
 pr:∃pr,progOf w h f=some pr/\0<=f.row/\f.row<=pr.length
 gv:0<=f.given/\f.given<=9
 tv:0<=f.told/\f.told<=9
def G9(w:du)(h:Nat)(f:cD):Prop:=∃pr g rn dn t,progOf w h f=some pr/\1<=f.row/\pr[(f.row-1).toNat]?=some (.do_ g rn dn t)
def iq:List cD->Prop
 | []=>False
 |f0::tl=>f0.room= -1/\∀f∈tl,f.room≠-1
structure ie(w:du)(n h:Nat)(ts:List (Str×Nat))(vs:List Int)(fs:List cD):Prop where
 lv:ts.length=vs.length
 vv:∀v∈vs,0<=v/\v<=9
 lf:fs.length<=n
 fr:∀f∈fs,BM w h f
 hd:iq fs
 ch:∀f∈fs.dropLast,G9 w h f
structure cB(w:du)(n:Nat)(s:bu):Prop where
 lr:w.rooms.length=s.rooms.length
 rm:∀(i:Nat) (r:Rm) (rs:eI),w.rooms[i]?=some r->s.rooms[i]?=some rs->gN n r rs
 lp:w.passes.length=s.passes.length
 ps:∀p∈s.passes,p.2.length<=n
 ls:w.shared.length=s.shared.length
 sv:∀v∈s.shared,0<=v/\v<=9
 lh:w.hands.length=s.hands.length
 hd:∀(h:Nat) (ts:List (Str×Nat)) (pr:List Rw) (vs:List Int) (fs:List cD),w.hands[h]?=some (ts,pr)->s.hands[h]?=some (vs,fs)->ie w n h ts vs fs
theorem gN.mono{n m:Nat}{r:Rm}{rs:eI}(h:gN n r rs)(l:n<=m):gN m r rs:=⟨h.lv,h.lb,h.vv,Nat.le_trans h.br l,Nat.le_trans h.bl l,fun x hx=>Nat.le_trans (h.bb x hx) l⟩
theorem ie.mono{w:du}{n m h:Nat}{ts:List (Str×Nat)}{vs:List Int}{fs:List cD}(x:ie w n h ts vs fs)(l:n<=m):ie w m h ts vs fs:=⟨x.lv,x.vv,Nat.le_trans x.lf l,x.fr,x.hd,x.ch⟩
theorem cB.mono{w:du}{n m:Nat}{s:bu}(x:cB w n s)(l:n<=m):cB w m s:=⟨x.lr,fun i r rs h1 h2=>(x.rm i r rs h1 h2).mono l,x.lp,fun p hp=>Nat.le_trans (x.ps p hp) l,x.ls,x.sv,x.lh,fun h ts pr vs fs h1 h2=>(x.hd h ts pr vs fs h1 h2).mono l⟩
theorem get_set{α:Type}{l:List α}{i j:Nat}{a b:α}(h:(l.set i a)[j]?=some b):(j=i/\b=a)\/(j≠i/\l[j]?=some b):=by
 rw[List.getElem?_set] at h
 split at h
 ·rename_i c
  split at h
  ·cases h;exact .inl ⟨c.symm,rfl⟩
  ·cases h
 ·rename_i c
  exact .inr ⟨fun z=>c z.symm,h⟩
theorem cB.room{w:du}{n i:Nat}{s:bu}{r:Rm}{nr:eI}(x:cB w n s)(hw:w.rooms[i]?=some r)(hr:gN n r nr):cB w n {s with rooms:=s.rooms.set i nr} where
 lr:=by simpa using x.lr
 rm:=fun j r2 rs2 h1 h2=>by
  rcases get_set h2 with⟨rfl,rfl⟩|⟨_,h2⟩
  ·rw[hw] at h1;cases h1;exact hr
  ·exact x.rm j r2 rs2 h1 h2
 lp:=x.lp
 ps:=x.ps
 ls:=x.ls
 sv:=x.sv
 lh:=x.lh
 hd:=x.hd
theorem cB.pass{w:du}{n i:Nat}{s:bu}{p:Int×List Int}(x:cB w n s)(hp:p.2.length<=n):cB w n {s with passes:=s.passes.set i p} where
 lr:=x.lr
 rm:=x.rm
 lp:=by simpa using x.lp
 ps:=fun q hq=>by
  rcases List.mem_or_eq_of_mem_set hq with hq|rfl
  ·exact x.ps q hq
  ·exact hp
 ls:=x.ls
 sv:=x.sv
 lh:=x.lh
 hd:=x.hd
theorem cB.share{w:du}{n:Nat}{s:bu}{vs:List Int}(x:cB w n s)(hl:vs.length=s.shared.length)(hv:∀v∈vs,0<=v/\v<=9):cB w n {s with shared:=vs}:=⟨x.lr,x.rm,x.lp,x.ps,by rw[x.ls,←hl],hv,x.lh,x.hd⟩
theorem cB.hand{w:du}{n h:Nat}{s:bu}{ts:List (Str×Nat)}{pr:List Rw}{vs:List Int}{fs:List cD}(x:cB w n s)(hw:w.hands[h]?=some (ts,pr))(hr:ie w n h ts vs fs):cB w n {s with hands:=s.hands.set h (vs,fs)} where
 lr:=x.lr
 rm:=x.rm
 lp:=x.lp
 ps:=x.ps
 ls:=x.ls
 sv:=x.sv
 lh:=by simpa using x.lh
 hd:=fun j ts2 pr2 vs2 fs2 h1 h2=>by
  rcases get_set h2 with⟨rfl,e⟩|⟨_,h2⟩
  ·rw[hw] at h1;cases h1;cases e;exact hr
  ·exact x.hd j ts2 pr2 vs2 fs2 h1 h2
theorem kY{α:Type}{l:List α}{a:α}(h:l.getLast? =some a):l=l.dropLast++ [a]:=by
 cases l with
 |nil=>cases h
 | cons x y=>
   have hn:x::y≠[]:=by simp
   rw[List.getLast?_eq_some_getLast hn] at h
   cases h
   exact(List.dropLast_concat_getLast hn).symm
theorem iq.last{fs:List cD}{f f':cD}:∀{ini:List cD},iq (ini++ [f])->f'.room=f.room->iq (ini++ [f'])
 | [],h,e=>⟨by rw[e];exact h.1,fun _ z=>by cases z⟩
 | a::l,h,e=>⟨h.1,fun x hx=>by
   rcases mQa.mp hx with hx|hx
   · exact h.2 x (mQa.mpr (.inl hx))
   · rw[List.mem_singleton.mp hx,e];exact h.2 f (mQa.mpr (.inr (List.mem_singleton.mpr rfl)))⟩
theorem iq.push{f':cD}:∀{fs:List cD},iq fs->f'.room≠-1->iq (fs++ [f'])
 | [],h,_=>h.elim
 | a::l,h,e=>⟨h.1,fun x hx=>by
   rcases mQa.mp hx with hx|hx
   · exact h.2 x hx
   · rw[List.mem_singleton.mp hx];exact e⟩
theorem iq.pop{f2 f:cD}:∀{gs:List cD},iq (gs++ [f2,f])->iq (gs++ [f2])
 | [],h=>⟨h.1,fun _ z=>by cases z⟩
 | a::l,h=>⟨h.1,fun x hx=>h.2 x (by
   rcases mQa.mp hx with hx|hx
   · exact mQa.mpr (.inl hx)
   · exact mQa.mpr (.inr (by rw[List.mem_singleton.mp hx];simp)))⟩
theorem iq.two{f:cD}:∀{ini:List cD},iq (ini++ [f])->f.room≠-1->∃gs f2,ini=gs++ [f2]
 | [],h,e=>absurd h.1 e
 |a::l,h,e=>⟨(a::l).dropLast,(a::l).getLast (by simp),(List.dropLast_concat_getLast (by simp)).symm⟩
section
variable{w:du}{n h:Nat}{ts:List (Str×Nat)}{vs:List Int}{fs:List cD}{f f' f2:cD}
theorem ie.setLast(x:ie w n h ts vs fs)(hf:fs.getLast? =some f)(e:f'.room=f.room)(i:BM w h f'):ie w n h ts vs (fs.dropLast++ [f']):=by
 have hs:=kY hf
 have hd:=x.hd
 rw[hs] at hd
 refine⟨x.lv,x.vv,?_,fun g hg=> ?_,iq.last (fs:=fs) hd e,fun g hg=> ?_⟩
 ·have:=congrArg List.length hs
  have:=x.lf
  simp only[lQa,List.length_cons,List.length_nil] at *
  omega
 ·rcases mQa.mp hg with hg|hg
  ·exact x.fr g (List.dropLast_subset _ hg)
  ·rw[List.mem_singleton.mp hg];exact i
 ·rw[List.dropLast_concat] at hg
  exact x.ch g hg
theorem ie.push(x:ie w n h ts vs fs)(hf:fs.getLast? =some f)(d:G9 w h f)(e:f'.room≠-1)(i:BM w h f'):ie w (n+1) h ts vs (fs++ [f']):=by
 refine⟨x.lv,x.vv,?_,fun g hg=> ?_,x.hd.push e,fun g hg=> ?_⟩
 ·have:=x.lf
  simp only[lQa,List.length_cons,List.length_nil]
  omega
 ·rcases mQa.mp hg with hg|hg
  ·exact x.fr g hg
  ·rw[List.mem_singleton.mp hg];exact i
 ·rw[List.dropLast_concat,kY hf] at hg
  rcases mQa.mp hg with hg|hg
  ·exact x.ch g hg
  ·rw[List.mem_singleton.mp hg];exact d
theorem ie.pop{gs:List cD}(x:ie w n h ts vs (gs++ [f2,f])):ie w n h ts vs (gs++ [f2])/\G9 w h f2:=by
 have e:(gs++ [f2,f]).dropLast=gs++ [f2]:=by rw[show gs++ [f2,f]=(gs++ [f2])++ [f] by simp,List.dropLast_concat]
 have hd:=x.ch
 rw[e] at hd
 refine⟨⟨x.lv,x.vv,?_,fun g hg=>x.fr g ?_,x.hd.pop,fun g hg=>hd g ?_⟩,hd f2 (by simp)⟩
 ·have:=x.lf
  simp only[lQa,List.length_cons,List.length_nil] at *
  omega
 ·rcases mQa.mp hg with hg|hg
  ·exact mQa.mpr (.inl hg)
  ·exact mQa.mpr (.inr (by rw[List.mem_singleton.mp hg];simp))
 ·rw[List.dropLast_concat] at hg
  exact mQa.mpr (.inl hg)
theorem ie.vals{nv:List Int}(x:ie w n h ts vs fs)(hl:nv.length=vs.length)(hv:∀v∈nv,0<=v/\v<=9):ie w n h ts nv fs:=⟨by rw[x.lv,hl],hv,x.lf,x.fr,x.hd,x.ch⟩
theorem ie.last(x:ie w n h ts vs fs):∃f,fs.getLast? =some f/\BM w h f:=by
 have:=x.hd
 cases fs with
 |nil=>exact this.elim
 | cons a l=>
   refine⟨_,List.getLast?_eq_some_getLast (by simp),x.fr _ (List.getLast_mem (by simp))⟩
end
theorem iI{w:du}{h:Nat}{f:cD}{pr:List Rw}(hp:progOf w h f=some pr):(f.room= -1/\∃ts,w.hands[h]?=some (ts,pr))\/∃(i j:Nat) (r:Rm) (dn:Str),f.room=i/\f.deed=j/\w.rooms[i]?=some r/\r.deeds[j]?=some (dn,pr):=by
 unfold progOf at hp
 split at hp
 ·rename_i c
  obtain⟨⟨ts,pr'⟩,h1,h2⟩:=oQm.mp hp
  cases h2
  exact .inl ⟨c,ts,h1⟩
 ·split at hp
  ·rename_i c
   obtain⟨r,h1,h2⟩:=bind_some hp
   obtain⟨⟨dn,pr'⟩,h3,h4⟩:=oQm.mp h2
   cases h4
   exact .inr ⟨f.room.toNat,f.deed.toNat,r,dn,by omega,by omega,h1,h3⟩
  ·cases hp
theorem zy{w:du}{h i j:Nat}{f:cD}{r:Rm}{dn:Str}{pr:List Rw}(h1:f.room=i)(h2:f.deed=j)(h3:w.rooms[i]?=some r)(h4:r.deeds[j]?=some (dn,pr)):progOf w h f=some pr:=by
 unfold progOf
 rw[if_neg (by omega),if_pos ⟨by omega,by omega⟩,h1,h2]
 show(w.rooms[i]?).bind _=_
 rw[h3]
 show(r.deeds[j]?).map _=_
 rw[h4]
 rfl
def y7(w:du)(h:Nat)(f:cD):Option Sc:=if f.room= -1 then(w.hands[h]?).map fun p=>⟨true,p.1.map (·.1)++w.shared.map (·.1),p.1.map (·.1)++w.shared.map (·.1),[],aK w.rooms,w.passes.map (·.1)⟩
 else(w.rooms[f.room.toNat]?).map fun r=>⟨false,r.things.map (·.1)++fq,r.things.map (·.1),r.bells.map (·.1),aK w.rooms,[]⟩
theorem B4{w:du}{h:Nat}{f:cD}{pr:List Rw}(o:eQ w)(hp:progOf w h f=some pr):∃sc,y7 w h f=some sc/\qR sc pr:=by
 unfold y7
 rcases iI hp with⟨c,ts,h1⟩|⟨i,j,r,dn,h1,h2,h3,h4⟩
 ·rw[if_pos c,h1]
  exact⟨_,rfl,(o.hd _ (mQg h1)).pr⟩
 ·rw[if_neg (by omega),h1]
  refine⟨_,by rw[show((i:Int)).toNat=i by omega,h3];rfl,((o.rm _ (mQg h3)).pr _ (mQg h4)).1⟩
theorem zP{w:du}(o:eQ w):cB w 1 (dM w) where
 lr:=by simp[dM]
 rm:=fun i r rs h1 h2=>by
  simp only[dM,gQm,h1,Option.map_some,Option.some.injEq] at h2
  subst h2
  have hr:=o.rm r (mQg h1)
  refine⟨by simp[et,eM],by simp[et],fun v hv=> ?_,by simp[et],by simp[et],fun l hl=> ?_⟩
  ·simp only[et,eM,List.mem_map] at hv
   obtain⟨p,hp,rfl⟩:=hv
   have:=hr.tv p hp
   omega
  ·simp only[et,List.mem_map] at hl
   obtain⟨p,hp,rfl⟩:=hl
   simp
 lp:=by simp[dM]
 ps:=fun p hp=>by
  simp only[dM,List.mem_map] at hp
  obtain⟨p,hp,rfl⟩:=hp
  simp
 ls:=by simp[dM,eM]
 sv:=fun v hv=>by
  simp only[dM,eM,List.mem_map] at hv
  obtain⟨p,hp,rfl⟩:=hv
  have:=o.sv p hp
  omega
 lh:=by simp[dM]
 hd:=fun h ts pr vs fs h1 h2=>by
  simp only[dM,gQm,h1,Option.map_some,Option.some.injEq] at h2
  cases h2
  have hr:=o.hd _ (mQg h1)
  refine⟨by simp[eM],fun v hv=> ?_,by simp,fun f hf=> ?_,⟨rfl,fun _ z=>by cases z⟩,fun f hf=>by cases hf⟩
  ·simp only[eM,List.mem_map] at hv
   obtain⟨p,hp,rfl⟩:=hv
   have:=hr.tv p hp
   omega
  ·rw[List.mem_singleton.mp hf]
   refine⟨⟨pr,?_,by decide,?_⟩,by decide,by decide⟩
   ·unfold progOf
    rw[if_pos (show AQ.room= -1 from rfl),h1]
    rfl
   ·show(0:Int)<=_
    omega
section
variable{w:du}{n h:Nat}{s:bu}{vs:List Int}{fs:List cD}{f:cD}{sc:Sc}
theorem cB.whand(x:cB w n s)(hs:s.hands[h]?=some (vs,fs)):∃ts pr,w.hands[h]?=some (ts,pr)/\ie w n h ts vs fs:=by
 have hl:h<w.hands.length:=by rw[x.lh];exact(gQs.mp hs).1
 exact⟨_,_,gQe hl,x.hd h _ _ vs fs (gQe hl) hs⟩
theorem cB.wroom{i:Nat}{r:Rm}(x:cB w n s)(hw:w.rooms[i]?=some r):∃rs,s.rooms[i]?=some rs/\gN n r rs:=by
 have hl:i<s.rooms.length:=by rw[←x.lr];exact(gQs.mp hw).1
 exact⟨_,gQe hl,x.rm i r _ hw (gQe hl)⟩
theorem jy{t:Sc}(hsc:y7 w h f=some t):(f.room= -1/\∃ts pr,w.hands[h]?=some (ts,pr)/\t=⟨true,ts.map (·.1)++w.shared.map (·.1),ts.map (·.1)++w.shared.map (·.1),[],aK w.rooms,w.passes.map (·.1)⟩)∨
  (f.room≠-1/\∃r,w.rooms[f.room.toNat]?=some r/\t=⟨false,r.things.map (·.1)++fq,r.things.map (·.1),r.bells.map (·.1),aK w.rooms,[]⟩):=by
 unfold y7 at hsc
 split at hsc
 ·rename_i c
  obtain⟨⟨ts,pr⟩,h1,h2⟩:=oQm.mp hsc
  exact .inl ⟨c,ts,pr,h1,h2.symm⟩
 ·rename_i c
  obtain⟨r,h1,h2⟩:=oQm.mp hsc
  exact .inr ⟨c,r,h1,h2.symm⟩
theorem j0(x:BM w h f)(c:f.room≠-1):f.room=(f.room.toNat:Int):=by
 obtain⟨pr,hp,_⟩:=x.pr
 rcases iI hp with⟨c',_⟩|⟨i,_,_,_,h1,_⟩
 ·exact absurd c' c
 ·omega
theorem j2{t:Tr}(o:eQ w)(x:cB w n s)(hs:s.hands[h]?=some (vs,fs))(hf:fs.getLast? =some f)(hsc:y7 w h f=some sc)(ht:A5 sc t):∃v,(0<=v/\v<=9)/\xH w s h t v:=by
 obtain⟨ts,pr,hw,hi⟩:=x.whand hs
 have o2:=o.hd _ (mQg hw)
 have fi:=hi.fr f (List.mem_of_getLast? hf)
 have b3:=o.l3
 have b4:=o2.l1
 have ls:=x.ls
 rcases jy hsc with⟨c,ts',pr',hw',rfl⟩|⟨c,r,hr,rfl⟩
 ·rw[hw] at hw'
  cases hw'
  have nine:jU (zw w s ts vs):=jU.merge (gc x.sv) (gc hi.vv)
  refine⟨wX (numAt (zw w s ts vs)) (fun _=>0) t,?_,fun S Q q=>uN hw hs hf c ls hi.lv (by omega) (by dsimp only at b4;omega) x.sv hi.vv ht.1 (by have:=ht.2;omega) q⟩
  refine j3 (ws:=ts.map (·.1)++w.shared.map (·.1)) (bs:= []) (fun y hy=> ?_) ht.1
  refine(lR nine (fI ?_)).2
  rcases mQa.mp hy with hy|hy
  ·exact .inr (fX hi.lv hy)
  ·exact .inl (fX ls hy)
 ·obtain⟨rs,hsr,ri⟩:=x.wroom hr
  have orm:=o.rm r (mQg hr)
  have b5:=orm.l1
  have b6:=orm.l2
  have nine:jU (tT r rs f.given):=(gc ri.vv).put fi.gv.1 fi.gv.2
  refine⟨wX (numAt (tT r rs f.given)) (wL r rs) t,?_,fun S Q q=>rG hs hf (j0 fi c) hr hsr ri.lv ri.lb (by omega) (by omega) ri.vv fi.gv ht.1 (by have:=ht.2;omega) q⟩
  refine j3 (ws:=r.things.map (·.1)++fq) (bs:=r.bells.map (·.1)) (fun y hy=> ?_) ht.1
  refine(lR nine (jY ?_)).2
  rcases mQa.mp hy with hy|hy
  ·exact .inr (fX ri.lv hy)
  ·left
   rw[List.mem_singleton.mp hy]
theorem kK{ns:List Str}{y:Str}{v:Int}{us:List Int}(h1:∀v∈us,0<=v/\v<=9)(h2:0<=v/\v<=9):(eG ns us y v).length=us.length/\∀u∈eG ns us y v,0<=u/\u<=9:=by
 unfold eG
 refine⟨by simp,fun z hz=> ?_⟩
 rcases List.mem_or_eq_of_mem_set hz with hz|rfl
 ·exact h1 z hz
 ·exact h2
theorem yR{y:Str}{v:Int}(o:eQ w)(x:cB w n s)(hs:s.hands[h]?=some (vs,fs))(hf:fs.getLast? =some f)(hsc:y7 w h f=some sc)(hy:y∈sc.ps)(hv:0<=v/\v<=9):∃s',Puts w s h y v s'/\cB w n s':=by
 obtain⟨ts,pr,hw,hi⟩:=x.whand hs
 have o2:=o.hd _ (mQg hw)
 have fi:=hi.fr f (List.mem_of_getLast? hf)
 have b1:=o.l1
 have b3:=o.l3
 have b4:=o2.l1
 have b7:=o.l4
 have lr:=x.lr
 have lh:=x.lh
 rcases jy hsc with⟨c,ts',pr',hw',rfl⟩|⟨c,r,hr,rfl⟩
 ·rw[hw] at hw'
  cases hw'
  refine⟨uD w s h ts vs fs y v,fun S Q q=>Cp hw hs hf c x.ls hi.lv (by omega) (by dsimp only at b4;omega) (by omega) hy q,?_⟩
  unfold uD
  split
  ·obtain⟨k1,k2⟩:=kK (ns:=w.shared.map (·.1)) (y:=y) x.sv hv
   exact x.share k1 k2
  ·obtain⟨k1,k2⟩:=kK (ns:=ts.map (·.1)) (y:=y) hi.vv hv
   exact x.hand hw (hi.vals k1 k2)
 ·obtain⟨rs,hsr,ri⟩:=x.wroom hr
  have orm:=o.rm r (mQg hr)
  have b5:=orm.l1
  refine⟨_,fun S Q q=>AF hs hf (j0 fi c) hr hsr ri.lv (by omega) (by omega) hy q,?_⟩
  obtain⟨k1,k2⟩:=kK (ns:=r.things.map (·.1)) (y:=y) ri.vv hv
  exact x.room hr ⟨by rw[ri.lv,←k1],ri.lb,k2,ri.br,ri.bl,ri.bb⟩
theorem cB.goes{m:Int}{pr:List Rw}(x:cB w n s)(hs:s.hands[h]?=some (vs,fs))(hf:fs.getLast? =some f)(hp:progOf w h f=some pr)(h0:0<=m)(h1:m<=pr.length):cB w n {s with hands:=s.hands.set h (vs,fs.dropLast++ [{f with row:=m}])}:=by
 obtain⟨ts,pr',hw,hi⟩:=x.whand hs
 have fi:=hi.fr f (List.mem_of_getLast? hf)
 exact x.hand hw (hi.setLast hf rfl ⟨⟨pr,hp,h0,h1⟩,fi.gv,fi.tv⟩)
theorem cB.tells{v:Int}(x:cB w n s)(hs:s.hands[h]?=some (vs,fs))(hf:fs.getLast? =some f)(hv:0<=v/\v<=9):cB w n {s with hands:=s.hands.set h (vs,fs.dropLast++ [{f with told:=v}])}:=by
 obtain⟨ts,pr',hw,hi⟩:=x.whand hs
 have fi:=hi.fr f (List.mem_of_getLast? hf)
 exact x.hand hw (hi.setLast hf rfl ⟨fi.pr,fi.gv,hv⟩)
theorem gN.come{r:Rm}{rs:eI}{k:Int}(x:gN n r rs):gN (n+1) r (q_ rs k):=by
 unfold q_
 have:=x.br
 split
 ·exact⟨x.lv,x.lb,x.vv,by show rs.row.length<=_;omega,Nat.le_succ_of_le x.bl,fun l hl=>Nat.le_succ_of_le (x.bb l hl)⟩
 ·exact⟨x.lv,x.lb,x.vv,by simp;omega,Nat.le_succ_of_le x.bl,fun l hl=>Nat.le_succ_of_le (x.bb l hl)⟩
theorem gN.leave{r:Rm}{rs:eI}(x:gN n r rs):gN n r (g9 rs):=by
 obtain⟨vals,within,row,late,bells⟩:=rs
 have h1:=x.br
 have h2:=x.bl
 unfold g9
 dsimp only at h1 h2⊢
 cases late with
 |cons a l=>exact⟨x.lv,x.lb,x.vv,x.br,by simp at h2;show l.length<=n;omega,x.bb⟩
 | nil=>
   cases row with
   |cons a l=>exact⟨x.lv,x.lb,x.vv,by simp at h1;show l.length<=n;omega,x.bl,x.bb⟩
   |nil=>exact⟨x.lv,x.lb,x.vv,x.br,x.bl,x.bb⟩
theorem gN.line{r:Rm}{rs:eI}{b:Nat}{l:List (Int×Int)}(x:gN n r rs)(hl:l.length<=n):gN n r {rs with bells:=rs.bells.set b l}:=⟨x.lv,by simp;exact x.lb,x.vv,x.br,x.bl,fun k hk=>by
 rcases List.mem_or_eq_of_mem_set hk with hk|rfl
 ·exact x.bb k hk
 ·exact hl⟩
theorem gN.call{r:Rm}{rs:eI}{b:Nat}{k:Int}{fr:Bool}(x:gN n r rs):gN (n+1) r (vd fr rs b k):=by
 unfold vd
 split
 ·rename_i p l e
  have hl:=x.bb _ (mQg e)
  have y:=(x.mono (Nat.le_succ n)).line (b:=b) (l:=l) (by simp at hl;omega)
  have z:=x.bl
  split
  ·exact y
  ·exact⟨y.lv,y.lb,y.vv,y.br,by simp;omega,y.bb⟩
 ·exact x.mono (Nat.le_succ n)
theorem AH{l:List (Int×Int)}{a b:Int}:(Dw l a b).length=l.length+1:=by
 unfold Dw
 have:=List.length_filter_le (fun p:Int×Int=>decide (p.1<=a)) l
 simp only[lQa,List.length_take,List.length_drop,List.length_cons,List.length_nil]
 omega
theorem Dc{rn dn:Str}(o:eQ w)(hg:(rn,dn)∈aK w.rooms):rn∈w.rooms.map (·.name)/\∃r,w.rooms[fO (w.rooms.map (·.name)) rn]?=some r/\dn∈r.deeds.map (·.1):=by
 unfold aK at hg
 obtain⟨r,hr,hd⟩:=List.mem_flatMap.mp hg
 obtain⟨p,hp,e⟩:=List.mem_map.mp hd
 cases e
 have hm:r.name∈w.rooms.map (·.name):=List.mem_map.mpr ⟨r,hr,rfl⟩
 refine⟨hm,r,?_,List.mem_map.mpr ⟨p,hp,rfl⟩⟩
 obtain⟨h1,h2⟩:=k0 hm
 obtain⟨i,hi,e⟩:=List.getElem_of_mem hr
 have e2:(w.rooms.map (·.name))[i]?=some r.name:=by rw[gQm,gQe hi,e];rfl
 rw[jw o.nd h2 e2,gQe hi,e]
theorem yq{r:Rw}{pr:List Rw}(o:eQ w)(x:cB w n s)(hn:n<=100)(hs:s.hands[h]?=some (vs,fs))(hf:fs.getLast? =some f)(hp:progOf w h f=some pr)(h1:1<=f.row)(hrow:pr[(f.row-1).toNat]?=some r):∃s',D0 w s h r s'/\cB w (n+1) s':=by
 obtain⟨sc,hsc,hok⟩:=B4 o hp
 have rok:=hok r (mQg hrow)
 obtain⟨ts,pr',hw,hi⟩:=x.whand hs
 have fi:=hi.fr f (List.mem_of_getLast? hf)
 have b1:=o.l1
 have b2:=o.l2
 have b3:=o.l3
 have b4:=o.l4
 have lr:=x.lr
 have lp:=x.lp
 have lh:=x.lh
 have lf:=hi.lf
 have x1:=x.mono (Nat.le_succ n)
 have inRoom:sc.own=false->∃(i:Nat) (r:Rm) (rs:eI),f.room=i/\w.rooms[i]?=some r/\s.rooms[i]?=some rs/\gN n r rs/\uI (aK w.rooms) r/\sc.bs=r.bells.map (·.1):=fun ho=>by
  rcases jy hsc with⟨c,ts',pr',hw',rfl⟩|⟨c,r,hr,rfl⟩
  ·cases ho
  ·obtain⟨rs,hsr,ri⟩:=x.wroom hr
   exact⟨_,r,rs,j0 fi c,hr,hsr,ri,o.rm r (mQg hr),rfl⟩
 have onOwn:sc.own=true->sc.ts=w.passes.map (·.1):=fun ho=>by
  rcases jy hsc with⟨c,ts',pr',hw',rfl⟩|⟨c,r,hr,rfl⟩
  ·rfl
  ·cases ho
 have passAt:∀y,y∈w.passes.map (·.1)->∀ps:List (Int×List Int),w.passes.length=ps.length->∃p,ps[fO (w.passes.map (·.1)) y]?=some p:=fun y hy ps hl=>by
  have:=(k0 hy).1
  rw[lQm] at this
  exact⟨_,gQe (by omega)⟩
 have takeL:∀p:Int×List Int,p.2.length<=n->(lB p h).2.length<=n+1:=fun p hp=>by
  unfold lB
  split
  ·show p.2.length<=_;omega
  ·simp;omega
 have giveL:∀p:Int×List Int,p.2.length<=n->(jJ p).2.length<=n:=fun p hp=>by
  obtain⟨v,l⟩:=p
  unfold jJ
  cases l with
  |nil=>simp
  |cons a l=>simp at hp;show l.length<=n;omega
 cases r with
 | put y t=>
   obtain⟨v,hv,hr⟩:=j2 o x hs hf hsc rok.2
   obtain⟨s',hp',hi'⟩:=yR o x hs hf hsc rok.1 hv
   exact⟨s',fun S Q q=>zD hr hp' q,hi'.mono (Nat.le_succ n)⟩
 | unl t m=>
   obtain⟨v,hv,hr⟩:=j2 o x hs hf hsc rok.1
   refine⟨_,fun S Q q=>uH hr hs hf (by omega) (by omega) q,?_⟩
   split
   · exact x1.goes hs hf hp (by omega) (by have:=rok.2;omega)
   · exact x1
 |go m=>exact⟨_,fun S Q q=>AK hs hf (by omega) (by omega) q,x1.goes hs hf hp (by omega) (by have:m<=pr.length:=rok;omega)⟩
 | do_ g rn dn t=>
   obtain⟨v,hv,hr⟩:=j2 o x hs hf hsc rok.2.2
   have hgs:sc.gs=aK w.rooms:=by
     rcases jy hsc with⟨c,ts',pr',hw',rfl⟩|⟨c,r,hr,rfl⟩ <;>rfl
   have hgo:=rok.2.1
   rw[hgs] at hgo
   obtain⟨hrn,r,hwr,hdn⟩:=Dc o hgo
   obtain⟨rs,hsr,ri⟩:=x.wroom hwr
   have orm:=o.rm r (mQg hwr)
   have b5:=orm.l3
   have b6:=ri.br
   refine⟨_,fun S Q q=>BU hr hs hrn hwr hsr hdn (by omega) (by omega) (by omega) (by omega) (by omega) (by omega) q,?_⟩
   have hlt:=k0 hdn
   have hdl:=hlt.1
   rw[lQm] at hdl
   obtain⟨⟨dn',pr2⟩,hd2⟩:∃p,r.deeds[fO (r.deeds.map (·.1)) dn]?=some p:=⟨_,gQe hdl⟩
   have pf:progOf w h ⟨(fO (w.rooms.map (·.name)) rn:Nat),(fO (r.deeds.map (·.1)) dn:Nat),0,v,0⟩=some pr2:=zy rfl rfl hwr hd2
   have hh:=hi.push (f':=⟨(fO (w.rooms.map (·.name)) rn:Nat),(fO (r.deeds.map (·.1)) dn:Nat),0,v,0⟩) hf ⟨pr,g,rn,dn,t,hp,h1,hrow⟩ (by show((fO (w.rooms.map (·.name)) rn:Nat):Int)≠-1;omega) ⟨⟨pr2,pf,by show(0:Int)<=0;omega,by show(0:Int)<=_;omega⟩,hv,by show(0:Int)<=0/\(0:Int)<=9;omega⟩
   exact(x1.hand hw hh).room hwr ri.come
 | wait y t=>
   obtain⟨i,r,rs,hri,hwr,hsr,ri,orm,hbs⟩:=inRoom rok.1
   obtain⟨v,hv,hr⟩:=j2 o x hs hf hsc rok.2.2
   have hy:=rok.2.1
   rw[hbs] at hy
   have b6:=orm.l2
   have lb:=ri.lb
   obtain⟨k1,k2⟩:=k0 hy
   rw[lQm] at k1
   rw[gQm] at k2
   obtain⟨⟨y',so⟩,k3,k4⟩:=oQm.mp k2
   have k4:y'=y:=k4
   subst k4
   obtain⟨line,hl⟩:∃l,rs.bells[fO (r.bells.map (·.1)) y']?=some l:=⟨_,gQe (by omega)⟩
   have ll:=ri.bb line (mQg hl)
   refine⟨_,fun S Q q=>xi hs hf hri hwr hsr (by omega) lb (by omega) hy k3 hl (by omega) hr q,?_⟩
   exact x1.room hwr (((ri.mono (Nat.le_succ n)).line (by rw[AH];omega)).leave)
 | call y=>
   obtain⟨i,r,rs,hri,hwr,hsr,ri,orm,hbs⟩:=inRoom rok.1
   have hy:=rok.2
   rw[hbs] at hy
   have b6:=orm.l2
   have b7:=ri.bl
   refine⟨_,fun S Q q=>ya hs hf hri hwr hsr (by omega) ri.lb (by omega) (by omega) hy q,?_⟩
   exact x1.room hwr ri.call
 | all y=>
   obtain⟨i,r,rs,hri,hwr,hsr,ri,orm,hbs⟩:=inRoom rok.1
   have hy:=rok.2
   rw[hbs] at hy
   have b6:=orm.l2
   refine⟨_,fun S Q q=>z3 hs hf hri hwr hsr (by omega) ri.lb (by omega) hy q,?_⟩
   exact x1.room hwr ((ri.mono (Nat.le_succ n)).line (by simp))
 | tell t=>
   obtain⟨v,hv,hr⟩:=j2 o x hs hf hsc rok.2
   exact⟨_,fun S Q q=>xj hr hs hf (by omega) (by omega) q,x1.tells hs hf hv⟩
 | take y=>
   have hy:=rok.2
   rw[onOwn rok.1] at hy
   obtain⟨p,hp'⟩:=passAt y hy s.passes lp
   have pl:=x.ps p (mQg hp')
   exact⟨_,fun S Q q=>xG hy hp' (by omega) (by omega) (by omega) q,x1.pass (takeL p pl)⟩
 | give y=>
   have hy:=rok.2
   rw[onOwn rok.1] at hy
   obtain⟨p,hp'⟩:=passAt y hy s.passes lp
   have pl:=x.ps p (mQg hp')
   exact⟨_,fun S Q q=>xA hy hp' (by omega) (by omega) q,x1.pass (Nat.le_succ_of_le (giveL p pl))⟩
 | pass y z=>
   have hy:=rok.2.1
   have hz:=rok.2.2
   rw[onOwn rok.1] at hy hz
   obtain⟨p,hp'⟩:=passAt y hy s.passes lp
   have pl:=x.ps p (mQg hp')
   have x2:cB w n _:=x.pass (i:=fO (w.passes.map (·.1)) y) (giveL p pl)
   obtain⟨p2,hp2⟩:=passAt z hz (s.passes.set (fO (w.passes.map (·.1)) y) (jJ p)) (by simpa using lp)
   have pl2:=x2.ps p2 (mQg hp2)
   refine⟨_,fun S Q q=>xh hy hz hp' (by omega) (by omega) (by omega) hp2 q,(x2.mono (Nat.le_succ n)).pass (takeL p2 pl2)⟩
 |say t=>exact⟨s,fun S Q q=>zI (sd:=.non) q,x1⟩
end
section
variable{w:du}{n h:Nat}{s:bu}{vs:List Int}{fs:List cD}{f:cD}{sc:Sc}
theorem cB.mays(o:eQ w)(x:cB w n s)(hn:n<=100):EU w s:=by
 have b1:=o.l1
 have b2:=o.l2
 have b4:=o.l4
 have lr:=x.lr
 have lp:=x.lp
 have lh:=x.lh
 refine v7 (fun S Q q=>m5 hn (by omega) (by omega) x.ps (fun rs hrs=> ?_) q) (fun h hh=> ?_) (by omega)
 ·obtain⟨i,hi,e⟩:=List.getElem_of_mem hrs
  have hs:s.rooms[i]?=some rs:=by rw[gQe hi,e]
  have hw:w.rooms[i]?=some (w.rooms[i]'(by omega)):=gQe (by omega)
  have ri:=x.rm i _ rs hw hs
  have:=(o.rm _ (mQg hw)).l2
  have:=ri.lb
  exact⟨ri.br,ri.bl,by omega,ri.bb⟩
 ·obtain⟨⟨vs,fs⟩,hs⟩:∃p,s.hands[h]?=some p:=⟨_,gQe hh⟩
  obtain⟨ts,pr,hw,hi⟩:=x.whand hs
  obtain⟨f,hf,fi⟩:=hi.last
  obtain⟨pr',hp,_⟩:=fi.pr
  exact⟨vs,fs,f,pr',hs,hf,hp⟩
def Rw.isSay:Rw->Bool
 |.say _=>true
 |_=>false
def sO(w:du)(h:Nat)(f:cD):Bool:=decide (f.room<0)&&match (w.hands[h]?).bind fun p=>p.2[f.row.toNat]? with
 |some r=>r.isSay
 |none=>false
theorem C7(o:eQ w)(x:cB w n s)(hn:n<=100)(hm:h∈qW w s)(hs:s.hands[h]?=some (vs,fs))(hf:fs.getLast? =some f):∃s' e,vU w s h s' e/\cB w (n+1) s'/\e.isSome=sO w h f/\∀v,e=some v->0<=v/\v<=9:=by
 obtain⟨ts,prh,hw,hi⟩:=x.whand hs
 have fi:=hi.fr f (List.mem_of_getLast? hf)
 obtain⟨pr,hp,hr0,hr1⟩:=fi.pr
 have b1:=o.l1
 have b4:=o.l4
 have lr:=x.lr
 have lh:=x.lh
 have lf:=hi.lf
 have nb:¬(f.room= -1/\f.row=pr.length):=by
  rintro⟨c1,c2⟩
  have:=(List.mem_filter.mp hm).2
  rw[Bool.and_eq_true] at this
  have hb:vM w s h=true:=by
   unfold vM B0
   rw[hs]
   show(match fs.getLast? with|some f=>_|none=>_)=_
   rw[hf]
   simp only[hp,Option.getD_some,c1,c2,decide_true,Bool.and_true]
  rw[hb] at this
  exact absurd this.2 (by decide)
 by_cases c:f.room= -1
 ·
  have hp':pr=prh:=by
   unfold progOf at hp
   rw[if_pos c,hw] at hp
   cases hp;rfl
  subst hp'
  have hlt:f.row.toNat<pr.length:=by
   have:f.row≠pr.length:=fun z=>nb ⟨c,z⟩
   omega
  have hrow:pr[f.row.toNat]?=some (pr[f.row.toNat]):=gQe hlt
  generalize pr[f.row.toNat]=r at hrow
  obtain⟨sc,hsc,hok⟩:=B4 o hp
  have rok:=hok r (mQg hrow)
  have hsb:sO w h f=r.isSay:=by
   unfold sO
   rw[hw]
   show(decide (f.room<0)&&match pr[f.row.toNat]? with|some r=>r.isSay|none=>false)=_
   rw[hrow,decide_eq_true (by omega)]
   rfl
  have says:∃e,ET w s h r e/\e.isSome=sO w h f/\∀v,e=some v->0<=v/\v<=9:=by
   rw[hsb]
   cases r with
   | say t=>
     obtain⟨v,hv,hr⟩:=j2 o x hs hf hsc rok.2
     exact⟨some v,⟨v,rfl,hr⟩,rfl,fun u hu=>by cases hu;exact hv⟩
   |_=>exact⟨none,rfl,rfl,fun u hu=>by cases hu⟩
  obtain⟨e,he,h1,h2⟩:=says
  have x2:=x.goes hs hf hp (m:=f.row+1) (by omega) (by omega)
  have hl:h<s.hands.length:=(gQs.mp hs).1
  obtain⟨s',hd,hi'⟩:=yq (f:={f with row:=f.row+1}) (r:=r) (pr:=pr) o x2 hn (List.getElem?_set_self hl) (by simp) hp (by show 1<=f.row+1;omega) (by show pr[(f.row+1-1).toNat]?=_;rw[show f.row+1-1=f.row by omega];exact hrow)
  exact⟨s',e,wc hs hf (.inl c) hp hr0 hrow (by omega) (by omega) he hd,hi',h1,h2⟩
 ·
  have hsb:sO w h f=false:=by
   unfold sO
   have:=j0 fi c
   rw[decide_eq_false (by omega)]
   rfl
  rcases iI hp with⟨c',_⟩|⟨i,j,r,dn,h1,h2,h3,h4⟩
  ·exact absurd c' c
  obtain⟨rs,hsr,ri⟩:=x.wroom h3
  have br:=ri.br
  by_cases cw:rs.within=h
  ·have here:Here s h f:=.inr ⟨i,rs,h1,hsr,cw⟩
   by_cases ce:f.row=pr.length
   ·
    have hsp:=kY hf
    have hd:=hi.hd
    rw[hsp] at hd
    obtain⟨gs,f2,hg⟩:=hd.two c
    have hfs:fs=gs++ [f2,f]:=by rw[hsp,hg];simp
    subst hfs
    obtain⟨hi2,did⟩:=hi.pop
    obtain⟨pr2,g,rn,dn2,t,p1,p2,p3⟩:=did
    have x2:cB w n {s with rooms:=s.rooms.set i (g9 rs),hands:=s.hands.set h (vs,gs++ [f2])}:=(x.hand hw hi2).room h3 ri.leave
    obtain⟨sc,hsc,hok⟩:=B4 o p1
    have rok:=hok _ (mQg p3)
    have hl:h<s.hands.length:=(gQs.mp hs).1
    cases g with
    | none=>
      refine⟨_,none,vX hs hf here hp ce fun S Q q=>nY hs h1 hsr (by omega) (by omega) p1 p2 p3 (fun _ e=>e.symm) q,x2.mono (Nat.le_succ n),by rw[hsb];rfl,fun v hv=>by cases hv⟩
    | some y=>
      obtain⟨s',hp',hi'⟩:=yR (y:=y) (v:=f.told) o x2 (List.getElem?_set_self hl) (by simp) hsc (rok.1 y rfl) fi.tv
      refine⟨s',none,vX hs hf here hp ce fun S Q q=>nY hs h1 hsr (by omega) (by omega) p1 p2 p3 (fun _ e=>by rw[e];exact hp') q,hi'.mono (Nat.le_succ n),by rw[hsb];rfl,fun v hv=>by cases hv⟩
   ·
    have hlt:f.row.toNat<pr.length:=by omega
    have hrow:pr[f.row.toNat]?=some (pr[f.row.toNat]):=gQe hlt
    generalize pr[f.row.toNat]=r' at hrow
    have rok:=((o.rm _ (mQg h3)).pr _ (mQg h4)).1 r' (mQg hrow)
    have he:ET w s h r' none:=by
     cases r' with
     |say t=>exact absurd rok.1 (show¬(false=true) by decide)
     |_=>rfl
    have x2:=x.goes hs hf hp (m:=f.row+1) (by omega) (by omega)
    have hl:h<s.hands.length:=(gQs.mp hs).1
    obtain⟨s',hd,hi'⟩:=yq (f:={f with row:=f.row+1}) (r:=r') (pr:=pr) o x2 hn (List.getElem?_set_self hl) (by simp) hp (by show 1<=f.row+1;omega) (by show pr[(f.row+1-1).toNat]?=_;rw[show f.row+1-1=f.row by omega];exact hrow)
    exact⟨s',none,wc hs hf here hp hr0 hrow (by omega) (by omega) he hd,hi',by rw[hsb];rfl,fun v hv=>by cases hv⟩
  ·
   exact⟨_,none,zC hs hf h1 hsr cw (by omega) (by omega),(x.mono (Nat.le_succ n)).room h3 ri.come,by rw[hsb];rfl,fun v hv=>by cases hv⟩
end
end W28
namespace DL
open PySem PySem.Spec L2
section
variable{Γ:cE}{S:aA}
theorem GN{f:eR}{Q:D->aA->Prop}(h:E f Γ S fun p S1=>p.2.isL=true/\∃bs,Fq p.1=some bs/\Q (.bl (bs.all id)) S1):E (CB f) Γ S Q:=by
 obtain⟨p,S1,e1,l,bs,e2,q⟩:=h
 exact⟨_,S1,by unfold CB;rw[e1];simp only[Option.bind_some];rw[if_pos l,e2];rfl,q⟩
theorem BR{i j:Int}{Q:D->Prop}(h:Az i j)(q:Q (.int (i^j.toNat))):Op (uB S (.int i) (.int j)) Q:=⟨_,by simp only[uB,intD];rw[if_pos h],q⟩
theorem Fh{i j:Int}{Q:D->Prop}(h:IntMulOk i j)(q:Q (.int (i*j))):Op (kO S (.int i) (.int j)) Q:=⟨_,by simp only[kO,intD];rw[if_pos h],q⟩
end
theorem wx:∀n:Nat,Fq (List.replicate n (.bl true))=some (List.replicate n true)
 |0=>rfl
 |n+1=>by simp only[List.replicate_succ,Fq];rw[wx n];rfl
end DL
namespace W28
open PySem PySem.Spec L2 DL
section
variable{S S0:aA}{Q:Res->aA->Prop}
theorem zp(l:List Nat):l.map vo=(l.map fun h:Nat=>(h:Int)).map D.int:=by rw[List.map_map];rfl
theorem iD{l:List Nat}:∀d∈l.map vo,(∀k,d≠.ref k)/\bJ 0 d=true:=fun d hd=>by
 obtain⟨a,_,rfl⟩:=List.mem_map.mp hd
 exact⟨fun k z=>(nomatch z),rfl⟩
theorem CW{k i:Nat}{l:List Nat}{last:Int}(x:Ex k S0 S)(hi:i≠k)(hS:S[i]?=some (.lst (l.map vo)))(h0:0<l.length)(h1:l.length<1000)
  (h:∀(m:Nat) (S':aA),m∈l->Ex k S0 S'->Ex k S S'->S'.length=S.length->Q (.d (.int m)) S'):Fn iX [.ref k,.ref i,.int last] S Q:=by
 have y:Ex k S S:=by obtain⟨a,b,c,hh⟩:=x.pot;exact Ex.refl hh
 have pick:∀S1,Ex k S S1->S1.length=S.length->T (b9 (ao aZ (ae (af 0) (ae (af 1) ai)))) [some (.ref k),some (.ref i),some (.int last)] S1 (fun o=>match o with
   |.nx _ S'=>Op (settle S .non S') fun p=>Q p.1 p.2|.rt d S'=>Op (settle S d S') fun p=>Q p.1 p.2|.rl l S'=>Op (dD S l S') fun p=>Q p.1 p.2|_=>False):=fun S1 y1 hl=>by
  symm
  refine eA (xs:=l.map vo) y1 hi (y1.keep _ _ hi hS) (by simpa using h0) (by simpa using h1) iD (fun d hd=>da (iD d hd).2) fun d S' hd e1 e2 hl2=> ?_
  obtain⟨m,hm,rfl⟩:=List.mem_map.mp hd
  dsimp only
  refine i_ e1 x.lt (iD _ hd).1 (da (iD _ hd).2) fun a b c=> ?_
  exact h m _ hm x.set y.set (by simp)
 refine bF ?_
 unfold pW
 refine bC (dU (uh (fo (t_ ?_))))
 symm
 refine bR hS ?_
 refine⟨_,_,rfl,by rw[zp];exact cP _,?_⟩
 rw[iO]
 show if decide (last∈l.map fun h:Nat=>(h:Int))=true then _ else _
 by_cases c:last∈l.map fun h:Nat=>(h:Int)
 ·rw[decide_eq_true c,if_pos rfl]
  obtain⟨m,hm,rfl⟩:=List.mem_map.mp c
  symm
  refine bz y (by decide) (by decide) fun d S' hd e1 e2 hl2=> ?_
  symm
  refine dj ?_
  dsimp only
  by_cases c2:(d:Int)=0
  ·rw[decide_eq_true c2,if_pos rfl]
   symm
   refine i_ e1 x.lt (fun k z=>(nomatch z)) rfl fun a b c=> ?_
   exact h m _ hm x.set y.set (by simp)
  ·rw[decide_eq_false c2,if_neg (by decide)]
   refine cp ?_
   exact pick S' e1 hl2
 ·rw[decide_eq_false c,if_neg (by decide)]
  rw[if_neg (by decide)]
  refine cp ?_
  exact pick S y rfl
end
end W28
namespace DL
open PySem PySem.Spec L2
theorem yn{α:Type}(d:α):∀n:Nat,(List.replicate n [d]).flatten=List.replicate n d
 |0=>rfl
 |n+1=>by rw[List.replicate_succ,List.replicate_succ,List.flatten_cons,yn d n];rfl
theorem t7{Γ:cE}{S:aA}{f:eR}{g:bq}{Q:List D->aA->Prop}(h:E f Γ S fun p S1=>E g Γ S1 fun r S2=>∃(n:Nat) (d:D),r=.int n/\p.1= [d]/\(p.2.isM=true/\p.2.stays S2 p.1/\n<=1000)/\Q (List.replicate n d) S2):E (rq f g) Γ S Q:=by
 obtain⟨p,S1,e1,r,S2,e2,n,d,rfl,h0,⟨h1,h2,h3⟩,q⟩:=h
 refine⟨_,S2,?_,q⟩
 unfold rq
 rw[e1]
 simp only[Option.bind_some]
 rw[e2]
 simp only[Option.bind_some]
 rw[if_pos ⟨h1,h2,by omega,by omega,by rw[h0];simp only[List.length_cons,List.length_nil,Int.toNat_natCast];exact nQl (bh (by omega))⟩]
 rw[h0,show((n:Int)).toNat=n by omega,yn]
theorem zip_map{α β:Type}(f:α->D)(g:β->D):∀(xs:List α) (ys:List β),rT (xs.map f) (ys.map g)=(xs.zip ys).map fun p=>D.tup [f p.1,g p.2]
 | [],_=>rfl
 |_::_,[]=>rfl
 | x::xs,y::ys=>by
   have:=zip_map f g xs ys
   simp only[rT,List.map_cons,List.zipWith_cons_cons,List.zip_cons_cons] at this⊢
   rw[this]
end DL
namespace W28
open PySem PySem.Spec L2 DL
def jj(l:List Int)(h:Int):Nat:=(l.map V.int).countP fun z=>kf z (.int h)
theorem mv{l:List Int}{h:Int}:jj l h<=l.length:=by
 unfold jj
 refine Nat.le_trans (List.countP_le_length ..) ?_
 simp
theorem fY{l:List Int}{h:Int}:jj l h=0↔h∉l:=by
 induction l with
 |nil=>simp[jj]
 | cons a l ih=>
   unfold jj at ih⊢
   rw[List.map_cons,List.countP_cons]
   by_cases c:a=h
   · subst c
     simp[kf]
   · have c':¬h=a:=fun z=>c z.symm
     have e:kf (.int a) (.int h)=false:=by simp[kf,c]
     rw[e]
     simp only[List.mem_cons,not_or,c',not_false_eq_true,true_and]
     simpa using ih
def jf(h:Nat)(p:(Str×Nat)×(Int×List Int)):List D:=List.replicate (jj p.2.2 h) (.tup [.str "pass",.str p.1.1])
def jS(h:Nat)(nm:Str)(p:(Str×Str)×List (Int×Int)):List D:=List.replicate (p.2.filter fun q=>decide (q.2=(h:Int))).length (.tup [.str "bell",.str nm,.str p.1.1])
def jd(h:Nat)(p:Rm×eI):List D:=List.replicate (jj p.2.row h) (.tup [.str "row",.str p.1.name])++List.replicate (jj p.2.late h) (.tup [.str "late",.str p.1.name])
def fm(h:Nat)(p:Rm×eI):List D:=jd h p++(p.1.bells.zip p.2.bells).flatMap (jS h p.1.name)
def dr(w:du)(s:bu)(h:Nat):List D:=(w.passes.zip s.passes).flatMap (jf h)++(w.rooms.zip s.rooms).flatMap (fm h)
theorem oY{n:Nat}{d:D}(h:bJ 0 d=true):∀x∈List.replicate n d,bJ 0 x=true:=fun x hx=>by rw[List.eq_of_mem_replicate hx];exact h
theorem nh(w:du)(s:bu)(h:Nat):bG 0 (dr w s h)=true:=by
 refine oU fun d hd=> ?_
 unfold dr at hd
 rcases mQa.mp hd with hd|hd
 ·obtain⟨p,_,hp⟩:=List.mem_flatMap.mp hd
  exact oY rfl d hp
 ·obtain⟨p,_,hp⟩:=List.mem_flatMap.mp hd
  unfold fm jd at hp
  rcases mQa.mp hp with hp|hp
  ·rcases mQa.mp hp with hp|hp
   ·exact oY rfl d hp
   ·exact oY rfl d hp
  ·obtain⟨q,_,hq⟩:=List.mem_flatMap.mp hp
   exact oY rfl d hq
section
variable{w:du}{n:Nat}{s:bu}{S:aA}{Q:Res->aA->Prop}
theorem cB.zroom(x:cB w n s){j:Nat}{p:Rm×eI}(h:(w.rooms.zip s.rooms)[j]?=some p):w.rooms[j]?=some p.1/\s.rooms[j]?=some p.2/\gN n p.1 p.2:=by
 rw[List.getElem?_zip_eq_some] at h
 exact⟨h.1,h.2,x.rm j _ _ h.1 h.2⟩
theorem sH(x:cB w n s){h:Nat}{p:(Str×Nat)×(Int×List Int)}(hp:p∈w.passes.zip s.passes):(jf h p).length<=n:=by
 have:=x.ps p.2 (List.of_mem_zip (show(p.1,p.2)∈_ from hp)).2
 unfold jf
 rw[List.length_replicate]
 exact Nat.le_trans mv this
theorem sk{h:Nat}{p:Rm×eI}(ri:gN n p.1 p.2):(jd h p).length<=2*n:=by
 have h1:=ri.br
 have h2:=ri.bl
 have h3:=mv (l:=p.2.row) (h:=h)
 have h4:=mv (l:=p.2.late) (h:=h)
 unfold jd
 simp only[lQa,List.length_replicate]
 omega
theorem tP{h:Nat}{nm:Str}{p:Rm×eI}(ri:gN n p.1 p.2){q:(Str×Str)×List (Int×Int)}(hq:q∈p.1.bells.zip p.2.bells):(jS h nm q).length<=n:=by
 have:=ri.bb q.2 (List.of_mem_zip (show(q.1,q.2)∈_ from hq)).2
 have h2:=List.length_filter_le (fun q:Int×Int=>decide (q.2=(h:Int))) q.2
 unfold jS
 rw[List.length_replicate]
 omega
theorem pT(o:eQ w)(x:cB w n s)(hn:n<=100){h m:Nat}{p:Rm×eI}{j:Nat}(hp:(w.rooms.zip s.rooms)[j]?=some p):(((p.1.bells.zip p.2.bells).take m).flatMap (jS h p.1.name)).length<=600:=by
 obtain⟨h1,h2,ri⟩:=x.zroom hp
 have hb:=(o.rm p.1 (mQg h1)).l2
 have:=gA (f:=jS h p.1.name) (n:=n) (l:=(p.1.bells.zip p.2.bells).take m) fun q hq=>tP ri (List.mem_of_mem_take hq)
 have h6:((p.1.bells.zip p.2.bells).take m).length<=6:=by
  rw[List.length_take,List.length_zip]
  omega
 have h7:n*((p.1.bells.zip p.2.bells).take m).length<=100*6:=Nat.mul_le_mul hn h6
 omega
theorem y9(o:eQ w)(x:cB w n s)(hn:n<=100){h:Nat}{p:Rm×eI}(hp:p∈w.rooms.zip s.rooms):(fm h p).length<=800:=by
 obtain⟨j,hj,e⟩:=List.getElem_of_mem hp
 have hp':(w.rooms.zip s.rooms)[j]?=some p:=by rw[gQe hj,e]
 have h1:=pT o x hn (h:=h) (m:=(p.1.bells.zip p.2.bells).length) hp'
 rw[List.take_length] at h1
 have h2:=sk (h:=h) (x.zroom hp').2.2
 unfold fm
 rw[lQa]
 omega
theorem pU(o:eQ w)(x:cB w n s)(hn:n<=100){h m:Nat}:(((w.passes.zip s.passes).take m).flatMap (jf h)).length<=600:=by
 have hb:=o.l2
 have:=gA (f:=jf h) (n:=n) (l:=(w.passes.zip s.passes).take m) fun q hq=>sH x (List.mem_of_mem_take hq)
 have h6:((w.passes.zip s.passes).take m).length<=6:=by
  rw[List.length_take,List.length_zip]
  omega
 have h7:n*((w.passes.zip s.passes).take m).length<=100*6:=Nat.mul_le_mul hn h6
 omega
theorem xM(o:eQ w)(x:cB w n s)(hn:n<=100){h m:Nat}:(((w.rooms.zip s.rooms).take m).flatMap (fm h)).length<=2400:=by
 have hb:=o.l1
 have:=gA (f:=fm h) (n:=800) (l:=(w.rooms.zip s.rooms).take m) fun q hq=>y9 o x hn (List.mem_of_mem_take hq)
 have h6:((w.rooms.zip s.rooms).take m).length<=3:=by
  rw[List.length_take,List.length_zip]
  omega
 omega
theorem BE{h:Nat}(o:eQ w)(x:cB w n s)(hn:n<=100)(q:Q (.l (dr w s h)) S):Fn gU [w.d,s.d,.int h] S Q:=by
 have lr:=x.lr
 have lp:=x.lp
 refine bF ?_
 unfold oo
 symm
 refine⟨by decide,?_⟩
 refine bC (fJ (jP ?_))
 symm
 refine ak rfl ?_
 refine bW (ds:=w.passes.map rj) ?_
 symm
 refine ak rfl ?_
 refine bW (ds:=s.passes.map wW) ?_
 refine⟨⟨trivial,by simp only[lQm];omega⟩,?_⟩
 rw[zip_map]
 refine⟨fun j Γ' S'=>(∃a b c d e,Γ'= [some w.d,some s.d,some (.int h),some (.ref S.length),a,b,c,d,e])/\S'=S++ [.lst (((w.passes.zip s.passes).take j).flatMap (jf h))],⟨⟨_,_,_,_,_,rfl⟩,rfl⟩,fun _ _ _ _=>⟨trivial,trivial⟩,?_,?_⟩
 ·rintro j d Γ' S' hd ⟨⟨a,b,c,d1,e,rfl⟩,rfl⟩
  rw[gQm] at hd
  obtain⟨p,hp,rfl⟩:=oQm.mp hd
  have pl:=pU o x hn (h:=h) (m:=j)
  have cl:=sH x (h:=h) (mQg hp)
  have cl2:jj p.2.2 h<=n:=by unfold jf at cl;rw[List.length_replicate] at cl;exact cl
  refine dX rfl (aq (aR (aq (aR (bg ?_)))))
  refine gB (sX ?_)
  symm
  refine⟨_,_,rfl,aG,?_⟩
  refine oK (t7 ?_)
  symm
  refine ak (d:=.str p.1.1) rfl ?_
  symm
  refine⟨by show 2<=sizeLine;decide,?_⟩
  symm
  refine⟨by show 1<=sizeLine;decide,?_⟩
  refine uA ?_
  symm
  refine ak (d:=cJ p.2.2) rfl ?_
  refine⟨p.2.2.map D.int,rfl,?_⟩
  symm
  refine⟨_,_,rfl,cP _,?_⟩
  refine⟨jj p.2.2 h,_,rfl,rfl,⟨rfl,trivial,by omega⟩,?_⟩
  refine⟨_,aG,⟨rfl,?_⟩,⟨_,_,_,_,_,rfl⟩,?_⟩
  ·rw[List.length_replicate]
   exact i8 (by omega)
  ·rw[eo hp]
   simp[jf]
 rintro Γ' S' ⟨⟨a,b,c,d1,e,rfl⟩,rfl⟩
 rw[lQm,List.take_length]
 have pl:=pU o x hn (h:=h) (m:=(w.passes.zip s.passes).length)
 rw[List.take_length] at pl
 unfold dr at q
 have blow:=nh w s h
 unfold dr at blow
 generalize (w.passes.zip s.passes).flatMap (jf h)=P at pl q blow⊢
 refine bC (fJ (jP ?_))
 symm
 refine ak rfl ?_
 refine bW (ds:=w.rooms.map Rm.d) ?_
 symm
 refine ak rfl ?_
 refine bW (ds:=s.rooms.map eI.d) ?_
 refine⟨⟨trivial,by simp only[lQm];omega⟩,?_⟩
 rw[zip_map]
 refine⟨fun j Γ' S'=>(∃a b c d e,Γ'= [some w.d,some s.d,some (.int h),some (.ref S.length),a,b,c,d,e])/\S'=S++ [.lst (P++((w.rooms.zip s.rooms).take j).flatMap (fm h))],⟨⟨_,_,_,_,_,rfl⟩,by simp⟩,fun _ _ _ _=>⟨trivial,trivial⟩,?_,?_⟩
 ·rintro j d Γ' S' hd ⟨⟨a,b,c,d1,e,rfl⟩,rfl⟩
  rw[gQm] at hd
  obtain⟨p,hp,rfl⟩:=oQm.mp hd
  obtain⟨hp1,hp2,ri⟩:=x.zroom hp
  have ml:=xM o x hn (h:=h) (m:=j)
  have rl:=sk (h:=h) ri
  have br:=ri.br
  have bl:=ri.bl
  have lb:=ri.lb
  have c1:=mv (l:=p.2.row) (h:=h)
  have c2:=mv (l:=p.2.late) (h:=h)
  have nx:=eo (f:=fm h) hp
  generalize ((w.rooms.zip s.rooms).take j).flatMap (fm h)=R at ml nx⊢
  refine dX rfl (aq (aR (aq (aR (bg ?_)))))
  refine bC (gB (sX ?_))
  symm
  refine⟨_,_,rfl,aG,?_⟩
  refine oK (tF (oK (t7 ?_)))
  symm
  refine ak (d:=.str p.1.name) rfl ?_
  symm
  refine⟨by show 2<=sizeLine;decide,?_⟩
  symm
  refine⟨by show 1<=sizeLine;decide,?_⟩
  refine uA ?_
  symm
  refine ak (d:=cJ p.2.row) rfl ?_
  refine⟨p.2.row.map D.int,rfl,?_⟩
  symm
  refine⟨_,_,rfl,cP _,?_⟩
  refine⟨jj p.2.row h,_,rfl,rfl,⟨rfl,trivial,by omega⟩,?_⟩
  refine oK (t7 ?_)
  symm
  refine ak (d:=.str p.1.name) rfl ?_
  symm
  refine⟨by show 2<=sizeLine;decide,?_⟩
  symm
  refine⟨by show 1<=sizeLine;decide,?_⟩
  refine uA ?_
  symm
  refine ak (d:=cJ p.2.late) rfl ?_
  refine⟨p.2.late.map D.int,rfl,?_⟩
  symm
  refine⟨_,_,rfl,cP _,?_⟩
  refine⟨jj p.2.late h,_,rfl,rfl,⟨rfl,trivial,by omega⟩,?_⟩
  refine⟨⟨rfl,rfl,trivial,by simp only[List.length_replicate];exact i8 (by omega)⟩,?_⟩
  refine⟨_,aG,⟨rfl,?_⟩,?_⟩
  ·simp only[lQa,List.length_replicate]
   exact i8 (by omega)
  have e1:(S++ [O.lst (P++R)]).set S.length (.lst (P++R++(List.replicate (jj p.2.row h) (.tup [.str "row",.str p.1.name])++List.replicate (jj p.2.late h) (.tup [.str "late",.str p.1.name]))))=S++ [.lst (P++R++jd h p)]:=by simp[jd]
  rw[e1]
  refine fJ (jP ?_)
  symm
  refine ak rfl ?_
  refine bW (ds:=p.1.bells.map BJ) ?_
  symm
  refine ak rfl ?_
  refine bW (ds:=p.2.bells.map dQ) ?_
  refine⟨⟨trivial,by simp only[lQm];omega⟩,?_⟩
  rw[zip_map]
  refine⟨fun m Γ' S'=>(∃a c d,Γ'= [some w.d,some s.d,some (.int h),some (.ref S.length),a,some p.2.d,some p.1.d,c,d])/\S'=S++ [.lst (P++R++jd h p++((p.1.bells.zip p.2.bells).take m).flatMap (jS h p.1.name))],⟨⟨_,_,_,rfl⟩,by simp⟩,fun _ _ _ _=>⟨trivial,trivial⟩,?_,?_⟩
  ·rintro m d Γ' S' hd ⟨⟨a,c,d1,rfl⟩,rfl⟩
   rw[gQm] at hd
   obtain⟨b,hb,rfl⟩:=oQm.mp hd
   have bbl:=pT o x hn (h:=h) (m:=m) hp
   have one:=tP (h:=h) (nm:=p.1.name) ri (mQg hb)
   have lln:=ri.bb b.2 (List.of_mem_zip (show(b.1,b.2)∈_ from mQg hb)).2
   have ffl:=List.length_filter_le (fun q:Int×Int=>decide (q.2=(h:Int))) b.2
   refine dX rfl (aq (aR (aq (aR (bg ?_)))))
   refine gB (sX ?_)
   symm
   refine⟨_,_,rfl,aG,?_⟩
   refine oK (t7 ?_)
   symm
   refine ak (d:=.str p.1.name) rfl ?_
   symm
   refine ak (d:=.str b.1.1) rfl ?_
   symm
   refine⟨by show 3<=sizeLine;decide,?_⟩
   symm
   refine⟨by show 1<=sizeLine;decide,?_⟩
   refine Gx (oK (pk (α:=Int×Int) (fun Γ'=>∃a,Γ'= [a,some (.int h)]) pairD pairD (fun q=>decide (q.2=(h:Int))) ⟨none,rfl⟩ (qX ?_)))
   symm
   refine bW (ds:=b.2.map pairD) ?_
   refine⟨b.2,rfl,trivial,by omega,fun q hq Γ' hΓ=> ?_,?_⟩
   ·obtain⟨a,rfl⟩:=hΓ
    refine aR ⟨rfl,⟨_,rfl⟩,?_⟩
    symm
    refine ak (d:=.int q.2) rfl ?_
    symm
    refine dj ?_
    refine⟨rfl,rfl,fun _=> ?_⟩
    symm
    exact⟨rfl,rfl⟩
   refine⟨(b.2.filter fun q=>decide (q.2=(h:Int))).length,_,by rw[lQm],rfl,⟨rfl,trivial,by omega⟩,?_⟩
   refine⟨_,aG,⟨rfl,?_⟩,⟨_,_,_,rfl⟩,?_⟩
   ·simp only[lQa,List.length_replicate]
    exact i8 (by omega)
   ·rw[eo hb]
    simp[jS]
  ·rintro Γ' S' ⟨⟨a,c,d1,rfl⟩,rfl⟩
   rw[lQm,List.take_length]
   refine⟨⟨_,_,_,_,_,rfl⟩,?_⟩
   rw[nx]
   simp[fm]
 ·rintro Γ' S' ⟨⟨a,b,c,d1,e,rfl⟩,rfl⟩
  rw[lQm,List.take_length]
  symm
  exact B5 lY.refl.app (Nat.le_refl _) aG blow q
end
def pL(w:du)(h:Nat):Nat:=((w.hands[h]?).map fun p=>p.2.length).getD 0
def Hk(w:du)(i:Int):Str:=((w.rooms[i.toNat]?).map (·.name)).getD ""
def wit(s:bu)(i:Int):Int:=((s.rooms[i.toNat]?).map (·.within)).getD (-1)
def kz(w:du)(s:bu)(h:Nat)(f:cD):Str:=if f.room= -1 then(if f.row=(pL w h:Int) then "done" else "out") else(if wit s f.room=(h:Int) then "within" else "called")
def pR(w:du)(s:bu)(h:Nat)(f:cD):D:=if f.room= -1 then .tup [.str (kz w s h f)] else .tup [.str (kz w s h f),.str (Hk w f.room)]
def mQ(w:du)(s:bu)(h:Nat)(f:cD):D:=match dr w s h with
 |d::_=>d
 | []=>pR w s h f
section
variable{w:du}{n h:Nat}{s:bu}{S:aA}{Q:Res->aA->Prop}{vs:List Int}{fs:List cD}{f:cD}
theorem yM{b:Bool}{Q:D->Prop}(q:Q (.int (if b then 1 else 0))):Op (intOfD [.bl b]) Q:=⟨_,rfl,q⟩
theorem cB.at(x:cB w n s)(hs:s.hands[h]?=some (vs,fs))(hf:fs.getLast? =some f):f.room= -1\/∃(i:Nat) (r:Rm) (rs:eI),f.room=i/\w.rooms[i]?=some r/\s.rooms[i]?=some rs/\Hk w f.room=r.name/\wit s f.room=rs.within:=by
 obtain⟨ts,pr,hw,hi⟩:=x.whand hs
 have fi:=hi.fr f (List.mem_of_getLast? hf)
 obtain⟨pr',hp,_⟩:=fi.pr
 rcases iI hp with⟨c,_⟩|⟨i,j,r,dn,h1,h2,h3,h4⟩
 ·exact .inl c
 ·obtain⟨rs,hsr,ri⟩:=x.wroom h3
  refine .inr ⟨i,r,rs,h1,h3,hsr,?_,?_⟩
  ·unfold Hk
   rw[h1,show((i:Int)).toNat=i by omega,h3]
   rfl
  ·unfold wit
   rw[h1,show((i:Int)).toNat=i by omega,hsr]
   rfl
theorem C1(x:cB w n s)(hs:s.hands[h]?=some (vs,fs))(hf:fs.getLast? =some f)(q:Q (.d (.str (kz w s h f))) S):Fn iR [w.d,s.d,.int h] S Q:=by
 obtain⟨ts,pr,hw,hi⟩:=x.whand hs
 have hol:pL w h=pr.length:=by unfold pL;rw[hw];rfl
 refine bF ?_
 unfold qZ
 symm
 refine ak rfl ?_
 symm
 refine ak (d:=xF (vs,fs)) (aO (by rw[gQm,hs];rfl)) ?_
 symm
 refine ak rfl ?_
 refine lU ?_
 symm
 refine⟨1,rfl,?_⟩
 refine ak (d:=f.d) (lK (by rw[List.getLast?_map,hf];rfl)) ?_
 refine dX rfl (aq (aR (aq (aR (aq (aR (aq (aR (aq (aR (bg ?_)))))))))))
 unfold kz at q
 rcases x.at hs hf with c|⟨i,r,rs,h1,h3,hsr,e1,e2⟩
 ·rw[if_pos c] at q
  symm
  rw[decide_eq_true (show f.room<0 by omega),if_pos rfl]
  symm
  refine⟨by show 2<=sizeLine;decide,?_⟩
  symm
  refine ak rfl ?_
  symm
  refine ak (d:=jB (ts,pr)) (aO (by rw[gQm,hw];rfl)) ?_
  symm
  refine ak rfl ?_
  symm
  refine dj ?_
  symm
  refine yM ?_
  rw[lQm]
  rw[hol] at q
  by_cases c2:f.row=(pr.length:Int)
  ·rw[if_pos c2] at q
   rw[decide_eq_true c2]
   refine dS aG (d:=.str "done") rfl ?_
   exact lS lY.refl.app (fun k z=>(nomatch z)) rfl q
  ·rw[if_neg c2] at q
   rw[decide_eq_false c2]
   refine dS aG (d:=.str "out") rfl ?_
   exact lS lY.refl.app (fun k z=>(nomatch z)) rfl q
 ·rw[if_neg (by omega),e2] at q
  symm
  rw[decide_eq_false (show¬f.room<0 by omega),if_neg (by decide),h1]
  refine cp ?_
  symm
  refine⟨by show 2<=sizeLine;decide,?_⟩
  symm
  refine ak rfl ?_
  symm
  refine ak (d:=rs.d) (aO (by rw[gQm,hsr];rfl)) ?_
  symm
  refine ak (d:=.int rs.within) rfl ?_
  symm
  refine dj ?_
  symm
  refine yM ?_
  by_cases c2:rs.within=(h:Int)
  ·rw[if_pos c2] at q
   rw[decide_eq_true c2]
   refine dS aG (d:=.str "within") rfl ?_
   exact lS lY.refl.app (fun k z=>(nomatch z)) rfl q
  ·rw[if_neg c2] at q
   rw[decide_eq_false c2]
   refine dS aG (d:=.str "called") rfl ?_
   exact lS lY.refl.app (fun k z=>(nomatch z)) rfl q
theorem m_{d:D}(h1:d∈dr w s h):∃(a:Str) (ss:List Str),d=.tup ((a::ss).map D.str)/\a∈(["pass","row","late","bell"]:List Str)/\ss.length<=2:=by
 unfold dr at h1
 rcases mQa.mp h1 with hd|hd
 ·obtain⟨p,_,hp⟩:=List.mem_flatMap.mp hd
  exact⟨"pass",[p.1.1],List.eq_of_mem_replicate hp,by simp,by simp⟩
 ·obtain⟨p,_,hp⟩:=List.mem_flatMap.mp hd
  unfold fm jd at hp
  rcases mQa.mp hp with hp|hp
  ·rcases mQa.mp hp with hp|hp
   ·exact⟨"row",[p.1.name],List.eq_of_mem_replicate hp,by simp,by simp⟩
   ·exact⟨"late",[p.1.name],List.eq_of_mem_replicate hp,by simp,by simp⟩
  ·obtain⟨q,_,hq⟩:=List.mem_flatMap.mp hp
   exact⟨"bell",[p.1.name,q.1.1],List.eq_of_mem_replicate hq,by simp,by simp⟩
theorem wY(o:eQ w)(x:cB w n s)(hn:n<=100)(hs:s.hands[h]?=some (vs,fs))(hf:fs.getLast? =some f)(q:Q (.d (mQ w s h f)) S):Fn fQ [w.d,s.d,.int h] S Q:=by
 have bl:=nh w s h
 have bm:∀d∈dr w s h,_:=fun d hd=>m_ hd
 refine bF ?_
 unfold mE
 symm
 refine BE o x hn ?_
 symm
 refine bR aG ?_
 symm
 refine⟨⟨rfl,aG⟩,?_⟩
 symm
 unfold mQ at q
 cases hb:dr w s h with
 | cons d l=>
   rw[hb] at q bl bm
   refine aM (fun _=> ?_) (fun c=>by cases c)
   symm
   refine dS aG (d:=d) y6 ?_
   obtain⟨a,ss,rfl,_⟩:=bm d (List.mem_cons_self ..)
   exact lS lY.refl.app (fun k z=>(nomatch z)) (by simp only[bG,Bool.and_eq_true] at bl;exact bl.1) q
 | nil=>
   rw[hb] at q
   refine aM (fun c=>by cases c) (fun _=>cp ?_)
   symm
   refine C1 x hs hf ?_
   have q:Q (.d (pR w s h f)) S:=q
   unfold pR at q
   refine bC (dU (fo (t_ ?_)))
   symm
   refine⟨by show 2<=sizeLine;decide,?_⟩
   symm
   refine⟨_,_,rfl,iZ ["out","done"],?_⟩
   rw[yB]
   show if decide (kz w s h f∈(["out","done"]:List Str))=true then _ else _
   rcases x.at hs hf with c|⟨i,r,rs,h1,h3,hsr,e1,e2⟩
   · rw[if_pos c] at q
     have hin:kz w s h f∈(["out","done"]:List Str):=by
       unfold kz
       rw[if_pos c]
       split <;>simp
     refine aM (fun _=> ?_) (fun z=>by rw[decide_eq_true hin] at z;cases z)
     symm
     refine⟨by show 1<=sizeLine;decide,?_⟩
     exact lS lY.refl.app (fun k z=>(nomatch z)) rfl q
   · rw[if_neg (by omega),e1] at q
     have hin:¬kz w s h f∈(["out","done"]:List Str):=by
       unfold kz
       rw[if_neg (by omega)]
       split <;>decide +kernel
     refine aM (fun z=>by rw[decide_eq_false hin] at z;cases z) (fun _=>cp ?_)
     symm
     refine ak rfl ?_
     symm
     refine ak rfl ?_
     symm
     refine ak (d:=xF (vs,fs)) (aO (by rw[gQm,hs];rfl)) ?_
     symm
     refine ak rfl ?_
     refine lU ?_
     symm
     refine⟨1,rfl,?_⟩
     refine ak (d:=f.d) (lK (by rw[List.getLast?_map,hf];rfl)) ?_
     symm
     refine ak (d:=.int f.room) rfl ?_
     rw[h1]
     refine ak (d:=r.d) (aO (by rw[gQm,h3];rfl)) ?_
     symm
     refine ak (d:=.str r.name) rfl ?_
     symm
     refine⟨by show 2<=sizeLine;decide,?_⟩
     exact lS lY.refl.app (fun k z=>(nomatch z)) rfl q
end
def headD(l:List D):D:=match l with
 |d::_=>d
 | []=>.non
theorem ip{α:Type}{f:α->List D}{l:List α}{n:Nat}{a:α}{d:D}{r:List D}(h0:(l.take n).flatMap f= [])(ha:l[n]?=some a)(hd:f a=d::r):∃t,l.flatMap f=d::t:=by
 have e:l=l.take n++a::l.drop (n+1):=by
  have hn:=(gQs.mp ha).1
  rw[gQe hn] at ha
  cases ha
  rw[←List.drop_eq_getElem_cons hn,List.take_append_drop]
 rw[e,List.flatMap_append,h0,List.flatMap_cons,hd]
 exact⟨_,rfl⟩
theorem ph{α:Type}{n:Nat}{d:α}(h:n≠0):∃t,List.replicate n d=d::t:=by
 cases n with
 |zero=>exact absurd rfl h
 |succ n=>exact⟨_,List.replicate_succ⟩
theorem sh{h:Nat}{l:List (Int×Int)}:(l.filter fun q=>decide (q.2=(h:Int))).length=0↔(h:Int)∉l.map (·.2):=by
 rw[List.length_eq_zero_iff,List.filter_eq_nil_iff]
 constructor
 ·intro g z
  obtain⟨q,hq,e⟩:=List.mem_map.mp z
  exact g q hq (decide_eq_true e)
 ·intro g q hq z
  exact g (List.mem_map.mpr ⟨q,hq,of_decide_eq_true z⟩)
section
variable{w:du}{n h:Nat}{s:bu}{S:aA}{Q:Res->aA->Prop}{vs:List Int}{fs:List cD}{f:cD}
theorem B2(o:eQ w)(x:cB w n s)(hn:n<=100)(q:Q (.d (headD (dr w s h))) S):Fn eJ [w.d,s.d,.int h] S Q:=by
 have lr:=x.lr
 have lp:=x.lp
 have found:∀{d:D} {t:List D} {R:Res->aA->Prop},dr w s h=d::t->(∀k,d≠.ref k)->bJ 0 d=true->Op (settle S d S) fun p=>Q p.1 p.2:=fun{d t R} e h1 h2=>by
  rw[e] at q
  exact cg h1 h2 q
 refine bF ?_
 unfold jg
 refine bC (fJ (jP ?_))
 symm
 refine ak rfl ?_
 refine bW (ds:=w.passes.map rj) ?_
 symm
 refine ak rfl ?_
 refine bW (ds:=s.passes.map wW) ?_
 refine⟨⟨trivial,by simp only[lQm];omega⟩,?_⟩
 rw[zip_map]
 refine⟨fun j Γ' S'=>(∃a b c d e f g i k,Γ'= [some w.d,some s.d,some (.int h),a,b,c,d,e,f,g,i,k])/\S'=S/\((w.passes.zip s.passes).take j).flatMap (jf h)= [],⟨⟨_,_,_,_,_,_,_,_,_,rfl⟩,rfl,rfl⟩,fun _ _ _ _=>⟨trivial,trivial⟩,?_,?_⟩
 ·rintro j d Γ' S' hd ⟨⟨a,b,c,d1,e,f1,g,i,k,rfl⟩,rfl,h0⟩
  rw[gQm] at hd
  obtain⟨p,hp,rfl⟩:=oQm.mp hd
  refine dX rfl (aq (dX rfl (aq (aR (aq (aR (bg ?_)))))))
  refine aq (dX rfl (aq (aR (aq (aR (bg ?_))))))
  refine bg ?_
  refine dU (fo (t_ ?_))
  symm
  refine bW (ds:=p.2.2.map D.int) ?_
  refine⟨_,_,rfl,cP _,?_⟩
  rw[iO]
  show if decide ((h:Int)∈p.2.2)=true then _ else _
  by_cases cm:(h:Int)∈p.2.2
  ·rw[decide_eq_true cm,if_pos rfl]
   symm
   refine⟨by show 2<=sizeLine;decide,?_⟩
   obtain⟨t,ht⟩:=ph (n:=jj p.2.2 h) (d:=D.tup [.str "pass",.str p.1.1]) fun z=>fY.mp z cm
   obtain⟨t2,ht2⟩:=ip h0 hp (show jf h p=_::_ from ht)
   exact found (R:=Q) (show dr w s h=_::(t2++_) by unfold dr;rw[ht2];rfl) (fun k z=>(nomatch z)) rfl
  ·rw[decide_eq_false cm,if_neg (by decide)]
   refine cp ?_
   refine⟨⟨_,_,_,_,_,_,_,_,_,rfl⟩,rfl,?_⟩
   rw[eo hp,h0]
   unfold jf
   rw[fY.mpr cm]
   rfl
 rintro Γ' S' ⟨⟨a,b,c,d1,e,f1,g,i,k,rfl⟩,rfl,h0⟩
 rw[lQm,List.take_length] at h0
 have hB:dr w s h=(w.rooms.zip s.rooms).flatMap (fm h):=by unfold dr;rw[h0];rfl
 refine bC (fJ (jP ?_))
 symm
 refine ak rfl ?_
 refine bW (ds:=w.rooms.map Rm.d) ?_
 symm
 refine ak rfl ?_
 refine bW (ds:=s.rooms.map eI.d) ?_
 refine⟨⟨trivial,by simp only[lQm];omega⟩,?_⟩
 rw[zip_map]
 refine⟨fun j Γ' S2=>(∃a b c d e f g i k,Γ'= [some w.d,some s.d,some (.int h),a,b,c,d,e,f,g,i,k])/\S2=S'/\((w.rooms.zip s.rooms).take j).flatMap (fm h)= [],⟨⟨_,_,_,_,_,_,_,_,_,rfl⟩,rfl,rfl⟩,fun _ _ _ _=>⟨trivial,trivial⟩,?_,?_⟩
 ·rintro j d Γ' S2 hd ⟨⟨a,b,c,d1,e,f1,g,i,k,rfl⟩,rfl,h1⟩
  rw[gQm] at hd
  obtain⟨p,hp,rfl⟩:=oQm.mp hd
  obtain⟨hp1,hp2,ri⟩:=x.zroom hp
  have lb:=ri.lb
  refine dX rfl (aq (aR (aq (aR (bg ?_)))))
  refine bC (dU (fo (t_ ?_)))
  symm
  refine ak rfl ?_
  refine bW (ds:=p.2.row.map D.int) ?_
  refine⟨_,_,rfl,cP _,?_⟩
  rw[iO]
  show if decide ((h:Int)∈p.2.row)=true then _ else _
  by_cases cm:(h:Int)∈p.2.row
  ·rw[decide_eq_true cm,if_pos rfl]
   symm
   refine ak (d:=.str p.1.name) rfl ?_
   symm
   refine⟨by show 2<=sizeLine;decide,?_⟩
   obtain⟨t,ht⟩:=ph (n:=jj p.2.row h) (d:=D.tup [.str "row",.str p.1.name]) fun z=>fY.mp z cm
   obtain⟨t2,ht2⟩:=ip h1 hp (show fm h p=_::_ by unfold fm jd;rw[ht];rfl)
   exact found (R:=Q) (hB.trans ht2) (fun k z=>(nomatch z)) rfl
  rw[decide_eq_false cm,if_neg (by decide)]
  refine cp ?_
  have z1:List.replicate (jj p.2.row h) (D.tup [.str "row",.str p.1.name])= []:=by rw[fY.mpr cm];rfl
  refine bC (dU (fo (t_ ?_)))
  symm
  refine ak rfl ?_
  refine bW (ds:=p.2.late.map D.int) ?_
  refine⟨_,_,rfl,cP _,?_⟩
  rw[iO]
  show if decide ((h:Int)∈p.2.late)=true then _ else _
  by_cases cl:(h:Int)∈p.2.late
  ·rw[decide_eq_true cl,if_pos rfl]
   symm
   refine ak (d:=.str p.1.name) rfl ?_
   symm
   refine⟨by show 2<=sizeLine;decide,?_⟩
   obtain⟨t,ht⟩:=ph (n:=jj p.2.late h) (d:=D.tup [.str "late",.str p.1.name]) fun z=>fY.mp z cl
   obtain⟨t2,ht2⟩:=ip h1 hp (show fm h p=_::_ by unfold fm jd;rw[z1,ht];rfl)
   exact found (R:=Q) (hB.trans ht2) (fun k z=>(nomatch z)) rfl
  rw[decide_eq_false cl,if_neg (by decide)]
  refine cp ?_
  have z2:jd h p= []:=by unfold jd;rw[z1,fY.mpr cl];rfl
  have hbr:fm h p=(p.1.bells.zip p.2.bells).flatMap (jS h p.1.name):=by unfold fm;rw[z2];rfl
  refine fJ (jP ?_)
  symm
  refine ak rfl ?_
  refine bW (ds:=p.1.bells.map BJ) ?_
  symm
  refine ak rfl ?_
  refine bW (ds:=p.2.bells.map dQ) ?_
  refine⟨⟨trivial,by simp only[lQm];omega⟩,?_⟩
  rw[zip_map]
  refine⟨fun m Γ' S3=>(∃a b c d g i k,Γ'= [some w.d,some s.d,some (.int h),a,b,c,d,some p.1.d,some p.2.d,g,i,k])/\S3=S2/\((p.1.bells.zip p.2.bells).take m).flatMap (jS h p.1.name)= [],⟨⟨_,_,_,_,_,_,_,rfl⟩,rfl,rfl⟩,fun _ _ _ _=>⟨trivial,trivial⟩,?_,?_⟩
  ·rintro m d Γ' S3 hd ⟨⟨a,b,c,d1,g,i,k,rfl⟩,rfl,h2⟩
   rw[gQm] at hd
   obtain⟨bb,hb,rfl⟩:=oQm.mp hd
   have lln:=ri.bb bb.2 (List.of_mem_zip (show(bb.1,bb.2)∈_ from mQg hb)).2
   refine dX rfl (aq (dX rfl (aq (aR (aq (aR (bg ?_)))))))
   refine aq (aR (bg ?_))
   refine dU (fo (t_ ?_))
   symm
   refine nF (by omega) ?_
   dsimp only
   refine⟨_,_,rfl,cP _,?_⟩
   rw[iO]
   show if decide ((h:Int)∈bb.2.map (·.2))=true then _ else _
   by_cases cb:(h:Int)∈bb.2.map (·.2)
   ·rw[decide_eq_true cb,if_pos rfl]
    symm
    refine ak (d:=.str p.1.name) rfl ?_
    symm
    refine⟨by show 3<=sizeLine;decide,?_⟩
    obtain⟨t,ht⟩:=ph (n:=(bb.2.filter fun q=>decide (q.2=(h:Int))).length) (d:=D.tup [.str "bell",.str p.1.name,.str bb.1.1]) fun z=>sh.mp z cb
    obtain⟨t3,ht3⟩:=ip h2 hb (show jS h p.1.name bb=_::_ from ht)
    obtain⟨t2,ht2⟩:=ip h1 hp (hbr.trans ht3)
    exact found (R:=Q) (hB.trans ht2) (fun k z=>(nomatch z)) rfl
   ·rw[decide_eq_false cb,if_neg (by decide)]
    refine cp ?_
    refine⟨⟨_,_,_,_,_,_,_,rfl⟩,rfl,?_⟩
    rw[eo hb,h2]
    unfold jS
    rw[sh.mpr cb]
    rfl
  ·rintro Γ' S3 ⟨⟨a,b,c,d1,g,i,k,rfl⟩,rfl,h2⟩
   rw[lQm,List.take_length] at h2
   refine⟨⟨_,_,_,_,_,_,_,_,_,rfl⟩,rfl,?_⟩
   rw[eo hp,h1,hbr,h2]
   rfl
 ·rintro Γ' S2 ⟨⟨a,b,c,d1,e,f1,g,i,k,rfl⟩,rfl,h1⟩
  rw[lQm,List.take_length] at h1
  rw[hB,h1] at q
  symm
  exact cg (fun k z=>(nomatch z)) rfl q
theorem sj(o:eQ w)(x:cB w n s)(hn:n<=100)(hs:s.hands[h]?=some (vs,fs))(hf:fs.getLast? =some f)(q:Q (.d (mQ w s h f)) S):Fn mC [w.d,s.d,.int h] S Q:=by
 have bl:=nh w s h
 have bm:∀d∈dr w s h,_:=fun d hd=>m_ hd
 obtain⟨ts,pr,hw,hi⟩:=x.whand hs
 have hol:pL w h=pr.length:=by unfold pL;rw[hw];rfl
 refine bF ?_
 unfold yT
 symm
 refine B2 o x hn ?_
 symm
 refine A2 ?_
 unfold mQ at q
 cases hb:dr w s h with
 | cons d l=>
   rw[hb] at q bl bm
   obtain⟨a,ss,rfl,_⟩:=bm d (List.mem_cons_self ..)
   refine aM (fun _=> ?_) (fun c=>by cases c)
   symm
   exact cg (fun k z=>(nomatch z)) (by simp only[bG,Bool.and_eq_true] at bl;exact bl.1) q
 | nil=>
   rw[hb] at q
   refine aM (fun c=>by cases c) (fun _=>cp ?_)
   have q:Q (.d (pR w s h f)) S:=q
   unfold pR kz at q
   symm
   refine bH hs hf ?_
   symm
   refine ak (d:=.int f.room) rfl ?_
   symm
   refine dj ?_
   rcases x.at hs hf with c|⟨i,r,rs,h1,h3,hsr,e1,e2⟩
   · rw[if_pos c,if_pos c,hol] at q
     rw[decide_eq_true c]
     refine aM (fun _=> ?_) (fun c=>by cases c)
     have hp:progOf w h f=some pr:=by unfold progOf;rw[if_pos c,hw];rfl
     symm
     refine ak (d:=.int f.row) rfl ?_
     symm
     refine eF hp ?_
     symm
     refine dj ?_
     rw[lQm]
     by_cases c2:f.row=(pr.length:Int)
     · rw[if_pos c2] at q
       rw[decide_eq_true c2]
       refine aM (fun _=> ?_) (fun c=>by cases c)
       symm
       refine⟨by show 1<=sizeLine;decide,?_⟩
       exact cg (fun k z=>(nomatch z)) rfl q
     · rw[if_neg c2] at q
       rw[decide_eq_false c2]
       refine aM (fun c=>by cases c) (fun _=> ?_)
       symm
       refine⟨by show 1<=sizeLine;decide,?_⟩
       exact cg (fun k z=>(nomatch z)) rfl q
   · have cn:¬f.room= -1:=by omega
     rw[if_neg cn,if_neg cn,e1,e2] at q
     rw[decide_eq_false cn,h1]
     refine aM (fun c=>by cases c) (fun _=>cp ?_)
     symm
     refine ak rfl ?_
     symm
     refine ak (d:=r.d) (aO (by rw[gQm,h3];rfl)) ?_
     symm
     refine ak (d:=.str r.name) rfl ?_
     symm
     refine ak rfl ?_
     symm
     refine ak (d:=rs.d) (aO (by rw[gQm,hsr];rfl)) ?_
     symm
     refine ak (d:=.int rs.within) rfl ?_
     symm
     refine dj ?_
     by_cases c2:rs.within=(h:Int)
     · rw[if_pos c2] at q
       rw[decide_eq_true c2]
       refine aM (fun _=> ?_) (fun c=>by cases c)
       symm
       refine⟨by show 2<=sizeLine;decide,?_⟩
       exact cg (fun k z=>(nomatch z)) rfl q
     · rw[if_neg c2] at q
       rw[decide_eq_false c2]
       refine aM (fun c=>by cases c) (fun _=> ?_)
       symm
       refine⟨by show 2<=sizeLine;decide,?_⟩
       exact cg (fun k z=>(nomatch z)) rfl q
end
section
variable{S S0:aA}{Q:Res->aA->Prop}
def Pl:Nat->D->Prop
 |0,_=>False
 |_+1,.int _=>True
 |_+1,.str _=>True
 |n+1,.tup ds=>ds.length<=1000/\∀d∈ds,Pl n d
 |_+1,_=>False
theorem wC:∀ds:List D,rT ds ds=ds.map fun d=>D.tup [d,d]
 | []=>rfl
 | d::ds=>by
   have:=wC ds
   simp only[rT,List.zipWith_cons_cons,List.map_cons] at this⊢
   rw[this]
theorem u7:∀(n:Nat) (d:D) {S:aA} {Q:Res->aA->Prop},Pl n d->Q (.d (.bl true)) S->Fn (eN n) [d,d] S Q
 |0,_,_,_,h,_=>h.elim
 | n+1,.int i,S,Q,_,q=>by
   refine bF ?_
   unfold i0
   refine bC (dU (dw (d:=.int i) (cN rfl ⟨rfl,rfl⟩) rfl ?_))
   refine aM (fun c=>by cases c) (fun _=>cp ?_)
   refine bC (dU (Aq (dw (d:=.int i) (cN rfl ⟨rfl,rfl⟩) rfl ?_)))
   refine aM (fun c=>by cases c) (fun _=> ?_)
   symm
   refine A2 ?_
   refine aM (fun c=>by cases c) (fun _=>cp ?_)
   refine og (pA (wu (cN rfl ⟨_,rfl,true,rfl,?_⟩)))
   rw[if_pos rfl]
   refine pA (D3 (wu (cN rfl ⟨_,rfl,false,rfl,true,rfl,?_⟩)))
   rw[if_pos rfl]
   symm
   refine dj ?_
   rw[decide_eq_true rfl]
   exact cg (fun k z=>(nomatch z)) rfl q
 | n+1,.str i,S,Q,_,q=>by
   refine bF ?_
   unfold i0
   refine bC (dU (dw (d:=.str i) (cN rfl ⟨rfl,rfl⟩) rfl ?_))
   refine aM (fun c=>by cases c) (fun _=>cp ?_)
   refine bC (dU (Aq (dw (d:=.str i) (cN rfl ⟨rfl,rfl⟩) rfl ?_)))
   refine aM (fun _=> ?_) (fun c=>by cases c)
   refine aM (fun _=> ?_) (fun c=>by cases c)
   refine og (pA (wq (wu (cN rfl ⟨_,rfl,wu (cN rfl ⟨_,rfl,.bl true,rfl,true,rfl,?_⟩)⟩))))
   rw[if_pos rfl]
   symm
   refine gI ?_
   rw[decide_eq_true rfl]
   exact cg (fun k z=>(nomatch z)) rfl q
 | n+1,.tup ds,S,Q,h,q=>by
   refine bF ?_
   unfold i0
   refine bC (dU (dw (d:=.tup ds) (cN rfl ⟨rfl,rfl⟩) rfl ?_))
   refine aM (fun _=> ?_) (fun c=>by cases c)
   refine bC (dU (Aq (Ey (dw (d:=.tup ds) (cN rfl ⟨rfl,rfl⟩) rfl ?_))))
   refine aM (fun c=>by cases c) (fun _=> ?_)
   symm
   refine j9 ?_
   rw[decide_eq_true rfl]
   refine aM (fun c=>by cases c) (fun _=>cp ?_)
   refine og (GN (oK ?_))
   refine pk (α:=D) (fun Γ'=>∃a b,Γ'= [a,b]) (fun d=>D.tup [d,d]) (fun _=>.bl true) (fun _=>true) ⟨none,none,rfl⟩ (jP ?_)
   symm
   refine⟨⟨trivial,Nat.le_refl _⟩,ds,wC ds,⟨trivial,trivial⟩,h.1,fun d hd Γ' hΓ=> ?_,?_⟩
   · obtain⟨a,b,rfl⟩:=hΓ
     refine dX rfl (aq (aR (aq (aR (bg ?_)))))
     refine⟨rfl,⟨_,_,rfl⟩,uX ⟨rfl,rfl,fun _=> ?_⟩⟩
     symm
     exact u7 n d (h.2 d hd) ⟨rfl,rfl⟩
   · refine⟨rfl,List.replicate ds.length true,?_,?_⟩
     · rw[←wx]
       congr 1
       rw[List.filter_eq_self.mpr (fun _ _=>rfl),List.map_const']
     · have:(List.replicate ds.length true).all id=true:=by simp
       rw[this]
       exact cg (fun k z=>(nomatch z)) rfl q
end
end W28
namespace DL
open PySem PySem.Spec L2
theorem B6{S:aA}{k:Nat}{ds:List D}{Q:List D×Tag->Prop}(hS:S[k]?=some (.frz ds))(q:Q (ds,.fz k)):Op (pY S (.ref k)) Q:=⟨_,by simp only[pY,hS],q⟩
theorem FX{S:aA}{k:Nat}{ds:List D}{i:Int}{d:D}{Q:D->Prop}(hS:S[k]?=some (.frz ds))(h:jk ds i=some d)(q:Q d):Op (aJ S (.ref k) (.int i)) Q:=⟨_,by simp only[aJ,hS];exact h,q⟩
theorem Gc{i:Int}{Q:D->Prop}(q:Q (.int (if i<0 then -i else i))):Op (C0 [.int i]) Q:=⟨_,rfl,q⟩
theorem BB{b:Bool}{Q:D->Prop}(q:Q (.int (if b then 1 else 0))):Op (intOfD [.bl b]) Q:=⟨_,rfl,q⟩
theorem vV{j:Nat}{n:Nat}{d:D}(h:(fc 0 (j:Int))[n]?=some d):d=.int n/\n<j:=by
 have hl:n<j:=by
  have:=(gQs.mp h).1
  unfold fc at this
  simpa using this
 unfold fc at h
 rw[gQm,List.getElem?_range (by simpa using hl)] at h
 cases h
 exact⟨by simp,hl⟩
end DL
namespace W28
open PySem PySem.Spec L2 DL
section
variable{S:aA}{Q:Res->aA->Prop}
theorem EH{ns:List Int}{k:Nat}(hS:S[0]?=some (.frz (ns.map D.int)))(q:∀a b:Int,Q (.l [.int a,.int b,.int 0]) S):Fn jZ [.ref 0,.int k] S Q:=by
 refine bF ?_
 unfold tK
 have key:∀c0:Int,T (az (aU 3 (ay kO (ay oG (af 2) (ay kO (ay uB (cF (.int 10)) (cF (.int 60))) (ay uB (cF (.int 10)) (cF (.int 60))))) (tX intOfD (ae (ay Hl (af 2) (ay uB (cF (.int 10)) (cF (.int 18)))) ai))))
   (AX (bB (ae (af 3) (ae (ay oG (ay cq (ay cq (af 2) (ay kO (cF (.int 104729)) (af 1))) (cF (.int 7))) (cF (.int 2305843009213693951))) (ae (cF (.int 0)) ai))))))
   [some (.ref 0),some (.int k),some (.int c0),none] S (fun o=>match o with
   |.nx _ S'=>Op (settle S .non S') fun p=>Q p.1 p.2|.rt d S'=>Op (settle S d S') fun p=>Q p.1 p.2|.rl l S'=>Op (dD S l S') fun p=>Q p.1 p.2|_=>False):=by
  intro c0
  symm
  refine BR ⟨by decide,by decide,by decide⟩ ?_
  symm
  refine BR ⟨by decide,by decide,by decide⟩ ?_
  symm
  refine Fh (IntMulOk.of_bits (by decide +kernel) (by decide +kernel)) ?_
  refine pK (show(0:Int)<10^(60:Int).toNat*10^(60:Int).toNat by decide +kernel) ?_
  generalize c0%(10^(60:Int).toNat*10^(60:Int).toNat)=c1
  symm
  refine BR ⟨by decide,by decide,by decide⟩ ?_
  generalize (10:Int)^(18:Int).toNat=c2
  symm
  refine BB ?_
  have hb:CU c1 (if decide (c2<=c0)=true then 1 else 0):=by
   right
   split <;>decide
  generalize (if decide (c2<=c0)=true then(1:Int) else 0)=c3 at hb⊢
  refine rZ hb ?_
  symm
  refine rZ (.inl ⟨by decide,by decide⟩) ?_
  symm
  refine pK (by decide) ?_
  symm
  refine⟨by show 3<=sizeLine;decide,?_⟩
  exact BP rfl (q _ _)
 symm
 refine B6 hS ?_
 symm
 rw[lQm]
 by_cases c:(k:Int)<ns.length
 ·rw[decide_eq_true c,if_pos rfl]
  have hk:k<ns.length:=by omega
  symm
  refine FX hS (aO (x:=.int ns[k]) (by rw[gQm,gQe hk];rfl)) ?_
  symm
  refine Gc ?_
  exact key _
 ·rw[decide_eq_false c,if_neg (by decide)]
  refine cp ?_
  exact key 0
end
end W28
namespace DL
open PySem PySem.Spec L2
theorem Ds{Γ:cE}{S:aA}{f:bq}{Q:List D->aA->Prop}(h:E f Γ S fun d S1=>∃j,d=.int j/\(-1000<=j/\j<=1000)/\Q (fc 0 j) S1):E (yU f) Γ S Q:=by
 obtain⟨d,S1,e1,j,rfl,hj,q⟩:=h
 exact⟨_,S1,by unfold yU;rw[e1];simp only[Option.bind_some];rw[if_pos hj],q⟩
theorem B_{Γ:cE}{S:aA}{f g:bq}{Q:List D->aA->Prop}(h:E f Γ S fun d S1=>E g Γ S1 fun d2 S2=>∃i j,d=.int i/\d2=.int j/\(-1000<=i/\i<=1000/\ -1000<=j/\j<=1000)/\Q (fc i j) S2):E (yu f g) Γ S Q:=by
 obtain⟨d,S1,e1,d2,S2,e2,i,j,rfl,rfl,hj,q⟩:=h
 exact⟨_,S2,by unfold yu;rw[e1];simp only[Option.bind_some];rw[e2];simp only[Option.bind_some];rw[if_pos hj],q⟩
theorem wK{i j:Nat}{d:D}(h:d∈fc (i:Int) (j:Int)):∃k:Nat,d=.int k/\k<j:=by
 unfold fc at h
 obtain⟨k,hk,rfl⟩:=List.mem_map.mp h
 have:=List.mem_range.mp hk
 exact⟨i+k,by simp,by omega⟩
theorem se{i j:Int}:(fc i j).length=(j-i).toNat:=by
 unfold fc
 simp
end DL
namespace W28
open PySem PySem.Spec L2 DL
section
variable{w:du}{n h:Nat}{s:bu}{S:aA}{Q:Res->aA->Prop}{vs:List Int}{fs:List cD}{f:cD}
theorem vq{m:Nat}:Pl (m+2) (mQ w s h f):=by
 have ssp:∀ss:List Str,ss.length<=3->Pl (m+2) (.tup (ss.map D.str)):=fun ss hl=>⟨by rw[lQm];omega,fun d hd=>by
  obtain⟨a,_,rfl⟩:=List.mem_map.mp hd
  exact trivial⟩
 unfold mQ
 cases hb:dr w s h with
 | cons d l=>
   obtain⟨a,ss,rfl,_,hl⟩:=m_ (show d∈dr w s h by rw[hb];exact List.mem_cons_self ..)
   exact ssp (a::ss) (by simp;omega)
 | nil=>
   show Pl (m+2) (pR w s h f)
   unfold pR
   split
   · exact ssp [_] (by simp)
   · exact ssp [_,_] (by simp)
theorem AA{k:Nat}{S0:aA}(y:Ex k S0 S)(o:eQ w)(x:cB w n s)(hn:n<=100)(q:∀S',Ex k S0 S'->Ex k S S'->S'.length=S.length->Q (.d (.bl true)) S'):Fn gW [.ref k,w.d,s.d] S Q:=by
 have z:Ex k S S:=by obtain⟨a,b,c,hh⟩:=y.pot;exact Ex.refl hh
 have b4:=o.l4
 have b0:=o.l0
 have lh:=x.lh
 refine bF ?_
 unfold nK
 symm
 refine ak rfl ?_
 symm
 refine bz z (by simp only[lQm];omega) (by simp only[lQm];omega) fun d S1 hd e1 _ hl1=> ?_
 have hd:d<w.hands.length:=by simp only[lQm] at hd;omega
 have hm:(w.hands.map jB).length=w.hands.length:=lQm ..
 rw[hm]
 refine bC (fJ (qX (oK (tF (oK (B_ ?_))))))
 symm
 refine⟨(d:Int),(w.hands.length:Int),rfl,rfl,by omega,?_⟩
 refine oK (Ds ?_)
 symm
 refine⟨(d:Int),rfl,by omega,?_⟩
 refine⟨⟨rfl,rfl,trivial,by rw[se,se];exact i8 (by omega)⟩,?_⟩
 refine⟨fun _ Γ' S'=>(∃a b,Γ'= [some (.ref k),some w.d,some s.d,some (.int (w.hands.length:Nat)),some (.int d),a,b])/\S'=S1,⟨⟨_,_,rfl⟩,rfl⟩,fun _ _ _ _=>trivial,?_,?_⟩
 ·rintro j dd Γ' S' hdd ⟨⟨a,b,rfl⟩,rfl⟩
  obtain⟨h,rfl,hh⟩:∃h:Nat,dd=.int h/\h<w.hands.length:=by
   rcases mQa.mp (mQg hdd) with hm|hm
   ·exact wK hm
   ·obtain⟨k,e,hk⟩:=wK (i:=0) hm
    exact⟨k,e,by omega⟩
  obtain⟨⟨vs,fs⟩,hs⟩:∃p,s.hands[h]?=some p:=⟨_,gQe (by omega)⟩
  obtain⟨ts,pr,hw,hi⟩:=x.whand hs
  obtain⟨f,hf,fi⟩:=hi.last
  refine aR ?_
  symm
  refine wY o x hn hs hf ?_
  symm
  refine sj o x hn hs hf ?_
  symm
  refine u7 10 _ vq ?_
  symm
  refine qB ?_
  refine aM (fun c=>by cases c) (fun _=> ?_)
  symm
  refine sj o x hn hs hf ?_
  symm
  refine u7 10 _ vq ?_
  symm
  refine qB ?_
  refine aM (fun c=>by cases c) (fun _=>cp ?_)
  exact⟨⟨_,_,rfl⟩,rfl⟩
 ·rintro Γ' S' ⟨⟨a,b,rfl⟩,rfl⟩
  symm
  exact i_ e1 y.lt (fun k z=>(nomatch z)) rfl fun a b c=>q _ y.set z.set (by simp)
end
theorem Bb:∀ns:List Int,ns.length<=63->∃S',CZ [.ref 0] [.frz (ns.map D.int)]=some (.d (.bl true),S'):=by
 intro ns hns
 suffices h:Fn CZ [.ref 0] [.frz (ns.map D.int)] fun r _=>r=.d (.bl true) by
  obtain⟨r,S',e,rfl⟩:=h
  exact⟨S',e⟩
 refine bF ?_
 unfold Gh
 refine bC (fJ ?_)
 refine Dx ?_
 symm
 refine B6 rfl ?_
 symm
 refine BO ?_
 symm
 refine DA ?_
 obtain⟨m,hm,hm4⟩:∃m:Nat,(if (if (5:Int)<((ns.map D.int).length:Nat) then(5:Int) else((ns.map D.int).length:Nat))>(1:Int) then(if (5:Int)<((ns.map D.int).length:Nat) then(5:Int) else((ns.map D.int).length:Nat)) else 1)=(m:Int)/\m<=5:=by
  refine⟨(if (if (5:Int)<((ns.map D.int).length:Nat) then(5:Int) else((ns.map D.int).length:Nat))>(1:Int) then(if (5:Int)<((ns.map D.int).length:Nat) then(5:Int) else((ns.map D.int).length:Nat)) else 1).toNat,?_,?_⟩ <;>(repeat' split) <;>omega
 refine⟨m,congrArg D.int hm,by omega,?_⟩
 refine⟨fun n Γ' S'=>(∃a1 a2 a3 a4 a5 a6 a7,Γ'= [some (.ref 0),a1,a2,a3,a4,a5,a6,a7])/\S'[0]?=some (.frz (ns.map D.int)),⟨⟨_,_,_,_,_,_,_,rfl⟩,rfl⟩,fun _ _ _ _=>trivial,?_,?_⟩
 ·rintro n d Γ' S hd ⟨⟨a1,a2,a3,a4,a5,a6,a7,rfl⟩,hS⟩
  obtain⟨rfl,_⟩:=vV hd
  refine aR ?_
  symm
  refine EH hS fun pa pb=> ?_
  symm
  have pot0:Ex S.length (S++ [lA pa pb 0]) (S++ [lA pa pb 0]):=Ex.refl aG
  have hS0:(S++ [lA pa pb 0])[0]?=some (.frz (ns.map D.int)):=aS hS
  have h0:0≠S.length:=by
   have:=(gQs.mp hS).1
   omega
  show Fn dG [.ref S.length] (S++ [lA pa pb 0]) _
  generalize S.length=kp at pot0 h0⊢
  generalize S++ [lA pa pb 0]=S1 at pot0 hS0⊢
  refine uk pot0 fun w S2 ok x2 _ _=> ?_
  symm
  refine BN ok ?_
  symm
  refine lU ?_
  symm
  refine⟨1,rfl,?_⟩
  refine fJ (Dx ?_)
  symm
  refine⟨(40:Nat),rfl,by decide,?_⟩
  refine⟨fun j Γ' S'=>(∃(s:bu) (last:Int) (b6 b7:Option D),Γ'= [some (.ref 0),some (.int n),some (.ref kp),some w.d,some s.d,some (.int last),b6,b7]/\cB w (1+j) s)/\Ex kp S1 S',?_,fun _ _ _ _=>trivial,?_,?_⟩
  ·exact⟨⟨dM w,-1,_,_,rfl,zP ok⟩,x2⟩
  ·rintro j d Γ' S' hd ⟨⟨s,last,b6,b7,rfl,hinv⟩,hex⟩
   obtain⟨rfl,hj⟩:=vV (j:=40) hd
   refine aR ?_
   have hm:=hinv.mays ok (by omega)
   symm
   refine AA hex ok hinv (by omega) fun S3 hex3 _ _=> ?_
   symm
   refine qB ?_
   refine aM (fun c=>by cases c) (fun _=>cp ?_)
   have hkl:kp<S3.length:=hex3.lt
   symm
   refine hm _ _ ?_
   symm
   refine bR aG ?_
   symm
   refine⟨⟨rfl,aG⟩,?_⟩
   symm
   by_cases hm0:qW w s= []
   ·rw[hm0]
    refine aM (fun c=>by cases c) (fun _=>cp ?_)
    exact⟨⟨s,last,_,_,rfl,hinv.mono (by omega)⟩,hex3.app⟩
   ·have hpos:0<(qW w s).length:=List.length_pos_iff.mpr hm0
    have hne:(!((qW w s).map vo).isEmpty)=true:=by
     cases hc:qW w s with
     |nil=>exact absurd hc hm0
     |cons a l=>rfl
    rw[hne,if_pos rfl]
    have hml:(qW w s).length<=4:=by
     have h1:=List.length_filter_le (fun h:Nat=> !decide ((h:Int)∈held s)&& !vM w s h) (List.range s.hands.length)
     have h2:=hinv.lh
     have h3:=ok.l4
     rw[List.length_range] at h1
     unfold qW
     omega
    symm
    refine CW (S0:=S1) hex3.app (by omega) aG hpos (by omega) fun h S4 hh e1 _ _=> ?_
    have hhl:h<s.hands.length:=List.mem_range.mp (List.mem_filter.mp hh).1
    obtain⟨⟨vs,fs⟩,hs⟩:∃p,s.hands[h]?=some p:=⟨_,gQe hhl⟩
    obtain⟨ts,pr,hw,hi⟩:=hinv.whand hs
    obtain⟨f,hf,fi⟩:=hi.last
    obtain⟨s',e,hst,hi',hsay,hrange⟩:=C7 ok hinv (by omega) hh hs hf
    symm
    refine xP hm hh hst ?_
    symm
    refine ak (d:=s'.d) rfl ?_
    exact⟨⟨s',h,_,_,rfl,hi'.mono (by omega)⟩,e1⟩
  ·rintro Γ' S' ⟨⟨s,last,b6,b7,rfl,hinv⟩,hex⟩
   exact⟨⟨_,_,_,_,_,_,_,rfl⟩,hex.keep _ _ h0 hS0⟩
 ·rintro Γ' S' ⟨⟨a1,a2,a3,a4,a5,a6,a7,rfl⟩,hS⟩
  symm
  have hl:=(gQs.mp hS).1
  refine fZ (S2:= [.frz (ns.map D.int)]) ⟨by show 1<=S'.length;omega,fun k o hk e=> ?_⟩ ?_ (fun k z=>(nomatch z)) rfl rfl
  ·have hk:k<1:=hk
   have:k=0:=by omega
   subst this
   rw[hS] at e
   exact .inl e
  ·cases S' with
   |nil=>simp at hl
   | cons a l=>
     simp at hS
     subst hS
     rfl
end W28
open PySem PySem.W PyProof.Rows L2 DL
theorem PySem.Challenge.cw_calledroom_k15_stands_along_holds : PySem.Challenge.rw_calledroom_k15_stands_along.Holds := by
  w_on; o_law; k_head; (case hw => w_witness2)
  k_fill
  refine DL.F0 (l := PySem.Challenge.rw_calledroom_k15_stands_along) (k := 14) rfl rfl ⟨rfl, by decide, by decide⟩ (fun w h Y => PySem.W.kIn_of Y) (fun w => ?nl) ?F
  case nl => rfl
  case F =>
    intro w mg fa h KX G hmg
    refine' W28.all_mk KX G hmg ?_ ?_ ?_ ?_ ?_ ?_ ?_ ?_ ?_ ?_ ?_ ?_ ?_ ?_ ?_ ?_ ?_ ?_ ?_ ?_ ?_ ?_ ?_ ?_ ?_ ?_ ?_ ?_ ?_ ?_ ?_ ?_ ?_ ?_ ?_ ?_ ?_ ?_ ?_ ?_ ?_ ?_ ?_ ?_ ?_ ?_ ?_ ?_ ?_ ?_ ?_ ?_ ?_ ?_ ?_ ?_ ?_ ?_ ?_ ?_ ?_ ?_ ?_ ?_ ?_ ?_ ?_ ?_ ?_ ?_ ?_ ?_ ?_ ?_ ?_ ?_ ?_ ?_ ?_ ?_ ?_ ?_ ?_ ?_ ?_ ?_ ?_ ?_ ?_ ?_ ?_ W28.Bb
    any_goals first | exact DL.aW.of (by k_is) (by k_is) (by k_is) (by k_is) | k_is
