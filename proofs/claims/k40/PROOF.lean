import PyProof.Rows.All
import Wide.FinOn
import KE.KEqDict
import KE.KSortTup
import KE.KUnpack
import KE.KDictOf
import KE.KFromBytes
import KE.KIsAll
import PySem.Challenge.RW_calledroom_k40_rings_told
set_option Elab.async false
set_option linter.all false
set_option compiler.extract_closed false
set_option maxRecDepth 100000
set_option maxHeartbeats 8000000
namespace PySem.W.Fast
def tw8415848263953379483:=trivial
def tw16424526978215066456:=trivial
def tw13277502906203028939:=trivial
def tw9492919511988123126:=trivial
def tw12350120878470582642:=trivial
def tw6108775801262121968:=trivial
def tw6008877513799192921:=trivial
def tw15905069238405142033:=trivial
def tw17099678877654239923:=trivial
def tw3489742700696342652:=trivial
def tw7725465516251488345:=trivial
def tw4769779712132390516:=trivial
def tw3675553108403947247:=trivial
def tw837449767904116634:=trivial
def tw7630325729466602289:=trivial
def tw17673576242511570775:=trivial
def tw9463069431738058807:=trivial
def tw12014753361093399470:=trivial
def tw16939248578566147221:=trivial
def tw3967757922595447396:=trivial
def tw6097470203295336046:=trivial
def tw11754685403785238452:=trivial
def tw2047789916321675627:=trivial
def tw12053624522762988688:=trivial
def tw13171854352831695984:=trivial
def tw17982809239232007554:=trivial
def tw3465956066048685861:=trivial
def tw1465147123434988933:=trivial
def tw4013892826896477284:=trivial
def tw13834261536129175616:=trivial
def tw14253744878043117641:=trivial
def tw11460622335870807698:=trivial
def tw9623736422866374105:=trivial
def tw3607496090792064613:=trivial
def tw7168157874659596658:=trivial
def tw6647224763048828057:=trivial
def tw7269822028448416006:=trivial
def tw7552188485832223557:=trivial
def tw12586044767564071763:=trivial
def tw10057448005574903461:=trivial
def tw16645900609119167402:=trivial
def tw10784663277645912795:=trivial
def tw6364488610175183715:=trivial
def tw7809057376579889538:=trivial
def tw4622180485485463464:=trivial
def tw2843876909807971746:=trivial
def tw12454635863796312455:=trivial
def tw11576201554085229147:=trivial
def tw2524942505059795381:=trivial
def tw16065015234986969902:=trivial
def tw8417074548193495544:=trivial
def tw8635654276414411528:=trivial
def tw13520432961441399044:=trivial
def tw4338395147540009147:=trivial
def tw7793901643078638981:=trivial
def tw13481448179508473882:=trivial
def tw17443596344899832484:=trivial
def tw6006072960769515753:=trivial
def tw16279291110460261223:=trivial
def tw3804007168158837805:=trivial
def tw12017006482328949697:=trivial
def tw10365020803833625455:=trivial
def tw462658979456717186:=trivial
def tw6073158788889705538:=trivial
def tw16600387892383526720:=trivial
def tw12525490418202147731:=trivial
def tw3346398713582572450:=trivial
def tw12020912155710171442:=trivial
def tw8156144362565081480:=trivial
def tw6593058927285014849:=trivial
def tw162196890116800249:=trivial
def tw10785571088764868812:=trivial
def tw6444158930131515284:=trivial
def tw9786415809314599991:=trivial
def tw8072525522334083929:=trivial
def tw2125358807501053305:=trivial
def tw16773726713130096911:=trivial
def tw4162770922916148252:=trivial
def tw5393103338028960228:=trivial
def tw14702309428209212980:=trivial
def tw9460871238689582784:=trivial
def tw6657756670094250202:=trivial
def tw389857898976079031:=trivial
def tw11000383046255580119:=trivial
def tw9624754375320202536:=trivial
def tw12354260181995485252:=trivial
def tw15445414291245604606:=trivial
def tw12739925141079640004:=trivial
def tw13844077010565620397:=trivial
def tw3446145487714626290:=trivial
def tw13154117254544605140:=trivial
def tw6821140975492340647:=trivial
def tw14592488983430885696:=trivial
def tw9557863921032448266:=trivial
def tw2725483810966775621:=trivial
def tw4839734675257074226:=trivial
def tw5574864430447316159:=trivial
def tw16861444974490620569:=trivial
def tw8278262832609308501:=trivial
def tw9620985958063479117:=trivial
def tw14501249118326364391:=trivial
def tw1589505265090419094:=trivial
def tw8593550611655499001:=trivial
def tw13620459080062106033:=trivial
def tw8441856564133211074:=trivial
def tw1127232058735465721:=trivial
def tw13542862827120519114:=trivial
def tw4722769885607270715:=trivial
def tw12613511255166232120:=trivial
def tw157749297119181183:=trivial
def tw9071290228056009436:=trivial
def tw8309618244457555392:=trivial
def tw89365587459767447:=trivial
def tw6027447531150749492:=trivial
def tw10358133093437560402:=trivial
def tw18187932457804010864:=trivial
def tw2714545372782269117:=trivial
def tw15086448922131501952:=trivial
def tw2314661520829679034:=trivial
def tw1577460366840419769:=trivial
def tw6120229771296637472:=trivial
def tw5698701255578576612:=trivial
def tw5997659477677239610:=trivial
def tw13754631342818927759:=trivial
def tw7218023105568247396:=trivial
def tw11857370934879438140:=trivial
def tw2417133804316549766:=trivial
def tw12997650895908578901:=trivial
def tw2502241958521831980:=trivial
def tw9563091004028729547:=trivial
def tw16201619391743388443:=trivial
def tw6441374041132293856:=trivial
def tw17710337613216577250:=trivial
def tw13845655126931325315:=trivial
def tw8756515287554296964:=trivial
def tw13467123124053652035:=trivial
def tw10014754046954347010:=trivial
def tw2494961809232592637:=trivial
def tw14569686051689560415:=trivial
def tw17115056978469157592:=trivial
def tw11671625332554423601:=trivial
def tw920361943013127283:=trivial
def tw16496117121811225983:=trivial
def tw14848977312618518470:=trivial
def tw15266460592202375211:=trivial
def tw1239483443194707253:=trivial
def tw5792747393715935736:=trivial
def tw3934959316768850475:=trivial
def tw16993440192050218889:=trivial
def tw7074933047170561192:=trivial
def tw14493268809242608765:=trivial
def tw14079719278907786186:=trivial
def tw5154852186982883879:=trivial
def tw11373835186695564165:=trivial
def tw10687521288043158408:=trivial
def tw6696173441798628030:=trivial
def tw8484070314696147114:=trivial
def tw8545798198988293865:=trivial
def tw5535282492741418998:=trivial
def tw1004866108783053084:=trivial
def tw7758931824290010376:=trivial
def tw8490591215225312049:=trivial
def tw8703299972701160865:=trivial
def tw8350850922457178588:=trivial
def tw10703868084068560104:=trivial
def tw14177554550013718751:=trivial
def tw4216893728664828929:=trivial
def tw9170491479409897471:=trivial
def tw12040644692273751385:=trivial
def tw15083596499704355782:=trivial
def tw7796313205340022360:=trivial
def tw10545245422480821657:=trivial
def tw11229418135992795537:=trivial
def tw1892062923250981116:=trivial
def tw17546126818381106682:=trivial
def tw5116382879252604801:=trivial
def tw9736053631818692068:=trivial
def tw13496676426455281651:=trivial
def tw13890927017158962815:=trivial
def tw2768205193856286516:=trivial
def tw14410319753905529812:=trivial
def tw16593833669304875649:=trivial
def tw13232701284054251424:=trivial
def tw18255022130386670663:=trivial
def tw15796267836759441443:=trivial
def tw990031089097585477:=trivial
def tw14202669902532343500:=trivial
def tw9503775384730633791:=trivial
def tw11076841197841138773:=trivial
def tw10620767801992151103:=trivial
def tw16428631872872693011:=trivial
def tw16639776458349835835:=trivial
def tw6276503625979820038:=trivial
def tw8415644341851266474:=trivial
def tw6047973693904143697:=trivial
def tw6737325356612372720:=trivial
def tw16810143032647838224:=trivial
def tw13219569076259798928:=trivial
def tw5833077715677395706:=trivial
def tw4830229349629382152:=trivial
def tw17644642932437531800:=trivial
def tw8937813264770529240:=trivial
def tw10126254799077269039:=trivial
def tw5162550038043334822:=trivial
def tw16348065148069336954:=trivial
def tw466418946702072401:=trivial
def tw6853940655061937279:=trivial
def tw9596301002846423306:=trivial
def tw3848539819662349670:=trivial
def tw3258262428536607271:=trivial
def tw430542782539435898:=trivial
def tw4563281435579903056:=trivial
def tw17674478583649707033:=trivial
def tw5790739349140899040:=trivial
def tw1344907719442580228:=trivial
def tw612336350569431693:=trivial
def tw7439205289117847971:=trivial
def tw6672770410462176500:=trivial
def tw17700444273820891348:=trivial
def tw6130598949728948602:=trivial
def tw551597575798318311:=trivial
def tw12452154785333869218:=trivial
def tw6642890291625975935:=trivial
def tw10959000406901364490:=trivial
def tw13937095893227275068:=trivial
def tw11065588841659203383:=trivial
def tw8971728559511012709:=trivial
def tw15393295058357710545:=trivial
def tw12630319609177641583:=trivial
def tw17927523038078638854:=trivial
def tw5194092124761945417:=trivial
def tw275129877808734295:=trivial
def tw12173279751227441919:=trivial
def tw11006268172668156392:=trivial
def tw17775792199057860565:=trivial
def tw2596087134886769372:=trivial
def tw6619827467971015830:=trivial
def tw10138770342273225514:=trivial
def tw125577579529287065:=trivial
def tw6239004582578159707:=trivial
def tw13886720533813079761:=trivial
def tw11415373050707013420:=trivial
def tw17665427531088666702:=trivial
def tw4955008775837428939:=trivial
def tw5435511956730673286:=trivial
def tw13523215930523045908:=trivial
def tw17589011178525705371:=trivial
def tw6388233798367555361:=trivial
def tw17629042408806193179:=trivial
def tw14535241327276254779:=trivial
def tw3653361581257872377:=trivial
def tw13254299794566509993:=trivial
def tw3479815397966981012:=trivial
def tw10820700717307656108:=trivial
def tw8632292465787389054:=trivial
def tw12686439842792370827:=trivial
def tw6304657750807026049:=trivial
def tw14656757984657660311:=trivial
def tw15840906926003275539:=trivial
def tw18115936218669165393:=trivial
def tw6328281962876286814:=trivial
def tw7436459087327500093:=trivial
def tw6919518627086450458:=trivial
def tw13451099268075695744:=trivial
def tw8498228852925268961:=trivial
def tw14631275012321341936:=trivial
def tw12488754261630327190:=trivial
def tw16670831510256626350:=trivial
def tw3970936442470984005:=trivial
def tw17186173102504343838:=trivial
def tw11640779853799612990:=trivial
def tw14358611495375961252:=trivial
def tw9929466355302204645:=trivial
def tw17427238669819294204:=trivial
def tw7989573812544845587:=trivial
def tw5922709787634371360:=trivial
def tw4971923300419866445:=trivial
def tw3143100666773835824:=trivial
def tw17214779392105929402:=trivial
def tw6133986242546321039:=trivial
def tw714695620692771423:=trivial
def tw5618773710845062591:=trivial
def tw8327181224023510566:=trivial
def tw6688598720469109753:=trivial
def tw12638700229428138815:=trivial
def tw610967460263375706:=trivial
def tw4599093397834658544:=trivial
def tw10214640532143957071:=trivial
def tw62400095086178952:=trivial
def tw11022780645198428274:=trivial
def tw6721936006659397567:=trivial
def tw3860619788788555195:=trivial
def tw9907631697430989275:=trivial
def tw9701280101999787156:=trivial
def tw6180000935180275869:=trivial
end PySem.W.Fast
set_option bootstrap.genMatcherCode false
set_option compiler.extract_closed false
noncomputable section
local macro_rules|`(tactic|omega)=>`(tactic|lia)
abbrev gQm:=@List.getElem?_map
abbrev lQm:=@List.length_map
abbrev mQg:=@List.mem_of_getElem?
abbrev oQm:=@Option.map_eq_some_iff
abbrev gQe:=@List.getElem?_eq_getElem
abbrev gQs:=@List.getElem?_eq_some_iff
abbrev lQa:=@List.length_append
abbrev nQl:=@Nat.le_of_lt
abbrev mQa:=@List.mem_append
abbrev Qaq:=@PySem.wpAny_bind
abbrev Qbq:=@Option.bind_some
abbrev Qcq:=@PySem.Heap.get?_push_of_some
abbrev Qdq:=@decide_eq_false
abbrev Qeq:=@decide_eq_true
abbrev Qfq:=@List.mem_singleton
abbrev Qgq:=@PySem.wpAny_pure
abbrev Qhq:=@if_pos
abbrev Qiq:=@PySem.Heap.lt_size
abbrev Qjq:=@List.size_toArray
abbrev Qkq:=@List.mem_map
abbrev Qlq:=@List.getD_eq_getElem?_getD
abbrev Qmq:=@Nat.le_refl
abbrev Qnq:=@List.length_cons
abbrev Qoq:=@List.mem_append_right
abbrev Qpq:=@List.mem_cons_of_mem
abbrev Qqq:=@Nat.lt_of_lt_of_le
abbrev Qrq:=@PySem.Heap.get?_push_size
abbrev Qsq:=@List.mem_cons
abbrev Qtq:=@Bool.false_ne_true
abbrev Quq:=@if_neg
abbrev Qvq:=@List.append_assoc
abbrev Qwq:=@Nat.ne_of_lt
abbrev Qxq:=@List.length_take
abbrev Qyq:=@List.getElem?_set_self
abbrev Qzq:=@List.map_append
abbrev QAq:=@Nat.le_trans
abbrev QBq:=@List.mem_cons_self
abbrev QCq:=@Bool.and_eq_true
abbrev QDq:=@List.map_cons
abbrev QEq:=@List.take_length
abbrev QFq:=@PySem.W.mg_none_of
abbrev QGq:=@List.length_nil
abbrev QHq:=@List.getElem?_append_left
abbrev QIq:=@List.length_replicate
abbrev QJq:=@List.Perm.append_right
abbrev QKq:=@List.getElem?_set_ne
abbrev QLq:=@PySem.wpAny_holding
abbrev QMq:=@PySem.wpAny_field
abbrev QNq:=@List.replicate_succ
abbrev QOq:=@List.mem_flatMap
abbrev QPq:=@List.map_map
abbrev QQq:=@List.getElem?_append_right
abbrev QRq:=@PySem.wpAny_mono
abbrev QSq:=@List.flatMap_cons
abbrev QTq:=@List.mem_or_eq_of_mem_set
abbrev QUq:=@List.all_eq_true
abbrev QVq:=@List.length_range
abbrev QWq:=@List.drop_eq_getElem_cons
abbrev QXq:=@List.not_mem_nil
abbrev QYq:=@List.take_add_one
abbrev QZq:=@of_decide_eq_true
abbrev QaQ:=@of_decide_eq_false
abbrev QbQ:=@List.getElem_of_mem
abbrev QcQ:=@List.mem_of_getLast?
abbrev QdQ:=@Option.some.inj
abbrev QeQ:=@List.of_mem_zip
abbrev QfQ:=@List.getLast?_map
abbrev QgQ:=@PySem.wpAny_ite_false
abbrev QhQ:=@PySem.wpAny_newObj_type
abbrev QiQ:=@PySem.wpAny_callSpecial?_slot
abbrev QjQ:=@List.Sublist.refl
abbrev QkQ:=@List.eq_of_mem_replicate
abbrev QlQ:=@List.map_replicate
namespace L2
open PySem PySem.Spec PyProof.Rows
abbrev Key:=Sum Int Str
noncomputable def rh:Key->Value->Bool
 |.inl k,v=>Value.isInt k v
 |.inr x,v=>Value.isStrOf x v
noncomputable def Oh(w:World):Key->Int
 |.inl k=>hashInt k
 |.inr x=>hashStr w x
def dh:∀{k:Key} {v:Value},rh k v=true->(∃i t,k=Sum.inl i/\v=Value.int i t)\/(∃x t,k=Sum.inr x/\v=Value.str x t)
 | .inl i,v,h=>by
   obtain⟨t,e⟩:=Value.isInt_shape (k:=i) (v:=v) h
   exact .inl ⟨i,t,rfl,e⟩
 | .inr x,v,h=>by
   obtain⟨t,e⟩:=Value.isStrOf_shape (x:=x) (v:=v) h
   exact .inr ⟨x,t,rfl,e⟩
def Dh(i:Int)(t:Tok):rh (.inl i) (.int i t)=true:=by simp[rh,Value.isInt]
def p5(x:Str)(t:Tok):rh (.inr x) (.str x t)=true:=by simp[rh,Value.isStrOf]
def Kh(a b:Int):decide ((Sum.inl a:Key)=Sum.inl b)=(a==b):=by
 by_cases e:a=b
 ·subst e;simp
 ·have h:¬(Sum.inl a:Key)=Sum.inl b:=λq=>e (Sum.inl.inj q)
  rw[Qdq h]
  exact(beq_eq_false_iff_ne.mpr e).symm
def JV(a b:Str):decide ((Sum.inr a:Key)=Sum.inr b)=decide (a=b):=by
 by_cases e:a=b
 ·subst e;simp
 ·have h:¬(Sum.inr a:Key)=Sum.inr b:=λq=>e (Sum.inr.inj q)
  rw[Qdq h,Qdq e]
def KN(a:Int)(b:Str):decide ((Sum.inl a:Key)=Sum.inr b)=false:=Qdq (λq=>nomatch q)
def JZ(a:Str)(b:Int):decide ((Sum.inr a:Key)=Sum.inl b)=false:=Qdq (λq=>nomatch q)
noncomputable def bW(prog:Program)(w:World):PySem.KeyKind prog w Key where
 is:=rh
 hash:=Oh w
 inj:=λv a b l f=>by
  rcases dh l with⟨i,t,rfl,rfl⟩|⟨x,t,rfl,rfl⟩
  ·rcases dh f with⟨j,u,rfl,e⟩|⟨y,u,rfl,e⟩
   ·injection e with c _;rw[c]
   ·exact nomatch e
  ·rcases dh f with⟨j,u,rfl,e⟩|⟨y,u,rfl,e⟩
   ·exact nomatch e
   ·injection e with c _;rw[c]
 byValue:=λk v h=>by
  rcases dh h with⟨i,t,rfl,rfl⟩|⟨x,t,rfl,rfl⟩ <;>rfl
 pyHash:=λd h=>by
  rcases dh d with⟨i,t,rfl,rfl⟩|⟨x,t,rfl,rfl⟩
  ·exact wpAny_pyHash_int h
  ·exact wpAny_pyHash_str h
 eqBool:=λg d h=>by
  rcases dh g with⟨i,t,rfl,rfl⟩|⟨x,t,rfl,rfl⟩
  ·rcases dh d with⟨j,u,rfl,rfl⟩|⟨y,u,rfl,rfl⟩
   ·rw[Kh] at h;exact wpAny_eqBool_int h
   ·rw[KN] at h;exact SeqAt.EqAt.int_str i t y u _ _ _ _ h
  ·rcases dh d with⟨j,u,rfl,rfl⟩|⟨y,u,rfl,rfl⟩
   ·rw[JZ] at h;exact SeqAt.EqAt.str_int x t j u _ _ _ _ h
   ·rw[JV] at h;exact wpAny_eqBool_str h
 «strs»:=λk x t v h=>by
  rcases dh h with⟨i,u,rfl,e⟩|⟨y,u,rfl,e⟩
  ·exact nomatch e
  ·injection e with c _
   subst c
   cases v <;>rfl
def yW(prog:Program)(w:World)(i:Int)(t:Tok):(bW prog w).is (.inl i) (.int i t)=true:=Dh i t
def Ad(prog:Program)(w:World)(x:Str)(t:Tok):(bW prog w).is (.inr x) (.str x t)=true:=p5 x t
inductive V where
 |non|bl (b:Bool)|int (i:Int)|str (x:Str)|byt (b:Array UInt8)|flt (b:UInt64)|ref (a:Addr)|ty (n:String)
 deriving DecidableEq
def RelV:V->Value->Prop
 |.non,u=>u=Value.none
 |.bl b,u=>u=Value.bool b
 |.int i,u=>∃t,u=Value.int i t
 |.str x,u=>∃t,u=Value.str x t
 |.byt b,u=>∃t,u=Value.bytes b t
 |.flt b,u=>∃t,u=Value.float b t
 |.ref a,u=>u=Value.ref a
 |.ty n,u=>u=Value.type n
abbrev bH:List V->List Value->Prop:=Paired RelV
def bH.length{xs:List V}{a:List Value}(r:bH xs a):xs.length=a.length:=Paired.length r
theorem bH.get:∀{xs:List V} {a:List Value} {i:Nat} {x:V},bH xs a->xs[i]?=some x->∃u,a[i]?=some u/\RelV x u
 |_,_,_,_,.nil,e=>by simp at e
 |_,_,0,_,.cons r _,e=>by simp at e;subst e;exact⟨_,rfl,r⟩
 | _,_,i+1,x,.cons _ t,e=>by
   obtain⟨u,c,b⟩:=bH.get (i:=i) (x:=x) t (by simpa using e)
   exact⟨u,by simpa using c,b⟩
theorem bH.set{x:V}{u:Value}(r:RelV x u):∀{xs:List V} {a:List Value} (i:Nat),bH xs a->bH (xs.set i x) (a.set i u)
 |_,_,_,.nil=>.nil
 |_,_,0,.cons _ t=>.cons r t
 |_,_,i+1,.cons q t=>.cons q (bH.set r i t)
theorem bH.append:∀{xs ys:List V} {a ws:List Value},bH xs a->bH ys ws->bH (xs++ys) (a++ws)
 |_,_,_,_,.nil,s=>s
 |_,_,_,_,.cons r t,s=>.cons r (bH.append t s)
theorem bH.take:∀{xs:List V} {a:List Value} (n:Nat),bH xs a->bH (xs.take n) (a.take n)
 |_,_,0,_=>.nil
 |_,_,_+1,.nil=>.nil
 |_,_,n+1,.cons r t=>.cons r (bH.take n t)
theorem bH.drop:∀{xs:List V} {a:List Value} (n:Nat),bH xs a->bH (xs.drop n) (a.drop n)
 |_,_,0,r=>r
 |_,_,_+1,.nil=>.nil
 |_,_,n+1,.cons _ t=>bH.drop n t
def sy:Option V->Option Value->Prop
 |some v,some u=>RelV v u
 |none,none=>True
 |_,_=>False
def KV{κ:Type}:List (κ×V)->List (κ×Value)->Prop:=Paired λ(p:κ×V) (q:κ×Value)=>p.1=q.1/\RelV p.2 q.2
noncomputable def kV:Key->V
 |.inl i=>.int i
 |.inr x=>.str x
inductive HO where
 |lst (xs:List V)
 |tup (xs:List V)
 |dK (kvs:List (Key×V))|dT (kvs:List (List Key×V))
 |set (S:Int->Bool) (n:Nat)
 |ins (C dx:Addr) (fs:List (Str×V))
 |own (x:Addr)
 |xd (fs:List (Str×V))
 |met (f x:Addr)
 |rng (lo hi:Int)
 |frz (o:Obj) (u:HO)
 |tbl (ps:Array Value)
 |ext (φ:Heap->Prop)
abbrev Hp:=Addr->Option HO
noncomputable def upd(H:Hp)(a:Addr)(o:HO):Hp:=λb=>if b=a then some o else H b
def bC{H:Hp}{a:Addr}{o:HO}:upd H a o a=some o:=by unfold upd;rw[Qhq rfl]
def bg{H:Hp}{a b:Addr}{o:HO}(h:b≠a):upd H a o b=H b:=by unfold upd;rw[Quq h]
def EZ{H:Hp}{a b:Addr}{o u:HO}(h:H a=some o)(h':H b=some u)(d:o≠u):a≠b:=by
 intro e;subst e;rw[h] at h';exact d (QdQ h')
def ft{H:Hp}{a b:Addr}{o:HO}(h:H a=some o)(h':H b=none):a≠b:=by
 intro e;subst e;rw[h] at h';cases h'
def ve(h:Heap)(a:Addr)(items:Array Value):Prop:=∃o,h.get? a=some o/\o.cls=.type "tuple" /\o.dict=none/\∃n,o.data=.seq items n
def ve.it{h:Heap}{a:Addr}{items:Array Value}(x:ve h a items):IsTup h a items:=by
 obtain⟨o,e,c,_,d⟩:=x
 exact⟨o,e,c,d⟩
def ve.new(h:Heap)(items:Array Value):ve (h.push {cls:=.type "tuple",data:=.seq items}) h.objs.size items:=⟨_,Qrq _ rfl,rfl,rfl,_,rfl⟩
section
variable(P:Program)(w:World)
def cG(H:Hp)(h:Heap)(a:Addr):HO->Prop
 |.lst d=>d.length<=sizeLine/\∃(c:List Value) (n:Nat),bH d c/\h.get? a=some {cls:=.type "list",data:=.seq c.toArray n}
 |.tup d=>d.length<=sizeLine/\∃c:List Value,bH d c/\ve h a c.toArray
 |.dK b=>b.length<=sizeLine/\(a==sysModules)=false/\∃m,KV b m/\h.DictOf (bW P w) a m
 |.dT b=>b.length<=sizeLine/\(a==sysModules)=false/\∃d:List (List Key×Addr×Value),
   Paired (λ(p:List Key×V) (q:List Key×Addr×Value)=>p.1=q.1/\H q.2.1=some (.tup (p.1.map kV))/\RelV p.2 q.2.2) b d∧
   ∃o r y,h.get? a=some o/\o.ExactDict/\o.data=.dict r y/\r.toList=d.map (entryOfKey (tupleKind (bW P w)))/\(d.map (·.1)).Nodup
 |.set S n=>h.SetOf (intKind P w) a S n
 |.ins C i g=>H i=some (.own a)/\g.length<=1000/\i≠a/\h.get? a=some (PySem.W.instObj C i)∧
   ∃e,h.Ns1 i e/\(∀f,sy (g.lookup f) (e f))/\PySem.Within e (g.map (·.1))
 |.own _=>∃o,h.get? a=some o
 |.xd g=>∃e,h.Ns1 a e/\∀f,sy (g.lookup f) (e f)
 |.rng s A=>∃t u v,h.get? a=some {cls:=.type "range",data:=.fields #[.int s t,.int A u,.int 1 v]}
 |.frz o u=>h.get? a=some o/\cG H h a u
 |.tbl z=>h.get? a=some {cls:=.none,data:=.fields z}
 |.met f x=>h.get? a=some (PySem.W.methodObj (.ref f) (.ref x))
 |.ext j=>j h/\(∃o,h.get? a=some o)/\∀l k:Heap,j l->(∀o,l.get? a=some o->k.get? a=some o)->j k
def oE(H:Hp)(h:Heap):Prop:=∀a o,H a=some o->cG P w H h a o
end
section
variable{P:Program}{w:World}{H H':Hp}{h h':Heap}{a:Addr}{o:HO}
theorem cG.lt(x:cG P w H h a o):a<h.objs.size:=by
 cases o with
 |lst d=>obtain⟨_,_,_,_,e⟩:=x;exact Qiq e
 |tup d=>obtain⟨_,_,_,p⟩:=x;exact p.it.lt
 |dK b=>obtain⟨_,_,_,_,o,_,_,e,_⟩:=x;exact Qiq e
 |dT b=>obtain⟨_,_,_,_,o,_,_,e,_⟩:=x;exact Qiq e
 |set S n=>obtain⟨o,_,_,_,e,_⟩:=x;exact Qiq e
 |ins C l c=>obtain⟨_,_,_,e,_⟩:=x;exact Qiq e
 |own y=>obtain⟨_,e⟩:=x;exact Qiq e
 |xd c=>obtain⟨_,⟨_,_,_,e,_⟩,_⟩:=x;exact Qiq e
 |rng i m=>obtain⟨_,_,_,e⟩:=x;exact Qiq e
 |frz g u=>obtain⟨e,_⟩:=x;exact Qiq e
 |tbl k=>exact Qiq (show h.get? a=some _ from x)
 |met f y=>exact Qiq (show h.get? a=some _ from x)
 |ext j=>obtain⟨_,⟨_,e⟩,_⟩:=x;exact Qiq e
theorem Paired.mapP{α c:Type}{F G:α->c->Prop}:∀{l₁:List α} {l₂:List c},Paired F l₁ l₂->(∀a b,F a b->G a b)->Paired G l₁ l₂
 |_,_,.nil,_=>.nil
 |_,_,.cons r t,f=>.cons (f _ _ r) (Paired.mapP t f)
def cG.stay(x:cG P w H h a o)(k:∀b u,(b=a\/H b=some (.own a))->h.get? b=some u->h'.get? b=some u)
  (L:∀b,H b=some (.own a)->H' b=some (.own a)) (ht:∀b xs,H b=some (.tup xs)->H' b=some (.tup xs)):cG P w H' h' a o:=by
 induction o with
 |lst xs=>obtain⟨z,l,n,r,e⟩:=x;exact⟨z,l,n,r,k _ _ (.inl rfl) e⟩
 |tup xs=>obtain⟨z,l,r,g,e,c⟩:=x;exact⟨z,l,r,g,k _ _ (.inl rfl) e,c⟩
 |dK m=>obtain⟨z,y,K,r,g,j,i,e,c⟩:=x;exact⟨z,y,K,r,g,j,i,k _ _ (.inl rfl) e,c⟩
 | dT m=>
   obtain⟨z,y,xs,r,g,j,i,e,c⟩:=x
   exact⟨z,y,xs,Paired.mapP r λp q z=>⟨z.1,ht _ _ z.2.1,z.2.2⟩,g,j,i,k _ _ (.inl rfl) e,c⟩
 |set S n=>obtain⟨g,j,i,t,e,c⟩:=x;exact⟨g,j,i,t,k _ _ (.inl rfl) e,c⟩
 | ins C R I=>
   obtain⟨d,z,M,e,A,⟨s,j,i,G,c⟩,r⟩:=x
   exact⟨L _ d,z,M,k _ _ (.inl rfl) e,A,⟨s,j,i,k _ _ (.inr d) G,c⟩,r⟩
 |own y=>obtain⟨g,e⟩:=x;exact⟨g,k _ _ (.inl rfl) e⟩
 |xd I=>obtain⟨A,⟨s,j,i,e,c⟩,r⟩:=x;exact⟨A,⟨s,j,i,k _ _ (.inl rfl) e,c⟩,r⟩
 |rng N U=>obtain⟨t,u,v,e⟩:=x;exact⟨t,u,v,k _ _ (.inl rfl) e⟩
 |frz g u J=>obtain⟨e,q⟩:=x;exact⟨k _ _ (.inl rfl) e,J q⟩
 | tbl F=>
   have e:h.get? a=some {cls:=.none,data:=.fields F}:=x
   show h'.get? a=some {cls:=.none,data:=.fields F}
   exact k a _ (.inl rfl) e
 | met f y=>
   have e:h.get? a=some (PySem.W.methodObj (.ref f) (.ref y)):=x
   show h'.get? a=some (PySem.W.methodObj (.ref f) (.ref y))
   exact k a _ (.inl rfl) e
 |ext Q=>obtain⟨p,⟨o,e⟩,B⟩:=x;exact⟨B _ _ p λo q=>k _ _ (.inl rfl) q,⟨o,k _ _ (.inl rfl) e⟩,B⟩
def oE.lt(x:oE P w H h)(e:H a=some o):a<h.objs.size:=(x a o e).lt
def oE.fresh(x:oE P w H h)(e:h.objs.size<=a):H a=none:=by
 cases q:H a with
 |none=>rfl
 |some u=>exact absurd (Qqq (x.lt q) e) (Nat.lt_irrefl _)
def oE.kept(x:oE P w H h)(k:∀b u,h.get? b=some u->h'.get? b=some u):oE P w H h':=λa o e=>
 (x a o e).stay (λb u _ q=>k b u q) (λ_ q=>q) λ_ _ q=>q
def oE.laid(x:oE P w H h)(k:∀b u,h.get? b=some u->h'.get? b=some u)(g:h.objs.size<=a)(new:cG P w (upd H a o) h' a o):oE P w (upd H a o) h':=λb u e=>by
 have f:=x.fresh g
 by_cases d:b=a
 ·subst d;rw[bC] at e;cases e;exact new
 ·rw[bg d] at e
  exact(x b u e).stay (λc v _ q=>k c v q) (λc q=>by rw[bg (ft q f)];exact q) λc i q=>by rw[bg (ft q f)];exact q
end
def Rd(H:Hp)(a:Addr)(u:HO):Prop:=H a=some u\/∃o,H a=some (.frz o u)
def Rd.ok{P:Program}{w:World}{H:Hp}{h:Heap}{a:Addr}{u:HO}(r:Rd H a u)(x:oE P w H h):cG P w H h a u:=by
 rcases r with r|⟨o,r⟩
 ·exact x a u r
 ·obtain⟨_,q⟩:=x a _ r
  exact q
def MG:Option HO->Prop
 |some (.lst _)=>True
 |some (.dK _)=>True
 |some (.dT _)=>True
 |some (.set _ _)=>True
 |some (.ins _ _ _)=>True
 |some (.ext _)=>True
 |_=>False
section
variable{P:Program}{w:World}{H:Hp}{h h':Heap}{x e:Addr}{o':HO}
def oE.write(ok:oE P w H h)(l:MG (H x))(he:e=x\/H e=some (.own x))(k:∀b u,b≠e->h.get? b=some u->h'.get? b=some u)(m:∃u,h'.get? e=some u)
  (new:cG P w (upd H x o') h' x o'):oE P w (upd H x o') h':=λb u q=>by
 have d:∀c y,H c=some (.own y)->c≠x:=λc y r z=>by subst z;rw[r] at l;exact l
 have f:∀c g,H c=some (.tup g)->c≠x:=λc g r z=>by subst z;rw[r] at l;exact l
 by_cases j:b=x
 ·subst j;rw[bC] at q;cases q;exact new
 ·rw[bg j] at q
  by_cases a:b=e
  ·have n:H b=some (.own x):=by
    rcases he with z|z
    ·exact absurd (a.trans z) j
    ·rw[a];exact z
   rw[q] at n;cases n
   obtain⟨v,o⟩:=m
   exact⟨v,by rw[a];exact o⟩
  ·refine(ok b u q).stay (λc v i r=>k c v ?_ r) (λc r=>by rw[bg (d c b r)];exact r) λc g r=>by rw[bg (f c g r)];exact r
   rcases i with rfl|i
   ·exact a
   ·rintro rfl
    rcases he with z|z
    ·exact d c b i z
    ·rw[i] at z;cases z;exact j rfl
end
structure Un(fs ex:List Addr)(H H':Hp)(h h':Heap):Prop where
 keep:∀b o,h.get? b=some o->H b=none->b∉fs->b∉ex->h'.get? b=some o
 slot:∀b o,h.get? b=some o->H b=none->b∈fs->b∉ex->∃sl,h'.get? b=some {o with slots:=sl}
 free:∀b o,h.get? b=some o->H b=none->b∉ex->H' b=none
 there:∀b o,h.get? b=some o->b∉ex->∃o',h'.get? b=some o'
 tups:∀b xs,H b=some (.tup xs)->H' b=some (.tup xs)
 frzs:∀b o u,H b=some (.frz o u)->H' b=some (.frz o u)
 tbls:∀b ps,H b=some (.tbl ps)->∃more,H' b=some (.tbl (ps++more))
section
variable{fs fs' ex ex':List Addr}{H H1 H2:Hp}{h h1 h2 h':Heap}{a x e:Addr}{o:HO}
def Un.any(u:Un fs ex H H1 h h1){b:Addr}{c:Obj}(q:h.get? b=some c)(n:H b=none)(f:b∉ex):∃g,h1.get? b=some {c with slots:=g}:=by
 by_cases d:b∈fs
 ·exact u.slot b c q n d f
 ·exact⟨c.slots,u.keep b c q n d f⟩
def Un.kept(k:∀b u,h.get? b=some u->h'.get? b=some u):Un fs ex H H h h':=
 ⟨λb c q _ _ _=>k b c q,λb c q _ _ _=>⟨c.slots,k b c q⟩,λ_ _ _ n _=>n,λb c q _=>⟨c,k b c q⟩,λ_ _ q=>q,λ_ _ _ q=>q,λ_ d q=>⟨#[],by rw[q];simp⟩⟩
def Un.refl:Un fs ex H H h h:=Un.kept λ_ _ q=>q
def Un.laid(k:∀b u,h.get? b=some u->h'.get? b=some u)(f:h.objs.size<=a)(c:H a=none):Un fs ex H (upd H a o) h h' where
 keep:=λb u q _ _ _=>k b u q
 slot:=λb u q _ _ _=>⟨u.slots,k b u q⟩
 free:=λb u q n _=>by rw[bg (Qwq (Qqq (Qiq q) f))];exact n
 there:=λb u q _=>⟨u,k b u q⟩
 tups:=λb d q=>by rw[bg (ft q c)];exact q
 frzs:=λb u d q=>by rw[bg (ft q c)];exact q
 tbls:=λb g q=>⟨#[],by rw[bg (ft q c),q];simp⟩
def Un.write(d:MG (H x))(he:e=x\/H e=some (.own x))(k:∀b u,b≠e->h.get? b=some u->h'.get? b=some u)(g:∃u,h'.get? e=some u):Un fs ex H (upd H x o) h h':=by
 have j:∀b,H b=none->b≠x:=λb n z=>by subst z;rw[n] at d;exact d
 have i:∀b,H b=none->b≠e:=λb n z=>by
  subst z
  rcases he with r|r
  ·exact j b n r
  ·rw[n] at r;cases r
 have f:∀b u,H b=some u->¬MG (some u)->b≠x:=λb u q nm z=>by subst z;rw[q] at d;exact nm d
 refine⟨λb u q n _ _=>k b u (i b n) q,λb u q n _ _=>⟨u.slots,k b u (i b n) q⟩,λb u q n _=>by rw[bg (j b n)];exact n,λb u q _=> ?_,
  λb l q=>by rw[bg (f b _ q λz=>z)];exact q,λb u l q=>by rw[bg (f b _ q λz=>z)];exact q,λb m q=>⟨#[],by rw[bg (f b _ q λz=>z),q];simp⟩⟩
 by_cases c:b=e
 ·subst c;exact g
 ·exact⟨u,k b u c q⟩
end
noncomputable def Ng(h:Heap)(H:Hp):List Addr:=(List.range h.objs.size).filter λa=>(H a).isSome
noncomputable def yf(h:Heap)(H:Hp):Heap:=PySem.W.hideAll h (Ng h H)
def C5(h:Heap)(H:Hp):(yf h H).objs.size=h.objs.size:=PySem.W.hideAll_size _ _
def Gc{h:Heap}{H:Hp}{b:Addr}{o:Obj}(e:h.get? b=some o)(n:H b=none):(yf h H).get? b=some o:=
 PySem.W.hideAll_get _ e λa=>by
  have q:(H b).isSome=true:=(List.mem_filter.mp a).2
  rw[n] at q;simp at q
def G_{h:Heap}{H:Hp}{b:Addr}{o:Obj}(e:(yf h H).get? b=some o):h.get? b=some o/\H b=none:=by
 have a:h.get? b=some o:=PySem.W.of_hideAll (Ng h H) e
 refine⟨a,?_⟩
 cases q:H b with
 |none=>rfl
 | some x=>
   have c:b∈Ng h H:=List.mem_filter.mpr ⟨List.mem_range.mpr (Qiq a),by simp[q]⟩
   have z:(yf h H).get? b=none:=PySem.W.hideAll_none (Ng h H) c
   rw[z] at e;cases e
structure Mod(K:PySem.W.Frag)(mg:Str->Option Value)(base:Heap):Prop where
 kin:K.In base
 glob:base.Ns mainGlobals mg
 blt:∃mb,base.Ns builtinsNs mb/\∀x:Str,x≠"__name__" ->mb x=bootBuiltins x
 nolimit:base.NoLimit
structure Cx where
 prog:Program
 w:World
 K:PySem.W.Frag
 mg:Str->Option Value
 base:Heap
 A:Around
 N:List Str
 s₀:Shared
 H₀:Hp
 env:Env
 outer:List Env
 stack:List Env
 ex:List Addr
 fn:Str->Bool
 calm:Bool
 pn:List (Addr×Obj)
 xe:Value->Shared->Prop
noncomputable def Fu(l:List Env):List Addr:=l.filterMap (·.frame)
noncomputable abbrev Cx.fs(X:Cx):List Addr:=Fu X.outer
def IB(a:Scope)(x:Str):Prop:=a.names.lookup x=some .local\/a.names.lookup x=some .cell\/a.names.lookup x=some .free
def Loc(a:Scope)(x:Str):Prop:=a.names.lookup x=some .local\/a.names.lookup x=some .cell
def Look(env:Env)(h:Heap)(m:Str->Option Value)(x:Str)(u:Value):Prop:=
 (env.kindOf x=some .local/\m x=some u)\/((env.kindOf x=some .cell\/env.kindOf x=some .free)/\∃c,env.cells.lookup x=some c/\h.IsCell c (some u))
structure Cx.Ok(X:Cx):Prop where
 mod:Mod X.K X.mg X.base
 kind:X.env.scope.kind=.function
 glob:X.env.globals=mainGlobals
 blt:X.env.builtins=builtinsNs
 above:X.s₀.heap.objs.size<=X.env.locals
 inj:∀x y c,X.env.cells.lookup x=some c->X.env.cells.lookup y=some c->x=y
 has:∀x,(X.env.kindOf x=some .cell\/X.env.kindOf x=some .free)->∃c,X.env.cells.lookup x=some c
 cab:∀x c,X.fn x=true->X.env.cells.lookup x=some c->X.s₀.heap.objs.size<=c
 hd:X.calm=true->X.A.handled=none
 frames:X.A.frames=some X.stack
 stk:X.stack=X.outer\/(X.stack=X.env::X.outer/\X.env.frame=some X.env.locals)
 exf:∀b∈X.ex,b≠X.env.locals/\∀x c,X.env.cells.lookup x=some c->c≠b
 bs:∀b o,X.base.get? b=some o->X.s₀.heap.get? b=some o/\X.H₀ b=none
 bsz:X.base.objs.size<=X.s₀.heap.objs.size
 noex:∀b o,X.base.get? b=some o->b∉X.ex
 exfs:∀b∈X.ex,b∉X.fs
 funs:X.s₀.heap.FunFrames X.base X.outer
 frf:∀b∈X.fs,X.H₀ b=none
structure Inv(X:Cx)(pins:List (Addr×Obj))(σ:List (Option V))(H:Hp)(s:Shared):Prop where
 ok:X.Ok
 os:s.os=X.s₀.os
 bare:AllBare s.gens
 base:Un X.fs X.ex X.H₀ H X.s₀.heap s.heap
 loc:∃m,s.heap.Ns X.env.locals m/\∀(i:Nat) (x:Str) (v:V),X.N[i]?=some x->σ[i]?=some (some v)->IB X.env.scope x->∃u,RelV v u/\Look X.env s.heap m x u
 cell:∀x c,X.env.cells.lookup x=some c->∃v,s.heap.IsCell c v
 free:H X.env.locals=none
 freeC:∀x c,X.env.cells.lookup x=some c->H c=none
 pin:∀p∈X.pn++pins,s.heap.get? p.1=some p.2/\H p.1=none/\p.1≠X.env.locals/\p.1∉X.fs/\∀v,p.2.data≠.cell v
 hok:oE X.prog X.w H s.heap
 len:σ.length=X.N.length
section
variable{X:Cx}{pins:List (Addr×Obj)}{σ:List (Option V)}{H H':Hp}{s:Shared}{h':Heap}
def Cx.Ok.nofr(ok:X.Ok){b:Addr}{o:Obj}(e:X.base.get? b=some o):b∉X.fs:=λa=>by
 have:=(ok.funs.mem a).1
 rw[e] at this;cases this
def Inv.bs(I:Inv X pins σ H s):∀b o,X.base.get? b=some o->s.heap.get? b=some o/\H b=none:=λb o e=>
 ⟨I.base.keep b o (I.ok.bs b o e).1 (I.ok.bs b o e).2 (I.ok.nofr e) (I.ok.noex b o e),I.base.free b o (I.ok.bs b o e).1 (I.ok.bs b o e).2 (I.ok.noex b o e)⟩
def Inv.bk(I:Inv X pins σ H s):∀b o,X.base.get? b=some o->s.heap.get? b=some o:=λb o e=>(I.bs b o e).1
def Inv.mod(I:Inv X pins σ H s):Mod X.K X.mg X.base:=I.ok.mod
def Inv.kIn(I:Inv X pins σ H s):X.K.In s.heap:=I.ok.mod.kin.keeps I.bk
def Inv.lt(I:Inv X pins σ H s):X.env.locals<s.heap.objs.size:=let ⟨_,hn,_⟩:=I.loc;hn.lt
def Inv.sz(I:Inv X pins σ H s):X.s₀.heap.objs.size<=s.heap.objs.size:=QAq I.ok.above (nQl I.lt)
def Inv.nofs(I:Inv X pins σ H s){a:Addr}(h:s.heap.objs.size<=a):a∉X.fs:=λb=>by
 obtain⟨_,o,c,_⟩:=I.ok.funs.mem b
 exact absurd (Qqq (Qiq c) (QAq I.sz h)) (Nat.lt_irrefl _)
def Inv.cne(I:Inv X pins σ H s):∀x c,X.env.cells.lookup x=some c->c≠X.env.locals:=λx c e z=>by
 obtain⟨v,o,d,f⟩:=I.cell x c e
 obtain⟨m,⟨h,g,i,b,a,_⟩,_⟩:=I.loc
 rw[z,b] at d;cases d;rw[a] at f;cases f
theorem Inv.funs(I:Inv X pins σ H s):s.heap.FunFrames X.base X.outer:=by
 have a:∀(l:List Env),(∀b∈Fu l,b∈X.fs)->X.s₀.heap.FunFrames X.base l->s.heap.FunFrames X.base l:=by
  intro l
  induction l with
  |nil=>intro _ _;trivial
  | cons p r i=>
    intro g hl
    obtain⟨n,⟨L,o,c,h,m,k⟩,j⟩:=hl
    have f:L∈X.fs:=g L (by unfold Fu;rw[List.filterMap_cons,c];exact QBq)
    obtain⟨q,e⟩:=I.base.slot L o m (I.ok.frf L f) f λz=>I.ok.exfs L z f
    exact⟨n,⟨L,_,c,h,e,k⟩,i (λb d=>g b (by unfold Fu;rw[List.filterMap_cons,c];exact Qpq _ d)) j⟩
 exact a X.outer (λ_ d=>d) I.ok.funs
def Inv.stack(I:Inv X pins σ H s):s.heap.FunFrames X.base X.stack:=by
 rcases I.ok.stk with e|⟨e,a⟩
 ·rw[e];exact I.funs
 ·rw[e]
  obtain⟨m,b,_⟩:=I.loc
  refine .cons (by rw[I.ok.kind];decide) a b ?_ I.funs
  exact Heap.get?_none_of_le (QAq I.ok.bsz I.ok.above)
def Inv.stkSub(I:Inv X pins σ H s):∀b∈Fu X.stack,b∈X.env.locals::X.fs:=λb a=>by
 rcases I.ok.stk with e|⟨e,c⟩
 ·rw[e] at a;exact Qpq _ a
 ·rw[e] at a
  unfold Fu at a
  rw[List.filterMap_cons,c] at a
  exact a
def Inv.stkFree(I:Inv X pins σ H s):∀b∈Fu X.stack,H b=none:=λb a=>by
 rcases Qsq.mp (I.stkSub b a) with e|a
 ·rw[e];exact I.free
 ·obtain⟨_,o,c,_⟩:=I.ok.funs.mem a
  exact I.base.free b o c (I.ok.frf b a) λz=>I.ok.exfs b z a
def Inv.step{g':Array GenState}{t':Nat}{d':Drawn}{ch:List Addr}(I:Inv X pins σ H s)
  (f:∀b∈ch,(b∈X.ex\/X.s₀.heap.objs.size<=b)/\b≠X.env.locals/\(∀x c,X.env.cells.lookup x=some c->c≠b)/\∀p∈X.pn++pins,p.1≠b)
  (keep:∀b o,b≠X.env.locals->b∉X.fs->b∉ch->s.heap.get? b=some o->H b=none->h'.get? b=some o)
  (slot:∀b o,b≠X.env.locals->b∈X.fs->b∉ch->s.heap.get? b=some o->H b=none->∃F,h'.get? b=some {o with slots:=F}) (free:∀b o,b∉ch->s.heap.get? b=some o->H b=none->H' b=none)
  (there:∀b o,b∉ch->s.heap.get? b=some o->∃o',h'.get? b=some o')
  (tups:∀b xs,H b=some (.tup xs)->H' b=some (.tup xs)) (frzs:∀b o u,H b=some (.frz o u)->H' b=some (.frz o u)) (tbls:∀b ps,H b=some (.tbl ps)->∃more,H' b=some (.tbl (ps++more)))
  (ns:∀m,s.heap.Ns X.env.locals m->h'.Ns X.env.locals m) (J:oE X.prog X.w H' h') (Q:AllBare g'):
  Inv X pins σ H' {s with heap:=h',gens:=g',drawn:=d',toks:=t'}:=by
 have C:∀b o,X.s₀.heap.get? b=some o->b≠X.env.locals:=λb o e=>Qwq (Qqq (Qiq e) I.ok.above)
 have j:∀b o,X.s₀.heap.get? b=some o->b∉X.ex->b∉ch:=λb o e a y=>by
  rcases(f b y).1 with z|z
  ·exact a z
  ·exact absurd (Qqq (Qiq e) z) (Nat.lt_irrefl _)
 have h:∀x c,X.env.cells.lookup x=some c->∀v,s.heap.IsCell c v->h'.IsCell c v:=λx c e v S=>by
  obtain⟨o,A,K⟩:=S
  have g:c∉ch:=λz=>(f c z).2.2.1 x c e rfl
  by_cases M:c∈X.fs
  ·obtain⟨F,q⟩:=slot c o (I.cne x c e) M g A (I.freeC x c e)
   exact⟨_,q,K⟩
  ·exact⟨o,keep c o (I.cne x c e) M g A (I.freeC x c e),K⟩
 refine⟨I.ok,I.os,Q,⟨λb o e n y a=> ?_,λb o e n y a=> ?_,λb o e n a=> ?_,λb o e a=> ?_,λb xs e=>tups b xs (I.base.tups b xs e),λb o xs e=>frzs b o xs (I.base.frzs b o xs e),λb ps e=> ?_⟩,?_,λx c e=> ?_,?_,λx c e=> ?_,λp L=> ?_,J,I.len⟩
 ·exact keep b o (C b o e) y (j b o e a) (I.base.keep b o e n y a) (I.base.free b o e n a)
 ·obtain⟨F,t⟩:=I.base.slot b o e n y a
  obtain⟨G,B⟩:=slot b _ (C b o e) y (j b o e a) t (I.base.free b o e n a)
  exact⟨G,B⟩
 ·obtain⟨o',t⟩:=I.base.there b o e a
  exact free b o' (j b o e a) t (I.base.free b o e n a)
 ·obtain⟨o',t⟩:=I.base.there b o e a
  exact there b o' (j b o e a) t
 ·obtain⟨U,t⟩:=I.base.tbls b ps e
  obtain⟨Y,B⟩:=tbls b _ t
  exact⟨U++Y,by rw[B,Array.append_assoc]⟩
 ·obtain⟨m,R,hl⟩:=I.loc
  refine⟨m,ns m R,λi x v t B W=> ?_⟩
  obtain⟨u,r,l⟩:=hl i x v t B W
  refine⟨u,r,?_⟩
  rcases l with l|⟨k,c,e,z⟩
  ·exact .inl l
  ·exact .inr ⟨k,c,e,h x c e _ z⟩
 ·obtain⟨v,z⟩:=I.cell x c e
  exact⟨v,h x c e v z⟩
 ·obtain⟨m,⟨o,_,_,A,_⟩,_⟩:=I.loc
  exact free _ o (λz=>(f _ z).2.1 rfl) A I.free
 ·obtain⟨v,o,A,K⟩:=I.cell x c e
  exact free c o (λz=>(f c z).2.2.1 x c e rfl) A (I.freeC x c e)
 ·obtain⟨e,n,N,P,d⟩:=I.pin p L
  have g:p.1∉ch:=λz=>(f p.1 z).2.2.2 p L rfl
  exact⟨keep p.1 p.2 N P g e n,free p.1 p.2 g e n,N,P,d⟩
def Inv.un{t':Nat}(I:Inv X pins σ H s)(u:Un X.fs [] H H' s.heap h')(d:oE X.prog X.w H' h'):Inv X pins σ H' {s with heap:=h',toks:=t'}:=by
 obtain⟨m,⟨o,t,p,h,r⟩,_⟩:=id I.loc
 obtain⟨l,k⟩:=u.any h I.free (by simp)
 exact I.step (g':=s.gens) (d':=s.drawn) (ch:= []) (λ_ z=>nomatch z) (λb o _ f _ e n=>u.keep b o e n f (by simp)) (λb o _ f _ e n=>u.slot b o e n f (by simp)) (λb o _ e n=>u.free b o e n (by simp)) (λb o _ e=>u.there b o e (by simp)) u.tups u.frzs u.tbls (λq j=>by
  obtain⟨v,g,c,a,i⟩:=j
  rw[h] at a;cases a
  exact⟨_,g,c,k,i⟩) d I.bare
def Inv.call{g':Array GenState}{t':Nat}{d':Drawn}{ch:List Addr}(I:Inv X pins σ H s)(u:Un (Fu X.stack) ch H H' s.heap h')(h:oE X.prog X.w H' h')(l:AllBare g')
  (d:∀b∈ch,(b∈X.ex\/X.s₀.heap.objs.size<=b)/\b≠X.env.locals/\(∀x c,X.env.cells.lookup x=some c->c≠b)/\∀p∈X.pn++pins,p.1≠b):
  Inv X pins σ H' {s with heap:=h',gens:=g',drawn:=d',toks:=t'}:=by
 obtain⟨m,⟨o,C,A,k,r⟩,_⟩:=id I.loc
 obtain⟨y,j⟩:=u.any k I.free λz=>(d _ z).2.1 rfl
 exact I.step (ch:=ch) d (λb o j t a e n=>u.keep b o e n (λz=>(Qsq.mp (I.stkSub b z)).elim j t) a) (λb o _ _ a e n=>u.any e n a) (λb o a e n=>u.free b o e n a) (λb o a e=>u.there b o e a) u.tups u.frzs u.tbls (λB v=>by
  obtain⟨F,i,g,f,q⟩:=v
  rw[k] at f;cases f
  exact⟨_,i,g,j,q⟩) h l
def Inv.turned{t':Nat}{it:Addr}(I:Inv X pins σ H s)(k:∀b o,b≠it->s.heap.get? b=some o->h'.get? b=some o)(g:H it=none)(f:it≠X.env.locals)
  (i:it∈X.ex\/X.s₀.heap.objs.size<=it) (h:∀x c,X.env.cells.lookup x=some c->c≠it) (j:∀p∈X.pn++pins,p.1≠it):Inv X pins σ H {s with heap:=h',toks:=t'}:=by
 have d:∀b u,H b=some u->b≠it:=λb u e z=>by rw[z,g] at e;cases e
 refine I.step (g':=s.gens) (d':=s.drawn) (ch:= [it]) (λb t=> ?_) (λb o _ _ a e _=>k b o (λz=>a (by simp[z])) e) (λb o _ _ a e _=>⟨o.slots,k b o (λz=>a (by simp[z])) e⟩) (λ_ _ _ _ n=>n)
  (λb o a e=>⟨o,k b o (λz=>a (by simp[z])) e⟩) (λ_ _ e=>e) (λ_ _ _ e=>e) (λb B e=>⟨#[],by rw[e];simp⟩) (λm A=> ?_) (λb u e=> ?_) I.bare
 ·have e:b=it:=by simpa using t
  subst e
  exact⟨i,f,h,j⟩
 ·obtain⟨o,y,l,w,r⟩:=A
  exact⟨o,y,l,k _ o (Ne.symm f) w,r⟩
 ·refine(I.hok b u e).stay (λc v a q=>k c v ?_ q) (λ_ q=>q) λ_ _ q=>q
  rcases a with z|z
  ·rw[z];exact d b u e
  ·exact d c _ z
def Inv.tok(I:Inv X pins σ H s)(t:Nat):Inv X pins σ H {s with toks:=t}:=I.un (h':=s.heap) (t':=t) Un.refl I.hok
def Inv.kept{t':Nat}(I:Inv X pins σ H s)(k:∀b u,s.heap.get? b=some u->h'.get? b=some u):Inv X pins σ H {s with heap:=h',toks:=t'}:=I.un (Un.kept k) (I.hok.kept k)
def Inv.laid{a:Addr}{o:HO}{t':Nat}(I:Inv X pins σ H s)(k:∀b u,s.heap.get? b=some u->h'.get? b=some u)(c:s.heap.objs.size<=a)(new:cG X.prog X.w (upd H a o) h' a o):
  Inv X pins σ (upd H a o) {s with heap:=h',toks:=t'}:=I.un (Un.laid k c (I.hok.fresh c)) (I.hok.laid k c new)
def Inv.write{x e:Addr}{o:HO}{t':Nat}(I:Inv X pins σ H s)(c:MG (H x))(he:e=x\/H e=some (.own x))(k:∀b u,b≠e->s.heap.get? b=some u->h'.get? b=some u)(a:∃u,h'.get? e=some u)
  (new:cG X.prog X.w (upd H x o) h' x o):Inv X pins σ (upd H x o) {s with heap:=h',toks:=t'}:=I.un (Un.write c he k a) (I.hok.write c he k a new)
def Inv.pins_of{a:List (Addr×Obj)}(I:Inv X pins σ H s)(h:∀p∈a,s.heap.get? p.1=some p.2/\H p.1=none/\p.1≠X.env.locals/\p.1∉X.fs/\∀v,p.2.data≠.cell v):Inv X a σ H s:=
 ⟨I.ok,I.os,I.bare,I.base,I.loc,I.cell,I.free,I.freeC,λp b=>(mQa.mp b).elim (λz=>I.pin p (List.mem_append_left _ z)) (h p),I.hok,I.len⟩
def yJ{N:List Str}(c:N.Nodup){i j:Nat}{x:Str}(a:N[i]?=some x)(b:N[j]?=some x):i=j:=by
 obtain⟨g,e⟩:=gQs.mp a
 obtain⟨f,d⟩:=gQs.mp b
 exact(List.getElem_inj c).mp (e.trans d.symm)
def D4{M:Model}{A:Around}{E:Value->Shared->Prop}{i:Nat}{x:Str}{v:V}{u:Value}{Q:Unit->Shared->Prop}(I:Inv X pins σ H s)(hN:X.N.Nodup)(hi:X.N[i]?=some x)(B:Loc X.env.scope x)(r:RelV v u)
  (h:∀s',Inv X pins (σ.set i (some v)) H s'->(∃a,Heap.SameBut a s.heap s'.heap/\(a=X.env.locals\/X.env.cells.lookup x=some a))->Q () s') (hf:X.fn x=true\/X.env.scope.names.lookup x=some .local:=by first|exact .inl rfl|exact .inr rfl|assumption):wpAny M A (storeName X.env x u) Q E s:=by
 obtain⟨m,hn,hl⟩:=id I.loc
 have W:(X.env.scope.kind==.class||(X.env.scope.kind==.module&&X.env.locals !=X.env.globals))=false:=by rw[I.ok.kind];rfl
 have G:i<σ.length:=by rw[I.len];exact(gQs.mp hi).1
 have L:=I.cne
 have g:∀{a:Addr} {h':Heap},(∃o,s.heap.get? a=some o/\H a=none)->Heap.SameBut a s.heap h'->oE X.prog X.w H h':=λ{a h'} ha f b ob e=>by
  obtain⟨_,_,C⟩:=ha
  refine(I.hok b ob e).stay (λc w' t q=>(f.2 c ?_).trans q) (λ_ q=>q) λ_ _ q=>q
  rintro rfl
  rcases t with rfl|t
  ·rw[C] at e;cases e
  ·rw[C] at t;cases t
 rcases B with J|J
 ·refine wpAny_storeName_local J hn (λh' a2 f=> ?_) W
  obtain⟨oL,_,_,a1,_⟩:=id hn
  refine h _ ⟨I.ok,I.os,I.bare,⟨λb o e n P B=> ?_,λb o e n P B=> ?_,I.base.free,λb o e B=> ?_,I.base.tups,I.base.frzs,I.base.tbls⟩,⟨_,a2,λj y v' l F e3=> ?_⟩,λy c e=> ?_,I.free,I.freeC,λp hp=> ?_,g ⟨oL,a1,I.free⟩ f,by simpa using I.len⟩ ⟨_,f,.inl rfl⟩
  ·exact(f.2 b (Qwq (Qqq (Qiq e) I.ok.above))).trans (I.base.keep b o e n P B)
  ·obtain⟨sl,l⟩:=I.base.slot b o e n P B
   exact⟨sl,(f.2 b (Qwq (Qqq (Qiq e) I.ok.above))).trans l⟩
  ·obtain⟨o',l⟩:=I.base.there b o e B
   exact⟨o',(f.2 b (Qwq (Qqq (Qiq e) I.ok.above))).trans l⟩
  ·by_cases R:j=i
   ·subst R
    rw[hi] at l;cases l
    rw[Qyq G] at F
    cases F
    exact⟨u,r,.inl ⟨J,by simp⟩⟩
   ·rw[QKq (Ne.symm R)] at F
    obtain⟨u',r',q⟩:=hl j y v' l F e3
    refine⟨u',r',?_⟩
    rcases q with⟨k,e⟩|⟨k,c,e,z⟩
    ·refine .inl ⟨k,?_⟩
     have:y≠x:=λe=>R (yJ hN l (e▸hi))
     simp[this,e]
    ·exact .inr ⟨k,c,e,z.sameBut f (L y c e)⟩
  ·obtain⟨w',z⟩:=I.cell y c e
   exact⟨w',z.sameBut f (L y c e)⟩
  ·obtain⟨e,n,ne,nf,d⟩:=I.pin p hp
   exact⟨(f.2 p.1 ne).trans e,n,ne,nf,d⟩
 ·have K:X.fn x=true:=by
   rcases hf with z|z
   ·exact z
   ·rw[z] at J;cases J
  obtain⟨c,t⟩:=I.ok.has x (.inl J)
  obtain⟨w',z⟩:=I.cell x c t
  refine wpAny_storeName_cell I.ok.kind J t z (λh' U f=> ?_)
  obtain⟨oc,Z,S⟩:=id z
  refine h {s with heap:=h'} ⟨I.ok,I.os,I.bare,⟨λb o e n P B=> ?_,λb o e n P B=> ?_,I.base.free,λb o e B=> ?_,I.base.tups,I.base.frzs,I.base.tbls⟩,⟨m,hn.sameBut f (Ne.symm (L x c t)),λj y v' l F e3=> ?_⟩,λy c' e=> ?_,I.free,I.freeC,λp hp=> ?_,g ⟨oc,Z,I.freeC x c t⟩ f,by simpa using I.len⟩ ⟨c,f,.inr t⟩
  ·exact(f.2 b (Qwq (Qqq (Qiq e) (I.ok.cab x c K t)))).trans (I.base.keep b o e n P B)
  ·obtain⟨sl,l⟩:=I.base.slot b o e n P B
   exact⟨sl,(f.2 b (Qwq (Qqq (Qiq e) (I.ok.cab x c K t)))).trans l⟩
  ·obtain⟨o',l⟩:=I.base.there b o e B
   exact⟨o',(f.2 b (Qwq (Qqq (Qiq e) (I.ok.cab x c K t)))).trans l⟩
  ·by_cases R:j=i
   ·subst R
    rw[hi] at l;cases l
    rw[Qyq G] at F
    cases F
    exact⟨u,r,.inr ⟨.inl J,c,t,U⟩⟩
   ·rw[QKq (Ne.symm R)] at F
    obtain⟨u',r',q⟩:=hl j y v' l F e3
    refine⟨u',r',?_⟩
    rcases q with q|⟨k,c',e,z'⟩
    ·exact .inl q
    ·refine .inr ⟨k,c',e,z'.sameBut f ?_⟩
     rintro rfl
     exact R (yJ hN l (I.ok.inj _ _ _ e t▸hi))
  ·by_cases Y:c'=c
   ·subst Y;exact⟨_,U⟩
   ·obtain⟨w2,z2⟩:=I.cell y c' e
    exact⟨w2,z2.sameBut f Y⟩
  ·obtain⟨e,n,ne,nf,d⟩:=I.pin p hp
   refine⟨(f.2 p.1 ?_).trans e,n,ne,nf,d⟩
   intro q
   rw[q,Z] at e
   have q':oc=p.2:=QdQ e
   exact d w' (by rw[←q'];exact S)
def ie{M:Model}{A:Around}{E:Value->Shared->Prop}{i:Nat}{x:Str}{v:V}{u:Value}{Q:Unit->Shared->Prop}(I:Inv X pins σ H s)(b:X.N.Nodup)(hi:X.N[i]?=some x)(e:Loc X.env.scope x)(r:RelV v u)
  (h:∀a,Inv X pins (σ.set i (some v)) H a->Q () a) (c:X.fn x=true\/X.env.scope.names.lookup x=some .local:=by first|exact .inl rfl|exact .inr rfl|assumption):wpAny M A (storeName X.env x u) Q E s:=
 D4 I b hi e r (λa d _=>h a d) c
def Inv.call'{a:Shared}{ch:List Addr}(I:Inv X pins σ H s)(h:a.os=s.os)(u:Un (Fu X.stack) ch H H' s.heap a.heap)(f:oE X.prog X.w H' a.heap)(g:AllBare a.gens)
  (d:∀b∈ch,(b∈X.ex\/X.s₀.heap.objs.size<=b)/\b≠X.env.locals/\(∀x c,X.env.cells.lookup x=some c->c≠b)/\∀p∈X.pn++pins,p.1≠b):Inv X pins σ H' a:=by
 obtain⟨h',g',d',t',i⟩:=a
 have e:i=s.os:=h
 subst e
 exact I.call (g':=g') (t':=t') (d':=d') u f g d
end
abbrev XK:=Value->Option Addr->Hp->Prop
abbrev St:=List (Option V)
abbrev VK:=V->Hp->Prop
abbrev TE:=St->Hp->VK->Prop
abbrev TT:=St->Hp->(Bool->Hp->Prop)->Prop
abbrev TA:=St->Hp->(List V->Hp->Prop)->Prop
structure Ends where
 nx:St->Hp->Prop
 rt:VK
 bk:St->Hp->Prop:=λ_ _=>False
 ct:St->Hp->Prop:=λ_ _=>False
abbrev TS:=Ends->St->Hp->Prop
def EP(X:Cx)(a:List (Addr×Obj))(c:St)(Q:VK)(u:Value)(d:Shared):Prop:=∃v b,Inv X a c b d/\RelV v u/\Q v b
def TP(X:Cx)(a:List (Addr×Obj))(d:St)(Q:Bool->Hp->Prop)(b:Bool)(e:Shared):Prop:=∃c,Inv X a d c e/\Q b c
def AP(X:Cx)(a:List (Addr×Obj))(d:St)(Q:List V->Hp->Prop)(f:List Value)(e:Shared):Prop:=∃b c,Inv X a d c e/\bH b f/\Q b c
def SP(X:Cx)(b:List (Addr×Obj))(D:Ends)(f:Flow)(d:Shared):Prop:=
 match f with
 |.next=>∃a c,Inv X b a c d/\D.nx a c
 |.brk=>∃a c,Inv X b a c d/\D.bk a c
 |.cont=>∃a c,Inv X b a c d/\D.ct a c
 |.ret u=>∃v a c,Inv X b a c d/\RelV v u/\D.rt v c
def PE(X:Cx)(e:Expr)(t:TE):Prop:=
 ∀(a:List (Addr×Obj)) (s:Shared) (b:St) (H:Hp) (Q:VK),Inv X a b H s->t b H Q->wpAny (model X.prog X.w) X.A (eval e X.env) (EP X a b Q) X.xe s
def PT(X:Cx)(e:Expr)(t:TT):Prop:=
 ∀(a:List (Addr×Obj)) (s:Shared) (b:St) (H:Hp) (Q:Bool->Hp->Prop),Inv X a b H s->t b H Q->wpAny (model X.prog X.w) X.A (isTrue e X.env (eval e X.env)) (TP X a b Q) X.xe s
def PW(X:Cx)(e:Expr)(t:TT):Prop:=
 ∀(b:Sem Value) (a:List (Addr×Obj)) (s:Shared) (c:St) (H:Hp) (Q:Bool->Hp->Prop),Inv X a c H s->t c H Q->wpAny (model X.prog X.w) X.A (isTrue e X.env b) (TP X a c Q) X.xe s
def PW.pt{X:Cx}{e:Expr}{t:TT}(h:PW X e t):PT X e t:=h _
def PA(X:Cx)(d:List Expr)(t:TA):Prop:=
 ∀(c:Pos) (a:List (Addr×Obj)) (s:Shared) (b:St) (H:Hp) (Q:List V->Hp->Prop),Inv X a b H s->t b H Q->wpAny (model X.prog X.w) X.A (spliced (backTo c (starEach d X.env))) (AP X a b Q) X.xe s
def PS(X:Cx)(st:Stmt)(t:TS):Prop:=
 ∀(a:List (Addr×Obj)) (s:Shared) (b:St) (H:Hp) (D:Ends),Inv X a b H s->t D b H->wpAny (model X.prog X.w) X.A (exec st X.env) (SP X a D) X.xe s
def rL(X:Cx)(st:List Stmt)(t:TS):Prop:=
 ∀(a:List (Addr×Obj)) (s:Shared) (b:St) (H:Hp) (D:Ends),Inv X a b H s->t D b H->wpAny (model X.prog X.w) X.A (execs st X.env) (SP X a D) X.xe s
def cR{α:Type}{t:Sem α}{Q b:α->Shared->Prop}{M:Model}{A:Around}{E:Value->Shared->Prop}{s:Shared}(h:wpAny M A t Q E s)(c:∀a s,Q a s->b a s):wpAny M A t b E s:=QRq h c λ_ _ x=>x
section
variable{X:Cx}
def JY(i:Nat):TE:=λa H Q=>∃v,a[i]?=some (some v)/\Q v H
def tC(v:V):TE:=λ_ H Q=>Q v H
def Fb{i:Nat}{x:Str}{pos:Pos}(p:X.N[i]?=some x)(o:IB X.env.scope x)(hd:(x==("__debug__":Str))=false:=by decide)(g:(x==("__classdict__":Str))=false:=by decide):PE X (.Name x pos) (JY i):=by
 intro f s n H Q I h
 obtain⟨v,e,h⟩:=h
 obtain⟨m,k,hl⟩:=I.loc
 obtain⟨u,r,l⟩:=hl i x v p e o
 have b:EP X f n Q u s:=⟨v,H,I,r,h⟩
 rcases l with⟨d,q⟩|⟨d,c,j,a⟩
 ·exact wpAny_Name (wpAny_loadName_local I.ok.kind d k q b) hd
 ·rcases d with d|d
  ·exact wpAny_Name (wpAny_loadName_cell I.ok.kind d j a b) hd
  ·exact wpAny_Name (wpAny_loadName_free I.ok.kind d j a b g) hd
def J8{i j pos}:PE X (.Constant (.int i) j pos) (tC (.int i)):=λ_ _ _ H _ I h=>wpAny_Constant_int ⟨.int i,H,I.tok _,⟨_,rfl⟩,h⟩
def MI{b j pos}:PE X (.Constant (.bool b) j pos) (tC (.bl b)):=λ_ _ _ H _ I h=>Constant_bool ⟨.bl b,H,I,rfl,h⟩
def JD{j pos}:PE X (.Constant .none j pos) (tC .non):=λ_ _ _ H _ I h=>Constant_none ⟨.non,H,I,rfl,h⟩
def Kk{x j pos}:PE X (.Constant (.str x) j pos) (tC (.str x)):=λ_ _ _ H _ I h=>Calls.Constant_str ⟨.str x,H,I.tok _,⟨_,rfl⟩,h⟩
def Gl(X:Cx)(x:Str):Prop:=X.env.kindOf x=some .globalImplicit
def xh{E:Value->Shared->Prop}{a:List (Addr×Obj)}{s:Shared}{d:St}{H:Hp}{x:Str}{u:Value}{pos:Pos}{Q:Value->Shared->Prop}(I:Inv X a d H s)(b:Gl X x)(c:X.mg x=some u)(h:Q u s)
  (hd:(x==("__debug__":Str))=false:=by decide):wpAny (model X.prog X.w) X.A (eval (.Name x pos) X.env) Q E s:=
 Calls.Name_function_global I.ok.kind b (Calls.loadGlobal_global (by rw[I.ok.glob];exact I.mod.glob.keeps I.bk) c h) hd
def lZ{E:Value->Shared->Prop}{a:List (Addr×Obj)}{s:Shared}{e:St}{H:Hp}{x:Str}{u:Value}{pos:Pos}{Q:Value->Shared->Prop}(I:Inv X a e H s)(b:Gl X x)(i:X.mg x=none)(g:bootBuiltins x=some u)(h:Q u s)
  (c:x≠"__name__":=by decide) (hd:(x==("__debug__":Str))=false:=by decide):wpAny (model X.prog X.w) X.A (eval (.Name x pos) X.env) Q E s:=by
 obtain⟨j,f,d⟩:=I.mod.blt
 exact Calls.Name_function_global I.ok.kind b (Calls.loadGlobal_builtin (by rw[I.ok.glob];exact I.mod.glob.keeps I.bk) i (by rw[I.ok.blt];exact f.keeps I.bk) ((d x c).trans g) h) hd
def xv{x:Str}{v:V}{u:Value}{pos:Pos}(a:Gl X x)(b:X.mg x=some u)(r:RelV v u)(hd:(x==("__debug__":Str))=false:=by decide):PE X (.Name x pos) (tC v):=
 λ_ _ _ H _ I h=>xh I a b ⟨v,H,I,r,h⟩ hd
def HP{x:Str}{v:V}{u:Value}{pos:Pos}(a:Gl X x)(b:X.mg x=none)(d:bootBuiltins x=some u)(r:RelV v u)(c:x≠"__name__":=by decide)(hd:(x==("__debug__":Str))=false:=by decide):PE X (.Name x pos) (tC v):=
 λ_ _ _ H _ I h=>lZ I a b d ⟨v,H,I,r,h⟩ c hd
variable{a b:Expr}{ta tb:TE}{pos:Pos}
def PC(X:Cx)(op:CmpOp)(a b:Expr)(t:TE):Prop:=
 ∀ (c:List (Addr×Obj)) (s:Shared) (f:St) (H:Hp) (Q:VK),Inv X c f H s->t f H Q→
   wpAny (model X.prog X.w) X.A (eval a X.env) (λv e=>wpAny (model X.prog X.w) X.A (eval b X.env) (λu d=>wpAny (model X.prog X.w) X.A (compareOp op v u) (EP X c f Q) X.xe d) X.xe e) X.xe s
def tB(t:TE):TT:=λd H Q=>t d H λx H1=>∃c,x=.bl c/\Q c H1
def J_{op:CmpOp}{t:TE}(h:PC X op a b t)(f:behindInMarks op b=false:=by first|exact nobehind _ (by decide) (by decide)|rfl):PT X (.Compare a [op] [b] pos) (tB t):=by
 intro e s j H Q I k
 refine wpAny_isTrue_Compare1 (cR (h e s j H _ I k) λv n f=>cR f λu o i=>cR i λc p ⟨x,H1,m,l,g⟩=> ?_) f
 obtain⟨d,rfl,q⟩:=g
 cases l
 exact wpAny_truthy_bool ⟨H1,m,q⟩
variable{tA tB':TT}{rest:List Expr}
def Os(t u:TT):TT:=λd H Q=>t d H λc H1=>if c=true then u d H1 Q else Q false H1
def Pv(t u:TT):TT:=λd H Q=>t d H λc H1=>if c=true then Q true H1 else u d H1 Q
def NI(t:TT):TT:=λd H Q=>t d H λc H1=>Q (!c) H1
def HZ(f:PT X a tA):PW X (.BoolOp .And [a] pos) tA:=by
 intro j d s g H Q I h
 refine isTrue_and (cR (f d s g H Q I h) λc i e=> ?_)
 cases c with
 |true=>exact isTrue_and_nil e
 |false=>exact e
def KH(f:PT X a tA):PW X (.BoolOp .Or [a] pos) tA:=by
 intro j d s g H Q I h
 refine isTrue_or (cR (f d s g H Q I h) λc i e=> ?_)
 cases c with
 |false=>exact isTrue_or_nil e
 |true=>exact e
def Jt(j:PT X a tA)(k:PW X (.BoolOp .And (b::rest) pos) tB'):PW X (.BoolOp .And (a::b::rest) pos) (Os tA tB'):=by
 intro l d s f H Q I h
 refine isTrue_and (cR (j d s f H _ I h) λc i m=> ?_)
 obtain⟨H1,g,e⟩:=m
 cases c with
 |true=>exact k l d i f H1 Q g e
 |false=>exact⟨H1,g,e⟩
def LK(j:PT X a tA)(k:PW X (.BoolOp .Or (b::rest) pos) tB'):PW X (.BoolOp .Or (a::b::rest) pos) (Pv tA tB'):=by
 intro l d s f H Q I h
 refine isTrue_or (cR (j d s f H _ I h) λc i m=> ?_)
 obtain⟨H1,g,e⟩:=m
 cases c with
 |true=>exact⟨H1,g,e⟩
 |false=>exact k l d i f H1 Q g e
def Jr(e:PT X a tA):PT X (.UnaryOp .Not a pos) (NI tA):=by
 intro d s f H Q I h
 exact isTrue_not (e d s f H (λc H1=>Q (!c) H1) I h)
def L8(ta tb:TE):TE:=λd H Q=>ta d H λx H1=>∃c,x=.bl c/\if c=true then tb d H1 Q else Q (.bl false) H1
def MS(ta:TE):TE:=λd H Q=>ta d H λx H1=>∃c,x=.bl c/\Q (.bl (!c)) H1
def KJ{op}{t:TE}(h:PE X a t):PE X (.BoolOp op [a] pos) t:=λc s d H Q I e=>BoolOp_one (h c s d H Q I e)
def Ka(k:PE X a ta)(l:PE X (.BoolOp .And (b::rest) pos) tb):PE X (.BoolOp .And (a::b::rest) pos) (L8 ta tb):=by
 intro d s f H Q I h
 refine BoolOp_and (cR (k d s f H _ I h) λv i m=> ?_)
 obtain⟨x,H1,g,j,e⟩:=m
 obtain⟨c,rfl,e⟩:=e
 cases j
 refine wpAny_truthy_bool ?_
 cases c with
 |true=>exact l d i f H1 Q g e
 |false=>exact⟨.bl false,H1,g,rfl,e⟩
def Ks(f:PE X a ta):PE X (.UnaryOp .Not a pos) (MS ta):=by
 intro d s g H Q I h
 refine UnaryOp_ (cR (f d s g H _ I h) λv l j=> ?_)
 obtain⟨x,H1,k,i,e⟩:=j
 obtain⟨c,rfl,e⟩:=e
 cases i
 exact not_of (wpAny_truthy_bool ⟨.bl (!c),H1,k,rfl,e⟩)
def PB(t:TT)(ta tb:TE):TE:=λd H Q=>t d H λc H1=>if c=true then ta d H1 Q else tb d H1 Q
def FD{c:Expr}(k:PT X c tA)(l:PE X a ta)(m:PE X b tb):PE X (.IfExp c a b pos) (PB tA ta tb):=by
 intro e s f H Q I h
 refine wpAny_IfExp (cR (k e s f H _ I h) λd g n=> ?_)
 obtain⟨H1,j,i⟩:=n
 cases d with
 |true=>exact l e g f H1 Q j i
 |false=>exact m e g f H1 Q j i
end
def iC(K:PySem.W.Frag)(H:Hp)(a:Addr)(xs:List V):Prop:=
 Rd H a (.lst xs)∨
  ∃(o:Obj) (b:Array Value) (n:Nat),K.lookup a=some o/\o.cls=.type "list" /\o.dict=none/\o.data=.seq b n/\b.size<=sizeLine/\bH xs b.toList
def gH(K:PySem.W.Frag)(H:Hp)(a:Addr)(xs:List V):Prop:=
 Rd H a (.tup xs)∨
  ∃(o:Obj) (b:Array Value) (n:Nat),K.lookup a=some o/\o.cls=.type "tuple" /\o.data=.seq b n/\b.size<=sizeLine/\bH xs b.toList
noncomputable def Ot:Value->Option V
 |.none=>some .non
 |.bool b=>some (.bl b)
 |.int i _=>some (.int i)
 |.str x _=>some (.str x)
 |.bytes b _=>some (.byt b)
 |.float b _=>some (.flt b)
 |.ref a=>some (.ref a)
 |.type n=>some (.ty n)
 |_=>none
def RelV.abs{x:V}{u:Value}(r:RelV x u):Ot u=some x:=by
 cases x with
 |non=>cases r;rfl
 |bl _=>cases r;rfl
 |int _=>obtain⟨t,rfl⟩:=r;rfl
 |str _=>obtain⟨t,rfl⟩:=r;rfl
 |byt _=>obtain⟨t,rfl⟩:=r;rfl
 |flt _=>obtain⟨t,rfl⟩:=r;rfl
 |ref _=>cases r;rfl
 |ty _=>cases r;rfl
def RelV.inj{x y:V}{u:Value}(r:RelV x u)(q:RelV y u):x=y:=QdQ (r.abs.symm.trans q.abs)
theorem bH.inj:∀{xs ys:List V} {a:List Value},bH xs a->bH ys a->xs=ys
 |_,_,_,.nil,.nil=>rfl
 |_,_,_,.cons r t,.cons r' t'=>by rw[r.inj r',bH.inj t t']
section
variable{X:Cx}{pins:List (Addr×Obj)}{σ:St}{H:Hp}{s:Shared}{a:Addr}{xs ys:List V}
def iC.of{K:PySem.W.Frag}(h:H a=some (.lst xs)):iC K H a xs:=.inl (.inl h)
def gH.of{K:PySem.W.Frag}(h:H a=some (.tup xs)):gH K H a xs:=.inl (.inl h)
def Inv.list(I:Inv X pins σ H s)(h:iC X.K H a xs):∃b:List Value,bH xs b/\PlainL s.heap a b.toArray/\xs.length<=sizeLine:=by
 rcases h with h|⟨o,b,n,d,c,g,f,i,r⟩
 ·obtain⟨z,b,n,r,e⟩:=h.ok I.hok
  exact⟨b,r,⟨_,n,e,rfl,rfl,rfl⟩,z⟩
 ·refine⟨b.toList,r,⟨o,n,I.kIn a o d,c,g,by simpa using f⟩,?_⟩
  have e:=r.length
  simp only[Array.length_toList] at e
  omega
def Inv.tuple(I:Inv X pins σ H s)(h:gH X.K H a xs):∃b:List Value,bH xs b/\IsTup s.heap a b.toArray/\xs.length<=sizeLine:=by
 rcases h with h|⟨o,b,n,d,c,f,g,r⟩
 ·obtain⟨z,b,r,p⟩:=h.ok I.hok
  exact⟨b,r,p.it,z⟩
 ·refine⟨b.toList,r,⟨o,I.kIn a o d,c,n,by simpa using f⟩,?_⟩
  have e:=r.length
  simp only[Array.length_toList] at e
  omega
def Inv.list_inj(I:Inv X pins σ H s)(h:iC X.K H a xs)(h':iC X.K H a ys):xs=ys:=by
 obtain⟨c,r,⟨o,n,e,_,_,d⟩,_⟩:=I.list h
 obtain⟨b,i,⟨l,k,f,_,_,g⟩,_⟩:=I.list h'
 rw[e] at f;cases f
 rw[d] at g
 injection g with j _
 have:c=b:=by simpa using congrArg Array.toList j
 subst this
 exact r.inj i
def Inv.tuple_inj(I:Inv X pins σ H s)(h:gH X.K H a xs)(h':gH X.K H a ys):xs=ys:=by
 obtain⟨c,r,⟨o,e,_,n,d⟩,_⟩:=I.tuple h
 obtain⟨b,i,⟨l,f,_,k,g⟩,_⟩:=I.tuple h'
 rw[e] at f;cases f
 rw[d] at g
 injection g with j _
 have:c=b:=by simpa using congrArg Array.toList j
 subst this
 exact r.inj i
end
noncomputable abbrev Cx.wish(X:Cx)(E:Value->Shared->Prop):Cx:={X with xe:=E}
noncomputable abbrev Cx.nox(X:Cx):Cx:=X.wish λ_ _=>False
def Cx.Ok.wish{X:Cx}(ok:X.Ok)(E:Value->Shared->Prop):(X.wish E).Ok:=
 ⟨ok.mod,ok.kind,ok.glob,ok.blt,ok.above,ok.inj,ok.has,ok.cab,ok.hd,ok.frames,ok.stk,ok.exf,ok.bs,ok.bsz,ok.noex,ok.exfs,ok.funs,ok.frf⟩
def Cx.Ok.unwish{X:Cx}{E:Value->Shared->Prop}(ok:(X.wish E).Ok):X.Ok:=
 ⟨ok.mod,ok.kind,ok.glob,ok.blt,ok.above,ok.inj,ok.has,ok.cab,ok.hd,ok.frames,ok.stk,ok.exf,ok.bs,ok.bsz,ok.noex,ok.exfs,ok.funs,ok.frf⟩
section
variable{X:Cx}{pins:List (Addr×Obj)}{σ:St}{H:Hp}{s:Shared}{E:Value->Shared->Prop}
def Inv.wish(I:Inv X pins σ H s)(E:Value->Shared->Prop):Inv (X.wish E) pins σ H s:=⟨I.ok.wish E,I.os,I.bare,I.base,I.loc,I.cell,I.free,I.freeC,I.pin,I.hok,I.len⟩
def Inv.unwish(I:Inv (X.wish E) pins σ H s):Inv X pins σ H s:=⟨I.ok.unwish,I.os,I.bare,I.base,I.loc,I.cell,I.free,I.freeC,I.pin,I.hok,I.len⟩
theorem SP.unwish{D:Ends}{f:Flow}{c:Shared}(h:SP (X.wish E) pins D f c):SP X pins D f c:=by
 cases f with
 |next=>obtain⟨a,b,I,q⟩:=h;exact⟨a,b,I.unwish,q⟩
 |brk=>obtain⟨a,b,I,q⟩:=h;exact⟨a,b,I.unwish,q⟩
 |cont=>obtain⟨a,b,I,q⟩:=h;exact⟨a,b,I.unwish,q⟩
 |ret u=>obtain⟨v,a,b,I,r,q⟩:=h;exact⟨v,a,b,I.unwish,r,q⟩
def rL.nox{st:List Stmt}{t:TS}(h:rL X.nox st t):rL X st t:=λpins s σ H D I a=>
 QRq (h pins s σ H D (I.wish _) a) (λ_ _ q=>q.unwish) λ_ _ z=>False.elim z
end
section
variable{X:Cx}{st:Stmt}{rest:List Stmt}{t u:TS}{e:Expr}{te:TE}{pos:Pos}
def Lp:TS:=λD a H=>D.nx a H
def NG(t u:TS):TS:=λD a H=>t {D with nx:=u D} a H
def G9:rL X [] Lp:=λ_ _ a H _ I h=>wpAny_execs_nil ⟨a,H,I,h⟩
def Ge(j:PS X st t)(d:rL X rest u):rL X (st::rest) (NG t u):=by
 intro a s g H D I h
 refine wpAny_execs_cons (cR (j a s g H {D with nx:=u D} I h) λf c q=> ?_)
 cases f with
 | next=>
   obtain⟨b,i,k,q⟩:=q
   exact d a c b i D k q
 |ret v=>exact q
 |brk=>exact q
 |cont=>exact q
def Hm(c:PS X st t):rL X [st] t:=by
 intro a s b H D I h
 refine wpAny_execs_cons (cR (c a s b H D I h) λf d q=> ?_)
 cases f with
 |next=>exact wpAny_execs_nil q
 |ret v=>exact q
 |brk=>exact q
 |cont=>exact q
def Kb:TS:=λD a H=>D.bk a H
def F6:PS X (.Break pos) Kb:=λ_ _ a H _ I h=>wpAny_Break ⟨a,H,I,h⟩
def Inv.quiet{a:List (Addr×Obj)}{b:St}{H:Hp}{s:Shared}(I:Inv X a b H s):interactive X.env=false:=by simp[interactive,I.ok.kind]
def L4(te:TE):TS:=λD a H=>te a H λ_ H1=>D.nx a H1
def Ie(he:PE X e te)(d:swapsWith e none pos.line X.env=pure false:=by rfl):PS X (.Expr e pos) (L4 te):=by
 intro a s b H D I h
 exact wpAny_Expr_any (cR (he a s b H _ I h) λv g ⟨x,H1,f,i,c⟩=>⟨b,H1,f,c⟩) I.quiet d
def N6(te:TE):TS:=λD a H=>te a H D.rt
def EA(he:PE X e te):PS X (.Return (some e) pos) (N6 te):=by
 intro a s b H D I h
 exact wpAny_Return_some (cR (he a s b H _ I h) λv g ⟨x,H1,f,d,c⟩=>⟨x,b,H1,f,d,c⟩)
def On(c:TT)(t u:TS):TS:=λD a H=>c a H λb H1=>if b=true then t D a H1 else u D a H1
def MH{c:Expr}{a b:List Stmt}{k:TT}(m:PT X c k)(n:rL X a t)(o:rL X b u):PS X (.If c a b pos) (On k t u):=by
 intro f s g H D I h
 refine wpAny_If (cR (m f s g H _ I h) λd i p=> ?_)
 obtain⟨H1,l,j⟩:=p
 cases d with
 |true=>exact n f i g H1 D l j
 |false=>exact o f i g H1 D l j
def JC:TS:=λ_ _ _=>False
def FK:PS X st JC:=λ_ _ _ _ _ _ h=>h.elim
end
abbrev TG:=V->St->Hp->(St->Hp->Prop)->Prop
abbrev Ii:=List V->St->Hp->(St->Hp->Prop)->Prop
def PG(X:Cx)(a:Expr)(t:TG):Prop:=
 ∀ (b:List (Addr×Obj)) (s:Shared) (d:St) (H:Hp) (v:V) (u:Value) (Q:St->Hp->Prop),Inv X b d H s->RelV v u->t v d H Q→
   wpAny (model X.prog X.w) X.A (assign a X.env u) (λ_ f=>∃c e,Inv X b c e f/\Q c e) X.xe s
def GB(X:Cx)(ts:List Expr)(t:Ii):Prop:=
 ∀ (a:List (Addr×Obj)) (s:Shared) (d:St) (H:Hp) (c:List V) (e:List Value) (Q:St->Hp->Prop),Inv X a d H s->bH c e->t c d H Q→
   wpAny (model X.prog X.w) X.A (assignInOrder ((assignEach ts X.env).map (·.2)) e) (λ_ g=>∃b f,Inv X a b f g/\Q b f) X.xe s
abbrev KF:=V->V->V->Hp->(Hp->Prop)->Prop
def Lr(X:Cx)(t:KF):Prop:=
 ∀ (a:List (Addr×Obj)) (s:Shared) (c:St) (H:Hp) (o i v:V) (b e u:Value) (Q:Hp->Prop),Inv X a c H s->RelV o b->RelV i e->RelV v u->t o i v H Q→
   wpAny (model X.prog X.w) X.A (setItem b e u) (λ_ f=>∃d,Inv X a c d f/\Q d) X.xe s
section
variable{X:Cx}{pos:Pos}
def ph(i:Nat):TG:=λv a H Q=>Q (a.set i (some v)) H
def wQ{i:Nat}{x:Str}(b:X.N.Nodup)(hi:X.N[i]?=some x)(e:Loc X.env.scope x)(c:X.fn x=true\/X.env.scope.names.lookup x=some .local:=by first|exact .inl rfl|exact .inr rfl|assumption):PG X (.Name x pos) (ph i):=by
 intro a s f H v u Q I r h
 exact wpAny_assign_Name (ie I b hi e r (λg d=>⟨_,H,d,h⟩) c)
def Ov:Ii:=λa b H Q=>a= []/\Q b H
def LV(t:TG)(u:Ii):Ii:=λb c H Q=>∃v r,b=v::r/\t v c H λa d=>u r a d Q
def Ik:GB X [] Ov:=by
 intro a s b H c d Q I r h
 obtain⟨e,h⟩:=h
 subst e
 cases r
 exact assignInOrder_nil ⟨b,H,I,h⟩
def FT{e:Expr}{b:List Expr}{t:TG}{u:Ii}(j:PG X e t)(g:GB X b u)
  (n:(assignEach (e::b) X.env).map (·.2)=assign e X.env::(assignEach b X.env).map (·.2):=by rfl):GB X (e::b) (LV t u):=by
 intro a s i H w q Q I r h
 obtain⟨v,p,k,h⟩:=h
 subst k
 cases r with
 | cons r m=>
   rw[n]
   refine assignInOrder_cons (cR (j a s i H _ _ _ I r h) λ_ d l=> ?_)
   obtain⟨c,H1,o,f⟩:=l
   exact g a d c H1 _ _ Q o m f
def Oi(K:PySem.W.Frag)(n:Nat)(t:Ii):TG:=λv c H Q=>∃a b,v=.ref a/\gH K H a b/\b.length=n/\t b c H Q
def JH{d:List Expr}{k:Nat}{t:Ii}{n:Nat}(q:X.calm=true)(h:GB X d t)
  (l:(assignEach d X.env).length=n:=by rfl) (g:(assignEach d X.env).findIdx? (·.1)=none:=by rfl):PG X (.Tuple d k pos) (Oi X.K n t):=by
 intro c s i H v u Q I r f
 obtain⟨a,p,x,w,hl,f⟩:=f
 subst x
 cases r
 obtain⟨z,j,m,C⟩:=I.tuple w
 refine assign_Tuple_tuple (I.ok.hd q) m (by simp[l,←hl,j.length]) g λy A=> ?_
 have B:Inv X c i H {s with heap:=y}:=I.kept (t':=s.toks) λb o e=>A b o (Qwq (Qiq e)) e
 exact h c _ i H p _ Q B (by simpa using j) f
def Mi(b c:TE)(t:KF):TG:=λv a H Q=>b a H λo H1=>c a H1 λi H2=>t o i v H2 λH3=>Q a H3
def Jq{o i:Expr}{g f:TE}{t:KF}(A:PE X o g)(hi:PE X i f)(C:Lr X t)
  (q:∀v,assign (.Subscript o i pos) X.env v=(do
   let b←holding [v] (eval o X.env)
   let c←holding [v,b] (eval i X.env)
   standAt pos
   holding [v,b,c] (setItem b c v)
   release [v,b,c] []):=by intro _;rfl):PG X (.Subscript o i pos) (Mi g f t):=by
 intro a s e H v u Q I r h
 rw[q]
 refine Qaq (QLq (cR (A a s e H _ I h) λb j d=> ?_))
 obtain⟨x,H1,F,n,k⟩:=d
 refine Qaq (QLq (cR (hi a j e H1 _ F k) λc m d=> ?_))
 obtain⟨y,H2,w,B,z⟩:=d
 refine Qaq (wpAny_standAt (Qaq (QLq (cR (C a m e H2 x y v b c u _ w n B r z) λ_ G d=> ?_))))
 obtain⟨H3,p,l⟩:=d
 exact wpAny_release ⟨e,H3,p,l⟩
def D1(b:TE)(g:TG):TS:=λD a H=>b a H λx H1=>g x a H1 D.nx
def Jk{b e:Expr}{c:TE}{g:TG}(he:PE X e c)(f:PG X b g)(o:swapsWithSole [b] e pos.line X.env=pure false:=by rfl)(k:swappedStores [b] e X.env=pure none:=by rfl)
  (l:(assignEach [b] X.env).map (·.2)= [assign b X.env]:=by rfl):PS X (.Assign [b] e pos) (D1 c g):=by
 intro a s d H D I h
 refine wpAny_Assign_stores (cR (he a s d H _ I h) λv i ⟨x,H1,n,m,j⟩=> ?_) o k
 rw[l]
 exact cR (f a i d H1 x v _ n m j) λ_ p q=>q
def KG{i:Nat}{x:Str}{e:Expr}{c:TE}{a:Pos}(l:X.N.Nodup)(hi:X.N[i]?=some x)(n:Loc X.env.scope x)(he:PE X e c)(m:swapsWith e (some (.Name x a)) pos.line X.env=pure false:=by rfl)(k:X.fn x=true\/X.env.scope.names.lookup x=some .local:=by first|exact .inl rfl|exact .inr rfl|assumption):
  PS X (.Assign [.Name x a] e pos) (D1 c (ph i)):=by
 intro b s f H D I h
 refine wpAny_Assign_Name (cR (he b s f H _ I h) λv p ⟨y,H1,o,g,d⟩=> ?_) m
 exact ie o l hi n g (λq j=>⟨_,H1,j,d⟩) k
def MA(i j:Nat)(c:TA):TS:=λD a H=>c a H λb H1=>∃v w,b= [v,w]/\D.nx ((a.set i (some v)).set j (some w)) H1
def A6{i j:Nat}{x y:Str}{a b:Expr}{z:TA}{n r l:Pos}{kt k2 pt2}(P:X.calm=true)(B:X.N.Nodup)(hi:X.N[i]?=some x)(hj:X.N[j]?=some y)(t:i≠j)
  (G:X.env.scope.names.lookup x=some .local) (F:X.env.scope.names.lookup y=some .local) (Q:PA X [a,b] z)
  (K:swappedStores [.Tuple [.Name x n,.Name y r] kt l] (.Tuple [a,b] k2 pt2) X.env=pure (some [x,y]))
  (hs:swapsWithSole [.Tuple [.Name x n,.Name y r] kt l] (.Tuple [a,b] k2 pt2) pos.line X.env=pure false:=by rfl):
  PS X (.Assign [.Tuple [.Name x n,.Name y r] kt l] (.Tuple [a,b] k2 pt2) pos) (MA i j z):=by
 intro c s u H D I h
 rw[exec_Assign_arm]
 refine Qaq (wpAny_standAt ?_)
 rw[hs]
 refine Qaq (Qgq ?_)
 rw[Quq (by decide)]
 refine Qaq (Tuple_ (cR (Q _ c s u H _ I h) λS d Z=> ?_))
 obtain⟨vs,H1,I1,L,k⟩:=Z
 obtain⟨v,w,W,k⟩:=k
 subst W
 obtain⟨f,g,rfl,rv,rw'⟩:∃f g,S= [f,g]/\RelV v f/\RelV w g:=by
  cases L with
  | cons p q=>
    cases q with
    | cons J Y=>
      cases Y
      exact⟨_,_,rfl,p,J⟩
 refine QhQ ?_ (by show 2<=_;decide)
 have U:Inv X c u H1 {d with heap:=d.heap.push {cls:=.type "tuple",data:=.seq [f,g].toArray}}:=I1.kept (t':=d.toks) λb o e=>Qcq _ e
 rw[K]
 refine Qaq (Qgq ?_)
 show wpAny (model X.prog X.w) X.A (do rule "assign.swapped-stores";let items←unpackItems (.ref d.heap.objs.size) 2 none;assignInOrder [λv=>bindName X.env y v,λv=>bindName X.env x v] items.reverse;pure Flow.next) _ _ _
 refine Qaq (wpAny_rule (Qaq (unpackItems_tuple (items:= #[f,g]) (I.ok.hd P) (IsTup.new d.heap _) λh' m=> ?_)))
 have M:=U.kept (h':=h') (t':=d.toks) λb o e=>m b o (Qwq (Qiq e)) e
 show wpAny _ _ (assignInOrder [λv=>bindName X.env y v,λv=>bindName X.env x v] [g,f] >>= λ_=>pure Flow.next) _ _ _
 refine Qaq (assignInOrder_cons (wpAny_bindName (ie M B hj (.inl F) rw' (λs2 R=> ?_) (.inr F))))
 refine assignInOrder_cons (wpAny_bindName (ie R B hi (.inl G) rv (λs3 C=>assignInOrder_nil (Qgq ?_)) (.inr G)))
 rw[List.set_comm _ _ (Ne.symm t)] at C
 exact⟨_,H1,C,k⟩
end
section
variable{X:Cx}{pos:Pos}
def Kp(c:TT)(g:TS):TS:=λD a H=>∃W:Nat->St->Hp->Prop,(∃m,W m a H)/\∀m a H,W m a H→
 c a H λb H1=>if b=true then∃N:St->Hp->Prop,(∀d f,N d f->∃e,e<m/\W e d f)/\g {D with nx:=N,ct:=N,bk:=D.nx} a H1 else D.nx a H1
def Gx{c:Expr}{g:List Stmt}{B:TT}{u:TS}(t:PassesOwn (model X.prog X.w) X.A X.env X.xe)(K:PT X c B)(M:rL X g u):PS X (.While c g [] pos) (Kp B u):=by
 intro a s G H D I h
 obtain⟨W,⟨J,Q⟩,i⟩:=h
 refine wpAny_While (codeAny_whileLoop (λn L=>∃j y,Inv X a j y L/\W n j y) ?_ J ⟨G,H,I,Q⟩)
 rintro n C ⟨e,H1,S,R⟩
 refine wpAny_passesOwn t (cR (K a C e H1 _ S (i n e H1 R)) λb F P=> ?_)
 obtain⟨H2,x,l⟩:=P
 cases b with
 | true=>
   obtain⟨N,z,l⟩:=l
   rw[Qhq rfl]
   refine wpAny_passesOwn t (cR (M a F e H2 _ x l) λf U k=> ?_)
   cases f with
   | next=>
     obtain⟨d,H3,m,r⟩:=k
     obtain⟨o,q,p⟩:=z d H3 r
     exact⟨o,q,d,H3,m,p⟩
   | cont=>
     obtain⟨d,H3,m,r⟩:=k
     obtain⟨o,q,p⟩:=z d H3 r
     exact⟨o,q,d,H3,m,p⟩
   |brk=>exact k
   |ret v=>exact k
 | false=>
   rw[Quq Qtq]
   exact wpAny_execs_nil ⟨e,H2,x,l⟩
end
structure It where
 go:Nat->Hp->Prop
 yld:Nat->Hp->V->Hp->Prop
 stop:Nat->Hp->Prop
def qg(X:Cx)(a:List (Addr×Obj))(H:Hp)(b:Addr):Prop:=
 H b=none/\b≠X.env.locals/\b∉X.fs/\(b∈X.ex\/X.s₀.heap.objs.size<=b)/\(∀x c,X.env.cells.lookup x=some c->c≠b)/\∀p∈X.pn++a,p.1≠b
def Inv.fpOk{X:Cx}{a:List (Addr×Obj)}{h:St}{H f:Hp}{s:Shared}{b:Addr}(I:Inv X a h H s)(d:s.heap.objs.size<=b)(g:f b=none):qg X a f b:=by
 refine⟨g,Nat.ne_of_gt (Qqq I.lt d),I.nofs d,.inr (QAq I.sz d),λx c e z=> ?_,λp i z=> ?_⟩
 ·obtain⟨v,q⟩:=I.cell x c e
  exact absurd (Qqq q.lt (by rw[z];exact d)) (Nat.lt_irrefl _)
 ·exact absurd (Qqq (Qiq (I.pin p i).1) (by rw[z];exact d)) (Nat.lt_irrefl _)
structure Turn(P:Program)(w:World)(K:PySem.W.Frag)(tg:Expr)(J:It)(fp:List Addr)(it:Addr)(tn:Nat->Heap->Prop):Prop where
 mem:it∈fp
 obj:∀i h,tn i h->∀b∈fp,∃o,h.get? b=some o/\∀v,o.data≠.cell v
 keep:∀i h h',tn i h->(∀b∈fp,∀o,h.get? b=some o->h'.get? b=some o)->tn i h'
 item:∀(X:Cx),X.prog=P->X.w=w->X.K=K->X.calm=true->∀(i:Nat) (pins:List (Addr×Obj)) (s:Shared) (σ:St) (H:Hp) (E:Value->Shared->Prop),Inv X pins σ H s->(∀b∈fp,qg X pins H b)->tn i s.heap->J.go i H→
  wpAny (model P w) X.A (pyNext (.ref it)) (λr s1=>∃u,r=some u∧
   wpAny (model P w) X.A (letOwnedTupleGo tg (.ref it) u) (λ_ s2=>∃x H',Inv X pins σ H' s2/\RelV x u/\J.yld i H x H'/\tn (i+1) s2.heap/\∀b∈fp,H' b=none) E s1) E s
 done:∀(X:Cx),X.prog=P->X.w=w->X.K=K->X.calm=true->∀(i:Nat) (pins:List (Addr×Obj)) (s:Shared) (σ:St) (H:Hp) (E:Value->Shared->Prop),Inv X pins σ H s->(∀b∈fp,qg X pins H b)->tn i s.heap->J.stop i H→
  wpAny (model P w) X.A (pyNext (.ref it)) (λr s1=>r=none/\Inv X pins σ H s1) E s
 self:∀(A:Around) (i:Nat) (s:Shared) (Q:Value->Shared->Prop) (E:Value->Shared->Prop),tn i s.heap->Q (.ref it) s->wpAny (model P w) A (pyIter (.ref it)) Q E s
abbrev TI:=St->Hp->(It->Hp->Prop)->Prop
def Pa(X:Cx)(a:List (Addr×Obj))(j:St)(i:Expr)(R:It->Hp->Prop)(d:Value)(f:Shared):Prop:=
 ∃(g:Addr) (h:List Addr) (e:Nat->Heap->Prop) (J:It) (c:Hp),d=.ref g/\Inv X a j c f/\Turn X.prog X.w X.K i J h g e/\e 0 f.heap/\(∀b∈h,qg X a c b)/\R J c
def PI(X:Cx)(e b:Expr)(f:TI):Prop:=
 ∀ (a:List (Addr×Obj)) (s:Shared) (c:St) (H:Hp) (R:It->Hp->Prop),Inv X a c H s->f c H R→
   wpAny (model X.prog X.w) X.A (eval b X.env) (λv d=>wpAny (model X.prog X.w) X.A (pyIter v) (Pa X a c e R) X.xe d) X.xe s
def FH{M:Model}{A:Around}{E:Value->Shared->Prop}{s:Shared}{b:Expr}{it:Addr}{u:Value}{o:Obj}{n:String}{vs:Array Value}{Q:Unit->Shared->Prop}(d:s.heap.get? it=some o)(c:o.cls=.type n)(hd:o.data=.fields vs)
    (e: ["enumerate","zip","dict_itemiterator","dict_reverseitemiterator","odict_iterator","itertools.zip_longest","itertools.pairwise"].contains n=false) (a:Q () s):wpAny M A (letOwnedTupleGo b (.ref it) u) Q E s:=by
  unfold letOwnedTupleGo
  cases b <;>first
    |exact Qgq a
    |(cases u <;>first
        |exact Qgq a
        |(refine Qaq (wpAny_load d ?_)
          rw[c,hd]
          show wpAny M A (if (["enumerate","zip","dict_itemiterator","dict_reverseitemiterator","odict_iterator","itertools.zip_longest","itertools.pairwise"].contains n&&vs[0]? ==some (rawInt _))=true then _ else _) Q E s
          rw[Quq (by intro h;rw[e,Bool.false_and] at h;cases h)]
          exact Qgq a))
noncomputable def Pm(K:PySem.W.Frag)(a:Addr):It:=
 ⟨λi H=>∃b x,iC K H a b/\b[i]?=some x,λi H x c=>c=H/\∀b,iC K H a b->b[i]?=some x,λi H=>∃b,iC K H a b/\b.length<=i⟩
noncomputable def OW(K:PySem.W.Frag)(a:Addr):It:=
 ⟨λi H=>∃b x,gH K H a b/\b[i]?=some x,λi H x c=>c=H/\∀b,gH K H a b->b[i]?=some x,λi H=>∃b,gH K H a b/\b.length<=i⟩
noncomputable def Ml(lo:Int)(n:Nat):It:=⟨λi _=>i<n,λi H x a=>a=H/\x=.int (lo+i),λi _=>n<=i⟩
def C6{P:Program}{w:World}{K:PySem.W.Frag}{tg:Expr}(a it:Addr):Turn P w K tg (Pm K a) [it] it (λi h=>h.IsListIter it a i) where
 mem:=by simp
 obj:=λi h f b j=>by
  have e:b=it:=by simpa using j
  subst e
  obtain⟨o,e,c,d⟩:=f
  exact⟨o,e,λv z=>by rw[d] at z;cases z⟩
 keep:=λi h q f k=>f.at λo e=>k it (by simp) o e
 item:=by
  intro X F A B R i g s Q H E I n f r
  subst F A B
  obtain⟨Z,x,m,N⟩:=r
  obtain⟨M,G,p,hz⟩:=I.list m
  obtain⟨u,S,ru⟩:=G.get N
  obtain⟨L,C,U,J,t,y⟩:=n it (by simp)
  refine wpAny_pyNext_list_item f p.isList (x:=u) (by simpa using S) λq l sb=> ?_
  have I1:Inv X g Q H {s with heap:=q}:=I.turned (t':=s.toks) (λb o j e=>(sb.2 b j).trans e) L C J t y
  obtain⟨o,e,c,d⟩:=id l
  exact⟨u,rfl,FH (s:={s with heap:=q}) e c d (by decide) ⟨x,H,I1,ru,⟨rfl,λys hy=>by rw[I.list_inj hy m];exact N⟩,l,λb j=>(n b j).1⟩⟩
 done:=by
  intro X F A B R i g s Q H E I n f r
  subst F A B
  obtain⟨Z,m,N⟩:=r
  obtain⟨M,G,p,hz⟩:=I.list m
  obtain⟨L,C,U,J,t,y⟩:=n it (by simp)
  have hl:=G.length
  exact wpAny_pyNext_list_end (I.ok.hd R) f p.isList (by simp;omega) λq Y=>⟨rfl,I.turned (t':=s.toks) (λb o j e=>Y b o j e) L C J t y⟩
 self:=λ_ _ _ _ _ f h=>wpAny_pyIter_listiter f h
def BA{P:Program}{w:World}{K:PySem.W.Frag}{tg:Expr}(a it:Addr):Turn P w K tg (OW K a) [it] it (λi h=>h.IsTupleIter it a i) where
 mem:=by simp
 obj:=λi h f b j=>by
  have e:b=it:=by simpa using j
  subst e
  obtain⟨o,e,c,d⟩:=f
  exact⟨o,e,λv z=>by rw[d] at z;cases z⟩
 keep:=λi h r f k=>f.at λo e=>k it (by simp) o e
 item:=by
  intro X G B C R i g s Q H E I q f t
  subst G B C
  obtain⟨Z,x,n,N⟩:=t
  obtain⟨l,J,p,hz⟩:=I.tuple n
  obtain⟨u,S,ru⟩:=J.get N
  obtain⟨M,F,U,L,y,A⟩:=q it (by simp)
  refine wpAny_pyNext_tuple_item f (show s.heap.IsTuple a l.toArray from p) (x:=u) (by simpa using S) λr m sb=> ?_
  have I1:Inv X g Q H {s with heap:=r}:=I.turned (t':=s.toks) (λb o j e=>(sb.2 b j).trans e) M F L y A
  obtain⟨o,e,c,d⟩:=id m
  exact⟨u,rfl,FH (s:={s with heap:=r}) e c d (by decide) ⟨x,H,I1,ru,⟨rfl,λys hy=>by rw[I.tuple_inj hy n];exact N⟩,m,λb j=>(q b j).1⟩⟩
 done:=by
  intro X G B C R i g s Q H E I q f t
  subst G B C
  obtain⟨Z,n,N⟩:=t
  obtain⟨l,J,p,hz⟩:=I.tuple n
  obtain⟨M,F,U,L,y,A⟩:=q it (by simp)
  have hl:=J.length
  exact wpAny_pyNext_tuple_end (I.ok.hd R) f (show s.heap.IsTuple a l.toArray from p) (by simp;omega) λr Y=>⟨rfl,I.turned (t':=s.toks) (λb o j e=>Y b o j e) M F L y A⟩
 self:=λ_ _ _ _ _ f h=>wpAny_pyIter_tupleiter f h
def Bg{P:Program}{w:World}{K:PySem.W.Frag}{M:Expr}(it:Addr)(lo:Int)(n:Nat):Turn P w K M (Ml lo n) [it] it (λi h=>IsRangeIter h it (lo+(i:Nat)*1) ((n:Int)-(i:Nat)) 1) where
 mem:=by simp
 obj:=λi h a b d=>by
  have e:b=it:=by simpa using d
  subst e
  exact⟨_,a,λv z=>by
   have N:Data.fields _=Data.cell v:=z
   cases N⟩
 keep:=λi h j a k=>k it (by simp) _ a
 item:=by
  intro X y q u r i c s C H E I g a l
  subst y q u
  obtain⟨B,x,G,A,m,p⟩:=g it (by simp)
  have W:=Walks.range (prog:=X.prog) (w:=X.w) (I.ok.hd r) it lo 1 n
  refine W.item i s _ _ l a λv j F Q f L=> ?_
  obtain⟨t,rfl⟩:=Q
  have R:Inv X c C H {s with heap:=j,toks:=F}:=I.turned (λb o d e=>L b o (by simpa using d) e) B x A m p
  refine⟨_,rfl,FH (s:={s with heap:=j,toks:=F}) (n:="range_iterator") f rfl rfl (by decide) ⟨.int (lo+i),H,R,⟨t,?_⟩,⟨rfl,rfl⟩,f,λb d=>(g b d).1⟩⟩
  rw[Int.mul_one]
 done:=by
  intro X y q u r i c s C H E I g a l
  subst y q u
  obtain⟨B,x,G,A,m,p⟩:=g it (by simp)
  exact wpAny_pyNext_range_end (I.ok.hd r) a (by have:n<=i:=l;omega) λj J=>⟨rfl,I.turned (t':=s.toks) (λb o d e=>J b o d e) B x A m p⟩
 self:=λ_ _ _ _ _ a h=>wpAny_pyIter_rangeiter a h
section
variable{X:Cx}{tg:Expr}
def ze{a:List (Addr×Obj)}{c:St}{H:Hp}{s:Shared}{R:It->Hp->Prop}{E:Value->Shared->Prop}{lo hi:Int}{t u v:Tok}{d:Nat}(I:Inv X a c H s)(i: -(2^62)<=lo)(h:lo<2^62)(j: -(2^62)<=hi)(m:hi<2^62)
  (q:R (Ml lo (hi-lo).toNat) H):wpAny (model X.prog X.w) X.A (pyIter (.ref s.heap.objs.size)) (Pa X a c tg R) E {s with heap:=s.heap.push {cls:=.type "range",data:=.fields #[.int lo t,.int hi u,.int 1 v]},toks:=d}:=by
 refine wpAny_pyIter_range (IsRange.new ..) (small_one i h j m) ?_
 have f:Inv X a c H {s with heap:=s.heap.push {cls:=.type "range",data:=.fields #[.int lo t,.int hi u,.int 1 v]},toks:=d}:=I.kept λb o e=>Qcq _ e
 refine⟨(s.heap.push {cls:=.type "range",data:=.fields #[.int lo t,.int hi u,.int 1 v]}).objs.size,[(s.heap.push {cls:=.type "range",data:=.fields #[.int lo t,.int hi u,.int 1 v]}).objs.size],_,_,H,rfl,
  f.kept (t':=d) λb o e=>Qcq _ e,Bg _ lo (hi-lo).toNat,?_,λb k=> ?_,q⟩
 ·have l:lo+((0:Nat):Int)*1=lo:=by simp
  have g:(((hi-lo).toNat:Nat):Int)-((0:Nat):Int)=Builtin.Range.rangeSize lo hi 1:=by rw[rangeSize_one];split <;>omega
  show IsRangeIter _ _ (lo+((0:Nat):Int)*1) ((((hi-lo).toNat:Nat):Int)-((0:Nat):Int)) 1
  rw[l,g]
  exact Qrq _ rfl
 ·have e:b=(s.heap.push {cls:=.type "range",data:=.fields #[.int lo t,.int hi u,.int 1 v]}).objs.size:=by simpa using k
  subst e
  exact f.fpOk (Qmq _) (f.hok.fresh (Qmq _))
def Mt(c:TA):TI:=λb H R=>c b H λa H1=>∃j:Int,a= [.int j]/\ -(2^62)<=j/\j<2^62/\R (Ml 0 j.toNat) H1
def MT(c:TA):TI:=λb H R=>c b H λa H1=>∃i j:Int,a= [.int i,.int j]/\(-(2^62)<=i/\i<2^62/\ -(2^62)<=j/\j<2^62)/\R (Ml i (j-i).toNat) H1
def Dx{a:Expr}{d:TA}{p pos:Pos}(f:Gl X "range")(m:X.mg "range"=none)(k:PA X [a] d)(o:starEach [a] X.env= [(false,eval a X.env)]:=by rfl):PI X tg (.Call (.Name "range" p) [a] [] pos) (Mt d):=by
 intro b s g H R I h
 refine Call_ (lZ I f m boot_range (PyProof.Rows.callWith_type1 (cR (k pos b s g H _ I h) λw v ⟨x,H1,u,i,c⟩=> ?_) o rfl))
 obtain⟨j,e,c,l,q⟩:=c
 subst e
 cases i with
 | cons r n=>
   cases n
   obtain⟨t,rfl⟩:=r
   exact call_range_1 (ze u (by omega) (by omega) c l (by simpa using q))
def D5{a b:Expr}{k:TA}{p pos:Pos}(l:Gl X "range")(y:X.mg "range"=none)(v:PA X [a,b] k)(z:starEach [a,b] X.env= [(false,eval a X.env),(false,eval b X.env)]:=by rfl)(d:starEach [b] X.env= [(false,eval b X.env)]:=by rfl):
  PI X tg (.Call (.Name "range" p) [a,b] [] pos) (MT k):=by
 intro c s n H R I h
 refine Call_ (lZ I l y boot_range (PyProof.Rows.callWith_type1 (cR (v pos c s n H _ I h) λF B ⟨G,H1,A,o,f⟩=> ?_) (by rw[z,d]) (by rw[d];rfl)))
 obtain⟨i,j,e,⟨f,x,m,w⟩,q⟩:=f
 subst e
 cases o with
 | cons r g=>
   cases g with
   | cons u g=>
     cases g
     obtain⟨t,rfl⟩:=r
     obtain⟨C,rfl⟩:=u
     exact call_range_2 (ze A f x m w q)
def NW(f:TI)(g:TG)(h:TS):TS:=λD a H=>f a H λJ H1=>∃W:Nat->Nat->St->Hp->Prop,(∃m,W 0 m a H1)/\∀i m a H,W i m a H→
 (J.stop i H/\D.nx a H)\/(J.go i H/\∃N:St->Hp->Prop,(∀b c,N b c->∃e,e<m/\W (i+1) e b c)/\∀x c,J.yld i H x c->g x a c λd H2=>h {D with nx:=N,ct:=N,bk:=D.nx} d H2)
noncomputable def nV(fp:List Addr)(h:Heap):List (Addr×Obj):=fp.filterMap λb=>(h.get? b).map λo=>(b,o)
def dt{fp:List Addr}{h:Heap}{b:Addr}{o:Obj}(a:b∈fp)(e:h.get? b=some o):(b,o)∈nV fp h:=List.mem_filterMap.mpr ⟨b,a,by rw[e];rfl⟩
def Dd{fp:List Addr}{h:Heap}{p:Addr×Obj}(c:p∈nV fp h):p.1∈fp/\h.get? p.1=some p.2:=by
 obtain⟨b,a,e⟩:=List.mem_filterMap.mp c
 cases q:h.get? b with
 |none=>rw[q] at e;cases e
 | some o=>
   rw[q] at e
   have d:(b,o)=p:=QdQ e
   subst d
   exact⟨a,q⟩
def Inv.pinned{a:List (Addr×Obj)}{c:St}{H:Hp}{s:Shared}{fp:List Addr}(I:Inv X a c H s)(k:∀b∈fp,qg X a H b)(l:∀b∈fp,∃o,s.heap.get? b=some o/\∀v,o.data≠.cell v):Inv X (a++nV fp s.heap) c H s:=
 I.pins_of λp i=>(mQa.mp i).elim (λz=>I.pin p (Qoq _ z)) λz=>by
  obtain⟨g,e⟩:=Dd z
  obtain⟨m,j,h,_⟩:=k p.1 g
  obtain⟨o,f,d⟩:=l p.1 g
  rw[e] at f;cases f
  exact⟨e,m,j,h,d⟩
def Inv.unpinned{a d:List (Addr×Obj)}{b:St}{H:Hp}{s:Shared}(I:Inv X (a++d) b H s):Inv X a b H s:=I.pins_of λp c=>I.pin p (Qoq _ (List.mem_append_left _ c))
def Jm{l:Expr}{C:List Stmt}{wi:TI}{g:TG}{tb:TS}{pos:Pos}(K:PassesOwn (model X.prog X.w) X.A X.env X.xe)(hc:X.calm=true)(hi:PI X tg l wi)(hg:PG X tg g)(p:rL X C tb)
  (hs:∀x,foldedSetIterable l X.env x=pure x:=by intro _;rfl):PS X (.For tg l C [] pos) (NW wi g tb):=by
 intro a s σ H D I h
 refine wpAny_For (cR (hi a s σ H _ I h) λv s1 h1=>cR h1 λa4 s2 h2=> ?_) hs
 obtain⟨it,R,tn,J,H2,e,I2,T,a3,f2,W,⟨m0,w0⟩,M⟩:=h2
 subst e
 have j:∀{z:Hp},(∀b∈R,z b=none)->∀b∈R,qg X a z b:=λhn b p=>⟨hn b p,(f2 b p).2⟩
 refine codeAny_forLoop_any (λn s'=>∃i t z,Inv X a t z s'/\tn i s'.heap/\(∀b∈R,z b=none)/\W i n t z) ?_ m0 ⟨0,σ,H2,I2,a3,λb p=>(f2 b p).1,w0⟩
 rintro n s3 ⟨i,k,H3,I3,L,Q,w3⟩
 rcases M i n k H3 w3 with⟨stop,qn⟩|⟨go,N,hN,P⟩
 ·refine wpAny_passesOwn K (cR (T.done X rfl rfl rfl hc i a s3 k H3 X.xe I3 (j Q) L stop) λr s4 F=> ?_)
  obtain⟨Z,I4⟩:=F
  subst Z
  exact wpAny_execs_nil ⟨k,H3,I4,qn⟩
 ·refine wpAny_passesOwn K (cR (T.item X rfl rfl rfl hc i a s3 k H3 X.xe I3 (j Q) L go) λr s4 F=> ?_)
  obtain⟨u,Z,h4⟩:=F
  subst Z
  refine wpAny_passesOwn K (cR h4 λ_ s5 F=> ?_)
  obtain⟨x,H5,I5,r5,y5,G,a2⟩:=F
  have a1:=I5.pinned (j a2) (T.obj _ _ G)
  refine wpAny_passesOwn K (cR (hg _ s5 k H5 x u _ a1 r5 (P x H5 y5)) λ_ s6 F=> ?_)
  obtain⟨U,H6,I6,q6⟩:=F
  refine wpAny_passesOwn K (cR (p _ s6 U H6 _ I6 q6) λf Y B=> ?_)
  have again:∀{c:St} {y:Hp},Inv X (a++nV R s5.heap) c y Y->N c y->∃m,m<n/\∃i t z,Inv X a t z Y/\tn i Y.heap/\(∀b∈R,z b=none)/\W i m t z:=λ{c y} q S=>by
   obtain⟨m',hm,w7⟩:=hN c y S
   refine⟨m',hm,i+1,c,y,q.unpinned,T.keep _ _ _ G λb p o e=>(q.pin (b,o) (Qoq _ (Qoq _ (dt p e)))).1,λb p=> ?_,w7⟩
   obtain⟨o,e,d⟩:=T.obj _ _ G b p
   exact(q.pin (b,o) (Qoq _ (Qoq _ (dt p e)))).2.1
  cases f with
  |next=>obtain⟨c,y,q,S⟩:=B;exact again q S
  |cont=>obtain⟨c,y,q,S⟩:=B;exact again q S
  |brk=>obtain⟨c,y,q,B⟩:=B;exact⟨c,y,q.unpinned,B⟩
  |ret v=>obtain⟨x7,c,y,q,r7,B⟩:=B;exact⟨x7,c,y,q.unpinned,r7,B⟩
end
abbrev R2:=V->V->Hp->VK->Prop
def je(X:Cx)(f:Value->Value->Sem Value)(r:R2):Prop:=
 ∀ (a:List (Addr×Obj)) (s:Shared) (b:St) (H:Hp) (x y:V) (v u:Value) (Q:VK),Inv X a b H s->RelV x v->RelV y u->r x y H Q→
   wpAny (model X.prog X.w) X.A (f v u) (EP X a b Q) X.xe s
def Ox(X:Cx)(f:Value->Sem Value)(r:V->Hp->VK->Prop):Prop:=
 ∀ (a:List (Addr×Obj)) (s:Shared) (b:St) (H:Hp) (x:V) (v:Value) (Q:VK),Inv X a b H s->RelV x v->r x H Q→
   wpAny (model X.prog X.w) X.A (f v) (EP X a b Q) X.xe s
def eV(X:Cx)(f:Value)(r:List V->Hp->VK->Prop):Prop:=
 ∀ (a:List (Addr×Obj)) (s:Shared) (c:St) (H:Hp) (b:List V) (d:List Value) (Q:VK),Inv X a c H s->bH b d->r b H Q→
   wpAny (model X.prog X.w) X.A (call f d) (EP X a c Q) X.xe s
def Oa(X:Cx)(r:V->Hp->(Bool->Hp->Prop)->Prop):Prop:=
 ∀ (a:List (Addr×Obj)) (s:Shared) (b:St) (H:Hp) (x:V) (v:Value) (Q:Bool->Hp->Prop),Inv X a b H s->RelV x v->r x H Q→
   wpAny (model X.prog X.w) X.A (truthy v) (TP X a b Q) X.xe s
def GC(r:R2)(c b:TE):TE:=λa H Q=>c a H λx H1=>b a H1 λy H2=>r x y H2 Q
def Pz(r:V->Hp->VK->Prop)(b:TE):TE:=λa H Q=>b a H λx H1=>r x H1 Q
def rI(C:Int->Int->Prop)(g:Int->Int->V):R2:=λx y H Q=>∃i j,x=.int i/\y=.int j/\C i j/\Q (g i j) H
def CZ(g:Int->Int->V):R2:=λx y H Q=>∃i j,x=.int i/\y=.int j/\Q (g i j) H
def rU(g:Int->V):V->Hp->VK->Prop:=λx H Q=>∃i,x=.int i/\Q (g i) H
section
variable{X:Cx}{a b c:Expr}{ta tb tc:TE}{pos:Pos}
def KP(o:PE X a ta)(r:PE X b tb){d:List (Addr×Obj)}{s:Shared}{e:St}{H:Hp}{R:V->V->Hp->Prop}(I:Inv X d e H s)
  (h:ta e H λx H1=>tb e H1 λy H2=>R x y H2) {Q:Value->Shared->Prop} {f:Value->Value->Sem Value}
  (t:∀v u j x y H2,Inv X d e H2 j->RelV x v->RelV y u->R x y H2->wpAny (model X.prog X.w) X.A (f v u) Q X.xe j):
  wpAny (model X.prog X.w) X.A (eval a X.env) (λv i=>wpAny (model X.prog X.w) X.A (eval b X.env) (λu g=>wpAny (model X.prog X.w) X.A (f v u) Q X.xe g) X.xe i) X.xe s:=by
 refine cR (o d s e H _ I h) λv l k=> ?_
 obtain⟨x,H1,B,n,m⟩:=k
 refine cR (r d l e H1 _ B m) λu j k=> ?_
 obtain⟨y,H2,p,z,q⟩:=k
 exact t v u j x y H2 p n z q
def pR{op:Operator}{r:R2}(l:je X (binaryOp op) r)(i:PE X a ta)(k:PE X b tb):PE X (.BinOp a op b pos) (GC r ta tb):=by
 intro d s f H Q I h
 exact wpAny_BinOp (KP i k I h λv u e x y H2 j g m q=>l d e f H2 x y v u Q j g m q)
def LC{op:UnaryOp}{r:V->Hp->VK->Prop}(j:Ox X (unaryOp op) r)(i:PE X a ta):PE X (.UnaryOp op a pos) (Pz r ta):=by
 intro d s e H Q I h
 exact UnaryOp_ (cR (i d s e H _ I h) λv f ⟨x,H1,l,k,g⟩=>j d f e H1 x v Q l k g)
def Nm{f:Value->Value->Sem Value}{C:Int->Int->Prop}{g:Int->Int->Int}
  (d:∀(i j:Int) (t u:Tok) (s:Shared) (Q:Value->Shared->Prop) (E:Value->Shared->Prop),C i j->Q (.int (g i j) s.toks) {s with toks:=s.toks+1}->wpAny (model X.prog X.w) X.A (f (.int i t) (.int j u)) Q E s):
  je X f (rI C λi j=>.int (g i j)):=by
 intro e s n H x y v u Q I l m h
 obtain⟨i,j,rfl,rfl,hc,q⟩:=h
 obtain⟨t,rfl⟩:=l
 obtain⟨k,rfl⟩:=m
 exact d i j t k s _ _ hc ⟨.int (g i j),H,I.tok _,⟨_,rfl⟩,q⟩
def LU{f:Value->Value->Sem Value}{g:Int->Int->Int}
  (d:∀(i j:Int) (t u:Tok) (s:Shared) (Q:Value->Shared->Prop) (E:Value->Shared->Prop),Q (.int (g i j) s.toks) {s with toks:=s.toks+1}->wpAny (model X.prog X.w) X.A (f (.int i t) (.int j u)) Q E s):
  je X f (CZ λi j=>.int (g i j)):=by
 intro e s n H x y v u Q I l m h
 obtain⟨i,j,rfl,rfl,q⟩:=h
 obtain⟨t,rfl⟩:=l
 obtain⟨k,rfl⟩:=m
 exact d i j t k s _ _ ⟨.int (g i j),H,I.tok _,⟨_,rfl⟩,q⟩
def Hd{f:Value->Value->Sem Value}{g:Int->Int->Bool}
  (d:∀(i j:Int) (t u:Tok) (s:Shared) (Q:Value->Shared->Prop) (E:Value->Shared->Prop),Q (.bool (g i j)) s->wpAny (model X.prog X.w) X.A (f (.int i t) (.int j u)) Q E s):
  je X f (CZ λi j=>.bl (g i j)):=by
 intro e s n H x y v u Q I l m h
 obtain⟨i,j,rfl,rfl,q⟩:=h
 obtain⟨t,rfl⟩:=l
 obtain⟨k,rfl⟩:=m
 exact d i j t k s _ _ ⟨.bl (g i j),H,I,rfl,q⟩
def EC(i j:Int):Prop:=0<j/\j<1073741824
def E8(i j:Int):Prop:=0<=j/\j<=1000000/\i.natAbs<2^64
def G4(i j:Int):Prop:=(-(2^64)<i/\i<2^64)\/(-(2^64)<j/\j<2^64)
def G4.ok{i j:Int}(h:G4 i j):IntMulOk i j:=by
 rcases h with⟨e,d⟩|⟨e,d⟩
 ·exact .of_left (intBits_le_64 e d)
 ·exact .of_right (intBits_le_64 e d)
def Lb:je X (binaryOp .Add) (CZ λi j=>.int (i+j)):=LU λ_ _ _ _ _ _ _ q=>add_int q
def K8:je X (binaryOp .Sub) (CZ λi j=>.int (i-j)):=LU λ_ _ _ _ _ _ _ q=>sub_int q
def HW:je X (binaryOp .FloorDiv) (rI EC λi j=>.int (i/j)):=Nm λi j _ _ _ _ _ d q=>by
 have f:(0:Int)<j:=d.1
 have e:j<1073741824:=d.2
 exact floordiv_int (by omega) (by rw[Int.fdiv_eq_ediv_of_nonneg i (by omega)];exact q) (.inl (PyProof.noPylong_small (by omega)))
def Jp:je X (binaryOp .Mod) (rI (λ_ j=>0<j) λi j=>.int (i%j)):=Nm λi j _ _ _ _ _ d q=>by
 have e:(0:Int)<j:=d
 exact mod_int' (by omega) (by rw[Int.fmod_eq_emod_of_nonneg i (by omega)];exact q)
def K0:je X (binaryOp .Pow) (rI E8 λi j=>.int (i^j.toNat)):=Nm λ_ _ _ _ _ _ _ d q=>pow_int_small d.1 d.2.1 d.2.2 q
def Pt{f:Value->Sem Value}{g:Int->Int}
  (d:∀(i:Int) (t:Tok) (s:Shared) (Q:Value->Shared->Prop) (E:Value->Shared->Prop),Q (.int (g i) s.toks) {s with toks:=s.toks+1}->wpAny (model X.prog X.w) X.A (f (.int i t)) Q E s):
  Ox X f (rU λi=>.int (g i)):=by
 intro e s k H x v Q I j h
 obtain⟨i,rfl,q⟩:=h
 obtain⟨t,rfl⟩:=j
 exact d i t s _ _ ⟨.int (g i),H,I.tok _,⟨_,rfl⟩,q⟩
def Kw:Ox X (unaryOp .USub) (rU λi=>.int (-i)):=Pt λ_ _ _ _ _ q=>neg_int q
end
noncomputable def A2:V->V->Bool
 |.non,.non=>true|.non,.int _=>true|.int _,.non=>true|.non,.bl _=>true|.bl _,.non=>true|.non,.str _=>true|.str _,.non=>true
 |.int _,.int _=>true|.bl _,.bl _=>true|.str _,.str _=>true|.byt _,.byt _=>true
 |.int _,.str _=>true|.str _,.int _=>true|.bl _,.str _=>true|.str _,.bl _=>true
 |_,_=>false
def O_:R2:=λx y H Q=>A2 x y=true/\Q (.bl (decide (x=y))) H
def OU:R2:=λx y H Q=>A2 x y=true/\Q (.bl (!decide (x=y))) H
def CL{i j:Int}:decide (V.int i=V.int j)=(i==j):=by
 rw[Bool.eq_iff_iff]
 simp
def E6{i j:Bool}:decide (V.bl i=V.bl j)=(i==j):=by
 rw[Bool.eq_iff_iff]
 simp
def BP{i j:Str}:decide (V.str i=V.str j)=(i==j):=by
 rw[Bool.eq_iff_iff]
 simp
def Cf{i j:Array UInt8}:decide (V.byt i=V.byt j)=(i.toList==j.toList):=by
 rw[Bool.eq_iff_iff]
 cases i
 cases j
 simp
section
variable{X:Cx}{a b c:Expr}{ta tb tc:TE}{pos:Pos}
def bU{d:List (Addr×Obj)}{g:St}{H:Hp}{s:Shared}{Q:VK}{k f:Bool}(I:Inv X d g H s)(q:Q (.bl k) H)(e:k=f):EP X d g Q (.bool f) s:=by
 subst e
 exact⟨.bl k,H,I,rfl,q⟩
def lD:je X (compareOp .Eq) O_:=by
 intro k s l H x y v u Q I g d h
 obtain⟨f,q⟩:=h
 cases x with
 | non=>
   cases g
   cases y with
   |non=>cases d;exact PySem.EqNone.eq_none_none (bU I q (by simp))
   |bl j=>cases d;exact PySem.EqNone.eq_none_bool (bU I q (by simp))
   |int j=>obtain⟨e,rfl⟩:=d;exact PySem.EqNone.eq_none_int (bU I q (by simp))
   |str j=>obtain⟨e,rfl⟩:=d;exact PySem.EqNone.eq_none_str (bU I q (by simp))
   |_=>exact absurd (show false=true from f) Qtq
 | bl i=>
   cases g
   cases y with
   |non=>cases d;exact PySem.EqNone.eq_bool_none (bU I q (by simp))
   |bl j=>cases d;exact eq_bool (bU I q E6)
   |str j=>obtain⟨e,rfl⟩:=d;exact PySem.EqMixed.eq_bool_str (bU I q (by simp))
   |_=>exact absurd (show false=true from f) Qtq
 | int i=>
   obtain⟨t,rfl⟩:=g
   cases y with
   |non=>cases d;exact PySem.EqNone.eq_int_none (bU I q (by simp))
   |int j=>obtain⟨e,rfl⟩:=d;exact eq_int (bU I q CL)
   |str j=>obtain⟨e,rfl⟩:=d;exact PySem.EqMixed.eq_int_str (bU I q (by simp))
   |_=>exact absurd (show false=true from f) Qtq
 | str i=>
   obtain⟨t,rfl⟩:=g
   cases y with
   |non=>cases d;exact PySem.EqNone.eq_str_none (bU I q (by simp))
   |bl j=>cases d;exact PySem.EqMixed.eq_str_bool (bU I q (by simp))
   |int j=>obtain⟨e,rfl⟩:=d;exact PySem.EqMixed.eq_str_int (bU I q (by simp))
   |str j=>obtain⟨e,rfl⟩:=d;exact eq_str (bU I q BP)
   |_=>exact absurd (show false=true from f) Qtq
 | byt i=>
   obtain⟨t,rfl⟩:=g
   cases y with
   |byt j=>obtain⟨e,rfl⟩:=d;exact PySem.W.eq_bytes (bU I q Cf)
   |_=>exact absurd (show false=true from f) Qtq
 |_=>cases y <;>exact absurd (show false=true from f) Qtq
def O0:je X (compareOp .NotEq) OU:=by
 intro k s l H x y v u Q I g d h
 obtain⟨f,q⟩:=h
 cases x with
 | non=>
   cases g
   cases y with
   |non=>cases d;exact PySem.EqNone.ne_none_none (bU I q (by simp))
   |bl j=>cases d;exact PySem.EqNone.ne_none_bool (bU I q (by simp))
   |int j=>obtain⟨e,rfl⟩:=d;exact PySem.EqNone.ne_none_int (bU I q (by simp))
   |str j=>obtain⟨e,rfl⟩:=d;exact PySem.EqNone.ne_none_str (bU I q (by simp))
   |_=>exact absurd (show false=true from f) Qtq
 | bl i=>
   cases g
   cases y with
   |non=>cases d;exact PySem.EqNone.ne_bool_none (bU I q (by simp))
   |bl j=>cases d;exact ne_bool (bU I q (congrArg not E6))
   |str j=>obtain⟨e,rfl⟩:=d;exact PySem.EqMixed.ne_bool_str (bU I q (by simp))
   |_=>exact absurd (show false=true from f) Qtq
 | int i=>
   obtain⟨t,rfl⟩:=g
   cases y with
   |non=>cases d;exact PySem.EqNone.ne_int_none (bU I q (by simp))
   |int j=>obtain⟨e,rfl⟩:=d;exact ne_int (bU I q (congrArg not CL))
   |str j=>obtain⟨e,rfl⟩:=d;exact PySem.EqMixed.ne_int_str (bU I q (by simp))
   |_=>exact absurd (show false=true from f) Qtq
 | str i=>
   obtain⟨t,rfl⟩:=g
   cases y with
   |non=>cases d;exact PySem.EqNone.ne_str_none (bU I q (by simp))
   |bl j=>cases d;exact PySem.EqMixed.ne_str_bool (bU I q (by simp))
   |int j=>obtain⟨e,rfl⟩:=d;exact PySem.EqMixed.ne_str_int (bU I q (by simp))
   |str j=>obtain⟨e,rfl⟩:=d;exact ne_str (bU I q (congrArg not BP))
   |_=>exact absurd (show false=true from f) Qtq
 | byt i=>
   obtain⟨t,rfl⟩:=g
   cases y with
   |byt j=>obtain⟨e,rfl⟩:=d;exact PySem.W.ne_bytes (bU I q (congrArg not Cf))
   |_=>exact absurd (show false=true from f) Qtq
 |_=>cases y <;>exact absurd (show false=true from f) Qtq
def El:je X (compareOp .Lt) (CZ λi j=>.bl (decide (i<j))):=Hd λ_ _ _ _ _ _ _ q=>lt_int q
def OO:je X (compareOp .LtE) (CZ λi j=>.bl (decide (i<=j))):=Hd λ_ _ _ _ _ _ _ q=>le_int q
def Po:je X (compareOp .Gt) (CZ λi j=>.bl (decide (j<i))):=Hd λ_ _ _ _ _ _ _ q=>gt_int q
def MR:je X (compareOp .GtE) (CZ λi j=>.bl (decide (j<=i))):=Hd λ_ _ _ _ _ _ _ q=>ge_int q
def NM:je X (compareOp .Is) (λx y H Q=>y=.non/\Q (.bl (decide (x=.non))) H):=by
 intro d s g H x y v u Q I e f h
 obtain⟨rfl,q⟩:=h
 cases f
 refine is_none_gen (bU I q ?_)
 cases x <;>first
  |(cases e;rfl)
  |(obtain⟨t,rfl⟩:=e;rfl)
def NB:je X (compareOp .IsNot) (λx y H Q=>y=.non/\Q (.bl (!decide (x=.non))) H):=by
 intro d s g H x y v u Q I e f h
 obtain⟨rfl,q⟩:=h
 cases f
 refine isnot_none_gen (bU I q ?_)
 cases x <;>first
  |(cases e;rfl)
  |(obtain⟨t,rfl⟩:=e;rfl)
def je.or{f:Value->Value->Sem Value}{r g:R2}(h:je X f r)(h':je X f g):je X f (λx y H Q=>r x y H Q\/g x y H Q):=by
 intro d s i H x y v u Q I j e q
 rcases q with q|q
 ·exact h d s i H x y v u Q I j e q
 ·exact h' d s i H x y v u Q I j e q
def d_(b:Expr){op:CmpOp}(h:op≠.In:=by decide)(e:op≠.NotIn:=by decide):behindInMarks op b=false:=by
 have f:(op==CmpOp.In)=false:=by cases op <;>first|rfl|exact absurd rfl h
 have d:(op==CmpOp.NotIn)=false:=by cases op <;>first|rfl|exact absurd rfl e
 cases b <;>simp[behindInMarks,f,d]
def B8{op:CmpOp}{r:R2}(l:je X (compareOp op) r)(i:PE X a ta)(k:PE X b tb)(n:behindInMarks op b=false):PE X (.Compare a [op] [b] pos) (GC r ta tb):=by
 intro d s f H Q I h
 exact wpAny_Compare1 (KP i k I h λv u e x y H2 j g m q=>l d e f H2 x y v u Q j g m q) n
def Fx(t:TE):TT:=λd H Q=>t d H λx e=>∃k,x=.bl k/\Q k e
def pd{op:CmpOp}{r:R2}(A:je X (compareOp op) r)(o:PE X a ta)(w:PE X b tb)(C:behindInMarks op b=false):PT X (.Compare a [op] [b] pos) (Fx (GC r ta tb)):=by
 intro d s f H Q I h
 refine wpAny_isTrue_Compare1 (cR (o d s f H _ I h) λv g ⟨x,H1,F,m,i⟩=>cR (w d g f H1 _ F i) λu l ⟨y,H2,p,B,t⟩=>
  cR (A d l f H2 x y v u _ p m B t) λc G ⟨z,H3,n,q,k,e,j⟩=> ?_) C
 subst e
 cases q
 exact wpAny_truthy_bool ⟨H3,n,j⟩
def JG(K:PySem.W.Frag)(x:V)(H:Hp)(k:Bool):Prop:=
 match x with
 |.non=>k=false
 |.bl b=>k=b
 |.int i=>k=(i !=0)
 |.str y=>y.length<=sizeLine/\k=((y.length:Int) !=0)
 |.byt y=>y.size<=sizeLine/\k=((y.size:Int) !=0)
 |.ref p=>(∃d,iC K H p d/\k= !d.isEmpty)\/(∃d,gH K H p d/\k= !d.isEmpty)\/∃e,H p=some (.dK e)/\k= !e.isEmpty
 |_=>False
def Bb{κ:Type}{kvs:List (κ×V)}{vs:List (κ×Value)}(r:KV kvs vs):(!vs.isEmpty)= !kvs.isEmpty:=by
 cases r <;>rfl
def uu{xs:List V}{d:List Value}(r:bH xs d):(!d.toArray.isEmpty)= !xs.isEmpty:=by
 cases r <;>simp
def kO:(sizeLine:Nat)<2^63:=by rw[sizeLine_eq];decide
def K4:Oa X (λx H Q=>∃k,JG X.K x H k/\Q k H):=by
 intro A s G H x v Q I l h
 obtain⟨k,e,q⟩:=h
 have hl:=kO
 have J:sizeLine=16777216:=sizeLine_eq
 cases x with
 | non=>
   cases l
   have d:k=false:=e
   subst d
   exact truthy_none ⟨H,I,q⟩
 | bl b=>
   cases l
   have d:k=b:=e
   subst d
   exact wpAny_truthy_bool ⟨H,I,q⟩
 | int i=>
   obtain⟨t,rfl⟩:=l
   have d:k=(i !=0):=e
   subst d
   exact PySem.P.truthy_int ⟨H,I,q⟩
 | str y=>
   obtain⟨t,rfl⟩:=l
   obtain⟨F,d⟩:y.length<=sizeLine/\k=((y.length:Int) !=0):=e
   subst d
   exact PySem.P.truthy_str (by omega) ⟨H,I.tok _,q⟩
 | byt y=>
   obtain⟨t,rfl⟩:=l
   obtain⟨F,d⟩:y.size<=sizeLine/\k=((y.size:Int) !=0):=e
   subst d
   exact PySem.W.truthy_bytes (by omega) ⟨H,I.tok _,q⟩
 | ref p=>
   cases l
   have d:(∃j,iC X.K H p j/\k= !j.isEmpty)\/(∃j,gH X.K H p j/\k= !j.isEmpty)\/∃f,H p=some (.dK f)/\k= !f.isEmpty:=e
   rcases d with⟨j,n,d⟩|⟨j,n,d⟩|⟨f,n,d⟩
   · subst d
     obtain⟨z,r,u,B⟩:=I.list n
     have g:=r.length
     exact wpAny_truthy_list u.isList (by simp only[Qjq];omega) ⟨H,I.tok _,by rw[uu r];exact q⟩
   · subst d
     obtain⟨z,r,u,B⟩:=I.tuple n
     have g:=r.length
     exact truthy_tuple u (by simp only[Qjq];omega) ⟨H,I.tok _,by rw[uu r];exact q⟩
   · subst d
     obtain⟨B,C,o,r,m⟩:f.length<=sizeLine/\(p==sysModules)=false/\∃o,KV f o/\s.heap.DictOf (bW X.prog X.w) p o:=I.hok p _ n
     have g:f.length=o.length:=Paired.length r
     exact wpAny_truthy_dict C m (by omega) ⟨H,I.tok _,by rw[Bb r];exact q⟩
 |_=>exact(show False from e).elim
def Eh(m:PE X a ta)(he:∀d,isTrue a X.env d=(do let v←d;standAt a.pos;holding [v] (truthy v))):
  PT X a (λf H Q=>ta f H λx g=>∃k,JG X.K x g k/\Q k g):=by
 intro e s f H Q I h
 exact isTrue_plain (cR (m e s f H _ I h) λv i ⟨x,H1,n,l,j⟩=>K4 e i f H1 x v Q n l j) (he _)
def Bx:je X (binaryOp .Add) (λx y H Q=>∃i j,x=.str i/\y=.str j/\i.length+j.length<=sizeLine/\Q (.str (i++j)) H):=by
 intro d s k H x y v u Q I g e h
 obtain⟨i,j,rfl,rfl,hz,q⟩:=h
 obtain⟨t,rfl⟩:=g
 obtain⟨f,rfl⟩:=e
 exact add_str (λf l=>⟨.str (i++j),H,I.tok _,⟨_,rfl⟩,q⟩) hz
def vals1{x:V}{d:List Value}(r:bH [x] d):∃u,d= [u]/\RelV x u:=by
 cases r with
 |cons f e=>cases e;exact⟨_,rfl,f⟩
def vals2{x y:V}{e:List Value}(r:bH [x,y] e):∃u d,e= [u,d]/\RelV x u/\RelV y d:=by
 cases r with
 | cons h f=>
   cases f with
   |cons i g=>cases g;exact⟨_,_,rfl,h,i⟩
def LQ:eV X (.builtin "abs") (λxs H Q=>∃i,xs= [.int i]/\Q (.int (if i<0 then -i else i)) H):=by
 intro d s e H xs g Q I r h
 obtain⟨i,rfl,q⟩:=h
 obtain⟨u,rfl,t,rfl⟩:=vals1 r
 exact call_abs_int λu f=>⟨.int (if i<0 then -i else i),H,I.tok _,⟨_,rfl⟩,q⟩
def Ld(f:X.calm=true):eV X (.builtin "max") (λxs H Q=>∃i j,xs= [.int i,.int j]/\Q (.int (if j>i then j else i)) H):=by
 intro e s l H xs n Q I r h
 obtain⟨i,j,rfl,q⟩:=h
 obtain⟨u,g,rfl,⟨t,rfl⟩,⟨t',rfl⟩⟩:=vals2 r
 refine max_two_ints (I.ok.hd f) λo m k=>⟨_,H,I.kept k,?_,q⟩
 by_cases d:j>i
 ·rw[Qhq d,Qhq d];exact⟨_,rfl⟩
 ·rw[Quq d,Quq d];exact⟨_,rfl⟩
def Li(f:X.calm=true):eV X (.builtin "min") (λxs H Q=>∃i j,xs= [.int i,.int j]/\Q (.int (if j<i then j else i)) H):=by
 intro e s l H xs n Q I r h
 obtain⟨i,j,rfl,q⟩:=h
 obtain⟨u,g,rfl,⟨t,rfl⟩,⟨t',rfl⟩⟩:=vals2 r
 refine min_two_ints (I.ok.hd f) λo m k=>⟨_,H,I.kept k,?_,q⟩
 by_cases d:j<i
 ·rw[Qhq d,Qhq d];exact⟨_,rfl⟩
 ·rw[Quq d,Quq d];exact⟨_,rfl⟩
def Df:eV X (.type "int") (λxs H Q=>(∃i,xs= [.int i]/\Q (.int i) H)\/∃k,xs= [.bl k]/\Q (.int (if k then 1 else 0)) H):=by
 intro d s e H xs f Q I r h
 rcases h with⟨i,rfl,q⟩|⟨k,rfl,q⟩
 ·obtain⟨u,rfl,t,rfl⟩:=vals1 r
  exact call_int_int ⟨.int i,H,I,⟨_,rfl⟩,q⟩
 ·obtain⟨u,rfl,r1⟩:=vals1 r
  cases r1
  exact call_int_bool ⟨.int (if k then 1 else 0),H,I.tok _,⟨_,rfl⟩,q⟩
end
structure KC(h:Heap)(x dx C:Addr)(mA:Str->Option Value):Prop where
 obj:h.get? x=some (PySem.W.instObj C dx)
 ns:h.Ns1 dx mA
 ne:dx≠x
def C2{h:Heap}{g:Addr}{f:Str->Option Value}(n:h.Ns1 g f):∃c,h.get? g=some c/\∀name,PySem.W.lookIn name c=some (f name):=by
 obtain⟨o,d,r,k,j,l,_,m⟩:=n
 refine⟨o,k,λname=> ?_⟩
 have e:=m name
 unfold nsFind findBy at e
 rw[←Array.find?_toList] at e
 unfold PySem.W.lookIn
 rw[j]
 dsimp only
 split
 ·rename_i y q
  rw[q] at e
  exact congrArg some e
 ·rename_i q
  rw[q] at e
  have a:d.toList.any (·.refKey)=false:=by
   rw[List.any_eq_false]
   intro y p
   obtain⟨z,t,b⟩:=l y (Array.mem_toList_iff.mp p)
   simp[DictEntry.refKey,b]
  have i:¬d.toList.any (·.refKey)=true:=by rw[a];exact Qtq
  rw[Quq i]
  exact congrArg some e
def KC.look{h:Heap}{x c C:Addr}{b:Str->Option Value}(I:KC h x c C b):∃a,PySem.W.InstAt h x (PySem.W.instObj C c) C (some a)/\∀name,PySem.W.lookIn name a=some (b name):=
 let ⟨a,ho,hl⟩:=C2 I.ns
 ⟨a,⟨I.obj,rfl,rfl,ho⟩,hl⟩
def sy.some_of{v:V}{o:Option Value}(r:sy (some v) o):∃u,o=some u/\RelV v u:=by
 cases o with
 |none=>exact(show False from r).elim
 |some u=>exact⟨u,rfl,r⟩
section
variable{P:Program}{w:World}{H H':Hp}{h h':Heap}{a C dx:Addr}{fs fs':List (Str×V)}
def Ip(c:oE P w H h)(e:H a=some (.ins C dx fs)):∃b,KC h a dx C b/\(∀f,sy (fs.lookup f) (b f))/\PySem.Within b (fs.map (·.1))/\fs.length<=1000/\H dx=some (.own a):=by
 obtain⟨d,z,g,i,b,n,r,q⟩:=(show cG P w H h a (.ins C dx fs) from c a _ e)
 exact⟨b,⟨i,n,g⟩,r,q,z,d⟩
end
structure Of(K:PySem.W.Frag)(C:Addr):Prop where
 pg:PySem.W.plainGet K C Str.empty=true
 hd:PySem.W.hasDictIn K C=true
 po:PySem.W.plainOver K C=true
 sa:PySem.W.findIn K (.ref C) "__setattr__"=some (some (.builtin "object.__setattr__"))
def Of.get{K:PySem.W.Frag}{C:Addr}(c:Of K C)(f:Str):PySem.W.plainGet K C f=true:=c.pg
section
variable{X:Cx}{pins:List (Addr×Obj)}{σ:St}{H:Hp}{s:Shared}{A:Around}{E:Value->Shared->Prop}{Q:Value->Shared->Prop}{c:Value}{b:Bool}
inductive qp(K:PySem.W.Frag)(H:Hp):V->Value->Prop where
 |non:qp K H .non (.type "NoneType")
 |bl (x:Bool):qp K H (.bl x) (.type "bool")
 |int (i:Int):qp K H (.int i) (.type "int")
 |str (x:Str):qp K H (.str x) (.type "str")
 |flt (x:UInt64):qp K H (.flt x) (.type "float")
 |lst {a:Addr} {xs:List V} (e:H a=some (.lst xs)):qp K H (.ref a) (.type "list")
 |frz {a:Addr} {o:Obj} {xs:List V} (e:H a=some (.frz o (.lst xs))):qp K H (.ref a) (.type "list")
 |tup {a:Addr} {xs:List V} (e:H a=some (.tup xs)):qp K H (.ref a) (.type "tuple")
 |dK {a:Addr} {kvs:List (Key×V)} (e:H a=some (.dK kvs)):qp K H (.ref a) (.type "dict")
 |dT {a:Addr} {kvs:List (List Key×V)} (e:H a=some (.dT kvs)):qp K H (.ref a) (.type "dict")
 |ins {a C dx:Addr} {fs:List (Str×V)} (e:H a=some (.ins C dx fs)) (cl:Of K C) (ha:PySem.W.findIn K (.ref C) "__class__"=some (some (.builtin "object.__class__")))
   (hn:PySem.W.specialIn K (.builtin "object.__class__") "__get__"=some (some (.builtin "getset_descriptor.__get__"))) (htk:PySem.W.takesIn K (.builtin "object.__class__")=some true)
   (hm:PySem.W.mroIn K C (.type "object")=some true):qp K H (.ref a) (.ref C)
def DB{x:V}{u t:Value}(I:Inv X pins σ H s)(d:RelV x u)(r:qp X.K H x t)(e:PySem.W.kitOne X.K t c=some b)(h:∀k,Q (.bool b) {s with toks:=k}):
  wpAny (model X.prog X.w) A (call (.builtin "isinstance") [u,c]) Q E s:=by
 cases r with
 |non=>cases (show u=Value.none from d);exact PySem.W.kia_one PySem.W.kitx_none I.kIn True.intro e (λz=>nomatch z) h
 |bl y=>cases (show u=Value.bool y from d);exact PySem.W.kia_one PySem.W.kitx_bool I.kIn True.intro e (λz=>nomatch z) h
 |int i=>obtain⟨t,q⟩:=(show∃t,u=Value.int i t from d);cases q;exact PySem.W.kia_one PySem.W.kitx_int I.kIn True.intro e (λz=>nomatch z) h
 |str y=>obtain⟨t,q⟩:=(show∃t,u=Value.str y t from d);cases q;exact PySem.W.kia_one PySem.W.kitx_str I.kIn True.intro e (λz=>nomatch z) h
 |flt y=>obtain⟨t,q⟩:=(show∃t,u=Value.float y t from d);cases q;exact PySem.W.kia_one PySem.W.kitx_float I.kIn True.intro e (λz=>nomatch z) h
 | @lst a g ea=>
   cases (show u=Value.ref a from d)
   obtain⟨_,_,n,_,f⟩:=(show cG X.prog X.w H s.heap a (.lst g) from I.hok a _ ea)
   exact PySem.W.kia_one PySem.W.kitx_list I.kIn ⟨_,f,rfl⟩ e (λz=>nomatch z) h
 | @frz a ob g ea=>
   cases (show u=Value.ref a from d)
   obtain⟨_,_,_,n,_,f⟩:=(show cG X.prog X.w H s.heap a (.frz ob (.lst g)) from I.hok a _ ea)
   exact PySem.W.kia_one PySem.W.kitx_list I.kIn ⟨_,f,rfl⟩ e (λz=>nomatch z) h
 | @tup a g ea=>
   cases (show u=Value.ref a from d)
   obtain⟨_,_,_,p⟩:=(show cG X.prog X.w H s.heap a (.tup g) from I.hok a _ ea)
   obtain⟨o,f,j,_⟩:=p
   exact PySem.W.kia_one PySem.W.kitx_tuple I.kIn ⟨o,f,j⟩ e (λz=>nomatch z) h
 | @dK a kvs ea=>
   cases (show u=Value.ref a from d)
   obtain⟨_,_,B,_,p⟩:=(show cG X.prog X.w H s.heap a (.dK kvs) from I.hok a _ ea)
   obtain⟨o,m,l,f,j,_⟩:=p
   exact PySem.W.kia_one PySem.W.kitx_dict I.kIn ⟨o,f,j.1⟩ e (λz=>nomatch z) h
 | @dT a kvs ea=>
   cases (show u=Value.ref a from d)
   obtain⟨_,_,g,_,o,m,l,f,j,_⟩:=(show cG X.prog X.w H s.heap a (.dT kvs) from I.hok a _ ea)
   exact PySem.W.kia_one PySem.W.kitx_dict I.kIn ⟨o,f,j.1⟩ e (λz=>nomatch z) h
 | @ins a C dx fs ea cl ha hn htk hm=>
   cases (show u=Value.ref a from d)
   obtain⟨F,O,_⟩:=Ip I.hok ea
   obtain⟨v,J,_⟩:=O.look
   exact PySem.W.kia_one (PySem.W.kitx_own (cl.get _) cl.hd ha hn htk hm) I.kIn J e (λz=>nomatch z) h
end
structure eQ(k:Nat)(A:Around):Prop where
 hd:A.handled=none
 dp:A.depth+3*k+5<recursionLimit
 un:A.units+16*k+200<cLine
def eQ.mono{j k:Nat}{A:Around}(r:eQ k A)(h:j<=k):eQ j A:=⟨r.hd,by have:=r.dp;omega,by have:=r.un;omega⟩
def eQ.deeper{k:Nat}{A:Around}(r:eQ (k+1) A)(env:Env):eQ k (A.deeper env):=
 ⟨r.hd,by have:=r.dp;show A.depth+1+3*k+5<_;omega,by have:=r.un;show A.units+3+16*k+200<_;omega⟩
def eQ.depth{k:Nat}{A:Around}(r:eQ k A):A.depth<recursionLimit:=by have:=r.dp;omega
def eQ.units{k:Nat}{A:Around}(r:eQ k A):A.units+64<cLine:=by have:=r.un;omega
def eQ.units0{k:Nat}{A:Around}(r:eQ k A):A.units<cLine:=by have:=r.un;omega
def JS:TA:=λ_ H Q=>Q [] H
def Gu(c:TE)(d:TA):TA:=λa H Q=>c a H λx H1=>d a H1 λb H2=>Q (x::b) H2
section
variable{X:Cx}{e:Expr}{es:List Expr}{te:TE}{t:TA}{pos:Pos}
def eM:PA X [] JS:=λ_ _ _ _ H Q I h=>Calls.spliced_nil ⟨[],H,I,.nil,h⟩
def cz(i:PE X e te)(j:PA X es t)(o:starEach (e::es) X.env=(false,eval e X.env)::starEach es X.env:=by rfl):PA X (e::es) (Gu te t):=by
 intro pos a s b H Q I h
 rw[o]
 show wpAny _ _ (spliced ((false,eval e X.env)::backTo pos (starEach es X.env))) _ _ s
 refine Calls.spliced_cons (cR (i a s b H _ I h) λu c m=> ?_)
 obtain⟨x,H1,p,f,d⟩:=m
 exact cR (j pos a c b H1 _ p d) λr q ⟨g,H2,k,n,l⟩=>⟨x::g,H2,k,.cons f n,l⟩
def Oe(t:TA):TE:=λb H Q=>t b H λa H1=>a.length<=sizeLine/\∀p,H1 p=none->Q (.ref p) (upd H1 p (.tup a))
def NL(t:TA):TE:=λb H Q=>t b H λa H1=>a.length<=sizeLine/\∀p,H1 p=none->Q (.ref p) (upd H1 p (.lst a))
def Gg{x1}(h:PA X es t):PE X (.Tuple es x1 pos) (Oe t):=by
 intro a s f H Q I j
 refine wpAny_Tuple_spliced (cR (h pos a s f H _ I j) λi c ⟨g,H1,d,r,z,q⟩=>⟨by rw[←r.length];exact z,?_⟩)
 have k:H1 c.heap.objs.size=none:=d.hok.fresh (Qmq _)
 refine⟨.ref c.heap.objs.size,upd H1 c.heap.objs.size (.tup g),d.laid (t':=c.toks) (λb u e=>Qcq _ e) (Qmq _) ?_,rfl,q _ k⟩
 exact⟨z,i,r,⟨_,Qrq _ rfl,rfl,rfl,_,rfl⟩⟩
def Jv(h:PA X es t):PE X (.List es pos) (NL t):=by
 intro a s f H Q I j
 refine wpAny_List_spliced (cR (h pos a s f H _ I j) λi c ⟨g,H1,d,r,z,q⟩=>⟨by rw[←r.length];exact z,?_⟩)
 have k:H1 c.heap.objs.size=none:=d.hok.fresh (Qmq _)
 refine⟨.ref c.heap.objs.size,upd H1 c.heap.objs.size (.lst g),d.laid (t':=c.toks) (λb u e=>Qcq _ e) (Qmq _) ?_,rfl,q _ k⟩
 exact⟨z,i,0,r,Qrq _ rfl⟩
end
abbrev Sp:=List V->Hp->VK->XK->Prop
abbrev Ee:=List Env->Hp->Shared->XK->Value->Shared->Prop
structure Hu(P:Program)(w:World)(K:PySem.W.Frag)(mg:Str->Option Value)(base:Heap)(A:Around)(outer:List Env)(s:Shared)(H:Hp):Prop where
 frames:A.frames=some outer
 mod:Mod K mg base
 bs:∀b o,base.get? b=some o->s.heap.get? b=some o/\H b=none
 bsz:base.objs.size<=s.heap.objs.size
 funs:s.heap.FunFrames base outer
 frf:∀b∈Fu outer,H b=none
 hok:oE P w H s.heap
 bare:AllBare s.gens
def CE(outer:List Env)(P:Program)(w:World)(H:Hp)(s:Shared)(Q:VK)(u:Value)(a:Shared):Prop:=
 ∃v b,a.os=s.os/\AllBare a.gens/\Un (Fu outer) [] H b s.heap a.heap/\oE P w b a.heap/\RelV v u/\Q v b
def CR(CX:Ee)(outer:List Env)(P:Program)(w:World)(H:Hp)(s:Shared)(Q:VK)(E:XK)(r:Result)(a:Shared):Prop:=
 match r with
 |.ok (.ret u)=>CE outer P w H s Q u a
 |.ok _=>False
 |.error e=>CX outer H s E e a
structure bA(P:Program)(w:World)(K:PySem.W.Frag)(mg:Str->Option Value)(base:Heap)(CX:Ee)(k:Nat)(f:Addr)(fd:FuncData)(ps:List Str)(sp:Sp):Prop where
 len:∀vs H Q E,sp vs H Q E->vs.length=ps.length
 run:∀(A:Around) (outer:List Env) (s:Shared) (H:Hp) (args:Args) (us:List Value) (vs:List V) (Q:VK) (E:XK),eQ k A->Hu P w K mg base A outer s H->BindsTo s fd args (ps.zip us)->bH vs us->sp vs H Q E→
  codeAny (model P w) A (.call (.ref f) args) (CR CX outer P w H s Q E) s
def bA.mono{P:Program}{w:World}{K:PySem.W.Frag}{mg:Str->Option Value}{base:Heap}{CX:Ee}{j k:Nat}{f:Addr}{c:FuncData}{ps:List Str}{sp:Sp}(F:bA P w K mg base CX j f c ps sp)(h:j<=k):
  bA P w K mg base CX k f c ps sp:=⟨F.len,λA a s H b e g Q E d=>F.run A a s H b e g Q E (d.mono h)⟩
def bA.imp{P:Program}{w:World}{K:PySem.W.Frag}{mg:Str->Option Value}{base:Heap}{CX:Ee}{k:Nat}{f:Addr}{d:FuncData}{ps:List Str}{sp b:Sp}(F:bA P w K mg base CX k f d ps sp)
  (h:∀vs H Q E,b vs H Q E->sp vs H Q E):bA P w K mg base CX k f d ps b:=
 ⟨λvs H Q E q=>F.len vs H Q E (h _ _ _ _ q),λA a s H c g vs Q E e l i j m=>F.run A a s H c g vs Q E e l i j (h _ _ _ _ m)⟩
section
variable{X:Cx}{pins:List (Addr×Obj)}{σ:St}{H:Hp}{s s':Shared}
def Inv.env0(I:Inv X pins σ H s):Hu X.prog X.w X.K X.mg X.base X.A X.stack s H:=
 ⟨I.ok.frames,I.ok.mod,I.bs,QAq I.ok.bsz I.sz,I.stack,I.stkFree,I.hok,I.bare⟩
def Inv.after{Q:VK}{u:Value}(I:Inv X pins σ H s)(h:CE X.stack X.prog X.w H s Q u s'):EP X pins σ Q u s':=by
 obtain⟨v,i,f,a,j,c,r,q⟩:=h
 obtain⟨k,g,d,t,e⟩:=s'
 obtain rfl:e=s.os:=f
 exact⟨v,i,I.call (h':=k) (g':=g) (d':=d) (t':=t) (ch:= []) j c a (λb z=>absurd z (by simp)),r,q⟩
end
def Es(sp:Sp)(a:List V)(E:XK)(t:TA):TE:=λc H Q=>t c H λb H1=>sp (b++a) H1 Q E
def Binds(K:PySem.W.Frag)(b:FuncData)(ps:List Str)(ds:List Value):Prop:=
 ∀(s:Shared) (a:List Value),K.In s.heap->(a++ds).length=ps.length->BindsTo s b ⟨a,[]⟩ (ps.zip (a++ds))
def Binds.all{K:PySem.W.Frag}{b:FuncData}{ps:List Str}(h:∀a:List Value,a.length=ps.length->bindArgs b ⟨a,[]⟩=pure (ps.zip a)):Binds K b ps []:=λs a _ hl=>by
 rw[List.append_nil] at hl⊢
 exact .of_eq (h a hl)
def Bf(CX:Ee)(X:Cx)(E:XK):Prop:=∀(a:List (Addr×Obj)) (c:St) (H:Hp) (s:Shared) (e:Value) (b:Shared),Inv X a c H s->CX X.stack H s E e b->X.xe e b
section
variable{X:Cx}{CX:Ee}{k:Nat}{f C:Addr}{fd:FuncData}{ps:List Str}{sp:Sp}{dvs:List V}{ds:List Value}{E:XK}{x m:Str}{p pos apos:Pos}{e o:Expr}{es:List Expr}{ta:TE}{t:TA}
def E5{a:List (Addr×Obj)}{d:St}{H:Hp}{s:Shared}{Q:VK}{b:List Value}{vs:List V}(F:bA X.prog X.w X.K X.mg X.base CX k f fd ps sp)(j:eQ k X.A)(n:Binds X.K fd ps ds)(hd:bH dvs ds)(q:Bf CX X E)
  (I:Inv X a d H s) (r:bH vs b) (h:sp (vs++dvs) H Q E):wpAny (model X.prog X.w) X.A (call (.ref f) b) (EP X a d Q) X.xe s:=by
 have g:bH (vs++dvs) (b++ds):=r.append hd
 have hl:(b++ds).length=ps.length:=by rw[←g.length];exact F.len _ _ _ _ h
 refine wpAny_call (codeAny_mono (F.run X.A X.stack s H ⟨b,[]⟩ (b++ds) (vs++dvs) Q E j I.env0 (n s b I.kIn hl) g h) λr l c=> ?_)
 cases r with
 |error e=>exact q a d H s e l I c
 | ok i=>
   cases i with
   |ret u=>exact I.after c
   |next=>exact False.elim c
   |brk=>exact False.elim c
   |cont=>exact False.elim c
def CQ(F:bA X.prog X.w X.K X.mg X.base CX k f fd ps sp)(j:eQ k X.A)(d:Gl X x)(u:X.mg x=some (.ref f))(n:PySem.W.keepIn X.K (.ref f)=true)(l:Binds X.K fd ps ds)(hd:bH dvs ds)(v:Bf CX X E)
  (i:PA X (e::es) t) (b:(x==("__debug__":Str))=false:=by decide) (he:starEach (e::es) X.env=(false,eval e X.env)::starEach es X.env:=by rfl) (hpl:(backTo pos (starEach es X.env)).any (·.1)=false:=by rfl):
  PE X (.Call (.Name x p) (e::es) [] pos) (Es sp dvs E t):=by
 intro a s g H Q I h
 refine wpAny_Call_Name_kw (xh I d u ?_ b)
 refine PySem.W.callWith_K (h₀:=X.base) I.ok.mod.kin n (cR (i pos a s g H _ I h) λz y ⟨B,H1,c,r,q⟩=>⟨c.kIn,?_⟩) he hpl
 exact E5 F j l hd v c r q
end
structure aJ(N P:List Str)(sc:Scope):Prop where
 kind:sc.kind=.function
 co:sc.isCoroutine=false
 gen:sc.isGenerator=false
 nd:N.Nodup
 pre:N.take P.length=P
 par:∀x∈P,sc.names.lookup x=some .local\/sc.names.lookup x=some .cell
 nofree:∀y∈sc.names,y.2≠.free
theorem vW{b:Str->Option NameKind}{x:Str}:∀{a:List (Str×Value)} {m:Str->Option Value},(∀v,(x,v)∉a)->bindL b a m x=m x
 | [],_,_=>rfl
 | (n,v)::r,m,h=>by
   unfold bindL
   rw[vW λw c=>h w (Qpq _ c)]
   split
   · have:x≠n:=by rintro rfl;exact h v QBq
     simp[this]
   · rfl
theorem vV{b:Str->Option NameKind}{x:Str}:∀{a:List (Str×Value)} {m:Str->Option Value},(∀v,(x,v)∉a)->bindC b a m x=m x
 | [],_,_=>rfl
 | (n,v)::r,m,h=>by
   unfold bindC
   rw[vV λw c=>h w (Qpq _ c)]
   split
   · rfl
   · have:x≠n:=by rintro rfl;exact h v QBq
     simp[this]
theorem vA{a:Str->Option NameKind}{x:Str}{v:Value}:∀{P:List Str} {vs:List Value} {i:Nat} {m:Str->Option Value},P.Nodup->P[i]?=some x->vs[i]?=some v->a x=some .local→
  bindL a (P.zip vs) m x=some v
 | [],_,_,_,_,h,_,_=>by simp at h
 |_::_,[],_,_,_,_,h,_=>by simp at h
 | p::P,w::vs,0,m,nd,h1,h2,hk=>by
   simp at h1 h2;subst h1;subst h2
   show bindL a ((p,w)::P.zip vs) m p=_
   unfold bindL
   rw[vW λv b=>(List.nodup_cons.mp nd).1 (QeQ b).1,Qhq hk]
   simp
 | p::P,w::vs,i+1,m,nd,h1,h2,hk=>by
   show bindL a ((p,w)::P.zip vs) m x=_
   unfold bindL
   exact vA (i:=i) (List.nodup_cons.mp nd).2 (by simpa using h1) (by simpa using h2) hk
theorem vQ{a:Str->Option NameKind}{x:Str}{v:Value}:∀{P:List Str} {vs:List Value} {i:Nat} {m:Str->Option Value},P.Nodup->P[i]?=some x->vs[i]?=some v->a x≠some .local→
  bindC a (P.zip vs) m x=some v
 | [],_,_,_,_,h,_,_=>by simp at h
 |_::_,[],_,_,_,_,h,_=>by simp at h
 | p::P,w::vs,0,m,nd,h1,h2,hk=>by
   simp at h1 h2;subst h1;subst h2
   show bindC a ((p,w)::P.zip vs) m p=_
   unfold bindC
   rw[vV λv b=>(List.nodup_cons.mp nd).1 (QeQ b).1,Quq hk]
   simp
 | p::P,w::vs,i+1,m,nd,h1,h2,hk=>by
   show bindC a ((p,w)::P.zip vs) m x=_
   unfold bindC
   exact vQ (i:=i) (List.nodup_cons.mp nd).2 (by simpa using h1) (by simpa using h2) hk
noncomputable def start(N:List Str)(vs:List V):St:=vs.map some++List.replicate (N.length-vs.length) none
noncomputable def Aq(CX:Ee)(P:Program)(w:World)(K:PySem.W.Frag)(mg:Str->Option Value)(base:Heap)(N:List Str)(b:Str)(a:Scope)(f:Addr)(d:Value)(A:Around)(outer:List Env)(s:Shared)(H:Hp)(E:XK):Cx where
 prog:=P
 w:=w
 K:=K
 mg:=mg
 base:=base
 A:=A.deeper (envOfC b a s.heap.objs.size f d)
 N:=N
 s₀:=s
 H₀:=H
 env:=envOfC b a s.heap.objs.size f d
 outer:=outer
 stack:=envOfC b a s.heap.objs.size f d::outer
 ex:= []
 calm:=true
 fn:=λ_=>true
 pn:= []
 xe:=λe g=>wpAny (model P w) (A.deeper (envOfC b a s.heap.objs.size f d)) (leaving (envOfC b a s.heap.objs.size f d) e) (λ_ c=>CX outer H s E e c) (λh c=>CX outer H s E h c) g
def yB{a:Scope}{n:Nat}{x:Str}(h:a.names.lookup x=some .cell):∃c,(cellsFrom n a.names []).lookup x=some c:=by
 have q:=PySem.W.cellsFrom_some a.names n [] (.inl h)
 exact Option.isSome_iff_exists.mp q
def De{CX:Ee}{P:Program}{w:World}{K:PySem.W.Frag}{mg:Str->Option Value}{base:Heap}{N ps:List Str}{g:Str}{d:Scope}{f:Addr}{F:Value}{A:Around}{outer:List Env}{s J:Shared}{H:Hp}{E:XK}{I:List Value}{vs:List V}
  (S:aJ N ps d) (hd:A.handled=none) (l:Hu P w K mg base A outer s H) (hl:vs.length=ps.length) (r:bH vs I)
  (x:InCallC s s.heap.objs.size (bindL (envOfC g d s.heap.objs.size f F).kindOf (ps.zip I) λ_=>none) (cellsFrom (s.heap.objs.size+1) d.names []) (bindC (envOfC g d s.heap.objs.size f F).kindOf (ps.zip I) λ_=>none) J):
  Inv (Aq CX P w K mg base N g d f F A outer s H E) [] (start N vs) H J:=by
 have M:ps.length<=N.length:=by have:=congrArg List.length S.pre;rw[Qxq] at this;omega
 obtain⟨C,U,rfl,hk⟩:=x.done
 have m:∀b:Addr,b∉(Aq CX P w K mg base N g d f F A outer s H E).ex:=λb z=>absurd (show b∈([]:List Addr) from z) (by simp)
 refine⟨⟨l.mod,S.kind,rfl,rfl,Qmq _,λy z c C j=> ?_,λy o=> ?_,λy c _ h=> ?_,λ_=>hd,Around.frames_deeper l.frames,.inr ⟨rfl,rfl⟩,λb z=>absurd z (m b),l.bs,l.bsz,λb _ _=>m b,λb z=>absurd z (m b),l.funs,l.frf⟩,
  rfl,l.bare,Un.kept hk,⟨_,x.toInCall.ns,λi y v C j X=> ?_⟩,λy c h=>⟨_,x.cell y c h⟩,l.hok.fresh (Qmq _),λy c h=> ?_,λp t=>absurd (show p∈([]:List (Addr×Obj)) from t) (by simp),l.hok.kept hk,?_⟩
 ·exact name_of_addr x.apart (PySem.mem_of_lookup C) (PySem.mem_of_lookup j)
 ·have o:d.names.lookup y=some .cell\/d.names.lookup y=some .free:=o
  rcases o with o|o
  ·exact yB o
  ·exact absurd rfl (S.nofree _ (PySem.mem_of_lookup o))
 ·exact nQl (x.above y c (PySem.mem_of_lookup h))
 ·have G:i<vs.length:=by
   unfold start at j
   by_cases G:i<vs.length
   ·exact G
   ·rw[QQq (by simpa using G)] at j
    rw[List.getElem?_replicate] at j
    split at j <;>cases j
  have Q:vs[i]?=some v:=by
   unfold start at j
   rw[QHq (by simpa using G),gQm] at j
   cases e:vs[i]? with
   |none=>rw[e] at j;cases j
   |some a=>rw[e] at j;cases j;rfl
  obtain⟨u,L,R⟩:=r.get Q
  have t:ps[i]?=some y:=by
   rw[←S.pre,List.getElem?_take_of_lt (by omega)];exact C
  have B:ps.Nodup:=by rw[←S.pre];exact S.nd.sublist (List.take_sublist _ _)
  refine⟨u,R,?_⟩
  rcases S.par y (mQg t) with k|k
  ·exact .inl ⟨k,vA B t L k⟩
  ·obtain⟨c,e⟩:=yB (n:=s.heap.objs.size+1) k
   refine .inr ⟨.inl k,c,e,?_⟩
   have q:=x.cell y c e
   rw[vQ B t L (by show d.names.lookup y≠_;rw[k];decide)] at q
   exact q
 ·exact l.hok.fresh (nQl (x.above y c (PySem.mem_of_lookup h)))
 ·unfold start
  show _=N.length
  rw[lQa,lQm,QIq]
  omega
def MQ{CX:Ee}{P:Program}{w:World}{K:PySem.W.Frag}{mg:Str->Option Value}{base:Heap}{k:Nat}{f:Addr}{name c:Str}{g:Arguments}{h:List Stmt}{a:Scope}{dV kV B pm d ct oc:Value}{an od:Option Addr}
  {L:Array (Option Value)} {N ps:List Str} {sp:Sp} (lk:K.lookup f=some ⟨oc,od,.func (PySem.W.fnOf name c g h a dV kV B pm an d ct),L⟩) (G:PySem.W.codeIn K d c=true) (S:aJ N ps a)
  (len:∀vs H Q E,sp vs H Q E->vs.length=ps.length)
  (l:∀(A:Around) (outer:List Env) (s:Shared) (H:Hp) (vs:List V) (Q:VK) (E:XK),eQ k (A.deeper (envOfC c a s.heap.objs.size f d))->sp vs H Q E→
   ∃t,rL (Aq CX P w K mg base N c a f d A outer s H E) h t/\t {nx:=λ_ j=>Q .non j,rt:=Q} (start N vs) H):
  bA P w K mg base CX (k+1) f (PySem.W.fnOf name c g h a dV kV B pm an d ct) ps sp:=by
 refine⟨len,λA outer s H a1 us vs Q E M C hb r F=> ?_⟩
 have hl:=len _ _ _ _ F
 have Z:K.In s.heap:=C.mod.kin.keeps λb o e=>(C.bs b o e).1
 have X:s.heap.NoLimit:=C.mod.nolimit.keeps λb o e=>(C.bs b o e).1
 have m:∀y∈ps.zip us,a.names.lookup y.1=some .local\/(a.names.lookup y.1=some .cell/\((cellsFrom (s.heap.objs.size+1) a.names []).lookup y.1).isSome=true):=λ⟨n,v⟩ hy=>by
  rcases S.par n (QeQ hy).1 with q|q
  ·exact .inl q
  ·exact .inr ⟨q,PySem.W.cellsFrom_some _ _ _ (.inl q)⟩
 refine codeAny_call_function M.depth (Z _ _ lk) rfl S.co S.gen rfl (PySem.W.codeRec_of Z G) (hb _ _ _ _ ?_)
 refine wpAny_newFunctionEnv_cells S.kind m λa2 he Y x=> ?_
 subst he
 refine⟨X.keeps x.toInCall.keep,codeAny_func ?_⟩
 obtain⟨t,ht,hq⟩:=l A outer s H vs Q E (M.deeper _) F
 have I:Inv (Aq CX P w K mg base N c a f d A outer s H E) [] (start N vs) H Y:=De S M.hd C hl r x
 refine QRq (ht [] Y (start N vs) H _ I hq) (λfl R p=> ?_) λe R p=>p
 have z:∀{i:St} {j:Hp} {v:V} {u:Value},Inv (Aq CX P w K mg base N c a f d A outer s H E) [] i j R->RelV v u->Q v j->CE outer P w H s Q u R:=
  λ{i j v u} J U q=>⟨v,j,J.os,J.bare,J.base,J.hok,U,q⟩
 cases fl with
 | ret u=>
   obtain⟨v,i,j,J,U,q⟩:=p
   exact z J U q
 | next=>
   obtain⟨i,j,J,q⟩:=p
   exact z (v:=V.non) (u:=Value.none) J rfl q
 | brk=>
   obtain⟨_,_,_,q⟩:=p
   exact False.elim q
 | cont=>
   obtain⟨_,_,_,q⟩:=p
   exact False.elim q
section
variable{X:Cx}{x:Str}{p pos:Pos}{e:Expr}{es:List Expr}{t:TA}{id T:String}{r:List V->Hp->VK->Prop}
def Ny(r:List V->Hp->VK->Prop)(t:TA):TE:=λb H Q=>t b H λa H1=>r a H1 Q
def fP(k:eV X (.builtin id) r)(d:Gl X x)(q:X.mg x=none)(n:bootBuiltins x=some (.builtin id))(l:PA X (e::es) t)(i:x≠"__name__":=by decide)(b:(x==("__debug__":Str))=false:=by decide)
  (he:starEach (e::es) X.env=(false,eval e X.env)::starEach es X.env:=by rfl) (hpl:(backTo pos (starEach es X.env)).any (·.1)=false:=by rfl):PE X (.Call (.Name x p) (e::es) [] pos) (Ny r t):=by
 intro a s c H Q I h
 refine wpAny_Call_Name_kw (lZ I d q n ?_ i b)
 exact PyProof.Rows.callWith_builtin1 (cR (l pos a s c H _ I h) λm f ⟨o,H1,u,j,g⟩=>k a f c H1 o m Q u j g) he hpl
def p_(k:eV X (.type T) r)(d:Gl X x)(q:X.mg x=none)(n:bootBuiltins x=some (.type T))(l:PA X (e::es) t)(i:x≠"__name__":=by decide)(b:(x==("__debug__":Str))=false:=by decide)
  (he:starEach (e::es) X.env=(false,eval e X.env)::starEach es X.env:=by rfl) (hpl:(backTo pos (starEach es X.env)).any (·.1)=false:=by rfl):PE X (.Call (.Name x p) (e::es) [] pos) (Ny r t):=by
 intro a s c H Q I h
 refine wpAny_Call_Name_kw (lZ I d q n ?_ i b)
 exact PyProof.Rows.callWith_type1 (cR (l pos a s c H _ I h) λm f ⟨o,H1,u,j,g⟩=>k a f c H1 o m Q u j g) he hpl
end
section
variable{κ:Type}[DecidableEq κ]
noncomputable def mQ(kvs:List (κ×V))(k:κ):Option V:=(kvs.find? λa=>decide (a.1=k)).map (·.2)
noncomputable def putK(kvs:List (κ×V))(k:κ)(v:V):List (κ×V):=
 if (kvs.any λa=>decide (a.1=k))=true then kvs.map (λa=>if a.1=k then(a.1,v) else a) else kvs++ [(k,v)]
def uJ{p:κ×V}{r:List (κ×V)}{k:κ}(e:p.1=k):mQ (p::r) k=some p.2:=by simp[mQ,List.find?_cons,e]
def uM{p:κ×V}{r:List (κ×V)}{k:κ}(e:¬p.1=k):mQ (p::r) k=mQ r k:=by simp[mQ,List.find?_cons,e]
theorem zE(k:κ):∀kvs:List (κ×V),(kvs.any λkv=>decide (kv.1=k))=(mQ kvs k).isSome
 | []=>rfl
 | p::r=>by
   rw[List.any_cons]
   by_cases e:p.1=k
   · simp only[uJ e,Qeq e,Bool.true_or,Option.isSome_some]
   · rw[uM e,Qdq e,Bool.false_or];exact zE k r
def iS(kvs:List (κ×V))(k:κ)(v:V):(putK kvs k v).length<=kvs.length+1:=by
 unfold putK
 split
 ·rw[lQm];omega
 ·rw[lQa,Qnq,QGq];omega
def sy.isSome_eq{o:Option V}{u:Option Value}(r:sy o u):o.isSome=u.isSome:=by
 cases o with
 | none=>cases u with
   |none=>rfl
   |some _=>exact(show False from r).elim
 | some _=>cases u with
   |none=>exact(show False from r).elim
   |some _=>rfl
def KV.val{kvs:List (κ×V)}{vs:List (κ×Value)}(r:KV kvs vs)(k:κ):sy (mQ kvs k) (valueAt vs k):=by
 unfold KV at r
 induction r with
 |nil=>exact True.intro
 | @cons p q ps qs h t ih=>
   obtain⟨c,d⟩:=h
   by_cases e:p.1=k
   · have a:q.1=k:=c.symm.trans e
     have b:valueAt (q::qs) k=some q.2:=by simp[valueAt,List.find?_cons,a]
     rw[uJ e,b];exact d
   · have a:¬q.1=k:=λz=>e (c.trans z)
     have b:valueAt (q::qs) k=valueAt qs k:=by simp[valueAt,List.find?_cons,a]
     rw[uM e,b];exact ih
theorem KV.any{kvs:List (κ×V)}{vs:List (κ×Value)}(r:KV kvs vs)(k:κ):(kvs.any λkv=>decide (kv.1=k))=vs.any λkv=>decide (kv.1=k):=by
 unfold KV at r
 induction r with
 |nil=>rfl
 |cons h t a=>rw[List.any_cons,List.any_cons,a,h.1]
def KV.repl{kvs:List (κ×V)}{vs:List (κ×Value)}(r:KV kvs vs)(k:κ){y:V}{u:Value}(b:RelV y u):
  KV (kvs.map λkv=>if kv.1=k then(kv.1,y) else kv) (vs.map λkv=>if kv.1=k then(kv.1,u) else kv):=by
 unfold KV at r⊢
 induction r with
 |nil=>exact .nil
 | @cons p q ps qs h t ih=>
   rw[QDq,QDq]
   refine .cons ?_ ih
   obtain⟨a,c⟩:=h
   by_cases e:p.1=k
   · rw[Qhq e,Qhq (a.symm.trans e)];exact⟨a,b⟩
   · rw[Quq e,Quq (λz=>e (a.trans z))];exact⟨a,c⟩
def KV.put{kvs:List (κ×V)}{vs:List (κ×Value)}(r:KV kvs vs)(k:κ){y:V}{u:Value}(a:RelV y u):KV (putK kvs k y) (stored vs k u):=by
 unfold putK stored
 rw[r.any k]
 by_cases e:(vs.any λb=>decide (b.1=k))=true
 ·rw[Qhq e,Qhq e];exact r.repl k a
 ·rw[Quq e,Quq e];exact Paired.snoc r ⟨rfl,a⟩
def KV.length{kvs:List (κ×V)}{vs:List (κ×Value)}(r:KV kvs vs):kvs.length=vs.length:=Paired.length r
end
def wb{P:Program}{w:World}{k:Key}{u:Value}(r:RelV (kV k) u):(bW P w).is k u=true:=by
 cases k with
 |inl i=>obtain⟨t,e⟩:=(show∃t,u=Value.int i t from r);subst e;exact yW P w i t
 |inr x=>obtain⟨t,e⟩:=(show∃t,u=Value.str x t from r);subst e;exact Ad P w x t
theorem vK{P:Program}{w:World}:∀{a:List Key} {b:List Value},bH (a.map kV) b->ItemsAre (bW P w) a b
 | [],_,r=>by rw[List.map_nil] at r;cases r;exact .nil
 | k::a,_,r=>by
   rw[QDq] at r
   cases r with
   |cons h t=>exact .cons (wb h) (vK t)
abbrev KT(H:Hp):List (List Key×V)->List (List Key×Addr×Value)->Prop:=Paired λp q=>p.1=q.1/\H q.2.1=some (.tup (p.1.map kV))/\RelV p.2 q.2.2
def KT.val{H:Hp}{kvs:List (List Key×V)}{xs:List (List Key×Addr×Value)}(r:KT H kvs xs)(k:List Key):sy (mQ kvs k) ((atKey xs k).map (·.2)):=by
 induction r with
 |nil=>exact True.intro
 | @cons p q ps qs h t ih=>
   obtain⟨c,_,d⟩:=h
   by_cases e:p.1=k
   · have a:q.1=k:=c.symm.trans e
     have b:atKey (q::qs) k=some q.2:=by simp[atKey,List.find?_cons,a]
     rw[uJ e,b];exact d
   · have a:¬q.1=k:=λz=>e (c.trans z)
     have b:atKey (q::qs) k=atKey qs k:=by simp[atKey,List.find?_cons,a]
     rw[uM e,b];exact ih
def KT.repl{H:Hp}{kvs:List (List Key×V)}{xs:List (List Key×Addr×Value)}(r:KT H kvs xs)(k:List Key){y:V}{u:Value}(c:RelV y u):
  KT H (kvs.map λkv=>if kv.1=k then(kv.1,y) else kv) (xs.map (putAt k u)):=by
 induction r with
 |nil=>exact .nil
 | @cons p q ps qs h t ih=>
   rw[QDq,QDq]
   refine .cons ?_ ih
   obtain⟨a,b,d⟩:=h
   unfold putAt
   by_cases e:p.1=k
   · rw[Qhq e,Qhq (a.symm.trans e)];exact⟨a,b,c⟩
   · rw[Quq e,Quq (λz=>e (a.trans z))];exact⟨a,b,d⟩
def KT.put{H:Hp}{kvs:List (List Key×V)}{xs:List (List Key×Addr×Value)}(r:KT H kvs xs)(k:List Key){b:Addr}{y:V}{u:Value}(c:H b=some (.tup (k.map kV)))(a:RelV y u):
  KT H (putK kvs k y) (storedH xs k b u):=by
 have e:(kvs.any λd=>decide (d.1=k))=(atKey xs k).isSome:=by
  rw[zE,(r.val k).isSome_eq,Option.isSome_map]
 unfold putK storedH
 rw[e]
 by_cases q:(atKey xs k).isSome=true
 ·rw[Qhq q,Qhq q];exact r.repl k a
 ·rw[Quq q,Quq q];exact Paired.snoc r ⟨rfl,c,a⟩
def KT.keeps{H a:Hp}{kvs:List (List Key×V)}{xs:List (List Key×Addr×Value)}(r:KT H kvs xs)(ht:∀b ys,H b=some (.tup ys)->a b=some (.tup ys)):KT a kvs xs:=
 Paired.mapP r λ_ _ z=>⟨z.1,ht _ _ z.2.1,z.2.2⟩
section
variable{P:Program}{w:World}{H:Hp}{h:Heap}{a:Addr}
def IE{u:HO}(ok:oE P w H h)(e:Rd H a u):cG P w H h a u:=e.ok ok
def y6{kvs:List (Key×V)}(ok:oE P w H h)(e:Rd H a (.dK kvs)):kvs.length<=sizeLine/\(a==sysModules)=false/\∃vs,KV kvs vs/\h.DictOf (bW P w) a vs:=
 show cG P w H h a (.dK kvs) from IE ok e
def zZ{kvs:List (Key×V)}(ok:oE P w H h)(e:H a=some (.dK kvs)):kvs.length<=sizeLine/\(a==sysModules)=false/\∃vs,KV kvs vs/\h.DictOf (bW P w) a vs:=y6 ok (.inl e)
def wV{b:List Key}(ok:oE P w H h)(e:H a=some (.tup (b.map kV))):(tupleKind (bW P w)).is h b a:=by
 obtain⟨_,c,r,o,f,d,_,n,g⟩:=(show cG P w H h a (.tup (b.map kV)) from ok a _ e)
 exact⟨o,c.toArray,n,f,d,g,by simpa using vK r⟩
def CJ{kvs:List (List Key×V)}(ok:oE P w H h)(e:Rd H a (.dT kvs)):kvs.length<=sizeLine/\(a==sysModules)=false∧
  ∃xs,KT H kvs xs/\h.DictOfH (tupleKind (bW P w)) a xs:=by
 obtain⟨z,y,xs,r,o,k,i,f,d,g,n,j⟩:=(show cG P w H h a (.dT kvs) from IE ok e)
 refine⟨z,y,xs,r,o,k,i,f,d,g,n,λx b=> ?_,j⟩
 have c:∀{l:List (List Key×V)} {m:List (List Key×Addr×Value)},KT H l m->∀x∈m,(tupleKind (bW P w)).is h x.1 x.2.1:=by
  intro l m q
  induction q with
  |nil=>intro x b;exact nomatch b
  | @cons p q ps qs hq t ih=>
    intro x b
    rcases Qsq.mp b with e|b
    · subst e
      exact wV ok (by rw[←hq.1];exact hq.2.1)
    · exact ih x b
 exact c r x b
def Mz{kvs:List (List Key×V)}(ok:oE P w H h)(e:H a=some (.dT kvs)):kvs.length<=sizeLine/\(a==sysModules)=false∧
  ∃xs,KT H kvs xs/\h.DictOfH (tupleKind (bW P w)) a xs:=CJ ok (.inl e)
end
def ym(H:Hp)(a:Addr)(y:V)(r:Option V):Prop:=
 (∃c k,Rd H a (.dK c)/\y=kV k/\r=mQ c k)\/∃c k b,Rd H a (.dT c)/\y=.ref b/\H b=some (.tup (k.map kV))/\r=mQ c k
def FM(H:Hp)(a:Addr)(y v:V)(d:Hp):Prop:=
 (∃c k,H a=some (.dK c)/\y=kV k/\c.length<sizeLine/\d=upd H a (.dK (putK c k v)))∨
 ∃c k b,H a=some (.dT c)/\y=.ref b/\H b=some (.tup (k.map kV))/\c.length<sizeLine/\d=upd H a (.dT (putK c k v))
def ym.k{H:Hp}{a:Addr}{kvs:List (Key×V)}{k:Key}(e:H a=some (.dK kvs)):ym H a (kV k) (mQ kvs k):=.inl ⟨kvs,k,.inl e,rfl,rfl⟩
def FM.k{H:Hp}{a:Addr}{kvs:List (Key×V)}{k:Key}{v:V}(e:H a=some (.dK kvs))(hl:kvs.length<sizeLine):FM H a (kV k) v (upd H a (.dK (putK kvs k v))):=.inl ⟨kvs,k,e,rfl,hl,rfl⟩
section
variable{X:Cx}{pins:List (Addr×Obj)}{σ:St}{H:Hp}{s:Shared}{a:Addr}{y v:V}{u r:Value}{o:Option V}{A:Around}{E:Value->Shared->Prop}
def Inv.big(I:Inv X pins σ H s):sysModules<s.heap.objs.size:=by
 have h:mainGlobals<s.heap.objs.size:=(I.mod.glob.keeps I.bk).lt
 exact Nat.lt_trans (by decide) h
def C0{Q:Value->Shared->Prop}(B:A.units+1<cLine)(I:Inv X pins σ H s)(g:ym H a y (some v))(x:RelV y u)(h:∀f t,Inv X pins σ H t->RelV v f->Q f t):
  wpAny (model X.prog X.w) A (getItem (.ref a) u) Q E s:=by
 rcases g with⟨m,k,e,j,l⟩|⟨m,k,b,e,j,C,l⟩
 ·subst j
  obtain⟨z,J,K,d,n⟩:=y6 I.hok e
  obtain⟨f,i,c⟩:=sy.some_of (v:=v) (o:=valueAt K k) (by rw[l];exact d.val k)
  exact wpAny_getItem_of (wb x) n.mapOf i (h f _ (I.tok _) c)
 ·subst j
  cases (show u=Value.ref b from x)
  obtain⟨z,J,G,d,n⟩:=CJ I.hok e
  obtain⟨f,i,c⟩:=sy.some_of (v:=v) (o:=(atKey G k).map (·.2)) (by rw[l];exact d.val k)
  obtain⟨p,F,q⟩:=oQm.mp i
  refine wpAny_getItem_heap (tupleKind_room_in1 B) (wV I.hok C) n F ?_
  rw[q]
  exact h f _ (I.tok _) c
def Og{Q:Value->Shared->Prop}(p:A.units+1<cLine)(I:Inv X pins σ H s)(g:ym H a y o)(n:RelV y u)(h:∀m,Inv X pins σ H m->Q (.bool o.isSome) m):
  wpAny (model X.prog X.w) A (compareOp .In u (.ref a)) Q E s:=by
 rcases g with⟨f,k,e,d,l⟩|⟨f,k,b,e,d,t,l⟩
 ·subst d
  obtain⟨z,i,B,c,j⟩:=y6 I.hok e
  refine wpAny_in_of (wb n) i j.mapOf ?_
  rw[←(c.val k).isSome_eq,←l]
  exact h _ (I.tok _)
 ·subst d
  cases (show u=Value.ref b from n)
  obtain⟨z,i,x,c,j⟩:=CJ I.hok e
  refine wpAny_in_heap (tupleKind_room_in1 p) (wV I.hok t) i j ?_
  have q:=(c.val k).isSome_eq
  rw[Option.isSome_map] at q
  rw[←q,←l]
  exact h _ (I.tok _)
def r9{h':Heap}{t':Nat}{c:HO}(I:Inv X pins σ H s)(f:MG (H a))(g:Heap.SameBut a s.heap h')(he:∃q,h'.get? a=some q)(new:cG X.prog X.w (upd H a c) h' a c):
  Inv X pins σ (upd H a c) {s with heap:=h',toks:=t'}:=
 I.write (x:=a) (e:=a) f (.inl rfl) (λb q d z=>(g.2 b d).trans z) he new
def tY{P:Program}{w:World}{c:Hp}{h':Heap}{kvs:List (Key×V)}{vs:List (Key×Value)}(z:kvs.length<=sizeLine)(hd:(a==sysModules)=false)(b:KV kvs vs)(d:h'.DictOf (bW P w) a vs):
  cG P w c h' a (.dK kvs):=⟨z,hd,vs,b,d⟩
def Dq{K:Hp}{Q:Unit->Shared->Prop}(N:A.units+1<cLine)(I:Inv X pins σ H s)(g:FM H a y v K)(M:RelV y u)(J:RelV v r)(h:∀F,Inv X pins σ K F->Q () F):
  wpAny (model X.prog X.w) A (setItem (.ref a) u r) Q E s:=by
 rcases g with⟨d,k,e,m,l,n⟩|⟨d,k,b,e,m,C,l,n⟩
 ·subst m n
  obtain⟨z,p,W,f,x⟩:=zZ I.hok e
  have t:W.length<=sizeLine:=by rw[←f.length];exact z
  have hl:(putK d k v).length<=sizeLine:=by have:=iS d k v;omega
  refine wpAny_setItem_pairs (hsz:=t) (wb M) x λL i B=>h _ ?_
  have he:∃q,L.get? a=some q:=let ⟨q,_,_,j,_⟩:=i;⟨q,j⟩
  exact r9 I (by rw[e];exact True.intro) B he (tY hl p (f.put k J) i)
 ·subst m n
  cases (show u=Value.ref b from M)
  obtain⟨z,p,U,f,x⟩:=Mz I.hok e
  have t:U.length<=sizeLine:=by rw[←Paired.length f];exact z
  have hl:(putK d k v).length<=sizeLine:=by have:=iS d k v;omega
  refine wpAny_setItem_heap (hsz:=t) (tupleKind_room_in1 N) (wV I.hok C) x λL i B=>h _ ?_
  obtain⟨q,Z,S,j,P,R,h4,_,Y⟩:=i
  refine r9 I (by rw[e];exact True.intro) B ⟨q,j⟩ ⟨hl,p,_,(f.put k C J).keeps λc ys G=> ?_,q,Z,S,j,P,R,h4,Y⟩
  rw[bg (EZ G e (λz=>nomatch z))]
  exact G
end
section
variable{X:Cx}{pins:List (Addr×Obj)}{σ:St}{H:Hp}{s:Shared}{a:Addr}{kvs:List (Key×V)}{k:Key}{u:Value}{A:Around}{E:Value->Shared->Prop}
def jh{Q:Value->Shared->Prop}(I:Inv X pins σ H s)(e:Rd H a (.dK kvs))(h:∀t c,Inv X pins σ H c->Q (.int kvs.length t) c):wpAny (model X.prog X.w) A (call (.builtin "len") [.ref a]) Q E s:=by
 obtain⟨z,f,g,b,d⟩:=y6 I.hok e
 refine call_len_dict f d (by rw[←b.length];rw[sizeLine_eq] at z;omega) ?_
 rw[←b.length]
 exact h _ _ (I.tok _)
end
def GV(i:Expr):Prop:=∀b a,subscripted i false b a=operate [b,a] (getItem b a)
def BX{prog:Program}{w:World}{A:Around}{E:Value->Shared->Prop}{s:Shared}{env:Env}{b a:Expr}{pos:Pos}{T id:String}{Q:Value->Shared->Prop}
  (hl:typeLookup (.type T) "__getitem__"=pure (some (.builtin id))) (m:GV a)
  (h:wpAny (model prog w) A (eval b env) (λo e=>wpAny (model prog w) A (eval a env) (λi c=>c.TypeIs o T/\wpAny (model prog w) A (getItem o i) Q E c) E e) E s):
  wpAny (model prog w) A (eval (.Subscript b a pos) env) Q E s:=by
 refine Subscript_ (QRq h (λo e k=>QRq k (λi c d=> ?_) λ_ _ x=>x) λ_ _ x=>x)
 obtain⟨l,d⟩:=d
 unfold subscriptTail
 refine Qaq ?_
 rw[getitemInPython_of_ne l.not_modules]
 refine Qaq (wpAny_specialOf l hl ?_)
 have g:wpAny (model prog w) A (subscripted a false o i) (λr f=>wpAny (model prog w) A (letTemporaryGo b o r >>= λ_=>pure r) Q E f) E c:=by
  rw[m o i]
  exact wpAny_operating (QRq d (λr f j=>Qaq (wpAny_letTemporaryGo (Qgq j))) λ_ _ x=>x)
 first
  |exact Qgq (Qaq g)
  |exact Qaq (Qgq (Qaq g))
  |exact Qaq g
def y7{X:Cx}{c:List (Addr×Obj)}{h:St}{H:Hp}{s:Shared}{a:Addr}{y:V}{o:Option V}(I:Inv X c h H s)(g:ym H a y o):s.TypeIs (.ref a) "dict":=by
 rcases g with⟨d,k,e,_,_⟩|⟨d,k,b,e,_,_,_⟩
 ·obtain⟨_,_,j,_,f⟩:=y6 I.hok e
  exact f.typeIs
 ·obtain⟨_,_,i,_,f⟩:=CJ I.hok e
  exact f.typeIs
def LL(d c:TE):TE:=λb H Q=>d b H λx H1=>c b H1 λy H2=>∃a v,x=.ref a/\ym H2 a y (some v)/\Q v H2
def My(c d:TE):TE:=λb H Q=>c b H λy H1=>d b H1 λx H2=>∃a o,x=.ref a/\ym H2 a y o/\Q (.bl o.isSome) H2
def L3(d c e:TE):TS:=λD b H=>e b H λv H1=>d b H1 λx H2=>c b H2 λy H3=>∃a H4,x=.ref a/\FM H3 a y v H4/\D.nx b H4
section
variable{X:Cx}{o i e value:Expr}{pos pos' tpos:Pos}{td ty tv:TE}
def G0(l:X.A.units+1<cLine)(r:PE X o td)(hi:PE X i ty)(z:GV i):PE X (.Subscript o i pos) (LL td ty):=by
 intro b s d H Q I h
 refine BX PySem.F.slot_dict_getitem.lookup z (cR (r b s d H _ I h) λu j ⟨x,H1,B,m,k⟩=>cR (hi b j d H1 _ B k) λJ G t=> ?_)
 obtain⟨y,H2,f,w,a,v,q,g,p⟩:=t
 subst q
 obtain rfl:u=Value.ref a:=m
 exact⟨y7 f g,C0 l f g w λC K n c=>⟨v,H2,n,c,p⟩⟩
def Ji(j:X.A.units+1<cLine)(hi:PE X i ty)(r:PE X o td):PC X .In i o (My ty td):=by
 intro b s c H Q I h
 refine cR (hi b s c H _ I h) λB d ⟨y,H1,w,v,f⟩=>cR (r b d c H1 _ w f) λu z t=> ?_
 obtain⟨x,H2,n,l,a,k,q,g,p⟩:=t
 subst q
 obtain rfl:u=Value.ref a:=l
 exact Og j n g v λC m=>⟨.bl k.isSome,H2,m,rfl,p⟩
def Hv(j:X.A.units+1<cLine)(C:PE X o td)(hi:PE X i ty)(B:PE X value tv)(G:swapsWith value (some (.Subscript o i pos')) pos.line X.env=pure false):
  PS X (.Assign [.Subscript o i pos'] value pos) (L3 td ty tv):=by
 intro b s c H D I h
 refine wpAny_Assign_Subscript (cR (B b s c H _ I h) λr d ⟨v,H1,J,w,f⟩=>cR (C b d c H1 _ J f) λu l ⟨x,H2,q,m,t⟩=>cR (hi b l c H2 _ q t) λL M ⟨y,H3,n,F,a,H4,z,g,k⟩=> ?_) G
 subst z
 obtain rfl:u=Value.ref a:=m
 exact Dq j n g F w λK p=>⟨c,H4,p,k⟩
end
def EM{P:Program}{w:World}{H:Hp}(h:Heap)(a:sysModules<h.objs.size):cG P w H (h.push {cls:=.type "dict",data:=.dict #[]}) h.objs.size (.dK []):=
 ⟨Nat.zero_le _,beq_eq_false_iff_ne.mpr (Ne.symm (Qwq a)),[],.nil,Heap.DictOf.new h⟩
def K6:TE:=λ_ H Q=>∀p,H p=none->Q (.ref p) (upd H p (.dK []))
section
variable{X:Cx}{pos:Pos}
def EV:PE X (.Dict [] [] pos) K6:=λb s c H Q I h=>
 wpAny_Dict_empty ⟨.ref s.heap.objs.size,_,I.laid (a:=s.heap.objs.size) (o:=.dK []) (t':=s.toks) (λ_ _ q=>Qcq _ q) (Qmq _) (EM s.heap I.big),rfl,h _ (I.hok.fresh (Qmq _))⟩
end
noncomputable def jX(kvs more:List (Key×V)):List (Key×V):=more.foldl (λa b=>putK a b.1 b.2) kvs
def KV.merge:∀{more:List (Key×V)} {rs:List (Key×Value)} {kvs:List (Key×V)} {vs:List (Key×Value)},KV more rs->KV kvs vs->KV (jX kvs more) (merged vs rs):=by
 intro more rs kvs vs r
 unfold KV at r
 induction r generalizing kvs vs with
 |nil=>intro q;exact q
 | @cons p q ps qs h t ih=>
   intro a
   have e:KV (putK kvs p.1 p.2) (stored vs q.1 q.2):=by
     have:=a.put p.1 h.2
     rw[←h.1];exact this
   exact ih e
theorem i6:∀(more kvs:List (Key×V)),(jX kvs more).length<=kvs.length+more.length
 | [],kvs=>by show kvs.length<=kvs.length+0;omega
 | p::r,kvs=>by
   have a:=i6 r (putK kvs p.1 p.2)
   have b:=iS kvs p.1 p.2
   show(jX (putK kvs p.1 p.2) r).length<=_
   rw[Qnq];omega
end L2
namespace HT
open PySem PyProof.Rows
section
open PySem.SeqAt
open PySem.AutoSeq1 (wpAny_loadPart')
open PySem.MeetsSeq PySem.MeetsSeq2 PySem.MeetsSeq3
end
section
variable{prog:Program}{w:World}{A:Around}{E:Value->Shared->Prop}{s:Shared}
def HK{t b:Addr}{vs ws:List Value}{Q:Value->Shared->Prop}(ht:IsTup s.heap t vs.toArray)(x:IsTup s.heap b ws.toArray)(p:vs≠[])
  (v:ws= []->Q (.ref t) s) (u:ws≠[]->Q (.ref s.heap.objs.size) {s with heap:=s.heap.push {cls:=.type "tuple",data:=.seq (vs++ws).toArray}})
  (hsz:vs.length+ws.length<=sizeLine):wpAny (model prog w) A (binaryOp .Add (.ref t) (.ref b)) Q E s:=by
 obtain⟨⟨cls,q,data,k⟩,i,l,n,o⟩:=id ht
 obtain⟨⟨m,g,j,c⟩,a,f,r,d⟩:=id x
 simp only at l o f d
 subst l o f d
 have e:vs.toArray++ws.toArray=(vs++ws).toArray:=by simp
 by_cases h:ws= []
 ·exact concat_meets ⟨_,i,rfl⟩ ⟨_,a,rfl⟩ noFill_tuple_add seq_tuple_add PySem.F.slot_tuple_add PySem.F.entry_tuple_add (PySem.F.args_tuple_add_2 _ _)
   (tuple_addW1 t b vs.toArray ws.toArray n r q g k c (by simpa using p) (by simp[h])) ⟨i,a,v h⟩
 ·refine concat_meets ⟨_,i,rfl⟩ ⟨_,a,rfl⟩ noFill_tuple_add seq_tuple_add PySem.F.slot_tuple_add PySem.F.entry_tuple_add (PySem.F.args_tuple_add_2 _ _)
   (tuple_addW2 t b vs.toArray ws.toArray n r q g k c (by simpa using p) (by simpa using h) (by rw[Qjq,Qjq];exact hsz)) ⟨i,a,?_⟩
  rw[e]
  exact u h
noncomputable def dN(n d:Nat):Option Int->Nat
 |none=>d
 |some v=>if v<0 then(v+(n:Int)).toNat else min v.toNat n
def tj(n d:Nat):dN n d none=d:=rfl
def se(n d k:Nat):dN n d (some (k:Int))=min k n:=by
 show(if (k:Int)<0 then((k:Int)+(n:Int)).toNat else min (k:Int).toNat n)=min k n
 rw[Quq (by omega),Int.toNat_natCast]
def J3(n d:Nat)(hd:d<=n)(o:Option Int):dN n d o<=n:=by
 cases o with
 |none=>exact hd
 | some v=>
   show(if v<0 then(v+(n:Int)).toNat else min v.toNat n)<=n
   by_cases a:v<0
   · rw[Qhq a];omega
   · rw[Quq a];exact Nat.min_le_right _ _
def BV(v:Int)(n d:Nat):(if v<0 then max (v+(n:Int)) 0 else min v (n:Int))=((dN n d (some v):Nat):Int):=by
 show(if v<0 then max (v+(n:Int)) 0 else min v (n:Int))=(((if v<0 then(v+(n:Int)).toNat else min v.toNat n):Nat):Int)
 by_cases a:v<0
 ·simp only[Qhq a];omega
 ·simp only[Quq a];omega
def BG(lo hi:Option Int)(n:Nat):Builtin.Slice.sliceAdjust lo hi 1 (n:Int)=(((dN n 0 lo:Nat):Int),((dN n n hi:Nat):Int)):=by
 have a:¬((1:Int)<0):=by omega
 unfold Builtin.Slice.sliceAdjust
 simp only[a,if_false]
 refine Prod.ext ?_ ?_
 ·cases lo with
  |none=>rfl
  |some v=>exact BV v n 0
 ·cases hi with
  |none=>rfl
  |some v=>exact BV v n n
def Bp(i j:Nat):Builtin.Slice.slicePlaces (i:Int) (j:Int) 1=j-i:=by
 unfold Builtin.Slice.slicePlaces
 have a:(1:Int)>0:=by omega
 simp only[a,if_true,Int.ediv_one]
 split <;>omega
def tP{v:Value}{o:Option Int}{Q:Option Int->Shared->Prop}(p:IsPart v o)(h:Q o s):wpAny (model prog w) A (Builtin.Slice.slicePartIndex v) Q E s:=by
 cases p with
 |none=>exact slicePart_none h
 |int i t=>exact slicePart_int h
def jv{e:Addr}{c d:Value}{lo hi:Option Int}{n:Nat}{Q:Int×Int×Nat->Shared->Prop}(i:s.heap.IsSliceOf e c d .none)(j:IsPart c lo)(f:IsPart d hi)
  (h:Q (((dN n 0 lo:Nat):Int),1,dN n n hi-dN n 0 lo) s):wpAny (model prog w) A (Builtin.Slice.sliceApplied (.ref e) (pure (n:Int))) Q E s:=by
 obtain⟨k,b,g,a⟩:=id i
 unfold Builtin.Slice.sliceApplied Builtin.Slice.sliceFields
 refine Qaq (Qaq (QMq b a (x:=c) rfl (Qaq (QMq b a (x:=d) rfl (Qaq (QMq b a (x:=.none) rfl (Qgq ?_)))))))
 refine Qaq (slicePart_none ?_)
 show wpAny _ _ (if ((1:Int)==0)=true then _ else _) _ _ s
 rw[Quq (by decide)]
 refine Qaq (tP j (Qaq (tP f (Qaq (Qgq ?_)))))
 show wpAny _ _ (match Builtin.Slice.sliceAdjust lo hi 1 (n:Int) with|(lo,hi)=>pure (lo,(1:Int),Builtin.Slice.slicePlaces lo hi 1)) _ _ s
 rw[BG lo hi n]
 show wpAny _ _ (pure (((dN n 0 lo:Nat):Int),(1:Int),Builtin.Slice.slicePlaces ((dN n 0 lo:Nat):Int) ((dN n n hi:Nat):Int) 1)) _ _ s
 rw[Bp]
 exact Qgq h
def EE(xs:Array Value)(i k:Nat):((List.range k).filterMap λ(m:Nat)=>xs[((i:Int)+(m:Int)*1).toNat]?).toArray=((xs.toList.drop i).take k).toArray:=by
 have e:(λ(m:Nat)=>xs[((i:Int)+(m:Int)*1).toNat]?)=λm=>xs[i+m]? :=by
  funext m
  have:((i:Int)+(m:Int)*1).toNat=i+m:=by omega
  rw[this]
 rw[e]
 have:=pick_run xs i k
 rw[List.filterMap_map] at this
 have a:((λx=>xs[x]?)∘λx=>i+x)=λm=>xs[i+m]? :=rfl
 rw[a] at this
 rw[this]
def pF{t b:Addr}{items:Array Value}{g j:Value}{lo hi:Option Int}{Q:Value->Shared->Prop}(ht:IsTup s.heap t items)(i:s.heap.IsSliceOf b g j .none)(p:IsPart g lo)(n:IsPart j hi)
  (k:¬(dN items.size 0 lo=0/\dN items.size items.size hi=items.size))
  (h:Q (.ref s.heap.objs.size) {s with heap:=s.heap.push {cls:=.type "tuple",data:=.seq ((items.toList.drop (dN items.size 0 lo)).take (dN items.size items.size hi-dN items.size 0 lo)).toArray}})
  (hsz:items.size<=sizeLine):wpAny (model prog w) A (getItem (.ref t) (.ref b)) Q E s:=by
 have a:sizeOk (.seq ((items.toList.drop (dN items.size 0 lo)).take (dN items.size items.size hi-dN items.size 0 lo)).toArray):=by
  show((items.toList.drop (dN items.size 0 lo)).take (dN items.size items.size hi-dN items.size 0 lo)).toArray.size<=sizeLine
  rw[Qjq,Qxq,List.length_drop,Array.length_toList]
  omega
 have v:dN items.size items.size hi<=items.size:=J3 _ _ (Qmq _) hi
 obtain⟨l,f,c,o⟩:=id i
 have d:s.TypeIs (.ref b) "slice":=⟨l,f,c⟩
 unfold getItem
 try with_reducible refine QLq ?_
 first|refine Qaq (Qgq ?_)|skip
 refine Qaq (wpAny_sequenceKey ht.typeIs (by decide) ?_)
 refine Qaq (QiQ (name:=Str.ofString "__getitem__") ht.typeIs PyProof.Rows.slot_tuple_getitem
  (wpAny_call_entry PyProof.Rows.slot_tuple_getitem ht.typeIs entry_tuple_getitem ?_ (args_tuple_getitem _ _)))
 show wpAny _ _ (Builtin.Tuple.tupleItemsOf (.ref t) >>= _) _ _ s
 refine Qaq (tupleItemsOf_ ht ?_)
 refine Qaq (wpAny_typeOf d ?_)
 rw[Qhq (by decide)]
 refine Qaq (jv i p n ?_)
 have e:¬((((dN items.size 0 lo:Nat):Int)==0&&(1:Int)==1&&(dN items.size items.size hi-dN items.size 0 lo)==items.size)=true):=by
  intro q
  rw[QCq,QCq] at q
  have r:((dN items.size 0 lo:Nat):Int)=0:=eq_of_beq q.1.1
  have u:dN items.size items.size hi-dN items.size 0 lo=items.size:=eq_of_beq q.2
  exact k ⟨by omega,by omega⟩
 show wpAny _ _ (if (((dN items.size 0 lo:Nat):Int)==0&&(1:Int)==1&&(dN items.size items.size hi-dN items.size 0 lo)==items.size)=true then _ else _) _ _ s
 rw[Quq e,EE]
 first
  |exact Qaq (m:=Builtin.Tuple.tupleExact _) (QhQ (Qgq ⟨_,rfl,Qgq h⟩) a)
  |exact Qaq (m:=Builtin.Tuple.tupleExact _) (QhQ (Qaq (Qgq (Qgq ⟨_,rfl,Qgq h⟩))) a)
  |exact Qaq (Qaq (m:=Builtin.Tuple.tupleExact _) (QhQ (Qgq (Qgq ⟨_,rfl,Qgq h⟩)) a))
  |exact Qaq (Qaq (m:=Builtin.Tuple.tupleExact _) (QhQ (Qgq ⟨_,rfl,Qgq h⟩) a))
end
end HT
namespace L2
open PySem PySem.Spec PyProof.Rows
abbrev TO:=St->Hp->(Option Int->Hp->Prop)->Prop
def PO(X:Cx)(e:Option Expr)(t:TO):Prop:=
 ∀ (a:List (Addr×Obj)) (s:Shared) (b:St) (H:Hp) (Q:Option Int->Hp->Prop),Inv X a b H s->t b H Q→
   wpAny (model X.prog X.w) X.A (evalPart e X.env) (λu d=>∃o c,Inv X a b c d/\IsPart u o/\Q o c) X.xe s
def GX:TO:=λ_ H Q=>Q none H
def Mo(t:TE):TO:=λa H Q=>t a H λx H1=>∃i,x=.int i/\Q (some i) H1
def intsAre_of{ns:List Int}:∀{a:List Value},bH (ns.map V.int) a->IntsAre a ns:=by
 induction ns with
 |nil=>intro a r;rw[List.map_nil] at r;cases r;exact .nil
 | cons n ns c=>
   intro a r
   rw[QDq] at r
   cases r with
   | cons d b=>
     obtain⟨t,e⟩:=d
     subst e
     exact .cons n t (c b)
section
variable{X:Cx}{e:Expr}{te:TE}{lo hi:Option Expr}{tl th:TO}{pos p2:Pos}
def GO:PO X none GX:=by
 intro a s b H Q I h
 rw[evalPart_none]
 exact Qgq ⟨none,H,I,.none,h⟩
def GQ(h:PE X e te):PO X (some e) (Mo te):=by
 intro a s c H Q I d
 rw[evalPart_some]
 refine cR (h a s c H _ I d) λu k g=> ?_
 obtain⟨x,H1,j,f,b⟩:=g
 obtain⟨i,rfl,q⟩:=b
 obtain⟨t,rfl⟩:=f
 exact⟨some i,H1,j,.int i t,q⟩
def Nn(X:Cx)(r:V->Option Int->Option Int->Hp->VK->Prop):Prop:=
 ∀ (a:List (Addr×Obj)) (s:Shared) (c:St) (H:Hp) (x:V) (v d f:Value) (lo hi:Option Int) (b:Addr) (Q:VK),Inv X a c H s->RelV x v->s.heap.IsSliceOf b d f .none->IsPart d lo->IsPart f hi->r x lo hi H Q→
   ∃T id,typeLookup (.type T) "__getitem__"=pure (some (.builtin id))/\s.TypeIs v T/\wpAny (model X.prog X.w) X.A (getItem v (.ref b)) (EP X a c Q) X.xe s
def Px(r:V->Option Int->Option Int->Hp->VK->Prop)(te:TE)(tl th:TO):TE:=λa H Q=>te a H λx H1=>tl a H1 λl H2=>th a H2 λu H3=>r x l u H3 Q
def yF{r:V->Option Int->Option Int->Hp->VK->Prop}(z:Nn X r)(he:PE X e te)(hl:PO X lo tl)(m:PO X hi th):PE X (.Subscript e (.Slice lo hi none p2) pos) (Px r te tl th):=by
 intro a s d H Q I h
 refine Subscript_ (cR (he a s d H _ I h) λv j i=> ?_)
 obtain⟨x,H1,J,p,k⟩:=i
 refine wpAny_Slice (cR (hl a j d H1 _ J k) λf o ⟨l,H2,B,G,C⟩=>cR (m a o d H2 _ B C) λg c i=> ?_)
 obtain⟨u,H3,t,F,n⟩:=i
 rw[evalPart_none]
 refine Qgq ?_
 have y:Inv X a d H3 {c with heap:=c.heap.push {cls:=.type "slice",data:=.fields #[f,g,.none]}}:=t.kept (t':=c.toks) λb K q=>Qcq _ q
 obtain⟨T,id,hT,ht,hg⟩:=z a {c with heap:=c.heap.push {cls:=.type "slice",data:=.fields #[f,g,.none]}} d H3 x v f g l u c.heap.objs.size Q y p (Heap.IsSliceOf.new ..) G F n
 show wpAny (model X.prog X.w) X.A (subscriptTail e (.Slice lo hi none p2) v (.ref c.heap.objs.size)) (EP X a d Q) X.xe {c with heap:=c.heap.push {cls:=.type "slice",data:=.fields #[f,g,.none]}}
 exact tail_any (ops:= [.ref c.heap.objs.size,v]) ht hT hg (by with_unfolding_all rfl)
noncomputable def wB(xs:List V)(lo hi:Option Int):List V:=(xs.drop (HT.dN xs.length 0 lo)).take (HT.dN xs.length xs.length hi-HT.dN xs.length 0 lo)
def q_(xs:List V)(lo hi:Option Int):(wB xs lo hi).length<=xs.length:=by
 unfold wB
 rw[Qxq,List.length_drop]
 omega
def NV(K:PySem.W.Frag):V->Option Int->Option Int->Hp->VK->Prop:=λx lo hi H Q=>∃a b,x=.ref a/\gH K H a b∧
 ¬(HT.dN b.length 0 lo=0/\HT.dN b.length b.length hi=b.length)/\∀p,H p=none->Q (.ref p) (upd H p (.tup (wB b lo hi)))
def Kj:Nn X (NV X.K):=by
 intro i s t H x v w y lo hi p Q I k m n l h
 obtain⟨a,d,rfl,hx,hw,q⟩:=h
 cases k
 obtain⟨f,r,g,j⟩:=I.tuple hx
 have c:f.toArray.size=d.length:=by rw[Qjq];exact r.length.symm
 refine⟨"tuple",_,PyProof.Rows.slot_tuple_getitem.lookup,g.typeIs,?_⟩
 refine HT.pF g m n l (by rw[c];exact hw) ?_ (by rw[c];exact j)
 rw[c]
 refine⟨.ref s.heap.objs.size,_,I.laid (t':=s.toks) (o:=.tup (wB d lo hi)) (λb u q=>Qcq _ q) (Qmq _) ?_,rfl,q _ (I.hok.fresh (Qmq _))⟩
 exact⟨QAq (q_ d lo hi) j,_,(r.drop (HT.dN d.length 0 lo)).take (HT.dN d.length d.length hi-HT.dN d.length 0 lo),ve.new _ _⟩
def I_(K:PySem.W.Frag):R2:=λx y H Q=>∃a b d c,x=.ref a/\y=.ref b/\gH K H a d/\gH K H b c/\d≠[]/\d.length+c.length<=sizeLine∧
 (c= []->Q (.ref a) H)/\(c≠[]->∀p,H p=none->Q (.ref p) (upd H p (.tup (d++c))))
def bH.nil_iff{xs:List V}{a:List Value}(r:bH xs a):a= []↔xs= []:=by
 cases r with
 |nil=>simp
 |cons _ _=>simp
def HD:je X (binaryOp .Add) (I_ X.K):=by
 intro f s p H x y v u Q I j m h
 obtain⟨a,b,k,l,rfl,rfl,ha,hb,hx,hz,q1,q2⟩:=h
 cases j
 cases m
 obtain⟨n,d,i,_⟩:=I.tuple ha
 obtain⟨g,c,p2,_⟩:=I.tuple hb
 refine HT.HK i p2 (λz=>hx (d.nil_iff.mp z)) (λz=>⟨.ref a,H,I,rfl,q1 (c.nil_iff.mp z)⟩) (λz=> ?_) (by rw[←d.length,←c.length];exact hz)
 refine⟨.ref s.heap.objs.size,_,I.laid (t':=s.toks) (o:=.tup (k++l)) (λb r q=>Qcq _ q) (Qmq _) ?_,rfl,q2 (λw=>z (c.nil_iff.mpr w)) _ (I.hok.fresh (Qmq _))⟩
 exact⟨by rw[lQa];exact hz,_,d.append c,ve.new _ _⟩
end
noncomputable def GA(n:Nat)(i:Int):Option Nat:=if 0<=i then(if i<n then some i.toNat else none) else if -(n:Int)<=i then some (i+n).toNat else none
noncomputable def mF{α:Type}(xs:List α)(i:Int):Option α:=(GA xs.length i).bind λj=>xs[j]?
def B2{n:Nat}{i:Int}{j:Nat}(h:GA n i=some j):seqIndex? i n=some j/\j<n/\ -(n:Int)<=i/\i<n:=by
 unfold GA at h
 by_cases b:0<=i
 ·rw[Qhq b] at h
  by_cases a:i<n
  ·rw[Qhq a] at h
   have e:i.toNat=j:=QdQ h
   exact⟨by rw[seqIndex_of b a,e],by omega,by omega,a⟩
  ·rw[Quq a] at h;cases h
 ·rw[Quq b] at h
  by_cases a: -(n:Int)<=i
  ·rw[Qhq a] at h
   have e:(i+n).toNat=j:=QdQ h
   exact⟨by rw[seqIndex_neg (by omega) a,e],by omega,a,by omega⟩
  ·rw[Quq a] at h;cases h
def wU{α:Type}{xs:List α}{i:Int}{v:α}(h:mF xs i=some v):∃j,seqIndex? i xs.length=some j/\xs[j]?=some v/\j<xs.length/\ -(xs.length:Int)<=i/\i<xs.length:=by
 unfold mF at h
 cases e:GA xs.length i with
 |none=>rw[e] at h;cases h
 | some j=>
   rw[e] at h
   obtain⟨c,b,d,a⟩:=B2 e
   exact⟨j,c,h,b,d,a⟩
def Cg(b:Expr):Prop:=∀o i,subscripted b false o i=operate [o,i] (getItem o i)
def Hf(X:Cx)(r:R2):Prop:=
 ∀ (c a:Expr) (b:List (Addr×Obj)) (s:Shared) (d:St) (H:Hp) (x y:V) (v u:Value) (Q:VK),Inv X b d H s->RelV x v->RelV y u->r x y H Q→
   subscripted a false v u=operate [v,u] (getItem v u)->wpAny (model X.prog X.w) X.A (subscriptTail c a v u) (EP X b d Q) X.xe s
def OB(X:Cx)(id:String)(r:V->List V->Hp->VK->Prop):Prop:=
 ∀ (a:List (Addr×Obj)) (s:Shared) (c:St) (H:Hp) (x:V) (b:List V) (v:Value) (d:List Value) (Q:VK),Inv X a c H s->RelV x v->bH b d->r x b H Q→
   wpAny (model X.prog X.w) X.A (call (.builtin id) (v::d)) (EP X a c Q) X.xe s
section
variable{X:Cx}{a b:Expr}{ta tb:TE}{pos:Pos}
def Hf.or{r i:R2}(h:Hf X r)(h':Hf X i):Hf X (λx y H Q=>r x y H Q\/i x y H Q):=by
 intro c d e s f H x y v u Q I g j q k
 rcases q with q|q
 ·exact h c d e s f H x y v u Q I g j q k
 ·exact h' c d e s f H x y v u Q I g j q k
def L0{r:R2}(i:Hf X r)(g:PE X a ta)(k:PE X b tb)(m:Cg b):PE X (.Subscript a b pos) (GC r ta tb):=by
 intro c s e H Q I h
 exact Subscript_ (KP g k I h λv u d x y H2 j f l q=>i a b c d e H2 x y v u Q j f l q (m _ _))
def MZ(K:PySem.W.Frag):R2:=λx y H Q=>∃p c i v,x=.ref p/\y=.int i/\iC K H p c/\mF c i=some v/\Q v H
def Mk(K:PySem.W.Frag):R2:=λx y H Q=>∃p c i v,x=.ref p/\y=.int i/\gH K H p c/\mF c i=some v/\Q v H
def LD:R2:=λx y H Q=>∃z i c,x=.str z/\y=.int i/\z.length<=sizeLine/\mF z.cps.toList i=some c/\Q (.str ⟨#[c]⟩) H
def G2:Hf X (MZ X.K):=by
 intro g k c s o H x y v u Q I G M h B
 obtain⟨p,S,i,z,rfl,rfl,hq,he,q⟩:=h
 cases G
 obtain⟨t,rfl⟩:=M
 obtain⟨m,r,n,U⟩:=I.list hq
 obtain⟨j,e,F,R,N,L⟩:=wU he
 obtain⟨w,A,f⟩:=r.get F
 have hl:=r.length
 have P:=kO
 have d:EP X c o Q w s:=⟨z,H,I,f,q⟩
 by_cases C:0<=i
 ·have l:i.toNat=j:=by
   rw[seqIndex_of C L] at e
   exact QdQ e
  exact item_listR n.isList C (by omega) (by rw[l];simpa using A) d B
 ·have l:(i+(m.toArray.size:Int)).toNat=j:=by
   rw[seqIndex_neg (by omega) N] at e
   rw[Qjq,←hl]
   exact QdQ e
  exact subscriptTail_builtinR (x:=w) n.isList.typeIs slot_list_getitem.lookup
   (wpAny_getItem_list_neg (Q:=λr J=>r=w/\EP X c o Q r J) n.isList (by omega) (by rw[Qjq] <;>omega) (by omega) (by rw[l];simpa using A) ⟨rfl,d⟩) B
def J2:Hf X (Mk X.K):=by
 intro f g c s k H x y v u Q I n C h G
 obtain⟨p,M,i,z,rfl,rfl,hq,he,q⟩:=h
 cases n
 obtain⟨t,rfl⟩:=C
 obtain⟨F,r,l,N⟩:=I.tuple hq
 obtain⟨j,o,m,L,R,P⟩:=wU he
 obtain⟨w,B,e⟩:=r.get m
 have hl:=r.length
 have J:=kO
 have d:EP X c k Q w s:=⟨z,H,I,e,q⟩
 exact subscriptTail_builtinR (x:=w) l.typeIs slot_tuple_getitem.lookup
  (getItem_tuple (j:=j) (Q:=λr A=>r=w/\EP X c k Q r A) l (by omega) (by omega) (by rw[Qjq,←hl];exact o) (by simpa using B) ⟨rfl,d⟩) G
def Ju:Hf X LD:=by
 intro d e g s C H x y v u Q I m p h w
 obtain⟨z,i,c,rfl,rfl,hz,he,q⟩:=h
 obtain⟨t,rfl⟩:=m
 obtain⟨A,rfl⟩:=p
 obtain⟨j,f,l,F,r,n⟩:=wU he
 have hl:z.cps.toList.length=z.length:=by simp[Str.length]
 rw[hl] at f r n
 have B:=kO
 exact tail_any (typeIs_str s z t) slot_str_getitem.lookup (getItem_str (c:=c) (by
  have o:decide (i< -(2^63:Int))=false:=Qdq (by omega)
  have k:decide (i>=2^63)=false:=Qdq (by omega)
  rw[o,k,Bool.or_false]) (by rw[f];simpa using l) ⟨.str ⟨#[c]⟩,H,I.tok _,⟨_,rfl⟩,q⟩) w
def OP(K:PySem.W.Frag):R2:=λx y H Q=>MZ K x y H Q\/Mk K x y H Q\/LD x y H Q
def Kx:Hf X (OP X.K):=G2.or (J2.or Ju)
def Bd(c:List Value)(n j:Nat)(u:Value):Obj.mapSeq (·.setIfInBounds j u) {cls:=.type "list",data:=.seq c.toArray n}={cls:=.type "list",data:=.seq (c.set j u).toArray n}:=by
 simp[Obj.mapSeq]
def Inv.lst{d:List (Addr×Obj)}{f:St}{H:Hp}{s:Shared}{p:Addr}{xs:List V}(I:Inv X d f H s)(h:H p=some (.lst xs)):
  ∃(c:List Value) (n:Nat),bH xs c/\s.heap.get? p=some {cls:=.type "list",data:=.seq c.toArray n}/\xs.length<=sizeLine:=by
 obtain⟨z,c,n,r,e⟩:=I.hok p _ h
 exact⟨c,n,r,e,z⟩
def Inv.lstUpd{c:List (Addr×Obj)}{i:St}{H:Hp}{s:Shared}{p:Addr}{xs ys:List V}{d its':List Value}{n g:Nat}{f:Obj->Obj}(I:Inv X c i H s)(h:H p=some (.lst xs))
  (l:s.heap.get? p=some {cls:=.type "list",data:=.seq d.toArray n}) (j:f {cls:=.type "list",data:=.seq d.toArray n}={cls:=.type "list",data:=.seq its'.toArray g}) (r:bH ys its') (hz:ys.length<=sizeLine) (t:Nat):
  Inv X c i (upd H p (.lst ys)) {s with heap:=s.heap.update p f,toks:=t}:=by
 have e:(s.heap.update p f).get? p=some {cls:=.type "list",data:=.seq its'.toArray g}:=by
  rw[Heap.get?_update_self f l (by rw[j] <;>rfl),j]
 refine I.write (x:=p) (e:=p) (by rw[h];trivial) (.inl rfl) (λb u k q=>(Heap.get?_update_other _ _ (Ne.symm k)).trans q) ⟨_,e⟩ ?_
 exact⟨hz,its',g,r,e⟩
def IJ:V->V->V->Hp->(Hp->Prop)->Prop:=λo i v H Q=>∃p c k j,o=.ref p/\i=.int k/\H p=some (.lst c)/\GA c.length k=some j/\Q (upd H p (.lst (c.set j v)))
def set_list:Lr X IJ:=by
 intro c s y H o i v G L u Q I C F A h
 obtain⟨p,z,k,j,rfl,rfl,hp,hj,q⟩:=h
 cases C
 obtain⟨t,rfl⟩:=F
 obtain⟨d,n,r,f,B⟩:=I.lst hp
 obtain⟨e,K,l,w⟩:=B2 hj
 have hl:=r.length
 have J:=kO
 have m:Inv X c y (upd H p (.lst (z.set j v))) {s with heap:=s.heap.update p (Obj.mapSeq (·.setIfInBounds j u))}:=
  I.lstUpd hp f (Bd d n j u) (r.set A j) (by rw[List.length_set];exact B) s.toks
 by_cases x:0<=k
 ·have g:k.toNat=j:=by
   rw[seqIndex_of x w] at e
   exact QdQ e
  exact PySem.W.ki_setAt f x (by omega) (by rw[Qjq,←hl];exact w) (by rw[g];exact⟨_,m,q⟩)
 ·have g:(k+(d.toArray.size:Int)).toNat=j:=by
   rw[seqIndex_neg (by omega) l] at e
   rw[Qjq,←hl]
   exact QdQ e
  exact PySem.W.ki_setBack f (by omega) (by rw[Qjq,←hl];exact l) (by omega) (by rw[g];exact⟨_,m,q⟩)
def w_(lo hi:Option Int)(n:Nat):(sliceBounds lo hi none n).1=((HT.dN n 0 lo:Nat):Int)/\(sliceBounds lo hi none n).2.1=((HT.dN n n hi:Nat):Int)/\(sliceBounds lo hi none n).2.2=1:=by
 refine⟨?_,?_,rfl⟩
 ·cases lo with
  |none=>simp[sliceBounds,HT.dN]
  | some i=>
    simp only[sliceBounds,HT.dN,Option.getD_none,show(1:Int)>0 by decide,if_true]
    by_cases h:i<0
    · simp only[h,if_true] <;>omega
    · simp only[h,if_false] <;>omega
 ·cases hi with
  |none=>simp[sliceBounds,HT.dN]
  | some i=>
    simp only[sliceBounds,HT.dN,Option.getD_none,show(1:Int)>0 by decide,if_true]
    by_cases h:i<0
    · simp only[h,if_true] <;>omega
    · simp only[h,if_false] <;>omega
def vg(c:List Value)(lo hi:Option Int):slicePick c.toArray lo hi none=((c.drop (HT.dN c.length 0 lo)).take (HT.dN c.length c.length hi-HT.dN c.length 0 lo)).toArray:=by
 obtain⟨e,d,f⟩:=w_ lo hi c.toArray.size
 unfold slicePick
 rw[e,d,f]
 simp only[sliceRange_one,pick_run,Qjq] <;>rfl
def NC(K:PySem.W.Frag):V->Option Int->Option Int->Hp->VK->Prop:=λx d e H Q=>∃a c,x=.ref a/\iC K H a c/\∀p,H p=none->Q (.ref p) (upd H p (.lst (wB c d e)))
def GH:Nn X (NC X.K):=by
 intro i s u H x v y z e f t Q I j n p l h
 obtain⟨a,c,rfl,hx,q⟩:=h
 cases j
 obtain⟨m,r,g,k⟩:=I.list hx
 have d:=r.length
 refine⟨"list",_,slot_list_getitem.lookup,g.isList.typeIs,?_⟩
 refine wpAny_getItem_list_slice g.isList n p l .none (by simp) ?_ (by rw[Qjq] <;>omega)
 rw[vg,←d]
 refine⟨.ref s.heap.objs.size,_,I.laid (t':=s.toks) (o:=.lst (wB c e f)) (λb w q=>Qcq _ q) (Qmq _) ?_,rfl,q _ (I.hok.fresh (Qmq _))⟩
 exact⟨QAq (q_ c e f) k,_,0,(r.drop (HT.dN c.length 0 e)).take (HT.dN c.length c.length f-HT.dN c.length 0 e),Qrq _ rfl⟩
noncomputable def gR:V->Bool
 |.non=>true
 |.bl _=>true
 |.int _=>true
 |.str _=>true
 |_=>false
noncomputable def rG:V->V->Bool
 |.non,.non=>true
 |.bl a,.bl b=>a==b
 |.bl a,.int b=>(if a then 1 else 0)==b
 |.int a,.bl b=>a==(if b then 1 else 0)
 |.int a,.int b=>a==b
 |.str a,.str b=>a==b
 |_,_=>false
def EF{A:Around}{s:Shared}{y x:V}{u v:Value}(e:RelV y u)(c:RelV x v)(g:gR y=true)(f:gR x=true):SeqAt.EqAt A s u v (rG y x):=by
 cases y with
 | non=>
   cases e
   cases x with
   |non=>cases c;exact SeqAt.EqAt.same _
   |bl b=>cases c;exact SeqAt.EqAt.none_bool b
   |int b=>obtain⟨t,rfl⟩:=c;exact SeqAt.EqAt.none_int b t
   |str b=>obtain⟨t,rfl⟩:=c;exact SeqAt.EqAt.none_str b t
   |_=>exact absurd (show false=true from f) Qtq
 | bl a=>
   cases e
   cases x with
   |non=>cases c;exact SeqAt.EqAt.bool_none a
   |bl b=>cases c;exact SeqAt.EqAt.bool_bool a b
   |int b=>obtain⟨t,rfl⟩:=c;exact SeqAt.EqAt.bool_int a b t
   |str b=>obtain⟨t,rfl⟩:=c;exact SeqAt.EqAt.bool_str a b t
   |_=>exact absurd (show false=true from f) Qtq
 | int a=>
   obtain⟨d,rfl⟩:=e
   cases x with
   |non=>cases c;exact SeqAt.EqAt.int_none a d
   |bl b=>cases c;exact SeqAt.EqAt.int_bool a d b
   |int b=>obtain⟨t,rfl⟩:=c;exact SeqAt.EqAt.int_int a d b t
   |str b=>obtain⟨t,rfl⟩:=c;exact SeqAt.EqAt.int_str a d b t
   |_=>exact absurd (show false=true from f) Qtq
 | str a=>
   obtain⟨d,rfl⟩:=e
   cases x with
   |non=>cases c;exact SeqAt.EqAt.str_none a d
   |bl b=>cases c;exact SeqAt.EqAt.str_bool a d b
   |int b=>obtain⟨t,rfl⟩:=c;exact SeqAt.EqAt.str_int a d b t
   |str b=>obtain⟨t,rfl⟩:=c;exact SeqAt.EqAt.str_str a d b t
   |_=>exact absurd (show false=true from f) Qtq
 |_=>exact absurd (show false=true from g) Qtq
noncomputable def Au(x:V)(u:Value):Bool:=match u with
 |.none=>rG .non x
 |.bool b=>rG (.bl b) x
 |.int i _=>rG (.int i) x
 |.str z _=>rG (.str z) x
 |_=>false
def xN{x y:V}{u:Value}(r:RelV y u)(f:gR y=true):Au x u=rG y x:=by
 cases y with
 |non=>cases r;rfl
 |bl b=>cases r;rfl
 |int i=>obtain⟨t,rfl⟩:=r;rfl
 |str z=>obtain⟨t,rfl⟩:=r;rfl
 |_=>exact absurd (show false=true from f) Qtq
theorem oU{x:V}:∀{xs:List V} {c:List Value},bH xs c->xs.all gR=true->c.any (Au x)=xs.any λy=>rG y x
 |_,_,.nil,_=>rfl
 | y::xs,u::c,.cons r t,f=>by
   rw[List.all_cons,QCq] at f
   rw[List.any_cons,List.any_cons,xN r f.1,oU t f.2]
theorem jw{A:Around}{s:Shared}{x:V}{v:Value}(g:RelV x v)(e:gR x=true):∀{xs:List V} {d:List Value},bH xs d->xs.all gR=true->∀u∈d,SeqAt.EqAt A s u v (Au x u)
 |_,_,.nil,_=>λu c=>by cases c
 | y::xs,u::d,.cons r t,f=>λh c=>by
   rw[List.all_cons,QCq] at f
   rcases Qsq.mp c with rfl|c
   · rw[xN r f.1];exact EF r g f.1 e
   · exact jw g e t f.2 h c
noncomputable def Ec(x:V)(xs:List V):Bool:=xs.any λy=>rG y x
def NY(K:PySem.W.Frag)(d:Bool):R2:=λx y H Q=>∃p c,y=.ref p/\(iC K H p c\/gH K H p c)/\gR x=true/\c.all gR=true/\Q (.bl (if d then !Ec x c else Ec x c)) H
def Dr:je X (compareOp .In) (NY X.K false):=by
 intro i s l H x y v u Q I g k h
 obtain⟨p,m,rfl,d,fx,fs,q⟩:=h
 cases k
 rcases d with d|d
 ·obtain⟨c,r,f,j⟩:=I.list d
  refine SeqAt.in_listAt (Au x) f.isList (λw e=>jw g fx r fs w (by simpa using e)) ⟨.bl _,H,I,rfl,?_⟩
  rw[show c.toArray.any (Au x)=c.any (Au x) by simp,oU r fs]
  exact q
 ·obtain⟨c,r,f,j⟩:=I.tuple d
  refine SeqAt.in_tupleAt (Au x) f (λw e=>jw g fx r fs w (by simpa using e)) ⟨.bl _,H,I,rfl,?_⟩
  rw[show c.toArray.any (Au x)=c.any (Au x) by simp,oU r fs]
  exact q
def yu:je X (compareOp .NotIn) (NY X.K true):=by
 intro i s l H x y v u Q I g k h
 obtain⟨p,m,rfl,d,fx,fs,q⟩:=h
 cases k
 rcases d with d|d
 ·obtain⟨c,r,f,j⟩:=I.list d
  refine SeqAt.notIn_listAt (Au x) f.isList (λw e=>jw g fx r fs w (by simpa using e)) ⟨.bl _,H,I,rfl,?_⟩
  rw[show c.toArray.any (Au x)=c.any (Au x) by simp,oU r fs]
  exact q
 ·obtain⟨c,r,f,j⟩:=I.tuple d
  refine SeqAt.notIn_tupleAt (Au x) f (λw e=>jw g fx r fs w (by simpa using e)) ⟨.bl _,H,I,rfl,?_⟩
  rw[show c.toArray.any (Au x)=c.any (Au x) by simp,oU r fs]
  exact q
def xG:eV X (.builtin "len") (λxs H Q=>∃p ys,xs= [.ref p]/\(iC X.K H p ys\/gH X.K H p ys)/\Q (.int ys.length) H):=by
 intro i s l H xs m Q I r h
 obtain⟨p,ys,rfl,d,q⟩:=h
 obtain⟨u,rfl,rx⟩:=vals1 r
 cases rx
 have k:=kO
 rcases d with d|d
 ·obtain⟨f,e,g,j⟩:=I.list d
  have c:=e.length
  exact Calls.call_len_list g.isList (by simp only[Qjq] <;>omega) ⟨.int ys.length,H,I.tok _,⟨s.toks+1,by rw[Qjq,c]⟩,q⟩
 ·obtain⟨f,e,g,j⟩:=I.tuple d
  have c:=e.length
  exact len_tuple g (by simp only[Qjq] <;>omega) ⟨.int ys.length,H,I.tok _,⟨s.toks+1,by rw[Qjq,c]⟩,q⟩
def xb:eV X (.builtin "len") (λxs H Q=>∃z,xs= [.str z]/\z.length<=sizeLine/\Q (.int z.length) H):=by
 intro c s d H xs f Q I r h
 obtain⟨z,rfl,hz,q⟩:=h
 obtain⟨u,rfl,t,rfl⟩:=vals1 r
 have e:=kO
 exact len_str (by omega) ⟨.int z.length,H,I.tok _,⟨_,rfl⟩,q⟩
def eV.or{f:Value}{r d:List V->Hp->VK->Prop}(h:eV X f r)(h':eV X f d):eV X f (λxs H Q=>r xs H Q\/d xs H Q):=by
 intro c s e H xs g Q I i q
 rcases q with q|q
 ·exact h c s e H xs g Q I i q
 ·exact h' c s e H xs g Q I i q
def uR:eV X (.type "tuple") (λxs H Q=>∃p ys,xs= [.ref p]/\((iC X.K H p ys/\∀l,H l=none->Q (.ref l) (upd H l (.tup ys)))\/(gH X.K H p ys/\Q (.ref p) H))):=by
 intro c s k H xs y Q I r h
 obtain⟨p,ys,rfl,h⟩:=h
 obtain⟨u,rfl,rx⟩:=vals1 r
 cases rx
 rcases h with⟨i,q⟩|⟨i,q⟩
 ·obtain⟨d,g,j,m⟩:=I.list i
  have n:=g.length
  refine call_tuple_list j.isList (λf x=> ?_) (by simp only[Qjq] <;>omega)
  have t:Inv X c k H {s with heap:=f}:=I.kept (t':=s.toks) x
  have v:Inv X c k (upd H f.objs.size (.tup ys)) {s with heap:=f.push {cls:=.type "tuple",data:=.seq d.toArray}}:=
   t.laid (t':=s.toks) (λb o e=>Qcq _ e) (Qmq _) (show cG X.prog X.w _ _ _ (.tup ys) from⟨m,d,g,ve.new _ _⟩)
  exact⟨.ref f.objs.size,_,v,rfl,q _ (t.hok.fresh (Qmq _))⟩
 ·obtain⟨d,g,j,m⟩:=I.tuple i
  exact call_tuple_same j ⟨.ref p,H,I,rfl,q⟩
def OS(K:PySem.W.Frag)(T:String)(x:V)(H:Hp):Prop:=match x with
 |.str _=>T="str"
 |.int _=>T="int"
 |.ref p=>(T="list" /\∃d,iC K H p d)\/(T="tuple" /\∃o,K.lookup p=some o/\o.cls=.type "tuple" /\o.dict=none)∨
   (T="dict" /\((∃c,H p=some (.dK c))\/∃c,H p=some (.dT c)))\/(T="set" /\∃S n,H p=some (.set S n))
 |_=>False
def JW{g:List (Addr×Obj)}{u:St}{H:Hp}{s:Shared}{T:String}{x:V}{v:Value}(I:Inv X g u H s)(r:RelV x v)(h:OS X.K T x H):
  s.TypeIs v T/\∀a,v=.ref a->∃m,s.heap.get? a=some m/\m.dict=none:=by
 cases x with
 | str z=>
   obtain⟨t,rfl⟩:=r
   cases (show T="str" from h)
   exact⟨typeIs_str s z t,λ_ e=>nomatch e⟩
 | int i=>
   obtain⟨t,rfl⟩:=r
   cases (show T="int" from h)
   exact⟨typeIs_int s i t,λ_ e=>nomatch e⟩
 | ref p=>
   cases r
   rcases h with⟨rfl,xs,hq⟩|⟨rfl,o,d,hc,l⟩|⟨rfl,d⟩|⟨rfl,S,n,d⟩
   · obtain⟨w,_,q,_⟩:=I.list hq
     refine⟨q.isList.typeIs,λa e=> ?_⟩
     cases e
     obtain⟨o,n,e,c,l,_⟩:=q
     exact⟨o,e,l⟩
   · refine⟨⟨o,I.kIn p o d,hc⟩,λa e=> ?_⟩
     cases e
     exact⟨o,I.kIn _ o d,l⟩
   · have z:∃o,s.heap.get? p=some o/\o.ExactDict:=by
       rcases d with⟨k,d⟩|⟨k,d⟩
       · obtain⟨_,_,_,_,o,_,_,e,f,_⟩:=I.hok p _ d
         exact⟨o,e,f⟩
       · obtain⟨_,_,_,_,o,_,_,e,f,_⟩:=I.hok p _ d
         exact⟨o,e,f⟩
     obtain⟨o,e,f⟩:=z
     refine⟨⟨o,e,f.1⟩,λa j=> ?_⟩
     cases j
     exact⟨o,e,f.2.1⟩
   · obtain⟨o,_,_,_,e,f,_⟩:=I.hok p _ d
     refine⟨⟨o,e,f.1⟩,λa j=> ?_⟩
     cases j
     exact⟨o,e,f.2.1⟩
 |_=>exact False.elim h
def Nu(K:PySem.W.Frag)(T:String)(r:V->List V->Hp->VK->Prop)(e:TE)(t:TA):TE:=λc H Q=>e c H λx H1=>OS K T x H1/\t c H1 λd H2=>r x d H2 Q
variable{o e:Expr}{es:List Expr}{to:TE}{t:TA}{name:Str}{apos cpos:Pos}{T id:String}{r:V->List V->Hp->VK->Prop}
def zQ(L:PlainAttrs T)(slot:Slot T name id)(k:typeOf (.builtin id)=pure (.type "method_descriptor"))(N:OB X id r)(G:PE X o to)(z:PA X (e::es) t)
  (g:attributeBase o name X.env (eval o X.env)=eval o X.env:=by rfl)
  (i:((backTo cpos (starEach (e::es) X.env)).all (λx=> !x.1)&&(backToKw cpos (keywordEach [] X.env)).all (λx=>x.1.isSome)
   &&decide ((e::es).length+([]:List Keyword).length+(if ([]:List Keyword).isEmpty then 0 else 1)<30))=true:=by rfl)
  (f:(apos.endLine==cpos.line)=true:=by rfl) (R:starEach (e::es) X.env=(false,eval e X.env)::starEach es X.env:=by rfl) (d:(backTo cpos (starEach es X.env)).any (·.1)=false:=by rfl):
  PE X (.Call (.Attribute o name apos) (e::es) [] cpos) (Nu X.K T r to t):=by
 intro c s j H Q I h
 refine wpAny_Call_method_late g i f rfl (cR (G c s j H _ I h) λv p J=> ?_)
 obtain⟨x,H1,n,m,P,q⟩:=J
 obtain⟨y,w⟩:=JW n m P
 refine⟨T,id,L,slot,k,y,w,?_⟩
 have l:=z cpos c p j H1 _ n q
 rw[R] at l⊢
 refine Calls.callWith_builtin (by show(false||(backTo cpos (starEach es X.env)).any (·.1))=false;rw[d] <;>rfl) (Calls.evalArgs_plain ?_)
 exact cR l λA u ⟨F,H2,B,M,C⟩=>N c u j H2 x F v A Q B m M C
end
def NP(X:Cx)(id:String)(r:V->List V->Hp->VK->Prop):Prop:=
 ∀ (a:List (Addr×Obj)) (s:Shared) (c:St) (H:Hp) (x:V) (b:List V) (v:Value) (d:List Value) (Q:VK),Inv X a c H s->RelV x v->bH b d->r x b H Q→
   wpAny (model X.prog X.w) X.A (call (.builtin id) (v::d)) (EP X a c Q) X.xe s
def bH.one:∀{x:V} {a:List Value},bH [x] a->∃u,a= [u]/\RelV x u
 |_,_,.cons r .nil=>⟨_,rfl,r⟩
theorem bH.rep{xs:List V}{a:List Value}(h:bH xs a):∀k:Nat,bH (List.replicate k xs).flatten (List.replicate k a).flatten
 |0=>.nil
 | k+1=>by
   rw[QNq,QNq,List.flatten_cons,List.flatten_cons]
   exact bH.append h (bH.rep h k)
theorem foldl_rep(a:List Value):∀(k:Nat) (b:List Value),
  List.foldl (λf d=>f++d) b.toArray (List.replicate k a.toArray)=(b++(List.replicate k a).flatten).toArray
 |0,b=>by simp
 | k+1,b=>by
   have e:b.toArray++a.toArray=(b++a).toArray:=by simp
   have c:(b++a)++(List.replicate k a).flatten=b++(List.replicate (k+1) a).flatten:=by
     rw[QNq,List.flatten_cons,Qvq]
   rw[←c,←foldl_rep a k (b++a),←e,QNq,List.foldl_cons]
section
variable{X:Cx}{pins:List (Addr×Obj)}{σ:St}{H:Hp}{s:Shared}{l b:Addr}{xs ys zs:List V}
def Inv.lset{a its':List Value}{n:Nat}{f:Array Value->Array Value}{t':Nat}(I:Inv X pins σ H s)(h:H l=some (.lst xs))
  (e:s.heap.get? l=some {cls:=.type "list",data:=.seq a.toArray n}) (d:f a.toArray=its'.toArray) (i:bH ys its') (hz:ys.length<=sizeLine):
  Inv X pins σ (upd H l (.lst ys)) {s with heap:=s.heap.update l (Obj.mapSeq f),toks:=t'}:=by
 have q:=PySem.IsL.update e f
 rw[d] at q
 refine I.write (x:=l) (e:=l) (by rw[h];exact trivial) (.inl rfl) (λj u g c=>(Heap.get?_update_other s.heap (Obj.mapSeq f) (Ne.symm g)).trans c) ⟨_,q⟩ ?_
 exact⟨hz,its',_,i,q⟩
def Inv.lnew{a:List Value}{t':Nat}(I:Inv X pins σ H s)(c:bH ys a)(hz:ys.length<=sizeLine):
  Inv X pins σ (upd H s.heap.objs.size (.lst ys)) {s with heap:=s.heap.push {cls:=.type "list",data:=.seq a.toArray},toks:=t'}:=
 I.laid (λ_ _ q=>Qcq _ q) (Qmq _) ⟨hz,a,0,c,Qrq _ rfl⟩
def Inv.fresh(I:Inv X pins σ H s):H s.heap.objs.size=none:=I.hok.fresh (Qmq _)
def Inv.lstM(I:Inv X pins σ H s)(c:H l=some (.lst xs)):xs.length<=sizeLine/\∃(a:List Value) (n:Nat),bH xs a/\xs.length=a.length/\s.heap.get? l=some {cls:=.type "list",data:=.seq a.toArray n}:=by
 obtain⟨z,a,n,r,e⟩:=I.hok l _ c
 exact⟨z,a,n,r,r.length,e⟩
def tV{n:Nat}(h:n<=sizeLine):Builtin.List.listTooLong n=false:=by
 unfold Builtin.List.listTooLong
 exact Qdq (by omega)
end
section
variable{X:Cx}
def Cq:V->List V->Hp->VK->Prop:=λx b H Q=>∃l a y,x=.ref l/\b= [y]/\H l=some (.lst a)/\a.length<sizeLine/\Q .non (upd H l (.lst (a++ [y])))
def qd:NP X "list.append" Cq:=by
 intro b s f H x j v i Q I c d h
 obtain⟨l,g,y,rfl,rfl,hH,hz,q⟩:=h
 cases c
 obtain⟨u,rfl,ru⟩:=d.one
 obtain⟨z,a,n,r,hl,e⟩:=I.lstM hH
 refine call_meets F.slot_list_append ⟨_,e,rfl⟩ F.entry_list_append (F.args_list_append_2 _ _) (PySem.list_append l a.toArray n u (by rw[Qjq];omega)) ⟨e,?_⟩
 refine⟨.non,_,I.lset (its':=a++ [u]) hH e (by simp) (r.append (.cons ru .nil)) ?_,rfl,q⟩
 rw[lQa,List.length_singleton]
 omega
def Cv:V->List V->Hp->VK->Prop:=λx d H Q=>∃l b a c,x=.ref l/\d= [.ref b]/\H l=some (.lst a)/\H b=some (.lst c)/\a.length+c.length<=sizeLine/\Q .non (upd H l (.lst (a++c)))
def DZ:NP X "list.extend" Cv:=by
 intro g s t H x C v y Q I j m h
 obtain⟨l,b,w,B,rfl,rfl,hH,hB,hz,q⟩:=h
 cases j
 obtain⟨u,rfl,ru⟩:=m.one
 cases ru
 obtain⟨z,c,n,r,hl,e⟩:=I.lstM hH
 obtain⟨A,a,p,o,k,i⟩:=I.lstM hB
 have f:c.toArray.size+a.toArray.size<=sizeLine:=by rw[Qjq,Qjq];omega
 have d:¬(!c.toArray.isEmpty&&Builtin.List.listTooLong (c.toArray.size+a.toArray.size))=true:=by
  rw[tV f,Bool.and_false]
  exact Qtq
 refine call_meets F.slot_list_extend ⟨_,e,rfl⟩ F.entry_list_extend (F.args_list_extend_2 _ _)
  (AutoSeq1.list_extend_list_list_0 l c.toArray n b a.toArray p d (by rw[Qjq];omega) (by omega)) ⟨e,i,?_⟩
 refine⟨.non,_,I.lset (its':=c++a) hH e (by simp) (r.append o) ?_,rfl,q⟩
 rw[lQa]
 omega
def NU:R2:=λx y H Q=>∃l b a c,x=.ref l/\y=.ref b/\H l=some (.lst a)/\H b=some (.lst c)/\a.length+c.length<=sizeLine/\∀p,H p=none->Q (.ref p) (upd H p (.lst (a++c)))
def Kr:je X (binaryOp .Add) NU:=by
 intro d s o H x y v u Q I g k h
 obtain⟨l,b,p,w,rfl,rfl,hH,hB,hz,q⟩:=h
 cases g
 cases k
 obtain⟨z,c,n,r,hl,e⟩:=I.lstM hH
 obtain⟨t,a,A,m,i,f⟩:=I.lstM hB
 refine PySem.P.add_list e f ?_ (by rw[Qjq,Qjq];omega)
 have j:c.toArray++a.toArray=(c++a).toArray:=by simp
 rw[j]
 exact⟨.ref _,_,I.lnew (t':=s.toks) (r.append m) (by rw[lQa];omega),rfl,q _ I.fresh⟩
def Ow:R2:=λx y H Q=>∃l k a,x=.ref l/\y=.int k/\H l=some (.lst a)/\ -(2^63)<=k/\k<2^63/\a.length*k.toNat<=sizeLine∧
 ∀p,H p=none->Q (.ref p) (upd H p (.lst (List.replicate k.toNat a).flatten))
def len_rep{α:Type}(xs:List α)(k:Nat):(List.replicate k xs).flatten.length=k*xs.length:=by
 induction k with
 |zero=>simp
 |succ k a=>rw[QNq,List.flatten_cons,lQa,a,Nat.succ_mul,Nat.add_comm]
def JA:je X (binaryOp .Mult) Ow:=by
 intro p s G H x y v u Q I w C h
 obtain⟨l,k,J,rfl,rfl,hH,h1,h2,hz,q⟩:=h
 cases w
 obtain⟨t,rfl⟩:=C
 obtain⟨z,b,n,r,hl,e⟩:=I.lstM hH
 have i:b.toArray.size*k.toNat<=sizeLine:=by rw[Qjq,←hl];exact hz
 have g:¬b.toArray.size*k.toNat>(2^63-1)/8:=by
  have:(sizeLine:Nat)<=(2^63-1)/8:=by decide
  omega
 have f:¬(!Builtin.List.listFitsIndex k)=true:=by
  rw[fitsIndex_both h1 h2]
  exact Qtq
 have c:¬Builtin.List.listTooLong (b.toArray.size*k.toNat)=true:=by
  rw[tV i]
  exact Qtq
 have d:List.foldl (λj o=>j++o) #[] (List.replicate (if b.toArray.isEmpty=true then 0 else k.toNat) b.toArray)=(List.replicate k.toNat b).flatten.toArray:=by
  have B:∀m:Nat,List.foldl (λj o=>j++o) #[] (List.replicate m b.toArray)=(List.replicate m b).flatten.toArray:=λm=>by
   have:=foldl_rep b m []
   rw[List.nil_append] at this
   exact this
  rw[B]
  cases b with
  |nil=>simp
  |cons a K=>rw[Quq (by simp)]
 refine wpAny_binaryOp_repeat_ref (T:="list") (U:="int") (by decide) ⟨_,e,rfl⟩ (λA=>typeIs_int A k t) noFill_list_mul F.fills_int_mul F.slot_int_rmul repeat_list F.slot_int_index.lookup
  (call_meets F.slot_int_rmul (typeIs_int s k t) F.entry_int_rmul (F.args_int_rmul_2 _ _) (int___rmul___int_list k t l b.toArray n)
   ⟨e,rfl,⟨_,e,rfl⟩,call_meets F.slot_list_mul ⟨_,e,rfl⟩ F.entry_list_mul (F.args_list_mul_2 _ _) (AutoListH.list___mul___list_int_3 l b.toArray n k t f g c) ⟨e,?_⟩⟩)
 rw[d]
 exact⟨.ref _,_,I.lnew (t':=s.toks) (r.rep k.toNat) (by rw[len_rep,Nat.mul_comm];exact hz),rfl,q _ I.fresh⟩
end
end L2
namespace Att
open PySem PySem.W PySem.Calls PyProof.Rows
def rK{P:Params}{h:Heap}:∀(ns:List Int) (vs:List Value),WellAll P h vs (ns.map WData.int)->IntsAre vs ns:=by
 intro ns
 induction ns with
 | nil=>
   intro vs w
   rw[List.map_nil] at w
   cases w
   exact .nil
 | cons n ns c=>
   intro vs w
   rw[QDq] at w
   cases w with
   | cons a b=>
     cases a
     exact .cons _ _ (c _ b)
def Dl{l:OpenLaw}{n:Nat}(m:l.most=some n){P:Params}{h:Heap}{args:List WData}{vals:List Value}
  (b:l.row.toRowW.claim.pre args=true) (i:WellAll P h vals args):
  ∃a vs ns,vals= [Value.ref a]/\args= [WData.list (ns.map WData.int)]/\h.get? a=some {cls:=.type "list",data:=.seq vs.toArray}/\IntsAre vs ns/\ns.length<=n:=by
 have j:WShape.hasAll [] args [.list .int]=true:=(pre_splitW b).1
 have k:l.pre.holds [] {args:=args}=true:=(pre_splitW b).2
 obtain⟨d,r,rfl,h1,h2⟩:=hasAllW_cons j
 obtain rfl:=hasAllW_nil h2
 obtain⟨u,rfl,h3⟩:=hasW_list h1
 obtain⟨ns,rfl⟩:=items_int h3
 have e:ns.length<=n:=by
  unfold OpenLaw.pre at k
  have g:(WTm.not (.lt (.lit (.int (n:Int))) (.len (.arg 0)))).holds [] {args:= [.list (ns.map .int)]}=true:=by
   have g:=(holds_andW k).1
   rw[m] at g
   exact g
  have f:=condW_of g (w_not (w_lt w_lit (w_len_list (w_arg rfl))))
  rw[lQm] at f
  refine Nat.le_of_not_lt λq=> ?_
  have t:(n:Int)<((ns.length:Nat):Int):=by omega
  first
   |(rw[Qeq t] at f;exact absurd f (by decide))
   |(simp at f;omega)
 cases i with
 | cons s o=>
   cases o
   cases s with
   |list p c=>exact⟨_,_,ns,rfl,rfl,p,rK ns _ c,e⟩
def D9(l:OpenLaw)(args:List WData):l.row.toRowW.claim.post args (.bool true) args=true:=
 postW_of (r:=l.row.toRowW) (X:=(true==true))
  (show WShape.has [] (.bool true) .bool=true by first|rfl|decide|simp[WShape.has,WShape.arms,WShape.armsAll])
  (show(WTm.eq .res (.lit (.bool true))).value [] {args:=args,res:=some (.bool true),after:=args}=some (.bool (true==true)) from w_eq_bool (w_res rfl) w_lit) rfl
def yK{l:OpenLaw}{n:Nat}{q:Program}{c:List Str}{z:(Str->Option Value)->Heap->Prop}{y:World->Heap->Prop}{d:DefRec}
  (H:l.most=some n) (u:d.params.defaults= [])
  (i:∀(w:World) (s₀ b:Shared) (mg v:Str->Option Value) (g:Addr) (o:Obj) (m k e:Value) (a:Addr) (vs:List Value) (ns:List Int),
   Ground q c [] z w s₀ mg v b.heap->y w b.heap→
   b.heap.get? g=some o->o.data=.func (docDef d.name d.params d.body d.scope m k e)->b.heap.CodeRec k d.name->mg d.name=some (.ref g)→
   b.heap.get? a=some {cls:=.type "list",data:=.seq vs.toArray}->IntsAre vs ns->ns.length<=n->b.gens= #[]→
   codeAny (model l.prog w) callerA (.call (.ref g) ⟨[.ref a],[]⟩) (λr j=>r=.ok (.ret (.bool true))/\OldK b.heap j.heap/\j.os=b.os/\AllBare j.gens) b):
  WalkO q c z y l.row.toRowW d [] (λf vs=>PySem.call f vs):=by
 intro w s₀ b mg v G Y g o m k e J kV M K p x t F C A Q h B N s I
 obtain rfl:J=.none:=Dflts.none x u
 obtain rfl:kV=.none:=Dflts.noKw x
 obtain⟨a,vs,ns,rfl,rfl,hobj,hints,hlen⟩:=Dl H h s
 refine enter_call (codeAny_mono (i w s₀ b mg v g o m k e a vs ns G Y M (fd_plain K) p t hobj hints hlen F) λr j L=> ?_)
 obtain⟨rfl,h2,h3,h4⟩:=L
 exact⟨.inl ⟨.bool true,.bool true,[],rfl,λ_=>rfl,.bool true,D9 l _,λ_=>⟨List.Pairwise.nil,λ_ P=>(nomatch P)⟩⟩,h2,h3,h4⟩
end Att
namespace L2
open PySem PySem.Spec PyProof.Rows
theorem vP:∀{vs:List Value} {ns:List Int},IntsAre vs ns->bH (ns.map V.int) vs
 |_,_,.nil=>.nil
 |_,_,.cons n t h=>.cons ⟨t,rfl⟩ (vP h)
def HG(H:Hp):Prop:=∀b,H b=none\/∃o a,H b=some (.frz o (.lst a))
def EN{P:Program}{w:World}{K:PySem.W.Frag}{mg mb:Str->Option Value}{CX:Ee}{k:Nat}{Z a:Addr}{fd:FuncData}{x:Str}{sp:Sp}{c:Shared}{vs:List Value}{ns:List Int}
  (KX:K.In c.heap) (J:c.heap.Ns mainGlobals mg) (g:c.heap.Ns builtinsNs mb) (S:∀x:Str,x≠"__name__" ->mb x=bootBuiltins x) (y:c.heap.NoLimit) (hg:c.gens= #[])
  (N:c.heap.get? a=some {cls:=.type "list",data:=.seq vs.toArray}) (hi:IntsAre vs ns) (hl:ns.length<=sizeLine) (hr:eQ k callerA)
  (F:∀base:Heap,K.In base->base.Ns mainGlobals mg->bA P w K mg base CX k Z fd [x] sp) (p:∀(s:Shared) (u:Value),BindsTo s fd ⟨[u],[]⟩ [(x,u)])
  (Y:∀H:Hp,HG H->iC K H a (ns.map V.int)->sp [.ref a] H (λv _=>v=.bl true) λ_ _ _=>False)
  (X:∀H e i,CX [] H c (λ_ _ _=>False) e i->False):
  codeAny (model P w) callerA (.call (.ref Z) ⟨[.ref a],[]⟩) (λr i=>r=.ok (.ret (.bool true))/\OldK c.heap i.heap/\i.os=c.os/\AllBare i.gens) c:=by
 have rv:=vP hi
 have B:=hi.length
 have l:∀H:Hp,HG H->iC K H a (ns.map V.int)->oE P w H c.heap->(∀b,H b≠none->b=a)->(H a≠none->K.lookup a=none)→
   codeAny (model P w) callerA (.call (.ref Z) ⟨[.ref a],[]⟩) (λr i=>r=.ok (.ret (.bool true))/\OldK c.heap i.heap/\i.os=c.os/\AllBare i.gens) c:=by
  intro H hO hS C hA hK
  have f:∀{b:Addr} {o:Obj},c.heap.get? b=some o->H b=none->(yf c.heap H).get? b=some o:=λe n=>Gc e n
  have R:∀{b:Addr} {o:Obj} {M:Array DictEntry} {I:Nat},c.heap.get? b=some o->o.data=.dict M I->H b=none:=λ{b o M I} e d=>by
   cases q:H b with
   |none=>rfl
   | some u=>
     have Q:b=a:=hA b (by rw[q];simp)
     subst Q
     rw[N] at e;cases e
     have d':Data.seq vs.toArray _=Data.dict M I:=d
     cases d'
  have j:∀{b:Addr} {m:Str->Option Value},c.heap.Ns b m->(yf c.heap H).Ns b m:=λ{b m} ⟨o,M,I,e,d,r⟩=>⟨o,M,I,f e (R e d),d,r⟩
  have G:K.In (yf c.heap H):=λb o e=>f (KX b o e) (by
   cases q:H b with
   |none=>rfl
   | some u=>
     have Q:b=a:=hA b (by rw[q];simp)
     subst Q
     rw[hK (by rw[q];simp)] at e;cases e)
  have hM:Mod K mg (yf c.heap H):=⟨G,j J,⟨mb,j g,S⟩,let ⟨mc,h1,h2⟩:=y;⟨mc,j h1,h2⟩⟩
  have e0:Hu P w K mg (yf c.heap H) callerA [] c H:=⟨rfl,hM,λb o e=>G_ e,Nat.le_of_eq (C5 _ _),trivial,λb g=>absurd (show b∈([]:List Addr) from g) (by simp),C,.of_eq hg⟩
  refine codeAny_mono ((F _ G (j J)).run callerA [] c H ⟨[.ref a],[]⟩ [.ref a] [.ref a] _ _ hr e0 (p c (.ref a)) (.cons rfl .nil) (Y H hO hS)) λr i h=> ?_
  cases r with
  |error e=>exact(X H e i h).elim
  | ok fl=>
    cases fl with
    |next=>exact False.elim h
    |brk=>exact False.elim h
    |cont=>exact False.elim h
    | ret u=>
      obtain⟨v,H',os,t,un,A,r',q⟩:=h
      have q':v=.bl true:=q
      subst q'
      obtain rfl:u=Value.bool true:=r'
      refine⟨rfl,OldK.of_keep λb o e=> ?_,os,t⟩
      cases q:H b with
      |none=>exact un.keep b o e q (by intro z;exact absurd (show b∈([]:List Addr) from z) (by simp)) (by simp)
      | some u=>
        rcases hO b with z|⟨ob,xs,z⟩
        · rw[q] at z;cases z
        · have z2:=un.frzs b ob _ z
          obtain⟨e1,_⟩:=C b _ z
          obtain⟨e2,_⟩:=A b _ z2
          rw[e] at e1;cases e1
          exact e2
 cases U:K.lookup a with
 | some o=>
   have e:=KX a o U
   rw[N] at e
   cases e
   refine l (λ_=>none) (λ_=>.inl rfl) (.inr ⟨_,vs.toArray,_,U,rfl,rfl,rfl,by rw[Qjq,B];exact hl,by simpa using rv⟩) (λb u z=>by have L:(none:Option HO)=some u:=z;cases L) (λb z=>absurd rfl z) λz=>absurd rfl z
 | none=>
   refine l (λb=>if b=a then some (.frz {cls:=.type "list",data:=.seq vs.toArray} (.lst (ns.map V.int))) else none) (λb=> ?_) (.inl (.inr ⟨{cls:=.type "list",data:=.seq vs.toArray},Qhq rfl⟩)) (λb u z=> ?_) (λb z=> ?_) λ_=>U
   · by_cases g:b=a
     · exact .inr ⟨_,_,Qhq g⟩
     · exact .inl (Quq g)
   · by_cases g:b=a
     · have L:=(Qhq g).symm.trans z
       cases L
       subst g
       exact⟨N,by rw[lQm];exact hl,vs,_,rv,N⟩
     · have L:=(Quq g).symm.trans z
       cases L
   · by_cases g:b=a
     · exact g
     · exact absurd (Quq g) z
def GI{l:PySem.W.OpenLaw}{n k:Nat}{q:Program}{j:List Str}{X:(Str->Option Value)->Heap->Prop}{J:World->Heap->Prop}{d:DefRec}{K:Params->PySem.W.Frag}{CX:World->Ee}{sp:World->Sp}{x:Str}
  (Q:l.most=some n) (t:n<=sizeLine) (B:d.params.defaults= []) (S:eQ k callerA)
  (hY:∀(w:World) (h:Heap),J w h->(K w.params).In h)
  (F:∀(w:World) (mg:Str->Option Value) (r:Addr) (h:Heap),(K w.params).In h->h.Ns mainGlobals mg->mg d.name=some (.ref r)→
   ∃ z:FuncData,(∀(s:Shared) (u:Value),BindsTo s z ⟨[u],[]⟩ [(x,u)])∧
     ∀base:Heap,(K w.params).In base->base.Ns mainGlobals mg->bA l.prog w (K w.params) mg base (CX w) k r z [x] (sp w))
  (I:∀(w:World) (H:Hp) (a:Addr) (ns:List Int),ns.length<=n->HG H->iC (K w.params) H a (ns.map V.int)->sp w [.ref a] H (λv _=>v=.bl true) λ_ _ _=>False)
  (C:∀(w:World) (H:Hp) (s:Shared) (e:Value) (y:Shared),CX w [] H s (λ_ _ _=>False) e y->False):
  PySem.W.WalkO q j X J l.row.toRowW d [] (λf vs=>PySem.call f vs):=by
 refine Att.yK Q B λw M p mg mb r o pm cd R a vs ns G Y ho hd P A m i c N=> ?_
 have L:=hY w _ Y
 obtain⟨z,Z,hF⟩:=F w mg r _ L G.T.g A
 exact EN L G.T.g G.T.b G.T.builtins G.T.nolimit N m i (QAq c t) S hF Z (λH U hS=>I w H a ns c U hS) λH e y=>C w H p e y
noncomputable def g8(s:Stmt):Arguments:=match s with
 |.FunctionDef _ a _ _ _ _ _ _ _ _=>a
 |_=>{posonlyargs:= [],args:= [],vararg:=none,kwonlyargs:= [],kw_defaults:= [],kwarg:=none,defaults:= []}
noncomputable def ff(s:Stmt):List Stmt:=match s with
 |.FunctionDef _ _ b _ _ _ _ _ _ _=>b
 |_=> []
noncomputable def aD(s:Stmt):Scope:=match s with
 |.FunctionDef _ _ _ _ _ _ a _ _ _=>a
 |_=>{kind:=.function,names:= [],isGenerator:=false,isCoroutine:=false}
abbrev dG:Ee:=λ_ _ _ _ _ _=>False
abbrev E0:XK:=λ_ _ _=>False
def FG{X:Cx}:Bf dG X E0:=λ_ _ _ _ _ _ _ h=>h.elim
structure et(K:PySem.W.Frag)(x qual:Str)(st:Stmt)(f:Addr)(fd:FuncData):Prop where
 ex:∃(oc:Value) (od:Option Addr) (kV doc pm:Value) (an:Option Addr) (cdv ct:Value) (osl:Array (Option Value)),
  fd=PySem.W.fnOf x qual (g8 st) (ff st) (aD st) .none kV doc pm an cdv ct/\K.lookup f=some ⟨oc,od,.func fd,osl⟩/\PySem.W.codeIn K cdv qual=true
 kp:PySem.W.keepIn K (.ref f)=true
section
variable{P:Program}{w:World}{K:PySem.W.Frag}{mg:Str->Option Value}{base:Heap}
def et.ok{x a:Str}{st:Stmt}{f:Addr}{e:FuncData}{N ps:List Str}{k:Nat}{sp:Sp}(F:et K x a st f e)(S:aJ N ps (aD st))(len:∀vs H Q E,sp vs H Q E->vs.length=ps.length)
  (c:∀(b:Value) (A:Around) (outer:List Env) (s:Shared) (H:Hp) (vs:List V) (Q:VK) (E:XK),eQ k (A.deeper (envOfC a (aD st) s.heap.objs.size f b))->sp vs H Q E→
   ∃t,rL (Aq dG P w K mg base N a (aD st) f b A outer s H E).nox (ff st) t/\t {nx:=λ_ l=>Q .non l,rt:=Q} (start N vs) H):bA P w K mg base dG (k+1) f e ps sp:=by
 obtain⟨o,n,kV,g,m,r,b,p,i,rfl,lk,hcd⟩:=F.ex
 refine MQ lk hcd S len λA outer s H vs Q E j d=> ?_
 obtain⟨t,h,q⟩:=c b A outer s H vs Q E j d
 exact⟨t,h.nox,q⟩
def et.binds{x a:Str}{st:Stmt}{f:Addr}{i:FuncData}{ps:List Str}(F:et K x a st f i)
  (h:∀(kV c d:Value) (g:Option Addr) (b ct:Value) (e:List Value),e.length=ps.length->bindArgs (PySem.W.fnOf x a (g8 st) (ff st) (aD st) .none kV c d g b ct) ⟨e,[]⟩=pure (ps.zip e)):Binds K i ps []:=by
 obtain⟨l,k,kV,c,d,g,b,ct,j,rfl,lk,hcd⟩:=F.ex
 exact .all (h kV c d g b ct)
def A_{x a:Str}{st:Stmt}{f:Addr}{j:Value}{i h:Option Addr}{e:Array (Option Value)}{kV d g b ct:Value}(l:K.lookup f=some ⟨j,i,.func (PySem.W.fnOf x a (g8 st) (ff st) (aD st) .none kV d g h b ct),e⟩)
  (c:PySem.W.codeIn K b a=true) (k:PySem.W.keepIn K (.ref f)=true):et K x a st f (PySem.W.fnOf x a (g8 st) (ff st) (aD st) .none kV d g h b ct):=⟨⟨j,i,kV,d,g,h,b,ct,e,rfl,l,c⟩,k⟩
end
def Cn{A:Around}{k:Nat}(a:eQ k A):A.units+1<cLine:=Nat.lt_of_le_of_lt (Nat.add_le_add_left (by decide:1<=64) _) a.units
def aM{n:Nat}(h:n<=1000):n<sizeLine:=Nat.lt_of_le_of_lt h (by decide)
section
variable{X:Cx}
def pv(i:Nat){x:Str}{pos:Pos}(b:X.N[i]?=some x:=by rfl)(c:IB X.env.scope x:=by first|exact Or.inl rfl|exact Or.inr (Or.inl rfl)|exact Or.inr (Or.inr rfl))(hd:(x==("__debug__":Str))=false:=by decide)
  (a:(x==("__classdict__":Str))=false:=by decide):PE X (.Name x pos) (JY i):=Fb b c hd a
def Dm:eV X (.builtin "len") (λxs H Q=>∃a kvs,xs= [V.ref a]/\H a=some (.dK kvs)/\Q (.int kvs.length) H):=by
 intro b s d H xs f Q I r h
 obtain⟨a,kvs,rfl,ha,q⟩:=h
 obtain⟨u,rfl,ru⟩:=vals1 r
 cases ru
 exact jh I (.inl ha) λt e c=>⟨.int kvs.length,H,c,⟨t,rfl⟩,q⟩
end
section
variable{prog:Program}{w:World}{A:Around}{s:Shared}
def pk{p a i:Expr}{q:List Expr}{f:Scope}{pos:Pos}{it t:Value}{env:Env}{R:Result->Shared->Prop}(I:Nat->Shared->Prop)
  (B:∀n s,I n s->wpAny (model prog w) A (pyNext it) (λr d=>match r with
   |none=>R (.ok .next) d
   |some v=>wpAny (model prog w) A (letOwnedTupleGo a it v) (λ_ b=>wpAny (model prog w) A (assign a env v) (λ_ g=>
     wpAny (model prog w) A (forIn q true λc r=>if r=true then do let ok←isTrue c env (eval c env);pure (ForInStep.yield ok) else pure (ForInStep.yield r)) (λok s₃=>
      if ok=true then wpAny (model prog w) A (eval p env) (λx j=>
       wpAny (model prog w) A (call (.builtin "list.append") [t,x]) (λ_ k=>∃m,m<n/\I m k) (λ_ _=>False) j) (λ_ _=>False) s₃
      else∃m,m<n/\I m s₃) (λ_ _=>False) g) (λ_ _=>False) b) (λ_ _=>False) d) (λ_ _=>False) s)
  (n:Nat) (h:I n s):codeAny (model prog w) A (.compLoop (.ListComp p [⟨a,i,q,0⟩] f pos) 0 it t env) R s:=by
 refine codeAny_loop rfl I (λn s C=> ?_) n h
 show wpAny _ A ((compTurn (.ListComp p [⟨a,i,q,0⟩] f pos) 0 it t env).onRaise (λx=>do noteFrame x env;theTreesLotGoes x)) _ _ s
 refine wpAny_noted ?_
 rw[compTurn_list]
 refine Qaq (wpAny_standAt (Qaq (QRq (B n s C) (λr d l=> ?_) λ_ _ e=>e.elim)))
 cases r with
 |none=>exact Qgq l
 | some v=>
   refine Qaq (QRq l (λ_ b o=> ?_) λ_ _ e=>e.elim)
   refine Qaq (QRq o (λ_ g z=>Qaq (QRq z (λok s₃ h₃=> ?_) λ_ _ e=>e.elim)) λ_ _ e=>e.elim)
   cases ok with
   |false=>exact Qgq ⟨rfl,h₃⟩
   | true=>
     exact Qaq (Qaq (QRq h₃ (λx j y=>Qaq (QRq y (λ_ k u=>Qgq (Qgq ⟨rfl,u⟩)) λ_ _ e=>e.elim)) λ_ _ e=>e.elim))
end
noncomputable def aN(X:Cx)(N:List Str)(a:Scope)(b:List (Str×Addr))(C:Addr)(s:Shared)(H:Hp)(fp:List Addr):Cx where
 prog:=X.prog
 w:=X.w
 K:=X.K
 mg:=X.mg
 base:=X.base
 A:=X.A
 N:=N
 s₀:=s
 H₀:=H
 env:=compEnvC a b C X.env
 outer:=X.stack
 stack:=X.stack
 ex:=fp
 fn:=λ_=>false
 calm:=X.calm
 pn:= []
 xe:=λ_ _=>False
noncomputable def kd(js:List (Option Nat))(a:St):St:=js.map λo=>o.bind λj=>a.getD j none
structure aQ(X:Cx)(N:List Str)(js:List (Option Nat))(scope:Scope)(cl:List (Str×Addr)):Prop where
 kind:scope.kind=.function
 nocell:∀y∈scope.names,y.2≠.cell
 names:∀y∈scope.names,y.2=.local->scope.names.lookup y.1=some .local
 clos:closureFor scope X.env=pure cl
 sub:∀x c,cl.lookup x=some c->X.env.cells.lookup x=some c
 has:∀x,((relabel scope X.env).names.lookup x=some .cell\/(relabel scope X.env).names.lookup x=some .free)->∃c,cl.lookup x=some c
 cap:∀(k j:Nat) (x:Str),js[k]?=some (some j)->N[k]?=some x->X.N[j]?=some x/\(X.env.kindOf x=some .cell\/X.env.kindOf x=some .free)/\((relabel scope X.env).names.lookup x=some .cell\/(relabel scope X.env).names.lookup x=some .free)
 len:js.length=N.length
def nj(X:Cx)(b:List Expr)(t:TT):Prop:=
 ∀ (a:List (Addr×Obj)) (s:Shared) (d:St) (H:Hp) (Q:Bool->Hp->Prop),Inv X a d H s->t d H Q→
   wpAny (model X.prog X.w) X.A (forIn b true λc r=>if r=true then do let ok←isTrue c X.env (eval c X.env);pure (ForInStep.yield ok) else pure (ForInStep.yield r)) (TP X a d Q) X.xe s
def KE{X:Cx}:nj X [] (λ_ H Q=>Q true H):=λ_ _ _ H _ I h=>wpAny_tests_nil ⟨H,I,h⟩
def KZ{X:Cx}{c:Expr}{t:TT}(b:PT X c t):nj X [c] t:=λa s d H Q I h=>
 wpAny_tests_one (cR (b a s d H Q I h) λok s' h'=>h')
def M8(J:It)(g:TG)(n:TT)(k:TE)(Q:VK)(D:Addr)(l:St)(H:Hp):Prop:=
 ∃ W:Nat->Nat->St->Hp->Prop,(∃m,W 0 m l H)/\∀i m d e,W i m d e→
   (J.stop i e/\Q (.ref D) e)\/(J.go i e/\∃h:St->Hp->Prop,(∀b c,h b c->∃j,j<m/\W (i+1) j b c)∧
     ∀ x H2,J.yld i e x H2->g x d H2 λa H3=>n a H3 λok H4=>
       if ok=true then k a H4 λy H5=>∃f,H5 D=some (.lst f)/\f.length<sizeLine/\h a (upd H5 D (.lst (f++ [y]))) else h a H4)
def FB(js:List (Option Nat))(d:TI)(g:TG)(c:TT)(b:TE):TE:=λa H Q=>d a H λJ H1=>∀D,H1 D=none->M8 J g c b Q D (kd js a) (upd H1 D (.lst []))
def G6{X:Cx}{N:List Str}{js:List (Option Nat)}{a:Scope}{R:List (Str×Addr)}{tg P b0:Expr}{b4:List Expr}{pos:Pos}{wi:TI}{g:TG}{tt:TT}{te:TE}
  (S:aQ X N js a R) (hc:X.calm=true) (hi:PI X tg P wi)
  (hg:∀C s H fp,PG (aN X N a R C s H fp) tg g) (ht:∀C s H fp,nj (aN X N a R C s H fp) b4 tt) (he:∀C s H fp,PE (aN X N a R C s H fp) b0 te)
  (hs:∀x,foldedSetIterable P X.env x=pure x:=by intro _;rfl):PE X (.ListComp b0 [⟨tg,P,b4,0⟩] a pos) (FB js wi g tt te):=by
 intro a7 s σ H Q I h
 rw[eval_ListComp]
 refine wpAny_comprehension_free (use:=none) rfl hs S.clos S.kind S.names (cR (hi a7 s σ H _ I h) λv s1 h1=>cR h1 λd5 f h2=> ?_)
 obtain⟨it,fp,tn,J,H2,e,B,T,b5,f2,hD⟩:=h2
 subst e
 refine QhQ (wpAny_newFunctionEnv S.nocell (by intro y hy;simp at hy) (λL G t=> ?_) S.kind)
 dsimp only at G t⊢
 generalize b2:f.heap.push {cls:=.type "list",dict:=none,data:=.seq ([]:List Value).toArray}=P2 at G t⊢
 have hC:P2.objs.size=f.heap.objs.size+1:=by rw[←b2,Heap.size_push]
 have d1:f.heap.objs.size≠P2.objs.size:=by rw[hC];exact Qwq (Nat.lt_succ_self _)
 have a6:f.heap.objs.size<=P2.objs.size:=by rw[hC];exact Nat.le_succ _
 have F:∀b,b<f.heap.objs.size->b≠P2.objs.size:=λb k=>by rw[hC];exact Qwq (Nat.lt_succ_of_lt k)
 have Z:∀b o,f.heap.get? b=some o->L.get? b=some o:=λb o e=>t.extBut b o (F b (Qiq e)) (Qcq _ (b2▸Qcq _ e))
 have b6:L.get? f.heap.objs.size=some {cls:=.type "list",dict:=none,data:=.seq ([]:List Value).toArray}:=t.extBut _ _ d1 (Qcq _ (b2▸Qrq _ rfl))
 have nD:H2 f.heap.objs.size=none:=B.fresh
 have nC:H2 P2.objs.size=none:=B.hok.fresh a6
 have b3:∀b∈fp,b<f.heap.objs.size:=λb k=>by
  obtain⟨o,e,_⟩:=T.obj _ _ b5 b k
  exact Qiq e
 obtain⟨W,⟨m0,w0⟩,b9⟩:=hD f.heap.objs.size nD
 have c5:(aN X N a R P2.objs.size f H2 fp).Ok:=by
  refine⟨B.ok.mod,S.kind,B.ok.glob,B.ok.blt,a6,λx y c h1 h2=>B.ok.inj x y c (S.sub x c h1) (S.sub y c h2),S.has,(λx c h=>by cases h),B.ok.hd,B.ok.frames,.inl rfl,
   λb k=>⟨F b (b3 b k),λx c h=>(f2 b k).2.2.2.2.1 x c (S.sub x c h)⟩,B.bs,QAq B.ok.bsz B.sz,λb o e k=> ?_,λb k z=> ?_,B.stack,B.stkFree⟩
  ·rcases(f2 b k).2.2.2.1 with z|z
   ·exact B.ok.noex b o e z
   ·exact absurd (Qqq (Qqq (Qiq e) B.ok.bsz) z) (Nat.lt_irrefl _)
  ·rcases Qsq.mp (B.stkSub b z) with q|q
   ·exact(f2 b k).2.1 q
   ·exact(f2 b k).2.2.1 q
 have c6:cG X.prog X.w (upd H2 f.heap.objs.size (.lst [])) L f.heap.objs.size (.lst []):=⟨Nat.zero_le _,[],0,.nil,b6⟩
 have I4:Inv (aN X N a R P2.objs.size f H2 fp) [] (kd js σ) (upd H2 f.heap.objs.size (.lst [])) {f with heap:=L,toks:=f.toks+([]:List (Str×Value)).length}:=by
  refine⟨c5,rfl,B.bare,Un.laid Z (Qmq _) nD,⟨_,G,λi x v h1 h2 h3=> ?_⟩,λx c h=> ?_,by show upd H2 _ _ P2.objs.size=none;rw[bg d1.symm];exact nC,λx c h=> ?_,λp hp=>absurd (show p∈([]:List (Addr×Obj)) from hp) (by simp),B.hok.laid Z (Qmq _) c6,by show(kd js σ).length=N.length;unfold kd;rw[lQm];exact S.len⟩
  ·unfold kd at h2
   rw[gQm] at h2
   cases e:js[i]? with
   |none=>rw[e] at h2;cases h2
   | some o=>
     rw[e] at h2
     cases o with
     |none=>cases h2
     | some j=>
       have a2:σ.getD j none=some v:=QdQ h2
       have hj:σ[j]?=some (some v):=by
         rw[Qlq] at a2
         cases q:σ[j]? with
         |none=>rw[q] at a2;cases a2
         |some y=>rw[q] at a2;exact congrArg some a2
       obtain⟨c1,c2,c3⟩:=S.cap i j x e h1
       obtain⟨m,hn,hl⟩:=B.loc
       have d4:IB X.env.scope x:=by
         rcases c2 with z|z
         · exact .inr (.inl z)
         · exact .inr (.inr z)
       obtain⟨u,r,l⟩:=hl j x v c1 hj d4
       refine⟨u,r,.inr ⟨c3,?_⟩⟩
       obtain⟨c,b7⟩:=S.has x c3
       refine⟨c,b7,?_⟩
       rcases l with⟨z,_⟩|⟨_,c',e',z⟩
       · rcases c2 with y|y <;>rw[y] at z <;>cases z
       · rw[S.sub x c b7] at e'
         cases e'
         obtain⟨o,ho,hd⟩:=z
         exact⟨o,Z _ _ ho,hd⟩
  ·obtain⟨v,o,ho,hd⟩:=B.cell x c (S.sub x c h)
   exact⟨v,o,Z _ _ ho,hd⟩
  ·obtain⟨v,o,ho,hd⟩:=B.cell x c (S.sub x c h)
   rw[bg (Qwq (Qiq ho))]
   exact B.freeC x c (S.sub x c h)
 have a1:∀{M:List (Addr×Obj)} {Y:Hp},M= []->(∀b∈fp,Y b=none)->∀b∈fp,qg (aN X N a R P2.objs.size f H2 fp) M Y b:=λ{M Y} ep hn b k=>by
  subst ep
  refine⟨hn b k,F b (b3 b k),λz=>c5.exfs b k z,.inl k,λx c h=>(f2 b k).2.2.2.2.1 x c (S.sub x c h),λp hp=>absurd (show p∈([]:List (Addr×Obj)) from hp) (by simp)⟩
 have a9:codeAny (model X.prog X.w) X.A (.compLoop (.ListComp b0 [⟨tg,P,b4,0⟩] a pos) 0 (.ref it) (.ref f.heap.objs.size) (compEnvC a R P2.objs.size X.env))
   (compPost (model X.prog X.w) X.A X.xe none (EP X a7 σ Q) (.ref f.heap.objs.size) P2.objs.size) {f with heap:=L,toks:=f.toks+([]:List (Str×Value)).length}:=by
  refine pk (λn s'=>∃i a3 Y,Inv (aN X N a R P2.objs.size f H2 fp) [] a3 Y s'/\tn i s'.heap/\(∀b∈fp,Y b=none)/\W i n a3 Y) ?_ m0
   ⟨0,_,_,I4,T.keep _ _ _ b5 λb _ o e=>Z b o e,λb k=>by rw[bg (Qwq (b3 b k))];exact(f2 b k).1,w0⟩
  rintro n s3 ⟨i,a4,H3,I3,b8,c4,w3⟩
  rcases b9 i n a4 H3 w3 with⟨stop,q⟩|⟨go,Nx,hN,c0⟩
  ·refine cR (T.done (aN X N a R P2.objs.size f H2 fp) rfl rfl rfl hc i [] s3 a4 H3 _ I3 (a1 rfl c4) b8 stop) λr s4 U=> ?_
   obtain⟨hr,I5⟩:=U
   subst hr
   obtain⟨m,hn,_⟩:=id I5.loc
   refine⟨m,hn,λh' a5=>⟨.ref f.heap.objs.size,H3,?_,rfl,q⟩⟩
   have u:=I5.base
   have ne:∀b o,f.heap.get? b=some o->b≠P2.objs.size:=λb o e=>F b (Qiq e)
   refine B.call' (ch:=fp) I5.os ⟨λb o e n k hx=>(a5.2 b (ne b o e)).trans (u.keep b o e n k hx),λb o e n k hx=> ?_,u.free,λb o e hx=> ?_,u.tups,u.frzs,u.tbls⟩ (λb ob e=> ?_) I5.bare λb k=>⟨(f2 b k).2.2.2.1,(f2 b k).2.1,(f2 b k).2.2.2.2.1,(f2 b k).2.2.2.2.2⟩
   ·obtain⟨sl,e1⟩:=u.slot b o e n k hx
    exact⟨sl,(a5.2 b (ne b o e)).trans e1⟩
   ·obtain⟨o',e1⟩:=u.there b o e hx
    exact⟨o',(a5.2 b (ne b o e)).trans e1⟩
   ·refine(I5.hok b ob e).stay (λc w' hc q=>(a5.2 c ?_).trans q) (λ_ q=>q) λ_ _ q=>q
    have fC:H3 P2.objs.size=none:=I5.free
    rintro rfl
    rcases hc with z|z
    ·rw[←z,fC] at e;cases e
    ·rw[fC] at z;cases z
  ·refine cR (T.item (aN X N a R P2.objs.size f H2 fp) rfl rfl rfl hc i [] s3 a4 H3 _ I3 (a1 rfl c4) b8 go) λr s4 U=> ?_
   obtain⟨u,hr,h4⟩:=U
   subst hr
   refine cR h4 λ_ s5 U=> ?_
   obtain⟨x,H5,I5,r5,y5,b1,d3⟩:=U
   have d2:=I5.pinned (a1 rfl d3) (T.obj _ _ b1)
   refine cR (hg P2.objs.size f H2 fp _ s5 a4 H5 x u _ d2 r5 (c0 x H5 y5)) λ_ s6 U=> ?_
   obtain⟨K,H6,I6,q6⟩:=U
   refine cR (ht P2.objs.size f H2 fp _ s6 K H6 _ I6 q6) λok s7 U=> ?_
   obtain⟨H7,I7,q7⟩:=U
   have again:∀{s8:Shared} {H8:Hp},Inv (aN X N a R P2.objs.size f H2 fp) ([]++nV fp s5.heap) K H8 s8->Nx K H8->∃m,m<n/\∃i a3 Y,Inv (aN X N a R P2.objs.size f H2 fp) [] a3 Y s8/\tn i s8.heap/\(∀b∈fp,Y b=none)/\W i m a3 Y:=λ{s8 H8} I8 n8=>by
    obtain⟨m',hm,w8⟩:=hN K H8 n8
    refine⟨m',hm,i+1,K,H8,I8.unpinned,T.keep _ _ _ b1 λb k o e=>(I8.pin (b,o) (Qoq _ (Qoq _ (dt k e)))).1,λb k=> ?_,w8⟩
    obtain⟨o,e,d⟩:=T.obj _ _ b1 b k
    exact(I8.pin (b,o) (Qoq _ (Qoq _ (dt k e)))).2.1
   cases ok with
   |false=>exact again I7 q7
   | true=>
     refine cR (he P2.objs.size f H2 fp _ s7 K H7 _ I7 q7) λyv s8 U=> ?_
     obtain⟨y,H8,I8,ry,xs,hx,hl,n8⟩:=U
     refine cR (qd (X:=aN X N a R P2.objs.size f H2 fp) _ s8 K H8 (.ref f.heap.objs.size) [y] (.ref f.heap.objs.size) [yv] (λ_ Y=>Nx K Y) I8 rfl (.cons ry .nil) ⟨_,xs,y,rfl,rfl,hx,hl,n8⟩) λ_ s9 U=> ?_
     obtain⟨z,H9,I9,_,q9⟩:=U
     exact again I9 q9
 exact codeAny_compStart_list a9 (T.self _ 0 _ _ _ (T.keep _ _ _ b5 λb _ o e=>Z b o e) a9)
section
variable{X:Cx}
def Eg:eV X (.builtin "isinstance") (λxs H Q=>∃x T t b,xs= [x,.ty T]/\qp X.K H x t/\PySem.W.kitOne X.K t (.type T)=some b/\Q (.bl b) H):=by
 intro a s f H xs g Q I r h
 obtain⟨x,T,t,b,rfl,ty,e,q⟩:=h
 obtain⟨u,c,rfl,rx,rt⟩:=vals2 r
 cases (show c=Value.type T from rt)
 exact DB I rx ty e λd=>⟨.bl b,H,I.tok d,rfl,q⟩
noncomputable def Ed:List V->List V->Bool
 | [],[]=>true
 |x::xs,y::ys=>rG x y&&Ed xs ys
 |_,_=>false
theorem w9:∀{xs ys:List V},xs.length≠ys.length->Ed xs ys=false
 | [],[],h=>absurd rfl h
 | [],_::_,_=>rfl
 |_::_,[],_=>rfl
 | x::xs,y::ys,h=>by
   have:=w9 (xs:=xs) (ys:=ys) λe=>h (by simp[e])
   show(rG x y&&Ed xs ys)=false
   rw[this,Bool.and_false]
theorem xo:∀{xs ys:List V},xs.length=ys.length->(List.range xs.length).all (λj=>rG (xs.getD j .non) (ys.getD j .non))=Ed xs ys
 | [],[],_=>rfl
 | [],_::_,h=>by cases h
 |_::_,[],h=>by cases h
 | x::xs,y::ys,h=>by
   have a:=xo (xs:=xs) (ys:=ys) (Nat.succ.inj h)
   rw[Qnq,List.range_succ_eq_map,List.all_cons,List.all_map]
   show(rG x y&&_)=(rG x y&&Ed xs ys)
   rw[←a]
   rfl
def Fz{A:Around}{s:Shared}{xs ys:List V}{a vs:List Value}(r:bH xs a)(d:bH ys vs)(f:xs.all gR=true)(f':ys.all gR=true)(j:Nat)(l:j<a.toArray.size)(i:j<vs.toArray.size):
  SeqAt.EqAt A s a.toArray[j] vs.toArray[j] (rG (xs.getD j .non) (ys.getD j .non)):=by
 have m:=r.length
 have k:=d.length
 have b:j<xs.length:=by rw[m];simpa using l
 have c:j<ys.length:=by rw[k];simpa using i
 obtain⟨u,p,g⟩:=r.get (gQe b)
 obtain⟨v,e,o⟩:=d.get (gQe c)
 have h:xs.getD j .non=xs[j]:=by rw[Qlq,gQe b];rfl
 have q:ys.getD j .non=ys[j]:=by rw[Qlq,gQe c];rfl
 have t:a.toArray[j]=u:=by
  have:=(gQs.mp p).2
  simpa using this
 have n:vs.toArray[j]=v:=by
  have:=(gQs.mp e).2
  simpa using this
 rw[t,n,h,q]
 exact EF g o (QUq.mp f _ (List.getElem_mem b)) (QUq.mp f' _ (List.getElem_mem c))
def La(K:PySem.W.Frag)(e:Bool):R2:=λx y H Q=>∃a b c d,x=.ref a/\y=.ref b/\iC K H a c/\iC K H b d/\c.all gR=true/\d.all gR=true/\Q (.bl (if e then !Ed c d else Ed c d)) H
def KD(l:X.A.units<cLine):je X (compareOp .Eq) (La X.K false):=by
 intro m s C H x y v u Q I t z h
 obtain⟨a,b,g,n,rfl,rfl,ha,hb,fa,fb,q⟩:=h
 cases t
 cases z
 obtain⟨d,r,o,F⟩:=I.list ha
 obtain⟨k,i,c,B⟩:=I.list hb
 by_cases hl:g.length=n.length
 ·have f:d.toArray.size=k.toArray.size:=by simp[←r.length,←i.length,hl]
  refine SeqAt.eq_listAt (e:=λj=>rG (g.getD j .non) (n.getD j .non)) o.isList c.isList f l (λj w p=>Fz r i fa fb j w p) ⟨.bl _,H,I,rfl,?_⟩
  rw[show d.toArray.size=g.length by simp[r.length],xo hl]
  exact q
 ·refine SeqAt.eq_list_lengthsAt o.isList c.isList (by simpa [←r.length,←i.length] using hl) l ⟨.bl _,H,I,rfl,?_⟩
  rw[←w9 hl]
  exact q
def Jy(m:X.A.units<cLine):je X (compareOp .NotEq) (La X.K true):=by
 intro n s F H x y v u Q I w B h
 obtain⟨a,b,f,l,rfl,rfl,ha,hb,fa,fb,q⟩:=h
 cases w
 cases B
 obtain⟨d,r,o,G⟩:=I.list ha
 obtain⟨k,i,c,C⟩:=I.list hb
 by_cases hl:f.length=l.length
 ·have g:d.toArray.size=k.toArray.size:=by simp[←r.length,←i.length,hl]
  refine SeqAt.RcNeAt.lists (e:=λj=>rG (f.getD j .non) (l.getD j .non)) o.isList c.isList g m (λj z t=>Fz r i fa fb j z t) _ _ _ _ ⟨.bl _,H,I,rfl,?_⟩
  rw[show d.toArray.size=f.length by simp[r.length],xo hl]
  exact q
 ·refine SeqAt.RcNeAt.lists_lengths o.isList c.isList (by simpa [←r.length,←i.length] using hl) m _ _ _ _ ⟨.bl _,H,I,rfl,?_⟩
  have p:Q (.bl (!Ed f l)) H:=q
  rw[w9 hl] at p
  exact p
end
section
variable{X:Cx}
def FU{bs:List Bool}{a:List Value}(r:bH (bs.map V.bl) a){i:Nat}{v:Value}(h:a.toArray[i]?=some v):v=.bool (bs.getD i false):=by
 have f:i<a.length:=by
  have:=(Array.getElem?_eq_some_iff.mp h).1
  simpa using this
 have l:=r.length
 rw[lQm] at l
 have b:i<bs.length:=by omega
 obtain⟨u,e,q⟩:=r.get (i:=i) (x:=V.bl bs[i]) (by rw[gQm,gQe b];rfl)
 have c:a[i]?=some v:=by simpa using h
 rw[e] at c
 cases c
 have d:bs.getD i false=bs[i]:=by rw[Qlq,gQe b];rfl
 rw[d]
 exact q
theorem zy:∀bs:List Bool,(List.range bs.length).all (λi=>bs.getD i false)=bs.all id
 | []=>rfl
 | b::bs=>by
   rw[Qnq,List.range_succ_eq_map,List.all_cons,List.all_map,List.all_cons,←zy bs]
   rfl
def LM(K:PySem.W.Frag)(f:List Bool->Bool):List V->Hp->VK->Prop:=λc H Q=>∃a b,c= [.ref a]/\iC K H a (b.map V.bl)/\Q (.bl (f b)) H
def C7(k:X.calm=true):eV X (.builtin "all") (LM X.K λbs=>bs.all id):=by
 intro g s p H x z Q I r h
 obtain⟨a,bs,rfl,ha,q⟩:=h
 obtain⟨u,rfl,rx⟩:=vals1 r
 cases (show u=Value.ref a from rx)
 obtain⟨c,j,f,C⟩:=I.list ha
 have hl:c.toArray.size=bs.length:=by have:=j.length;simp at this;simp[this]
 have d:a<s.heap.objs.size:=by obtain⟨o,e,_⟩:=f.isList;exact Qiq e
 refine call_all_walk (wpAny_pyIter_list f.isList ⟨s.heap.objs.size,_,_,_,_,_,λi=>bs.getD i false,rfl,Walks.list (A:=X.A.in1) (show X.A.in1.handled=none from I.ok.hd k) s.heap.objs.size a (Qwq d) c.toArray,⟨⟨_,Qrq _ rfl,rfl,rfl⟩,f.isList.at λo e=>Qcq _ e⟩,?_,λh' t n=> ?_⟩)
 ·intro i v y B w m l
  rw[FU j m]
  exact wpAny_truthy_bool l
 ·rw[hl,zy]
  refine⟨.bl _,H,I.kept (h':=h') λb o e=>n b o ?_ (Qcq _ e),rfl,q⟩
  have:=Qiq e
  simp
  exact Qwq this
end
end L2
namespace Dk
open PySem
def sQ:mroOf (Value.type "dict")=pure [Value.type "dict",Value.type "object"]:=by
 rw[mroOf_type]
 rfl
def rS:typeLookup (Value.type "dict") (Str.ofString "__new__")=pure (some (Value.builtin "dict.__new__")):=by
 rw[typeLookup_type,builtinLookup_eq_fast]
 rfl
def Ap:isSubtype (Value.type "dict") (Value.type "dict")=pure true:=by
 rw[isSubtype_type]
 rfl
def ik:plainId "dict.__new__"=true:=by decide +kernel
def di:TypeCalled "dict" "dict.__new__" "dict.__init__" where
 notType:=by decide +kernel
 canCreate:=by decide +kernel
 mro:=⟨_,_,sQ⟩
 made:=madeBy_type sQ rS (by decide +kernel)
 plain:=ik
 sub:=Ap
 init:=F.slot_dict_init
def rN(a:Value):checkTypeCall "dict" {pos:= [a]}=pure ():=by rfl
def ud(a:Value):checkBuiltinCall "dict.__new__" {pos:= [Value.type "dict",a]}=pure ():=by with_unfolding_all rfl
def uq:entryFor table "dict.__new__"=some Builtin.«dict.__new__»:=by rfl
def rV{prog:Program}{w:World}{A:Around}{E:Value->Shared->Prop}{s:Shared}(a:Value){Q₁:Value->Shared->Prop}
  (h:Q₁ (.ref s.heap.objs.size) {s with heap:=s.heap.push {cls:=.type "dict",data:=.dict #[]}}):
  codeAny (model prog w) A (.call (.builtin "dict.__new__") {pos:= [.type "dict",a]}) (wants Q₁ E) s:=by
 refine codeAny_of_tree ?_
 show wpAny _ _ (do checkBuiltinCall "dict.__new__" _;_) _ _ _
 refine Qaq (wpAny_of_eq (ud a) (Qgq ⟨plainId_quiet ik _,codeAny_builtin uq ?_⟩))
 rw[Around.under_plainId ik]
 refine Qaq (Qgq (QgQ rfl (Qaq (wpAny_of_eq Ap (QgQ rfl (Qaq (wpAny_of_eq sQ (QgQ ?_ ?_))))))))
 ·rfl
 ·refine Qaq ?_
  have e:newObj (.type "dict") (.dict #[])=newObjAsIs (.type "dict") (.dict #[]):=by
   unfold newObj
   simp
  rw[e]
  exact Qaq (wpAny_alloc (Qgq (Qgq h)))
def yZ{prog:Program}{w:World}{A:Around}{E:Value->Shared->Prop}{s:Shared}{a:Value}{Q:Value->Shared->Prop}
  (h:wpAny (model prog w) A.in1.in1 (Builtin.«dict.__init__» {pos:= [.ref s.heap.objs.size,a]})
   (λm l=>match m with|.done f=>wants (λr b=>r=.none/\Q (.ref s.heap.objs.size) b) E (.ok f) l|.again x=>x.quiet=true/\codeAny (model prog w) A.in1 x (wants (λr b=>r=.none/\Q (.ref s.heap.objs.size) b) E) l)
   (λe l=>wants (λr b=>r=.none/\Q (.ref s.heap.objs.size) b) E (.error e) l) {s with heap:=s.heap.push {cls:=.type "dict",data:=.dict #[]}}):
  wpAny (model prog w) A (call (.type "dict") [a]) Q E s:=by
 obtain⟨c,G,k⟩:=di.mro
 have i:=di.made
 have j:=di.sub
 refine wpAny_call (codeAny_of_tree ?_)
 refine Qgq ⟨Code.quiet_builtin _ (by decide +kernel),codeAny_builtin F.entry_type_call ?_⟩
 rw[Around.under_plain (weight_type_call_type "dict" [a] []) rfl]
 have C:=di.notType
 have y:=di.canCreate
 have u:=rN a
 unfold Builtin.«type.__call__»
 dsimp only
 refine QgQ rfl ?_
 refine QgQ (by rw[y];rfl) ?_
 refine Qaq (wpAny_of_eq u (Qaq (wpAny_of_eq k (QgQ rfl (Qaq (wpAny_of_eq i (Qaq (Qgq (Qaq (QLq (wpAny_call (codeAny_mono (rV (E:=E) (Q₁:=λv d=>v=.ref s.heap.objs.size/\d={s with heap:=s.heap.push {cls:=.type "dict",data:=.dict #[]}}) a ⟨rfl,rfl⟩) λr d g=> ?_))))))))))))
 cases r with
 |error e=>exact g
 | ok p=>
   cases p with
   | ret z=>
     obtain⟨rfl,rfl⟩:=g
     have B:=Qrq s.heap (o:={cls:=.type "dict",data:=.dict #[]}) rfl
     have t:Shared.TypeIs {s with heap:=s.heap.push {cls:=.type "dict",data:=.dict #[]}} (.ref s.heap.objs.size) "dict":=⟨_,B,rfl⟩
     have n:=di.init.lookup
     have q:=di.init.bind (.ref s.heap.objs.size)
     refine Qaq (wpAny_isInstance t j (QgQ rfl (Qaq (QLq ?_))))
     unfold callSpecial?
     refine Qaq (wpAny_specialOf t n (QLq (Qaq (wpAny_of_eq q (Qaq (wpAny_call (codeAny_mono (codeAny_call_builtin di.init.plain F.entry_dict_init (di.init.check _ _ _ _ _ [a] [] _ t (F.args_dict_init_2 _ _) h)) λr b g=> ?_)))))))
     cases r with
     |error e=>exact g
     | ok p=>
       cases p with
       | ret v=>
         obtain⟨rfl,hq⟩:=g
         exact Qgq (QgQ rfl (Qgq hq))
       |_=>exact g.elim
   |_=>exact g.elim
def kF:entryFor table "dict.update.loop"=some Builtin.«dict.update.loop»:=by rfl
def gN:plainId "dict.update.loop"=true:=by decide +kernel
section
variable{prog:Program}{w:World}{K:Type}[DecidableEq K]{knd:KeyKind prog w K}
def Bh(kvs:List (K×Value))(k:K)(v:Value):(stored kvs k v).length<=kvs.length+1:=by
 unfold stored
 split
 ·rw[lQm];omega
 ·rw[lQa];simp
noncomputable def KM(b:Nat->K)(a:Nat->Value):Nat->List (K×Value)
 |0=> []
 |i+1=>stored (KM b a i) (b i) (a i)
theorem CA(b:Nat->K)(a:Nat->Value):∀i,(KM b a i).length<=i
 |0=>Qmq _
 |i+1=>QAq (Bh _ _ _) (Nat.succ_le_succ (CA b a i))
end
end Dk
namespace L2
open PySem PySem.Spec PyProof.Rows
section
variable{X:Cx}
def key_is{k:Key}{u:Value}(r:RelV (kV k) u)(P:Program)(w:World):(bW P w).is k u=true:=by
 cases k with
 |inl i=>obtain⟨t,rfl⟩:=(show∃t,u=Value.int i t from r);simp[bW,rh,Value.isInt]
 |inr x=>obtain⟨t,rfl⟩:=(show∃t,u=Value.str x t from r);simp[bW,rh,Value.isStrOf]
end
end L2
namespace Dk
open PySem
end Dk
namespace L2
open PySem PySem.Spec PyProof.Rows
def HL{X:Cx}{N:List Str}{js:List (Option Nat)}{a:Scope}{Y:List (Str×Addr)}{tg M a6 K:Expr}{b0:List Expr}{pos b2:Pos}{wi:TI}{g gt:TG}{tt:TT}{te:TE}
  (S:aQ X N js a Y) (hc:X.calm=true) (hi:PI X tg M wi)
  (hg:∀C s H fp,PG (aN X N a Y C s H fp) tg g) (ht:∀C s H fp,nj (aN X N a Y C s H fp) b0 tt) (he:∀C s H fp,PE (aN X N a Y C s H fp) a6 te) (e2:PG X K gt)
  (hs:∀x,foldedSetIterable M X.env x=pure x:=by intro _;rfl) (d6:swapsWithSole [K] (.ListComp a6 [⟨tg,M,b0,0⟩] a pos) b2.line X.env=pure true:=by rfl)
  (h1:(assignEach [K] X.env).map (·.2)= [assign K X.env]:=by rfl):PS X (.Assign [K] (.ListComp a6 [⟨tg,M,b0,0⟩] a pos) b2) (D1 (FB js wi g tt te) gt):=by
 intro U s σ H Dn I h
 rw[exec_Assign_arm]
 refine Qaq (wpAny_standAt (Qaq (wpAny_of_eq d6 (wpAny_ite_true rfl (Qaq ?_)))))
 rw[h1]
 show wpAny _ _ (do let _←comprehension _ _ _ _ _ _ _ (some λv=>assignAll v [assign K X.env]);pure ()) _ _ _
 refine Qaq ?_
 refine wpAny_comprehension_free (use:=some λv=>assignAll v [assign K X.env]) rfl hs S.clos S.kind S.names (cR (hi U s σ H _ I h) λv s1 h1=>cR h1 λe4 k h2=> ?_)
 obtain⟨it,fp,tn,J,H2,e,t,T,b6,f2,hD⟩:=h2
 subst e
 refine QhQ (wpAny_newFunctionEnv S.nocell (by intro y hy;simp at hy) (λP L B=> ?_) S.kind)
 dsimp only at L B⊢
 generalize b4:k.heap.push {cls:=.type "list",dict:=none,data:=.seq ([]:List Value).toArray}=P2 at L B⊢
 have hC:P2.objs.size=k.heap.objs.size+1:=by rw[←b4,Heap.size_push]
 have d2:k.heap.objs.size≠P2.objs.size:=by rw[hC];exact Qwq (Nat.lt_succ_self _)
 have a2:k.heap.objs.size<=P2.objs.size:=by rw[hC];exact Nat.le_succ _
 have G:∀b,b<k.heap.objs.size->b≠P2.objs.size:=λb f=>by rw[hC];exact Qwq (Nat.lt_succ_of_lt f)
 have a1:∀b o,k.heap.get? b=some o->P.get? b=some o:=λb o e=>B.extBut b o (G b (Qiq e)) (Qcq _ (b4▸Qcq _ e))
 have b7:P.get? k.heap.objs.size=some {cls:=.type "list",dict:=none,data:=.seq ([]:List Value).toArray}:=B.extBut _ _ d2 (Qcq _ (b4▸Qrq _ rfl))
 have nD:H2 k.heap.objs.size=none:=t.fresh
 have nC:H2 P2.objs.size=none:=t.hok.fresh a2
 have b5:∀b∈fp,b<k.heap.objs.size:=λb f=>by
  obtain⟨o,e,_⟩:=T.obj _ _ b6 b f
  exact Qiq e
 obtain⟨W,⟨m0,w0⟩,c0⟩:=hD k.heap.objs.size nD
 have c6:(aN X N a Y P2.objs.size k H2 fp).Ok:=by
  refine⟨t.ok.mod,S.kind,t.ok.glob,t.ok.blt,a2,λx y c h1 h2=>t.ok.inj x y c (S.sub x c h1) (S.sub y c h2),S.has,(λx c h=>by cases h),t.ok.hd,t.ok.frames,.inl rfl,
   λb f=>⟨G b (b5 b f),λx c h=>(f2 b f).2.2.2.2.1 x c (S.sub x c h)⟩,t.bs,QAq t.ok.bsz t.sz,λb o e f=> ?_,λb f z=> ?_,t.stack,t.stkFree⟩
  ·rcases(f2 b f).2.2.2.1 with z|z
   ·exact t.ok.noex b o e z
   ·exact absurd (Qqq (Qqq (Qiq e) t.ok.bsz) z) (Nat.lt_irrefl _)
  ·rcases Qsq.mp (t.stkSub b z) with q|q
   ·exact(f2 b f).2.1 q
   ·exact(f2 b f).2.2.1 q
 have d1:cG X.prog X.w (upd H2 k.heap.objs.size (.lst [])) P k.heap.objs.size (.lst []):=⟨Nat.zero_le _,[],0,.nil,b7⟩
 have I4:Inv (aN X N a Y P2.objs.size k H2 fp) [] (kd js σ) (upd H2 k.heap.objs.size (.lst [])) {k with heap:=P,toks:=k.toks+([]:List (Str×Value)).length}:=by
  refine⟨c6,rfl,t.bare,Un.laid a1 (Qmq _) nD,⟨_,L,λi x v h1 h2 h3=> ?_⟩,λx c h=> ?_,by show upd H2 _ _ P2.objs.size=none;rw[bg d2.symm];exact nC,λx c h=> ?_,λp hp=>absurd (show p∈([]:List (Addr×Obj)) from hp) (by simp),t.hok.laid a1 (Qmq _) d1,by show(kd js σ).length=N.length;unfold kd;rw[lQm];exact S.len⟩
  ·unfold kd at h2
   rw[gQm] at h2
   cases e:js[i]? with
   |none=>rw[e] at h2;cases h2
   | some o=>
     rw[e] at h2
     cases o with
     |none=>cases h2
     | some j=>
       have a4:σ.getD j none=some v:=QdQ h2
       have hj:σ[j]?=some (some v):=by
         rw[Qlq] at a4
         cases q:σ[j]? with
         |none=>rw[q] at a4;cases a4
         |some y=>rw[q] at a4;exact congrArg some a4
       obtain⟨c1,c2,c3⟩:=S.cap i j x e h1
       obtain⟨m,hn,hl⟩:=t.loc
       have d9:IB X.env.scope x:=by
         rcases c2 with z|z
         · exact .inr (.inl z)
         · exact .inr (.inr z)
       obtain⟨u,r,l⟩:=hl j x v c1 hj d9
       refine⟨u,r,.inr ⟨c3,?_⟩⟩
       obtain⟨c,b8⟩:=S.has x c3
       refine⟨c,b8,?_⟩
       rcases l with⟨z,_⟩|⟨_,c',e',z⟩
       · rcases c2 with y|y <;>rw[y] at z <;>cases z
       · rw[S.sub x c b8] at e'
         cases e'
         obtain⟨o,ho,hd⟩:=z
         exact⟨o,a1 _ _ ho,hd⟩
  ·obtain⟨v,o,ho,hd⟩:=t.cell x c (S.sub x c h)
   exact⟨v,o,a1 _ _ ho,hd⟩
  ·obtain⟨v,o,ho,hd⟩:=t.cell x c (S.sub x c h)
   rw[bg (Qwq (Qiq ho))]
   exact t.freeC x c (S.sub x c h)
 have a3:∀{R:List (Addr×Obj)} {H':Hp},R= []->(∀b∈fp,H' b=none)->∀b∈fp,qg (aN X N a Y P2.objs.size k H2 fp) R H' b:=λ{R H'} ep hn b f=>by
  subst ep
  refine⟨hn b f,G b (b5 b f),λz=>c6.exfs b f z,.inl f,λx c h=>(f2 b f).2.2.2.2.1 x c (S.sub x c h),λp hp=>absurd (show p∈([]:List (Addr×Obj)) from hp) (by simp)⟩
 have b1:codeAny (model X.prog X.w) X.A (.compLoop (.ListComp a6 [⟨tg,M,b0,0⟩] a pos) 0 (.ref it) (.ref k.heap.objs.size) (compEnvC a Y P2.objs.size X.env))
   (compPost (model X.prog X.w) X.A X.xe (some λv=>assignAll v [assign K X.env]) (λ_ s9=>wpAny (model X.prog X.w) X.A (pure ()) (λ_ d5=>wpAny (model X.prog X.w) X.A (pure Flow.next) (SP X U Dn) X.xe d5) X.xe s9) (.ref k.heap.objs.size) P2.objs.size) {k with heap:=P,toks:=k.toks+([]:List (Str×Value)).length}:=by
  refine pk (λn s'=>∃i a5 H',Inv (aN X N a Y P2.objs.size k H2 fp) [] a5 H' s'/\tn i s'.heap/\(∀b∈fp,H' b=none)/\W i n a5 H') ?_ m0
   ⟨0,_,_,I4,T.keep _ _ _ b6 λb _ o e=>a1 b o e,λb f=>by rw[bg (Qwq (b5 b f))];exact(f2 b f).1,w0⟩
  rintro n s3 ⟨i,a7,H3,I3,b9,c5,w3⟩
  rcases c0 i n a7 H3 w3 with⟨stop,q⟩|⟨go,Nx,hN,c4⟩
  ·refine cR (T.done (aN X N a Y P2.objs.size k H2 fp) rfl rfl rfl hc i [] s3 a7 H3 _ I3 (a3 rfl c5) b9 stop) λr s4 Q=> ?_
   obtain⟨hr,I5⟩:=Q
   subst hr
   obtain⟨m,hn,_⟩:=id I5.loc
   have e0:∀h',Heap.SameBut P2.objs.size s4.heap h'->Inv X U σ H3 {s4 with heap:=h'}:=by
    intro h' Z
    have u:=I5.base
    have ne:∀b o,k.heap.get? b=some o->b≠P2.objs.size:=λb o e=>G b (Qiq e)
    refine t.call' (ch:=fp) I5.os ⟨λb o e n f hx=>(Z.2 b (ne b o e)).trans (u.keep b o e n f hx),λb o e n f hx=> ?_,u.free,λb o e hx=> ?_,u.tups,u.frzs,u.tbls⟩ (λb ob e=> ?_) I5.bare λb f=>⟨(f2 b f).2.2.2.1,(f2 b f).2.1,(f2 b f).2.2.2.2.1,(f2 b f).2.2.2.2.2⟩
    ·obtain⟨sl,e1⟩:=u.slot b o e n f hx
     exact⟨sl,(Z.2 b (ne b o e)).trans e1⟩
    ·obtain⟨o',e1⟩:=u.there b o e hx
     exact⟨o',(Z.2 b (ne b o e)).trans e1⟩
    ·refine(I5.hok b ob e).stay (λc w' hc q=>(Z.2 c ?_).trans q) (λ_ q=>q) λ_ _ q=>q
     have fC:H3 P2.objs.size=none:=I5.free
     rintro rfl
     rcases hc with z|z
     ·rw[←z,fC] at e;cases e
     ·rw[fC] at z;cases z
   have IX:=e0 s4.heap ⟨rfl,λ_ _=>rfl⟩
   have a9:qg X U H3 P2.objs.size:=t.fpOk a2 I5.free
   obtain⟨oC,es,ep,d3,d4,e3⟩:=hn
   have IP:=IX.pinned (fp:= [P2.objs.size]) (λb f=>by rw[Qfq] at f;rw[f];exact a9) (λb f=>by rw[Qfq] at f;rw[f];exact⟨oC,d3,λv=>by rw[d4];simp⟩)
   show wpAny _ _ (assignAll (.ref k.heap.objs.size) [assign K X.env]) _ _ _
   rw[assignAll.eq_2]
   refine cR (e2 _ s4 σ H3 (.ref k.heap.objs.size) (.ref k.heap.objs.size) _ IP rfl q) λ_ s6 Q=> ?_
   obtain⟨F,H6,I6,q6⟩:=Q
   have pC:=I6.pin (P2.objs.size,oC) (Qoq _ (Qoq _ (dt (Qfq.mpr rfl) d3)))
   refine⟨m,⟨oC,es,ep,pC.1,d4,e3⟩,λh' Z=>Qgq (Qgq ⟨F,H6,?_,q6⟩)⟩
   exact I6.unpinned.turned (it:=P2.objs.size) (t':=s6.toks) (λb o' f e=>(Z.2 b f).trans e) pC.2.1 pC.2.2.1 a9.2.2.2.1 a9.2.2.2.2.1 a9.2.2.2.2.2
  ·refine cR (T.item (aN X N a Y P2.objs.size k H2 fp) rfl rfl rfl hc i [] s3 a7 H3 _ I3 (a3 rfl c5) b9 go) λr s4 Q=> ?_
   obtain⟨u,hr,h4⟩:=Q
   subst hr
   refine cR h4 λ_ s5 Q=> ?_
   obtain⟨x,H5,I5,r5,y5,b3,d8⟩:=Q
   have d7:=I5.pinned (a3 rfl d8) (T.obj _ _ b3)
   refine cR (hg P2.objs.size k H2 fp _ s5 a7 H5 x u _ d7 r5 (c4 x H5 y5)) λ_ s6 Q=> ?_
   obtain⟨F,H6,I6,q6⟩:=Q
   refine cR (ht P2.objs.size k H2 fp _ s6 F H6 _ I6 q6) λok s7 Q=> ?_
   obtain⟨H7,I7,q7⟩:=Q
   have again:∀{s8:Shared} {H8:Hp},Inv (aN X N a Y P2.objs.size k H2 fp) ([]++nV fp s5.heap) F H8 s8->Nx F H8->∃m,m<n/\∃i a5 H',Inv (aN X N a Y P2.objs.size k H2 fp) [] a5 H' s8/\tn i s8.heap/\(∀b∈fp,H' b=none)/\W i m a5 H':=λ{s8 H8} I8 n8=>by
    obtain⟨m',hm,w8⟩:=hN F H8 n8
    refine⟨m',hm,i+1,F,H8,I8.unpinned,T.keep _ _ _ b3 λb f o e=>(I8.pin (b,o) (Qoq _ (Qoq _ (dt f e)))).1,λb f=> ?_,w8⟩
    obtain⟨o,e,d⟩:=T.obj _ _ b3 b f
    exact(I8.pin (b,o) (Qoq _ (Qoq _ (dt f e)))).2.1
   cases ok with
   |false=>exact again I7 q7
   | true=>
     refine cR (he P2.objs.size k H2 fp _ s7 F H7 _ I7 q7) λyv s8 Q=> ?_
     obtain⟨y,H8,I8,ry,xs,hx,hl,n8⟩:=Q
     refine cR (qd (X:=aN X N a Y P2.objs.size k H2 fp) _ s8 F H8 (.ref k.heap.objs.size) [y] (.ref k.heap.objs.size) [yv] (λ_ H'=>Nx F H') I8 rfl (.cons ry .nil) ⟨_,xs,y,rfl,rfl,hx,hl,n8⟩) λ_ s9 Q=> ?_
     obtain⟨z,H9,I9,_,q9⟩:=Q
     exact again I9 q9
 exact codeAny_compStart_list b1 (T.self _ 0 _ _ _ (T.keep _ _ _ b6 λb _ o e=>a1 b o e) b1)
end L2
namespace Dk
open PySem
end Dk
namespace L2
open PySem PySem.Spec PyProof.Rows
section
variable{X:Cx}
def GT(K:PySem.W.Frag):List V->Hp->VK->Prop:=λd H Q=>∃(a:Addr) (c:List Str),d= [.ref a]/\iC K H a (c.map V.str)/\c.length<64/\∀(l:Addr) (b:List Str),H l=none->sortedS b=true->b.Perm c->Q (.ref l) (upd H l (.lst (b.map V.str)))
theorem vp:∀{ys:List Str} {a:List Value},bH (ys.map V.str) a->StrsAre a ys
 | [],_,r=>by cases r;exact .nil
 | y::ys,_,r=>by
   cases r with
   | cons h t=>
     obtain⟨b,rfl⟩:=h
     exact .cons y b (vp t)
def xq{a:List Str}{vs:List Value}(h:StrsAre vs a):bH (a.map V.str) vs:=by
 induction h with
 |nil=>exact .nil
 |cons y t _ b=>exact .cons ⟨t,rfl⟩ b
def wG:eV X (.builtin "sorted") (GT X.K):=by
 intro k s y H z A Q I r h
 obtain⟨a,m,rfl,ha,h64,q⟩:=h
 obtain⟨u,rfl,rx⟩:=vals1 r
 cases (show u=Value.ref a from rx)
 obtain⟨d,l,x,B⟩:=I.list ha
 have v:d.length=m.length:=by have:=l.length;simpa using this.symm
 have g:s.heap.objs.size<=s.heap.objs.size+1:=Nat.le_succ _
 refine sorted_strs x.isList (vp l) (by omega) λc f n j w=> ?_
 obtain⟨e,t⟩:=sortedAll_at s.heap d c
 have i:f.length=m.length:=j.length_eq
 refine⟨.ref (s.heap.objs.size+1),_,I.laid (a:=s.heap.objs.size+1) (o:=.lst (f.map V.str)) (h':=sortedAll s.heap d c) (t':=s.toks) (λb o p=> ?_) g ⟨?_,c.toList,e,xq n,?_⟩,rfl,q _ f (I.hok.fresh g) w j⟩
 ·exact sortedAll_old p
 ·rw[lQm,i]
  exact QAq (nQl h64) (by decide)
 ·simpa using t
end
end L2
namespace Zp
open PySem
section
variable{prog:Program}{w:World}{A:Around}{E:Value->Shared->Prop}{s:Shared}
def Mq{i t:Addr}{k:Nat}{vs:Array Value}{v:Value}{Q:Value->Shared->Prop}(c:s.heap.IsTupleIter i t k)(e:s.heap.IsTuple t vs)(g:vs[k]?=some v)
  (q:∀h',h'.IsTupleIter i t (k+1)->Heap.SameBut i s.heap h'->Q v {s with heap:=h'}):wpAny (model prog w) A (Builtin.SmallTypes.nextOf (.ref i)) Q E s:=by
 obtain⟨l,b,h,a⟩:=id c
 obtain⟨j,d,_,m,f⟩:=e
 unfold Builtin.SmallTypes.nextOf
 refine Qaq (QiQ (name:=Str.ofString "__next__") c.typeIs F.slot_tuple_iterator_next (wpAny_call_entry F.slot_tuple_iterator_next c.typeIs F.entry_tuple_iterator_next ?_ (F.args_tuple_iterator_next_1 _)))
 refine(?_:wpAny _ _ (field (.ref i) 0 >>= _) _ _ s)
 refine Qaq (QMq b a (x:=.ref t) rfl ?_)
 refine(?_:wpAny _ _ (if (Value.ref t==Value.none)=true then _ else _) _ _ s)
 rw[Quq (λz=>by cases (show false=true from z))]
 refine(?_:wpAny _ _ (field (.ref i) 1 >>= _) _ _ s)
 refine Qaq (QMq b a (x:=.int k 0) rfl ?_)
 refine(?_:wpAny _ _ (seqItems? (.ref t) >>= _) _ _ s)
 refine Qaq (wpAny_seqItems d f ?_)
 simp only[Int.toNat_natCast,g]
 refine Qaq (wpAny_setField b a (by simp) (Qgq ⟨v,rfl,Qgq (q _ ⟨_,Heap.get?_update_self _ b (Obj.isFreed_of_fields (Obj.data_mapFields a _)),(Obj.cls_mapFields ..).trans h,?_⟩ (Heap.SameBut.update ..))⟩))
 rw[Obj.data_mapFields a]
 simp[rawInt]
def M6{i t:Addr}{k:Nat}{vs:Array Value}{Q:Value->Shared->Prop}(f:A.handled=none)(d:s.heap.IsTupleIter i t k)(h:s.heap.IsTuple t vs)(l:vs[k]?=none)
  (q:∀h' e,Heap.ExtBut i s.heap h'->(∃o,h'.get? e=some o/\o.cls=.type "StopIteration")->E (.ref e) {s with heap:=h'}):wpAny (model prog w) A (Builtin.SmallTypes.nextOf (.ref i)) Q E s:=by
 obtain⟨p,b,u,c⟩:=id d
 obtain⟨n,g,_,r,j⟩:=h
 unfold Builtin.SmallTypes.nextOf
 refine Qaq (QiQ (name:=Str.ofString "__next__") d.typeIs F.slot_tuple_iterator_next (wpAny_call_entry F.slot_tuple_iterator_next d.typeIs F.entry_tuple_iterator_next ?_ (F.args_tuple_iterator_next_1 _)))
 refine(?_:wpAny _ _ (field (.ref i) 0 >>= _) _ _ s)
 refine Qaq (QMq b c (x:=.ref t) rfl ?_)
 refine(?_:wpAny _ _ (if (Value.ref t==Value.none)=true then _ else _) _ _ s)
 rw[Quq (λz=>by cases (show false=true from z))]
 refine(?_:wpAny _ _ (field (.ref i) 1 >>= _) _ _ s)
 refine Qaq (QMq b c (x:=.int k 0) rfl ?_)
 refine(?_:wpAny _ _ (seqItems? (.ref t) >>= _) _ _ s)
 refine Qaq (wpAny_seqItems g j ?_)
 simp only[Int.toNat_natCast,l]
 refine Qaq (wpAny_rule (Qaq (wpAny_setField b c (by simp) ?_)))
 refine(?_:wpAny _ _ (newExc (.type "StopIteration") [] >>= _) _ _ _)
 refine Qaq ?_
 simp only[newExc,newTuple]
 refine Qaq (QhQ ?_ (by size_fits))
 refine Qaq (m:=firstArgMember _ _) (wpAny_of_eq (a:=Value.none) (by first|rfl|(simp only[firstArgMember];rfl)) (QhQ ?_ (by size_fits)))
 simp only[raiseNew]
 refine Qaq (wpAny_handled ?_)
 first|rw[show A.in1.handled=none from f]|rw[f]
 exact Qaq (Qgq (wpAny_throw (q _ _ (((Heap.SameBut.update ..).extBut.push _).push _) ⟨_,Qrq _ rfl,rfl⟩)))
end
def Rest(z O i j:Addr)(h h':Heap):Prop:=∀c o,c≠z->c≠O->c≠i->c≠j->h.get? c=some o->h'.get? c=some o
end Zp
namespace L2
open PySem PySem.Spec PyProof.Rows
section
variable{X:Cx}{pins:List (Addr×Obj)}{σ:St}{H:Hp}{s:Shared}{h':Heap}
def Inv.turnedL{t':Nat}{fp:List Addr}(I:Inv X pins σ H s)(d:∀b∈fp,qg X pins H b)(k:∀b o,b∉fp->s.heap.get? b=some o->h'.get? b=some o):Inv X pins σ H {s with heap:=h',toks:=t'}:=by
 have f:∀b u,H b=some u->b∉fp:=λb u e z=>by rw[(d b z).1] at e;cases e
 refine I.step (g':=s.gens) (d':=s.drawn) (ch:=fp) (λb g=>⟨(d b g).2.2.2.1,(d b g).2.1,(d b g).2.2.2.2.1,(d b g).2.2.2.2.2⟩) (λb o _ _ a e _=>k b o a e) (λb o _ _ a e _=>⟨o.slots,k b o a e⟩) (λ_ _ _ _ n=>n)
  (λb o a e=>⟨o,k b o a e⟩) (λ_ _ e=>e) (λ_ _ _ e=>e) (λb p e=>⟨#[],by rw[e];simp⟩) (λm l=> ?_) (λb u e=> ?_) I.bare
 ·obtain⟨o,j,h,i,r⟩:=l
  exact⟨o,j,h,k _ o (λz=>(d _ z).2.1 rfl) i,r⟩
 ·refine(I.hok b u e).stay (λc v a q=>k c v ?_ q) (λ_ q=>q) λ_ _ q=>q
  rcases a with z|z
  ·rw[z];exact f b u e
  ·exact f c _ z
def Inv.turnedNew{t':Nat}{fp:List Addr}{p:Addr}{o:HO}(I:Inv X pins σ H s)(f:∀b∈fp,qg X pins H b)(k:∀b u,b∉fp->s.heap.get? b=some u->h'.get? b=some u)(i:s.heap.objs.size<=p)
  (new:cG X.prog X.w (upd H p o) h' p o):Inv X pins σ (upd H p o) {s with heap:=h',toks:=t'}:=by
 have j:=I.hok.fresh i
 have g:∀b u,H b=some u->b∉fp:=λb u e z=>by rw[(f b z).1] at e;cases e
 have h:∀b u,H b=some u->upd H p o b=some u:=λb u e=>by rw[bg (ft e j)];exact e
 refine I.step (g':=s.gens) (d':=s.drawn) (ch:=fp) (λb d=>⟨(f b d).2.2.2.1,(f b d).2.1,(f b d).2.2.2.2.1,(f b d).2.2.2.2.2⟩) (λb o _ _ a e _=>k b o a e) (λb o _ _ a e _=>⟨o.slots,k b o a e⟩)
  (λb u _ e n=>by rw[bg (λz=>Nat.lt_irrefl _ (Qqq (Qiq e) (by rw[z];exact i)))];exact n)
  (λb o a e=>⟨o,k b o a e⟩) (λb A e=>h b _ e) (λb u v e=>h b _ e) (λb B e=>⟨#[],by rw[h b _ e];simp⟩) (λm y=> ?_) (λb u e=> ?_) I.bare
 ·obtain⟨o,x,l,t,r⟩:=y
  exact⟨o,x,l,k _ o (λz=>(f _ z).2.1 rfl) t,r⟩
 ·by_cases d:b=p
  ·subst d
   rw[bC] at e
   cases e
   exact new
  ·rw[bg d] at e
   refine(I.hok b u e).stay (λc v a q=>k c v ?_ q) (λc q=>h c _ q) λc _ q=>h c _ q
   rcases a with z|z
   ·rw[z];exact g b u e
   ·exact g c _ z
end
end L2
namespace Zp
open PySem PySem.W PyProof.Rows
noncomputable def sJ(n:Nat):KasT (Array Nat)->Bool
 |.ret _=>true
 |.ask i j k=>decide (i<n)&&decide (j<n)&&decide (i≠j)&&sJ n (k true)&&sJ n (k false)
end Zp
namespace L2
open PySem PySem.Spec PyProof.Rows
mutual
inductive qE(N:Addr->Prop)(H:Hp):PyData->V->Prop
 |non:qE N H .none .non
 |bl (b:Bool):qE N H (.bool b) (.bl b)
 |int (i:Int):qE N H (.int i) (.int i)
 |str (x:Str):qE N H (.str x) (.str x)
 |tup {a:Addr} {us:List V} {xs:List PyData}:H a=some (.tup us)->qS N H xs us->qE N H (.tuple xs) (.ref a)
 |lst {a:Addr} {us:List V} {xs:List PyData}:H a=some (.lst us)->N a->qS N H xs us->qE N H (.list xs) (.ref a)
 |dct {a:Addr}:H a=some (.dK [])->qE N H (.dict []) (.ref a)
inductive qS(N:Addr->Prop)(H:Hp):List PyData->List V->Prop
 |nil:qS N H [] []
 |cons {x:PyData} {u:V} {xs:List PyData} {us:List V}:qE N H x u->qS N H xs us->qS N H (x::xs) (u::us)
end
section
variable{X:Cx}
mutual
theorem pO{g:List (Addr×Obj)}{z:St}{H:Hp}{s:Shared}{N:Addr->Prop}(I:Inv X g z H s)(l:∀a,N a->a≠sysModules):∀{d:PyData} {v:V} {u:Value},qE N H d v->RelV v u->∃as,Reads s.heap u d as/\sysModules∉as
 |_,_,_,.non,r=>by cases r;exact⟨_,.none,by simp⟩
 |_,_,_,.bl b,r=>by cases r;exact⟨_,.bool b,by simp⟩
 |_,_,_,.int i,r=>by obtain⟨t,rfl⟩:=r;exact⟨_,.int i t,by simp⟩
 |_,_,_,.str x,r=>by obtain⟨t,rfl⟩:=r;exact⟨_,.str x t,by simp⟩
 | _,_,_,.tup (a:=a) h hs,r=>by
   cases r
   obtain⟨m,k,⟨o,f,c,n,j⟩,F⟩:=I.tuple (gH.of h)
   obtain⟨as,q,p⟩:=jo I l hs k
   exact⟨as,.tuple f c j (by simpa using q),p⟩
 | _,_,_,.lst (a:=a) h n hs,r=>by
   cases r
   obtain⟨m,k,K,F⟩:=I.list (iC.of h)
   obtain⟨o,f,c,M,j⟩:=K.isList
   obtain⟨as,q,p⟩:=jo I l hs k
   exact⟨_,.list f c j (by simpa using q),by rw[Qsq];exact λe=>e.elim (λe=>l _ n e.symm) p⟩
 | _,_,_,.dct (a:=a) h,r=>by
   cases r
   obtain⟨_,y,P,J,C⟩:=zZ I.hok h
   cases J
   obtain⟨o,G,L,f,B,c,_,A,_⟩:=C
   have w:G.toList= []:=List.eq_nil_of_length_eq_zero A.length
   exact⟨_,.dict (as:= []) (bs:= []) (kvs:= []) f B.1 c (by rw[w];exact .nil) (by rw[w];exact .nil),by
     simp
     intro e
     rw[e] at y
     simp at y⟩
theorem jo{b:List (Addr×Obj)}{g:St}{H:Hp}{s:Shared}{N:Addr->Prop}(I:Inv X b g H s)(d:∀a,N a->a≠sysModules):∀{xs:List PyData} {c:List V} {vs:List Value},qS N H xs c->bH c vs->∃as,ReadsAll s.heap vs xs as/\sysModules∉as
 |_,_,_,.nil,r=>by cases r;exact⟨_,.nil,by simp⟩
 | _,_,_,.cons h hs,r=>by
   cases r with
   | cons r j=>
     obtain⟨as,l,k⟩:=pO I d h r
     obtain⟨m,f,i⟩:=jo I d hs j
     exact⟨_,.cons l f,by rw[mQa];exact λe=>e.elim k i⟩
end
end
section
variable{X:Cx}
def G3:je X (binaryOp .Mult) (rI IntMulOk λi j=>.int (i*j)):=Nm λ_ _ _ _ _ _ _ a q=>mul_int q a
theorem qm:∀{rs:List Addr} {b:List Value},bH (rs.map V.ref) b->b=rs.map Value.ref
 | [],_,r=>by cases r;rfl
 | a::rs,_,r=>by
   cases r with
   | cons h t=>
     cases h
     rw[qm t]
     rfl
theorem uC:∀(rs:List Addr),bH (rs.map V.ref) (rs.map Value.ref)
 | []=>.nil
 |a::rs=>.cons rfl (uC rs)
end
section
variable{X:Cx}
def Gm(K:PySem.W.Frag):R2:=λx y H Q=>∃a b c,x=.ref a/\y=.ref b/\iC K H a c/\iC K H b []/\Q (.bl (!c.isEmpty)) H
def FX(e:X.A.units<cLine):je X (compareOp .NotEq) (Gm X.K):=by
 intro c s i H x y v u Q I f g h
 obtain⟨a,b,l,rfl,rfl,ha,hb,q⟩:=h
 cases l with
 |nil=>exact Jy e c s i H _ _ v u Q I f g ⟨a,b,[],[],rfl,rfl,ha,hb,rfl,rfl,q⟩
 | cons z B=>
   cases f
   cases g
   obtain⟨p,r,t,w⟩:=I.list ha
   obtain⟨n,m,d,o⟩:=I.list hb
   have k:=r.length
   have j:=m.length
   exact SeqAt.RcNeAt.lists_lengths t.isList d.isList (by simp[←k,←j]) e _ _ _ _ ⟨.bl true,H,I,rfl,q⟩
end
end L2
namespace HT
open PySem PySem.Spec PyProof.Rows
section
variable{prog:Program}{w:World}{A:Around}{E:Value->Shared->Prop}{s:Shared}
def mP{t b:Addr}{items:Array Value}{g j:Value}{lo hi:Option Int}{Q:Value->Shared->Prop}(ht:IsTup s.heap t items)(i:s.heap.IsSliceOf b g j .none)(p:IsPart g lo)(n:IsPart j hi)
  (f:dN items.size 0 lo=0/\dN items.size items.size hi=items.size) (h:Q (.ref t) s):wpAny (model prog w) A (getItem (.ref t) (.ref b)) Q E s:=by
 obtain⟨l,e,c,o⟩:=id i
 have d:s.TypeIs (.ref b) "slice":=⟨l,e,c⟩
 unfold getItem
 try with_reducible refine QLq ?_
 first|refine Qaq (Qgq ?_)|skip
 refine Qaq (wpAny_sequenceKey ht.typeIs (by decide) ?_)
 refine Qaq (QiQ (name:=Str.ofString "__getitem__") ht.typeIs PyProof.Rows.slot_tuple_getitem
  (wpAny_call_entry PyProof.Rows.slot_tuple_getitem ht.typeIs entry_tuple_getitem ?_ (args_tuple_getitem _ _)))
 show wpAny _ _ (Builtin.Tuple.tupleItemsOf (.ref t) >>= _) _ _ s
 refine Qaq (tupleItemsOf_ ht ?_)
 refine Qaq (wpAny_typeOf d ?_)
 rw[Qhq (by decide)]
 refine Qaq (jv i p n ?_)
 have a:(((dN items.size 0 lo:Nat):Int)==0&&(1:Int)==1&&(dN items.size items.size hi-dN items.size 0 lo)==items.size)=true:=by
  rw[f.1,f.2]
  simp
 show wpAny _ _ (if (((dN items.size 0 lo:Nat):Int)==0&&(1:Int)==1&&(dN items.size items.size hi-dN items.size 0 lo)==items.size)=true then _ else _) _ _ s
 rw[Qhq a]
 have k:∀{A:Around} {E:Value->Shared->Prop} {R:Bool->Shared->Prop},R true s->wpAny (model prog w) A (Builtin.Tuple.tupleIsExact (.ref t)) R E s:=λ{A E R} h=>by
  unfold Builtin.Tuple.tupleIsExact
  exact Qaq (wpAny_typeOf ht.typeIs (Qgq h))
 refine Qaq (m:=Builtin.Tuple.tupleIsExact _) (k ?_)
 rw[Qhq rfl]
 refine Qaq (wpAny_rule ?_)
 exact Qgq ⟨_,rfl,Qgq h⟩
end
end HT
namespace L2
open PySem PySem.Spec PyProof.Rows
def OA(K:PySem.W.Frag):V->Option Int->Option Int->Hp->VK->Prop:=λx c d H Q=>∃a b,x=.ref a/\gH K H a b∧
 (HT.dN b.length 0 c=0/\HT.dN b.length b.length d=b.length->Q (.ref a) H)/\(¬(HT.dN b.length 0 c=0/\HT.dN b.length b.length d=b.length)->∀p,H p=none->Q (.ref p) (upd H p (.tup (wB b c d))))
def GS{X:Cx}:Nn X (OA X.K):=by
 intro c s p H x v q t j n o Q I g l m k h
 obtain⟨a,b,rfl,hx,q1,q2⟩:=h
 by_cases e:HT.dN b.length 0 j=0/\HT.dN b.length b.length n=b.length
 ·cases g
  obtain⟨f,r,i,u⟩:=I.tuple hx
  have d:f.toArray.size=b.length:=by rw[Qjq];exact r.length.symm
  refine⟨"tuple",_,PyProof.Rows.slot_tuple_getitem.lookup,i.typeIs,?_⟩
  exact HT.mP i l m k (by rw[d];exact e) ⟨.ref a,H,I,rfl,q1 e⟩
 ·exact Kj c s p H _ v q t j n o Q I g l m k ⟨a,b,rfl,hx,e,q2 e⟩
end L2
namespace DL
open PySem PySem.Spec PyProof.Rows L2
inductive D where
 |non|bl (b:Bool)|int (i:Int)|str (x:Str)|tup (xs:List D)|ref (k:Nat)|fn (x:Str)
inductive O where
 |lst (xs:List D)|frz (xs:List D)|dct (kvs:List (Key×D))
abbrev aF:=List O
abbrev cq:=List (Option D)
structure Md where
 K:PySem.W.Frag
 mg:Str->Option Value
mutual
inductive Rel(M:Md)(ρ:List Addr)(H:Hp):D->V->Prop
 |non:Rel M ρ H .non .non
 |bl (b:Bool):Rel M ρ H (.bl b) (.bl b)
 |int (i:Int):Rel M ρ H (.int i) (.int i)
 |str (x:Str):Rel M ρ H (.str x) (.str x)
 |tup {a:Addr} {vs:List V} {ds:List D}:H a=some (.tup vs)->bf M ρ H ds vs->Rel M ρ H (.tup ds) (.ref a)
 |ref {k:Nat} {a:Addr}:ρ[k]?=some a->Rel M ρ H (.ref k) (.ref a)
 |fn {x:Str} {a:Addr}:M.mg x=some (.ref a)->Rel M ρ H (.fn x) (.ref a)
inductive bf(M:Md)(ρ:List Addr)(H:Hp):List D->List V->Prop
 |nil:bf M ρ H [] []
 |cons {d:D} {v:V} {ds:List D} {vs:List V}:Rel M ρ H d v->bf M ρ H ds vs->bf M ρ H (d::ds) (v::vs)
end
section
variable{M:Md}{ρ ρ':List Addr}{H H':Hp}
def Pf:HO->Prop
 |.tup _=>True
 |.frz _ _=>True
 |_=>False
structure bX(ρ:List Addr)(H:Hp)(ρ':List Addr)(H':Hp):Prop where
 pre:ρ <+: ρ'
 new:∀a∈ρ',a∈ρ\/H a=none
 keep:∀a o,H a=some o->a∉ρ\/Pf o->H' a=some o
 grow:∀a,H' a=none->H a=none
def bX.refl:bX ρ H ρ H:=⟨List.prefix_refl _,λ_ h=>.inl h,λ_ _ h _=>h,λ_ h=>h⟩
def bX.trans{b d:List Addr}{H1 H2:Hp}(e:bX ρ H b H1)(f:bX b H1 d H2):bX ρ H d H2 where
 pre:=e.pre.trans f.pre
 new:=λa h=>(f.new a h).elim (λh=>e.new a h) λh=>.inr (e.grow a h)
 keep:=λa o h c=>f.keep a o (e.keep a o h c) (c.imp (λn m=>(e.new a m).elim n λz=>by rw[z] at h;cases h) id)
 grow:=λa h=>e.grow a (f.grow a h)
def bX.laid{a:Addr}{o:HO}(h:H a=none):bX ρ H ρ (upd H a o) where
 pre:=List.prefix_refl _
 new:=λ_ h=>.inl h
 keep:=λb c e _=>by rw[bg];exact e;intro z;subst z;rw[h] at e;cases e
 grow:=λb e=>by
  by_cases z:b=a
  ·subst z;exact h
  ·rw[bg z] at e;exact e
theorem jN{α:Type}:∀{l:List α},l.Nodup->∀{i j:Nat} {a:α},l[i]?=some a->l[j]?=some a->i=j
 | [],_,_,_,_,h,_=>by simp at h
 |x::l,n,0,0,_,_,_=>rfl
 | x::l,n,0,j+1,a,h1,h2=>by
   rw[List.nodup_cons] at n
   simp at h1 h2
   subst h1
   exact absurd (mQg h2) n.1
 | x::l,n,i+1,0,a,h1,h2=>by
   rw[List.nodup_cons] at n
   simp at h1 h2
   subst h2
   exact absurd (mQg h1) n.1
 | x::l,n,i+1,j+1,a,h1,h2=>by
   rw[List.nodup_cons] at n
   simp at h1 h2
   exact congrArg (·+1) (jN n.2 h1 h2)
def cc{α e:Type}{a c:α}{b d:e}(h:some (a,b)=some (c,d)):a=c/\b=d:=by cases h;exact⟨rfl,rfl⟩
def du{α:Type}{l b:List α}(h:l <+: b){k:Nat}{a:α}(e:l[k]?=some a):b[k]?=some a:=by
 obtain⟨t,rfl⟩:=h
 rw[QHq (gQs.mp e).1]
 exact e
mutual
theorem Rel.ext(e:bX ρ H ρ' H'):∀{d:D} {v:V},Rel M ρ H d v->Rel M ρ' H' d v
 |_,_,.non=>.non
 |_,_,.bl b=>.bl b
 |_,_,.int i=>.int i
 |_,_,.str x=>.str x
 |_,_,.tup h hs=>.tup (e.keep _ _ h (.inr trivial)) (bf.ext e hs)
 |_,_,.ref h=>.ref (du e.pre h)
 |_,_,.fn h=>.fn h
theorem bf.ext(e:bX ρ H ρ' H'):∀{ds:List D} {vs:List V},bf M ρ H ds vs->bf M ρ' H' ds vs
 |_,_,.nil=>.nil
 |_,_,.cons h hs=>.cons (Rel.ext e h) (bf.ext e hs)
end
mutual
theorem Rel.pre(e:ρ <+: ρ'):∀{d:D} {v:V},Rel M ρ H d v->Rel M ρ' H d v
 |_,_,.non=>.non
 |_,_,.bl b=>.bl b
 |_,_,.int i=>.int i
 |_,_,.str x=>.str x
 |_,_,.tup h hs=>.tup h (bf.pre e hs)
 |_,_,.ref h=>.ref (du e h)
 |_,_,.fn h=>.fn h
theorem bf.pre(e:ρ <+: ρ'):∀{ds:List D} {vs:List V},bf M ρ H ds vs->bf M ρ' H ds vs
 |_,_,.nil=>.nil
 |_,_,.cons h hs=>.cons (Rel.pre e h) (bf.pre e hs)
end
theorem bf.length:∀{ds:List D} {vs:List V},bf M ρ H ds vs->ds.length=vs.length
 |_,_,.nil=>rfl
 |_,_,.cons _ h=>congrArg (·+1) h.length
theorem bf.append:∀{ds a:List D} {vs ws:List V},bf M ρ H ds vs->bf M ρ H a ws->bf M ρ H (ds++a) (vs++ws)
 |_,_,_,_,.nil,h=>h
 |_,_,_,_,.cons h hs,h'=>.cons h (hs.append h')
theorem bf.get:∀{ds:List D} {vs:List V} {i:Nat} {d:D},bf M ρ H ds vs->ds[i]?=some d->∃v,vs[i]?=some v/\Rel M ρ H d v
 |_,_,0,_,.cons h _,e=>by cases e;exact⟨_,rfl,h⟩
 |_,_,i+1,_,.cons _ hs,e=>hs.get (i:=i) (by simpa using e)
 |_,_,_,_,.nil,e=>by simp at e
theorem bf.set{d:D}{v:V}(h:Rel M ρ H d v):∀{ds:List D} {vs:List V} (i:Nat),bf M ρ H ds vs->bf M ρ H (ds.set i d) (vs.set i v)
 |_,_,_,.nil=>.nil
 |_,_,0,.cons _ t=>.cons h t
 |_,_,i+1,.cons q t=>.cons q (bf.set h i t)
theorem bf.take:∀{ds:List D} {vs:List V} (n:Nat),bf M ρ H ds vs->bf M ρ H (ds.take n) (vs.take n)
 |_,_,0,_=>.nil
 |_,_,_+1,.nil=>.nil
 |_,_,n+1,.cons h hs=>.cons h (hs.take n)
theorem bf.drop:∀{ds:List D} {vs:List V} (n:Nat),bf M ρ H ds vs->bf M ρ H (ds.drop n) (vs.drop n)
 |_,_,0,h=>h
 |_,_,_+1,.nil=>.nil
 |_,_,n+1,.cons _ hs=>hs.drop n
theorem bf.rep{ds:List D}{vs:List V}(h:bf M ρ H ds vs):∀k:Nat,bf M ρ H (List.replicate k ds).flatten (List.replicate k vs).flatten
 |0=>.nil
 |k+1=>by rw[QNq,QNq,List.flatten_cons,List.flatten_cons];exact h.append (h.rep k)
def cb(M:Md)(ρ:List Addr)(H:Hp):List (Key×D)->List (Key×V)->Prop
 | [],kv=>kv= []
 |(k,d)::r,kv=>∃v t,kv=(k,v)::t/\Rel M ρ H d v/\cb M ρ H r t
theorem cb.imp{ρ':List Addr}{H':Hp}(f:∀d v,Rel M ρ H d v->Rel M ρ' H' d v):∀{l:List (Key×D)} {kv:List (Key×V)},cb M ρ H l kv->cb M ρ' H' l kv
 | [],_,h=>h
 |(_,_)::_,_,⟨v,t,e,h,hs⟩=>⟨v,t,e,f _ _ h,cb.imp f hs⟩
theorem cb.length:∀{l:List (Key×D)} {kv:List (Key×V)},cb M ρ H l kv->l.length=kv.length
 | [],_,h=>by cases h;rfl
 |(_,_)::_,_,⟨v,t,e,h,hs⟩=>by subst e;exact congrArg (·+1) hs.length
def oZ(M:Md)(ρ:List Addr)(H:Hp)(a:Addr):O->Prop
 |.lst c=>∃b,H a=some (.lst b)/\bf M ρ H c b
 |.frz c=>∃b o,H a=some (.frz o (.lst b))/\bf M ρ H c b
 |.dct d=>∃e,H a=some (.dK e)/\cb M ρ H d e
structure fW(M:Md)(ρ:List Addr)(S:aF)(H:Hp):Prop where
 len:ρ.length=S.length
 nd:ρ.Nodup
 obj:∀(k:Nat) (a:Addr) (o:O),ρ[k]?=some a->S[k]?=some o->oZ M ρ H a o
def oZ.lay{a b:Addr}{o:O}{u:HO}(h:oZ M ρ H a o)(i:H b=none):oZ M ρ (upd H b u) a o:=by
 have e:bX ρ H ρ (upd H b u):=bX.laid i
 have g:∀{x},H a=some x->upd H b u a=some x:=λ{x} h=>by rw[bg];exact h;intro z;subst z;rw[i] at h;cases h
 cases o with
 |lst j=>obtain⟨f,d,c⟩:=h;exact⟨f,g d,c.ext e⟩
 |frz j=>obtain⟨f,o,d,c⟩:=h;exact⟨f,o,g d,c.ext e⟩
 |dct l=>obtain⟨k,d,c⟩:=h;exact⟨k,g d,c.imp λ_ _ r=>r.ext e⟩
def fW.lay{S:aF}{b:Addr}{u:HO}(h:fW M ρ S H)(c:H b=none):fW M ρ S (upd H b u):=⟨h.len,h.nd,λk a o e d=>(h.obj k a o e d).lay c⟩
theorem oZ.pre{a:Addr}{o:O}(e:ρ <+: ρ')(h:oZ M ρ H a o):oZ M ρ' H a o:=by
 cases o with
 |lst f=>obtain⟨d,c,b⟩:=h;exact⟨d,c,b.pre e⟩
 |frz f=>obtain⟨d,o,c,b⟩:=h;exact⟨d,o,c,b.pre e⟩
 |dct i=>obtain⟨g,c,b⟩:=h;exact⟨g,c,b.imp λ_ _ r=>r.pre e⟩
def fW.box{S:aF}{a:Addr}{o:O}(h:fW M ρ S H)(i:a∉ρ)(j:oZ M (ρ++ [a]) H a o):fW M (ρ++ [a]) (S++ [o]) H where
 len:=by rw[lQa,lQa,h.len];rfl
 nd:=by rw[List.nodup_append];exact⟨h.nd,by simp,λx l y f=>by rw[Qfq] at f;subst f;exact λz=>i (z▸l)⟩
 obj:=λk b u d e=>by
  by_cases c:k<ρ.length
  ·rw[QHq c] at d
   rw[QHq (h.len▸c)] at e
   exact(h.obj k b u d e).pre (List.prefix_append _ _)
  ·have c:ρ.length<=k:=Nat.le_of_not_lt c
   rw[QQq c] at d
   rw[QQq (h.len▸c)] at e
   have z:k-ρ.length=0:=by
    have:=(gQs.mp d).1
    simp at this
    omega
   have g:k-S.length=0:=by rw[←h.len];exact z
   rw[z] at d
   rw[g] at e
   cases d
   cases e
   exact j
def fW.put{S:aF}{k:Nat}{a:Addr}{o o':O}{u:HO}(h:fW M ρ S H)(m:ρ[k]?=some a)(G:S[k]?=some o)(A:oZ M ρ (upd H a u) a o')(I:∀x,H a=some x->¬Pf x):fW M ρ (S.set k o') (upd H a u)/\bX ρ H ρ (upd H a u):=by
 have C:a∈ρ:=mQg m
 have e:bX ρ H ρ (upd H a u):=by
  refine⟨List.prefix_refl _,λ_ h=>.inl h,λb x y c=> ?_,λb l=> ?_⟩
  ·rw[bg]
   ·exact y
   ·intro z
    subst z
    exact c.elim (λn=>n C) λJ=>I _ y J
  ·by_cases z:b=a
   ·subst z;rw[bC] at l;cases l
   ·rw[bg z] at l;exact l
 refine⟨⟨by rw[List.length_set];exact h.len,h.nd,λj b p f i=> ?_⟩,e⟩
 by_cases c:j=k
 ·subst c
  rw[m] at f
  cases f
  rw[Qyq (gQs.mp G).1] at i
  cases i
  exact A
 ·rw[QKq (Ne.symm c)] at i
  have s:b≠a:=by
   intro z
   subst z
   have w:=(gQs.mp f)
   have v:=(gQs.mp m)
   obtain⟨w,N⟩:=w
   obtain⟨v,L⟩:=v
   exact c (jN h.nd f m)
  have q:=h.obj j b p f i
  cases p with
  |lst F=>obtain⟨t,d,g⟩:=q;exact⟨t,by rw[bg s];exact d,g.ext e⟩
  |frz F=>obtain⟨t,o,d,g⟩:=q;exact⟨t,o,by rw[bg s];exact d,g.ext e⟩
  |dct B=>obtain⟨K,d,g⟩:=q;exact⟨K,by rw[bg s];exact d,g.imp λ_ _ r=>r.ext e⟩
end
structure En(M:Md)(ρ:List Addr)(H:Hp)(Γ:cq)(σ:L2.St):Prop where
 len:σ.length=Γ.length
 get:∀(i:Nat) (d:D),Γ[i]?=some (some d)->∃v,σ[i]?=some (some v)/\Rel M ρ H d v
def En.ext{M:Md}{ρ a:List Addr}{H c:Hp}{f:cq}{b:L2.St}(h:En M ρ H f b)(e:bX ρ H a c):En M a c f b:=⟨h.len,λi d q=>by obtain⟨v,j,g⟩:=h.get i d q;exact⟨v,j,g.ext e⟩⟩
def En.set{M:Md}{ρ:List Addr}{H:Hp}{a:cq}{b:L2.St}{i:Nat}{d:D}{v:V}(h:En M ρ H a b)(r:Rel M ρ H d v):En M ρ H (a.set i (some d)) (b.set i (some v)) where
 len:=by rw[List.length_set,List.length_set];exact h.len
 get:=λj e q=>by
  by_cases c:i=j
  ·subst c
   have l:i<a.length:=by
    have:=(gQs.mp q).1
    rwa [List.length_set] at this
   rw[Qyq l] at q
   cases q
   exact⟨v,Qyq (h.len▸l),r⟩
  ·rw[QKq c] at q⊢
   exact h.get j e q
structure Ok(M:Md)(ρ:List Addr)(Γ:cq)(S:aF)(σ:L2.St)(H:Hp):Prop where
 en:En M ρ H Γ σ
 st:fW M ρ S H
def Ok.to{M:Md}{ρ a:List Addr}{f:cq}{S c:aF}{d:L2.St}{H b:Hp}(h:Ok M ρ f S d H)(e:bX ρ H a b)(s:fW M a c b):Ok M a f c d b:=⟨h.en.ext e,s⟩
abbrev bp:=cq->aF->Option (D×aF)
abbrev fK:=cq->aF->Option (List D×aF)
abbrev iG:=cq->aF->Option (Bool×aF)
def tD(M:Md)(f:bp):TE:=λh H Q=>∃e g S d c,Ok M e g S h H/\f g S=some (d,c)/\∀a v b,bX e H a b->fW M a c b->Rel M a b d v->Q v b
def tL(M:Md)(f:fK):TE:=λj H Q=>∃e h S i d,Ok M e h S j H/\f h S=some (i,d)∧
 ∀b a g c,bX e H b c->fW M b d c->H a=none->a∉b->c a=some (.lst g)->bf M b c i g->Q (.ref a) c
def yw(M:Md)(f:fK):TA:=λi H Q=>∃d g S h c,Ok M d g S i H/\f g S=some (h,c)/\∀a e b,bX d H a b->fW M a c b->bf M a b h e->Q e b
def tB(M:Md)(f:iG):TT:=λh H Q=>∃e g S b d,Ok M e g S h H/\f g S=some (b,d)/\∀a c,bX e H a c->fW M a d c->Q b c
section
variable{X:Cx}
noncomputable abbrev md(X:Cx):Md:=⟨X.K,X.mg⟩
def jQ{e:Expr}{t t':TE}(h:PE X e t)(w:∀b H Q,t' b H Q->t b H Q):PE X e t':=λa s b H Q I q=>h a s b H Q I (w _ _ _ q)
def Nw{e:Expr}{t t':TT}(h:PT X e t)(w:∀b H Q,t' b H Q->t b H Q):PT X e t':=λa s b H Q I q=>h a s b H Q I (w _ _ _ q)
def OI{e:Expr}{t t':TT}(h:PW X e t)(w:∀b H Q,t' b H Q->t b H Q):PW X e t':=λc a s b H Q I q=>h c a s b H Q I (w _ _ _ q)
def ON{d:List Expr}{t t':TA}(h:PA X d t)(w:∀b H Q,t' b H Q->t b H Q):PA X d t':=λc a s b H Q I q=>h c a s b H Q I (w _ _ _ q)
def AX{e:Stmt}{t t':TS}(h:PS X e t)(w:∀D b H,t' D b H->t D b H):PS X e t':=λa s b H D I q=>h a s b H D I (w _ _ _ q)
def LZ{e:List Stmt}{t t':TS}(h:rL X e t)(w:∀D b H,t' D b H->t D b H):rL X e t':=λa s b H D I q=>h a s b H D I (w _ _ _ q)
noncomputable def au(i:Nat):bp:=λa S=>match a[i]? with
 |some (some d)=>some (d,S)
 |_=>none
def Dv{i:Nat}{b:cq}{S:aF}{d:D}{a:aF}(h:au i b S=some (d,a)):b[i]?=some (some d)/\a=S:=by
 unfold au at h
 split at h
 ·cases h;exact⟨by assumption,rfl⟩
 ·cases h
def Ma{e:Expr}{i:Nat}(h:PE X e (JY i)):PE X e (tD (md X) (au i)):=jQ h λk H Q f=>by
 obtain⟨a,l,S,d,j,ok,e,q⟩:=f
 obtain⟨c,rfl⟩:=Dv e
 obtain⟨v,g,b⟩:=ok.en.get i d c
 exact⟨v,g,q a v H bX.refl ok.st b⟩
noncomputable def cF(d:D):bp:=λ_ S=>some (d,S)
def jT{e:Expr}{v:V}{d:D}(h:PE X e (tC v))(r:∀ρ H,Rel (md X) ρ H d v):PE X e (tD (md X) (cF d)):=jQ h λc H Q a=>by
 obtain⟨ρ,f,S,g,b,ok,e,q⟩:=a
 cases e
 exact q ρ v H bX.refl ok.st (r _ _)
def bh{i:Int}{j pos}:PE X (.Constant (.int i) j pos) (tD (md X) (cF (.int i))):=jT J8 λ_ _=>.int i
def Pr{b:Bool}{j pos}:PE X (.Constant (.bool b) j pos) (tD (md X) (cF (.bl b))):=jT MI λ_ _=>.bl b
def B9{j pos}:PE X (.Constant .none j pos) (tD (md X) (cF .non)):=jT JD λ_ _=>.non
def iM{x:Str}{j pos}:PE X (.Constant (.str x) j pos) (tD (md X) (cF (.str x))):=jT Kk λ_ _=>.str x
noncomputable def bB(f:fK):bp:=λb S=>(f b S).bind λ(c,a)=>some (.ref a.length,a++ [.lst c])
def fY{e:Expr}{f:fK}(h:PE X e (tL (md X) f)):PE X e (tD (md X) (bB f)):=jQ h λA H Q t=>by
 obtain⟨m,k,S,d,z,ok,e,q⟩:=t
 unfold bB at e
 cases j:f k S with
 |none=>rw[j] at e;cases e
 | some p=>
   obtain⟨o,r⟩:=p
   rw[j] at e
   obtain⟨rfl,rfl⟩:=cc e
   refine⟨m,k,S,o,r,ok,j,λg a s u x l w y n v=> ?_⟩
   have i:=v.pre (List.prefix_append g [a])
   refine q (g++ [a]) (.ref a) u ⟨x.pre.trans (List.prefix_append _ _),λb c=> ?_,x.keep,x.grow⟩ (l.box y ⟨s,n,i⟩) (.ref ?_)
   · rcases mQa.mp c with c|c
     · exact x.new b c
     · rw[Qfq] at c;subst c;exact .inr w
   · rw[←l.len,QQq (Qmq _)]
     simp
noncomputable def av:fK:=λ_ S=>some ([],S)
noncomputable def ar(f:bp)(g:fK):fK:=λa S=>(f a S).bind λ(d,e)=>(g a e).bind λ(c,b)=>some (d::c,b)
def aq{α c:Type}{o:Option α}{f:α->Option c}{b:c}(h:o.bind f=some b):∃a,o=some a/\f a=some b:=by
 cases o with
 |none=>cases h
 |some a=>exact⟨a,rfl,h⟩
def aS:PA X [] (yw (md X) av):=ON eM λf H Q b=>by
 obtain⟨a,g,S,d,c,ok,e,q⟩:=b
 cases e
 exact q a [] H bX.refl ok.st .nil
def ay{e:Expr}{a:List Expr}{f:bp}{g:fK}(s:PE X e (tD (md X) f))(t:PA X a (yw (md X) g))(B:starEach (e::a) X.env=(false,eval e X.env)::starEach a X.env:=by rfl):PA X (e::a) (yw (md X) (ar f g)):=
 ON (cz s t B) λF H Q y=>by
  obtain⟨o,j,S,d,C,ok,e,q⟩:=y
  obtain⟨⟨x,k⟩,w,e⟩:=aq e
  obtain⟨⟨r,z⟩,n,e⟩:=aq e
  obtain⟨rfl,rfl⟩:=cc e
  refine⟨o,j,S,x,k,ok,w,λc v H1 l b p=>⟨c,j,k,r,z,ok.to l b,n,λh u H2 m i A=> ?_⟩⟩
  exact q h (v::u) H2 (l.trans m) i (.cons (p.ext m) A)
noncomputable def aW(f:fK):bp:=λb S=>(f b S).bind λ(a,c)=>if a.length<=sizeLine then some (.tup a,c) else none
def dm{j:List Expr}{f:fK}{k pos}(h:PA X j (yw (md X) f)):PE X (.Tuple j k pos) (tD (md X) (aW f)):=jQ (Gg h) λv H Q t=>by
 obtain⟨l,m,S,d,u,ok,e,q⟩:=t
 obtain⟨⟨n,o⟩,s,e⟩:=aq e
 dsimp only at e
 split at e
 ·rename_i c
  obtain⟨rfl,rfl⟩:=cc e
  refine⟨l,m,S,n,o,ok,s,λg w H1 r a i=>⟨i.length▸c,λp b=> ?_⟩⟩
  exact q g (.ref p) _ (r.trans (bX.laid b)) (a.lay b) (.tup bC (i.ext (bX.laid b)))
 ·cases e
noncomputable def bo(f:fK):fK:=λb S=>(f b S).bind λ(a,c)=>if a.length<=sizeLine then some (a,c) else none
def dg{M:Md}{ρ a:List Addr}{S:aF}{H c:Hp}{p:Addr}(x:bX ρ H a c)(st:fW M a S c)(b:c p=none):p∉a:=λm=>by
 obtain⟨k,g⟩:=List.getElem?_of_mem m
 have l:k<S.length:=st.len▸(gQs.mp g).1
 have:=st.obj k p _ g (gQe l)
 cases e:S[k] with
 |lst d=>rw[e] at this;obtain⟨f,h,_⟩:=this;rw[b] at h;cases h
 |frz d=>rw[e] at this;obtain⟨f,o,h,_⟩:=this;rw[b] at h;cases h
 |dct d=>rw[e] at this;obtain⟨f,h,_⟩:=this;rw[b] at h;cases h
def fN{k:List Expr}{f:fK}{pos}(h:PA X k (yw (md X) f)):PE X (.List k pos) (tL (md X) (bo f)):=jQ (Jv h) λv H Q t=>by
 obtain⟨l,m,S,d,u,ok,e,q⟩:=t
 obtain⟨⟨n,o⟩,s,e⟩:=aq e
 dsimp only at e
 split at e
 ·rename_i c
  obtain⟨rfl,rfl⟩:=cc e
  refine⟨l,m,S,n,o,ok,s,λg r H1 i a j=>⟨j.length▸c,λp b=> ?_⟩⟩
  exact q g p r _ (i.trans (bX.laid b)) (a.lay b) (i.grow p b) (dg i a b) bC (j.ext (bX.laid b))
 ·cases e
end
section
variable{X:Cx}{a b c e:Expr}{pos:Pos}
def FO:je X (binaryOp .Add) (λx y H Q=>∃a b ys,x=.ref a/\y=.ref b/\gH X.K H a []/\gH X.K H b ys/\Q (.ref b) H):=by
 intro o s R H x y v u Q I B L h
 obtain⟨a,b,ys,rfl,rfl,ha,l,q⟩:=h
 cases B
 cases L
 obtain⟨P,G,C,_⟩:=I.tuple ha
 obtain⟨f,S,l,_⟩:=I.tuple l
 cases G
 obtain⟨⟨J,M,z,A⟩,w,p,n,t⟩:=id C
 obtain⟨⟨r,m,j,k⟩,d,i,N,g⟩:=id l
 simp only at p t i g
 subst p t i g
 exact concat_meets ⟨_,w,rfl⟩ ⟨_,d,rfl⟩ noFill_tuple_add seq_tuple_add PySem.F.slot_tuple_add PySem.F.entry_tuple_add (PySem.F.args_tuple_add_2 _ _)
   (tuple_addW0 a b _ f.toArray n N M m A k (by simp)) ⟨w,d,.ref b,H,I,rfl,q⟩
abbrev rZ:=aF->D->D->Option D
def kz(M:Md)(r:R2)(o:rZ):Prop:=∀{f:List Addr} {S:aF} {H:Hp} {x y d:D} {u v:V} {Q:VK},fW M f S H->Rel M f H x u->Rel M f H y v->o S x y=some d->(∀w g,bX f H f g->fW M f S g->Rel M f g d w->Q w g)->r u v H Q
noncomputable def a_(o:rZ)(f g:bp):bp:=λi S=>(f i S).bind λ(x,j)=>(g i j).bind λ(y,h)=>(o h x y).bind λd=>some (d,h)
def pJ{r:R2}{o:rZ}{f g:bp}(G:kz (md X) r o)(h:PE X e (GC r (tD (md X) f) (tD (md X) g))):PE X e (tD (md X) (a_ o f g)):=jQ h λP H Q J=>by
 obtain⟨B,n,S,d,N,ok,e,q⟩:=J
 obtain⟨⟨x,p⟩,I,e⟩:=aq e
 obtain⟨⟨y,L⟩,u,e⟩:=aq e
 obtain⟨R,K,e⟩:=aq e
 obtain⟨rfl,rfl⟩:=cc e
 refine⟨B,n,S,x,p,ok,I,λk v H1 s i C=>⟨k,n,p,y,L,ok.to s i,u,λl w H2 t m M=> ?_⟩⟩
 exact G m (C.ext t) M K λz H3 A j F=>q l z H3 ((s.trans t).trans A) j F
noncomputable def bR:rZ:=λ_ x y=>match x,y with
 |.int i,.int j=>some (.int (i+j))
 |.str i,.str j=>if i.length+j.length<=sizeLine then some (.str (i++j)) else none
 |.tup i,.tup j=>if i.length+j.length<=sizeLine then some (.tup (i++j)) else none
 |_,_=>none
abbrev MP(K:PySem.W.Frag):R2:=λx y H Q=>(∃i j,x=.int i/\y=.int j/\Q (.int (i+j)) H)\/(∃i j,x=.str i/\y=.str j/\i.length+j.length<=sizeLine/\Q (.str (i++j)) H)∨
 (∃a b d,x=.ref a/\y=.ref b/\gH K H a []/\gH K H b d/\Q (.ref b) H)\/I_ K x y H Q
def HE:je X (binaryOp .Add) (MP X.K):=Lb.or (Bx.or (FO.or HD))
def J0{M:Md}:kz M (MP M.K) bR:=by
 intro t S H x y d u v Q g r n e q
 cases r with
 |int i=>cases n <;>simp only[bR,reduceCtorEq] at e;cases e;exact .inl ⟨_,_,rfl,rfl,q _ _ bX.refl g (.int _)⟩
 | str i=>
   cases n <;>simp only[bR,reduceCtorEq] at e
   split at e <;>cases e
   exact .inr (.inl ⟨_,_,rfl,rfl,by assumption,q _ _ bX.refl g (.str _)⟩)
 | tup l f=>
   cases n with
   | tup m j=>
     simp only[bR] at e
     split at e <;>cases e
     rename_i hl
     have s:=f.length
     have o:=j.length
     cases f with
     |nil=>exact .inr (.inr (.inl ⟨_,_,_,rfl,rfl,gH.of l,gH.of m,q _ _ bX.refl g (.tup m j)⟩))
     | cons f h=>
       refine .inr (.inr (.inr ⟨_,_,_,_,rfl,rfl,gH.of l,gH.of m,by simp,by rw[←s,←o];exact hl,λz=> ?_,λz p k=> ?_⟩))
       · subst z
         cases j
         rw[List.append_nil] at q
         exact q _ _ bX.refl g (.tup l (.cons f h))
       · exact q _ _ (bX.laid k) (g.lay k) (.tup bC ((bf.append (.cons f h) j).ext (bX.laid k)))
   |_=>simp only[bR,reduceCtorEq] at e
 |_=>simp only[bR,reduceCtorEq] at e
def o9{f g:bp}(d:PE X a (tD (md X) f))(h:PE X b (tD (md X) g)):PE X (.BinOp a .Add b pos) (tD (md X) (a_ bR f g)):=pJ J0 (pR HE d h)
noncomputable def intD(C:Int->Int->Prop)[∀i j,Decidable (C i j)](k:Int->Int->D):rZ:=λ_ x y=>match x,y with
 |.int i,.int j=>if C i j then some (k i j) else none
 |_,_=>none
def wJ{M:Md}{C:Int->Int->Prop}[∀i j,Decidable (C i j)]{k:Int->Int->D}{g:Int->Int->V}(l:∀i j ρ H,Rel M ρ H (k i j) (g i j)):kz M (rI C g) (intD C k):=by
 intro ρ S H x y d u v Q h f m e q
 cases f <;>cases m <;>simp only[intD,reduceCtorEq] at e
 split at e <;>cases e
 exact⟨_,_,rfl,rfl,by assumption,q _ _ bX.refl h (l _ _ _ _)⟩
def pe{M:Md}{k:Int->Int->D}{g:Int->Int->V}(l:∀i j ρ H,Rel M ρ H (k i j) (g i j)):kz M (CZ g) (intD (λ_ _=>True) k):=by
 intro ρ S H x y d u v Q h f m e q
 cases f <;>cases m <;>simp only[intD,reduceCtorEq] at e
 rw[Qhq trivial] at e
 cases e
 exact⟨_,_,rfl,rfl,q _ _ bX.refl h (l _ _ _ _)⟩
instance{i j:Int}:Decidable (EC i j):=by unfold EC;infer_instance
instance{i j:Int}:Decidable (E8 i j):=by unfold E8;infer_instance
open Classical in
noncomputable instance{i j:Int}:Decidable (IntMulOk i j):=Classical.propDecidable _
noncomputable abbrev Ab:rZ:=intD (λ_ _=>True) λi j=>.int (i-j)
noncomputable abbrev t8:rZ:=intD IntMulOk λi j=>.int (i*j)
noncomputable abbrev pG:rZ:=intD (λ_ j=>0<j) λi j=>.int (i%j)
noncomputable abbrev Aj:rZ:=intD EC λi j=>.int (i/j)
noncomputable abbrev Hz:rZ:=intD E8 λi j=>.int (i^j.toNat)
def MJ{f g:bp}(d:PE X a (tD (md X) f))(h:PE X b (tD (md X) g)):PE X (.BinOp a .Sub b pos) (tD (md X) (a_ Ab f g)):=pJ (pe λi j _ _=>.int _) (pR K8 d h)
def Pg{f g:bp}(d:PE X a (tD (md X) f))(h:PE X b (tD (md X) g)):PE X (.BinOp a .Mult b pos) (tD (md X) (a_ t8 f g)):=pJ (wJ λi j _ _=>.int _) (pR G3 d h)
def I0{f g:bp}(d:PE X a (tD (md X) f))(h:PE X b (tD (md X) g)):PE X (.BinOp a .Mod b pos) (tD (md X) (a_ pG f g)):=pJ (wJ λi j _ _=>.int _) (pR Jp d h)
def Ol{f g:bp}(d:PE X a (tD (md X) f))(h:PE X b (tD (md X) g)):PE X (.BinOp a .FloorDiv b pos) (tD (md X) (a_ Aj f g)):=pJ (wJ λi j _ _=>.int _) (pR HW d h)
def Pd{f g:bp}(d:PE X a (tD (md X) f))(h:PE X b (tD (md X) g)):PE X (.BinOp a .Pow b pos) (tD (md X) (a_ Hz f g)):=pJ (wJ λi j _ _=>.int _) (pR K0 d h)
noncomputable def xA(f:bp):bp:=λg S=>(f g S).bind λ(d,h)=>match d with
 |.int i=>some (.int (-i),h)
 |_=>none
def OF{f:bp}(k:PE X a (tD (md X) f)):PE X (.UnaryOp .USub a pos) (tD (md X) (xA f)):=jQ (LC Kw k) λs H Q p=>by
 obtain⟨h,i,S,d,r,ok,e,q⟩:=p
 obtain⟨⟨x,l⟩,o,e⟩:=aq e
 dsimp only at e
 split at e
 ·obtain⟨rfl,rfl⟩:=cc e
  refine⟨h,i,S,_,l,ok,o,λm v H1 n g j=> ?_⟩
  cases j
  exact⟨_,rfl,q _ _ _ n g (.int _)⟩
 ·cases e
noncomputable def xC:D->Option V
 |.non=>some .non
 |.bl b=>some (.bl b)
 |.int i=>some (.int i)
 |.str x=>some (.str x)
 |_=>none
def om{M:Md}{ρ:List Addr}{H:Hp}{d:D}{u v:V}(r:Rel M ρ H d u)(e:xC d=some v):u=v:=by
 cases r <;>simp[xC] at e <;>exact e
noncomputable def e_(d:Bool):rZ:=λ_ x y=>match xC x,xC y with
 |some u,some v=>if A2 u v=true then some (.bl (if d then !decide (u=v) else decide (u=v))) else none
 |_,_=>none
def yx{f:Bool}{S:aF}{x y d:D}(e:e_ f S x y=some d):∃u v,xC x=some u/\xC y=some v/\A2 u v=true/\d=.bl (if f then !decide (u=v) else decide (u=v)):=by
 unfold e_ at e
 split at e
 ·split at e <;>cases e
  exact⟨_,_,by assumption,by assumption,by assumption,rfl⟩
 ·cases e
def kP{M:Md}:kz M O_ (e_ false):=by
 intro l S H x y d u v Q j g k e q
 obtain⟨n,m,h,f,i,rfl⟩:=yx e
 cases om g h
 cases om k f
 exact⟨i,q _ _ bX.refl j (.bl _)⟩
def Pn{M:Md}:kz M OU (e_ true):=by
 intro l S H x y d u v Q j g k e q
 obtain⟨n,m,h,f,i,rfl⟩:=yx e
 cases om g h
 cases om k f
 exact⟨i,q _ _ bX.refl j (.bl _)⟩
noncomputable abbrev ER:rZ:=intD (λ_ _=>True) λi j=>.bl (decide (i<j))
noncomputable abbrev N3:rZ:=intD (λ_ _=>True) λi j=>.bl (decide (i<=j))
noncomputable abbrev Nf:rZ:=intD (λ_ _=>True) λi j=>.bl (decide (j<i))
noncomputable abbrev N9:rZ:=intD (λ_ _=>True) λi j=>.bl (decide (j<=i))
def Fp{M:Md}:kz M (CZ λi j=>.bl (decide (i<j))) ER:=pe λi j _ _=>.bl _
def Ph{M:Md}:kz M (CZ λi j=>.bl (decide (i<=j))) N3:=pe λi j _ _=>.bl _
def OZ{M:Md}:kz M (CZ λi j=>.bl (decide (j<i))) Nf:=pe λi j _ _=>.bl _
def Me{M:Md}:kz M (CZ λi j=>.bl (decide (j<=i))) N9:=pe λi j _ _=>.bl _
noncomputable def isNone:D->Bool
 |.non=>true
 |_=>false
noncomputable def wY(d:Bool):rZ:=λ_ x y=>match y with
 |.non=>some (.bl (if d then !isNone x else isNone x))
 |_=>none
def v7{M:Md}{ρ:List Addr}{H:Hp}{d:D}{u:V}(r:Rel M ρ H d u):decide (u=V.non)=isNone d:=by
 cases r <;>simp[isNone]
def N5{M:Md}:kz M (λx y H Q=>y=.non/\Q (.bl (decide (x=.non))) H) (wY false):=by
 intro i S H x y d u v Q g h f e q
 cases f <;>simp only[wY,reduceCtorEq] at e
 cases e
 rw[v7 h]
 exact⟨rfl,q _ _ bX.refl g (.bl _)⟩
def Nd{M:Md}:kz M (λx y H Q=>y=.non/\Q (.bl (!decide (x=.non))) H) (wY true):=by
 intro i S H x y d u v Q g h f e q
 cases f <;>simp only[wY,reduceCtorEq] at e
 cases e
 rw[v7 h]
 exact⟨rfl,q _ _ bX.refl g (.bl _)⟩
def Mj{op:CmpOp}{r:R2}{o:rZ}{f g:bp}(j:je X (compareOp op) r)(k:kz (md X) r o)(h:PE X a (tD (md X) f))(i:PE X b (tD (md X) g))(d:behindInMarks op b=false):PE X (.Compare a [op] [b] pos) (tD (md X) (a_ o f g)):=pJ k (B8 j h i d)
noncomputable def aP(f:bp):iG:=λg S=>(f g S).bind λ(d,h)=>match d with
 |.bl k=>some (k,h)
 |_=>none
def uE{f:bp}{h:cq}{S g:aF}{k:Bool}(e:aP f h S=some (k,g)):f h S=some (.bl k,g):=by
 obtain⟨⟨d,j⟩,i,e⟩:=aq e
 dsimp only at e
 split at e
 ·cases e;exact i
 ·cases e
def Lx{r:R2}{o:rZ}{f g:bp}(F:kz (md X) r o)(h:PT X e (Fx (GC r (tD (md X) f) (tD (md X) g)))):PT X e (tB (md X) (aP (a_ o f g))):=Nw h λP H Q I=>by
 obtain⟨A,n,S,d,N,ok,e,q⟩:=I
 have e:=uE e
 obtain⟨⟨x,p⟩,G,e⟩:=aq e
 obtain⟨⟨y,K⟩,u,e⟩:=aq e
 obtain⟨R,J,e⟩:=aq e
 obtain⟨rfl,rfl⟩:=cc e
 refine⟨A,n,S,x,p,ok,G,λk v H1 s i B=>⟨k,n,p,y,K,ok.to s i,u,λl w H2 t m L=> ?_⟩⟩
 exact F m (B.ext t) L J λM H3 z j C=>by cases C;exact⟨_,rfl,q l H3 ((s.trans t).trans z) j⟩
def hV{op:CmpOp}{r:R2}{o:rZ}{f g:bp}(j:je X (compareOp op) r)(k:kz (md X) r o)(h:PE X a (tD (md X) f))(i:PE X b (tD (md X) g))(d:behindInMarks op b=false):PT X (.Compare a [op] [b] pos) (tB (md X) (aP (a_ o f g))):=Lx k (pd j h i d)
noncomputable def BH(S:aF):D->Option Bool
 |.non=>some false
 |.bl b=>some b
 |.int i=>some (i !=0)
 |.str y=>if y.length<=sizeLine then some ((y.length:Int) !=0) else none
 |.tup d=>some (!d.isEmpty)
 | .ref k=>match S[k]? with
   |some (.lst d)=>some (!d.isEmpty)
   |some (.dct d)=>some (!d.isEmpty)
   |_=>none
 |.fn _=>none
def bf.isEmpty{M:Md}{ρ:List Addr}{H:Hp}{ds:List D}{vs:List V}(h:bf M ρ H ds vs):ds.isEmpty=vs.isEmpty:=by cases h <;>rfl
theorem cb.isEmpty{M:Md}{ρ:List Addr}{H:Hp}{ds:List (Key×D)}{vs:List (Key×V)}(h:cb M ρ H ds vs):ds.isEmpty=vs.isEmpty:=by
 cases ds with
 |nil=>cases h;rfl
 |cons p r=>obtain⟨v,t,e,_⟩:=h;subst e;rfl
def Hg{M:Md}{ρ:List Addr}{S:aF}{H:Hp}{d:D}{u:V}{k:Bool}(st:fW M ρ S H)(r:Rel M ρ H d u)(e:BH S d=some k):JG M.K u H k:=by
 cases r with
 |non=>cases e;rfl
 |bl=>cases e;rfl
 |int=>cases e;rfl
 |str=>simp only[BH] at e;split at e <;>cases e;exact⟨by assumption,rfl⟩
 |tup h j=>cases e;exact .inr (.inl ⟨_,gH.of h,by rw[j.isEmpty]⟩)
 |fn=>cases e
 | ref h=>
   simp only[BH] at e
   split at e
   · cases e
     obtain⟨f,i,g⟩:=st.obj _ _ _ h (by assumption)
     exact .inl ⟨f,iC.of i,by rw[g.isEmpty]⟩
   · cases e
     obtain⟨f,i,g⟩:=st.obj _ _ _ h (by assumption)
     exact .inr (.inr ⟨f,i,by rw[g.isEmpty]⟩)
   · cases e
noncomputable def kL(f:bp):iG:=λh S=>(f h S).bind λ(d,g)=>(BH g d).bind λk=>some (k,g)
def OK{f:bp}(m:PE X a (tD (md X) f))(he:∀d,isTrue a X.env d=(do let v←d;standAt a.pos;holding [v] (truthy v)):=by intro _;rfl):PT X a (tB (md X) (kL f)):=Nw (Eh m he) λw H Q s=>by
 obtain⟨i,j,S,k,u,ok,e,q⟩:=s
 obtain⟨⟨x,n⟩,r,e⟩:=aq e
 obtain⟨t,h,e⟩:=aq e
 obtain⟨rfl,rfl⟩:=cc e
 exact⟨i,j,S,x,n,ok,r,λo v H1 p g l=>⟨t,Hg g l h,q _ _ p g⟩⟩
noncomputable def x9(f:iG):iG:=λd S=>(f d S).bind λ(k,g)=>some (!k,g)
def OT{f:iG}(j:PT X a (tB (md X) f)):PT X (.UnaryOp .Not a pos) (tB (md X) (x9 f)):=Nw (Jr j) λs H Q p=>by
 obtain⟨g,h,S,k,r,ok,e,q⟩:=p
 obtain⟨⟨i,l⟩,o,e⟩:=aq e
 obtain⟨rfl,rfl⟩:=cc e
 exact⟨g,h,S,i,l,ok,o,λm H1 n d=>q _ _ n d⟩
noncomputable def jl(f g:iG):iG:=λd S=>(f d S).bind λ(k,h)=>if k=true then g d h else some (false,h)
noncomputable def Hy(f g:iG):iG:=λd S=>(f d S).bind λ(k,h)=>if k=true then some (true,h) else g d h
def uo{f:iG}(d:PT X a (tB (md X) f)):PW X (.BoolOp .And [a] pos) (tB (md X) f):=HZ d
def LX{f:iG}(d:PT X a (tB (md X) f)):PW X (.BoolOp .Or [a] pos) (tB (md X) f):=KH d
def w_and{d:List Expr}{f g:iG}(s:PT X a (tB (md X) f))(t:PW X (.BoolOp .And (b::d) pos) (tB (md X) g)):PW X (.BoolOp .And (a::b::d) pos) (tB (md X) (jl f g)):=OI (Jt s t) λy H Q w=>by
 obtain⟨p,m,S,k,o,ok,e,q⟩:=w
 obtain⟨⟨r,n⟩,v,e⟩:=aq e
 refine⟨p,m,S,r,n,ok,v,λi H1 j h=> ?_⟩
 dsimp only at e
 split at e
 ·rename_i c
  rw[Qhq c]
  exact⟨i,m,n,k,o,ok.to j h,e,λu H2 x l=>q _ _ (j.trans x) l⟩
 ·rename_i c
  rw[Quq c]
  obtain⟨rfl,rfl⟩:=cc e
  exact q _ _ j h
def w_or{d:List Expr}{f g:iG}(s:PT X a (tB (md X) f))(t:PW X (.BoolOp .Or (b::d) pos) (tB (md X) g)):PW X (.BoolOp .Or (a::b::d) pos) (tB (md X) (Hy f g)):=OI (LK s t) λy H Q w=>by
 obtain⟨p,m,S,k,o,ok,e,q⟩:=w
 obtain⟨⟨r,n⟩,v,e⟩:=aq e
 refine⟨p,m,S,r,n,ok,v,λi H1 j h=> ?_⟩
 dsimp only at e
 split at e
 ·rename_i c
  rw[Qhq c]
  obtain⟨rfl,rfl⟩:=cc e
  exact q _ _ j h
 ·rename_i c
  rw[Quq c]
  exact⟨i,m,n,k,o,ok.to j h,e,λu H2 x l=>q _ _ (j.trans x) l⟩
noncomputable def qK(f g:bp):bp:=λh S=>(f h S).bind λ(d,i)=>match d with
 |.bl true=>g h i
 |.bl false=>some (.bl false,i)
 |_=>none
noncomputable def Et(f:bp):bp:=λg S=>(f g S).bind λ(d,h)=>match d with
 |.bl k=>some (.bl (!k),h)
 |_=>none
def Pb{op}{f:bp}(h:PE X a (tD (md X) f)):PE X (.BoolOp op [a] pos) (tD (md X) f):=KJ h
def OH{h:List Expr}{f g:bp}(s:PE X a (tD (md X) f))(t:PE X (.BoolOp .And (b::h) pos) (tD (md X) g)):PE X (.BoolOp .And (a::b::h) pos) (tD (md X) (qK f g)):=jQ (Ka s t) λC H Q z=>by
 obtain⟨r,m,S,d,p,ok,e,q⟩:=z
 obtain⟨⟨x,o⟩,y,e⟩:=aq e
 refine⟨r,m,S,x,o,ok,y,λj v H1 k i n=> ?_⟩
 dsimp only at e
 split at e
 ·cases n
  refine⟨_,rfl,?_⟩
  rw[Qhq rfl]
  exact⟨j,m,o,d,p,ok.to k i,e,λu w H2 B l A=>q _ _ _ (k.trans B) l A⟩
 ·cases n
  refine⟨_,rfl,?_⟩
  rw[Quq Qtq]
  obtain⟨rfl,rfl⟩:=cc e
  exact q _ _ _ k i (.bl _)
 ·cases e
def OV{f:bp}(k:PE X a (tD (md X) f)):PE X (.UnaryOp .Not a pos) (tD (md X) (Et f)):=jQ (Ks k) λs H Q p=>by
 obtain⟨h,i,S,d,r,ok,e,q⟩:=p
 obtain⟨⟨x,l⟩,o,e⟩:=aq e
 refine⟨h,i,S,x,l,ok,o,λm v H1 n g j=> ?_⟩
 dsimp only at e
 split at e
 ·cases j
  obtain⟨rfl,rfl⟩:=cc e
  exact⟨_,rfl,q _ _ _ n g (.bl _)⟩
 ·cases e
noncomputable def wZ(c:iG)(f g:bp):bp:=λd S=>(c d S).bind λ(k,h)=>if k=true then f d h else g d h
def OL{h:iG}{f g:bp}(v:PT X c (tB (md X) h))(x:PE X a (tD (md X) f))(y:PE X b (tD (md X) g)):PE X (.IfExp c a b pos) (tD (md X) (wZ h f g)):=jQ (FD v x y) λB H Q A=>by
 obtain⟨t,m,S,d,s,ok,e,q⟩:=A
 obtain⟨⟨u,n⟩,z,e⟩:=aq e
 refine⟨t,m,S,u,n,ok,z,λk H1 l j=> ?_⟩
 dsimp only at e
 split at e
 ·rename_i c
  rw[Qhq c]
  exact⟨k,m,n,d,s,ok.to l j,e,λo w H2 r i p=>q _ _ _ (l.trans r) i p⟩
 ·rename_i c
  rw[Quq c]
  exact⟨k,m,n,d,s,ok.to l j,e,λo w H2 r i p=>q _ _ _ (l.trans r) i p⟩
noncomputable def km:rZ:=λS x y=>match x,y with
 |.tup xs,.int i=>mF xs i
 |.str z,.int i=>if z.length<=sizeLine then(mF z.cps.toList i).map λc=>.str ⟨#[c]⟩ else none
 | .ref k,.int i=>match S[k]? with
   |some (.lst xs)=>mF xs i
   |some (.frz xs)=>mF xs i
   |_=>none
 |_,_=>none
def Hh{α f:Type}{xs:List α}{ys:List f}{i:Int}{x:α}(h:mF xs i=some x)(l:xs.length=ys.length):∃j:Nat,xs[j]?=some x/\∀y,ys[j]?=some y->mF ys i=some y:=by
 unfold mF at h
 obtain⟨j,e,h⟩:=aq h
 exact⟨j,h,λy d=>by unfold mF;rw[←l,e];exact d⟩
def bf.atI{M:Md}{ρ:List Addr}{H:Hp}{ds:List D}{vs:List V}{i:Int}{d:D}(h:bf M ρ H ds vs)(e:L2.mF ds i=some d):∃v,L2.mF vs i=some v/\Rel M ρ H d v:=by
 obtain⟨j,k,g⟩:=Hh e h.length
 obtain⟨v,l,f⟩:=h.get k
 exact⟨v,g v l,f⟩
def LF{M:Md}:kz M (OP M.K) km:=by
 intro r S H x y d u v Q i l n e q
 cases n <;>cases l <;>simp only[km,reduceCtorEq] at e
 ·split at e
  ·obtain⟨c,g,f⟩:=oQm.mp e
   subst f
   exact .inr (.inr ⟨_,_,c,rfl,rfl,by assumption,g,q _ _ bX.refl i (.str _)⟩)
  ·cases e
 ·rename_i h p
  obtain⟨v,g,f⟩:=p.atI e
  exact .inr (.inl ⟨_,_,_,v,rfl,rfl,gH.of h,g,q _ _ bX.refl i f⟩)
 ·rename_i h
  split at e
  ·obtain⟨m,j,k⟩:=i.obj _ _ _ h (by assumption)
   obtain⟨v,g,f⟩:=k.atI e
   exact .inl ⟨_,_,_,v,rfl,rfl,iC.of j,g,q _ _ bX.refl i f⟩
  ·obtain⟨m,o,j,k⟩:=i.obj _ _ _ h (by assumption)
   obtain⟨v,g,f⟩:=k.atI e
   exact .inl ⟨_,_,_,v,rfl,rfl,.inl (.inr ⟨o,j⟩),g,q _ _ bX.refl i f⟩
  ·cases e
def dz{f g:bp}(d:PE X a (tD (md X) f))(h:PE X b (tD (md X) g))(i:Cg b:=by intro _ _;rfl):PE X (.Subscript a b pos) (tD (md X) (a_ km f g)):=pJ LF (L0 Kx d h i)
end
inductive Tag where
 |tu|fr|st (k:Nat)|fz (k:Nat)
def Bk(M:Md)(ρ:List Addr)(H:Hp)(a:Addr)(vs:List V):Tag->Prop
 |.tu=>gH M.K H a vs
 |.fr=>H a=some (.lst vs)/\a∉ρ
 |.st k=>ρ[k]?=some a/\H a=some (.lst vs)
 |.fz k=>ρ[k]?=some a/\∃o,H a=some (.frz o (.lst vs))
abbrev dQ:=cq->aF->Option ((List D×Tag)×aF)
def tQ(M:Md)(f:dQ):TE:=λj H Q=>∃e h S i t d,Ok M e h S j H/\f h S=some ((i,t),d)∧
 ∀b a g c,bX e H b c->fW M b d c->Bk M b c a g t->bf M b c i g->Q (.ref a) c
def Bk.sq{M:Md}{ρ:List Addr}{H:Hp}{a:Addr}{vs:List V}{t:Tag}(h:Bk M ρ H a vs t):iC M.K H a vs\/gH M.K H a vs:=by
 cases t with
 |tu=>exact .inr h
 |fr=>exact .inl (iC.of h.1)
 |st k=>exact .inl (iC.of h.2)
 |fz k=>obtain⟨_,o,h⟩:=h;exact .inl (.inl (.inr ⟨o,h⟩))
noncomputable def Tag.isL:Tag->Bool
 |.tu=>false
 |_=>true
noncomputable def Tag.isM:Tag->Bool
 |.fr=>true
 |.st _=>true
 |_=>false
def Bk.sqL{M:Md}{ρ:List Addr}{H:Hp}{a:Addr}{vs:List V}{t:Tag}(h:Bk M ρ H a vs t)(c:t.isL=true):iC M.K H a vs:=by
 cases t with
 |tu=>cases c
 |fr=>exact iC.of h.1
 |st k=>exact iC.of h.2
 |fz k=>obtain⟨_,o,h⟩:=h;exact .inl (.inr ⟨o,h⟩)
def Bk.sqM{M:Md}{ρ:List Addr}{H:Hp}{a:Addr}{vs:List V}{t:Tag}(h:Bk M ρ H a vs t)(c:t.isM=true):H a=some (.lst vs):=by
 cases t with
 |tu=>cases c
 |fr=>exact h.1
 |st k=>exact h.2
 |fz k=>cases c
def Bk.sqT{M:Md}{ρ:List Addr}{H:Hp}{a:Addr}{vs:List V}{t:Tag}(h:Bk M ρ H a vs t)(c:t.isL=false):gH M.K H a vs:=by
 cases t with
 |tu=>exact h
 |fr=>cases c
 |st k=>cases c
 |fz k=>cases c
def Tag.stays(S:aF)(ds:List D):Tag->Prop
 |.st k=>S[k]?=some (.lst ds)
 |.fz k=>S[k]?=some (.frz ds)
 |_=>True
def gH.ext{K:PySem.W.Frag}{ρ b:List Addr}{H c:Hp}{a:Addr}{vs:List V}(e:bX ρ H b c)(h:gH K H a vs):gH K c a vs:=by
 rcases h with(h|⟨o,h⟩)|h
 ·exact .inl (.inl (e.keep _ _ h (.inr trivial)))
 ·exact .inl (.inr ⟨o,e.keep _ _ h (.inr trivial)⟩)
 ·exact .inr h
def Bk.to{M:Md}{ρ d:List Addr}{S:aF}{H i:Hp}{a:Addr}{vs:List V}{ds:List D}{t:Tag}(h:Bk M ρ H a vs t)(r:bf M ρ H ds vs)(e:bX ρ H d i)(st:fW M d S i)(c:t.stays S ds):∃b,Bk M d i a b t/\bf M d i ds b:=by
 cases t with
 |tu=>exact⟨vs,gH.ext e h,r.ext e⟩
 |fr=>exact⟨vs,⟨e.keep _ _ h.1 (.inl h.2),λm=>(e.new a m).elim h.2 λz=>by have f:=h.1;rw[z] at f;cases f⟩,r.ext e⟩
 | st k=>
   have g:=du e.pre h.1
   obtain⟨b,f,j⟩:=st.obj k a _ g c
   exact⟨b,⟨g,f⟩,j⟩
 | fz k=>
   have g:=du e.pre h.1
   obtain⟨b,o,f,j⟩:=st.obj k a _ g c
   exact⟨b,⟨g,o,f⟩,j⟩
section
variable{X:Cx}{a b c e:Expr}{pos:Pos}
noncomputable def fX(f:fK):dQ:=λd S=>(f d S).bind λ(g,h)=>some ((g,.fr),h)
def Oc{f:fK}(h:PE X e (tL (md X) f)):PE X e (tQ (md X) (fX f)):=jQ h λv H Q p=>by
 obtain⟨i,k,S,w,t,u,ok,e,q⟩:=p
 obtain⟨⟨d,n⟩,o,e⟩:=aq e
 obtain⟨g,rfl⟩:=cc e
 obtain⟨rfl,rfl⟩:=Prod.mk.inj g
 exact⟨i,k,S,d,n,ok,o,λj a y z x l A s m r=>q _ _ _ _ x l ⟨m,s⟩ r⟩
noncomputable def tF(S:aF):D->Option (List D×Tag)
 |.tup d=>some (d,.tu)
 | .ref k=>match S[k]? with
   |some (.lst d)=>some (d,.st k)
   |some (.frz d)=>some (d,.fz k)
   |_=>none
 |_=>none
noncomputable def aU(f:bp):dQ:=λh S=>(f h S).bind λ(d,g)=>(tF g d).bind λp=>some (p,g)
def Hq{M:Md}{ρ:List Addr}{S:aF}{H:Hp}{d:D}{v:V}{ds:List D}{t:Tag}(st:fW M ρ S H)(r:Rel M ρ H d v)(e:tF S d=some (ds,t)):∃a vs,v=.ref a/\Bk M ρ H a vs t/\bf M ρ H ds vs:=by
 cases r with
 |tup h i=>simp only[tF] at e;cases e;exact⟨_,_,rfl,gH.of h,i⟩
 | ref h=>
   simp only[tF] at e
   split at e
   · rename_i q
     cases e
     obtain⟨vs,g,f⟩:=st.obj _ _ _ h q
     exact⟨_,vs,rfl,⟨h,g⟩,f⟩
   · rename_i q
     cases e
     obtain⟨vs,o,g,f⟩:=st.obj _ _ _ h q
     exact⟨_,vs,rfl,⟨h,o,g⟩,f⟩
   · cases e
 |_=>simp only[tF,reduceCtorEq] at e
def tW{f:bp}(h:PE X e (tD (md X) f)):PE X e (tQ (md X) (aU f)):=jQ h λy H Q p=>by
 obtain⟨j,l,S,z,t,w,ok,e,q⟩:=p
 obtain⟨⟨d,m⟩,o,e⟩:=aq e
 obtain⟨⟨n,u⟩,i,e⟩:=aq e
 obtain⟨s,rfl⟩:=cc e
 obtain⟨rfl,rfl⟩:=Prod.mk.inj s
 refine⟨j,l,S,d,m,ok,o,λk v B x g r=> ?_⟩
 obtain⟨a,A,rfl,h1,h2⟩:=Hq g r i
 exact q _ _ _ _ x g h1 h2
def jh{f:dQ}{p:Pos}(l:Gl X "len")(y:X.mg "len"=none)(s:PE X a (tQ (md X) f))(k:starEach [a] X.env= [(false,eval a X.env)]:=by rfl):
  PE X (.Call (.Name "len" p) [a] [] pos) (tD (md X) λg S=>(f g S).bind λ(p,i)=>some (.int p.1.length,i)):=
 jQ (fP xG l y PySem.boot_len (cz s eM k) (he:=k)) λA H Q w=>by
  obtain⟨m,g,S,d,z,ok,e,q⟩:=w
  obtain⟨⟨⟨u,t⟩,i⟩,v,e⟩:=aq e
  obtain⟨rfl,rfl⟩:=cc e
  refine⟨m,g,S,u,t,i,ok,v,λn a j B x o h r=>⟨a,j,rfl,h.sq,?_⟩⟩
  have:=q _ (.int j.length) _ x o (by rw[←r.length];exact .int _)
  exact this
noncomputable def dW(f:dQ):bp:=λd S=>(f d S).bind λ(p,g)=>some (.int p.1.length,g)
noncomputable def yT(S:aF):D->Option Nat
 |.str z=>if z.length<=sizeLine then some z.length else none
 | .ref k=>match S[k]? with
   |some (.dct l)=>some l.length
   |_=>none
 |_=>none
noncomputable def Ht(f:bp):bp:=λh S=>(f h S).bind λ(d,g)=>(yT g d).bind λn=>some (.int n,g)
def KS{f:bp}{p:Pos}(k:Gl X "len")(B:X.mg "len"=none)(u:PE X a (tD (md X) f))(j:starEach [a] X.env= [(false,eval a X.env)]:=by rfl):
  PE X (.Call (.Name "len" p) [a] [] pos) (tD (md X) (Ht f)):=
 jQ (fP (xb.or Dm) k B PySem.boot_len (cz u eM j) (he:=j)) λI H Q A=>by
  obtain⟨l,s,S,d,G,ok,e,q⟩:=A
  obtain⟨⟨C,w⟩,y,e⟩:=aq e
  obtain⟨n,g,e⟩:=aq e
  obtain⟨rfl,rfl⟩:=cc e
  refine⟨l,s,S,C,w,ok,y,λm v J x i r=> ?_⟩
  cases r with
  | str z=>
    simp only[yT] at g
    split at g <;>cases g
    exact .inl ⟨z,rfl,by assumption,q _ _ _ x i (.int _)⟩
  | ref h=>
    simp only[yT] at g
    split at g <;>cases g
    obtain⟨F,t,o⟩:=i.obj _ _ _ h (by assumption)
    refine .inr ⟨_,F,rfl,t,?_⟩
    rw[←o.length]
    exact q _ _ _ x i (.int _)
  |_=>simp only[yT,reduceCtorEq] at g
noncomputable def tupQ(f:dQ):bp:=λd S=>(f d S).bind λ(p,g)=>some (.tup p.1,g)
def oH{f:dQ}{p:Pos}(m:Gl X "tuple")(z:X.mg "tuple"=none)(u:PE X a (tQ (md X) f))(k:starEach [a] X.env= [(false,eval a X.env)]:=by rfl)(ht:∀g S ds t i,f g S=some ((ds,t),i)->t.isL=true):
  PE X (.Call (.Name "tuple" p) [a] [] pos) (tD (md X) (tupQ f)):=
 jQ (p_ uR m z (by rfl) (cz u eM k) (he:=k)) λA H Q y=>by
  obtain⟨n,g,S,d,i,ok,e,q⟩:=y
  obtain⟨⟨⟨ds,t⟩,v⟩,j,e⟩:=aq e
  obtain⟨rfl,rfl⟩:=cc e
  refine⟨n,g,S,ds,t,v,ok,j,λo a w B x s h r=>⟨a,w,rfl,.inl ⟨h.sqL (ht _ _ _ _ _ j),λl hl=> ?_⟩⟩⟩
  exact q _ _ _ (x.trans (bX.laid hl)) (s.lay hl) (.tup bC (r.ext (bX.laid hl)))
def Hn{f:fK}:∀g S ds t d,fX f g S=some ((ds,t),d)->t.isL=true:=λg S ds t d e=>by
 obtain⟨⟨h,j⟩,i,e⟩:=aq e
 cases e
 rfl
noncomputable def dB(f:dQ):dQ:=λd S=>(f d S).bind λ(p,g)=>if p.2.isL=true then some (p,g) else none
def iZ{f:dQ}:∀g S ds t d,dB f g S=some ((ds,t),d)->t.isL=true:=λg S ds t d e=>by
 obtain⟨⟨⟨h,i⟩,k⟩,j,e⟩:=aq e
 dsimp only at e
 split at e <;>cases e
 assumption
def Cu{f:dQ}(h:PE X e (tQ (md X) f)):PE X e (tQ (md X) (dB f)):=jQ h λp H Q j=>by
 obtain⟨i,l,S,r,t,o,ok,e,q⟩:=j
 obtain⟨⟨⟨d,g⟩,n⟩,k,e⟩:=aq e
 dsimp only at e
 split at e
 ·obtain⟨m,rfl⟩:=cc e
  obtain⟨rfl,rfl⟩:=Prod.mk.inj m
  exact⟨i,l,S,d,g,n,ok,k,q⟩
 ·cases e
noncomputable def mf:List D->Option (List Bool)
 | []=>some []
 |.bl b::r=>(mf r).bind λd=>some (b::d)
 |_::_=>none
theorem Gs{M:Md}{ρ:List Addr}{H:Hp}:∀{ds:List D} {vs:List V} {bs:List Bool},bf M ρ H ds vs->mf ds=some bs->vs=bs.map V.bl
 | [],_,_,h,e=>by cases h;cases e;rfl
 | d::ds,_,_,h,e=>by
   cases d with
   | bl b=>
     simp only[mf] at e
     obtain⟨f,g,e⟩:=aq e
     cases e
     cases h with
     | cons h i=>
       cases h
       rw[Gs i g]
       rfl
   |_=>cases e
noncomputable def Fk(f:dQ):bp:=λg S=>(f g S).bind λ(p,h)=>if p.2.isL=true then(mf p.1).bind λd=>some (.bl (d.all id),h) else none
def Pc{f:dQ}{p:Pos}(o:X.calm=true)(j:Gl X "all")(z:X.mg "all"=none)(s:PE X a (tQ (md X) f))(g:starEach [a] X.env= [(false,eval a X.env)]:=by rfl):
  PE X (.Call (.Name "all" p) [a] [] pos) (tD (md X) (Fk f)):=
 jQ (fP (C7 o) j z (by rfl) (cz s eM g) (he:=g)) λC H Q y=>by
  obtain⟨k,m,S,d,B,ok,e,q⟩:=y
  obtain⟨⟨⟨u,t⟩,v⟩,w,e⟩:=aq e
  dsimp only at e
  split at e
  ·rename_i c
   obtain⟨A,i,e⟩:=aq e
   obtain⟨rfl,rfl⟩:=cc e
   refine⟨k,m,S,u,t,v,ok,w,λl a F G x n h r=>⟨a,A,rfl,?_,q _ _ _ x n (.bl _)⟩⟩
   rw[←Gs r i]
   exact h.sqL c
  ·cases e
noncomputable def sV(S:aF)(T:String):D->Option Bool
 |.non=>some (T=="NoneType")
 |.bl _=>some (T=="bool" ||T=="int")
 |.int _=>some (T=="int")
 |.str _=>some (T=="str")
 |.tup _=>some (T=="tuple")
 | .ref k=>match S[k]? with
   |some (.lst _)=>some (T=="list")
   |some (.frz _)=>some (T=="list")
   |some (.dct _)=>some (T=="dict")
   |_=>none
 |.fn _=>none
def FI(K:PySem.W.Frag)(T:String):Prop:=(PySem.W.kitOne K (.type "NoneType") (.type T)=some (T=="NoneType"))/\(PySem.W.kitOne K (.type "bool") (.type T)=some (T=="bool" ||T=="int"))/\(PySem.W.kitOne K (.type "int") (.type T)=some (T=="int"))/\(PySem.W.kitOne K (.type "str") (.type T)=some (T=="str"))∧
 (PySem.W.kitOne K (.type "tuple") (.type T)=some (T=="tuple"))/\(PySem.W.kitOne K (.type "list") (.type T)=some (T=="list"))/\(PySem.W.kitOne K (.type "dict") (.type T)=some (T=="dict"))
noncomputable def kg(T:String)(f:bp):bp:=λh S=>(f h S).bind λ(d,g)=>(sV g T d).bind λk=>some (.bl k,g)
def Pe{T:String}{l:Expr}{f:bp}{p:Pos}(P:FI X.K T)(y:Gl X "isinstance")(U:X.mg "isinstance"=none)(I:PE X a (tD (md X) f))(ht:PE X l (tC (.ty T)))(t:starEach [a,l] X.env= [(false,eval a X.env),(false,eval l X.env)]:=by rfl)(j:starEach [l] X.env= [(false,eval l X.env)]:=by rfl):
  PE X (.Call (.Name "isinstance" p) [a,l] [] pos) (tD (md X) (kg T f)):=
 jQ (fP Eg y U boot_isinstance (cz I (cz ht eM j) (by rw[t,j])) (he:=by rw[t,j]) (hpl:=by rw[j];rfl)) λσ H Q R=>by
  obtain⟨z,C,S,d,Z,ok,e,q⟩:=R
  obtain⟨⟨W,L⟩,N,e⟩:=aq e
  obtain⟨k,i,e⟩:=aq e
  obtain⟨rfl,rfl⟩:=cc e
  obtain⟨F,G,Y,M,J,u,A⟩:=P
  refine⟨z,C,S,W,L,ok,N,λB v H' x s r=> ?_⟩
  have g:=q _ _ _ x s (.bl _)
  cases r with
  |non=>cases i;exact⟨_,_,_,_,rfl,.non,F,g⟩
  |bl=>cases i;exact⟨_,_,_,_,rfl,.bl _,G,g⟩
  |int=>cases i;exact⟨_,_,_,_,rfl,.int _,Y,g⟩
  |str=>cases i;exact⟨_,_,_,_,rfl,.str _,M,g⟩
  |tup h t=>cases i;exact⟨_,_,_,_,rfl,.tup h,J,g⟩
  |fn=>cases i
  | ref h=>
    simp only[sV] at i
    split at i
    · rename_i n;cases i;obtain⟨w,m,_⟩:=s.obj _ _ _ h n;exact⟨_,_,_,_,rfl,.lst m,u,g⟩
    · rename_i n;cases i;obtain⟨w,o,m,_⟩:=s.obj _ _ _ h n;exact⟨_,_,_,_,rfl,.frz m,u,g⟩
    · rename_i n;cases i;obtain⟨w,m,_⟩:=s.obj _ _ _ h n;exact⟨_,_,_,_,rfl,.dK m,A,g⟩
    · cases i
abbrev IS:=List D->Option D
def Fe(M:Md)(r:List V->Hp->VK->Prop)(o:IS):Prop:=∀{f:List Addr} {S:aF} {H:Hp} {g:List D} {d:D} {h:List V} {Q:VK},fW M f S H->bf M f H g h->o g=some d->(∀w,Rel M f H d w->Q w H)->r h H Q
noncomputable def CD(o:IS)(f:fK):bp:=λh S=>(f h S).bind λ(g,i)=>(o g).bind λd=>some (d,i)
def ME{r:List V->Hp->VK->Prop}{o:IS}{f:fK}(t:Fe (md X) r o)(h:PE X e (Ny r (yw (md X) f))):PE X e (tD (md X) (CD o f)):=jQ h λz H Q v=>by
 obtain⟨j,k,S,d,y,ok,e,q⟩:=v
 obtain⟨⟨m,n⟩,u,e⟩:=aq e
 obtain⟨B,x,e⟩:=aq e
 obtain⟨rfl,rfl⟩:=cc e
 exact⟨j,k,S,m,n,ok,u,λi A H1 s g l=>t g l x λw p=>q i w H1 s g p⟩
noncomputable def Er:IS
 | [.int i]=>some (.int (if i<0 then -i else i))
 |_=>none
noncomputable def maxD:IS
 | [.int i,.int j]=>some (.int (if j>i then j else i))
 |_=>none
noncomputable def minD:IS
 | [.int i,.int j]=>some (.int (if j<i then j else i))
 |_=>none
noncomputable def intOfD:IS
 | [.int i]=>some (.int i)
 | [.bl k]=>some (.int (if k then 1 else 0))
 |_=>none
def N_{M:Md}:Fe M (λxs H Q=>∃i,xs= [.int i]/\Q (.int (if i<0 then -i else i)) H) Er:=by
 intro h S H xs d j Q g r e q
 unfold Er at e
 split at e <;>cases e
 cases r with|cons r f=>cases f;cases r;exact⟨_,rfl,q _ (.int _)⟩
def NN{M:Md}:Fe M (λxs H Q=>∃i j,xs= [.int i,.int j]/\Q (.int (if j>i then j else i)) H) maxD:=by
 intro k S H xs d l Q h r e q
 unfold maxD at e
 split at e <;>cases e
 cases r with|cons r f=>cases f with|cons g f=>cases f;cases r;cases g;exact⟨_,_,rfl,q _ (.int _)⟩
def ND{M:Md}:Fe M (λxs H Q=>∃i j,xs= [.int i,.int j]/\Q (.int (if j<i then j else i)) H) minD:=by
 intro k S H xs d l Q h r e q
 unfold minD at e
 split at e <;>cases e
 cases r with|cons r f=>cases f with|cons g f=>cases f;cases r;cases g;exact⟨_,_,rfl,q _ (.int _)⟩
def FR{M:Md}:Fe M (λxs H Q=>(∃i,xs= [.int i]/\Q (.int i) H)\/∃k,xs= [.bl k]/\Q (.int (if k then 1 else 0)) H) intOfD:=by
 intro h S H xs d j Q g r e q
 unfold intOfD at e
 split at e <;>cases e
 ·cases r with|cons r f=>cases f;cases r;exact .inl ⟨_,rfl,q _ (.int _)⟩
 ·cases r with|cons r f=>cases f;cases r;exact .inr ⟨_,rfl,q _ (.int _)⟩
noncomputable def ix:List D->Option (List V)
 | []=>some []
 |d::r=>(xC d).bind λv=>(ix r).bind λf=>some (v::f)
def tM{d:D}{v:V}(e:xC d=some v):gR v=true:=by
 cases d <;>simp[xC] at e <;>subst e <;>rfl
theorem lY{M:Md}{ρ:List Addr}{H:Hp}:∀{ds:List D} {f vs:List V},bf M ρ H ds f->ix ds=some vs->f=vs/\vs.all gR=true
 |_,_,_,.nil,e=>by cases e;exact⟨rfl,rfl⟩
 | _,_,_,.cons h hs,e=>by
   obtain⟨v,d,e⟩:=aq e
   obtain⟨vs,g,e⟩:=aq e
   cases e
   obtain⟨j,i⟩:=lY hs g
   rw[om h d,j]
   exact⟨rfl,by rw[List.all_cons,tM d,i];rfl⟩
noncomputable def GW(d:Bool)(f:bp)(g:dQ):bp:=λi S=>(f i S).bind λ(x,k)=>(g i k).bind λ(p,j)=>(xC x).bind λv=>(ix p.1).bind λh=>some (.bl (if d then !Ec v h else Ec v h),j)
def uI{f:bp}{t:TE}(n:∀d H Q,tD (md X) f d H Q->t d H Q)(h:PT X e (Fx t)):PT X e (tB (md X) (aP f)):=Nw h λd H Q ⟨j,m,S,k,i,ok,e,q⟩=>
 n _ _ _ ⟨j,m,S,.bl k,i,ok,uE e,λl v o x g r=>by cases r;exact⟨k,rfl,q _ _ x g⟩⟩
def IC{h:Bool}{f:bp}{g:dQ}:∀i H Q,tD (md X) (GW h f g) i H Q->GC (NY X.K h) (tD (md X) f) (tQ (md X) g) i H Q:=λi H Q I=>by
 obtain⟨s,m,S,d,P,ok,e,q⟩:=I
 obtain⟨⟨x,n⟩,G,e⟩:=aq e
 obtain⟨⟨⟨B,t⟩,J⟩,r,e⟩:=aq e
 obtain⟨v,p,e⟩:=aq e
 obtain⟨R,C,e⟩:=aq e
 obtain⟨rfl,rfl⟩:=cc e
 refine⟨s,m,S,x,n,ok,G,λk u H1 o j y=>⟨k,m,n,B,t,J,ok.to o j,r,λF a A H2 M l w L=> ?_⟩⟩
 cases om y p
 obtain⟨z,N⟩:=lY L C
 subst z
 exact⟨a,A,rfl,w.sq,tM p,N,q _ _ _ (o.trans M) l (.bl _)⟩
def NS{f:bp}{g:dQ}(h:PE X a (tD (md X) f))(i:PE X b (tQ (md X) g))(d:behindInMarks .In b=false:=by rfl):PT X (.Compare a [.In] [b] pos) (tB (md X) (aP (GW false f g))):=uI IC (pd Dr h i d)
def Np{f:bp}{g:dQ}(h:PE X a (tD (md X) f))(i:PE X b (tQ (md X) g))(d:behindInMarks .NotIn b=false:=by rfl):PT X (.Compare a [.NotIn] [b] pos) (tB (md X) (aP (GW true f g))):=uI IC (pd yu h i d)
end
inductive Out where
 |nx (Γ:cq) (S:aF)|bk (Γ:cq) (S:aF)|ct (Γ:cq) (S:aF)|rt (d:D) (S:aF)|rl (ds:List D) (S:aF)
abbrev cI:=cq->aF->Option Out
def xn(M:Md)(ρ:List Addr)(H:Hp)(D:Ends):Out->Prop
 |.nx f g=>∀b e c,bX ρ H b c->Ok M b f g e c->D.nx e c
 |.bk f g=>∀b e c,bX ρ H b c->Ok M b f g e c->D.bk e c
 |.ct f g=>∀b e c,bX ρ H b c->Ok M b f g e c->D.ct e c
 |.rt d g=>∀b v c,bX ρ H b c->fW M b g c->Rel M b c d v->D.rt v c
 |.rl i g=>∀b a h c,bX ρ H b c->fW M b g c->H a=none->a∉b->c a=some (.lst h)->bf M b c i h->D.rt (.ref a) c
def xn.to{M:Md}{ρ c:List Addr}{H H1:Hp}{D:Ends}{o:Out}(h:xn M ρ H D o)(e:bX ρ H c H1):xn M c H1 D o:=by
 cases o with
 |nx=>exact λb d f x ok=>h _ _ _ (e.trans x) ok
 |bk=>exact λb d f x ok=>h _ _ _ (e.trans x) ok
 |ct=>exact λb d f x ok=>h _ _ _ (e.trans x) ok
 |rt=>exact λb v f x g r=>h _ _ _ (e.trans x) g r
 |rl=>exact λb a l f x g j k i r=>h _ _ _ _ (e.trans x) g (e.grow _ j) k i r
def tS(M:Md)(g:cI):TS:=λD c H=>∃a b S o,Ok M a b S c H/\g b S=some o/\xn M a H D o
section
variable{X:Cx}{a b c e:Expr}{pos:Pos}{st:Stmt}{rest body other:List Stmt}
noncomputable def fJ:cI:=λd S=>some (.nx d S)
def lN:rL X [] (tS (md X) fJ):=LZ G9 λD f H ⟨d,g,S,o,ok,e,q⟩=>by cases e;exact q _ _ _ bX.refl ok
noncomputable def aE(f g:cI):cI:=λh S=>(f h S).bind λo=>match o with
 |.nx d i=>g d i
 |o=>some o
def bG{f g:cI}(n:PS X st (tS (md X) f))(k:rL X rest (tS (md X) g)):rL X (st::rest) (tS (md X) (aE f g)):=LZ (Ge n k) λD v H u=>by
 obtain⟨l,m,S,o,ok,e,q⟩:=u
 obtain⟨j,t,e⟩:=aq e
 refine⟨l,m,S,j,ok,t,?_⟩
 cases j with
 |nx d r=>exact λi p H1 s h=>⟨i,d,r,o,h,e,q.to s⟩
 |bk=>cases e;exact q
 |ct=>cases e;exact q
 |rt=>cases e;exact q
 |rl=>cases e;exact q
def eP{f:cI}(d:PS X st (tS (md X) f)):rL X [st] (tS (md X) f):=Hm d
noncomputable def never:cI:=λ_ _=>none
def Nv:PS X st (tS (md X) never):=AX FK λD f H ⟨d,g,S,o,ok,e,q⟩=>by cases e
noncomputable def OE:cI:=λd S=>some (.bk d S)
def Hi:PS X (.Break pos) (tS (md X) OE):=AX F6 λD f H ⟨d,g,S,o,ok,e,q⟩=>by cases e;exact q _ _ _ bX.refl ok
noncomputable def sZ(f:bp):cI:=λd S=>(f d S).bind λ(_,g)=>some (.nx d g)
def uv{f:bp}(h:PE X e (tD (md X) f))(n:swapsWith e none pos.line X.env=pure false:=by rfl):PS X (.Expr e pos) (tS (md X) (sZ f)):=AX (Ie h n) λD p H m=>by
 obtain⟨g,j,S,o,ok,e,q⟩:=m
 obtain⟨⟨d,k⟩,l,e⟩:=aq e
 cases e
 exact⟨g,j,S,d,k,ok,l,λi v s x st r=>q _ _ _ x (ok.to x st)⟩
noncomputable def cp(f:bp):cI:=λg S=>(f g S).bind λ(d,h)=>some (.rt d h)
def ji{f:bp}(h:PE X e (tD (md X) f)):PS X (.Return (some e) pos) (tS (md X) (cp f)):=AX (EA h) λD m H j=>by
 obtain⟨g,k,S,o,ok,e,q⟩:=j
 obtain⟨⟨d,l⟩,i,e⟩:=aq e
 cases e
 exact⟨g,k,S,d,l,ok,i,q⟩
noncomputable def Jc(f:fK):cI:=λd S=>(f d S).bind λ(g,h)=>some (.rl g h)
def N4{f:fK}(h:PE X e (tL (md X) f)):PS X (.Return (some e) pos) (tS (md X) (Jc f)):=AX (EA h) λD m H j=>by
 obtain⟨g,k,S,o,ok,e,q⟩:=j
 obtain⟨⟨d,l⟩,i,e⟩:=aq e
 cases e
 exact⟨g,k,S,d,l,ok,i,q⟩
noncomputable def fj(c:iG)(f g:cI):cI:=λd S=>(c d S).bind λ(k,h)=>if k=true then f d h else g d h
def tH{h:iG}{f g:cI}(p:PT X c (tB (md X) h))(r:rL X body (tS (md X) f))(s:rL X other (tS (md X) g)):PS X (.If c body other pos) (tS (md X) (fj h f g)):=AX (MH p r s) λD v H u=>by
 obtain⟨n,l,S,o,ok,e,q⟩:=u
 obtain⟨⟨k,m⟩,t,e⟩:=aq e
 refine⟨n,l,S,k,m,ok,t,λi H1 j d=> ?_⟩
 dsimp only at e
 split at e
 ·rename_i c
  rw[Qhq c]
  exact⟨i,l,m,o,ok.to j d,e,q.to j⟩
 ·rename_i c
  rw[Quq c]
  exact⟨i,l,m,o,ok.to j d,e,q.to j⟩
abbrev mB:=D->cq->aF->Option (cq×aF)
abbrev rH:=List D->cq->aF->Option (cq×aF)
def tG(M:Md)(g:mB):TG:=λv n H Q=>∃j m S d f l,Ok M j m S n H/\Rel M j H d v/\g d m S=some (f,l)/\∀h i k,bX j H h k->Ok M h f l i k->Q i k
def Ni(M:Md)(g:rH):Ii:=λn o H Q=>∃i l S m d k,Ok M i l S o H/\bf M i H m n/\g m l S=some (d,k)/\∀f h j,bX i H f j->Ok M f d k h j->Q h j
def NF{t t':TG}(h:PG X e t)(w:∀v f H Q,t' v f H Q->t v f H Q):PG X e t':=λd s f H v u Q I r q=>h d s f H v u Q I r (w _ _ _ _ q)
def Mr{g:List Expr}{t t':Ii}(h:GB X g t)(w:∀v f H Q,t' v f H Q->t v f H Q):GB X g t':=λd s f H v u Q I r q=>h d s f H v u Q I r (w _ _ _ _ q)
noncomputable def bF(i:Nat):mB:=λd f S=>some (f.set i (some d),S)
def FL{i:Nat}(h:PG X e (ph i)):PG X e (tG (md X) (bF i)):=NF h λv l H Q g=>by
 obtain⟨k,m,S,d,f,j,ok,r,e,q⟩:=g
 cases e
 exact q _ _ _ bX.refl ⟨ok.en.set r,ok.st⟩
noncomputable def df:rH:=λd f S=>match d with
 | []=>some (f,S)
 |_=>none
noncomputable def aK(f:mB)(g:rH):rH:=λj i S=>match j with
 |d::r=>(f d i S).bind λ(h,k)=>g r h k
 | []=>none
def AY:GB X [] (Ni (md X) df):=Mr Ik λh i H Q f=>by
 obtain⟨j,k,S,l,d,g,ok,r,e,q⟩:=f
 cases r with
 |nil=>cases e;exact⟨rfl,q _ _ _ bX.refl ok⟩
 |cons=>cases e
def mz{h:List Expr}{f:mB}{g:rH}(u:PG X e (tG (md X) f))(p:GB X h (Ni (md X) g))(C:(assignEach (e::h) X.env).map (·.2)=assign e X.env::(assignEach h X.env).map (·.2):=by rfl):GB X (e::h) (Ni (md X) (aK f g)):=
 Mr (FT u p C) λI F H Q y=>by
  obtain⟨s,t,S,G,i,o,ok,r,e,q⟩:=y
  cases r with
  |nil=>cases e
  | cons r z=>
    obtain⟨⟨d,m⟩,x,e⟩:=aq e
    refine⟨_,_,rfl,s,t,S,_,d,m,ok,r,x,λk v H1 n j=>⟨k,d,m,_,i,o,j,z.ext n,e,λw A H2 B l=>q _ _ _ (n.trans B) l⟩⟩
noncomputable def iD(g:rH):mB:=λd f S=>match d with
 |.tup h=>g h f S
 |_=>none
noncomputable def nG(n:Nat)(g:rH):rH:=λd f S=>if d.length=n then g d f S else none
def Ep{f:List Expr}{k:Nat}{g:rH}{n:Nat}(t:X.calm=true)(h:GB X f (Ni (md X) g))(o:(assignEach f X.env).length=n:=by rfl)(j:(assignEach f X.env).findIdx? (·.1)=none:=by rfl):
  PG X (.Tuple f k pos) (tG (md X) (iD (nG n g))):=NF (JH t h o j) λv u H Q ⟨p,s,S,d,i,m,ok,r,e,q⟩=>by
 cases r with
 | tup h l=>
   simp only[iD,nG] at e
   split at e
   · rename_i c
     exact⟨_,_,rfl,gH.of h,by rw[←l.length];exact c,p,s,S,_,i,m,ok,l,e,q⟩
   · cases e
 |_=>cases e
noncomputable def oD(f:bp)(g:mB):cI:=λi S=>(f i S).bind λ(d,k)=>(g d i k).bind λ(h,j)=>some (.nx h j)
def LS{f:bp}{g:mB}:∀D h H,tS (md X) (oD f g) D h H->D1 (tD (md X) f) (tG (md X) g) D h H:=λD h H x=>by
 obtain⟨s,m,S,o,ok,e,q⟩:=x
 obtain⟨⟨d,n⟩,w,e⟩:=aq e
 obtain⟨⟨k,z⟩,r,e⟩:=aq e
 cases e
 exact⟨s,m,S,d,n,ok,w,λj v H1 p i t=>⟨j,m,n,d,k,z,ok.to p i,t,r,λu y H2 A l=>q _ _ _ (p.trans A) l⟩⟩
def ID{d:Expr}{f:bp}{g:mB}(he:PE X e (tD (md X) f))(h:PG X d (tG (md X) g))(j:swapsWithSole [d] e pos.line X.env=pure false:=by rfl)(i:swappedStores [d] e X.env=pure none:=by rfl)
  (k:(assignEach [d] X.env).map (·.2)= [assign d X.env]:=by rfl):PS X (.Assign [d] e pos) (tS (md X) (oD f g)):=AX (Jk he h j i k) LS
noncomputable def aX(i:Nat)(f:bp):cI:=λg S=>(f g S).bind λ(d,h)=>some (.nx (g.set i (some d)) h)
def Mb{i:Nat}{f:bp}(h:PS X st (D1 (tD (md X) f) (ph i))):PS X st (tS (md X) (aX i f)):=AX h λD t H s=>by
 obtain⟨k,l,S,o,ok,e,q⟩:=s
 obtain⟨⟨d,n⟩,r,e⟩:=aq e
 cases e
 exact⟨k,l,S,d,n,ok,r,λp v H1 j g m=>q _ _ _ j ⟨(ok.en.ext j).set m,g⟩⟩
abbrev uN:=cq->aF->Option ((List D×(aF->Prop))×aF)
def Walks(M:Md)(J:It)(ρ:List Addr)(H:Hp)(ds:List D)(W:aF->Prop):Prop:=∀(i:Nat) (f:List Addr) (j:aF) (h:Hp),bX ρ H f h->fW M f j h->W j→
 (∀d,ds[i]?=some d->J.go i h/\∀x g,J.yld i h x g->bX f h f g/\fW M f j g/\Rel M f g d x)/\(i=ds.length->J.stop i h)
def tI(M:Md)(f:uN):TI:=λl H R=>∃i j S k W h,Ok M i j S l H/\f j S=some ((k,W),h)/\∀d J g,bX i H d g->fW M d h g->Walks M J d g k W->R J g
def M_{g:Expr}{t t':TI}(h:PI X g e t)(w:∀f H R,t' f H R->t f H R):PI X g e t':=λd s f H R I q=>h d s f H R I (w _ _ _ q)
def Kf{u l:Expr}{r:TE}(hl:PE X l r):PI X u l (λk H R=>r k H λx H1=>∃a,x=.ref a/\((∃xs,iC X.K H1 a xs)/\R (Pm X.K a) H1\/(∃xs,gH X.K H1 a xs)/\R (OW X.K a) H1)):=by
 intro g s k H R I h
 refine cR (hl g s k H _ I h) λv d z=> ?_
 obtain⟨x,H1,f,t,j⟩:=z
 obtain⟨a,e,j⟩:=j
 subst e
 cases t
 rcases j with⟨⟨xs,m⟩,q⟩|⟨⟨xs,m⟩,q⟩
 ·obtain⟨i,w,p,y⟩:=f.list m
  refine wpAny_pyIter_list p.isList ?_
  refine⟨d.heap.objs.size,[d.heap.objs.size],_,_,H1,rfl,f.kept (t':=d.toks) λb o e=>Qcq _ e,C6 a _,⟨_,Qrq _ rfl,rfl,rfl⟩,λb n=> ?_,q⟩
  have e:b=d.heap.objs.size:=by simpa using n
  subst e
  exact f.fpOk (Qmq _) (f.hok.fresh (Qmq _))
 ·obtain⟨i,w,p,y⟩:=f.tuple m
  refine wpAny_pyIter_tuple (show d.heap.IsTuple a i.toArray from p) ?_
  refine⟨d.heap.objs.size,[d.heap.objs.size],_,_,H1,rfl,f.kept (t':=d.toks) λb o e=>Qcq _ e,BA a _,⟨_,Qrq _ rfl,rfl,rfl⟩,λb n=> ?_,q⟩
  have e:b=d.heap.objs.size:=by simpa using n
  subst e
  exact f.fpOk (Qmq _) (f.hok.fresh (Qmq _))
noncomputable def jq(f:dQ):uN:=λg S=>(f g S).bind λ(p,h)=>some ((p.1,λd=>p.2.stays d p.1),h)
def OJ{L l:Expr}{f:dQ}(hl:PE X l (tQ (md X) f)):PI X L l (tI (md X) (jq f)):=M_ (Kf hl) λU H R N=>by
 obtain⟨G,J,S,Y,W,Q,ok,e,q⟩:=N
 obtain⟨⟨⟨u,t⟩,K⟩,M,e⟩:=aq e
 obtain⟨F,rfl⟩:=cc e
 obtain⟨rfl,rfl⟩:=Prod.mk.inj F
 refine⟨G,J,S,u,t,K,ok,M,λI a C Z x st h r=>⟨a,rfl,?_⟩⟩
 cases c:t.isL with
 | true=>
   refine .inl ⟨⟨C,h.sqL c⟩,q _ _ _ x st λi y P H2 A j w=> ?_⟩
   obtain⟨g,z,n⟩:=h.to r A j w
   have k:=z.sqL c
   refine⟨λd p=> ?_,λB=>⟨g,k,by rw[B,n.length];exact Qmq _⟩⟩
   obtain⟨v,o,s⟩:=n.get p
   refine⟨⟨g,v,k,o⟩,λx H3 m=> ?_⟩
   obtain⟨rfl,m⟩:=m
   have:=m g k
   rw[o] at this
   cases this
   exact⟨bX.refl,j,s⟩
 | false=>
   refine .inr ⟨⟨C,h.sqT c⟩,q _ _ _ x st λi y P H2 A j w=> ?_⟩
   obtain⟨g,z,n⟩:=h.to r A j w
   have k:=z.sqT c
   refine⟨λd p=> ?_,λB=>⟨g,k,by rw[B,n.length];exact Qmq _⟩⟩
   obtain⟨v,o,s⟩:=n.get p
   refine⟨⟨g,v,k,o⟩,λx H3 m=> ?_⟩
   obtain⟨rfl,m⟩:=m
   have:=m g k
   rw[o] at this
   cases this
   exact⟨bX.refl,j,s⟩
noncomputable def iE(lo hi:Int):List D:=(List.range (hi-lo).toNat).map λ(i:Nat)=>D.int (lo+(i:Int))
noncomputable def ia(f:bp):uN:=λg S=>(f g S).bind λ(d,h)=>match d with
 |.int j=>if -(2^62)<=j/\j<2^62 then some ((iE 0 j,λ_=>True),h) else none
 |_=>none
def v5{M:Md}{ρ:List Addr}{H:Hp}{lo hi:Int}:Walks M (Ml lo (hi-lo).toNat) ρ H (iE lo hi) (λ_=>True):=λi j n H2 o f w=>by
 unfold iE
 refine⟨λd g=> ?_,λhi=>by rw[lQm,QVq] at hi;exact Nat.le_of_eq hi.symm⟩
 rw[gQm] at g
 obtain⟨k,l,rfl⟩:=oQm.mp g
 have hl:=(gQs.mp l)
 obtain⟨hl,h⟩:=hl
 rw[List.getElem_range] at h
 subst h
 rw[QVq] at hl
 refine⟨hl,λx H3 m=> ?_⟩
 obtain⟨rfl,rfl⟩:=m
 exact⟨bX.refl,f,.int _⟩
def wm{s a:Expr}{f:bp}{p:Pos}(l:Gl X "range")(w:X.mg "range"=none)(n:PE X a (tD (md X) f))(i:starEach [a] X.env= [(false,eval a X.env)]:=by rfl):PI X s (.Call (.Name "range" p) [a] [] pos) (tI (md X) (ia f)):=
 M_ (Dx l w (ay n aS i) i) λA H R u=>by
  obtain⟨ρ,m,S,B,W,z,ok,e,q⟩:=u
  obtain⟨⟨d,o⟩,t,e⟩:=aq e
  dsimp only at e
  split at e
  ·rename_i j
   split at e
   ·rename_i h
    obtain⟨k,rfl⟩:=cc e
    obtain⟨rfl,rfl⟩:=Prod.mk.inj k
    refine⟨ρ,m,S,[.int j],o,ok,by unfold ar av;rw[t];rfl,λg C v x st r=> ?_⟩
    cases r with
    | cons r y=>
      cases y
      cases r
      refine⟨j,rfl,h.1,h.2,q _ _ _ x st ?_⟩
      have:=v5 (M:=md X) (ρ:=g) (H:=v) (lo:=0) (hi:=j)
      rw[Int.sub_zero] at this
      exact this
   ·cases e
  ·cases e
noncomputable def Il(f g:bp):uN:=λh S=>(f h S).bind λ(d,l)=>(g h l).bind λ(m,k)=>match d,m with
 |.int i,.int j=>if -(2^62)<=i/\i<2^62/\ -(2^62)<=j/\j<2^62 then some ((iE i j,λ_=>True),k) else none
 |_,_=>none
def Om{w a b:Expr}{f g:bp}{p:Pos}(n:Gl X "range")(G:X.mg "range"=none)(v:PE X a (tD (md X) f))(y:PE X b (tD (md X) g))(l:starEach [a,b] X.env= [(false,eval a X.env),(false,eval b X.env)]:=by rfl)(h:starEach [b] X.env= [(false,eval b X.env)]:=by rfl):PI X w (.Call (.Name "range" p) [a,b] [] pos) (tI (md X) (Il f g)):=
 M_ (D5 n G (ay v (ay y aS h) (by rw[l,h])) l h) λK H R A=>by
  obtain⟨o,t,S,L,W,J,ok,e,q⟩:=A
  obtain⟨⟨d,M⟩,z,e⟩:=aq e
  obtain⟨⟨C,F⟩,m,e⟩:=aq e
  cases d with
  | int i=>
    cases C with
    | int j=>
      dsimp only at e
      split at e
      · rename_i I
        obtain⟨B,rfl⟩:=cc e
        obtain⟨rfl,rfl⟩:=Prod.mk.inj B
        refine⟨o,t,S,[.int i,.int j],F,ok,by simp only[ar,av,z,Qbq,m],λs N P x st r=> ?_⟩
        cases r with
        | cons r k=>
          cases k with
          | cons u k=>
            cases k
            cases r
            cases u
            exact⟨i,j,rfl,I,q _ _ _ x st v5⟩
      · cases e
    |_=>cases e
  |_=>cases e
open Classical in
def forL(g:mB)(b:cI)(W:aF->Prop):List D->cq->aF->Option Out
 | [],Γ,S=>if W S then some (.nx Γ S) else none
 |d ::ds,Γ,S=>if W S then(g d Γ S).bind λ(i,j)=>(b i j).bind λo=>match o with
    |.nx f h=>forL g b W ds f h
    |.ct f h=>forL g b W ds f h
    |.bk f h=>some (.nx f h)
    |.rt x h=>some (.rt x h)
    |.rl x h=>some (.rl x h)
  else none
def iu(i:uN)(g:mB)(b:cI):cI:=λd S=>(i d S).bind λ(p,f)=>forL g b p.2 p.1 d f
def zS{R j:Expr}{i:uN}{g:mB}{f:cI}(hp:PassesOwn (model X.prog X.w) X.A X.env X.xe)(hc:X.calm=true)(hi:PI X R j (tI (md X) i))(hg:PG X R (tG (md X) g))(hb:rL X body (tS (md X) f))
  (hs:∀x,foldedSetIterable j X.env x=pure x:=by intro _;rfl):PS X (.For R j body [] pos) (tS (md X) (iu i g f)):=AX (Jm hp hc hi hg hb hs) λD σ H ⟨ρ,Γ,S,o,ok,e,q⟩=>by
 obtain⟨⟨⟨h,W⟩,S1⟩,e1,e⟩:=aq e
 refine⟨ρ,Γ,S,h,W,S1,ok,e1,λv J H1 x1 Y wk=> ?_⟩
 have M:=q.to x1
 have Q:=ok.to x1 Y
 refine⟨λi m s y=>m=h.length-i/\i<=h.length/\∃d t z,bX v H1 d y/\Ok (md X) d t z s y/\forL g f W (h.drop i) t z=some o,⟨h.length,by simp,Nat.zero_le _,v,Γ,S1,bX.refl,Q,e⟩,?_⟩
 rintro i m a1 H2 ⟨rfl,hi,d,t,z,x2,ok2,e2⟩
 by_cases u:i<h.length
 ·have hd:h[i]?=some h[i]:=gQe u
  rw[QWq u] at e2
  unfold forL at e2
  split at e2
  ·rename_i w
   obtain⟨w1,w2⟩:=wk i d z H2 x2 ok2.st w
   obtain⟨go,Z⟩:=w1 _ hd
   refine .inr ⟨go,λs y=>∃r p L,bX v H1 r y/\Ok (md X) r p L s y/\forL g f W (h.drop (i+1)) p L=some o,λs y ⟨r,p,L,h1,h2,h3⟩=>⟨h.length-(i+1),by omega,rfl,u,r,p,L,h1,h2,h3⟩,λx H3 hy=> ?_⟩
   obtain⟨x3,N,r3⟩:=Z x H3 hy
   obtain⟨⟨F,S4⟩,e4,e5⟩:=aq e2
   refine⟨d,t,z,_,F,S4,ok2.to x3 N,r3,e4,λP a2 H4 x4 U=> ?_⟩
   obtain⟨o5,e6,G⟩:=aq e5
   have I:=(x2.trans x3).trans x4
   refine⟨P,F,S4,o5,U,e6,?_⟩
   cases o5 with
   |nx n B=>exact λl C H6 K k=>⟨l,n,B,I.trans K,k,G⟩
   |ct n B=>exact λl C H6 K k=>⟨l,n,B,I.trans K,k,G⟩
   |bk n B=>cases G;exact λl C H6 K k=>M _ _ _ (I.trans K) k
   |rt d6 B=>cases G;exact M.to I
   |rl d6 B=>cases G;exact M.to I
  ·cases e2
 ·have e3:i=h.length:=by omega
  subst e3
  rw[List.drop_length] at e2
  unfold forL at e2
  split at e2
  ·rename_i w
   cases e2
   obtain⟨w1,w2⟩:=wk h.length d z H2 x2 ok2.st w
   exact .inl ⟨w2 rfl,M _ _ _ x2 ok2⟩
  ·cases e2
end
section
variable{M:Md}{ρ:List Addr}{H:Hp}{b:Addr}{us ws:List V}
mutual
theorem Rel.off(a:H b=some (.lst us)):∀{d:D} {v:V},Rel M ρ H d v->Rel M ρ (upd H b (.lst ws)) d v
 |_,_,.non=>.non
 |_,_,.bl x=>.bl x
 |_,_,.int i=>.int i
 |_,_,.str x=>.str x
 |_,_,.tup h hs=>.tup (by rw[bg (EZ h a (by intro z;cases z))];exact h) (bf.off a hs)
 |_,_,.ref h=>.ref h
 |_,_,.fn h=>.fn h
theorem bf.off(a:H b=some (.lst us)):∀{ds:List D} {vs:List V},bf M ρ H ds vs->bf M ρ (upd H b (.lst ws)) ds vs
 |_,_,.nil=>.nil
 |_,_,.cons h hs=>.cons (Rel.off a h) (bf.off a hs)
end
theorem fW.off{S:aF}(st:fW M ρ S H)(f:H b=some (.lst us))(n:b∉ρ):fW M ρ S (upd H b (.lst ws)):=⟨st.len,st.nd,λk a o h i=>by
 have q:=st.obj k a o h i
 have e:a≠b:=λz=>n (z▸mQg h)
 cases o with
 |lst l=>obtain⟨g,c,d⟩:=q;exact⟨g,by rw[bg e];exact c,d.off f⟩
 |frz l=>obtain⟨g,o,c,d⟩:=q;exact⟨g,o,by rw[bg e];exact c,d.off f⟩
 |dct j=>obtain⟨m,c,d⟩:=q;exact⟨m,by rw[bg e];exact c,d.imp λ_ _ r=>r.off f⟩⟩
def En.off{c:cq}{a:L2.St}(h:En M ρ H c a)(e:H b=some (.lst us)):En M ρ (upd H b (.lst ws)) c a:=⟨h.len,λi d q=>by obtain⟨v,g,f⟩:=h.get i d q;exact⟨v,g,f.off e⟩⟩
def bX.off{d:List Addr}{f:Hp}(e:bX d f ρ H)(g:f b=none)(u:HO):bX d f ρ (upd H b u):=⟨e.pre,e.new,λa o h c=>by rw[bg (ft h g)];exact e.keep a o h c,λa h=>by
 by_cases z:a=b
 ·subst z;exact g
 ·rw[bg z] at h;exact e.grow a h⟩
end
noncomputable def nF(js:List (Option Nat))(a:cq):cq:=js.map λo=>o.bind λj=>a.getD j none
def En.sig{M:Md}{ρ:List Addr}{H:Hp}{a:cq}{c:L2.St}(js:List (Option Nat))(h:En M ρ H a c):En M ρ H (nF js a) (kd js c) where
 len:=by unfold nF kd;rw[lQm,lQm]
 get:=λi d q=>by
  unfold nF at q
  unfold kd
  rw[gQm] at q⊢
  cases e:js[i]? with
  |none=>rw[e] at q;cases q
  | some o=>
    rw[e] at q
    cases o with
    |none=>cases q
    | some j=>
      have b:a.getD j none=some d:=QdQ q
      have k:a[j]?=some (some d):=by
        rw[Qlq] at b
        cases z:a[j]? with
        |none=>rw[z] at b;cases b
        |some y=>rw[z] at b;exact congrArg some b
      obtain⟨v,g,f⟩:=h.get j d k
      refine⟨v,?_,f⟩
      show some (c.getD j none)=some (some v)
      rw[Qlq,g]
      rfl
open Classical in
def mW(g:mB)(t:iG)(f:bp)(W:aF->Prop):List D->cq->aF->List D->Option (List D×aF)
 | [],Γ,S,acc=>if W S then some (acc,S) else none
 |d ::ds,Γ,S,acc=>if W S then(g d Γ S).bind λ(a,e)=>(t a e).bind λ(k,b)=>
    if k=true then(f a b).bind λ(y,c)=>if acc.length<sizeLine then mW g t f W ds a c (acc++ [y]) else none
    else mW g t f W ds a b acc
  else none
def bD(js:List (Option Nat))(i:uN)(g:mB)(t:iG)(f:bp):fK:=λa S=>(i a S).bind λ(p,b)=>mW g t f p.2 p.1 (nF js a) b []
section
variable{M:Md}
def Ek{js:List (Option Nat)}{i:uN}{g:mB}{t:iG}{f:bp}:∀U H Q,tL M (bD js i g t f) U H Q->FB js (tI M i) (tG M g) (tB M t) (tD M f) U H Q:=λU H Q qq=>by
 obtain⟨ρ,Γ,S,rs,S',ok,e,q⟩:=qq
 obtain⟨⟨⟨j,W⟩,S1⟩,e1,e⟩:=aq e
 refine⟨ρ,Γ,S,j,W,S1,ok,e1,λn J H1 X R wk D K=> ?_⟩
 have n1:D∉n:=dg X R K
 have a5:Ok M n (nF js Γ) S1 (kd js U) (upd H1 D (.lst [])):=⟨((ok.en.ext X).ext (bX.laid K)).sig js,R.lay K⟩
 refine⟨λi m A d=>m=j.length-i/\i<=j.length/\∃b B L c h,bX n H1 b d/\Ok M b B L A d/\D∉b/\d D=some (.lst h)/\bf M b d c h/\mW g t f W (j.drop i) B L c=some (rs,S'),
  ⟨j.length,by simp,Nat.zero_le _,n,_,S1,[],[],bX.laid K,a5,n1,bC,.nil,e⟩,?_⟩
 rintro i m a9 H2 ⟨rfl,hi,b,B,L,c,h,x2,ok2,n2,hD2,racc,e2⟩
 by_cases G:i<j.length
 ·have hd:j[i]?=some j[i]:=gQe G
  rw[QWq G] at e2
  unfold mW at e2
  split at e2
  ·rename_i w
   obtain⟨w1,w2⟩:=wk i b L H2 x2 ok2.st w
   obtain⟨go,a7⟩:=w1 _ hd
   refine .inr ⟨go,λA d=>∃a s p c h,bX n H1 a d/\Ok M a s p A d/\D∉a/\d D=some (.lst h)/\bf M a d c h/\mW g t f W (j.drop (i+1)) s p c=some (rs,S'),
    λA d ⟨a,s,p,c,h,h1,h2,h3,h4,h5,h6⟩=>⟨j.length-(i+1),by omega,rfl,G,a,s,p,c,h,h1,h2,h3,h4,h5,h6⟩,λx H3 hy=> ?_⟩
   obtain⟨x3,a1,r3⟩:=a7 x H3 hy
   obtain⟨⟨l,S4⟩,e4,e5⟩:=aq e2
   refine⟨b,B,L,_,l,S4,ok2.to x3 a1,r3,e4,λa4 b0 H4 x4 u=> ?_⟩
   obtain⟨⟨k,S5⟩,e6,Y⟩:=aq e5
   refine⟨a4,l,S4,k,S5,u,e6,λP H5 Z N=> ?_⟩
   have o:=(x3.trans x4).trans Z
   have C:∀{a d},bX b H2 a d->d D=some (.lst h)/\D∉a:=λ{a d} x=>⟨x.keep _ _ hD2 (.inl n2),λm=>(x.new _ m).elim n2 λz=>by rw[z] at hD2;cases hD2⟩
   dsimp only at Y⊢
   split at Y
   ·rename_i ck
    rw[Qhq ck]
    obtain⟨⟨y,S6⟩,e8,e9⟩:=aq Y
    refine⟨P,l,S5,y,S6,u.to Z N,e8,λa2 v H6 x6 a3 r6=> ?_⟩
    have F:=o.trans x6
    obtain⟨r,n6⟩:=C F
    have I:=racc.ext F
    dsimp only at e9
    split at e9
    ·rename_i cl
     refine⟨h,r,by rw[←racc.length];exact cl,a2,l,S6,c++ [y],h++ [v],(x2.trans F).off K _,⟨((u.en.ext Z).ext x6).off r,a3.off r n6⟩,n6,bC,(I.append (.cons r6 .nil)).off r,e9⟩
    ·cases e9
   ·rename_i ck
    rw[Quq ck]
    obtain⟨a6,n5⟩:=C o
    exact⟨P,l,S5,c,h,x2.trans o,u.to Z N,n5,a6,racc.ext o,Y⟩
  ·cases e2
 ·have e3:i=j.length:=by omega
  subst e3
  rw[List.drop_length] at e2
  unfold mW at e2
  split at e2
  ·rename_i w
   obtain⟨rfl,rfl⟩:=cc e2
   obtain⟨w1,w2⟩:=wk j.length b L H2 x2 ok2.st w
   exact .inl ⟨w2 rfl,q b D h H2 (X.trans x2) ok2.st (X.grow _ K) n2 hD2 racc⟩
  ·cases e2
end
section
variable{X:Cx}{a b c e:Expr}{pos:Pos}{st:Stmt}{rest body other:List Stmt}
noncomputable def bS:iG:=λ_ S=>some (true,S)
def M0{f:List Expr}{t t':TT}(h:nj X f t)(w:∀g H Q,t' g H Q->t g H Q):nj X f t':=λd s g H Q I q=>h d s g H Q I (w _ _ _ q)
def OG:nj X [] (tB (md X) bS):=M0 KE λg H Q ⟨f,h,S,k,d,ok,e,q⟩=>by cases e;exact q _ _ bX.refl ok.st
def Pj{f:iG}(d:PT X c (tB (md X) f)):nj X [c] (tB (md X) f):=KZ d
def KQ{N:List Str}{js:List (Option Nat)}{d:Scope}{l:List (Str×Addr)}{m h j:Expr}{k:List Expr}{i:uN}{g:mB}{t:iG}{f:bp}
  (S:aQ X N js d l) (o:X.calm=true) (hi:PI X m h (tI (md X) i))
  (n:∀C s H fp,PG (aN X N d l C s H fp) m (tG (md X) g)) (ht:∀C s H fp,nj (aN X N d l C s H fp) k (tB (md X) t)) (he:∀C s H fp,PE (aN X N d l C s H fp) j (tD (md X) f))
  (p:∀x,foldedSetIterable h X.env x=pure x:=by intro _;rfl):PE X (.ListComp j [⟨m,h,k,0⟩] d pos) (tL (md X) (bD js i g t f)):=jQ (G6 S o hi n ht he p) Ek
def Lc{N:List Str}{js:List (Option Nat)}{h:Scope}{v:List (Str×Addr)}{w j p k:Expr}{r:List Expr}{i:uN}{g:mB}{t:iG}{f:bp}{n:Nat}{l:Pos}
  (S:aQ X N js h v) (R:X.calm=true) (hi:PI X w j (tI (md X) i))
  (L:∀C s H fp,PG (aN X N h v C s H fp) w (tG (md X) g)) (ht:∀C s H fp,nj (aN X N h v C s H fp) r (tB (md X) t)) (he:∀C s H fp,PE (aN X N h v C s H fp) p (tD (md X) f)) (z:PG X k (ph n))
  (hs:∀x,foldedSetIterable j X.env x=pure x:=by intro _;rfl) (y:swapsWithSole [k] (.ListComp p [⟨w,j,r,0⟩] h pos) l.line X.env=pure true:=by rfl)
  (Q:(assignEach [k] X.env).map (·.2)= [assign k X.env]:=by rfl):PS X (.Assign [k] (.ListComp p [⟨w,j,r,0⟩] h pos) l) (tS (md X) (aX n (bB (bD js i g t f)))):=
 AX (HL S R hi L ht he z hs y Q) λD M H qq=>by
  obtain⟨F,P,S,o,ok,e,q⟩:=qq
  obtain⟨⟨d,S1⟩,Z,e⟩:=aq e
  cases e
  obtain⟨⟨G,S2⟩,K,e3⟩:=aq Z
  obtain⟨rfl,rfl⟩:=cc e3
  refine Ek M H _ ⟨F,P,S,G,S2,ok,K,λm a Y I x st fr W U rs=> ?_⟩
  have A:=rs.pre (List.prefix_append m [a])
  have B:=st.box (o:=.lst G) W ⟨Y,U,A⟩
  have J:bX F H (m++ [a]) I:=⟨x.pre.trans (List.prefix_append _ _),λb u=>by
   rcases mQa.mp u with u|u
   ·exact x.new b u
   ·rw[Qfq] at u;subst u;exact .inr fr,x.keep,x.grow⟩
  refine q (m++ [a]) _ I J ⟨((ok.en.ext J).set (.ref ?_)),B⟩
  rw[←st.len,QQq (Qmq _)]
  simp
noncomputable def EH(c:iG)(b:cI):Nat->cq->aF->Option Out
 |0,_,_=>none
 |n +1,Γ,S=>(c Γ S).bind λ(k,g)=>if k=true then(b Γ g).bind λo=>match o with
    |.nx d f=>EH c b n d f
    |.ct d f=>EH c b n d f
    |.bk d f=>some (.nx d f)
    |.rt x f=>some (.rt x f)
    |.rl x f=>some (.rl x f)
  else some (.nx Γ g)
def G1{h:iG}{f:cI}(n:Nat)(R:PassesOwn (model X.prog X.w) X.A X.env X.xe)(hc:PT X c (tB (md X) h))(hb:rL X body (tS (md X) f)):PS X (.While c body [] pos) (tS (md X) (EH h f n)):=AX (Gx R hc hb) λD σ H qq=>by
 obtain⟨F,W,S,o,ok,e,q⟩:=qq
 refine⟨λm s u=>∃g d t,bX F H g u/\Ok (md X) g d t s u/\EH h f m d t=some o,⟨n,F,W,S,bX.refl,ok,e⟩,?_⟩
 rintro m a1 H1 ⟨I,y,S1,x1,z,i⟩
 cases m with
 |zero=>cases i
 | succ m=>
   unfold EH at i
   obtain⟨⟨k,M⟩,Q,i⟩:=aq i
   refine⟨I,y,S1,k,M,z,Q,λJ H2 N K=> ?_⟩
   dsimp only at i⊢
   have C:=z.to N K
   have j:=x1.trans N
   split at i
   · rename_i G
     rw[Qhq G]
     obtain⟨P,e3,i⟩:=aq i
     refine⟨λs u=>∃g d t,bX F H g u/\Ok (md X) g d t s u/\EH h f m d t=some o,λs u ⟨g,d,t,Y,U,Z⟩=>⟨m,Nat.lt_succ_self _,g,d,t,Y,U,Z⟩,J,y,M,P,C,e3,?_⟩
     cases P with
     |nx p v=>exact λr x L B l=>⟨r,p,v,j.trans B,l,i⟩
     |ct p v=>exact λr x L B l=>⟨r,p,v,j.trans B,l,i⟩
     |bk p v=>cases i;exact λr x L B l=>q _ _ _ (j.trans B) l
     |rt d6 v=>cases i;exact q.to j
     |rl d6 v=>cases i;exact q.to j
   · rename_i G
     rw[Quq G]
     cases i
     exact q _ _ _ j C
end
inductive Res where
 |d (x:D)|l (ds:List D)
abbrev dr:=List D->aF->Option (Res×aF)
def K7(M:Md)(ρ:List Addr)(H b:Hp)(v:V):Res->Prop
 |.d x=>Rel M ρ b x v
 |.l e=>∃a c,v=.ref a/\H a=none/\a∉ρ/\b a=some (.lst c)/\bf M ρ b e c
def eh(M:Md)(n:Nat)(F:dr):Sp:=λf H Q _=>∃c S d r e,d.length=n/\bf M c H d f/\fW M c S H/\F d S=some (r,e)/\∀a v b,bX c H a b->fW M a e b->K7 M a H b v r->Q v b
mutual
noncomputable def cf(m:Nat):D->Bool
 |.ref k=>decide (k<m)
 |.tup a=>bT m a
 |_=>true
noncomputable def bT(m:Nat):List D->Bool
 | []=>true
 |d::ds=>cf m d&&bT m ds
end
noncomputable def G8(m:Nat):O->Bool
 |.lst a=>bT m a
 |.frz a=>bT m a
 |.dct b=>bT m (b.map (·.2))
section
variable{M:Md}{ρ ρ':List Addr}{H:Hp}
mutual
theorem Rel.cut(e:ρ <+: ρ'):∀{d:D} {v:V},Rel M ρ' H d v->cf ρ.length d=true->Rel M ρ H d v
 |_,_,.non,_=>.non
 |_,_,.bl x,_=>.bl x
 |_,_,.int i,_=>.int i
 |_,_,.str x,_=>.str x
 |_,_,.tup h hs,b=>.tup h (bf.cut e hs (by simpa [cf] using b))
 | _,_,.ref (k:=k) (a:=a) h,b=>.ref (by
   obtain⟨t,rfl⟩:=e
   have c:k<ρ.length:=by simpa [cf] using b
   rwa [QHq c] at h)
 |_,_,.fn h,_=>.fn h
theorem bf.cut(e:ρ <+: ρ'):∀{ds:List D} {vs:List V},bf M ρ' H ds vs->bT ρ.length ds=true->bf M ρ H ds vs
 |_,_,.nil,_=>.nil
 | _,_,.cons h hs,b=>by
   have a:=b
   simp only[bT,QDq,QCq] at a
   exact .cons (Rel.cut e h a.1) (bf.cut e hs a.2)
end
theorem cb.cut(e:ρ <+: ρ'):∀{l:List (Key×D)} {kv:List (Key×V)},cb M ρ' H l kv->bT ρ.length (l.map (·.2))=true->cb M ρ H l kv
 | [],_,h,_=>h
 | (_,_)::_,_,⟨v,t,q,h,hs⟩,b=>by
   have a:=b
   simp only[bT,QDq,QCq] at a
   exact⟨v,t,q,h.cut e a.1,cb.cut e hs a.2⟩
theorem oZ.cut{a:Addr}{o:O}(e:ρ <+: ρ')(h:oZ M ρ' H a o)(b:G8 ρ.length o=true):oZ M ρ H a o:=by
 cases o with
 |lst g=>obtain⟨f,d,c⟩:=h;exact⟨f,d,c.cut e b⟩
 |frz g=>obtain⟨f,o,d,c⟩:=h;exact⟨f,o,d,c.cut e b⟩
 |dct j=>obtain⟨i,d,c⟩:=h;exact⟨i,d,c.cut e b⟩
mutual
theorem Rel.low:∀{d:D} {v:V},Rel M ρ H d v->cf ρ.length d=true
 |_,_,.non=>rfl
 |_,_,.bl x=>rfl
 |_,_,.int i=>rfl
 |_,_,.str x=>rfl
 |_,_,.tup h hs=>by simp only[cf];exact bf.low hs
 |_,_,.ref h=>by simp only[cf];exact Qeq (gQs.mp h).1
 |_,_,.fn h=>rfl
theorem bf.low:∀{ds:List D} {vs:List V},bf M ρ H ds vs->bT ρ.length ds=true
 |_,_,.nil=>rfl
 |_,_,.cons h hs=>by simp only[bT];rw[Rel.low h,bf.low hs];rfl
end
theorem cb.low:∀{l:List (Key×D)} {kv:List (Key×V)},cb M ρ H l kv->bT ρ.length (l.map (·.2))=true
 | [],_,_=>rfl
 |(_,_)::_,_,⟨v,t,q,h,hs⟩=>by simp only[QDq,bT];rw[h.low,cb.low hs];rfl
theorem oZ.low{a:Addr}{o:O}(h:oZ M ρ H a o):G8 ρ.length o=true:=by
 cases o with
 |lst e=>obtain⟨d,c,b⟩:=h;exact b.low
 |frz e=>obtain⟨d,o,c,b⟩:=h;exact b.low
 |dct f=>obtain⟨g,c,b⟩:=h;exact b.low
end
def oV(S a:aF):Prop:=S.length<=a.length/\∀k o,k<S.length->a[k]?=some o->S[k]?=some o\/G8 S.length o=true
open Classical in
def settle(S:aF)(d:D)(a:aF):Option (Res×aF):=if oV S a then match d with
  | .ref k=>if k<S.length then some (.d (.ref k),a.take S.length) else match a[k]? with
    |some (.lst ds)=>if bT S.length ds=true then some (.l ds,a.take S.length) else none
    |_=>none
  |d=>if cf S.length d=true then some (.d d,a.take S.length) else none
 else none
open Classical in
def fm(S:aF)(ds:List D)(a:aF):Option (Res×aF):=if oV S a/\bT S.length ds=true then some (.l ds,a.take S.length) else none
noncomputable def eW(n:Nat)(b:cI):dr:=λc S=>(b (c.map some++List.replicate (n-c.length) none) S).bind λo=>match o with
 |.nx _ a=>settle S .non a
 |.rt d a=>settle S d a
 |.rl l a=>fm S l a
 |_=>none
noncomputable def Lj(n:Nat)(b:cI):dr:=λc S=>(b (c.map some++List.replicate (n-c.length) none) S).bind λo=>match o with
 |.nx _ a=>some (.d .non,a)
 |.rt d a=>some (.d d,a)
 |.rl l a=>some (.l l,a)
 |_=>none
def fW.clean{M:Md}{ρ b:List Addr}{S f:aF}{H e:Hp}(st:fW M ρ S H)(x:bX ρ H b e)(j:fW M b f e)(c:oV S f):fW M ρ (f.take S.length) e/\bX ρ H ρ e:=by
 refine⟨⟨?_,st.nd,λk a o i g=> ?_⟩,List.prefix_refl _,λ_ h=>.inl h,x.keep,x.grow⟩
 ·rw[Qxq,st.len]
  have:=c.1
  omega
 ·have l:k<ρ.length:=(gQs.mp i).1
  have d:k<S.length:=st.len▸l
  rw[List.getElem?_take_of_lt d] at g
  refine(j.obj k a o (du x.pre i) g).cut x.pre ?_
  rcases c.2 k o d g with z|z
  ·exact(st.obj k a o i z).low
  ·rw[st.len];exact z
def vU{M:Md}{ρ b:List Addr}{S s h:aF}{H g:Hp}{d:D}{v:V}{r:Res}(st:fW M ρ S H)(x:bX ρ H b g)(f:fW M b s g)(q:Rel M b g d v)(e:settle S d s=some (r,h)):
  bX ρ H ρ g/\fW M ρ h g/\K7 M ρ H g v r:=by
 unfold settle at e
 split at e
 ·rename_i c
  obtain⟨i,o⟩:=st.clean x f c
  cases d with
  | ref k=>
    dsimp only at e
    split at e
    · rename_i p
      obtain⟨rfl,rfl⟩:=cc e
      exact⟨o,i,q.cut x.pre (by simp only[cf];rw[st.len];exact Qeq p)⟩
    · rename_i p
      split at e
      · rename_i B A
        split at e
        · rename_i n
          obtain⟨rfl,rfl⟩:=cc e
          cases q with
          | ref l=>
            rename_i a
            obtain⟨z,y,w⟩:=f.obj k a _ l A
            have u:a∉ρ:=λm=>by
              obtain⟨j,t⟩:=List.getElem?_of_mem m
              have:=jN f.nd (du x.pre t) l
              subst this
              exact p (st.len▸(gQs.mp t).1)
            refine⟨o,i,a,z,rfl,(x.new a (mQg l)).resolve_left u,u,y,w.cut x.pre (by rw[st.len];exact n)⟩
        · cases e
      · cases e
  | _=>
    dsimp only at e
    split at e
    · rename_i n
      obtain⟨rfl,rfl⟩:=cc e
      exact⟨o,i,q.cut x.pre (by rw[st.len];exact n)⟩
    · cases e
 ·cases e
def BB{M:Md}{ρ b:List Addr}{S h f:aF}{H d:Hp}{ds:List D}{a:Addr}{vs:List V}{r:Res}(st:fW M ρ S H)(x:bX ρ H b d)(g:fW M b h d)(fr:H a=none)(l:a∉b)(j:d a=some (.lst vs))(n:bf M b d ds vs)(e:fm S ds h=some (r,f)):
  bX ρ H ρ d/\fW M ρ f d/\K7 M ρ H d (.ref a) r:=by
 unfold fm at e
 split at e
 ·rename_i c
  obtain⟨i,k⟩:=st.clean x g c.1
  obtain⟨rfl,rfl⟩:=cc e
  exact⟨k,i,a,vs,rfl,fr,λm=>l (x.pre.subset m),j,n.cut x.pre (by rw[st.len];exact c.2)⟩
 ·cases e
def z_{M:Md}{ρ:List Addr}{H:Hp}{ds:List D}{vs:List V}{N:List Str}(r:bf M ρ H ds vs):En M ρ H (ds.map some++List.replicate (N.length-ds.length) none) (L2.start N vs) where
 len:=by unfold L2.start;simp[r.length]
 get:=λi d q=>by
  unfold L2.start
  by_cases c:i<ds.length
  ·rw[QHq (by rw[lQm];exact c),gQm] at q
   obtain⟨g,e,b⟩:=oQm.mp q
   cases b
   obtain⟨v,f,a⟩:=r.get e
   exact⟨v,by rw[QHq (by rw[lQm,←r.length];exact c),gQm,f];rfl,a⟩
  ·rw[QQq (by rw[lQm];omega)] at q
   have:=mQg q
   rw[List.mem_replicate] at this
   cases this.2
section
variable{P:Program}{w:World}{K:PySem.W.Frag}{mg:Str->Option Value}{base:Heap}
def bj{x c:Str}{st:Stmt}{f:Addr}{G:FuncData}{N ps:List Str}{k:Nat}{b:cI}(F:et K x c st f G)(S:aJ N ps (aD st))
  (h:∀(g:Value) (A:Around) (outer:List Env) (s:Shared) (H:Hp) (E:XK),eQ k (A.deeper (envOfC c (aD st) s.heap.objs.size f g))→
   rL (Aq dG P w K mg base N c (aD st) f g A outer s H E).nox (ff st) (tS ⟨K,mg⟩ b)):bA P w K mg base dG (k+1) f G ps (eh ⟨K,mg⟩ ps.length (eW N.length b)):=by
 refine F.ok S (λJ H Q E ⟨B,S,X,r,M,C,u,_⟩=>by rw[←u.length];exact C) λg A outer s H J Q E U ⟨B,S,X,r,M,C,u,t,h4,q⟩=>⟨_,h g A outer s H E U,?_⟩
 obtain⟨o,Z,e⟩:=aq h4
 refine⟨B,_,S,o,⟨z_ u,t⟩,Z,?_⟩
 cases o with
 |nx W I=>exact λl Y L p z=>by obtain⟨n,j,m⟩:=vU t p z.st .non e;exact q _ _ _ n j m
 |rt d I=>exact λl v L p i y=>by obtain⟨n,j,m⟩:=vU t p i y e;exact q _ _ _ n j m
 |rl d I=>exact λl a J L p i fr na R y=>by obtain⟨n,j,m⟩:=BB t p i fr na R y e;exact q _ _ _ n j m
 |bk=>cases e
 |ct=>cases e
def Kv{x c:Str}{st:Stmt}{f:Addr}{z:FuncData}{N ps:List Str}{k:Nat}{b:cI}(F:et K x c st f z)(S:aJ N ps (aD st))
  (h:∀(g:Value) (A:Around) (outer:List Env) (s:Shared) (H:Hp) (E:XK),eQ k (A.deeper (envOfC c (aD st) s.heap.objs.size f g))→
   rL (Aq dG P w K mg base N c (aD st) f g A outer s H E).nox (ff st) (tS ⟨K,mg⟩ b)):bA P w K mg base dG (k+1) f z ps (eh ⟨K,mg⟩ ps.length (Lj N.length b)):=by
 refine F.ok S (λp H Q E ⟨u,S,R,r,G,y,m,_⟩=>by rw[←m.length];exact y) λg A outer s H p Q E L ⟨u,S,R,r,G,y,m,I,X,q⟩=>⟨_,h g A outer s H E L,?_⟩
 obtain⟨o,W,e⟩:=aq X
 refine⟨u,_,S,o,⟨z_ m,I⟩,W,?_⟩
 cases o with
 |nx M B=>cases e;exact λj U C l t=>q _ _ _ l t.st .non
 |rt d B=>cases e;exact λj v C l i n=>q _ _ _ l i n
 |rl d B=>cases e;exact λj a p C l i Y Z J n=>q _ _ _ l i ⟨a,p,rfl,Y,Z,J,n⟩
 |bk=>cases e
 |ct=>cases e
end
section
variable{X:Cx}{x:Str}{k n:Nat}{f:Addr}{fd:FuncData}{ps:List Str}{F:dr}{e:Expr}{es:List Expr}{g:fK}{p pos:Pos}
noncomputable def aA(F:dr)(g:fK):bp:=λb S=>(g b S).bind λ(c,h)=>(F c h).bind λ(r,a)=>match r with
 |.d x=>some (x,a)
 |.l _=>none
noncomputable def fc(F:dr)(g:fK):fK:=λc S=>(g c S).bind λ(a,h)=>(F a h).bind λ(r,b)=>match r with
 |.d _=>none
 |.l a=>some (a,b)
def nA(n:Nat)(g:fK):Prop:=∀c S a b,g c S=some (a,b)->a.length=n
def AD:nA 0 av:=λ_ _ _ _ e=>by cases e;rfl
def ml{n:Nat}{f:bp}{g:fK}(h:nA n g):nA (n+1) (ar f g):=λl S m i e=>by
 obtain⟨⟨d,o⟩,j,e⟩:=aq e
 obtain⟨⟨b,c⟩,a,e⟩:=aq e
 cases e
 rw[Qnq,h _ _ _ _ a]
def B_{M:Md}(s:nA n g):∀a H Q,tD M (aA F g) a H Q->Es (eh M n F) [] E0 (yw M g) a H Q:=λa H Q A=>by
 obtain⟨t,u,S,d,I,ok,e,q⟩:=A
 obtain⟨⟨c,j⟩,m,e⟩:=aq e
 obtain⟨⟨r,B⟩,o,e⟩:=aq e
 refine⟨t,u,S,c,j,ok,m,λh J H1 y b w=>⟨h,j,c,r,B,s _ _ _ _ m,by rw[List.append_nil];exact w,b,o,λz v H2 G i C=> ?_⟩⟩
 cases r with
 |d x=>obtain⟨rfl,rfl⟩:=cc e;exact q _ _ _ (y.trans G) i C
 |l c=>cases e
def Hr{M:Md}(u:nA n g):∀b H Q,tL M (fc F g) b H Q->Es (eh M n F) [] E0 (yw M g) b H Q:=λb H Q C=>by
 obtain⟨w,y,S,d,K,ok,e,q⟩:=C
 obtain⟨⟨h,m⟩,s,e⟩:=aq e
 obtain⟨⟨r,G⟩,t,e⟩:=aq e
 refine⟨w,y,S,h,m,ok,s,λi A H1 o c z=>⟨i,m,h,r,G,u _ _ _ _ s,by rw[List.append_nil];exact z,c,t,λB v H2 J j I=> ?_⟩⟩
 cases r with
 |d x=>cases e
 | l h=>
   obtain⟨rfl,rfl⟩:=cc e
   obtain⟨a,A,rfl,fr,na,ha,rr⟩:=I
   exact q _ _ _ _ (o.trans J) j (o.grow _ fr) na ha rr
def JP(G:bA X.prog X.w X.K X.mg X.base dG k f fd ps (eh (md X) n F))(i:eQ k X.A)(c:Gl X x)(b:X.mg x=some (.ref f))(l:PySem.W.keepIn X.K (.ref f)=true)(d:Binds X.K fd ps [])(h:PA X (e::es) (yw (md X) g))(j:nA n g)
  (a:(x==("__debug__":Str))=false:=by decide) (he:starEach (e::es) X.env=(false,eval e X.env)::starEach es X.env:=by rfl) (hpl:(backTo pos (starEach es X.env)).any (·.1)=false:=by rfl):
  PE X (.Call (.Name x p) (e::es) [] pos) (tD (md X) (aA F g)):=jQ (CQ G i c b l d .nil FG h a he hpl) (B_ j)
def JT(G:bA X.prog X.w X.K X.mg X.base dG k f fd ps (eh (md X) n F))(i:eQ k X.A)(c:Gl X x)(b:X.mg x=some (.ref f))(l:PySem.W.keepIn X.K (.ref f)=true)(d:Binds X.K fd ps [])(h:PA X (e::es) (yw (md X) g))(j:nA n g)
  (a:(x==("__debug__":Str))=false:=by decide) (he:starEach (e::es) X.env=(false,eval e X.env)::starEach es X.env:=by rfl) (hpl:(backTo pos (starEach es X.env)).any (·.1)=false:=by rfl):
  PE X (.Call (.Name x p) (e::es) [] pos) (tL (md X) (fc F g)):=jQ (CQ G i c b l d .nil FG h a he hpl) (Hr j)
end
noncomputable def gd{α:Type}(xs:List α)(lo hi:Option Int):List α:=(xs.drop (HT.dN xs.length 0 lo)).take (HT.dN xs.length xs.length hi-HT.dN xs.length 0 lo)
def bf.cut3{M:Md}{ρ:List Addr}{H:Hp}{ds:List D}{vs:List V}{lo hi:Option Int}(h:bf M ρ H ds vs):bf M ρ H (gd ds lo hi) (wB vs lo hi):=by
 unfold gd wB
 rw[h.length]
 exact(h.drop _).take _
def Ih{α:Type}{xs:List α}{lo hi:Option Int}(b:HT.dN xs.length 0 lo=0)(a:HT.dN xs.length xs.length hi=xs.length):gd xs lo hi=xs:=by
 unfold gd
 rw[b,a]
 simp
abbrev HQ:=cq->aF->Option (Option Int×aF)
def Lg(M:Md)(f:HQ):TO:=λg H Q=>∃d e S o c,Ok M d e S g H/\f e S=some (o,c)/\∀a b,bX d H a b->fW M a c b->Q o b
section
variable{X:Cx}{a b c e:Expr}{pos:Pos}{st:Stmt}
noncomputable def jP:HQ:=λ_ S=>some (none,S)
noncomputable def jH(f:bp):HQ:=λg S=>(f g S).bind λ(d,h)=>match d with
 |.int i=>some (some i,h)
 |_=>none
def OD{o:Option Expr}{t t':TO}(h:PO X o t)(w:∀f H Q,t' f H Q->t f H Q):PO X o t':=λd s f H Q I q=>h d s f H Q I (w _ _ _ q)
def Oz:PO X none (Lg (md X) jP):=OD GO λg H Q ⟨f,h,S,o,d,ok,e,q⟩=>by cases e;exact q _ _ bX.refl ok.st
def NH{f:bp}(h:PE X e (tD (md X) f)):PO X (some e) (Lg (md X) (jH f)):=OD (GQ h) λp H Q m=>by
 obtain⟨g,j,S,o,n,ok,e,q⟩:=m
 obtain⟨⟨d,k⟩,l,e⟩:=aq e
 dsimp only at e
 split at e
 ·obtain⟨rfl,rfl⟩:=cc e
  refine⟨g,j,S,_,k,ok,l,λi v s x st r=> ?_⟩
  cases r
  exact⟨_,rfl,q _ _ x st⟩
 ·cases e
noncomputable def tN(f:bp)(lo hi:HQ):bp:=λg S=>(f g S).bind λ(d,k)=>(lo g k).bind λ(l,i)=>(hi g i).bind λ(h,j)=>match d with
 |.tup m=>some (.tup (gd m l h),j)
 |_=>none
def Nz{lo hi:Option Expr}{I:Pos}{f:bp}{l h:HQ}(he:PE X e (tD (md X) f))(hl:PO X lo (Lg (md X) l))(R:PO X hi (Lg (md X) h)):PE X (.Subscript e (.Slice lo hi none I) pos) (tD (md X) (tN f l h)):=
 jQ (yF GS he hl R) λZ H Q N=>by
  obtain⟨J,n,S,d,Y,ok,e,q⟩:=N
  obtain⟨⟨x,A⟩,M,e⟩:=aq e
  obtain⟨⟨B,C⟩,G,e⟩:=aq e
  obtain⟨⟨F,W⟩,P,e⟩:=aq e
  cases x with
  | tup z=>
    dsimp only at e
    obtain⟨rfl,rfl⟩:=cc e
    refine⟨J,n,S,_,A,ok,M,λo v H1 r i K=>⟨o,n,A,B,C,ok.to r i,G,λs H2 t u=>⟨s,n,C,F,W,(ok.to r i).to t u,P,λU H3 w j=> ?_⟩⟩⟩
    have g:=(r.trans t).trans w
    have L:=K.ext (t.trans w)
    cases L with
    | tup y k=>
      refine⟨_,_,rfl,gH.of y,λc=> ?_,λc p m=> ?_⟩
      · have:gd z B F=z:=Ih (by rw[k.length];exact c.1) (by rw[k.length];exact c.2)
        rw[this] at q
        exact q _ _ _ g j (.tup y k)
      · exact q _ _ _ (g.trans (bX.laid m)) (j.lay m) (.tup bC (k.cut3.ext (bX.laid m)))
  |_=>cases e
open Classical in
def vd(f:dQ)(lo hi:HQ):fK:=λd S=>(f d S).bind λ(p,j)=>(lo d j).bind λ(l,i)=>(hi d i).bind λ(h,g)=>if p.2.isL=true/\p.2.stays g p.1 then some (gd p.1 l h,g) else none
def Na{lo hi:Option Expr}{A:Pos}{f:dQ}{l h:HQ}(he:PE X e (tQ (md X) f))(hl:PO X lo (Lg (md X) l))(R:PO X hi (Lg (md X) h)):PE X (.Subscript e (.Slice lo hi none A) pos) (tL (md X) (vd f l h)):=
 jQ (yF GH he hl R) λZ H Q M=>by
  obtain⟨B,m,S,d,Y,ok,e,q⟩:=M
  obtain⟨⟨⟨I,t⟩,x⟩,L,e⟩:=aq e
  obtain⟨⟨K,y⟩,z,e⟩:=aq e
  obtain⟨⟨P,W⟩,N,e⟩:=aq e
  dsimp only at e
  split at e
  ·rename_i c
   obtain⟨rfl,rfl⟩:=cc e
   refine⟨B,m,S,I,t,x,ok,L,λo a vs H1 r j C F=>⟨o,m,x,K,y,ok.to r j,z,λs H2 u v=>⟨s,m,y,P,W,(ok.to r j).to u v,N,λU H3 w i=> ?_⟩⟩⟩
   have g:=(r.trans u).trans w
   obtain⟨n,G,J⟩:=C.to F (u.trans w) i c.2
   refine⟨_,n,rfl,G.sqL c.1,λp k=> ?_⟩
   exact q _ _ _ _ (g.trans (bX.laid k)) (i.lay k) (g.grow _ k) (dg g i k) bC (J.cut3.ext (bX.laid k))
  ·cases e
open Classical in
def xp(f g:dQ):fK:=λh S=>(f h S).bind λ(p,i)=>(g h i).bind λ(r,d)=>if p.2.isM=true/\r.2.isM=true/\p.2.stays d p.1/\p.1.length+r.1.length<=sizeLine then some (p.1++r.1,d) else none
def MX{f g:dQ}(C:PE X a (tQ (md X) f))(G:PE X b (tQ (md X) g)):PE X (.BinOp a .Add b pos) (tL (md X) (xp f g)):=jQ (pR Kr C G) λU H Q M=>by
 obtain⟨x,n,S,d,R,ok,e,q⟩:=M
 obtain⟨⟨⟨F,t⟩,o⟩,K,e⟩:=aq e
 obtain⟨⟨⟨L,I⟩,P⟩,w,e⟩:=aq e
 dsimp only at e
 split at e
 ·rename_i c
  obtain⟨rfl,rfl⟩:=cc e
  refine⟨x,n,S,F,t,o,ok,K,λm a W H1 s k z A=>⟨m,n,o,L,I,P,ok.to s k,w,λJ b N H2 v i y u=> ?_⟩⟩
  obtain⟨l,B,r⟩:=z.to A v i c.2.2.1
  have h:=s.trans v
  refine⟨_,_,l,N,rfl,rfl,B.sqM c.1,y.sqM c.2.1,by rw[←r.length,←u.length];exact c.2.2.2,λp j=> ?_⟩
  exact q _ _ _ _ (h.trans (bX.laid j)) (i.lay j) (h.grow _ j) (dg h i j) bC ((r.append u).ext (bX.laid j))
 ·cases e
open Classical in
def FN(f:dQ)(g:bp):fK:=λh S=>(f h S).bind λ(p,i)=>(g h i).bind λ(r,d)=>match r with
 |.int k=>if p.2.isM=true/\p.2.stays d p.1/\ -(2^63)<=k/\k<2^63/\p.1.length*k.toNat<=sizeLine then some ((List.replicate k.toNat p.1).flatten,d) else none
 |_=>none
def OQ{f:dQ}{g:bp}(F:PE X a (tQ (md X) f))(I:PE X b (tD (md X) g)):PE X (.BinOp a .Mult b pos) (tL (md X) (FN f g)):=jQ (pR JA F I) λR H Q L=>by
 obtain⟨z,o,S,d,P,ok,e,q⟩:=L
 obtain⟨⟨⟨G,t⟩,s⟩,K,e⟩:=aq e
 obtain⟨⟨r,M⟩,y,e⟩:=aq e
 cases r with
 | int k=>
   dsimp only at e
   split at e
   · rename_i c
     obtain⟨rfl,rfl⟩:=cc e
     refine⟨z,o,S,G,t,s,ok,K,λn a U H1 v l A B=>⟨n,o,s,_,M,ok.to v l,y,λJ w H2 x i N=> ?_⟩⟩
     obtain⟨m,C,u⟩:=A.to B x i c.2.1
     have h:=v.trans x
     cases N
     refine⟨_,k,m,rfl,rfl,C.sqM c.1,c.2.2.1,c.2.2.2.1,by rw[←u.length];exact c.2.2.2.2,λp j=> ?_⟩
     exact q _ _ _ _ (h.trans (bX.laid j)) (i.lay j) (h.grow _ j) (dg h i j) bC ((u.rep _).ext (bX.laid j))
   · cases e
 |_=>cases e
open Classical in
def eqQ(d:Bool)(f g:dQ):bp:=λj S=>(f j S).bind λ(p,l)=>(g j l).bind λ(r,h)=>if p.2.isL=true/\r.2.isL=true/\p.2.stays h p.1 then(ix p.1).bind λk=>(ix r.1).bind λi=>some (.bl (if d then !Ed k i else Ed k i),h) else none
def MD{h:Bool}{f g:dQ}:∀j H Q,tD (md X) (eqQ h f g) j H Q->GC (La X.K h) (tQ (md X) f) (tQ (md X) g) j H Q:=λj H Q J=>by
 obtain⟨u,n,S,d,U,ok,e,q⟩:=J
 obtain⟨⟨⟨z,t⟩,o⟩,G,e⟩:=aq e
 obtain⟨⟨⟨I,C⟩,M⟩,s,e⟩:=aq e
 dsimp only at e
 split at e
 ·rename_i c
  obtain⟨W,L,e⟩:=aq e
  obtain⟨Y,B,e⟩:=aq e
  obtain⟨rfl,rfl⟩:=cc e
  refine⟨u,n,S,z,t,o,ok,G,λl a R H1 p k w x=>⟨l,n,o,I,C,M,ok.to p k,s,λF b P H2 r i v N=> ?_⟩⟩
  obtain⟨m,y,A⟩:=w.to x r i c.2.2
  obtain⟨rfl,f1⟩:=lY A L
  obtain⟨rfl,f2⟩:=lY N B
  exact⟨a,b,m,P,rfl,rfl,y.sqL c.1,v.sqL c.2.1,f1,f2,q _ _ _ (p.trans r) i (.bl _)⟩
 ·cases e
def L7{f g:dQ}(d:X.A.units<cLine)(h:PE X a (tQ (md X) f))(i:PE X b (tQ (md X) g)):PT X (.Compare a [.Eq] [b] pos) (tB (md X) (aP (eqQ false f g))):=uI MD (pd (KD d) h i (d_ _))
open Classical in
def gh(f:dQ):bp:=λg S=>(f g S).bind λ(p,d)=>if p.2.isL=true/\p.2.stays d p.1 then some (.bl (!p.1.isEmpty),d) else none
def HM{f:dQ}:∀h H Q,tD (md X) (gh f) h H Q->GC (Gm X.K) (tQ (md X) f) (tL (md X) (bo av)) h H Q:=λh H Q A=>by
 obtain⟨p,m,S,d,F,ok,e,q⟩:=A
 obtain⟨⟨⟨v,t⟩,j⟩,z,e⟩:=aq e
 dsimp only at e
 split at e
 ·rename_i c
  obtain⟨rfl,rfl⟩:=cc e
  refine⟨p,m,S,v,t,j,ok,z,λk a C H1 n i r s=>⟨k,m,j,[],j,ok.to n i,rfl,λy b G H2 o g I J x B=> ?_⟩⟩
  obtain⟨l,u,w⟩:=r.to s o g c.2
  cases B
  refine⟨a,b,l,rfl,rfl,u.sqL c.1,iC.of x,?_⟩
  rw[←w.isEmpty]
  exact q _ _ _ (n.trans o) g (.bl _)
 ·cases e
def Mm:PE X (.List [] pos) (tL (md X) (bo av)):=fN aS
def CH{f:dQ}{p:Pos}(g:X.A.units<cLine)(d:PE X a (tQ (md X) f)):PT X (.Compare a [.NotEq] [.List [] p] pos) (tB (md X) (aP (gh f))):=uI HM (pd (FX g) d Mm (d_ _))
def fW.putL{M:Md}{ρ:List Addr}{S:aF}{H:Hp}{k:Nat}{a:Addr}{ds f:List D}{ws:List V}(st:fW M ρ S H)(g:ρ[k]?=some a)(d:S[k]?=some (.lst ds))(r:bf M ρ H f ws):fW M ρ (S.set k (.lst f)) (upd H a (.lst ws))/\bX ρ H ρ (upd H a (.lst ws)):=by
 obtain⟨j,h,l⟩:=st.obj k a _ g d
 exact st.put g d ⟨ws,bC,r.off h⟩ λx i=>by rw[h] at i;cases i;exact id
noncomputable def As(m:List D->List D->Option (List D×D))(f:bp)(g:fK):bp:=λi S=>(f i S).bind λ(x,j)=>match x with
 | .ref k=>(g i j).bind λ(l,h)=>match j[k]?,h[k]? with
   |some (.lst _),some (.lst ds)=>(m ds l).bind λ(n,d)=>some (d,h.set k (.lst n))
   |_,_=>none
 |_=>none
def L9(M:Md)(r:V->List V->Hp->VK->Prop)(m:List D->List D->Option (List D×D)):Prop:=∀{f:List Addr} {H:Hp} {a:Addr} {l g i:List D} {d:D} {h j:List V} {Q:VK},H a=some (.lst h)->bf M f H l h->bf M f H g j->m l g=some (i,d)→
 (∀k w,bf M f H i k->Rel M f H d w->Q w (upd H a (.lst k)))->r (.ref a) j H Q
def NO{m:List D->List D->Option (List D×D)}{r:V->List V->Hp->VK->Prop}{f:bp}{g:fK}(P:L9 (md X) r m):∀o H Q,tD (md X) (As m f g) o H Q->Nu X.K "list" r (tD (md X) f) (yw (md X) g) o H Q:=λo H Q U=>by
 obtain⟨I,y,S,d,S',ok,e,q⟩:=U
 obtain⟨⟨x,A⟩,R,e⟩:=aq e
 cases x with
 | ref k=>
   dsimp only at e
   obtain⟨⟨N,S2⟩,F,e⟩:=aq e
   dsimp only at e
   split at e
   · rename_i G ds n j
     obtain⟨⟨es,d'⟩,Z,e⟩:=aq e
     obtain⟨rfl,rfl⟩:=cc e
     refine⟨I,y,S,_,A,ok,R,λt v H1 B i L=> ?_⟩
     cases L with
     | ref z=>
       rename_i a
       obtain⟨p,W,_⟩:=i.obj k a _ z n
       refine⟨.inl ⟨rfl,p,iC.of W⟩,t,y,A,N,S2,ok.to B i,F,λY us H2 C l r2=> ?_⟩
       have h:=du C.pre z
       obtain⟨vs,M,J⟩:=l.obj k a _ h j
       refine P M J r2 Z λws w rw rd=> ?_
       obtain⟨s,u⟩:=l.putL h j rw
       exact q _ _ _ ((B.trans C).trans u) s (rd.ext u)
   · cases e
 |_=>cases e
noncomputable def lR:List D->List D->Option (List D×D):=λd f=>match f with
 | [y]=>if d.length<sizeLine then some (d++ [y],.non) else none
 |_=>none
def J1{M:Md}:L9 M Cq lR:=by
 intro l H a o k m d i n Q j g f e q
 unfold lR at e
 split at e
 ·split at e
  ·rename_i hl
   obtain⟨rfl,rfl⟩:=cc e
   cases f with
   | cons f h=>
     cases h
     exact⟨a,i,_,rfl,rfl,j,by rw[←g.length];exact hl,q _ _ (g.append (.cons f .nil)) .non⟩
  ·cases e
 ·cases e
def lS{f:bp}{g:bp}{o:Expr}{h d:Pos}(n:PE X o (tD (md X) f))(m:PE X e (tD (md X) g))(i:attributeBase o "append" X.env (eval o X.env)=eval o X.env:=by rfl) (k:((backTo d (starEach [e] X.env)).all (λx=> !x.1)&&(backToKw d (keywordEach [] X.env)).all (λx=>x.1.isSome)
   &&decide ([e].length+([]:List Keyword).length+(if ([]:List Keyword).isEmpty then 0 else 1)<30))=true:=by rfl)
  (j:(h.endLine==d.line)=true:=by rfl) (l:starEach [e] X.env= [(false,eval e X.env)]:=by rfl):PE X (.Call (.Attribute o "append" h) [e] [] d) (tD (md X) (As lR f (ar g av))):=
 jQ (zQ PySem.F.plainAttrs_list PySem.F.slot_list_append PySem.F.type_list_append qd n (ay m aS l) i k j l) (NO J1)
end
section
variable{X:Cx}{a b c e:Expr}{pos:Pos}{st:Stmt}
noncomputable def wM(f:bp)(g:dQ):bp:=λh S=>(f h S).bind λ(x,i)=>match x with
 | .ref k=>(g h i).bind λ(p,d)=>match i[k]?,d[k]? with
   |some (.lst _),some (.lst ds)=>if p.2.isM=true/\ds.length+p.1.length<=sizeLine then some (.non,d.set k (.lst (ds++p.1))) else none
   |_,_=>none
 |_=>none
def LY{f:bp}{g:dQ}:∀n H Q,tD (md X) (wM f g) n H Q->Nu X.K "list" Cv (tD (md X) f) (Gu (tQ (md X) g) JS) n H Q:=λn H Q Y=>by
 obtain⟨I,s,S,d,S',ok,e,q⟩:=Y
 obtain⟨⟨x,w⟩,U,e⟩:=aq e
 cases x with
 | ref k=>
   dsimp only at e
   obtain⟨⟨⟨P,t⟩,S2⟩,C,e⟩:=aq e
   dsimp only at e
   split at e
   · rename_i F ds m j
     split at e
     · rename_i c
       obtain⟨rfl,rfl⟩:=cc e
       refine⟨I,s,S,_,w,ok,U,λr v H1 y i L=> ?_⟩
       cases L with
       | ref u=>
         rename_i a
         obtain⟨o,W,_⟩:=i.obj k a _ u m
         refine⟨.inl ⟨rfl,o,iC.of W⟩,r,s,w,P,t,S2,ok.to y i,C,λR b N H2 A l J z=> ?_⟩
         have h:=du A.pre u
         obtain⟨Z,M,B⟩:=l.obj k a _ h j
         refine⟨a,b,Z,N,rfl,rfl,M,J.sqM c.1,by rw[←B.length,←z.length];exact c.2,?_⟩
         obtain⟨p,G⟩:=l.putL h j (B.append z)
         exact q _ _ _ ((y.trans A).trans G) p .non
     · cases e
   · cases e
 |_=>cases e
def LH{f:bp}{g:dQ}{o:Expr}{h d:Pos}(n:PE X o (tD (md X) f))(m:PE X e (tQ (md X) g))(i:attributeBase o "extend" X.env (eval o X.env)=eval o X.env:=by rfl) (k:((backTo d (starEach [e] X.env)).all (λx=> !x.1)&&(backToKw d (keywordEach [] X.env)).all (λx=>x.1.isSome)
   &&decide ([e].length+([]:List Keyword).length+(if ([]:List Keyword).isEmpty then 0 else 1)<30))=true:=by rfl)
  (j:(h.endLine==d.line)=true:=by rfl) (l:starEach [e] X.env= [(false,eval e X.env)]:=by rfl):PE X (.Call (.Attribute o "extend" h) [e] [] d) (tD (md X) (wM f g)):=
 jQ (zQ PySem.F.plainAttrs_list PySem.F.slot_list_extend PySem.F.type_list_extend DZ n (cz m eM l) i k j l) LY
noncomputable def Jw(f g:bp):mB:=λd h S=>(f h S).bind λ(x,m)=>(g h m).bind λ(y,l)=>match x,y with
 | .ref k,.int i=>match l[k]? with
   |some (.lst ds)=>(GA ds.length i).bind λj=>some (h,l.set k (.lst (ds.set j d)))
   |_=>none
 |_,_=>none
def NR{f g:bp}:∀v m H Q,tG (md X) (Jw f g) v m H Q->Mi (tD (md X) f) (tD (md X) g) IJ v m H Q:=λv m H Q P=>by
 obtain⟨J,u,S,d,I,Y,ok,r,e,q⟩:=P
 obtain⟨⟨x,z⟩,N,e⟩:=aq e
 obtain⟨⟨y,U⟩,G,e⟩:=aq e
 cases x with
 | ref k=>
   cases y with
   | int i=>
     dsimp only at e
     split at e
     · rename_i ds F
       obtain⟨j,R,e⟩:=aq e
       obtain⟨rfl,rfl⟩:=cc e
       refine⟨J,u,S,_,z,ok,N,λs Z H1 A n o=>⟨s,u,z,_,U,ok.to A n,G,λL v2 H2 B l W=> ?_⟩⟩
       cases W
       have o:=o.ext B
       cases o with
       | ref w=>
         obtain⟨M,K,C⟩:=l.obj k _ _ w F
         have h:=A.trans B
         obtain⟨p,t⟩:=l.putL w F (bf.set (r.ext h) j C)
         exact⟨_,M,i,j,rfl,rfl,K,by rw[←C.length];exact R,q _ _ _ (h.trans t) ((ok.to h l).to t p)⟩
     · cases e
   |_=>cases e
 |_=>cases e
def OY{o i:Expr}{f g:bp}(h:PE X o (tD (md X) f))(hi:PE X i (tD (md X) g))
  (d:∀v,assign (.Subscript o i pos) X.env v=(do
   let ov←holding [v] (eval o X.env)
   let iv←holding [v,ov] (eval i X.env)
   standAt pos
   holding [v,ov,iv] (setItem ov iv v)
   release [v,ov,iv] []):=by intro _;rfl):PG X (.Subscript o i pos) (tG (md X) (Jw f g)):=NF (Jq h hi set_list d) NR
noncomputable def z9(i j:Nat)(f:fK):cI:=λd S=>(f d S).bind λ(g,h)=>match g with
 | [v,w]=>some (.nx ((d.set i (some v)).set j (some w)) h)
 |_=>none
def Gb{i j:Nat}{f:fK}(h:PS X st (MA i j (yw (md X) f))):PS X st (tS (md X) (z9 i j f)):=AX h λD t H s=>by
 obtain⟨g,l,S,o,ok,e,q⟩:=s
 obtain⟨⟨u,n⟩,p,e⟩:=aq e
 dsimp only at e
 split at e
 ·cases e
  refine⟨g,l,S,_,n,ok,p,λk v w x st r=> ?_⟩
  cases r with
  | cons r d=>
    cases d with
    | cons m d=>
      cases d
      exact⟨_,_,rfl,q _ _ _ x ⟨((ok.en.ext x).set r).set m,st⟩⟩
 ·cases e
end
noncomputable def dZ(cells:List (Str×Addr)):List (Str×NameKind)->List (Str×Addr)->List (Str×Addr)
 | [],acc=>acc
 |(n,k)::r,acc=>if (k==.free)=true then dZ cells r ((n,(cells.lookup n).getD 0)::acc) else dZ cells r acc
theorem qB{env:Env}:∀(names:List (Str×NameKind)) (b:List (Str×Addr)),(∀y∈names,y.2=.free->(env.cells.lookup y.1).isSome=true)→
  (forIn names b λ(x:Str×NameKind) (f:List (Str×Addr))=>(do
   if (x.2==NameKind.free)=true then do
    let c←cellOf env x.1
    pure (ForInStep.yield ((x.1,c)::f))
   else pure (ForInStep.yield f):Sem (ForInStep (List (Str×Addr)))))=(pure (dZ env.cells names b):Sem _)
 | [],b,_=>rfl
 | (n,k)::r,b,h=>by
   rw[List.forIn_cons]
   unfold dZ
   by_cases c:(k==NameKind.free)=true
   · obtain⟨a,e⟩:=Option.isSome_iff_exists.mp (h (n,k) QBq (by simpa using c))
     simp only[c,if_true]
     have g:cellOf env n=pure a:=by
       unfold cellOf
       rw[e]
     rw[g,pure_bind,pure_bind,e]
     exact qB r _ λy d=>h y (Qpq _ d)
   · simp only[c,Bool.false_eq_true,if_false]
     rw[pure_bind]
     exact qB r _ λy d=>h y (Qpq _ d)
def Fs{a:Scope}{env:Env}(h:∀y∈a.names,y.2=.free->(env.cells.lookup y.1).isSome=true):closureFor a env=pure (dZ env.cells a.names []):=by
 unfold closureFor
 have:=qB a.names [] h
 rw[bind_pure]
 exact this
theorem uA{cells:List (Str×Addr)}:∀(names:List (Str×NameKind)) (a:List (Str×Addr)) (p:Str×Addr),p∈dZ cells names a->p∈a\/∃n,(n,NameKind.free)∈names/\p=(n,(cells.lookup n).getD 0)
 | [],a,p,h=>.inl h
 | (n,k)::r,a,p,h=>by
   unfold dZ at h
   split at h
   · rename_i c
     rcases uA r _ p h with h|⟨m,d,b⟩
     · rcases Qsq.mp h with h|h
       · exact .inr ⟨n,by rw[show k=NameKind.free by simpa using c];exact QBq,h⟩
       · exact .inl h
     · exact .inr ⟨m,Qpq _ d,b⟩
   · rcases uA r _ p h with h|⟨m,d,b⟩
     · exact .inl h
     · exact .inr ⟨m,Qpq _ d,b⟩
theorem sX{cells:List (Str×Addr)}{x:Str}:∀(names:List (Str×NameKind)) (a:List (Str×Addr)),((x,NameKind.free)∈names\/∃c,(x,c)∈a)->∃c,(x,c)∈dZ cells names a
 | [],a,h=>by
   rcases h with h|h
   · cases h
   · exact h
 | (n,k)::r,a,h=>by
   unfold dZ
   split
   · rename_i c
     refine sX r _ ?_
     rcases h with h|⟨c,h⟩
     · rcases Qsq.mp h with h|h
       · cases h;exact .inr ⟨_,QBq⟩
       · exact .inl h
     · exact .inr ⟨c,Qpq _ h⟩
   · rename_i c
     refine sX r _ ?_
     rcases h with h|h
     · rcases Qsq.mp h with h|h
       · cases h;exact absurd rfl c
       · exact .inl h
     · exact .inr h
theorem m_{x:Str}{c:Addr}:∀{l:List (Str×Addr)},(x,c)∈l->∃a,l.lookup x=some a
 | [],h=>by cases h
 | (n,d)::r,h=>by
   unfold List.lookup
   by_cases e:(x==n)=true
   · rw[e];exact⟨d,rfl⟩
   · have b:(x==n)=false:=by simpa using e
     rw[b]
     rcases Qsq.mp h with h|h
     · cases h;simp at e
     · exact m_ h
noncomputable def sR(b:List Str)(a:Str->Option NameKind)(names:List (Str×NameKind)):List (Option Nat)->List Str->Bool
 |some j::js,x::N=>(b[j]? ==some x)&&(a x==some .cell||a x==some .free)&&(names.lookup x==some .free)&&sR b a names js N
 |none::js,_::N=>sR b a names js N
 |_,_=>true
theorem t7{b:List Str}{a:Str->Option NameKind}{names:List (Str×NameKind)}:∀{js:List (Option Nat)} {N:List Str} {k j:Nat} {x:Str},sR b a names js N=true->js[k]?=some (some j)->N[k]?=some x->b[j]?=some x/\(a x=some .cell\/a x=some .free)/\names.lookup x=some .free
 | some i::js,y::N,0,j,x,h,h1,h2=>by
   cases h1
   cases h2
   simp only[sR,QCq,Bool.or_eq_true,beq_iff_eq] at h
   exact⟨h.1.1.1,h.1.1.2,h.1.2⟩
 | some i::js,y::N,k+1,j,x,h,h1,h2=>by
   simp only[sR,QCq] at h
   exact t7 h.2 (by simpa using h1) (by simpa using h2)
 |none::js,y::N,0,j,x,h,h1,h2=>by cases h1
 |none::js,y::N,k+1,j,x,h,h1,h2=>t7 (k:=k) (by simpa [sR] using h) (by simpa using h1) (by simpa using h2)
 | [],N,k,j,x,h,h1,h2=>by simp at h1
 |some i::js,[],k,j,x,h,h1,h2=>by simp at h2
 |none::js,[],k,j,x,h,h1,h2=>by simp at h2
theorem pq{env:Env}{x:Str}:∀{names:List (Str×NameKind)},names.lookup x=some .free->(names.map λ(n,k)=>if (k==NameKind.free&&env.scope.kind==.function&&env.kindOf n==some .cell) then(n,NameKind.cell) else(n,k)).lookup x=some .cell∨
  (names.map λ(n,k)=>if (k==NameKind.free&&env.scope.kind==.function&&env.kindOf n==some .cell) then(n,NameKind.cell) else(n,k)).lookup x=some .free
 | [],h=>by cases h
 | (n,k)::r,h=>by
   unfold List.lookup at h
   rw[QDq]
   by_cases e:(x==n)=true
   · rw[e] at h
     cases h
     dsimp only
     split
     · left;unfold List.lookup;rw[e]
     · right;unfold List.lookup;rw[e]
   · have a:(x==n)=false:=by simpa using e
     rw[a] at h
     have b:=pq (env:=env) h
     dsimp only
     split <;>(unfold List.lookup;rw[a];exact b)
def aQ.gen{X:Cx}{N:List Str}{js:List (Option Nat)}{d:Scope}(k:d.kind=.function)(o:d.names.all (λy=>y.2 !=.cell)=true)(r:d.names.all (λy=>y.2 !=.local||d.names.lookup y.1==some .local)=true)
  (p:d.names.all (λy=>y.2 !=.free||(X.env.cells.lookup y.1).isSome)=true) (w:sR X.N X.env.kindOf d.names js N=true) (t:js.length=N.length):aQ X N js d (dZ X.env.cells d.names []) where
 kind:=k
 nocell:=λy f=>by
  have:=QUq.mp o y f
  simpa using this
 names:=λy f e=>by
  have:=QUq.mp r y f
  rw[e] at this
  simpa using this
 clos:=Fs λy f e=>by
  have:=QUq.mp p y f
  rw[e] at this
  simpa using this
 sub:=λx c h=>by
  rcases uA _ _ _ (PySem.mem_of_lookup h) with h|⟨n,m,e⟩
  ·cases h
  ·cases e
   have:=QUq.mp p _ m
   have A:(X.env.cells.lookup x).isSome=true:=by simpa using this
   obtain⟨c,g⟩:=Option.isSome_iff_exists.mp A
   rw[g]
   rfl
 has:=λx h=>by
  have l:(x,NameKind.free)∈d.names:=by
   have:∃k,(relabel d X.env).names.lookup x=some k/\(k=.cell\/k=.free):=by
    rcases h with h|h
    ·exact⟨_,h,.inl rfl⟩
    ·exact⟨_,h,.inr rfl⟩
   obtain⟨B,u,g⟩:=this
   have q:=PySem.mem_of_lookup u
   unfold relabel at q
   obtain⟨⟨n,s⟩,f,i⟩:=Qkq.mp q
   dsimp only at i
   split at i
   ·rename_i c
    cases i
    simp only[QCq] at c
    have:s=NameKind.free:=by simpa using c.1.1
    rw[←this]
    exact f
   ·cases i
    rcases g with z|z
    ·have:=QUq.mp o _ f
     rw[z] at this
     simp at this
    ·rw[←z];exact f
  obtain⟨c,g⟩:=sX (cells:=X.env.cells) d.names [] (.inl l)
  exact m_ g
 cap:=λk j x v m=>by
  obtain⟨a,b,c⟩:=t7 w v m
  refine⟨a,b,?_⟩
  unfold relabel
  exact pq c
 len:=t
structure eZ(P:Program)(w:World)(K:PySem.W.Frag)(mg:Str->Option Value)(base:Heap)(k:Nat)(x:Str)(ps:List Str)(F:dr):Prop where
 ex:∃f fd,bA P w K mg base dG k f fd ps (eh ⟨K,mg⟩ ps.length F)/\Binds K fd ps []/\PySem.W.keepIn K (.ref f)=true/\mg x=some (.ref f)
section
variable{X:Cx}{x:Str}{k n:Nat}{ps:List Str}{F:dr}{e:Expr}{es:List Expr}{g:fK}{p pos:Pos}
def M1(C:eZ X.prog X.w X.K X.mg X.base k x ps F)(h:eQ k X.A)(c:Gl X x)(d:PA X (e::es) (yw (md X) g))(i:nA ps.length g)
  (a:(x==("__debug__":Str))=false:=by decide) (he:starEach (e::es) X.env=(false,eval e X.env)::starEach es X.env:=by rfl) (hpl:(backTo pos (starEach es X.env)).any (·.1)=false:=by rfl):
  PE X (.Call (.Name x p) (e::es) [] pos) (tD (md X) (aA F g)):=by
 obtain⟨f,l,G,b,j,m⟩:=C.ex
 exact JP G h c m j b d i a he hpl
def Lz(C:eZ X.prog X.w X.K X.mg X.base k x ps F)(h:eQ k X.A)(c:Gl X x)(d:PA X (e::es) (yw (md X) g))(i:nA ps.length g)
  (a:(x==("__debug__":Str))=false:=by decide) (he:starEach (e::es) X.env=(false,eval e X.env)::starEach es X.env:=by rfl) (hpl:(backTo pos (starEach es X.env)).any (·.1)=false:=by rfl):
  PE X (.Call (.Name x p) (e::es) [] pos) (tL (md X) (fc F g)):=by
 obtain⟨f,l,G,b,j,m⟩:=C.ex
 exact JT G h c m j b d i a he hpl
end
def eZ.mono{P:Program}{w:World}{K:PySem.W.Frag}{mg:Str->Option Value}{base:Heap}{j k:Nat}{x:Str}{ps:List Str}{F:dr}(C:eZ P w K mg base j x ps F)(h:j<=k):eZ P w K mg base k x ps F:=by
 obtain⟨f,a,G,b,c,m⟩:=C.ex
 exact⟨f,a,G.mono h,b,c,m⟩
structure Bl(mg:Str->Option Value):Prop where
 len:mg "len"=none
 tuple:mg "tuple"=none
 list:mg "list"=none
 dict:mg "dict"=none
 set:mg "set"=none
 int:mg "int"=none
 str:mg "str"=none
 bool:mg "bool"=none
 all:mg "all"=none
 any:mg "any"=none
 range:mg "range"=none
 zip:mg "zip"=none
 sorted:mg "sorted"=none
 isi:mg "isinstance"=none
 min:mg "min"=none
 max:mg "max"=none
 abs:mg "abs"=none
 enum:mg "enumerate"=none
open AutoSeq1 in
def nN(l:Addr)(items:Array Value)(n:Nat)(b:Addr)(a:Array Value)(p:Nat)(o:Option Addr)(j:Array (Option Value))(m:¬(!items.isEmpty&&Builtin.List.listTooLong (items.size+a.size))=true)(c:items.size<=sizeLine)(e:items.size+a.size<=sizeLine+1):
  Meets (Builtin.«list.extend» ⟨[.ref l,.ref b],[]⟩) (λ_ R s=>s.heap.get? l=some {cls:=.type "list",dict:=none,data:=.seq items n,slots:= #[]}/\s.heap.get? b=some {cls:=.type "tuple",dict:=o,data:=.seq a p,slots:=j}/\R (.ok (.ret Value.none)) {s with heap:=s.heap.update l (Obj.mapSeq λx=>x++a),toks:=s.toks}):=
 .of_wp λi w A R s h=>by
  obtain⟨r,g,d,t,B⟩:=s;obtain⟨hl,k,h⟩:=h;have y:=idx_int;have q:=AutoSeq1.sub_tuple_tuple;have z:=AutoSeq1.sub_list_list;have u:=AutoSeq1.sub_tuple_list;have v:=AutoSeq1.sub_list_tuple;
  have f:(items++a).size<=sizeLine+1:=by rw[Array.size_append];exact e
  wp_walk using (wpAny_updateSeq hl rfl (hz:=c) (_hz':=f)),AutoSeq1.wpAny_loadPart' hl,AutoSeq1.wpAny_loadPart' k;exact⟨_,rfl,h⟩
section
variable{X:Cx}{a b c e:Expr}{pos:Pos}{st:Stmt}
def GP:NP X "list.extend" (λx vs H Q=>∃l b xs i,x=.ref l/\vs= [.ref b]/\H l=some (.lst xs)/\gH X.K H b i/\xs.length+i.length<=sizeLine/\Q .non (upd H l (.lst (xs++i)))):=by
 intro k s N H x vs v P Q I y J h
 obtain⟨l,b,xs,i,rfl,rfl,hH,hB,hz,q⟩:=h
 cases y
 obtain⟨u,rfl,ru⟩:=J.one
 cases ru
 obtain⟨z,f,n,r,hl,e⟩:=I.lstM hH
 obtain⟨d,p,⟨⟨B,L,A,w⟩,t,m,M,o⟩,C⟩:=I.tuple hB
 have G:=p.length
 simp only at m o
 subst m o
 have j:f.toArray.size+d.toArray.size<=sizeLine:=by rw[Qjq,Qjq];omega
 have g:¬(!f.toArray.isEmpty&&Builtin.List.listTooLong (f.toArray.size+d.toArray.size))=true:=by
  rw[tV j,Bool.and_false]
  exact Qtq
 refine call_meets F.slot_list_extend ⟨_,e,rfl⟩ F.entry_list_extend (F.args_list_extend_2 _ _)
  (nN l f.toArray n b d.toArray M L w g (by rw[Qjq];omega) (by omega)) ⟨e,t,?_⟩
 refine⟨.non,_,I.lset (its':=f++d) hH e (by simp) (r.append p) ?_,rfl,q⟩
 rw[lQa]
 omega
noncomputable def vt(f:bp)(g:dQ):bp:=λh S=>(f h S).bind λ(x,i)=>match x with
 | .ref k=>(g h i).bind λ(p,d)=>match i[k]?,d[k]? with
   |some (.lst _),some (.lst ds)=>if p.2.isL=false/\ds.length+p.1.length<=sizeLine then some (.non,d.set k (.lst (ds++p.1))) else none
   |_,_=>none
 |_=>none
def Kd{f:bp}{g:dQ}:∀o H Q,tD (md X) (vt f g) o H Q->Nu X.K "list" (λx vs H Q=>∃l b xs u,x=.ref l/\vs= [.ref b]/\H l=some (.lst xs)/\gH X.K H b u/\xs.length+u.length<=sizeLine/\Q .non (upd H l (.lst (xs++u)))) (tD (md X) f) (Gu (tQ (md X) g) JS) o H Q:=λo H Q Z=>by
 obtain⟨L,w,S,d,S',ok,e,q⟩:=Z
 obtain⟨⟨x,z⟩,W,e⟩:=aq e
 cases x with
 | ref k=>
   dsimp only at e
   obtain⟨⟨⟨U,t⟩,S2⟩,G,e⟩:=aq e
   dsimp only at e
   split at e
   · rename_i I ds n j
     split at e
     · rename_i c
       obtain⟨rfl,rfl⟩:=cc e
       refine⟨L,w,S,_,z,ok,W,λs v H1 A i N=> ?_⟩
       cases N with
       | ref y=>
         rename_i a
         obtain⟨p,Y,_⟩:=i.obj k a _ y n
         refine⟨.inl ⟨rfl,p,iC.of Y⟩,s,w,z,U,t,S2,ok.to A i,G,λa1 b R H2 C m M B=> ?_⟩
         have h:=du C.pre y
         obtain⟨vs,P,F⟩:=m.obj k a _ h j
         refine⟨a,b,vs,R,rfl,rfl,P,M.sqT c.1,by rw[←F.length,←B.length];exact c.2,?_⟩
         obtain⟨r,J⟩:=m.putL h j (F.append B)
         exact q _ _ _ ((A.trans C).trans J) r .non
     · cases e
   · cases e
 |_=>cases e
def Lk{f:bp}{g:dQ}{o:Expr}{h d:Pos}(n:PE X o (tD (md X) f))(m:PE X e (tQ (md X) g))(i:attributeBase o "extend" X.env (eval o X.env)=eval o X.env:=by rfl) (k:((backTo d (starEach [e] X.env)).all (λx=> !x.1)&&(backToKw d (keywordEach [] X.env)).all (λx=>x.1.isSome)
   &&decide ([e].length+([]:List Keyword).length+(if ([]:List Keyword).isEmpty then 0 else 1)<30))=true:=by rfl)
  (j:(h.endLine==d.line)=true:=by rfl) (l:starEach [e] X.env= [(false,eval e X.env)]:=by rfl):PE X (.Call (.Attribute o "extend" h) [e] [] d) (tD (md X) (vt f g)):=
 jQ (zQ PySem.F.plainAttrs_list PySem.F.slot_list_extend PySem.F.type_list_extend GP n (cz m eM l) i k j l) Kd
noncomputable def oP(x:V):List V->Option Nat
 | []=>none
 |y::r=>if rG y x=true then some 0 else(oP x r).map (·+1)
theorem CG{x:V}:∀{xs:List V} {j:Nat},oP x xs=some j->(∃y,xs[j]?=some y/\rG y x=true)/\∀m y,m<j->xs[m]?=some y->rG y x=false
 | [],_,h=>by cases h
 | y::r,j,h=>by
   unfold oP at h
   split at h
   · rename_i c
     cases h
     exact⟨⟨y,rfl,c⟩,λm _ d=>absurd d (Nat.not_lt_zero _)⟩
   · rename_i c
     obtain⟨i,n,rfl⟩:=oQm.mp h
     obtain⟨⟨z,k,g⟩,l⟩:=CG n
     refine⟨⟨z,by simpa using k,g⟩,λm w d f=> ?_⟩
     cases m with
     |zero=>cases f;simpa using c
     |succ m=>exact l m w (by omega) (by simpa using f)
def FJ:OB X "list.index" (λx vs H Q=>∃a xs y j,x=.ref a/\vs= [y]/\iC X.K H a xs/\gR y=true/\xs.all gR=true/\oP y xs=some j/\Q (.int (j:Nat)) H):=by
 intro C s σ H x vs v us Q I P Z h
 obtain⟨a,xs,y,j,rfl,rfl,hq,fy,fs,hj,q⟩:=h
 cases P
 obtain⟨u,rfl,ru⟩:=Z.one
 obtain⟨f,r,pl,hz⟩:=I.list hq
 obtain⟨⟨W,dd,U,M⟩,n,e,G,g,J⟩:=pl
 simp only at G g J
 subst G g J
 obtain⟨⟨z,k,N⟩,R⟩:=CG hj
 have hl:=r.length
 have Y:j<xs.length:=(gQs.mp k).1
 obtain⟨w,l,i⟩:=r.get k
 have o:f.toArray[j]'(by rw[Qjq];omega)=w:=by
  have:=(gQs.mp l).2
  simpa using this
 have B:=kO
 refine call_meets PySem.F.slot_list_index ⟨_,e,rfl⟩ PySem.F.entry_list_index (PySem.F.args_list_index_2 _ _)
  (SeqAt.list_indexAt a f.toArray n none M u (Au y) j (by rw[Qjq];omega) (by omega) (by rw[o,xN i (QUq.mp fs z (mQg k))];exact N) λm hm A=> ?_)
  ⟨e,λw l=>jw ru fy r fs w (by simpa using l),⟨.int j,H,I.tok _,⟨_,rfl⟩,q⟩⟩
 have d:m<xs.length:=by rw[Qjq] at hm;omega
 obtain⟨S,p,t⟩:=r.get (gQe d)
 have L:f.toArray[m]=S:=by
  have:=(gQs.mp p).2
  simpa using this
 rw[L,xN t (QUq.mp fs _ (List.getElem_mem d))]
 exact R m _ A (gQe d)
end
end DL
namespace Zq
open PySem
def It(t:Bool)(h:Heap)(i a:Addr)(k:Nat):Prop:=if t=true then h.IsTupleIter i a k else h.IsListIter i a k
def Sq(t:Bool)(h:Heap)(a:Addr)(xs:Array Value):Prop:=if t=true then h.IsTuple a xs else h.IsList a xs
section
variable{t t2:Bool}{h h':Heap}{i j a b z O T:Addr}{k:Nat}{xs ys:Array Value}
theorem It.at(g:It t h i a k)(f:∀o,h.get? i=some o->h'.get? i=some o):It t h' i a k:=by
 cases t with
 |true=>exact(show h.IsTupleIter i a k from g).at f
 |false=>exact(show h.IsListIter i a k from g).at f
def It.ext{c:Addr}(g:It t h i a k)(f:Heap.ExtBut c h h')(n:i≠c):It t h' i a k:=g.at λo e=>f i o n e
def Sq.at(g:Sq t h a xs)(f:∀o,h.get? a=some o->h'.get? a=some o):Sq t h' a xs:=by
 cases t with
 |true=>obtain⟨o,e,r⟩:=(show h.IsTuple a xs from g);exact(show h'.IsTuple a xs from⟨o,f o e,r⟩)
 |false=>obtain⟨o,e,r⟩:=(show h.IsList a xs from g);exact(show h'.IsList a xs from⟨o,f o e,r⟩)
def Sq.ext{c:Addr}(g:Sq t h a xs)(f:Heap.ExtBut c h h')(n:a≠c):Sq t h' a xs:=g.at λo e=>f a o n e
def It.obj(g:It t h i a k):∃o,h.get? i=some o/\∀v,o.data≠.cell v:=by
 cases t with
 |true=>obtain⟨o,e,_,d⟩:=(show h.IsTupleIter i a k from g);exact⟨o,e,λv n=>by rw[d] at n;cases n⟩
 |false=>obtain⟨o,e,_,d⟩:=(show h.IsListIter i a k from g);exact⟨o,e,λv n=>by rw[d] at n;cases n⟩
end
section
variable{prog:Program}{w:World}{A:Around}{E:Value->Shared->Prop}{s:Shared}{t t2:Bool}{z T O i j a b:Addr}{k:Nat}{xs ys:Array Value}{x y u v:Value}
def draw{Q:Value->Shared->Prop}(e:It t s.heap i a k)(c:Sq t s.heap a xs)(d:xs[k]?=some v)
  (q:∀h',It t h' i a (k+1)->Heap.SameBut i s.heap h'->Q v {s with heap:=h'}):wpAny (model prog w) A (Builtin.SmallTypes.nextOf (.ref i)) Q E s:=by
 cases t with
 |true=>exact Zp.Mq e c d q
 |false=>exact wpAny_nextOf_list_item e c d q
def IV{Q:Value->Shared->Prop}(c:A.handled=none)(g:It t s.heap i a k)(d:Sq t s.heap a xs)(f:xs[k]?=none)
  (q:∀h' e,Heap.ExtBut i s.heap h'->(∃o,h'.get? e=some o/\o.cls=.type "StopIteration")->E (.ref e) {s with heap:=h'}):wpAny (model prog w) A (Builtin.SmallTypes.nextOf (.ref i)) Q E s:=by
 cases t with
 |true=>exact Zp.M6 c g d f q
 |false=>exact wpAny_nextOf_list_end c g d f q
abbrev uO(h:Heap)(z T O:Addr)(c d:Value):Prop:=
 h.get? z=some {cls:=.type "zip",dict:=none,data:=.fields #[c,d,.bool false,.ref T,.ref O],slots:= #[]}
def item(D:ZipApart z T O i j a b){Q:Value->Shared->Prop}(n:uO s.heap z T O .none (.bool false))(gT:IsPair s.heap T (.ref i) (.ref j))(gO:IsPair s.heap O u v)(gi:It t s.heap i a k)(gj:It t2 s.heap j b k)
  (ga:Sq t s.heap a xs) (gb:Sq t2 s.heap b ys) (ex:xs[k]?=some x) (ey:ys[k]?=some y)
  (q:∀h',uO h' z T O (rawInt s.heap.objs.size) (.bool false)->IsPair h' O x y->It t h' i a (k+1)->It t2 h' j b (k+1)->IsPair h' s.heap.objs.size x y->Zp.Rest z O i j s.heap h'->Q (.ref s.heap.objs.size) {s with heap:=h'}):
  wpAny (model prog w) A (Builtin.«zip.__next__» ⟨[.ref z],[]⟩) (λI s'=>∃r,I=.done (.ret r)/\Q r s') E s:=by
 refine(?_:wpAny _ _ (field (.ref z) 2 >>= _) _ _ _)
 refine Qaq (QMq n rfl (x:=.bool false) rfl ?_)
 refine(?_:wpAny _ _ (field (.ref z) 3 >>= _) _ _ _)
 refine Qaq (QMq n rfl (x:=.ref T) rfl (Qaq (wpAny_seqItems gT rfl ?_)))
 refine(?_:wpAny _ _ (Builtin.SmallTypes.ownedTupleIsFree (.ref z) >>= _) _ _ _)
 refine Qaq ?_
 unfold Builtin.SmallTypes.ownedTupleIsFree
 refine Qaq (QMq n rfl (x:=.none) rfl (Qgq ?_))
 simp only[if_true]
 refine Qaq (wpAny_rule (Qaq (QMq n rfl (x:=.ref O) rfl (Qaq (wpAny_setField_rec n (by simp) λh1 M f=> ?_)))))
 replace M:uO h1 z T O .ellipsis (.bool false):=M
 refine Qaq ?_
 simp only[List.zipIdx_cons,List.zipIdx_nil,List.forIn_nil,List.forIn_cons]
 refine Qaq (Qaq (wpAny_onRaise ?_))
 refine(?_:wpAny _ _ (Builtin.SmallTypes.nextOf (.ref i) >>= _) _ _ _)
 refine Qaq (draw (gi.ext f.extBut D.i1z) (ga.ext f.extBut D.l1z) ex λh2 i2 h=>Qgq ?_)
 have W:IsPair h2 O u v:=h.extBut _ _ D.TOi1 (f.extBut _ _ D.TOz gO)
 refine Qaq (wpAny_seqItems W rfl (Qaq (wpAny_updateSeq_pair W λh3 L l=>Qaq (wpAny_letGo (Qgq ?_)))))
 replace L:IsPair h3 O x v:=L
 refine Qaq (Qaq (wpAny_onRaise ?_))
 refine(?_:wpAny _ _ (Builtin.SmallTypes.nextOf (.ref j) >>= _) _ _ _)
 refine Qaq (draw (((gj.ext f.extBut D.i2z).ext h.extBut D.i12.symm).ext l.extBut D.TOi2.symm) (((gb.ext f.extBut D.l2z).ext h.extBut D.l2i1).ext l.extBut D.l2TO) ey λh4 j4 p=>Qgq ?_)
 have R:IsPair h4 O x v:=p.extBut _ _ D.TOi2 L
 refine Qaq (wpAny_seqItems R rfl (Qaq (wpAny_updateSeq_pair R λd G m=>Qaq (wpAny_letGo (Qgq (Qgq ?_))))))
 replace G:IsPair d O x y:=G
 refine Qaq (wpAny_seqItems G rfl (Qaq (wpAny_newTuple ?_)))
 have S:d.objs.size=s.heap.objs.size:=by rw[m.1,p.1,l.1,h.1,f.1]
 have P:uO d z T O .ellipsis (.bool false):=m.extBut _ _ D.TOz.symm (p.extBut _ _ D.i2z.symm (l.extBut _ _ D.TOz.symm (h.extBut _ _ D.i1z.symm M)))
 have r5:Zp.Rest z O i j s.heap d:=λc o g F N K e=>m.extBut _ _ F (p.extBut _ _ K (l.extBut _ _ F (h.extBut _ _ N (f.extBut _ _ g e))))
 have i5:It t d i a (k+1):=((i2.ext l.extBut D.TOi1.symm).ext p.extBut D.i12).ext m.extBut D.TOi1.symm
 have j5:It t2 d j b (k+1):=j4.ext m.extBut D.TOi2.symm
 have X:z<d.objs.size:=Qiq P
 refine(?_:wpAny _ _ (Builtin.SmallTypes.ownedTupleHandOut (.ref z) (.ref d.objs.size) >>= _) _ _ _)
 refine Qaq ?_
 unfold Builtin.SmallTypes.ownedTupleHandOut
 have z6:uO (d.push {cls:=.type "tuple",data:=.seq #[x,y]}) z T O .ellipsis (.bool false):=Qcq _ P
 refine Qaq (wpAny_setField_rec z6 (by simp) λh7 J U=> ?_)
 replace J:uO h7 z T O (rawInt d.objs.size) (.bool false):=J
 refine wpAny_setField_rec J (by simp) λC H Z=> ?_
 replace H:uO C z T O (rawInt d.objs.size) (.bool false):=H
 have B:∀c o,c≠z->d.get? c=some o->C.get? c=some o:=λc o g e=>Z.extBut _ _ g (U.extBut _ _ g (Qcq _ e))
 have Y:IsPair C d.objs.size x y:=Z.extBut _ _ (Nat.ne_of_gt X) (U.extBut _ _ (Nat.ne_of_gt X) (Qrq _ rfl))
 rw[S] at H Y
 refine Qgq ⟨_,rfl,?_⟩
 refine(?_:Q (.ref d.objs.size) _)
 rw[S]
 exact q C H (B _ _ D.TOz G) (i5.at λo e=>B _ o D.i1z e) (j5.at λo e=>B _ o D.i2z e) Y λc o g F N K e=>B c o g (r5 c o g F N K e)
def alive{α:Addr}{Q:Option Obj->Shared->Prop}(h:Q (s.heap.get? α) s):wpAny (model prog w) A (loadIfAlive α) Q E s:=λ_ _ _=>h
def again(D:ZipApart z T O i j a b){p:Addr}{op:Obj}{m:Value}{Q:Value->Shared->Prop}(g:uO s.heap z T O (rawInt p) m)(gp:s.heap.get? p=some op)(X:IsPair s.heap T (.ref i) (.ref j))(Z:It t s.heap i a k)(L:It t2 s.heap j b k)
  (U:Sq t s.heap a xs) (S:Sq t2 s.heap b ys) (ex:xs[k]?=some x) (P:ys[k]?=some y)
  (q:∀h',uO h' z T O (rawInt p) (.bool true)->It t h' i a (k+1)->It t2 h' j b (k+1)->IsPair h' s.heap.objs.size x y->Zp.Rest z O i j s.heap h'->Q (.ref s.heap.objs.size) {s with heap:=h'}):
  wpAny (model prog w) A (Builtin.«zip.__next__» ⟨[.ref z],[]⟩) (λG C=>∃r,G=.done (.ret r)/\Q r C) E s:=by
 refine(?_:wpAny _ _ (field (.ref z) 2 >>= _) _ _ _)
 refine Qaq (QMq g rfl (x:=.bool false) rfl ?_)
 refine(?_:wpAny _ _ (field (.ref z) 3 >>= _) _ _ _)
 refine Qaq (QMq g rfl (x:=.ref T) rfl (Qaq (wpAny_seqItems X rfl ?_)))
 refine(?_:wpAny _ _ (Builtin.SmallTypes.ownedTupleIsFree (.ref z) >>= _) _ _ _)
 refine Qaq ?_
 unfold Builtin.SmallTypes.ownedTupleIsFree
 refine Qaq (QMq g rfl (x:=rawInt p) rfl ?_)
 refine(?_:wpAny _ _ (loadIfAlive ((p:Int).toNat) >>= _) _ _ _)
 refine Qaq ?_
 rw[Int.toNat_natCast]
 refine alive ?_
 rw[gp]
 refine(?_:wpAny _ _ (field (.ref z) 1 >>= _) _ _ _)
 refine Qaq (QMq g rfl (x:=m) rfl ?_)
 have I:wpAny (model prog w) A (if (m !=Value.bool true)=true then(do let _←setField (.ref z) 1 (.bool true);pure false) else pure false)
   (λr C=>r=false/\∃l,C={s with heap:=l}/\uO l z T O (rawInt p) (.bool true)/\Heap.SameBut z s.heap l) E s:=by
  by_cases c:(m !=Value.bool true)=true
  ·rw[Qhq c]
   exact Qaq (wpAny_setField_rec g (by simp) λl J d=>Qgq ⟨rfl,l,rfl,J,d⟩)
  ·rw[Quq c]
   have e:m=Value.bool true:=by simpa using c
   subst e
   exact Qgq ⟨rfl,s.heap,rfl,g,Heap.SameBut.refl _ _⟩
 refine QRq I (λr C H=> ?_) λ_ _ h=>h
 obtain⟨rfl,l,rfl,J,d⟩:=H
 simp only[Bool.false_eq_true,if_false]
 refine Qaq ?_
 simp only[List.forIn_toArray,List.forIn_cons,List.forIn_nil]
 refine Qaq (Qaq (QLq ?_))
 refine(?_:wpAny _ _ (Builtin.SmallTypes.nextOf (.ref i) >>= _) _ _ _)
 refine Qaq (draw (Z.ext d.extBut D.i1z) (U.ext d.extBut D.l1z) ex λh2 i2 n=>Qgq (Qgq ?_))
 refine Qaq (Qaq (QLq ?_))
 refine(?_:wpAny _ _ (Builtin.SmallTypes.nextOf (.ref j) >>= _) _ _ _)
 refine Qaq (draw ((L.ext d.extBut D.i2z).ext n.extBut D.i12.symm) ((S.ext d.extBut D.l2z).ext n.extBut D.l2i1) P λf W F=>Qgq (Qgq (Qgq ?_)))
 refine Qaq (wpAny_newTuple ?_ (by show 2<=_;decide))
 have N:f.objs.size=s.heap.objs.size:=by rw[F.1,n.1,d.1]
 have B:∀c o,f.get? c=some o->(f.push {cls:=.type "tuple",data:=.seq #[x,y]}).get? c=some o:=λc o e=>Qcq _ e
 have K:IsPair (f.push {cls:=.type "tuple",data:=.seq #[x,y]}) f.objs.size x y:=Qrq _ rfl
 have Y:uO (f.push {cls:=.type "tuple",data:=.seq #[x,y]}) z T O (rawInt p) (.bool true):=B _ _ (F.extBut _ _ D.i2z.symm (n.extBut _ _ D.i1z.symm J))
 refine Qgq ⟨_,rfl,?_⟩
 refine(?_:Q (.ref f.objs.size) _)
 rw[N] at K⊢
 exact q _ Y ((i2.ext F.extBut D.i12).at λo e=>B _ o e) (W.at λo e=>B _ o e) K λc o R c2 c3 M e=>B c o (F.extBut _ _ M (n.extBut _ _ c3 (d.extBut _ _ R e)))
def stop(D:ZipApart z T O i j a b){Q:Fin->Shared->Prop}(C:A.handled=none)(d:uO s.heap z T O .none (.bool false))(K:IsPair s.heap T (.ref i) (.ref j))(N:It t s.heap i a k)(J:Sq t s.heap a xs)(ex:xs[k]?=none)
  (q:∀h' e,Zp.Rest z O i j s.heap h'->(∃o,h'.get? e=some o/\o.cls=.type "StopIteration")->E (.ref e) {s with heap:=h'}):
  wpAny (model prog w) A (Builtin.«zip.__next__» ⟨[.ref z],[]⟩) Q E s:=by
 refine(?_:wpAny _ _ (field (.ref z) 2 >>= _) _ _ _)
 refine Qaq (QMq d rfl (x:=.bool false) rfl ?_)
 refine(?_:wpAny _ _ (field (.ref z) 3 >>= _) _ _ _)
 refine Qaq (QMq d rfl (x:=.ref T) rfl (Qaq (wpAny_seqItems K rfl ?_)))
 refine(?_:wpAny _ _ (Builtin.SmallTypes.ownedTupleIsFree (.ref z) >>= _) _ _ _)
 refine Qaq ?_
 unfold Builtin.SmallTypes.ownedTupleIsFree
 refine Qaq (QMq d rfl (x:=.none) rfl (Qgq ?_))
 simp only[if_true]
 refine Qaq (wpAny_rule (Qaq (QMq d rfl (x:=.ref O) rfl (Qaq (wpAny_setField_rec d (by simp) λH g f=> ?_)))))
 replace g:uO H z T O .ellipsis (.bool false):=g
 refine Qaq ?_
 simp only[List.zipIdx_cons,List.zipIdx_nil,List.forIn_nil,List.forIn_cons]
 refine Qaq (Qaq (wpAny_onRaise ?_))
 refine(?_:wpAny _ _ (Builtin.SmallTypes.nextOf (.ref i) >>= _) _ _ _)
 refine Qaq (IV C (N.ext f.extBut D.i1z) (J.ext f.extBut D.l1z) ex λF e p M=> ?_)
 obtain⟨G,h,r⟩:=M
 have m:uO F z T O .ellipsis (.bool false):=p _ _ D.i1z.symm g
 have L:e≠z:=λn=>by rw[n,m] at h;cases h;simp at r
 exact wpAny_setField_rec m (by simp) λI _ B=>q I e (λc o l _ P _ n=>B.extBut _ _ l (p _ _ P (f.extBut _ _ l n))) ⟨G,B.extBut _ _ L h,r⟩
def M4(D:ZipApart z T O i j a b){p:Addr}{op:Obj}{l:Value}{Q:Fin->Shared->Prop}(G:A.handled=none)(d:uO s.heap z T O (rawInt p) l)(R:s.heap.get? p=some op)(K:IsPair s.heap T (.ref i) (.ref j))(M:It t s.heap i a k)(J:Sq t s.heap a xs)(ex:xs[k]?=none)
  (q:∀h' e,Zp.Rest z O i j s.heap h'->(∃o,h'.get? e=some o/\o.cls=.type "StopIteration")->E (.ref e) {s with heap:=h'}):
  wpAny (model prog w) A (Builtin.«zip.__next__» ⟨[.ref z],[]⟩) Q E s:=by
 refine(?_:wpAny _ _ (field (.ref z) 2 >>= _) _ _ _)
 refine Qaq (QMq d rfl (x:=.bool false) rfl ?_)
 refine(?_:wpAny _ _ (field (.ref z) 3 >>= _) _ _ _)
 refine Qaq (QMq d rfl (x:=.ref T) rfl (Qaq (wpAny_seqItems K rfl ?_)))
 refine(?_:wpAny _ _ (Builtin.SmallTypes.ownedTupleIsFree (.ref z) >>= _) _ _ _)
 refine Qaq ?_
 unfold Builtin.SmallTypes.ownedTupleIsFree
 refine Qaq (QMq d rfl (x:=rawInt p) rfl ?_)
 refine(?_:wpAny _ _ (loadIfAlive ((p:Int).toNat) >>= _) _ _ _)
 refine Qaq ?_
 rw[Int.toNat_natCast]
 refine alive ?_
 rw[R]
 refine(?_:wpAny _ _ (field (.ref z) 1 >>= _) _ _ _)
 refine Qaq (QMq d rfl (x:=l) rfl ?_)
 have B:wpAny (model prog w) A (if (l !=Value.bool true)=true then(do let _←setField (.ref z) 1 (.bool true);pure false) else pure false)
   (λr C=>r=false/\∃f,C={s with heap:=f}/\uO f z T O (rawInt p) (.bool true)/\Heap.SameBut z s.heap f) E s:=by
  by_cases c:(l !=Value.bool true)=true
  ·rw[Qhq c]
   exact Qaq (wpAny_setField_rec d (by simp) λf F g=>Qgq ⟨rfl,f,rfl,F,g⟩)
  ·rw[Quq c]
   have e:l=Value.bool true:=by simpa using c
   subst e
   exact Qgq ⟨rfl,s.heap,rfl,d,Heap.SameBut.refl _ _⟩
 refine QRq B (λr C m=> ?_) λ_ _ h=>h
 obtain⟨rfl,f,rfl,F,g⟩:=m
 simp only[Bool.false_eq_true,if_false]
 refine Qaq ?_
 simp only[List.forIn_toArray,List.forIn_cons,List.forIn_nil]
 refine Qaq (Qaq (QLq ?_))
 refine(?_:wpAny _ _ (Builtin.SmallTypes.nextOf (.ref i) >>= _) _ _ _)
 refine Qaq (IV G (M.ext g.extBut D.i1z) (J.ext g.extBut D.l1z) ex λH e L N=> ?_)
 exact q H e (λc o I _ P _ n=>L _ _ P (g.extBut _ _ I n)) N
def Zs(h:Heap)(z T O i j:Addr):Prop:=uO h z T O .none (.bool false)/\(∃u v,IsPair h O u v)\/∃(p:Addr) (d:Obj) (c:Value),uO h z T O (rawInt (p:Nat)) c/\h.get? p=some d/\p≠z/\p≠O/\p≠i/\p≠j
def Zs.but{h h':Heap}{S:Addr}(g:Zs h z T O i j)(f:∀c o,c≠S->h.get? c=some o->h'.get? c=some o)(e:z≠S)(B:O≠S)(r:∃o,h'.get? S=some o):Zs h' z T O i j:=by
 rcases g with⟨d,u,v,F⟩|⟨p,m,l,d,C,n⟩
 ·exact .inl ⟨f _ _ e d,u,v,f _ _ B F⟩
 ·by_cases c:p=S
  ·subst c
   obtain⟨o,q⟩:=r
   exact .inr ⟨p,o,l,f _ _ e d,q,n⟩
  ·exact .inr ⟨p,m,l,f _ _ e d,f _ _ c C,n⟩
def Gq(D:ZipApart z T O i j a b){Q:Option Value->Shared->Prop}(d:Zs s.heap z T O i j)(M:IsPair s.heap T (.ref i) (.ref j))(r:It t s.heap i a k)(m:It t2 s.heap j b k)
  (K:Sq t s.heap a xs) (J:Sq t2 s.heap b ys) (ex:xs[k]?=some x) (I:ys[k]?=some y)
  (q:∀h',Zs h' z T O i j->It t h' i a (k+1)->It t2 h' j b (k+1)->IsPair h' s.heap.objs.size x y->Zp.Rest z O i j s.heap h'->Q (some (.ref s.heap.objs.size)) {s with heap:=h'}):
  wpAny (model prog w) A (pyNext (.ref z)) Q E s:=by
 unfold pyNext
 have g:∀{c o},s.heap.get? c=some o->s.heap.objs.size≠c:=λe=>Nat.ne_of_gt (Qiq e)
 obtain⟨X,U,_⟩:=r.obj
 obtain⟨Y,W,_⟩:=m.obj
 rcases d with⟨d,u,v,R⟩|⟨p,S,Z,d,P,H,G,N,L⟩
 ·have f:s.TypeIs (.ref z) "zip":=⟨_,d,rfl⟩
  exact Qaq (wpAny_attempt (QiQ (name:=Str.ofString "__next__") f F.slot_zip_next (wpAny_call_entry F.slot_zip_next f F.entry_zip_next
   (item D d M R r m K J ex I λh' C a2 n B h l=>Qgq (q h' (.inr ⟨_,_,_,C,h,g d,g R,g U,g W⟩) n B h l)) (F.args_zip_next_1 _))))
 ·have f:s.TypeIs (.ref z) "zip":=⟨_,d,rfl⟩
  exact Qaq (wpAny_attempt (QiQ (name:=Str.ofString "__next__") f F.slot_zip_next (wpAny_call_entry F.slot_zip_next f F.entry_zip_next
   (again D d P M r m K J ex I λh' C n B h l=>Qgq (q h' (.inr ⟨p,S,_,C,l _ _ H G N L P,H,G,N,L⟩) n B h l)) (F.args_zip_next_1 _))))
def Ao(D:ZipApart z T O i j a b){Q:Option Value->Shared->Prop}(h:A.handled=none)(c:Zs s.heap z T O i j)(m:IsPair s.heap T (.ref i) (.ref j))(n:It t s.heap i a k)(l:Sq t s.heap a xs)(ex:xs[k]?=none)
  (q:∀h',Zp.Rest z O i j s.heap h'->Q none {s with heap:=h'}):wpAny (model prog w) A (pyNext (.ref z)) Q E s:=by
 unfold pyNext
 rcases c with⟨c,u,v,H⟩|⟨p,C,G,c,B,_⟩
 ·have d:s.TypeIs (.ref z) "zip":=⟨_,c,rfl⟩
  exact Qaq (wpAny_attempt (QiQ (name:=Str.ofString "__next__") d F.slot_zip_next (wpAny_call_entry F.slot_zip_next d F.entry_zip_next
   (stop D h c m n l ex λh' e r ⟨o,g,f⟩=>Qaq (wpAny_isInstance (T:="StopIteration") (b:=true) ⟨o,g,f⟩ isSubtype_stop (Qgq (q _ r)))) (F.args_zip_next_1 _))))
 ·have d:s.TypeIs (.ref z) "zip":=⟨_,c,rfl⟩
  exact Qaq (wpAny_attempt (QiQ (name:=Str.ofString "__next__") d F.slot_zip_next (wpAny_call_entry F.slot_zip_next d F.entry_zip_next
   (M4 D h c B m n l ex λh' e r ⟨o,g,f⟩=>Qaq (wpAny_isInstance (T:="StopIteration") (b:=true) ⟨o,g,f⟩ isSubtype_stop (Qgq (q _ r)))) (F.args_zip_next_1 _))))
end
noncomputable def Ob(t:Bool):String:=if t=true then "tuple_iterator" else "list_iterator"
noncomputable abbrev H1(t:Bool)(h:Heap)(a:Addr):Heap:=h.push {cls:=.type (Ob t),data:=.fields #[.ref a,.int 0 0]}
noncomputable abbrev H2(t t2:Bool)(h:Heap)(a b:Addr):Heap:=(H1 t h a).push {cls:=.type (Ob t2),data:=.fields #[.ref b,.int 0 0]}
noncomputable abbrev H3(t t2:Bool)(h:Heap)(a b:Addr):Heap:=(H2 t t2 h a b).push {cls:=.type "tuple",data:=.seq #[.ref h.objs.size,.ref (H1 t h a).objs.size]}
noncomputable abbrev H4(t t2:Bool)(h:Heap)(a b:Addr):Heap:=(H3 t t2 h a b).push {cls:=.type "tuple",data:=.seq #[.none,.none]}
noncomputable abbrev H5(t t2:Bool)(h:Heap)(a b:Addr):Heap:=(H4 t t2 h a b).push {cls:=.type "zip",data:=.fields #[.none,.bool false,.bool false,.ref (H2 t t2 h a b).objs.size,.ref (H3 t t2 h a b).objs.size]}
def Sq.push{t:Bool}{h:Heap}{a:Addr}{xs:Array Value}(g:Sq t h a xs)(o:Obj):Sq t (h.push o) a xs:=g.at λ_ e=>Qcq _ e
def D0(t t2:Bool)(a b:Addr)(xs ys:Array Value):Meets (Builtin.«zip.__new__» ⟨[.type "zip",.ref a,.ref b],[]⟩) (λ_ R s=>Sq t s.heap a xs/\Sq t2 s.heap b ys/\R (.ok (.ret (.ref (H4 t t2 s.heap a b).objs.size))) {s with heap:=H5 t t2 s.heap a b}):=
 .of_wp λm w A R s h=>by
  obtain⟨e,g,d,f,i⟩:=s
  obtain⟨l,n,h⟩:=h
  have o:=sub_zip
  have c:=n.push {cls:=.type (Ob t),data:=.fields #[.ref a,.int 0 0]}
  cases t <;>cases t2
  ·have j:Heap.IsList (Shared.heap ⟨e,g,d,f,i⟩) a xs:=l
   have k:Heap.IsList (Shared.heap ⟨e.push {cls:=.type "list_iterator",data:=.fields #[.ref a,.int 0 0]},g,d,f,i⟩) b ys:=c
   wp_walk using wpAny_pyIter_list j,wpAny_pyIter_list k
   exact⟨_,rfl,h⟩
  ·have j:Heap.IsList (Shared.heap ⟨e,g,d,f,i⟩) a xs:=l
   have k:Heap.IsTuple (Shared.heap ⟨e.push {cls:=.type "list_iterator",data:=.fields #[.ref a,.int 0 0]},g,d,f,i⟩) b ys:=c
   wp_walk using wpAny_pyIter_list j,wpAny_pyIter_tuple k
   exact⟨_,rfl,h⟩
  ·have j:Heap.IsTuple (Shared.heap ⟨e,g,d,f,i⟩) a xs:=l
   have k:Heap.IsList (Shared.heap ⟨e.push {cls:=.type "tuple_iterator",data:=.fields #[.ref a,.int 0 0]},g,d,f,i⟩) b ys:=c
   wp_walk using wpAny_pyIter_tuple j,wpAny_pyIter_list k
   exact⟨_,rfl,h⟩
  ·have j:Heap.IsTuple (Shared.heap ⟨e,g,d,f,i⟩) a xs:=l
   have k:Heap.IsTuple (Shared.heap ⟨e.push {cls:=.type "tuple_iterator",data:=.fields #[.ref a,.int 0 0]},g,d,f,i⟩) b ys:=c
   wp_walk using wpAny_pyIter_tuple j,wpAny_pyIter_tuple k
   exact⟨_,rfl,h⟩
section
variable{prog:Program}{w:World}{A:Around}{E:Value->Shared->Prop}{s:Shared}
def IM{t t2:Bool}{a b:Addr}{xs ys:Array Value}{Q:Value->Shared->Prop}(r:Sq t s.heap a xs)(p:Sq t2 s.heap b ys)
  (q:∀h',uO h' (s.heap.objs.size+4) (s.heap.objs.size+2) (s.heap.objs.size+3) .none (.bool false)->IsPair h' (s.heap.objs.size+2) (.ref s.heap.objs.size) (.ref (s.heap.objs.size+1))->IsPair h' (s.heap.objs.size+3) .none .none→
   It t h' s.heap.objs.size a 0->It t2 h' (s.heap.objs.size+1) b 0->(∀c o,s.heap.get? c=some o->h'.get? c=some o)->Q (.ref (s.heap.objs.size+4)) {s with heap:=h'}):
  wpAny (model prog w) A (call (.type "zip") [.ref a,.ref b]) Q E s:=by
 refine callType_new F.called_zip (by decide) (F.typeCall_zip_2 _ _) (F.newCall_zip_2 _ _) (λf=>F.args_object_init_3 f _ _) F.entry_zip_new (D0 t t2 a b xs ys) ⟨r,p,?_⟩
 have g:(H1 t s.heap a).objs.size=s.heap.objs.size+1:=Heap.size_push ..
 have d:(H2 t t2 s.heap a b).objs.size=s.heap.objs.size+2:=by rw[Heap.size_push,g]
 have h:(H3 t t2 s.heap a b).objs.size=s.heap.objs.size+3:=by rw[Heap.size_push,d]
 have j:(H4 t t2 s.heap a b).objs.size=s.heap.objs.size+4:=by rw[Heap.size_push,h]
 have e:(H5 t t2 s.heap a b).get? (H4 t t2 s.heap a b).objs.size=some _:=Qrq _ rfl
 have k:(H5 t t2 s.heap a b).get? (H3 t t2 s.heap a b).objs.size=some _:=Qcq _ (Qrq _ rfl)
 have l:(H5 t t2 s.heap a b).get? (H2 t t2 s.heap a b).objs.size=some _:=Qcq _ (Qcq _ (Qrq _ rfl))
 have i:(H5 t t2 s.heap a b).get? (H1 t s.heap a).objs.size=some _:=Qcq _ (Qcq _ (Qcq _ (Qrq _ rfl)))
 have m:(H5 t t2 s.heap a b).get? s.heap.objs.size=some _:=Qcq _ (Qcq _ (Qcq _ (Qcq _ (Qrq _ rfl))))
 refine(?_:_/\_)
 rw[d,h,j] at e
 rw[g,d] at l
 rw[h] at k
 rw[g] at i
 rw[j]
 refine⟨⟨_,e,rfl⟩,q _ e l k ?_ ?_ λc o n=>Qcq _ (Qcq _ (Qcq _ (Qcq _ (Qcq _ n))))⟩
 ·cases t <;>exact⟨_,m,rfl,rfl⟩
 ·cases t2 <;>exact⟨_,i,rfl,rfl⟩
end
def qD:typeLookup (.type "zip") "__getattr__"=pure none:=by rw[typeLookup_type,builtinLookup_eq_fast];kernel_rfl
def j0:entryFor table "zip.__getattribute__"=some Builtin.«object.__getattribute__»:=
 entryFor_alias (id':="object.__getattribute__") (by kernel_rfl) (by decide +kernel) (by decide +kernel) (by kernel_rfl)
def rP:typeLookup (Value.type "zip") (Str.ofString "keys")=pure none:=by
 rw[typeLookup_type,builtinLookup_eq_fast]
 rfl
def t4(a:Addr)(fs:Array Value)(name:Str)(u:Tok)(e:typeLookup (.type "zip") name=pure none)(b:(["__module__","__name__","__qualname__","__doc__","__annotations__"]:List Str).contains name=false)(hsz:name.length+100<=sizeLine:=by size_fits):
  Meets (Builtin.«object.__getattribute__» ⟨[.ref a,.str name u],[]⟩) (λA R s=>s.heap.get? a=some {cls:=.type "zip",dict:=none,data:=.fields fs,slots:= #[]}/\raisesAttr (.ref a) name A R s):=
 Meets.of_wp λf w A R s c=>by
  obtain⟨h,g,d,i,j⟩:=s
  obtain⟨k,c⟩:=c
  have l:(⟨h,g,d,i,j⟩:Shared).TypeIs (.ref a) "zip":=⟨_,k,rfl⟩
  unfold Builtin.«object.__getattribute__»
  repeat (any_goals (first|assumption|wp_step))
  simp only[b,Bool.false_eq_true,if_false]
  repeat (any_goals (first|assumption|wp_step))
  exact wpAny_raiseAttrError c.1 c.2 (attrMsg_fits (by decide +kernel) hsz)
def Di{prog:Program}{w:World}{A:Around}{E:Value->Shared->Prop}{s:Shared}{a:Addr}{fs:Array Value}{Q:Option Value->Shared->Prop}
  (j:s.heap.get? a=some {cls:=.type "zip",dict:=none,data:=.fields fs,slots:= #[]}) (n:A.handled=none)
  (h:∀(h':Heap) (i:Nat),(∀b o,s.heap.get? b=some o->h'.get? b=some o)->Q none {s with heap:=h',toks:=i}):
  wpAny (model prog w) A (getAttr? (.ref a) (Str.ofString "keys")) Q E s:=by
 obtain⟨p,g,d,i,m⟩:=s
 have u:∀x,Shared.TypeIs ⟨p,g,d,x,m⟩ (.ref a) "zip":=λx=>⟨_,j,rfl⟩
 have l:=sub_AttributeError
 have t:=F.slot_zip_getattribute.lookup
 have q:=F.slot_zip_getattribute.bind (Value.ref a)
 have r:=qD
 unfold getAttr? mkText getAttrBy? getAttrBy
 refine Qaq (Qaq (wpAny_fresh' (Qgq (Qaq (wpAny_attempt (QLq ?_))))))
 unfold typeOf
 refine Qaq (Qaq (wpAny_loadPart' j (Qgq (Qaq (wpAny_of_eq t (QgQ rfl ?_))))))
 unfold getAttrByItsOwn hookBefore
 refine Qaq (QgQ rfl (Qgq (Qaq (wpAny_attempt (QLq ?_)))))
 unfold callGetattribute
 refine QgQ rfl ?_
 unfold boundAndCalled
 refine Qaq (wpAny_of_eq q ?_)
 refine call_meets F.slot_zip_getattribute (u (i+1)) j0 (F.args_zip_getattribute_2 (Value.ref a) _) (t4 a fs (Str.ofString "keys") i rP (by decide +kernel) (by decide +kernel)) ⟨j,n,λh' f e c=> ?_⟩
 obtain⟨y,z,v⟩:=c.there
 have k:Shared.TypeIs ⟨h',g,d,f,m⟩ (.ref e) "AttributeError":=⟨_,v,rfl⟩
 show wpAny _ _ (getattributeRaised _ _ _ _ _ _ _) _ _ _
 unfold getattributeRaised
 refine Qaq (wpAny_isInstance k l (wpAny_ite_true rfl ?_))
 unfold hookBehind hookOrError
 refine Qaq (QgQ rfl (wpAny_of_eq r ?_))
 show wpAny _ _ (attributeErrorLeaves _ _ _ _ _) _ _ _
 unfold attributeErrorLeaves
 refine wpAny_ite_true rfl (wpAny_throw ?_)
 exact Qaq (wpAny_isInstance k l (wpAny_ite_true rfl (Qgq (h h' f c.keeps))))
def va{prog:Program}{w:World}{A:Around}{E:Value->Shared->Prop}{s:Shared}{z:Addr}{fs:Array Value}{Q:Value->Shared->Prop}
  (m:s.heap.get? z=some {cls:=.type "zip",dict:=none,data:=.fields fs,slots:= #[]}) (g:A.handled=none)
  (h:∀(h':Heap) (d:Nat),(∀b o,(s.heap.push {cls:=.type "dict",data:=.dict #[]}).get? b=some o->h'.get? b=some o)→
   wpAny (model prog w) A.in1.in1 (pyIter (.ref z)) (λit f=>codeAny (model prog w) A.in1 (.builtin "dict.update.loop" {pos:= [.ref s.heap.objs.size,it,rawInt 0,.none]}) (wants (λr a=>r=.none/\Q (.ref s.heap.objs.size) a) E) f) E {s with heap:=h',toks:=d}):
  wpAny (model prog w) A (call (.type "dict") [.ref z]) Q E s:=by
 refine Dk.yZ ?_
 have k:=Qrq s.heap (o:={cls:=.type "dict",data:=.dict #[]}) rfl
 have j:Shared.TypeIs {s with heap:=s.heap.push {cls:=.type "dict",data:=.dict #[]}} (.ref s.heap.objs.size) "dict":=⟨_,k,rfl⟩
 have c:=Qcq {cls:=.type "dict",data:=.dict #[]} m
 have l:Shared.TypeIs {s with heap:=s.heap.push {cls:=.type "dict",data:=.dict #[]}} (.ref z) "zip":=⟨_,c,rfl⟩
 unfold Builtin.«dict.__init__» Builtin.Dict.selfAndRest
 refine Qaq (Qaq (wpAny_notOrdered_dict j ?_))
 refine Qaq (Qgq (Qgq ?_))
 show wpAny _ _ (Builtin.Dict.updateFrom _ _ _ _ _) _ _ _
 unfold Builtin.Dict.updateFrom
 refine Qaq (wpAny_typeOf l (wpAny_ite_true (by decide +kernel) (Qaq (Di c (by simpa using g) λh' d i=> ?_))))
 refine wpAny_ite_true rfl ?_
 refine Qaq (wpAny_rule (Qaq (QRq (h h' d i) (λit f q=> ?_) λe f q=>q)))
 exact Qgq ⟨plainId_quiet (by decide +kernel) _,q⟩
end Zq
namespace Zq
open PySem Dk
section
variable{prog:Program}{w:World}{K:Type}[DecidableEq K]{knd:KeyKind prog w K}{z T O i j a b S:Addr}{t t2:Bool}{xs ys:Array Value}
def AQ{A:Around}{R:Result->Shared->Prop}(hA:A.in1.handled=none)(D:ZipApart z T O i j a b)(nS:S≠z/\S≠T/\S≠O/\S≠i/\S≠j/\S≠a/\S≠b)(a5:a≠T/\b≠T)(f:Nat->K)(u:∀(n:Nat) v,xs[n]?=some v->knd.is (f n) v=true)(a6:xs.size<=ys.size)(hn:xs.size<=sizeLine):
  ∀ (m n:Nat) (c:Int) (s:Shared),xs.size-n=m->n<=xs.size->Zs s.heap z T O i j->IsPair s.heap T (.ref i) (.ref j)->It t s.heap i a n->It t2 s.heap j b n->Sq t s.heap a xs->Sq t2 s.heap b ys->Heap.DictOf knd s.heap S (KM f (λn=>ys.getD n .none) n)→
    (∀h' L,Heap.DictOf knd h' S (KM f (λn=>ys.getD n .none) xs.size)->(∀c o,c≠z->c≠O->c≠i->c≠j->c≠S->s.heap.get? c=some o->h'.get? c=some o)->R (.ok (.ret .none)) {s with heap:=h',toks:=L})→
    codeAny (model prog w) A (.builtin "dict.update.loop" {pos:= [.ref S,.ref z,rawInt c,.none]}) R s:=by
 obtain⟨n1,n2,n3,U,H,n6,n7⟩:=nS
 intro m
 induction m with
 | zero=>
   intro n c s hm Y I C gi gj B P X h
   have e:n=xs.size:=by omega
   subst e
   refine codeAny_builtin kF ?_
   rw[Around.under_plainId gN]
   show wpAny _ _ (do let __x←pyNext (.ref z);_) _ _ _
   refine Qaq (Ao D hA I C gi B (by simp) λh' r=> ?_)
   refine Qaq (Qgq (Qgq (h h' s.toks ?_ λc o k l p g _ e=>r c o k l p g e)))
   obtain⟨o,es,N,M,J⟩:=X
   exact⟨o,es,N,r _ _ n1 n3 U H M,J⟩
 | succ m ih=>
   intro n c s hm Y I C gi gj B P X h
   have x:n<xs.size:=by omega
   have ex:xs[n]?=some xs[n]:=by simp[x]
   have ey:ys[n]?=some ys[n]:=by simp[show n<ys.size by omega]
   refine codeAny_builtin kF ?_
   rw[Around.under_plainId gN]
   show wpAny _ _ (do let __x←pyNext (.ref z);_) _ _ _
   refine Qaq (Gq D I C gi gj B P ex ey λhp G a2 Z gp r=> ?_)
   have a3:Heap.DictOf knd hp S (KM f (λn=>ys.getD n .none) n):=by
     obtain⟨o,es,N,M,J⟩:=X
     exact⟨o,es,N,r _ _ n1 n3 U H M,J⟩
   refine Qaq (QLq (Qaq (wpAny_tryCatch ?_)))
   unfold Builtin.Dict.pairItems
   refine Qaq (wpAny_typeOf (T:="tuple") ⟨_,gp,rfl⟩ (wpAny_ite_true rfl (Qaq ?_)))
   unfold seqItems?
   refine Qaq (wpAny_load' gp (Qgq (Qgq (QLq (wpAny_dictSet_pairs (u n _ ex) a3 (λh' q hs=> ?_) (QAq (CA f _ n) (by omega)))))))
   have ev:ys.getD n .none=ys[n]:=by simp[Array.getD,show n<ys.size by omega]
   have y:∀c o,c≠S->hp.get? c=some o->h'.get? c=some o:=λc o hc e=>by rw[hs.2 c hc];exact e
   have d:∀c o,c≠z->c≠O->c≠i->c≠j->c≠S->s.heap.get? c=some o->h'.get? c=some o:=λc o k l p g F e=>y c o F (r c o k l p g e)
   have a1:∃o,h'.get? S=some o:=by obtain⟨o,_,_,e,_⟩:=q;exact⟨o,e⟩
   have Q:Heap.DictOf knd h' S (KM f (λn=>ys.getD n .none) (n+1)):=by
     show Heap.DictOf knd h' S (stored _ (f n) (ys.getD n .none))
     rw[ev]
     exact q
   refine Qgq ⟨plainId_quiet gN _,ih (n+1) (c+1) _ (by omega) x (G.but y n1.symm n3.symm a1) ?_ (a2.at λo e=>y _ o U.symm e) (Z.at λo e=>y _ o H.symm e) ?_ ?_ Q λW L a4 k4=>h W L a4 λc o k l p g F e=>k4 c o k l p g F (d c o k l p g F e)⟩
   · exact d _ _ D.TIz D.TITO D.TIi1 D.TIi2 n2.symm C
   · exact B.at λo e=>d _ o D.l1z D.l1TO D.l1i1 D.l1i2 n6.symm e
   · exact P.at λo e=>d _ o D.l2z D.l2TO D.l2i1 D.l2i2 n7.symm e
end
end Zq
namespace L2
open PySem PySem.Spec PyProof.Rows Zq
section
variable{X:Cx}
def DF(K:PySem.W.Frag)(t:Bool)(H:Hp)(a:Addr)(xs:List V):Prop:=if t=true then gH K H a xs else iC K H a xs
def Inv.sq{c:List (Addr×Obj)}{d:St}{H:Hp}{s:Shared}{t:Bool}{a:Addr}{xs:List V}(I:Inv X c d H s)(h:DF X.K t H a xs):∃b:List Value,bH xs b/\Sq t s.heap a b.toArray/\xs.length<=sizeLine:=by
 cases t with
 | true=>
   obtain⟨b,r,p,z⟩:=I.tuple h
   exact⟨b,r,(show s.heap.IsTuple a b.toArray from p),z⟩
 | false=>
   obtain⟨b,r,p,z⟩:=I.list h
   exact⟨b,r,(show s.heap.IsList a b.toArray from p.isList),z⟩
def Sq.lt{t:Bool}{h:Heap}{a:Addr}{xs:Array Value}(g:Sq t h a xs):a<h.objs.size:=by
 cases t with
 |true=>obtain⟨o,e,_⟩:=(show h.IsTuple a xs from g);exact Qiq e
 |false=>obtain⟨o,e,_⟩:=(show h.IsList a xs from g);exact Qiq e
def Jh(K:PySem.W.Frag):List V->Hp->VK->Prop:=λf H Q=>∃(t e:Bool) (a b:Addr) (c:List Key) (d:List V),f= [.ref a,.ref b]/\DF K t H a (c.map kV)/\DF K e H b d/\c.length=d.length/\∀p,H p=none->Q (.ref p) (upd H p (.dK (jX [] (c.zip d))))
def AG{x y:Expr}{ta:TA}{p1 S c1 P:Pos}(C:X.calm=true)(a1:Gl X "dict")(a3:X.mg "dict"=none)(hg:Gl X "zip")(hm:X.mg "zip"=none)(ha:PA X [x,y] ta)(hs:starEach [x,y] X.env= [(false,eval x X.env),(false,eval y X.env)]:=by rfl)(L:starEach [y] X.env= [(false,eval y X.env)]:=by rfl)
  (he:starEach [Expr.Call (.Name "zip" S) [x,y] [] P] X.env= [(false,eval (Expr.Call (.Name "zip" S) [x,y] [] P) X.env)]:=by rfl):
  PE X (.Call (.Name "dict" p1) [.Call (.Name "zip" S) [x,y] [] P] [] c1) (Ny (Jh X.K) ta):=by
 intro B s σ H Q I h
 refine wpAny_Call_Name_kw (lZ I a1 a3 (by rfl) ?_)
 refine PyProof.Rows.callWith_type1 ?_ he rfl
 rw[he]
 show wpAny _ _ (spliced ((false,eval (Expr.Call (.Name "zip" S) [x,y] [] P) X.env)::backTo c1 (starEach [] X.env))) _ _ s
 refine Calls.spliced_cons ?_
 refine wpAny_Call_Name_kw (lZ I hg hm (by rfl) ?_)
 refine PyProof.Rows.callWith_type1 (cR (ha P B s σ H _ I h) λus j ⟨vs,H1,G,r1,q1⟩=> ?_) (by rw[hs,L]) (by rw[L];rfl)
 obtain⟨t,t2,a,b,d,ys,e,qa,qb,hl,q⟩:=q1
 subst e
 cases r1 with
 | cons r rr=>
   cases rr with
   | cons r' rr=>
     cases rr
     cases r
     cases r'
     obtain⟨z,ra,pa,za⟩:=G.sq qa
     obtain⟨m,rb,pb,zb⟩:=G.sq qb
     have lx:=Sq.lt pa
     have ly:=Sq.lt pb
     have la:=ra.length
     have lb:=rb.length
     rw[lQm] at la
     refine Zq.IM pa pb λg R gT gO gi gj Y=>Calls.spliced_nil ?_
     have I2:Inv X B σ H1 {j with heap:=g}:=G.kept (t':=j.toks) Y
     refine Zq.va R (G.ok.hd C) λW tk k2=> ?_
     have p:∀c o,g.get? c=some o->W.get? c=some o:=λc o e=>k2 c o (Qcq _ e)
     have a5:W.get? g.objs.size=some {cls:=.type "dict",data:=.dict #[]}:=k2 _ _ (Qrq g rfl)
     refine wpAny_pyIter_zip (p _ _ R) ?_
     have DD:=PyProof.Rows.zipApart_new lx ly
     have f:j.heap.objs.size+4<g.objs.size:=Qiq R
     have N:∀(n:Nat) k,d[n]?=some k->d.getD n (.inl 0)=k:=λn k e=>by rw[Qlq,e];rfl
     have F:∀c,c<j.heap.objs.size->c≠j.heap.objs.size+4/\c≠j.heap.objs.size+3/\c≠j.heap.objs.size/\c≠j.heap.objs.size+1/\c≠g.objs.size:=λc C=>
       ⟨Qwq (Qqq C (Nat.le_add_right _ _)),Qwq (Qqq C (Nat.le_add_right _ _)),Qwq C,Qwq (Qqq C (Nat.le_add_right _ _)),Qwq (Nat.lt_trans (Qqq C (Nat.le_add_right _ 4)) f)⟩
     refine Zq.AQ (knd:=bW X.prog X.w) (t:=t) (t2:=t2) (xs:=z.toArray) (ys:=m.toArray) (show X.A.in1.in1.handled=none from G.ok.hd C) DD ?_ ?_ (λn=>d.getD n (.inl 0)) ?_ (by simp;omega) (by simp;omega) z.toArray.size 0 0 _ rfl (Nat.zero_le _)
       (.inl ⟨p _ _ R,_,_,p _ _ gO⟩) (p _ _ gT) (gi.at λo e=>p _ o e) (gj.at λo e=>p _ o e) (pa.at λo e=>p _ o (Y _ o e)) (pb.at λo e=>p _ o (Y _ o e)) ?_ ?_
     · refine⟨Nat.ne_of_gt f,Nat.ne_of_gt (Nat.lt_trans ?_ f),Nat.ne_of_gt (Nat.lt_trans ?_ f),Nat.ne_of_gt (Nat.lt_trans ?_ f),Nat.ne_of_gt (Nat.lt_trans ?_ f),(F _ lx).2.2.2.2.symm,(F _ ly).2.2.2.2.symm⟩ <;>(show _<j.heap.objs.size+4) <;>omega
     · exact⟨Qwq (Qqq lx (Nat.le_add_right _ _)),Qwq (Qqq ly (Nat.le_add_right _ _))⟩
     · intro n v hv
       have J:z[n]?=some v:=by simpa using hv
       have hn:n<d.length:=by
         have:=(gQs.mp J).1
         omega
       have M:=gQe hn
       obtain⟨u,U,ru⟩:=ra.get (i:=n) (x:=kV d[n]) (by rw[gQm,M];rfl)
       rw[J] at U
       cases U
       show(bW X.prog X.w).is (d.getD n (.inl 0)) v=true
       rw[N n _ M]
       exact key_is ru _ _
     · obtain⟨o,es,ep,e1,e2⟩:=Heap.DictOf.new (knd:=bW X.prog X.w) g
       exact⟨o,es,ep,k2 _ _ e1,e2⟩
     · intro h3 a4 dd k3
       have a2:g.objs.size≠sysModules:=by
         have:=I2.big
         exact Nat.ne_of_gt this
       have le:j.heap.objs.size<=g.objs.size:=nQl (Nat.lt_of_le_of_lt (Nat.le_add_right _ 4) f)
       refine⟨rfl,.ref g.objs.size,_,G.laid (a:=g.objs.size) (o:=.dK (jX [] (d.zip ys))) (t':=a4) (h':=h3) (λc o e=> ?_) le (tY ?_ (beq_eq_false_iff_ne.mpr a2) ?_ dd),rfl,q _ (G.hok.fresh le)⟩
       · obtain⟨o1,o2,o3,o4,o5⟩:=F c (Qiq e)
         exact k3 c o o1 o2 o3 o4 o5 (p c o (Y c o e))
       · have:=i6 (d.zip ys) []
         rw[QGq,List.length_zip] at this
         omega
       · have Z:∀n,n<=d.length->KV (jX [] ((d.zip ys).take n)) (Dk.KM (λn=>d.getD n (.inl 0)) (λn=>m.toArray.getD n .none) n):=by
           intro n
           induction n with
           |zero=>intro _;exact .nil
           | succ n ih=>
             intro hn
             have M:=gQe (l:=d) (i:=n) (by omega)
             have hy:=gQe (l:=ys) (i:=n) (by omega)
             obtain⟨u,U,ru⟩:=rb.get hy
             have ez:(d.zip ys)[n]?=some (d[n],ys[n]):=by rw[List.getElem?_zip_eq_some];exact⟨M,hy⟩
             have e3:(d.zip ys).take (n+1)=(d.zip ys).take n++ [(d[n],ys[n])]:=by rw[QYq,ez];rfl
             have eu:m.toArray.getD n .none=u:=by
               have:=(gQs.mp U)
               obtain⟨g,W⟩:=this
               simp[Array.getD,g,W]
             rw[e3]
             show KV (List.foldl _ [] ((d.zip ys).take n++ [(d[n],ys[n])])) (stored _ (d.getD n (.inl 0)) (m.toArray.getD n .none))
             rw[List.foldl_append,N n _ M,eu]
             exact(ih (by omega)).put d[n] ru
         have:=Z d.length (Qmq _)
         have e4:(d.zip ys).take d.length=d.zip ys:=by
           have:(d.zip ys).length=d.length:=by rw[List.length_zip];omega
           rw[←this,QEq]
         rw[e4] at this
         have e5:z.toArray.size=d.length:=by simp;omega
         rw[e5]
         exact this
end
end L2
namespace Zq
open PySem
section
variable{prog:Program}{w:World}{A:Around}{E:Value->Shared->Prop}{s:Shared}{t t2:Bool}{z T O i j a b:Addr}{k:Nat}{xs ys:Array Value}{x y u v:Value}
def Dt(D:ZipApart z T O i j a b){Q:Option Value->Shared->Prop}(c:uO s.heap z T O .none (.bool false))(n:IsPair s.heap T (.ref i) (.ref j))(G:IsPair s.heap O u v)(r:It t s.heap i a k)(e:It t2 s.heap j b k)
  (h:Sq t s.heap a xs) (g:Sq t2 s.heap b ys) (ex:xs[k]?=some x) (f:ys[k]?=some y)
  (q:∀h',uO h' z T O (rawInt s.heap.objs.size) (.bool false)->IsPair h' O x y->It t h' i a (k+1)->It t2 h' j b (k+1)->IsPair h' s.heap.objs.size x y->Zp.Rest z O i j s.heap h'->Q (some (.ref s.heap.objs.size)) {s with heap:=h'}):
  wpAny (model prog w) A (pyNext (.ref z)) Q E s:=by
 have d:s.TypeIs (.ref z) "zip":=⟨_,c,rfl⟩
 unfold pyNext
 exact Qaq (wpAny_attempt (QiQ (name:=Str.ofString "__next__") d F.slot_zip_next (wpAny_call_entry F.slot_zip_next d F.entry_zip_next
  (item D c n G r e h g ex f λh' C l m B o p=>Qgq (q h' C l m B o p)) (F.args_zip_next_1 _))))
end
end Zq
namespace L2
open PySem PySem.Spec PyProof.Rows Zq
def Inv.sq_inj{X:Cx}{b:List (Addr×Obj)}{c:St}{H:Hp}{s:Shared}{t:Bool}{a:Addr}{xs ys:List V}(I:Inv X b c H s)(h:DF X.K t H a xs)(h':DF X.K t H a ys):xs=ys:=by
 cases t with
 |true=>exact I.tuple_inj h h'
 |false=>exact I.list_inj h h'
noncomputable def OX(K:PySem.W.Frag)(t t2:Bool)(a b:Addr):It:=
  ⟨λi H=>∃c d x y,DF K t H a c/\DF K t2 H b d/\c[i]?=some x/\d[i]?=some y,
   λi H v e=>∃p,v=.ref p/\H p=none/\∀c d x y,DF K t H a c->DF K t2 H b d->c[i]?=some x->d[i]?=some y->e=upd H p (.tup [x,y]),
   λi H=>∃c,DF K t H a c/\c.length<=i⟩
def DQ{P:Program}{w:World}{K:PySem.W.Frag}{C:List Expr}{x1:Nat}{tp:Pos}{t t2:Bool}{z T O i j a b:Addr}(D:ZipApart z T O i j a b):
  Turn P w K (.Tuple C x1 tp) (OX K t t2 a b) [z,T,O,i,j] z (λn h=>uO h z T O .none (.bool false)/\IsPair h T (.ref i) (.ref j)/\(∃u v,IsPair h O u v)/\Zq.It t h i a n/\Zq.It t2 h j b n) where
 mem:=by simp
 obj:=λn h ⟨f,g,⟨u,v,m⟩,p,q⟩ c d=>by
  simp at d
  rcases d with rfl|rfl|rfl|rfl|rfl
  ·exact⟨_,f,λv n=>by cases n⟩
  ·exact⟨_,g,λv n=>by cases n⟩
  ·exact⟨_,m,λv n=>by cases n⟩
  ·exact p.obj
  ·exact q.obj
 keep:=λn h h' ⟨f,g,⟨u,v,m⟩,p,q⟩ k=>⟨k z (by simp) _ f,k T (by simp) _ g,⟨u,v,k O (by simp) _ m⟩,p.at λo e=>k i (by simp) o e,q.at λo e=>k j (by simp) o e⟩
 item:=by
  rintro X Z L Q d n l s σ H E I G ⟨f,g,⟨u,v,m⟩,p,q⟩ Y
  subst Z L Q
  obtain⟨xs,ys,x,y,F,qb,M,hy⟩:=Y
  obtain⟨a1,U,S,_⟩:=I.sq F
  obtain⟨a2,rb,pb,_⟩:=I.sq qb
  obtain⟨ux,ex,rx⟩:=U.get M
  obtain⟨uy,ey,ry⟩:=rb.get hy
  have B:∀{c o},s.heap.get? c=some o->c≠s.heap.objs.size:=λe=>Qwq (Qiq e)
  have A:∀c∈[z,T,O,i,j],c≠s.heap.objs.size:=λc d=>by
   obtain⟨oi,e1,_⟩:=p.obj
   obtain⟨oj,e2,_⟩:=q.obj
   simp at d
   rcases d with rfl|rfl|rfl|rfl|rfl
   ·exact B f
   ·exact B g
   ·exact B m
   ·exact B e1
   ·exact B e2
  refine Zq.Dt D f g m p q S pb (x:=ux) (y:=uy) (by simpa using ex) (by simpa using ey) λh1 z1 O1 i1 j1 n1 J=>⟨_,rfl,?_⟩
  have T1:=J _ _ D.TIz D.TITO D.TIi1 D.TIi2 g
  refine wpAny_letOwnedTupleGo_zip z1 λh2 z2 r=> ?_
  have I2:Inv X l σ (upd H s.heap.objs.size (.tup [x,y])) {s with heap:=h2}:=I.turnedNew (t':=s.toks) (fp:= [z,T,O,i,j]) G (λc o d e=> ?_) (Qmq _) ?_
  ·refine⟨.ref s.heap.objs.size,_,I2,rfl,⟨s.heap.objs.size,rfl,I.hok.fresh (Qmq _),λa4 a3 x' y' q1 q2 N R=> ?_⟩,⟨z2,r.extBut _ _ D.TIz T1,⟨_,_,r.extBut _ _ D.TOz O1⟩,i1.ext r.extBut D.i1z,j1.ext r.extBut D.i2z⟩,λc d=> ?_⟩
   ·rw[I.sq_inj q1 F] at N
    rw[I.sq_inj q2 qb] at R
    rw[M] at N
    rw[hy] at R
    cases N
    cases R
    rfl
   ·rw[bg (A c d)]
    exact(G c d).1
  ·simp at d
   exact r.extBut _ _ d.1 (J c o d.1 d.2.2.1 d.2.2.2.1 d.2.2.2.2 e)
  ·exact⟨by show 2<=_;decide,[ux,uy],.cons rx (.cons ry .nil),_,r.extBut _ _ (λe=>A z (by simp) e.symm) n1,rfl,rfl,0,rfl⟩
 done:=by
  rintro X Z L Q d n l s σ H E I G ⟨f,g,⟨u,v,m⟩,p,q⟩ Y
  subst Z L Q
  obtain⟨xs,F,M⟩:=Y
  obtain⟨a1,U,S,_⟩:=I.sq F
  have hl:=U.length
  refine Zq.Ao D (I.ok.hd d) (.inl ⟨f,u,v,m⟩) g p S (by simp;omega) λh1 J=>⟨rfl,I.turnedL (t':=s.toks) (fp:= [z,T,O,i,j]) G λc o d e=> ?_⟩
  simp at d
  exact J c o d.1 d.2.2.1 d.2.2.2.1 d.2.2.2.2 e
 self:=λ_ _ _ _ _ ⟨f,_⟩ h=>wpAny_pyIter_zip f h
section
variable{X:Cx}
def Pu(K:PySem.W.Frag)(h:TA):TI:=λg H R=>h g H λf H1=>∃(t c:Bool) (a b:Addr) (d e:List V),f= [.ref a,.ref b]/\DF K t H1 a d/\DF K c H1 b e/\R (OX K t c a b) H1
def Hs{d:List Expr}{S:Nat}{U:Pos}{a b:Expr}{v:TA}{p pos:Pos}(z:Gl X "zip")(Y:X.mg "zip"=none)(M:PA X [a,b] v)(hs:starEach [a,b] X.env= [(false,eval a X.env),(false,eval b X.env)]:=by rfl)(g:starEach [b] X.env= [(false,eval b X.env)]:=by rfl):
  PI X (.Tuple d S U) (.Call (.Name "zip" p) [a,b] [] pos) (Pu X.K v):=by
 intro f s G H R I h
 refine Call_ (lZ I z Y (by rfl) (PyProof.Rows.callWith_type1 (cR (M pos f s G H _ I h) λus l ⟨vs,H1,i,J,A⟩=> ?_) (by rw[hs,g]) (by rw[g];rfl)))
 obtain⟨t,t2,x,y,xs,ys,e,F,Q,q⟩:=A
 subst e
 cases J with
 | cons r j=>
   cases j with
   | cons L j=>
     cases j
     cases r
     cases L
     obtain⟨a1,ra,w,_⟩:=i.sq F
     obtain⟨N,rb,o,_⟩:=i.sq Q
     have B:=Sq.lt w
     have Z:=Sq.lt o
     refine Zq.IM w o λh' m P gO W C k=> ?_
     refine wpAny_pyIter_zip m ⟨_,_,_,_,H1,rfl,i.kept (t':=l.toks) k,DQ (PyProof.Rows.zipApart_new B Z),⟨m,P,⟨_,_,gO⟩,W,C⟩,λc n=> ?_,q⟩
     have u:l.heap.objs.size<=c:=by
       simp only[Qsq,QXq,or_false] at n
       rcases n with e|e|e|e|e <;>(rw[e];first|exact Qmq _|exact Nat.le_add_right _ _)
     exact i.fpOk u (i.hok.fresh u)
end
end L2
namespace DL
open PySem PySem.Spec PyProof.Rows L2
def Bk.sqB{M:Md}{ρ:List Addr}{H:Hp}{a:Addr}{vs:List V}{t:Tag}(h:Bk M ρ H a vs t):L2.DF M.K (!t.isL) H a vs:=by
 cases c:t.isL with
 |true=>exact h.sqL c
 |false=>exact h.sqT c
noncomputable def u4(xs ys:List D):List D:=List.zipWith (λx y=>D.tup [x,y]) xs ys
open Classical in
def AR(f g:dQ):uN:=λb S=>(f b S).bind λ(p,c)=>(g b c).bind λ(r,a)=>if p.2.stays a p.1/\p.1.length<=r.1.length then some ((u4 p.1 r.1,λS=>p.2.stays S p.1/\r.2.stays S r.1),a) else none
section
variable{X:Cx}{a b c e:Expr}{pos:Pos}{st:Stmt}
def MN{o:List Expr}{s:Nat}{tp p:Pos}{f g:dQ}(hg:Gl X "zip")(hm:X.mg "zip"=none)(ha:PE X a (tQ (md X) f))(hb:PE X b (tQ (md X) g))(K:starEach [a,b] X.env= [(false,eval a X.env),(false,eval b X.env)]:=by rfl)(k:starEach [b] X.env= [(false,eval b X.env)]:=by rfl):
  PI X (.Tuple o s tp) (.Call (.Name "zip" p) [a,b] [] pos) (tI (md X) (AR f g)):=M_ (Hs hg hm (cz ha (cz hb eM k) (by rw[K,k])) K k) λσ H R ⟨ρ,Y,S,ds,W,S',ok,e,q⟩=>by
 obtain⟨⟨⟨m,t1⟩,Z⟩,e1,e⟩:=aq e
 obtain⟨⟨⟨l,t2⟩,S2⟩,e2,e⟩:=aq e
 dsimp only at e
 split at e
 ·rename_i c
  obtain⟨e3,rfl⟩:=cc e
  obtain⟨rfl,rfl⟩:=Prod.mk.inj e3
  refine⟨ρ,Y,S,m,t1,Z,ok,e1,λB a1 a2 H1 s F h1 r1=>⟨B,Y,Z,l,t2,S2,ok.to s F,e2,λa4 b1 ws H2 Q n N r2=> ?_⟩⟩
  obtain⟨t,h3,r3⟩:=h1.to r1 Q n c.1
  refine⟨_,_,a1,b1,t,ws,rfl,h3.sqB,N.sqB,q _ _ _ (s.trans Q) n λi a3 S3 H3 M j w=> ?_⟩
  obtain⟨G,C,U⟩:=h3.to r3 M j w.1
  obtain⟨J,P,g4⟩:=N.to r2 M j w.2
  refine⟨λd h=> ?_,λhi=>⟨G,C.sqB,?_⟩⟩
  ·unfold u4 at h
   rw[List.getElem?_zipWith] at h
   cases r:m[i]? with
   |none=>rw[r] at h;cases h
   | some x=>
     cases A:l[i]? with
     |none=>rw[r,A] at h;cases h
     | some y=>
       rw[r,A] at h
       cases h
       obtain⟨u,L,ru⟩:=U.get r
       obtain⟨z,I,rz⟩:=g4.get A
       refine⟨⟨G,J,u,z,C.sqB,P.sqB,L,I⟩,λv H4 hv=> ?_⟩
       obtain⟨p,rfl,hp,hq⟩:=hv
       have:=hq G J u z C.sqB P.sqB L I
       subst this
       exact⟨bX.laid hp,j.lay hp,.tup bC ((bf.cons ru (.cons rz .nil)).ext (bX.laid hp))⟩
  ·rw[hi]
   unfold u4
   rw[List.length_zipWith,U.length.symm]
   have:=c.2
   omega
 ·cases e
end
noncomputable def o_:D->Option Key
 |.int i=>some (.inl i)
 |.str x=>some (.inr x)
 |_=>none
def oM{M:Md}{ρ:List Addr}{H:Hp}{d:D}{v:V}{k:Key}(r:Rel M ρ H d v)(e:o_ d=some k):v=kV k:=by
 cases r <;>simp[o_] at e <;>subst e <;>rfl
noncomputable def zo:List D->Option (List Key)
 | []=>some []
 |d::r=>(o_ d).bind λk=>(zo r).bind λa=>some (k::a)
theorem zh{M:Md}{ρ:List Addr}{H:Hp}:∀{ds:List D} {vs:List V} {a:List Key},bf M ρ H ds vs->zo ds=some a->vs=a.map kV
 |_,_,_,.nil,e=>by cases e;rfl
 | _,_,_,.cons h hs,e=>by
   obtain⟨k,c,e⟩:=aq e
   obtain⟨a,b,e⟩:=aq e
   cases e
   rw[oM h c,zh hs b]
   rfl
noncomputable def jy(kvs:List (Key×D))(k:Key):Option D:=(kvs.find? λa=>decide (a.1=k)).map (·.2)
noncomputable def putD(kvs:List (Key×D))(k:Key)(v:D):List (Key×D):=
 if (kvs.any λa=>decide (a.1=k))=true then kvs.map (λa=>if a.1=k then(a.1,v) else a) else kvs++ [(k,v)]
noncomputable def cY(kvs more:List (Key×D)):List (Key×D):=more.foldl (λa b=>putD a b.1 b.2) kvs
section
variable{M:Md}{ρ:List Addr}{H:Hp}
theorem cb.append:∀{l m:List (Key×D)} {kv kw:List (Key×V)},cb M ρ H l kv->cb M ρ H m kw->cb M ρ H (l++m) (kv++kw)
 | [],_,_,_,h,h'=>by cases h;exact h'
 |(_,_)::_,_,_,_,⟨v,t,e,h,hs⟩,h'=>by subst e;exact⟨v,_,rfl,h,cb.append hs h'⟩
theorem cb.any:∀{l:List (Key×D)} {kv:List (Key×V)} (k:Key),cb M ρ H l kv->(l.any λp=>decide (p.1=k))=kv.any λp=>decide (p.1=k)
 | [],_,_,h=>by cases h;rfl
 |(_,_)::_,_,k,⟨v,t,e,h,hs⟩=>by subst e;simp only[List.any_cons,cb.any k hs]
theorem cb.mapP{d:D}{v:V}{k:Key}(r:Rel M ρ H d v):∀{l:List (Key×D)} {kv:List (Key×V)},cb M ρ H l kv->cb M ρ H (l.map λp=>if p.1=k then(p.1,d) else p) (kv.map λp=>if p.1=k then(p.1,v) else p)
 | [],_,h=>by cases h;rfl
 | (k',_)::_,_,⟨u,t,e,h,hs⟩=>by
   subst e
   simp only[QDq]
   by_cases c:k'=k
   · simp only[c,if_true];exact⟨v,_,rfl,r,cb.mapP r hs⟩
   · simp only[c,if_false];exact⟨u,_,rfl,h,cb.mapP r hs⟩
def cb.put{l:List (Key×D)}{kv:List (Key×V)}{k:Key}{d:D}{v:V}(h:cb M ρ H l kv)(r:Rel M ρ H d v):cb M ρ H (putD l k d) (putK kv k v):=by
 unfold putD putK
 rw[h.any k]
 split
 ·exact h.mapP r
 ·exact h.append ⟨v,[],rfl,r,rfl⟩
theorem cb.merge:∀{m:List (Key×D)} {kw:List (Key×V)} {l:List (Key×D)} {kv:List (Key×V)},cb M ρ H m kw->cb M ρ H l kv->cb M ρ H (cY l m) (jX kv kw)
 | [],_,_,_,h,h'=>by cases h;exact h'
 | (k,d)::m,_,_,_,⟨v,t,e,h,hs⟩,h'=>by
   subst e
   unfold cY jX
   rw[List.foldl_cons,List.foldl_cons]
   exact cb.merge (m:=m) (kw:=t) hs (h'.put h)
theorem cb.zip:∀{a:List Key} {ds:List D} {vs:List V},bf M ρ H ds vs->cb M ρ H (a.zip ds) (a.zip vs)
 | [],_,_,_=>rfl
 |_::_,_,_,.nil=>rfl
 |k::a,_,_,.cons h hs=>⟨_,_,rfl,h,cb.zip hs⟩
theorem cb.val:∀{l:List (Key×D)} {kv:List (Key×V)} {k:Key} {d:D},cb M ρ H l kv->jy l k=some d->∃v,mQ kv k=some v/\Rel M ρ H d v
 | [],_,_,_,_,e=>by cases e
 | (k',d')::_,_,k,d,⟨v,t,e,h,hs⟩,e'=>by
   subst e
   unfold jy at e'
   unfold mQ
   rw[List.find?_cons] at e'⊢
   by_cases c:k'=k
   · simp only[c,decide_true] at e'⊢
     cases e'
     exact⟨v,rfl,h⟩
   · simp only[c,decide_false] at e'⊢
     exact cb.val hs e'
theorem cb.noval:∀{l:List (Key×D)} {kv:List (Key×V)} {k:Key},cb M ρ H l kv->jy l k=none->mQ kv k=none
 | [],_,_,h,_=>by cases h;rfl
 | (k',d')::_,_,k,⟨v,t,e,h,hs⟩,e'=>by
   subst e
   unfold jy at e'
   unfold mQ
   rw[List.find?_cons] at e'⊢
   by_cases c:k'=k
   · simp only[c,decide_true] at e';cases e'
   · simp only[c,decide_false] at e'⊢
     exact cb.noval hs e'
def cb.ext'{a:List Addr}{b:Hp}{l:List (Key×D)}{kv:List (Key×V)}(h:cb M ρ H l kv)(e:bX ρ H a b):cb M a b l kv:=h.imp λ_ _ r=>r.ext e
def cb.pre'{a:List Addr}{l:List (Key×D)}{kv:List (Key×V)}(h:cb M ρ H l kv)(e:ρ <+: a):cb M a H l kv:=h.imp λ_ _ r=>r.pre e
end
section
variable{X:Cx}{a b c e:Expr}{pos:Pos}{st:Stmt}
def L_{M:Md}{ρ d:List Addr}{H h:Hp}{k:aF}{l:List (Key×D)}{kv:List (Key×V)}{p:Addr}{Q:VK}(x:bX ρ H d h)(st:fW M d k h)(j:h p=none)(r:cb M d h l kv)
  (q:∀f v g,bX ρ H f g->fW M f (k++ [.dct l]) g->Rel M f g (.ref k.length) v->Q v g):Q (.ref p) (upd h p (.dK kv)):=by
 have s:p∉d:=dg x st j
 have m:bX d h d (upd h p (.dK kv)):=bX.laid j
 have n:=(st.lay (u:=.dK kv) j).box (o:=.dct l) s ⟨kv,bC,(r.ext' m).pre' (List.prefix_append _ _)⟩
 refine q (d++ [p]) (.ref p) _ ⟨x.pre.trans (List.prefix_append _ _),λc i=> ?_,(x.trans m).keep,(x.trans m).grow⟩ n (.ref ?_)
 ·rcases mQa.mp i with i|i
  ·exact x.new c i
  ·rw[Qfq] at i;subst i;exact .inr (x.grow _ j)
 ·rw[←st.len,QQq (Qmq _)]
  simp
open Classical in
def Lm(f g:dQ):bp:=λh S=>(f h S).bind λ(p,j)=>(g h j).bind λ(r,d)=>if p.2.stays d p.1/\p.1.length=r.1.length then(zo p.1).bind λi=>some (.ref d.length,d++ [.dct (cY [] (i.zip r.1))]) else none
def Lf{F j U m:Pos}{f g:dQ}(Y:X.calm=true)(n:Gl X "dict")(o:X.mg "dict"=none)(C:Gl X "zip")(hm:X.mg "zip"=none)(Z:PE X a (tQ (md X) f))(hb:PE X b (tQ (md X) g))(A:starEach [a,b] X.env= [(false,eval a X.env),(false,eval b X.env)]:=by rfl)(h:starEach [b] X.env= [(false,eval b X.env)]:=by rfl)
  (he:starEach [Expr.Call (.Name "zip" j) [a,b] [] m] X.env= [(false,eval (Expr.Call (.Name "zip" j) [a,b] [] m) X.env)]:=by rfl):
  PE X (.Call (.Name "dict" F) [.Call (.Name "zip" j) [a,b] [] m] [] U) (tD (md X) (Lm f g)):=jQ (AG Y n o C hm (cz Z (cz hb eM h) (by rw[A,h])) A h he) λσ H Q ⟨I,u,S,d,S',ok,e,q⟩=>by
 obtain⟨⟨⟨t,J⟩,v⟩,e1,e⟩:=aq e
 obtain⟨⟨⟨r,t2⟩,S2⟩,B,e⟩:=aq e
 dsimp only at e
 split at e
 ·rename_i c
  obtain⟨G,e3,e⟩:=aq e
  obtain⟨rfl,rfl⟩:=cc e
  refine⟨I,u,S,t,J,v,ok,e1,λs a1 W H1 x k L M=>⟨s,u,v,r,t2,S2,ok.to x k,B,λa3 N ws H2 z i K y=> ?_⟩⟩
  obtain⟨a2,P,w⟩:=L.to M z i c.1
  have R:=zh w e3
  subst R
  have hl:=w.length
  rw[lQm] at hl
  refine⟨_,_,a1,N,G,ws,rfl,P.sqB,K.sqB,by rw[←hl,←y.length];exact c.2,λp hp=> ?_⟩
  exact L_ (x.trans z) i hp (cb.merge (l:= []) (cb.zip y) rfl) q
 ·cases e
noncomputable def Nj:bp:=λ_ S=>some (.ref S.length,S++ [.dct []])
def Oq:PE X (.Dict [] [] pos) (tD (md X) Nj):=jQ EV λj H Q g=>by
 obtain⟨i,k,S,d,h,ok,e,q⟩:=g
 obtain⟨rfl,rfl⟩:=cc e
 exact λp f=>L_ bX.refl ok.st f (l:= []) (kv:= []) rfl q
noncomputable def Jb(f g:bp):bp:=λi S=>(f i S).bind λ(x,m)=>(g i m).bind λ(y,h)=>match x with
 | .ref k=>match h[k]? with
   |some (.dct l)=>(o_ y).bind λj=>(jy l j).bind λd=>some (d,h)
   |_=>none
 |_=>none
def KL{f g:bp}(w:X.A.units+1<cLine)(m:PE X a (tD (md X) f))(I:PE X b (tD (md X) g))(o:GV b):PE X (.Subscript a b pos) (tD (md X) (Jb f g)):=jQ (G0 w m I o) λW H Q L=>by
 obtain⟨z,p,S,d,U,ok,e,q⟩:=L
 obtain⟨⟨x,r⟩,K,e⟩:=aq e
 obtain⟨⟨y,N⟩,u,e⟩:=aq e
 cases x with
 | ref k=>
   dsimp only at e
   split at e
   · rename_i l o
     obtain⟨Y,M,e⟩:=aq e
     obtain⟨d',G,e⟩:=aq e
     obtain⟨rfl,rfl⟩:=cc e
     refine⟨z,p,S,_,r,ok,K,λn Z H1 s i j=>⟨n,p,r,y,N,ok.to s i,u,λJ v2 H2 t h P=> ?_⟩⟩
     cases oM P M
     have j:=j.ext t
     cases j with
     | ref m=>
       obtain⟨kv,C,B⟩:=h.obj k _ _ m o
       obtain⟨v,F,R⟩:=B.val G
       exact⟨_,v,rfl,by rw[←F];exact ym.k C,q _ _ _ (s.trans t) h R⟩
   · cases e
 |_=>cases e
noncomputable def KU(f g h:bp):cI:=λi S=>(h i S).bind λ(d,o)=>(f i o).bind λ(x,m)=>(g i m).bind λ(y,j)=>match x with
 | .ref k=>match j[k]? with
   |some (.dct l)=>(o_ y).bind λn=>if l.length<sizeLine then some (.nx i (j.set k (.dct (putD l n d)))) else none
   |_=>none
 |_=>none
mutual
theorem Rel.offK{M:Md}{ρ:List Addr}{H:Hp}{b:Addr}{g:List (Key×V)}{o:HO}(f:H b=some (.dK g)):∀{d:D} {v:V},Rel M ρ H d v->Rel M ρ (upd H b o) d v
 |_,_,.non=>.non
 |_,_,.bl x=>.bl x
 |_,_,.int i=>.int i
 |_,_,.str x=>.str x
 |_,_,.tup h hs=>.tup (by rw[bg (EZ h f (by intro z;cases z))];exact h) (bf.offK f hs)
 |_,_,.ref h=>.ref h
 |_,_,.fn h=>.fn h
theorem bf.offK{M:Md}{ρ:List Addr}{H:Hp}{b:Addr}{f:List (Key×V)}{o:HO}(d:H b=some (.dK f)):∀{ds:List D} {vs:List V},bf M ρ H ds vs->bf M ρ (upd H b o) ds vs
 |_,_,.nil=>.nil
 |_,_,.cons h hs=>.cons (Rel.offK d h) (bf.offK d hs)
end
def fW.putKd{M:Md}{ρ:List Addr}{S:aF}{H:Hp}{k:Nat}{a:Addr}{l f:List (Key×D)}{kw:List (Key×V)}(st:fW M ρ S H)(g:ρ[k]?=some a)(h:S[k]?=some (.dct l))(r:cb M ρ H f kw):fW M ρ (S.set k (.dct f)) (upd H a (.dK kw))/\bX ρ H ρ (upd H a (.dK kw)):=by
 obtain⟨m,d,j⟩:=st.obj k a _ g h
 exact st.put g h ⟨kw,bC,r.imp λ_ _ q=>q.offK d⟩ λx i=>by rw[d] at i;cases i;exact id
def NT{f g h:bp}{i:Pos}{v:Expr}(P:X.A.units+1<cLine)(p:PE X a (tD (md X) f))(Z:PE X b (tD (md X) g))(hv:PE X v (tD (md X) h))(r:swapsWith v (some (.Subscript a b i)) pos.line X.env=pure false:=by rfl):PS X (.Assign [.Subscript a b i] v pos) (tS (md X) (KU f g h)):=
 AX (Hv P p Z hv r) λD σ H qq=>by
  obtain⟨Q,t,S,o,ok,e,q⟩:=qq
  obtain⟨⟨d,K⟩,e1,e⟩:=aq e
  obtain⟨⟨x,L⟩,N,e⟩:=aq e
  obtain⟨⟨y,S3⟩,e3,e⟩:=aq e
  cases x with
  | ref k=>
    dsimp only at e
    split at e
    · rename_i l r
      obtain⟨R,Y,e⟩:=aq e
      split at e
      · rename_i hl
        cases e
        refine⟨Q,t,S,d,K,ok,e1,λw v1 H1 z n u=>⟨w,t,K,_,L,ok.to z n,N,λB v2 H2 G I F=>⟨B,t,L,y,S3,(ok.to z n).to G I,e3,λa1 v3 H3 s j W=> ?_⟩⟩⟩
        cases oM W Y
        have F:=F.ext s
        have u:=u.ext (G.trans s)
        have m:=(z.trans G).trans s
        cases F with
        | ref p=>
          obtain⟨kv,U,J⟩:=j.obj k _ _ p r
          obtain⟨C,M⟩:=j.putKd p r (J.put (k:=R) u)
          exact⟨_,_,rfl,FM.k U (by rw[←J.length];exact hl),q _ _ _ (m.trans M) ((ok.to m j).to M C)⟩
      · cases e
    · cases e
  |_=>cases e
open Classical in
def Kc(f:dQ)(g:bp):bp:=λh S=>(f h S).bind λ(p,k)=>if p.2.isL=true then(g h k).bind λ(y,d)=>if p.2.stays d p.1 then(xC y).bind λv=>(ix p.1).bind λi=>(oP v i).bind λj=>some (.int (j:Nat),d) else none else none
def Nc{f:dQ}{g:bp}{o:Expr}{i h:Pos}(ho:PE X o (tQ (md X) f))(P:PE X e (tD (md X) g))(l:attributeBase o "index" X.env (eval o X.env)=eval o X.env:=by rfl) (m:((backTo h (starEach [e] X.env)).all (λx=> !x.1)&&(backToKw h (keywordEach [] X.env)).all (λx=>x.1.isSome)
   &&decide ([e].length+([]:List Keyword).length+(if ([]:List Keyword).isEmpty then 0 else 1)<30))=true:=by rfl)
  (k:(i.endLine==h.line)=true:=by rfl) (J:starEach [e] X.env= [(false,eval e X.env)]:=by rfl):PE X (.Call (.Attribute o "index" i) [e] [] h) (tD (md X) (Kc f g)):=
 jQ (zQ PySem.F.plainAttrs_list PySem.F.slot_list_index PySem.F.type_list_index FJ ho (ay P aS J) l m k J) λσ H Q qq=>by
  obtain⟨L,w,S,d,S',ok,e,q⟩:=qq
  obtain⟨⟨⟨U,t⟩,A⟩,e1,e⟩:=aq e
  dsimp only at e
  split at e
  ·rename_i I
   obtain⟨⟨y,S2⟩,K,e⟩:=aq e
   dsimp only at e
   split at e
   ·rename_i cS
    obtain⟨v,C,e⟩:=aq e
    obtain⟨vs,Y,e⟩:=aq e
    obtain⟨j,Z,e⟩:=aq e
    obtain⟨rfl,rfl⟩:=cc e
    refine⟨L,w,S,U,t,A,ok,e1,λs a R H1 B p z M=>⟨.inl ⟨rfl,R,z.sqL I⟩,s,w,A,[y],S2,ok.to B p,by simp only[ar,av,K,Qbq],λa1 ws H2 G n u=> ?_⟩⟩
    obtain⟨r,N,W⟩:=z.to M G n cS
    cases u with
    | cons u rr=>
      cases rr
      cases om u C
      obtain⟨rfl,f1⟩:=lY W Y
      exact⟨a,r,_,j,rfl,rfl,N.sqL I,tM C,f1,Z,q _ _ _ (B.trans G) n (.int _)⟩
   ·cases e
  ·cases e
end
section
variable{X:Cx}{a b c e:Expr}{pos:Pos}{st:Stmt}
def N2:V->List V->Hp->VK->Prop:=λx g H Q=>∃a b f d,x=.ref a/\g= [.ref b]/\a≠b/\H a=some (.dK f)/\H b=some (.dK d)/\f.length+d.length<=sizeLine/\Q .non (upd H a (.dK (jX f d)))
def DA:OB X "dict.update" N2:=by
 intro m s G H x L v J Q I p t h
 obtain⟨a,b,j,f,rfl,rfl,ab,ha,hb,hz,q⟩:=h
 cases p
 obtain⟨u,rfl,ru⟩:=t.one
 cases ru
 obtain⟨z,r,o,i,n⟩:=zZ I.hok ha
 obtain⟨K,k,y,d,l⟩:=zZ I.hok hb
 refine call_meetsIn PySem.F.slot_dict_update n.typeIs PySem.F.entry_dict_update (PySem.F.args_dict_update_2 _ _) (meets_dict_update (bW X.prog X.w) a b ab k) ⟨o,y,n,l,by rw[←i.length,←d.length];exact hz,λA g _ C=> ?_⟩
 have B:∃q,A.get? a=some q:=let ⟨q,_,_,hq,_⟩:=g;⟨q,hq⟩
 have hl:=i6 f j
 exact⟨.non,_,r9 I (by rw[ha];exact True.intro) C B (tY (by omega) r (KV.merge d i) g),rfl,q⟩
noncomputable def Ia(f g:bp):bp:=λh S=>(f h S).bind λ(x,i)=>(g h i).bind λ(y,d)=>match x,y with
 | .ref k,.ref j=>if k≠j then match i[k]?,d[k]?,d[j]? with
   |some (.dct _),some (.dct l),some (.dct m)=>if l.length+m.length<=sizeLine then some (.non,d.set k (.dct (cY l m))) else none
   |_,_,_=>none
   else none
 |_,_=>none
def MW{f g:bp}{o:Expr}{n h:Pos}(ho:PE X o (tD (md X) f))(A:PE X e (tD (md X) g))(s:attributeBase o "update" X.env (eval o X.env)=eval o X.env:=by rfl) (u:((backTo h (starEach [e] X.env)).all (λx=> !x.1)&&(backToKw h (keywordEach [] X.env)).all (λx=>x.1.isSome)
   &&decide ([e].length+([]:List Keyword).length+(if ([]:List Keyword).isEmpty then 0 else 1)<30))=true:=by rfl)
  (r:(n.endLine==h.line)=true:=by rfl) (Y:starEach [e] X.env= [(false,eval e X.env)]:=by rfl):PE X (.Call (.Attribute o "update" n) [e] [] h) (tD (md X) (Ia f g)):=
 jQ (zQ PySem.F.plainAttrs_dict PySem.F.slot_dict_update PySem.F.type_dict_update DA ho (ay A aS Y) s u r Y) λσ H Q qq=>by
  obtain⟨ρ,N,S,d,S',ok,e,q⟩:=qq
  obtain⟨⟨x,I⟩,e1,e⟩:=aq e
  obtain⟨⟨y,L⟩,e2,e⟩:=aq e
  cases x with
  | ref k=>
    cases y with
    | ref j=>
      dsimp only at e
      split at e
      · rename_i ne
        cases B:I[k]? with
        |none=>rw[B] at e;cases e
        | some o1=>
          rw[B] at e
          cases o1 with
          | dct l0=>
            cases w:L[k]? with
            |none=>rw[w] at e;cases e
            | some o2=>
              rw[w] at e
              cases o2 with
              | dct l=>
                cases C:L[j]? with
                |none=>rw[C] at e;cases e
                | some o3=>
                  rw[C] at e
                  cases o3 with
                  | dct m=>
                    dsimp only at e
                    split at e
                    · rename_i hl
                      obtain⟨rfl,rfl⟩:=cc e
                      refine⟨ρ,N,S,_,I,ok,e1,λJ v H1 R t r1=> ?_⟩
                      cases r1 with
                      | ref A=>
                        rename_i a
                        obtain⟨K,g0,_⟩:=t.obj k a _ A B
                        refine⟨.inr (.inr (.inl ⟨rfl,.inl ⟨K,g0⟩⟩)),J,N,I,[.ref j],L,ok.to R t,by simp only[ar,av,e2,Qbq],λa1 ws H2 W i M=> ?_⟩
                        cases M with
                        | cons M rr=>
                          cases rr
                          cases M with
                          | ref P=>
                            rename_i b
                            have p:=du W.pre A
                            obtain⟨kv,g1,Z⟩:=i.obj k a _ p w
                            obtain⟨kw,g3,U⟩:=i.obj j b _ P C
                            have ab:a≠b:=λz=>by subst z;exact ne (jN i.nd p P)
                            obtain⟨G,x3⟩:=i.putKd p w (cb.merge U Z)
                            exact⟨a,b,kv,kw,rfl,rfl,ab,g1,g3,by rw[←Z.length,←U.length];exact hl,q _ _ _ ((R.trans W).trans x3) G .non⟩
                    · cases e
                  |_=>cases e
              |_=>cases e
          |_=>cases e
      · cases e
    |_=>cases e
  |_=>cases e
end
end DL
namespace L2
open PySem PySem.Spec PyProof.Rows
section
variable{prog:Program}{w:World}{A:Around}{s:Shared}
def u6{F G a i:Expr}{q:List Expr}{f:Scope}{pos:Pos}{it:Value}{D:Addr}{env:Env}{R:Result->Shared->Prop}(I:Nat->Shared->Prop)
  (C:∀n s,I n s->wpAny (model prog w) A (pyNext it) (λr e=>match r with
   |none=>R (.ok .next) e
   |some v=>wpAny (model prog w) A (letOwnedTupleGo a it v) (λ_ d=>wpAny (model prog w) A (assign a env v) (λ_ g=>
     wpAny (model prog w) A (forIn q true λc r=>if r=true then do let ok←isTrue c env (eval c env);pure (ForInStep.yield ok) else pure (ForInStep.yield r)) (λok s₃=>
      if ok=true then wpAny (model prog w) A (eval F env) (λx j=>wpAny (model prog w) A (eval G env) (λy l=>
       wpAny (model prog w) A (dictSet D x y) (λ_ k=>∃m,m<n/\I m k) (λ_ _=>False) l) (λ_ _=>False) j) (λ_ _=>False) s₃
      else∃m,m<n/\I m s₃) (λ_ _=>False) g) (λ_ _=>False) d) (λ_ _=>False) e) (λ_ _=>False) s)
  (n:Nat) (h:I n s):codeAny (model prog w) A (.compLoop (.DictComp F G [⟨a,i,q,0⟩] f pos) 0 it (.ref D) env) R s:=by
 refine codeAny_loop rfl I (λn s H=> ?_) n h
 show wpAny _ A ((compTurn (.DictComp F G [⟨a,i,q,0⟩] f pos) 0 it (.ref D) env).onRaise (λx=>do noteFrame x env;theTreesLotGoes x)) _ _ s
 refine wpAny_noted ?_
 rw[compTurn_dict]
 refine Qaq (wpAny_standAt (Qaq (QRq (C n s H) (λr e o=> ?_) λ_ _ b=>b.elim)))
 cases r with
 |none=>exact Qgq o
 | some v=>
   refine Qaq (QRq o (λ_ d p=> ?_) λ_ _ b=>b.elim)
   refine Qaq (QRq p (λ_ g B=>Qaq (QRq B (λok s₃ h₃=> ?_) λ_ _ b=>b.elim)) λ_ _ b=>b.elim)
   cases ok with
   |false=>exact Qgq ⟨rfl,h₃⟩
   | true=>
     exact Qaq (Qaq (QRq h₃ (λx j z=>Qaq (QLq (QRq z (λy l t=>Qaq (wpAny_standAt (QLq (QRq t (λ_ k u=>Qgq ⟨rfl,u⟩) λ_ _ b=>b.elim)))) λ_ _ b=>b.elim))) λ_ _ b=>b.elim))
end
def JQ(J:It)(g:TG)(r:TT)(o q:TE)(Q:VK)(D:Addr)(p:St)(H:Hp):Prop:=
 ∃ W:Nat->Nat->St->Hp->Prop,(∃m,W 0 m p H)/\∀i m e f,W i m e f→
   (J.stop i f/\Q (.ref D) f)\/(J.go i f/\∃h:St->Hp->Prop,(∀b d,h b d->∃n,n<m/\W (i+1) n b d)∧
     ∀ x H2,J.yld i f x H2->g x e H2 λa H3=>r a H3 λok H4=>
       if ok=true then o a H4 λk H5=>q a H5 λy l=>∃c j,k=kV j/\l D=some (.dK c)/\c.length<sizeLine/\h a (upd l D (.dK (putK c j y))) else h a H4)
def Gk(js:List (Option Nat))(c:TI)(g:TG)(b:TT)(d e:TE):TE:=λa H Q=>c a H λJ H1=>∀D,H1 D=none->JQ J g b d e Q D (kd js a) (upd H1 D (.dK []))
def FE{X:Cx}{N:List Str}{js:List (Option Nat)}{a:Scope}{cl:List (Str×Addr)}{tg Q kx vx L:Expr}{b0:List Expr}{pos b2:Pos}{wi:TI}{g gt:TG}{tt:TT}{tk tv:TE}
  (S:aQ X N js a cl) (hc:X.calm=true) (hi:PI X tg Q wi)
  (hg:∀C s H fp,PG (aN X N a cl C s H fp) tg g) (ht:∀C s H fp,nj (aN X N a cl C s H fp) b0 tt) (hk:∀C s H fp,PE (aN X N a cl C s H fp) kx tk) (hv:∀C s H fp,PE (aN X N a cl C s H fp) vx tv) (e4:PG X L gt)
  (hs:∀x,foldedSetIterable Q X.env x=pure x:=by intro _;rfl) (d7:swapsWithSole [L] (.DictComp kx vx [⟨tg,Q,b0,0⟩] a pos) b2.line X.env=pure true:=by rfl)
  (h1:(assignEach [L] X.env).map (·.2)= [assign L X.env]:=by rfl):PS X (.Assign [L] (.DictComp kx vx [⟨tg,Q,b0,0⟩] a pos) b2) (D1 (Gk js wi g tt tk tv) gt):=by
 intro Z s σ H Dn I h
 rw[exec_Assign_arm]
 refine Qaq (wpAny_standAt (Qaq (wpAny_of_eq d7 (wpAny_ite_true rfl (Qaq ?_)))))
 rw[h1]
 show wpAny _ _ (do let _←comprehension _ _ _ _ _ _ _ (some λv=>assignAll v [assign L X.env]);pure ()) _ _ _
 refine Qaq ?_
 refine wpAny_comprehension_free (use:=some λv=>assignAll v [assign L X.env]) rfl hs S.clos S.kind S.names (cR (hi Z s σ H _ I h) λv s1 h1=>cR h1 λe8 t h2=> ?_)
 obtain⟨it,fp,tn,J,H2,e,F,T,b6,f2,hD⟩:=h2
 subst e
 refine QhQ (wpAny_newFunctionEnv S.nocell (by intro y hy;simp at hy) (λR M B=> ?_) S.kind)
 dsimp only at M B⊢
 generalize a7:t.heap.push {cls:=.type "dict",data:=.dict #[]}=P2 at M B⊢
 have hC:P2.objs.size=t.heap.objs.size+1:=by rw[←a7,Heap.size_push]
 have b5:t.heap.objs.size≠P2.objs.size:=by rw[hC];exact Qwq (Nat.lt_succ_self _)
 have a2:t.heap.objs.size<=P2.objs.size:=by rw[hC];exact Nat.le_succ _
 have G:∀b,b<t.heap.objs.size->b≠P2.objs.size:=λb f=>by rw[hC];exact Qwq (Nat.lt_succ_of_lt f)
 have a1:∀b o,t.heap.get? b=some o->R.get? b=some o:=λb o e=>B.extBut b o (G b (Qiq e)) (Qcq _ (a7▸Qcq _ e))
 have e6:R.get? t.heap.objs.size=some {cls:=.type "dict",data:=.dict #[]}:=B.extBut _ _ b5 (Qcq _ (a7▸Qrq _ rfl))
 have nD:H2 t.heap.objs.size=none:=F.fresh
 have nC:H2 P2.objs.size=none:=F.hok.fresh a2
 have b4:∀b∈fp,b<t.heap.objs.size:=λb f=>by
  obtain⟨o,e,_⟩:=T.obj _ _ b6 b f
  exact Qiq e
 obtain⟨W,⟨m0,w0⟩,c0⟩:=hD t.heap.objs.size nD
 have d1:(aN X N a cl P2.objs.size t H2 fp).Ok:=by
  refine⟨F.ok.mod,S.kind,F.ok.glob,F.ok.blt,a2,λx y c h1 h2=>F.ok.inj x y c (S.sub x c h1) (S.sub y c h2),S.has,(λx c h=>by cases h),F.ok.hd,F.ok.frames,.inl rfl,
   λb f=>⟨G b (b4 b f),λx c h=>(f2 b f).2.2.2.2.1 x c (S.sub x c h)⟩,F.bs,QAq F.ok.bsz F.sz,λb o e f=> ?_,λb f z=> ?_,F.stack,F.stkFree⟩
  ·rcases(f2 b f).2.2.2.1 with z|z
   ·exact F.ok.noex b o e z
   ·exact absurd (Qqq (Qqq (Qiq e) F.ok.bsz) z) (Nat.lt_irrefl _)
  ·rcases Qsq.mp (F.stkSub b z) with q|q
   ·exact(f2 b f).2.1 q
   ·exact(f2 b f).2.2.1 q
 have d2:cG X.prog X.w (upd H2 t.heap.objs.size (.dK [])) R t.heap.objs.size (.dK []):=by
  obtain⟨o,es,ep,e1,e2⟩:=Heap.DictOf.new (knd:=bW X.prog X.w) t.heap
  exact tY (Nat.zero_le _) (beq_eq_false_iff_ne.mpr (Ne.symm (Qwq F.big))) .nil ⟨o,es,ep,B.extBut _ _ b5 (Qcq _ (a7▸e1)),e2⟩
 have I4:Inv (aN X N a cl P2.objs.size t H2 fp) [] (kd js σ) (upd H2 t.heap.objs.size (.dK [])) {t with heap:=R,toks:=t.toks+([]:List (Str×Value)).length}:=by
  refine⟨d1,rfl,F.bare,Un.laid a1 (Qmq _) nD,⟨_,M,λi x v h1 h2 h3=> ?_⟩,λx c h=> ?_,by show upd H2 _ _ P2.objs.size=none;rw[bg b5.symm];exact nC,λx c h=> ?_,λp hp=>absurd (show p∈([]:List (Addr×Obj)) from hp) (by simp),F.hok.laid a1 (Qmq _) d2,by show(kd js σ).length=N.length;unfold kd;rw[lQm];exact S.len⟩
  ·unfold kd at h2
   rw[gQm] at h2
   cases e:js[i]? with
   |none=>rw[e] at h2;cases h2
   | some o=>
     rw[e] at h2
     cases o with
     |none=>cases h2
     | some j=>
       have a4:σ.getD j none=some v:=QdQ h2
       have hj:σ[j]?=some (some v):=by
         rw[Qlq] at a4
         cases q:σ[j]? with
         |none=>rw[q] at a4;cases a4
         |some y=>rw[q] at a4;exact congrArg some a4
       obtain⟨c1,c2,c3⟩:=S.cap i j x e h1
       obtain⟨m,hn,hl⟩:=F.loc
       have e0:IB X.env.scope x:=by
         rcases c2 with z|z
         · exact .inr (.inl z)
         · exact .inr (.inr z)
       obtain⟨u,r,l⟩:=hl j x v c1 hj e0
       refine⟨u,r,.inr ⟨c3,?_⟩⟩
       obtain⟨c,b7⟩:=S.has x c3
       refine⟨c,b7,?_⟩
       rcases l with⟨z,_⟩|⟨_,c',e',z⟩
       · rcases c2 with y|y <;>rw[y] at z <;>cases z
       · rw[S.sub x c b7] at e'
         cases e'
         obtain⟨o,ho,hd⟩:=z
         exact⟨o,a1 _ _ ho,hd⟩
  ·obtain⟨v,o,ho,hd⟩:=F.cell x c (S.sub x c h)
   exact⟨v,o,a1 _ _ ho,hd⟩
  ·obtain⟨v,o,ho,hd⟩:=F.cell x c (S.sub x c h)
   rw[bg (Qwq (Qiq ho))]
   exact F.freeC x c (S.sub x c h)
 have a3:∀{Y:List (Addr×Obj)} {H':Hp},Y= []->(∀b∈fp,H' b=none)->∀b∈fp,qg (aN X N a cl P2.objs.size t H2 fp) Y H' b:=λ{Y H'} ep hn b f=>by
  subst ep
  refine⟨hn b f,G b (b4 b f),λz=>d1.exfs b f z,.inl f,λx c h=>(f2 b f).2.2.2.2.1 x c (S.sub x c h),λp hp=>absurd (show p∈([]:List (Addr×Obj)) from hp) (by simp)⟩
 have b1:codeAny (model X.prog X.w) X.A (.compLoop (.DictComp kx vx [⟨tg,Q,b0,0⟩] a pos) 0 (.ref it) (.ref t.heap.objs.size) (compEnvC a cl P2.objs.size X.env))
   (compPost (model X.prog X.w) X.A X.xe (some λv=>assignAll v [assign L X.env]) (λ_ s9=>wpAny (model X.prog X.w) X.A (pure ()) (λ_ d6=>wpAny (model X.prog X.w) X.A (pure Flow.next) (SP X Z Dn) X.xe d6) X.xe s9) (.ref t.heap.objs.size) P2.objs.size) {t with heap:=R,toks:=t.toks+([]:List (Str×Value)).length}:=by
  refine u6 (λn s'=>∃i a5 H',Inv (aN X N a cl P2.objs.size t H2 fp) [] a5 H' s'/\tn i s'.heap/\(∀b∈fp,H' b=none)/\W i n a5 H') ?_ m0
   ⟨0,_,_,I4,T.keep _ _ _ b6 λb _ o e=>a1 b o e,λb f=>by rw[bg (Qwq (b4 b f))];exact(f2 b f).1,w0⟩
  rintro n s3 ⟨i,a6,H3,I3,b8,c6,w3⟩
  rcases c0 i n a6 H3 w3 with⟨stop,q⟩|⟨go,Nx,hN,c5⟩
  ·refine cR (T.done (aN X N a cl P2.objs.size t H2 fp) rfl rfl rfl hc i [] s3 a6 H3 _ I3 (a3 rfl c6) b8 stop) λr s4 U=> ?_
   obtain⟨hr,I5⟩:=U
   subst hr
   obtain⟨m,hn,_⟩:=id I5.loc
   have e3:∀h',Heap.SameBut P2.objs.size s4.heap h'->Inv X Z σ H3 {s4 with heap:=h'}:=by
    intro h' P
    have u:=I5.base
    have ne:∀b o,t.heap.get? b=some o->b≠P2.objs.size:=λb o e=>G b (Qiq e)
    refine F.call' (ch:=fp) I5.os ⟨λb o e n f hx=>(P.2 b (ne b o e)).trans (u.keep b o e n f hx),λb o e n f hx=> ?_,u.free,λb o e hx=> ?_,u.tups,u.frzs,u.tbls⟩ (λb ob e=> ?_) I5.bare λb f=>⟨(f2 b f).2.2.2.1,(f2 b f).2.1,(f2 b f).2.2.2.2.1,(f2 b f).2.2.2.2.2⟩
    ·obtain⟨sl,e1⟩:=u.slot b o e n f hx
     exact⟨sl,(P.2 b (ne b o e)).trans e1⟩
    ·obtain⟨o',e1⟩:=u.there b o e hx
     exact⟨o',(P.2 b (ne b o e)).trans e1⟩
    ·refine(I5.hok b ob e).stay (λc w' hc q=>(P.2 c ?_).trans q) (λ_ q=>q) λ_ _ q=>q
     have fC:H3 P2.objs.size=none:=I5.free
     rintro rfl
     rcases hc with z|z
     ·rw[←z,fC] at e;cases e
     ·rw[fC] at z;cases z
   have IX:=e3 s4.heap ⟨rfl,λ_ _=>rfl⟩
   have a9:qg X Z H3 P2.objs.size:=F.fpOk a2 I5.free
   obtain⟨oC,es,ep,d3,d4,e5⟩:=hn
   have IP:=IX.pinned (fp:= [P2.objs.size]) (λb f=>by rw[Qfq] at f;rw[f];exact a9) (λb f=>by rw[Qfq] at f;rw[f];exact⟨oC,d3,λv=>by rw[d4];simp⟩)
   show wpAny _ _ (assignAll (.ref t.heap.objs.size) [assign L X.env]) _ _ _
   rw[assignAll.eq_2]
   refine cR (e4 _ s4 σ H3 (.ref t.heap.objs.size) (.ref t.heap.objs.size) _ IP rfl q) λ_ s6 U=> ?_
   obtain⟨K,H6,I6,q6⟩:=U
   have pC:=I6.pin (P2.objs.size,oC) (Qoq _ (Qoq _ (dt (Qfq.mpr rfl) d3)))
   refine⟨m,⟨oC,es,ep,pC.1,d4,e5⟩,λh' P=>Qgq (Qgq ⟨K,H6,?_,q6⟩)⟩
   exact I6.unpinned.turned (it:=P2.objs.size) (t':=s6.toks) (λb o' f e=>(P.2 b f).trans e) pC.2.1 pC.2.2.1 a9.2.2.2.1 a9.2.2.2.2.1 a9.2.2.2.2.2
  ·refine cR (T.item (aN X N a cl P2.objs.size t H2 fp) rfl rfl rfl hc i [] s3 a6 H3 _ I3 (a3 rfl c6) b8 go) λr s4 U=> ?_
   obtain⟨u,hr,h4⟩:=U
   subst hr
   refine cR h4 λ_ s5 U=> ?_
   obtain⟨x,H5,I5,r5,y5,b3,d9⟩:=U
   have d8:=I5.pinned (a3 rfl d9) (T.obj _ _ b3)
   refine cR (hg P2.objs.size t H2 fp _ s5 a6 H5 x u _ d8 r5 (c5 x H5 y5)) λ_ s6 U=> ?_
   obtain⟨K,H6,I6,q6⟩:=U
   refine cR (ht P2.objs.size t H2 fp _ s6 K H6 _ I6 q6) λok s7 U=> ?_
   obtain⟨H7,I7,q7⟩:=U
   have again:∀{s8:Shared} {H8:Hp},Inv (aN X N a cl P2.objs.size t H2 fp) ([]++nV fp s5.heap) K H8 s8->Nx K H8->∃m,m<n/\∃i a5 H',Inv (aN X N a cl P2.objs.size t H2 fp) [] a5 H' s8/\tn i s8.heap/\(∀b∈fp,H' b=none)/\W i m a5 H':=λ{s8 H8} I8 n8=>by
    obtain⟨m',hm,w8⟩:=hN K H8 n8
    refine⟨m',hm,i+1,K,H8,I8.unpinned,T.keep _ _ _ b3 λb f o e=>(I8.pin (b,o) (Qoq _ (Qoq _ (dt f e)))).1,λb f=> ?_,w8⟩
    obtain⟨o,e,d⟩:=T.obj _ _ b3 b f
    exact(I8.pin (b,o) (Qoq _ (Qoq _ (dt f e)))).2.1
   cases ok with
   |false=>exact again I7 q7
   | true=>
     refine cR (hk P2.objs.size t H2 fp _ s7 K H7 _ I7 q7) λkv s8 U=> ?_
     obtain⟨k,H8,I8,rk,q8⟩:=U
     refine cR (hv P2.objs.size t H2 fp _ s8 K H8 _ I8 q8) λyv s9 U=> ?_
     obtain⟨y,H9,I9,ry,d5,ky,ek,hx,hl,n9⟩:=U
     subst ek
     obtain⟨z,hd,vs,c4,dd⟩:=zZ I9.hok hx
     refine wpAny_dictSet_pairs (wb rk) dd (λh' b9 P=> ?_) (by rw[←c4.length];exact z)
     have he:∃q,h'.get? t.heap.objs.size=some q:=let ⟨q,_,_,hq,_⟩:=b9;⟨q,hq⟩
     have e7:=iS d5 ky y
     exact again (r9 I9 (by rw[hx];exact True.intro) P he (tY (by omega) hd (c4.put ky ry) b9)) n9
 exact codeAny_compStart_dict b1 (T.self _ 0 _ _ _ (T.keep _ _ _ b6 λb _ o e=>a1 b o e) b1)
end L2
namespace DL
open PySem PySem.Spec PyProof.Rows L2
section
variable{M:Md}{ρ:List Addr}{H:Hp}{b:Addr}{us:List (Key×V)}{o:HO}
theorem fW.offK{S:aF}(st:fW M ρ S H)(f:H b=some (.dK us))(n:b∉ρ):fW M ρ S (upd H b o):=⟨st.len,st.nd,λk a p h i=>by
 have q:=st.obj k a p h i
 have e:a≠b:=λz=>n (z▸mQg h)
 cases p with
 |lst l=>obtain⟨g,c,d⟩:=q;exact⟨g,by rw[bg e];exact c,d.offK f⟩
 |frz l=>obtain⟨g,o,c,d⟩:=q;exact⟨g,o,by rw[bg e];exact c,d.offK f⟩
 |dct j=>obtain⟨m,c,d⟩:=q;exact⟨m,by rw[bg e];exact c,d.imp λ_ _ r=>r.offK f⟩⟩
def En.offK{c:cq}{a:L2.St}(h:En M ρ H c a)(e:H b=some (.dK us)):En M ρ (upd H b o) c a:=⟨h.len,λi d q=>by obtain⟨v,g,f⟩:=h.get i d q;exact⟨v,g,f.offK e⟩⟩
end
open Classical in
def i9(g:mB)(t:iG)(b c:bp)(W:aF->Prop):List D->cq->aF->List (Key×D)->Option (List (Key×D)×aF)
 | [],Γ,S,acc=>if W S then some (acc,S) else none
 |d ::ds,Γ,S,acc=>if W S then(g d Γ S).bind λ(a,i)=>(t a i).bind λ(k,e)=>
    if k=true then(b a e).bind λ(x,h)=>(c a h).bind λ(y,j)=>(o_ x).bind λf=>if acc.length<sizeLine then i9 g t b c W ds a j (putD acc f y) else none
    else i9 g t b c W ds a e acc
  else none
def p6(js:List (Option Nat))(i:uN)(g:mB)(t:iG)(b c:bp):cq->aF->Option (List (Key×D)×aF):=λa S=>(i a S).bind λ(p,d)=>i9 g t b c p.2 p.1 (nF js a) d []
def Ha{M:Md}{js:List (Option Nat)}{i:uN}{g:mB}{t:iG}{fk fv:bp}{σ:L2.St}{H:Hp}{Q:VK}{ρ:List Addr}{Γ:cq}{S S':aF}{l:List (Key×D)}(ok:Ok M ρ Γ S σ H)(e:p6 js i g t fk fv Γ S=some (l,S'))
  (q:∀b a kv f,bX ρ H b f->fW M b S' f->H a=none->a∉b->f a=some (.dK kv)->cb M b f l kv->Q (.ref a) f):Gk js (tI M i) (tG M g) (tB M t) (tD M fk) (tD M fv) σ H Q:=by
 obtain⟨⟨⟨n,W⟩,S1⟩,e1,e⟩:=aq e
 refine⟨ρ,Γ,S,n,W,S1,ok,e1,λo J H1 x1 Z wk D R=> ?_⟩
 have n1:D∉o:=dg x1 Z R
 have a6:Ok M o (nF js Γ) S1 (kd js σ) (upd H1 D (.dK [])):=⟨((ok.en.ext x1).ext (bX.laid R)).sig js,Z.lay R⟩
 refine⟨λi m C f=>m=n.length-i/\i<=n.length/\∃c F U d j,bX o H1 c f/\Ok M c F U C f/\D∉c/\f D=some (.dK j)/\cb M c f d j/\i9 g t fk fv W (n.drop i) F U d=some (l,S'),
  ⟨n.length,by simp,Nat.zero_le _,o,_,S1,[],[],bX.laid R,a6,n1,bC,rfl,e⟩,?_⟩
 rintro i m b4 H2 ⟨rfl,hi,c,F,U,d,j,x2,ok2,n2,hD2,racc,e2⟩
 by_cases K:i<n.length
 ·have hd:n[i]?=some n[i]:=gQe K
  rw[QWq K] at e2
  unfold i9 at e2
  split at e2
  ·rename_i w
   obtain⟨w1,w2⟩:=wk i c U H2 x2 ok2.st w
   obtain⟨go,b3⟩:=w1 _ hd
   refine .inr ⟨go,λC f=>∃b B A d j,bX o H1 b f/\Ok M b B A C f/\D∉b/\f D=some (.dK j)/\cb M b f d j/\i9 g t fk fv W (n.drop (i+1)) B A d=some (l,S'),
    λC f ⟨b,B,A,d,j,h1,h2,h3,h4,h5,h6⟩=>⟨n.length-(i+1),by omega,rfl,K,b,B,A,d,j,h1,h2,h3,h4,h5,h6⟩,λx H3 hy=> ?_⟩
   obtain⟨x3,a1,r3⟩:=b3 x H3 hy
   obtain⟨⟨h,S4⟩,e4,e5⟩:=aq e2
   refine⟨c,F,U,_,h,S4,ok2.to x3 a1,r3,e4,λa5 b5 H4 x4 p=> ?_⟩
   obtain⟨⟨k,S5⟩,e6,e7⟩:=aq e5
   refine⟨a5,h,S4,k,S5,p,e6,λX H5 Y I=> ?_⟩
   have u:=(x3.trans x4).trans Y
   have G:∀{b f},bX c H2 b f->f D=some (.dK j)/\D∉b:=λ{b f} x=>⟨x.keep _ _ hD2 (.inl n2),λm=>(x.new _ m).elim n2 λz=>by rw[z] at hD2;cases hD2⟩
   dsimp only at e7⊢
   split at e7
   ·rename_i ck
    rw[Qhq ck]
    obtain⟨⟨kx,S6⟩,e8,e9⟩:=aq e7
    obtain⟨⟨y,S7⟩,b2,b1⟩:=aq e9
    obtain⟨kk,a7,N⟩:=aq b1
    refine⟨X,h,S5,kx,S6,p.to Y I,e8,λa2 kv H6 x6 a3 r6=>⟨a2,h,S6,y,S7,(p.to Y I).to x6 a3,b2,λa9 v H7 x7 a4 r7=> ?_⟩⟩
    have L:=(u.trans x6).trans x7
    obtain⟨s,n7⟩:=G L
    have P:=racc.ext' L
    split at N
    ·rename_i cl
     refine⟨j,kk,oM r6 a7,s,by rw[←racc.length];exact cl,a9,h,S7,putD d kk y,_,(x2.trans L).off R _,⟨(((p.en.ext Y).ext x6).ext x7).offK s,a4.offK s n7⟩,n7,bC,(P.put r7).imp λ_ _ r=>r.offK s,N⟩
    ·cases N
   ·rename_i ck
    rw[Quq ck]
    obtain⟨b0,n5⟩:=G u
    exact⟨X,h,S5,d,j,x2.trans u,p.to Y I,n5,b0,racc.ext' u,e7⟩
  ·cases e2
 ·have e3:i=n.length:=by omega
  subst e3
  rw[List.drop_length] at e2
  unfold i9 at e2
  split at e2
  ·rename_i w
   obtain⟨rfl,rfl⟩:=cc e2
   obtain⟨w1,w2⟩:=wk n.length c U H2 x2 ok2.st w
   exact .inl ⟨w2 rfl,q c D j H2 (x1.trans x2) ok2.st (x1.grow _ R) n2 hD2 racc⟩
  ·cases e2
noncomputable def Mw(n:Nat)(f:cq->aF->Option (List (Key×D)×aF)):cI:=λa S=>(f a S).bind λ(l,b)=>some (.nx (a.set n (some (.ref b.length))) (b++ [.dct l]))
section
variable{X:Cx}{pos:Pos}
def GZ{N:List Str}{js:List (Option Nat)}{c:Scope}{p:List (Str×Addr)}{r d w y f:Expr}{k:List Expr}{i:uN}{g:mB}{t:iG}{B I:bp}{n:Nat}{h:Pos}
  (S:aQ X N js c p) (M:X.calm=true) (hi:PI X r d (tI (md X) i))
  (J:∀C s H fp,PG (aN X N c p C s H fp) r (tG (md X) g)) (ht:∀C s H fp,nj (aN X N c p C s H fp) k (tB (md X) t)) (W:∀C s H fp,PE (aN X N c p C s H fp) w (tD (md X) B)) (R:∀C s H fp,PE (aN X N c p C s H fp) y (tD (md X) I)) (v:PG X f (ph n))
  (hs:∀x,foldedSetIterable d X.env x=pure x:=by intro _;rfl) (u:swapsWithSole [f] (.DictComp w y [⟨r,d,k,0⟩] c pos) h.line X.env=pure true:=by rfl)
  (L:(assignEach [f] X.env).map (·.2)= [assign f X.env]:=by rfl):PS X (.Assign [f] (.DictComp w y [⟨r,d,k,0⟩] c pos) h) (tS (md X) (Mw n (p6 js i g t B I))):=
 AX (FE S M hi J ht W R v hs u L) λD σ H Y=>by
  obtain⟨K,Γ,S,o,ok,e,q⟩:=Y
  obtain⟨⟨l,S1⟩,U,e⟩:=aq e
  cases e
  refine Ha ok U λj a kv F x A fr Q P Z=> ?_
  have z:=A.box (o:=.dct l) Q ⟨kv,P,Z.pre' (List.prefix_append j [a])⟩
  have G:bX K H (j++ [a]) F:=⟨x.pre.trans (List.prefix_append _ _),λb m=>by
   rcases mQa.mp m with m|m
   ·exact x.new b m
   ·rw[Qfq] at m;subst m;exact .inr fr,x.keep,x.grow⟩
  refine q (j++ [a]) _ F G ⟨((ok.en.ext G).set (.ref ?_)),z⟩
  rw[←A.len,QQq (Qmq _)]
  simp
end
end DL
namespace Zp
open PySem PySem.W PyProof.Rows
noncomputable def sU(a:Nat->Nat->Bool):KasT (Array Nat)->Array Nat
 |.ret p=>p
 |.ask i j k=>sU a (k (a i j))
theorem xH{a:Nat->Nat->(Bool->Shared->Prop)->Shared->Prop}{Q:Array Nat->Shared->Prop}{s:Shared}{n:Nat}{c:Nat->Nat->Bool}(b:∀i j C,i<n->j<n->i≠j->C (c i j) s->a i j C s):
  ∀t:KasT (Array Nat),sJ n t=true->Q (sU c t) s->t.kasWp a Q s
 |.ret p,_,h=>h
 | .ask i j k,ha,h=>by
   simp only[sJ,QCq,decide_eq_true_eq] at ha
   obtain⟨⟨⟨⟨l,f⟩,m⟩,d⟩,g⟩:=ha
   refine b i j _ l f m ?_
   cases e:c i j with
   |true=>exact xH b (k true) d (by unfold sU at h;rw[e] at h;exact h)
   |false=>exact xH b (k false) g (by unfold sU at h;rw[e] at h;exact h)
end Zp
namespace L2
open PySem PySem.Spec PyProof.Rows
end L2
namespace DL
open PySem PySem.Spec PyProof.Rows L2
def rB(a b:Str):Prop:=¬(b.cps.toList<a.cps.toList)
instance(a b:Str):Decidable (rB a b):=by unfold rB;infer_instance
def DE(a b:Str):rB a b\/rB b a:=by
 by_cases h:b.cps.toList<a.cps.toList
 ·exact .inr λc=>List.lt_asymm h c
 ·exact .inl h
def vS{a b c:Str}(e:rB a b)(d:rB b c):rB a c:=by
 unfold rB at *
 rw[List.not_lt] at *
 exact List.le_trans e d
def F7{a b:Str}(c:rB a b)(d:rB b a):a=b:=by
 unfold rB at *
 rw[List.not_lt] at *
 have:=List.le_antisymm c d
 cases a
 cases b
 simp only[Str.mk.injEq]
 exact Array.toList_inj.mp this
noncomputable def BC(x:Str):List Str->List Str
 | []=> [x]
 |y::r=>if rB x y then x::y::r else y::BC x r
noncomputable def qy:List Str->List Str
 | []=> []
 |x::r=>BC x (qy r)
theorem qR(x:Str):∀l:List Str,(BC x l).Perm (x::l)
 | []=>List.Perm.refl _
 | y::r=>by
   unfold BC
   split
   · exact List.Perm.refl _
   · exact((qR x r).cons y).trans (List.Perm.swap _ _ _)
theorem lj:∀l:List Str,(qy l).Perm l
 | []=>List.Perm.refl _
 |x::r=>(qR x _).trans ((lj r).cons x)
theorem rA{x:Str}:∀{l:List Str},l.Pairwise rB->(BC x l).Pairwise rB
 | [],_=>by simp[BC]
 | y::r,h=>by
   rw[List.pairwise_cons] at h
   unfold BC
   split
   · rename_i c
     refine List.pairwise_cons.mpr ⟨λz a=> ?_,List.pairwise_cons.mpr h⟩
     rcases Qsq.mp a with rfl|a
     · exact c
     · exact vS c (h.1 z a)
   · rename_i c
     refine List.pairwise_cons.mpr ⟨λz a=> ?_,rA h.2⟩
     rcases Qsq.mp ((qR x r).mem_iff.mp a) with rfl|a
     · exact(DE _ _).resolve_left c
     · exact h.1 z a
theorem jd:∀l:List Str,(qy l).Pairwise rB
 | []=>List.Pairwise.nil
 |x::r=>rA (jd r)
def xE:∀{l:List Str},sortedS l=true->l.Pairwise rB
 | [],_=>List.Pairwise.nil
 | x::r,h=>by
   have d:∀(r:List Str) (x:Str),risingS x r=true->(x::r).Pairwise rB:=by
     intro r
     induction r with
     |nil=>intro x _;simp
     | cons y r e=>
       intro x h
       unfold risingS at h
       simp only[QCq] at h
       have b:=e y h.2
       have c:rB x y:=by
         have:=h.1
         unfold rB
         rw[ltCps_eq] at this
         simpa using this
       refine List.pairwise_cons.mpr ⟨λz a=> ?_,b⟩
       rcases Qsq.mp a with rfl|a
       · exact c
       · exact vS c ((List.pairwise_cons.mp b).1 z a)
   exact d r x h
def Da{c d:List Str}(h:sortedS c=true)(p:c.Perm d):c=qy d:=
 List.Perm.eq_of_pairwise (le:=rB) (λa b _ _ f e=>F7 f e) (xE h) (jd d) (p.trans (lj d).symm)
end DL
namespace L2
open PySem PySem.Spec PyProof.Rows
end L2
namespace DL
open PySem PySem.Spec L2
section
variable{X:Cx}{a b e:Expr}{pos:Pos}
noncomputable def vB:List D->Option (List Str)
 | []=>some []
 |.str x::r=>(vB r).bind λc=>some (x::c)
 |_::_=>none
theorem zY{M:Md}{ρ:List Addr}{H:Hp}:∀{ds:List D} {vs:List V} {xs:List Str},bf M ρ H ds vs->vB ds=some xs->vs=xs.map V.str
 | [],_,_,h,e=>by cases h;cases e;rfl
 | d::ds,_,_,h,e=>by
   cases d with
   | str b=>
     simp only[vB] at e
     obtain⟨c,f,e⟩:=aq e
     cases e
     cases h with
     | cons h g=>
       cases h
       rw[zY g f]
       rfl
   |_=>cases e
theorem vo{M:Md}{ρ:List Addr}{H:Hp}:∀c:List Str,bf M ρ H (c.map D.str) (c.map V.str)
 | []=>.nil
 |s::c=>.cons (.str s) (vo c)
noncomputable def Cb(f:dQ):fK:=λd S=>(f d S).bind λ(p,g)=>if p.2.isL=true then(vB p.1).bind λc=>if c.length<64 then some ((qy c).map D.str,g) else none else none
def LN{f:dQ}{p:Pos}(k:Gl X "sorted")(F:X.mg "sorted"=none)(w:PE X a (tQ (md X) f))(i:starEach [a] X.env= [(false,eval a X.env)]:=by rfl):
  PE X (.Call (.Name "sorted" p) [a] [] pos) (tL (md X) (Cb f)):=
 jQ (fP wG k F PyProof.Rows.boot_sorted (cz w eM i) (he:=i)) λJ H Q C=>by
  obtain⟨m,s,S,d,I,ok,e,q⟩:=C
  obtain⟨⟨⟨y,t⟩,z⟩,B,e⟩:=aq e
  dsimp only at e
  split at e
  ·rename_i c
   obtain⟨G,j,e⟩:=aq e
   split at e
   ·rename_i v
    obtain⟨rfl,rfl⟩:=cc e
    refine⟨m,s,S,y,t,z,ok,B,λn a K L x g h r=>⟨a,G,rfl,?_,v,λl A hl u o=> ?_⟩⟩
    ·rw[←zY r j];exact h.sqL c
    ·cases Da u o
     exact q _ _ _ _ (x.trans (bX.laid hl)) (g.lay hl) (x.grow _ hl) (dg x g hl) bC (vo _)
   ·cases e
  ·cases e
end
def xg{P:Program}{w:World}{K:PySem.W.Frag}{mg:Str->Option Value}{base:Heap}{f:Addr}{c:FuncData}{ps:List Str}{k n:Nat}:bA P w K mg base dG k f c ps (eh ⟨K,mg⟩ n λ_ _=>none):=
 {len:=λd H Q E h=>by
   obtain⟨_,_,_,_,_,_,_,_,e,_⟩:=h
   cases e
  run:=λA a s H b g d Q E _ _ _ _ h=>by
   obtain⟨_,_,_,_,_,_,_,_,e,_⟩:=h
   cases e}
end DL
namespace Zq
open PySem PyProof.Rows
end Zq
namespace L2
open PySem PyProof.Rows Zq
end L2
namespace DL
open PySem PySem.Spec L2
structure Ck(P:Program)(w:World)(K:PySem.W.Frag)(mg:Str->Option Value)(x:Str)(tbl:List (Str×Str)):Prop where
 at_:∃a,mg x=some (.ref a)/\∀h:Heap,K.In h->∃vs,h.DictOf (bW P w) a vs/\∀k nm,tbl.lookup k=some nm->∃f,valueAt vs (Sum.inr k:Key)=some (.ref f)/\mg nm=some (.ref f)
section
variable{X:Cx}{a b c e:Expr}{pos:Pos}
noncomputable def Nh(d:List (Str×Str))(g:bp):bp:=λf S=>(g f S).bind λ(y,h)=>match y with
 |.str x=>(d.lookup x).bind λnm=>some (.fn nm,h)
 |_=>none
def Im{x:Str}{j:List (Str×Str)}{g:bp}{p:Pos}(G:Ck X.prog X.w X.K X.mg x j)(J:Gl X x)(Z:PE X b (tD (md X) g))(hs:GV b)(hd:(x==("__debug__":Str))=false:=by decide):
  PE X (.Subscript (.Name x p) b pos) (tD (md X) (Nh j g)):=by
 rintro i s M H Q I ⟨t,P,S,d,S',ok,e,q⟩
 obtain⟨a,hm,W⟩:=G.at_
 obtain⟨⟨y,A⟩,e1,e⟩:=aq e
 cases y with
 | str z=>
   obtain⟨nm,C,e⟩:=aq e
   obtain⟨rfl,rfl⟩:=cc e
   refine BX PySem.F.slot_dict_getitem.lookup hs (xh I J hm ?_ hd)
   refine cR (Z i s M H (λv l=>∃h,bX t H h l/\fW (md X) h A l/\Rel (md X) h l (.str z) v) I ⟨t,P,S,_,A,ok,e1,λh v l x U r=>⟨h,x,U,r⟩⟩) λiv L qr=> ?_
   obtain⟨v,H2,u,Y,h,x2,n,r2⟩:=qr
   obtain⟨vs,B,hv⟩:=W _ u.kIn
   obtain⟨f,hf,m⟩:=hv z nm C
   cases r2
   have ty:L.TypeIs (.ref a) "dict":=by
     obtain⟨o,es,ep,R,N,h3,_⟩:=B
     exact⟨o,R,N.1⟩
   refine⟨ty,wpAny_getItem_of (wb (k:=Sum.inr z) Y) B.mapOf hf ?_⟩
   exact⟨.ref f,H2,u.tok _,rfl,q _ _ _ x2 n (.fn m)⟩
 |_=>cases e
def ur(i:Nat)(T:List (Str×dr))(g:fK):bp:=λd S=>match d[i]? with
 |some (some (.fn x))=>(T.lookup x).bind λF=>aA F g d S
 |_=>none
def Ir{i k:Nat}{y:Str}{ps:List Str}{T:List (Str×dr)}{j:List Expr}{g:fK}{p:Pos}(hT:∀x F,T.lookup x=some F->eZ X.prog X.w X.K X.mg X.base k x ps F)(hr:eQ k X.A)(hN:X.N[i]?=some y)(hv:IB X.env.scope y)
  (ha:PA X (e::j) (yw (md X) g)) (U:nA ps.length g) (z:(y==("__debug__":Str))=false:=by decide) (n:(y==("__classdict__":Str))=false:=by decide) (he:starEach (e::j) X.env=(false,eval e X.env)::starEach j X.env:=by rfl) (hpl:(backTo pos (starEach j X.env)).any (·.1)=false:=by rfl):
  PE X (.Call (.Name y p) (e::j) [] pos) (tD (md X) (ur i T g)):=by
 rintro h s o H Q I ⟨Y,Z,S,d,R,ok,e,q⟩
 unfold ur at e
 split at e
 ·rename_i x hx
  obtain⟨F,B,e⟩:=aq e
  obtain⟨f,fd,G,bb,kp,m⟩:=(hT x F B).ex
  obtain⟨v,t,rv⟩:=ok.en.get i _ hx
  cases rv with
  | fn hm=>
    have L:(md X).mg x=some (.ref f):=m
    rw[hm] at L
    cases L
    refine wpAny_Call_Name_kw (cR (Fb hN hv z n h s o H (λC l=>C=.ref f/\l=H) I ⟨_,t,rfl,rfl⟩) λu P qr=> ?_)
    obtain⟨C,l,I1,r1,B,M⟩:=qr
    subst B M
    cases (show u=Value.ref f from r1)
    refine PySem.W.callWith_K (h₀:=X.base) I.ok.mod.kin kp (cR (ha pos h P o l _ I1 (B_ U o l Q ⟨Y,Z,S,d,R,ok,e,q⟩)) λus s2 ⟨vs,H1,J,r,q2⟩=>⟨J.kIn,?_⟩) he hpl
    exact E5 G hr bb .nil FG J r q2
 ·cases e
end
def Bq(w:World)(x:Str):PyData.keyHash w.params x=hashStr w x:=by
 unfold PyData.keyHash hashStr
 first|rfl|simp
inductive Al(w:World)(mg:Str->Option Value):List DictEntry->List (Str×Str)->Prop
 |nil:Al w mg [] []
 |cons {x nm:Str} {t:Tok} {f:Addr} {es:List DictEntry} {tbl:List (Str×Str)}:mg nm=some (.ref f)->Al w mg es tbl->Al w mg (⟨PyData.keyHash w.params x,.str x t,.ref f⟩::es) ((x,nm)::tbl)
def Al.keys{P:Program}{w:World}{mg:Str->Option Value}{b:List DictEntry}{a:List (Str×Str)}(c:Al w mg b a):∀e∈b,∃k,(bW P w).is k e.key=true/\e.hash=(bW P w).hash k:=by
 induction c with
 |nil=>intro e h;cases h
 | @cons x nm t f b a hm c ih=>
   intro e h
   rcases Qsq.mp h with rfl|h
   · exact⟨Sum.inr x,p5 x t,Bq w x⟩
   · exact ih e h
def Al.pairs{P:Program}{w:World}{mg:Str->Option Value}{b:List DictEntry}{a:List (Str×Str)}(e:Al w mg b a):∃vs:List (Key×Value),Pairs (bW P w) b vs/\vs.map (·.1)=a.map (λp=>Sum.inr p.1)∧
  ∀k nm,a.lookup k=some nm->∃f,valueAt vs (Sum.inr k:Key)=some (.ref f)/\mg nm=some (.ref f):=by
 induction e with
 |nil=>exact⟨[],.nil,rfl,λk nm h=>by cases h⟩
 | @cons x nm t f b a hm e ih=>
   obtain⟨vs,j,i,l⟩:=ih
   refine⟨(Sum.inr x,.ref f)::vs,.cons (p5 x t) rfl j,by simp[i],λk n h=> ?_⟩
   by_cases c:k=x
   · subst c
     rw[List.lookup_cons_self] at h
     cases h
     refine⟨f,?_,hm⟩
     unfold valueAt
     rw[List.find?_cons_of_pos (by simp)]
     rfl
   · have m:(k==x)=false:=by simpa using c
     rw[List.lookup_cons,m] at h
     obtain⟨g,d,o⟩:=l k n h
     refine⟨g,?_,o⟩
     unfold valueAt at d⊢
     rw[List.find?_cons_of_neg]
     · exact d
     · intro z
       have:(Sum.inr x:Key)=Sum.inr k:=by simpa using z
       exact c (Sum.inr.inj this).symm
def F2{P:Program}{w:World}{K:PySem.W.Frag}{mg:Str->Option Value}{x:Str}{c:List (Str×Str)}{a:Addr}{d:List DictEntry}{k:Nat}(q:mg x=some (.ref a))(l:K.lookup a=some ⟨.type "dict",none,.dict d.toArray k,#[]⟩)(f:Al w mg d c)(nd:(c.map (·.1)).Nodup):Ck P w K mg x c:=by
 obtain⟨m,i,g,j⟩:=f.pairs (P:=P)
 refine⟨a,q,λh o=>⟨m,⟨_,_,_,o _ _ l,⟨rfl,rfl,rfl⟩,rfl,λe r=>f.keys e (by simpa using r),by simpa using i,?_⟩,j⟩⟩
 rw[g]
 have:c.map (λp=>(Sum.inr p.1:Key))=(c.map (·.1)).map Sum.inr:=by rw[QPq];rfl
 rw[this]
 exact List.Pairwise.map _ (λa b n e=>n (Sum.inr.inj e)) nd
theorem Ft{P:Program}{w:World}{K:PySem.W.Frag}{mg:Str->Option Value}{base:Heap}{k:Nat}{ps:List Str}:∀{T:List (Str×dr)},(∀p∈T,eZ P w K mg base k p.1 ps p.2)->∀x F,T.lookup x=some F->eZ P w K mg base k x ps F
 | [],_,x,F,h=>by cases h
 | p::T,g,x,F,h=>by
   by_cases c:x=p.1
   · subst c
     rw[List.lookup_cons_self] at h
     cases h
     exact g p (QBq ..)
   · have b:(x==p.1)=false:=by simpa using c
     rw[List.lookup_cons,b] at h
     exact Ft (λq a=>g q (Qpq _ a)) x F h
def y1:Sp:=λc H Q _=>∃(a:Addr) (b:List Int) (o:Obj),c= [.ref a]/\H a=some (.frz o (.lst (b.map V.int)))/\b.length<=63/\∀d,Q (.bl true) d
theorem vD{M:Md}{ρ:List Addr}{H:Hp}:∀ns:List Int,bf M ρ H (ns.map D.int) (ns.map V.int)
 | []=>.nil
 |s::ss=>.cons (.int s) (vD ss)
def Hx{P:Program}{w:World}{K:PySem.W.Frag}{mg:Str->Option Value}{base:Heap}{k:Nat}{f:Addr}{i:FuncData}{ps:List Str}{F:dr}(G:bA P w K mg base dG k f i ps (eh ⟨K,mg⟩ 1 F))
  (h:∀ns:List Int,ns.length<=63->∃c,F [.ref 0] [.frz (ns.map D.int)]=some (.d (.bl true),c)):bA P w K mg base dG k f i ps y1:=
 G.imp λt H Q E n=>by
  obtain⟨a,ns,o,e,m,hl,q⟩:=n
  subst e
  obtain⟨c,e⟩:=h ns hl
  refine⟨[a],[.frz (ns.map D.int)],[.ref 0],_,c,rfl,.cons (.ref rfl) .nil,⟨rfl,by simp,λk b u g j=> ?_⟩,e,λl v p x s r=> ?_⟩
  ·cases k with
   |zero=>cases g;cases j;exact⟨_,o,m,vD ns⟩
   |succ k=>simp at g
  ·cases r
   exact q p
noncomputable def BF(K:PySem.W.Frag):Bool:=K.all λp=>match p.2.data with|.seq _ _=>(match p.2.cls with|.type s=>s !="list" |_=>true)|_=>true
def Ea{K:PySem.W.Frag}(h:BF K=true){a:Addr}{o:Obj}(e:K.lookup a=some o){f:Array Value}{n:Nat}(hd:o.data=.seq f n):o.cls≠.type "list":=by
 intro i
 have d:∀(K:List (Addr×Obj)),K.all (λp=>match p.2.data with|.seq _ _=>(match p.2.cls with|.type s=>s !="list" |_=>true)|_=>true)=true->K.lookup a=some o->False:=by
  intro K
  induction K with
  |nil=>intro _ e;cases e
  | cons p K j=>
    intro h e
    rw[List.all_cons,QCq] at h
    obtain⟨b,q⟩:=p
    rw[List.lookup_cons] at e
    by_cases c:a=b
    · subst c
      simp only[BEq.rfl] at e
      cases e
      have g:=h.1
      simp only[hd,i] at g
      simp at g
    · have k:(a==b)=false:=by simpa using c
      rw[k] at e
      exact j h.2 e
 exact d K h e
def M5{K:PySem.W.Frag}{H:Hp}{a:Addr}{ns:List Int}(nl:BF K=true)(hl:ns.length<=63)(c:HG H)(b:iC K H a (ns.map V.int)):y1 [.ref a] H (λv _=>v=.bl true) λ_ _ _=>False:=by
 rcases b with(h|⟨o,h⟩)|⟨o,its,n,h,hc,_,hd,_⟩
 ·rcases c a with z|⟨o,d,z⟩
  ·rw[h] at z;cases z
  ·rw[h] at z;cases z
 ·exact⟨a,ns,o,rfl,h,hl,λ_=>rfl⟩
 ·exact absurd hc (Ea nl h hd)
def M3{l:PySem.W.OpenLaw}{q:Program}{b:List Str}{p:(Str->Option Value)->Heap->Prop}{e:World->Heap->Prop}{d:DefRec}{K:Params->PySem.W.Frag}{k:Nat}(j:l.most=some 63)(c:d.params.defaults= [])(m:eQ k PySem.callerA)
  (r:∀(w:World) (h:Heap),e w h->(K w.params).In h) (nl:∀w:World,BF (K w.params)=true)
  (F:∀(w:World) (mg:Str->Option Value) (g:Addr) (h:Heap),(K w.params).In h->h.Ns mainGlobals mg->mg d.name=some (.ref g)→
   ∃i:FuncData,(∀(s:Shared) (u:Value),BindsTo s i ⟨[u],[]⟩ [("_law_script",u)])/\∀base:Heap,(K w.params).In base->base.Ns mainGlobals mg->bA l.prog w (K w.params) mg base dG k g i ["_law_script"] y1):
  PySem.W.WalkO q b p e l.row.toRowW d [] (λf vs=>PySem.call f vs):=
 L2.GI (n:=63) (k:=k) (x:="_law_script") (CX:=λ_=>dG) (sp:=λ_=>y1) j (by decide) c m r F (λw H a v hl o t=>M5 (nl w) hl o t) λ_ _ _ _ _ z=>z
end DL
namespace DL
open PySem PySem.Spec L2 PyProof.Rows
section
variable{X:Cx}{x:Str}{e:Expr}{f:bp}{pos pos':Pos}
def j2(i:Nat)(a:X.N.Nodup)(he:PE X e (tD (md X) f))(hi:X.N[i]?=some x:=by rfl)(d:Loc X.env.scope x:=by first|exact Or.inl rfl|exact Or.inr rfl)(c:swapsWith e (some (.Name x pos')) pos.line X.env=pure false:=by rfl)
  (b:X.fn x=true\/X.env.scope.names.lookup x=some .local:=by first|exact .inl rfl|exact .inr rfl|assumption):PS X (.Assign [.Name x pos'] e pos) (tS (md X) (aX i f)):=Mb (KG a hi d he c b)
def Pq(i:Nat)(a:X.N.Nodup)(hi:X.N[i]?=some x:=by rfl)(c:Loc X.env.scope x:=by first|exact Or.inl rfl|exact Or.inr rfl)(b:X.fn x=true\/X.env.scope.names.lookup x=some .local:=by first|exact .inl rfl|exact .inr rfl|assumption):PG X (.Name x pos) (ph i):=wQ a hi c b
def uP(i:Nat)(a:X.N.Nodup)(hi:X.N[i]?=some x:=by rfl)(c:Loc X.env.scope x:=by first|exact Or.inl rfl|exact Or.inr rfl)(b:X.fn x=true\/X.env.scope.names.lookup x=some .local:=by first|exact .inl rfl|exact .inr rfl|assumption):PG X (.Name x pos) (tG (md X) (bF i)):=FL (wQ a hi c b)
def Py{N:List Str}{a:Scope}{b:List (Str×Addr)}{C:Addr}{s:Shared}{H:Hp}{fp:List Addr}(i:Nat)(c:N.Nodup:=by decide +kernel)(hi:(aN X N a b C s H fp).N[i]?=some x:=by rfl)(g:Loc (aN X N a b C s H fp).env.scope x:=by first|exact Or.inl rfl|exact Or.inr rfl)
  (d:(aN X N a b C s H fp).fn x=true\/(aN X N a b C s H fp).env.scope.names.lookup x=some .local:=by first|exact .inl rfl|exact .inr rfl|assumption):PG (aN X N a b C s H fp) (.Name x pos) (tG (md (aN X N a b C s H fp)) (bF i)):=FL (wQ c hi g d)
def v_(i:Nat)(b:X.N[i]?=some x:=by rfl)(c:IB X.env.scope x:=by first|exact Or.inl rfl|exact Or.inr (Or.inl rfl)|exact Or.inr (Or.inr rfl))(hd:(x==("__debug__":Str))=false:=by decide)(a:(x==("__classdict__":Str))=false:=by decide):PE X (.Name x pos) (tD (md X) (au i)):=Ma (pv i b c hd a)
end
section
variable{X:Cx}{x:Str}{k k':Nat}{ps:List Str}{F:dr}{e:Expr}{es:List Expr}{g:fK}{p pos:Pos}
def gF(C:eZ X.prog X.w X.K X.mg X.base k x ps F)(d:eQ k' X.A)(c:PA X (e::es) (yw (md X) g))(h:k<=k':=by first|decide|omega)(b:Gl X x:=by rfl)
  (f:nA ps.length g:=by repeat (first|exact AD|refine ml ?_))
  (a:(x==("__debug__":Str))=false:=by decide) (he:starEach (e::es) X.env=(false,eval e X.env)::starEach es X.env:=by rfl) (hpl:(backTo pos (starEach es X.env)).any (·.1)=false:=by rfl):
  PE X (.Call (.Name x p) (e::es) [] pos) (tD (md X) (aA F g)):=M1 C (d.mono h) b c f a he hpl
def LB(C:eZ X.prog X.w X.K X.mg X.base k x ps F)(d:eQ k' X.A)(c:PA X (e::es) (yw (md X) g))(h:k<=k':=by first|decide|omega)(b:Gl X x:=by rfl)
  (f:nA ps.length g:=by repeat (first|exact AD|refine ml ?_))
  (a:(x==("__debug__":Str))=false:=by decide) (he:starEach (e::es) X.env=(false,eval e X.env)::starEach es X.env:=by rfl) (hpl:(backTo pos (starEach es X.env)).any (·.1)=false:=by rfl):
  PE X (.Call (.Name x p) (e::es) [] pos) (tL (md X) (fc F g)):=Lz C (d.mono h) b c f a he hpl
end
def fE{N P:List Str}{h:Scope}(a:h.kind=.function:=by rfl)(b:h.isCoroutine=false:=by rfl)(c:h.isGenerator=false:=by rfl)(d:N.Nodup:=by decide +kernel)(e:N.take P.length=P:=by rfl)
  (f:∀x∈P,h.names.lookup x=some .local\/h.names.lookup x=some .cell:=by decide +kernel) (g:∀y∈h.names,y.2≠.free:=by decide +kernel):aJ N P h:=⟨a,b,c,d,e,f,g⟩
structure bc(K:PySem.W.Frag)(x:Str)(st:Stmt)(f:Addr):Prop where
 ex:∃(oc:Value) (od:Option Addr) (kV dc pm:Value) (an:Option Addr) (cd ct:Value) (sl:Array (Option Value)),PySem.W.nsIn K mainGlobals x=some (some (.ref f))∧
  K.lookup f=some ⟨oc,od,.func (PySem.W.fnOf x x (g8 st) (ff st) (aD st) .none kV dc pm an cd ct),sl⟩/\PySem.W.codeIn K cd x=true/\PySem.W.keepIn K (.ref f)=true
def bc.of{K:PySem.W.Frag}{x:Str}{st:Stmt}{f:Addr}{e:Value}{d:Option Addr}{kV i h:Value}{j:Option Addr}{b ct:Value}{g:Array (Option Value)}(a:PySem.W.nsIn K mainGlobals x=some (some (.ref f)))
  (l:K.lookup f=some ⟨e,d,.func (PySem.W.fnOf x x (g8 st) (ff st) (aD st) .none kV i h j b ct),g⟩) (c:PySem.W.codeIn K b x=true) (k:PySem.W.keepIn K (.ref f)=true):bc K x st f:=⟨e,d,kV,i,h,j,b,ct,g,a,l,c,k⟩
structure Od(K:PySem.W.Frag)(mg:Str->Option Value)(x:Str)(st:Stmt)(ps:List Str)(f:Addr):Prop where
 ex:∃fd,et K x x st f fd/\Binds K fd ps []/\PySem.W.keepIn K (.ref f)=true
 m:mg x=some (.ref f)
def bc.ok1{K:PySem.W.Frag}{mg:Str->Option Value}{x:Str}{st:Stmt}{ps:List Str}{f:Addr}{h:Heap}(D:bc K x st f)(X:K.In h)(G:h.Ns mainGlobals mg)
  (l:∀(kV b e:Value) (j:Option Addr) (c ct:Value) (a:List Value),a.length=ps.length->bindArgs (PySem.W.fnOf x x (g8 st) (ff st) (aD st) .none kV b e j c ct) ⟨a,[]⟩=pure (ps.zip a):=by intro _ _ _ _ _ _ a hl;rcases a with _|⟨_,_|⟨_,_|⟨_,_|⟨_,_|⟨_,_|⟨_,_⟩⟩⟩⟩⟩⟩ <;>first|rfl|cases hl):Od K mg x st ps f:=by
 obtain⟨p,n,kV,q,e,j,o,ct,m,k,g,i,d⟩:=D.ex
 exact⟨⟨_,A_ g i d,(A_ g i d).binds l,d⟩,PySem.W.mg_of X G k⟩
structure Pk(P:Program)(w:World)(base:Heap):Prop where
def Od.cal{P:Program}{w:World}{base:Heap}{K:PySem.W.Frag}{mg:Str->Option Value}{x:Str}{st:Stmt}{ps:List Str}{f:Addr}{k:Nat}{F:dr}(O:Od K mg x st ps f)(Z:Pk P w base)
  (h:∀a,et K x x st f a->Binds K a ps []->PySem.W.keepIn K (.ref f)=true->mg x=some (.ref f)->bA P w K mg base dG k f a ps (eh ⟨K,mg⟩ ps.length F)):eZ P w K mg base k x ps F:=by
 obtain⟨a,d,b,c⟩:=O.ex
 exact⟨f,a,h a d b c O.m,b,c,O.m⟩
end DL
namespace DL
open PySem PySem.Spec L2
def E{α:Type}(f:cq->aF->Option (α×aF))(c:cq)(S:aF)(Q:α->aF->Prop):Prop:=∃a b,f c S=some (a,b)/\Q a b
def T(f:cI)(a:cq)(S:aF)(Q:Out->Prop):Prop:=∃o,f a S=some o/\Q o
def Fn(F:dr)(ds:List D)(S:aF)(Q:Res->aF->Prop):Prop:=∃r a,F ds S=some (r,a)/\Q r a
def Tg(g:mB)(d:D)(c:cq)(S:aF)(Q:cq->aF->Prop):Prop:=∃a b,g d c S=some (a,b)/\Q a b
def Nl(g:rH)(d:List D)(c:cq)(S:aF)(Q:cq->aF->Prop):Prop:=∃a b,g d c S=some (a,b)/\Q a b
def Op{α:Type}(o:Option α)(Q:α->Prop):Prop:=∃d,o=some d/\Q d
section
variable{Γ:cq}{S:aF}
def E.mono{α:Type}{f:cq->aF->Option (α×aF)}{Q R:α->aF->Prop}(h:E f Γ S Q)(i:∀a S,Q a S->R a S):E f Γ S R:=by
 obtain⟨a,b,e,q⟩:=h
 exact⟨a,b,e,i _ _ q⟩
def T.mono{f:cI}{Q R:Out->Prop}(h:T f Γ S Q)(i:∀o,Q o->R o):T f Γ S R:=by
 obtain⟨a,e,q⟩:=h
 exact⟨a,e,i _ q⟩
def ax{i:Nat}{d:D}{Q:D->aF->Prop}(h:Γ[i]?=some (some d))(q:Q d S):E (au i) Γ S Q:=⟨d,S,by unfold au;rw[h],q⟩
def dM{d:D}{Q:D->aF->Prop}(q:Q d S):E (cF d) Γ S Q:=⟨d,S,rfl,q⟩
def aL{Q:List D->aF->Prop}(q:Q [] S):E av Γ S Q:=⟨[],S,rfl,q⟩
def aw{f:bp}{g:fK}{Q:List D->aF->Prop}(h:E f Γ S λd a=>E g Γ a λds S2=>Q (d::ds) S2):E (ar f g) Γ S Q:=by
 obtain⟨d,a,c,ds,S2,b,q⟩:=h
 exact⟨_,_,by unfold ar;rw[c];simp only[Qbq];rw[b];rfl,q⟩
def bN{o:rZ}{f g:bp}{Q:D->aF->Prop}(h:E f Γ S λx a=>E g Γ a λy S2=>Op (o S2 x y) λd=>Q d S2):E (a_ o f g) Γ S Q:=by
 obtain⟨x,a,c,y,S2,b,d,e,q⟩:=h
 exact⟨d,S2,by unfold a_;rw[c];simp only[Qbq];rw[b];simp only[Qbq];rw[e];rfl,q⟩
def cm{f:fK}{Q:D->aF->Prop}(h:E f Γ S λds a=>ds.length<=sizeLine/\Q (.tup ds) a):E (aW f) Γ S Q:=by
 obtain⟨ds,a,b,l,q⟩:=h
 exact⟨_,_,by unfold aW;rw[b];simp only[Qbq];rw[Qhq l],q⟩
def cP{f:fK}{Q:List D->aF->Prop}(h:E f Γ S λds a=>ds.length<=sizeLine/\Q ds a):E (bo f) Γ S Q:=by
 obtain⟨ds,a,b,l,q⟩:=h
 exact⟨_,_,by unfold bo;rw[b];simp only[Qbq];rw[Qhq l],q⟩
def dk{f:fK}{Q:D->aF->Prop}(h:E f Γ S λds a=>Q (.ref a.length) (a++ [.lst ds])):E (bB f) Γ S Q:=by
 obtain⟨ds,a,b,q⟩:=h
 exact⟨_,_,by unfold bB;rw[b];rfl,q⟩
def L6{o:IS}{f:fK}{Q:D->aF->Prop}(h:E f Γ S λds a=>Op (o ds) λd=>Q d a):E (CD o f) Γ S Q:=by
 obtain⟨ds,a,c,d,b,q⟩:=h
 exact⟨d,a,by unfold CD;rw[c];simp only[Qbq];rw[b];rfl,q⟩
def b_{f:bp}{Q:(List D×Tag)->aF->Prop}(h:E f Γ S λd a=>Op (tF a d) λp=>Q p a):E (aU f) Γ S Q:=by
 obtain⟨e,a,c,d,b,q⟩:=h
 exact⟨d,a,by unfold aU;rw[c];simp only[Qbq];rw[b];rfl,q⟩
def jF{f:fK}{Q:(List D×Tag)->aF->Prop}(h:E f Γ S λds a=>Q (ds,.fr) a):E (fX f) Γ S Q:=by
 obtain⟨ds,a,b,q⟩:=h
 exact⟨_,a,by unfold fX;rw[b];rfl,q⟩
def lB{f:dQ}{Q:D->aF->Prop}(h:E f Γ S λp a=>Q (.int p.1.length) a):E (dW f) Γ S Q:=by
 obtain⟨p,a,b,q⟩:=h
 exact⟨_,a,by unfold dW;rw[b];rfl,q⟩
def eX{f:dQ}{Q:D->aF->Prop}(h:E f Γ S λp a=>Q (.tup p.1) a):E (tupQ f) Γ S Q:=by
 obtain⟨p,a,b,q⟩:=h
 exact⟨_,a,by unfold tupQ;rw[b];rfl,q⟩
def eR{f:dQ}{Q:(List D×Tag)->aF->Prop}(h:E f Γ S λp a=>p.2.isL=true/\Q p a):E (dB f) Γ S Q:=by
 obtain⟨p,a,b,l,q⟩:=h
 exact⟨_,a,by unfold dB;rw[b];simp only[Qbq];rw[Qhq l],q⟩
def HF{f:dQ}{Q:D->aF->Prop}(h:E f Γ S λp a=>(p.2.isL=true/\p.2.stays a p.1)/\Q (.bl (!p.1.isEmpty)) a):E (gh f) Γ S Q:=by
 obtain⟨p,a,b,l,q⟩:=h
 exact⟨_,a,by unfold gh;rw[b];simp only[Qbq];rw[Qhq l],q⟩
def bL{F:dr}{g:fK}{Q:D->aF->Prop}(h:E g Γ S λds a=>Fn F ds a λr S2=>match r with|.d x=>Q x S2|.l _=>False):E (aA F g) Γ S Q:=by
 obtain⟨ds,a,c,r,S2,b,q⟩:=h
 cases r with
 |d x=>exact⟨x,S2,by unfold aA;rw[c];simp only[Qbq];rw[b];rfl,q⟩
 |l x=>exact q.elim
def Cm{F:dr}{g:fK}{Q:List D->aF->Prop}(h:E g Γ S λds a=>Fn F ds a λr S2=>match r with|.d _=>False|.l x=>Q x S2):E (fc F g) Γ S Q:=by
 obtain⟨ds,a,c,r,S2,b,q⟩:=h
 cases r with
 |d x=>exact q.elim
 |l x=>exact⟨x,S2,by unfold fc;rw[c];simp only[Qbq];rw[b];rfl,q⟩
def cu{f:bp}{Q:Bool->aF->Prop}(h:E f Γ S λd a=>match d with|.bl k=>Q k a|_=>False):E (aP f) Γ S Q:=by
 obtain⟨d,a,b,q⟩:=h
 cases d with
 |bl k=>exact⟨k,a,by unfold aP;rw[b];rfl,q⟩
 |_=>exact q.elim
def zq{f:bp}{Q:Bool->aF->Prop}(h:E f Γ S λd a=>Op (BH a d) λk=>Q k a):E (kL f) Γ S Q:=by
 obtain⟨d,a,c,k,b,q⟩:=h
 exact⟨k,a,by unfold kL;rw[c];simp only[Qbq];rw[b];rfl,q⟩
def x8{f:iG}{Q:Bool->aF->Prop}(h:E f Γ S λk a=>Q (!k) a):E (x9 f) Γ S Q:=by
 obtain⟨k,a,b,q⟩:=h
 exact⟨_,a,by unfold x9;rw[b];rfl,q⟩
def qh{f g:iG}{Q:Bool->aF->Prop}(h:E f Γ S λk a=>if k=true then E g Γ a Q else Q false a):E (jl f g) Γ S Q:=by
 obtain⟨k,a,b,q⟩:=h
 cases k with
 |true=>obtain⟨j,d,c,q⟩:=(q:E g Γ a Q);exact⟨j,d,by unfold jl;rw[b];exact c,q⟩
 |false=>exact⟨false,a,by unfold jl;rw[b];rfl,q⟩
def Co{f g:iG}{Q:Bool->aF->Prop}(h:E f Γ S λk a=>if k=true then Q true a else E g Γ a Q):E (Hy f g) Γ S Q:=by
 obtain⟨k,a,b,q⟩:=h
 cases k with
 |true=>exact⟨true,a,by unfold Hy;rw[b];rfl,q⟩
 |false=>obtain⟨j,d,c,q⟩:=(q:E g Γ a Q);exact⟨j,d,by unfold Hy;rw[b];exact c,q⟩
def OM{c:iG}{f g:bp}{Q:D->aF->Prop}(h:E c Γ S λk a=>if k=true then E f Γ a Q else E g Γ a Q):E (wZ c f g) Γ S Q:=by
 obtain⟨k,a,e,q⟩:=h
 cases k with
 |true=>obtain⟨j,d,b,q⟩:=(q:E f Γ a Q);exact⟨j,d,by unfold wZ;rw[e];exact b,q⟩
 |false=>obtain⟨j,d,b,q⟩:=(q:E g Γ a Q);exact⟨j,d,by unfold wZ;rw[e];exact b,q⟩
def bO{i:Nat}{f:bp}{Q:Out->Prop}(h:E f Γ S λd a=>Q (.nx (Γ.set i (some d)) a)):T (aX i f) Γ S Q:=by
 obtain⟨d,a,b,q⟩:=h
 exact⟨_,by unfold aX;rw[b];rfl,q⟩
def cZ{f:bp}{Q:Out->Prop}(h:E f Γ S λd a=>Q (.rt d a)):T (cp f) Γ S Q:=by
 obtain⟨d,a,b,q⟩:=h
 exact⟨_,by unfold cp;rw[b];rfl,q⟩
def Ou{f:fK}{Q:Out->Prop}(h:E f Γ S λd a=>Q (.rl d a)):T (Jc f) Γ S Q:=by
 obtain⟨d,a,b,q⟩:=h
 exact⟨_,by unfold Jc;rw[b];rfl,q⟩
def mN{f:bp}{Q:Out->Prop}(h:E f Γ S λd a=>Q (.nx Γ a)):T (sZ f) Γ S Q:=by
 obtain⟨d,a,b,q⟩:=h
 exact⟨_,by unfold sZ;rw[b];rfl,q⟩
def cB{Q:Out->Prop}(q:Q (.nx Γ S)):T fJ Γ S Q:=⟨_,rfl,q⟩
def Fl{f:bp}{g:mB}{Q:Out->Prop}(h:E f Γ S λd b=>Tg g d Γ b λa S2=>Q (.nx a S2)):T (oD f g) Γ S Q:=by
 obtain⟨d,b,e,a,S2,c,q⟩:=h
 exact⟨_,by unfold oD;rw[e];simp only[Qbq];rw[c];rfl,q⟩
def aH{f g:cI}{Q:Out->Prop}(h:T f Γ S λo=>match o with|.nx a b=>T g a b Q|o=>Q o):T (aE f g) Γ S Q:=by
 obtain⟨o,c,q⟩:=h
 cases o with
 |nx a b=>obtain⟨o,d,q⟩:=(q:T g a b Q);exact⟨o,by unfold aE;rw[c];exact d,q⟩
 |_=>exact⟨_,by unfold aE;rw[c];rfl,q⟩
def ed{c:iG}{f g:cI}{Q:Out->Prop}(h:E c Γ S λk a=>if k=true then T f Γ a Q else T g Γ a Q):T (fj c f g) Γ S Q:=by
 obtain⟨k,a,d,q⟩:=h
 cases k with
 |true=>obtain⟨j,b,q⟩:=(q:T f Γ a Q);exact⟨j,by unfold fj;rw[d];exact b,q⟩
 |false=>obtain⟨j,b,q⟩:=(q:T g Γ a Q);exact⟨j,by unfold fj;rw[d];exact b,q⟩
def aV{i:Nat}{d:D}{Q:cq->aF->Prop}(q:Q (Γ.set i (some d)) S):Tg (bF i) d Γ S Q:=⟨_,_,rfl,q⟩
def Pw{f g:bp}{d:D}{Q:cq->aF->Prop}(h:E f Γ S λx a=>E g Γ a λy S2=>∃k i ds j,x=.ref k/\y=.int i/\S2[k]?=some (.lst ds)/\GA ds.length i=some j/\Q Γ (S2.set k (.lst (ds.set j d)))):Tg (Jw f g) d Γ S Q:=by
 obtain⟨x,a,c,y,S2,b,k,i,ds,j,rfl,rfl,h1,h2,q⟩:=h
 exact⟨_,_,by unfold Jw;rw[c];simp only[Qbq];rw[b];simp only[Qbq,h1,h2],q⟩
def fU{i:uN}{g:mB}{b:cI}{Q:Out->Prop} (h:E i Γ S λp v=>∃I:Nat->cq->aF->Prop,I 0 Γ v/\(∀n a e,I n a e->p.2 e)∧
   (∀(n:Nat) (d:D) (a:cq) (e:aF),p.1[n]?=some d->I n a e->Tg g d a e λl S2=>T b l S2 λo=>match o with|.nx c f=>I (n+1) c f|.ct c f=>I (n+1) c f|.bk c f=>Q (.nx c f)|o=>Q o)∧
   ∀a e,I p.1.length a e->Q (.nx a e)):T (iu i g b) Γ S Q:=by
 obtain⟨⟨r,W⟩,v,A,I,C,y,j,m⟩:=h
 have z:∀(k n:Nat) (a:cq) (e:aF),n+k=r.length->I n a e->∃o,forL g b W (r.drop n) a e=some o/\Q o:=by
  intro k
  induction k with
  | zero=>
    intro n a e w t
    rw[List.drop_of_length_le (by omega)]
    refine⟨.nx a e,by simp only[forL];rw[Qhq (y _ _ _ t)],m _ _ (by rw[←w];exact t)⟩
  | succ k x=>
    intro n a e w t
    have s:n<r.length:=by omega
    rw[QWq s]
    obtain⟨l,S2,u,o,B,q⟩:=j n r[n] a e (gQe s) t
    simp only[forL]
    rw[Qhq (y _ _ _ t),u]
    simp only[Qbq]
    rw[B]
    simp only[Qbq]
    cases o with
    |nx c f=>exact x (n+1) c f (by omega) q
    |ct c f=>exact x (n+1) c f (by omega) q
    |bk c f=>exact⟨_,rfl,q⟩
    |rt d f=>exact⟨_,rfl,q⟩
    |rl d f=>exact⟨_,rfl,q⟩
 obtain⟨o,u,q⟩:=z r.length 0 Γ v (by omega) C
 exact⟨o,by unfold iu;rw[A];exact u,q⟩
def gM{js:List (Option Nat)}{i:uN}{g:mB}{t:iG}{f:bp}{Q:List D->aF->Prop} (h:E i Γ S λp A=>∃I:Nat->cq->aF->List D->Prop,I 0 (nF js Γ) A []/\(∀n b e a,I n b e a->p.2 e)∧
   (∀(n:Nat) (d:D) (b:cq) (e:aF) (a:List D),p.1[n]?=some d->I n b e a->Tg g d b e λj S2=>E t j S2 λk w=>if k=true then E f j w λy z=>a.length<sizeLine/\I (n+1) j z (a++ [y]) else I (n+1) j w a)∧
   ∀b e a,I p.1.length b e a->Q a e):E (bD js i g t f) Γ S Q:=by
 obtain⟨⟨s,W⟩,A,J,I,L,F,m,o⟩:=h
 have G:∀(k n:Nat) (b:cq) (e:aF) (a:List D),n+k=s.length->I n b e a->∃r l,mW g t f W (s.drop n) b e a=some (r,l)/\Q r l:=by
  intro k
  induction k with
  | zero=>
    intro n b e a B v
    rw[List.drop_of_length_le (by omega)]
    refine⟨a,e,by simp only[mW];rw[Qhq (F _ _ _ _ v)],o _ _ _ (by rw[←B];exact v)⟩
  | succ k C=>
    intro n b e a B v
    have u:n<s.length:=by omega
    rw[QWq u]
    obtain⟨j,S2,x,c,w,K,q⟩:=m n s[n] b e a (gQe u) v
    simp only[mW]
    rw[Qhq (F _ _ _ _ v),x]
    simp only[Qbq]
    rw[K]
    simp only[Qbq]
    cases c with
    | true=>
      rw[Qhq rfl] at q⊢
      obtain⟨y,z,H,hl,q⟩:=q
      rw[H]
      simp only[Qbq]
      rw[Qhq hl]
      exact C (n+1) j z _ (by omega) q
    | false=>
      rw[Quq (by decide)] at q⊢
      exact C (n+1) j w _ (by omega) q
 obtain⟨r,l,x,q⟩:=G s.length 0 _ A [] (by omega) L
 exact⟨r,l,by unfold bD;rw[J];exact x,q⟩
def gV{f:bp}{Q:(List D×(aF->Prop))->aF->Prop}(h:E f Γ S λd a=>∃j,d=.int j/\(-(2^62)<=j/\j<2^62)/\Q (iE 0 j,λ_=>True) a):E (ia f) Γ S Q:=by
 obtain⟨d,a,b,j,rfl,hj,q⟩:=h
 exact⟨_,a,by unfold ia;rw[b];simp only[Qbq];rw[Qhq hj],q⟩
def k9{f:dQ}{Q:(List D×(aF->Prop))->aF->Prop}(h:E f Γ S λp a=>Q (p.1,λb=>p.2.stays b p.1) a):E (jq f) Γ S Q:=by
 obtain⟨p,a,c,q⟩:=h
 exact⟨_,a,by unfold jq;rw[c];rfl,q⟩
def xw{m:List D->List D->Option (List D×D)}{f:bp}{g:fK}{Q:D->aF->Prop}(h:E f Γ S λx b=>∃k a,x=.ref k/\b[k]?=some (.lst a)/\E g Γ b λys S2=>∃ds,S2[k]?=some (.lst ds)/\Op (m ds ys) λp=>Q p.2 (S2.set k (.lst p.1))):E (As m f g) Γ S Q:=by
 obtain⟨x,b,c,k,a,rfl,h1,ys,S2,e2,ds,h2,p,e3,q⟩:=h
 exact⟨_,_,by unfold As;rw[c];simp only[Qbq,e2,h1,h2,e3],q⟩
end
def bQ{n:Nat}{b:cI}{ds:List D}{S:aF}{Q:Res->aF->Prop} (h:T b (ds.map some++List.replicate (n-ds.length) none) S λo=>match o with
   |.nx _ a=>Op (settle S .non a) λp=>Q p.1 p.2|.rt d a=>Op (settle S d a) λp=>Q p.1 p.2|.rl l a=>Op (fm S l a) λp=>Q p.1 p.2|_=>False):Fn (eW n b) ds S Q:=by
 obtain⟨o,f,q⟩:=h
 cases o with
 |nx g a=>obtain⟨⟨r,e⟩,c,q⟩:=q;exact⟨r,e,by unfold eW;rw[f];exact c,q⟩
 |rt d a=>obtain⟨⟨r,e⟩,c,q⟩:=q;exact⟨r,e,by unfold eW;rw[f];exact c,q⟩
 |rl d a=>obtain⟨⟨r,e⟩,c,q⟩:=q;exact⟨r,e,by unfold eW;rw[f];exact c,q⟩
 |bk=>exact q.elim
 |ct=>exact q.elim
def hJ{S a S2:aF}{d:D}{Q:Res×aF->Prop}(b:oV S a)(ht:a.take S.length=S2)(hd:∀k,d≠.ref k)(hl:cf S.length d=true)(q:Q (.d d,S2)):Op (settle S d a) Q:=by
 refine⟨_,?_,q⟩
 unfold settle
 rw[Qhq b,ht]
 cases d with
 |ref k=>exact absurd rfl (hd k)
 |_=>simp only[hl,if_true]
def nX{S a S2:aF}{ds:List D}{Q:Res×aF->Prop}(b:oV S a)(ht:a.take S.length=S2)(hl:bT S.length ds=true)(q:Q (.l ds,S2)):Op (fm S ds a) Q:=by
 refine⟨_,?_,q⟩
 unfold fm
 rw[Qhq ⟨b,hl⟩,ht]
def ue{S:aF}:oV S S:=⟨Qmq _,λk o _ h=>.inl h⟩
def vH{S:aF}{k:Nat}{o:O}(h:G8 S.length o=true):oV S (S.set k o):=by
 refine⟨by simp,λj u _ e=> ?_⟩
 rw[List.getElem?_set] at e
 split at e
 ·split at e
  ·cases e;exact .inr h
  ·cases e
 ·exact .inl e
end DL
namespace L2
open PySem PySem.Spec PyProof.Rows
end L2
namespace DL
open PySem PySem.Spec L2
end DL
namespace L2
open PySem PySem.Spec PyProof.Rows
end L2
namespace DL
open PySem PySem.Spec PyProof.Rows L2
end DL
namespace L2
open PySem PySem.Spec PyProof.Rows
end L2
namespace DL
open PySem PySem.Spec PyProof.Rows L2
end DL
namespace DL
open PySem PySem.Spec L2
mutual
noncomputable def nZ:D->Option PyData
 |.non=>some .none
 |.bl b=>some (.bool b)
 |.int i=>some (.int i)
 |.str x=>if PyData.strOk x=true then some (.str x) else none
 |.tup a=>(jD a).map .tuple
 |.ref _=>none
 |.fn _=>none
noncomputable def jD:List D->Option (List PyData)
 | []=>some []
 |d::ds=>(nZ d).bind λp=>(jD ds).map (p::·)
end
mutual
theorem lC:∀{d:D} {p:PyData},nZ d=some p->p.canLay0=true
 |.non,_,e=>by cases e;rfl
 |.bl _,_,e=>by cases e;rfl
 |.int _,_,e=>by cases e;rfl
 | .str x,_,e=>by
   simp only[nZ] at e
   split at e
   · rename_i c;cases e;exact c
   · cases e
 | .tup ds,_,e=>by
   simp only[nZ] at e
   obtain⟨b,a,rfl⟩:=oQm.mp e
   exact pV a
 |.ref _,_,e=>by cases e
 |.fn _,_,e=>by cases e
theorem pV:∀{ds:List D} {ps:List PyData},jD ds=some ps->PyData.canLayAll0 ps=true
 | [],_,e=>by cases e;rfl
 | d::ds,_,e=>by
   simp only[jD] at e
   obtain⟨p,b,e⟩:=aq e
   obtain⟨ps,a,rfl⟩:=oQm.mp e
   simp only[PyData.canLayAll0,QCq]
   exact⟨lC b,pV a⟩
end
mutual
theorem xi{M:Md}{ρ:List Addr}{H:Hp}:∀{d:D} {p:PyData} {v:V},Rel M ρ H d v->nZ d=some p->qE (λ_=>False) H p v
 |.non,_,_,.non,e=>by cases e;exact .non
 |.bl _,_,_,.bl _,e=>by cases e;exact .bl _
 |.int _,_,_,.int _,e=>by cases e;exact .int _
 | .str _,_,_,.str _,e=>by
   simp only[nZ] at e
   split at e
   · cases e;exact .str _
   · cases e
 | .tup ds,_,_,.tup h hs,e=>by
   simp only[nZ] at e
   obtain⟨b,a,rfl⟩:=oQm.mp e
   exact .tup h (wq hs a)
 |.ref _,_,_,_,e=>by cases e
 |.fn _,_,_,_,e=>by cases e
theorem wq{M:Md}{ρ:List Addr}{H:Hp}:∀{ds:List D} {ps:List PyData} {vs:List V},bf M ρ H ds vs->jD ds=some ps->qS (λ_=>False) H ps vs
 | [],_,_,.nil,e=>by cases e;exact .nil
 | d::ds,_,_,.cons h hs,e=>by
   simp only[jD] at e
   obtain⟨p,b,e⟩:=aq e
   obtain⟨ps,a,rfl⟩:=oQm.mp e
   exact .cons (xi h b) (wq hs a)
end
end DL
namespace L2
open PySem PySem.Spec
section
variable{X:Cx}
def Lq(a:Bool):R2:=λx y H Q=>∃p q,qE (λ_=>False) H p x/\qE (λ_=>False) H q y/\p.canLay0=true/\q.canLay0=true/\p.depth<=60/\Q (.bl (if a then !PyData.eqv p q else PyData.eqv p q)) H
def JN(m:X.A.units+64<cLine):je X (compareOp .NotEq) (Lq true):=by
 rintro b s n H x y v u Q I d i ⟨p,q,e,k,f,g,o,h⟩
 obtain⟨l,j,_⟩:=pO I (λa z=>z.elim) e d
 obtain⟨r,c,_⟩:=pO I (λa z=>z.elim) k i
 exact SeqAt.neOverData _ _ _ _ _ _ _ _ _ _ _ _ j c f g (by omega) ⟨.bl _,H,I,rfl,h⟩
def LO(K:PySem.W.Frag)(d:Bool):R2:=λx y H Q=>∃p a c b,y=.ref a/\(iC K H a c\/gH K H a c)/\qE (λ_=>False) H p x/\qS (λ_=>False) H b c/\p.canLay0=true/\PyData.canLayAll0 b=true/\p.depth<=60/\Q (.bl (if d then !b.any (PyData.eqv · p) else b.any (PyData.eqv · p))) H
def Le(s:Shared)(p:PyData)(u:Value):Bool:= @decide (∃d a,d.canLay0=true/\Reads s.heap u d a/\PyData.eqv d p=true) (Classical.propDecidable _)
def Gy{s:Shared}{p d:PyData}{u:Value}{as:List Addr}(l:d.canLay0=true)(r:Reads s.heap u d as):Le s p u=PyData.eqv d p:=by
 unfold Le
 cases h:PyData.eqv d p with
 |true=>exact @Qeq _ (Classical.propDecidable _) ⟨d,as,l,r,h⟩
 | false=>
   refine @Qdq _ (Classical.propDecidable _) ?_
   rintro⟨e,a,f,c,b⟩
   rw[SeqAt.Reads.unique d e u as a l r c] at h
   rw[h] at b
   cases b
theorem p9{s:Shared}{p:PyData}:∀{c:List Value} {ps:List PyData} {as:List Addr},ReadsAll s.heap c ps as->PyData.canLayAll0 ps=true->c.any (Le s p)=ps.any (PyData.eqv · p)/\∀u∈c,∃d as,d.canLay0=true/\Reads s.heap u d as
 |_,_,_,.nil,_=>⟨rfl,λu a=>by cases a⟩
 | _,d::ps,_,.cons r rs,l=>by
   have b:d.canLay0=true/\PyData.canLayAll0 ps=true:=by simpa [PyData.canLayAll0] using l
   obtain⟨f,e⟩:=p9 (p:=p) rs b.2
   refine⟨by rw[List.any_cons,List.any_cons,f,Gy b.1 r],λu a=> ?_⟩
   rcases Qsq.mp a with rfl|a
   · exact⟨_,_,b.1,r⟩
   · exact e u a
def Ef{A:Around}{s:Shared}{p:PyData}{v:Value}{bs:List Addr}(c:A.units+63<cLine)(b:Reads s.heap v p bs)(lp:p.canLay0=true)(hd:p.depth<=60){u:Value}(h:∃d as,d.canLay0=true/\Reads s.heap u d as):SeqAt.EqAt A s u v (Le s p u):=by
 obtain⟨d,as,l,r⟩:=h
 rw[Gy l r]
 intro a w E Q q
 exact SeqAt.eqBoolOverData a w A E s _ _ _ _ _ _ Q r b l lp (by omega) q
def JO(L:X.A.units+64<cLine):je X (compareOp .In) (LO X.K false):=by
 rintro n s M H x y v u Q I B J ⟨p,a,N,P,G,c,C,d,q,e,o,h⟩
 subst G
 cases J
 obtain⟨R,m,_⟩:=pO I (λa z=>z.elim) C B
 have b:X.A.in1.units+63<cLine:=by show X.A.units+1+63<cLine;omega
 rcases c with c|c
 ·obtain⟨j,r,l,F⟩:=I.list c
  obtain⟨t,k,_⟩:=jo I (λa z=>z.elim) d r
  obtain⟨g,f⟩:=p9 (p:=p) k e
  refine SeqAt.in_listAt (Le s p) l.isList (λw i=>Ef b m q o (f w (by simpa using i))) ⟨.bl _,H,I,rfl,?_⟩
  rw[List.any_toArray,g]
  exact h
 ·obtain⟨j,r,l,F⟩:=I.tuple c
  obtain⟨t,k,_⟩:=jo I (λa z=>z.elim) d r
  obtain⟨g,f⟩:=p9 (p:=p) k e
  refine SeqAt.in_tupleAt (Le s p) l (λw i=>Ef b m q o (f w (by simpa using i))) ⟨.bl _,H,I,rfl,?_⟩
  rw[List.any_toArray,g]
  exact h
end
end L2
namespace DL
open PySem PySem.Spec L2
section
variable{X:Cx}{a b e:Expr}{pos:Pos}
noncomputable def NA(c:Bool):rZ:=λ_ x y=>(nZ x).bind λp=>(nZ y).bind λq=>if p.depth<=60 then some (.bl (if c then !PyData.eqv p q else PyData.eqv p q)) else none
def Je{M:Md}{f:Bool}:kz M (Lq f) (NA f):=by
 intro m S H x y d u v Q k j l e q
 unfold NA at e
 obtain⟨p,h,e⟩:=aq e
 obtain⟨i,g,e⟩:=aq e
 split at e
 ·rename_i c
  cases e
  exact⟨p,i,xi j h,xi l g,lC h,lC g,c,q _ _ bX.refl k (.bl _)⟩
 ·cases e
def MM{f g:bp}{k:Nat}(h:eQ k X.A)(c:PE X a (tD (md X) f))(d:PE X b (tD (md X) g)):PT X (.Compare a [.NotEq] [b] pos) (tB (md X) (aP (a_ (NA true) f g))):=hV (JN h.units) Je c d (d_ _)
noncomputable def LI(c:Bool)(f:bp)(g:dQ):bp:=λh S=>(f h S).bind λ(x,j)=>(g h j).bind λ(p,i)=>(nZ x).bind λv=>(jD p.1).bind λd=>if v.depth<=60 then some (.bl (if c then !d.any (PyData.eqv · v) else d.any (PyData.eqv · v)),i) else none
def Ls{h:Bool}{f:bp}{g:dQ}:∀i H Q,tD (md X) (LI h f g) i H Q->GC (LO X.K h) (tD (md X) f) (tQ (md X) g) i H Q:=λi H Q J=>by
 obtain⟨y,m,S,d,N,ok,e,q⟩:=J
 obtain⟨⟨x,n⟩,I,e⟩:=aq e
 obtain⟨⟨⟨C,t⟩,L⟩,w,e⟩:=aq e
 obtain⟨v,r,e⟩:=aq e
 obtain⟨F,o,e⟩:=aq e
 split at e
 ·rename_i c
  obtain⟨rfl,rfl⟩:=cc e
  refine⟨y,m,S,x,n,ok,I,λk u H1 p j A=>⟨k,m,n,C,t,L,ok.to p j,w,λG a B H2 s l z M=> ?_⟩⟩
  exact⟨v,a,B,F,rfl,z.sq,xi (A.ext s) r,wq M o,lC r,pV o,c,q _ _ _ (p.trans s) l (.bl _)⟩
 ·cases e
def LR{f:bp}{g:dQ}{k:Nat}(i:eQ k X.A)(d:PE X a (tD (md X) f))(h:PE X b (tQ (md X) g))(c:behindInMarks .In b=false:=by rfl):PE X (.Compare a [.In] [b] pos) (tD (md X) (LI false f g)):=jQ (B8 (JO i.units) d h c) Ls
end
end DL
namespace DL
open PySem PySem.Spec PyProof.Rows L2
def jJ:fillsNumberSlot (.type "tuple") "mul"=pure false:=
 PySem.fillsNumberSlot_seq (id:="tuple.__mul__") (r:=some (.builtin "tuple.__rmul__")) PySem.F.slot_tuple_mul.lookup (by decide +kernel) PySem.F.slot_tuple_rmul.lookup (by decide +kernel)
def o7:seqRepeat? (.type "tuple")=pure (some (.builtin "tuple.__mul__")):=by
 unfold seqRepeat?
 rw[PySem.seqSlot_of (T:="tuple") (name:="__mul__") (id:="tuple.__mul__") PySem.F.slot_tuple_mul.lookup (by decide +kernel),PySem.seqSlot_of (T:="tuple") (name:="__rmul__") (id:="tuple.__rmul__") PySem.F.slot_tuple_rmul.lookup (by decide +kernel)]
 rfl
def sH(a:Int)(t:Tok)(l:Addr)(items:Array Value)(n:Nat)(e:Option Addr)(c:Array (Option Value)):
  Meets (Builtin.«int.__rmul__» ⟨[.int a t,.ref l],[]⟩) (λ_ R s=>s.heap.get? l=some {cls:=.type "tuple",dict:=e,data:=.seq items n,slots:=c}/\R (.ok (.ret Value.notImplemented)) s):=
 .of_wp λb w A R s h=>by obtain⟨f,g,d,i,j⟩:=s;obtain⟨hl,h⟩:=h;wp_walk;exact⟨_,rfl,h⟩
def DJ(l:Addr)(items:Array Value)(n:Nat)(v:Option Addr)(k:Array (Option Value))(x:Int)(u:Tok)(y:2<=x)(G:x<2^63)(a:¬items.isEmpty=true)(hsz:items.size*x.toNat<=sizeLine):
  Meets (Builtin.«tuple.__mul__» ⟨[.ref l,.int x u],[]⟩) (λ_ R s=>s.heap.get? l=some {cls:=.type "tuple",dict:=v,data:=.seq items n,slots:=k}/\R (.ok (.ret (Value.ref s.heap.objs.size))) {s with heap:=s.heap.push {cls:=Value.type "tuple",data:=Data.seq (List.foldl (λc e=>c++e) #[] (List.replicate x.toNat items))},toks:=s.toks}):=
 .of_wp λf w A R s h=>by
  obtain⟨z,g,d,B,F⟩:=s;obtain⟨hl,h⟩:=h
  have C:=AutoSeq1.idx_int
  have j:(sizeLine:Nat)=16777216:=by decide
  have i:((items.size:Int)*x)=((items.size*x.toNat:Nat):Int):=by rw[Int.natCast_mul,Int.toNat_of_nonneg (by omega)]
  have r:items.size*x.toNat<=16777216:=by omega
  have o:¬(decide (x< -2^63)||decide (x>=2^63))=true:=by simp;omega
  have p:¬(items.isEmpty||x==1)=true:=by simp at a⊢;exact⟨a,by omega⟩
  have t:¬(decide (x<=0)||items.isEmpty)=true:=by simp at a⊢;exact⟨by omega,a⟩
  have m:¬((items.size:Int)*x>(2^63-1)/8):=by rw[i];omega
  have q:¬Builtin.Tuple.tupleTooMany ((items.size:Int)*x)=true:=by rw[i];unfold Builtin.Tuple.tupleTooMany;rw[Qdq (by rw[j];omega)];decide
  have b:(List.foldl (λc e=>c++e) #[] (List.replicate x.toNat items)).size<=sizeLine:=by rw[AutoListH.size_joined,j,Nat.mul_comm];simpa using r
  wp_walk using wpAny_loadPart' hl
  refine QgQ (Qdq o) ?_
  wp_walk using wpAny_loadPart' hl
  refine QgQ (Qdq p) ?_
  wp_walk using wpAny_loadPart' hl
  refine QgQ (Qdq t) ?_
  wp_walk using wpAny_loadPart' hl
  refine QgQ (Qdq m) ?_
  wp_walk using wpAny_loadPart' hl
  refine QgQ (Qdq q) ?_
  wp_walk using wpAny_loadPart' hl
  refine QgQ (Qdq (Nat.not_lt.mpr b)) ?_
  wp_walk
  exact⟨_,rfl,h⟩
section
variable{X:Cx}{a b:Expr}{pos:Pos}
def IH(K:PySem.W.Frag):R2:=λx y H Q=>∃a k c,x=.ref a/\y=.int k/\gH K H a c/\c≠[]/\2<=k/\k<2^63/\c.length*k.toNat<=sizeLine/\∀p,H p=none->Q (.ref p) (upd H p (.tup (List.replicate k.toNat c).flatten))
def Iy:je X (binaryOp .Mult) (IH X.K):=by
 intro j s P H x y v u Q I A M h
 obtain⟨l,k,C,rfl,rfl,ha,hx,h1,h2,hz,q⟩:=h
 cases A
 obtain⟨t,rfl⟩:=M
 obtain⟨c,f,B,_⟩:=I.tuple ha
 obtain⟨⟨G,w,r,i⟩,e,m,n,p⟩:=id B
 simp only at m p
 subst m p
 have g:c.toArray.size*k.toNat<=sizeLine:=by rw[Qjq,←f.length];exact hz
 have d:List.foldl (λL N=>L++N) #[] (List.replicate k.toNat c.toArray)=(List.replicate k.toNat c).flatten.toArray:=by
  have:=foldl_rep c k.toNat []
  rw[List.nil_append] at this
  exact this
 refine wpAny_binaryOp_repeat_ref (T:="tuple") (U:="int") (by decide) ⟨_,e,rfl⟩ (λJ=>typeIs_int J k t) jJ F.fills_int_mul F.slot_int_rmul o7 F.slot_int_index.lookup
  (call_meets F.slot_int_rmul (typeIs_int s k t) F.entry_int_rmul (F.args_int_rmul_2 _ _) (sH k t l c.toArray n w i)
   ⟨e,rfl,⟨_,e,rfl⟩,call_meets F.slot_tuple_mul ⟨_,e,rfl⟩ F.entry_tuple_mul (F.args_tuple_mul_2 _ _) (DJ l c.toArray n w i k t h1 h2 (λz=>hx (f.nil_iff.mp (by simpa using z))) g) ⟨e,?_⟩⟩)
 rw[d]
 refine⟨.ref s.heap.objs.size,_,I.laid (t':=s.toks) (o:=.tup (List.replicate k.toNat C).flatten) (λb R q=>Qcq _ q) (Qmq _) ?_,rfl,q _ (I.hok.fresh (Qmq _))⟩
 exact⟨by rw[len_rep,Nat.mul_comm];exact hz,_,f.rep k.toNat,ve.new _ _⟩
end
def BD(l:Addr)(items:Array Value)(n:Nat)(c:Option Addr)(b:Array (Option Value))(u:Tok):
  Meets (Builtin.«tuple.__mul__» ⟨[.ref l,.int 1 u],[]⟩) (λ_ R s=>s.heap.get? l=some {cls:=.type "tuple",dict:=c,data:=.seq items n,slots:=b}/\R (.ok (.ret (Value.ref l))) s):=
 .of_wp λa w A R s h=>by
  obtain⟨e,g,d,f,m⟩:=s;obtain⟨hl,h⟩:=h
  have k:=AutoSeq1.idx_int
  have i:¬(decide ((1:Int)< -2^63)||decide ((1:Int)>=2^63))=true:=by decide
  have j:(items.isEmpty||(1:Int)==1)=true:=by simp
  wp_walk using wpAny_loadPart' hl
  exact⟨_,rfl,h⟩
def AA(l:Addr)(items:Array Value)(n:Nat)(e:Option Addr)(c:Array (Option Value))(u:Tok)(a:¬items.isEmpty=true):
  Meets (Builtin.«tuple.__mul__» ⟨[.ref l,.int 0 u],[]⟩) (λ_ R s=>s.heap.get? l=some {cls:=.type "tuple",dict:=e,data:=.seq items n,slots:=c}/\R (.ok (.ret (Value.ref s.heap.objs.size))) {s with heap:=s.heap.push {cls:=Value.type "tuple",data:=Data.seq #[]},toks:=s.toks}):=
 .of_wp λb w A R s h=>by
  obtain⟨f,g,d,i,o⟩:=s;obtain⟨hl,h⟩:=h
  have m:=AutoSeq1.idx_int
  have j:¬(decide ((0:Int)< -2^63)||decide ((0:Int)>=2^63))=true:=by decide
  have k:¬(items.isEmpty||(0:Int)==1)=true:=by simpa using a
  have p:(decide ((0:Int)<=0)||items.isEmpty)=true:=by simp
  wp_walk using wpAny_loadPart' hl
  exact⟨_,rfl,h⟩
section
variable{X:Cx}{a b:Expr}{pos:Pos}
def IL(K:PySem.W.Frag):R2:=λx y H Q=>∃a k c,x=.ref a/\y=.int k/\gH K H a c/\c≠[]/\((k=1/\Q (.ref a) H)\/(k=0/\∀p,H p=none->Q (.ref p) (upd H p (.tup []))))
def G5:je X (binaryOp .Mult) (IL X.K):=by
 intro i s J H x y v u Q I r G h
 obtain⟨l,k,M,rfl,rfl,ha,hx,h⟩:=h
 cases r
 obtain⟨t,rfl⟩:=G
 obtain⟨c,w,A,_⟩:=I.tuple ha
 obtain⟨⟨B,g,p,e⟩,d,j,n,m⟩:=id A
 simp only at j m
 subst j m
 have f:¬c.toArray.isEmpty=true:=λz=>hx (w.nil_iff.mp (by simpa using z))
 refine wpAny_binaryOp_repeat_ref (T:="tuple") (U:="int") (by decide) ⟨_,d,rfl⟩ (λC=>typeIs_int C k t) jJ F.fills_int_mul F.slot_int_rmul o7 F.slot_int_index.lookup
  (call_meets F.slot_int_rmul (typeIs_int s k t) F.entry_int_rmul (F.args_int_rmul_2 _ _) (sH k t l c.toArray n g e) ⟨d,rfl,⟨_,d,rfl⟩,?_⟩)
 rcases h with⟨rfl,q⟩|⟨rfl,q⟩
 ·exact call_meets F.slot_tuple_mul ⟨_,d,rfl⟩ F.entry_tuple_mul (F.args_tuple_mul_2 _ _) (BD l c.toArray n g e t) ⟨d,.ref l,H,I,rfl,q⟩
 ·refine call_meets F.slot_tuple_mul ⟨_,d,rfl⟩ F.entry_tuple_mul (F.args_tuple_mul_2 _ _) (AA l c.toArray n g e t f) ⟨d,?_⟩
  refine⟨.ref s.heap.objs.size,_,I.laid (t':=s.toks) (o:=.tup []) (λb L q=>Qcq _ q) (Qmq _) ?_,rfl,q _ (I.hok.fresh (Qmq _))⟩
  exact⟨Nat.zero_le _,_,.nil,ve.new _ _⟩
noncomputable def yR:rZ:=λ_ x y=>match x,y with
 |.tup i,.int k=>if 0<=k/\k<2^63/\i≠[]/\i.length*k.toNat<=sizeLine then some (.tup (List.replicate k.toNat i).flatten) else none
 |_,_=>none
def Iu{M:Md}:kz M (λx y H Q=>IH M.K x y H Q\/IL M.K x y H Q) yR:=by
 intro n S H x y d u v Q i j m e q
 cases j with
 | tup h g=>
   cases m with
   | int k=>
     simp only[yR] at e
     split at e <;>cases e
     rename_i hl
     have f:=λz=>hl.2.2.1 (List.length_eq_zero_iff.mp (g.length.trans (List.length_eq_zero_iff.mpr z)))
     by_cases l:2<=k
     · exact .inl ⟨_,k,_,rfl,rfl,gH.of h,f,l,hl.2.1,by rw[←g.length];exact hl.2.2.2,λp c=>q _ _ (bX.laid c) (i.lay c) (.tup bC ((g.rep _).ext (bX.laid c)))⟩
     · refine .inr ⟨_,k,_,rfl,rfl,gH.of h,f,?_⟩
       rcases(by omega:k=1\/k=0) with rfl|rfl
       · refine .inl ⟨rfl,q _ _ bX.refl i ?_⟩
         rw[show(List.replicate (1:Int).toNat _).flatten=_ from List.append_nil _]
         exact .tup h g
       · exact .inr ⟨rfl,λp c=>q _ _ (bX.laid c) (i.lay c) (.tup bC .nil)⟩
   |_=>simp only[yR,reduceCtorEq] at e
 |_=>simp only[yR,reduceCtorEq] at e
def K1{f g:bp}(c:PE X a (tD (md X) f))(d:PE X b (tD (md X) g)):PE X (.BinOp a .Mult b pos) (tD (md X) (a_ yR f g)):=pJ Iu (pR (Iy.or G5) c d)
end
end DL
namespace L2
open PySem PySem.Spec PyProof.Rows
end L2
namespace DL
open PySem PySem.Spec L2
end DL
namespace L2
open PySem PySem.Spec
end L2
namespace DL
open PySem PySem.Spec L2
end DL
namespace L2
open PySem PySem.Spec PyProof.Rows
section
variable{X:Cx}{pos:Pos}
def IU(i j l:Nat)(c:TA):TS:=λD a H=>c a H λb H1=>∃v w z,b= [v,w,z]/\D.nx (((a.set i (some v)).set j (some w)).set l (some z)) H1
def GN{i j l:Nat}{x y z:Str}{a b c:Expr}{P:TA}{F G M u:Pos}{kt k2 pt2}(hc:X.calm=true)(J:X.N.Nodup)(hi:X.N[i]?=some x)(hj:X.N[j]?=some y)(hl:X.N[l]?=some z)(L:i≠j)(K:i≠l)(C:j≠l)
  (S:X.env.scope.names.lookup x=some .local) (R:X.env.scope.names.lookup y=some .local) (hz:X.env.scope.names.lookup z=some .local) (ha:PA X [a,b,c] P)
  (Y:swappedStores [.Tuple [.Name x F,.Name y G,.Name z M] kt u] (.Tuple [a,b,c] k2 pt2) X.env=pure (some [x,y,z]))
  (hs:swapsWithSole [.Tuple [.Name x F,.Name y G,.Name z M] kt u] (.Tuple [a,b,c] k2 pt2) pos.line X.env=pure false:=by rfl):
  PS X (.Assign [.Tuple [.Name x F,.Name y G,.Name z M] kt u] (.Tuple [a,b,c] k2 pt2) pos) (IU i j l P):=by
 intro d s n H D I h
 rw[exec_Assign_arm]
 refine Qaq (wpAny_standAt ?_)
 rw[hs]
 refine Qaq (Qgq ?_)
 rw[Quq (by decide)]
 refine Qaq (Tuple_ (cR (ha _ d s n H _ I h) λus f qr=> ?_))
 obtain⟨vs,H1,I1,Z,r⟩:=qr
 obtain⟨v,w,t,e1,r⟩:=r
 subst e1
 obtain⟨k,m,g,rfl,rv,rw',rt⟩:∃k m g,us= [k,m,g]/\RelV v k/\RelV w m/\RelV t g:=by
  cases Z with
  | cons p q=>
    cases q with
    | cons U q'=>
      cases q' with
      | cons W q2=>
        cases q2
        exact⟨_,_,_,rfl,p,U,W⟩
 refine QhQ ?_ (by show 3<=_;decide)
 have I2:Inv X d n H1 {f with heap:=f.heap.push {cls:=.type "tuple",data:=.seq [k,m,g].toArray}}:=I1.kept (t':=f.toks) λb o e=>Qcq _ e
 rw[Y]
 refine Qaq (Qgq ?_)
 show wpAny (model X.prog X.w) X.A (do rule "assign.swapped-stores";let items←unpackItems (.ref f.heap.objs.size) 3 none;assignInOrder [λv=>bindName X.env z v,λv=>bindName X.env y v,λv=>bindName X.env x v] items.reverse;pure Flow.next) _ _ _
 refine Qaq (wpAny_rule (Qaq (unpackItems_tuple (items:= #[k,m,g]) (I.ok.hd hc) (IsTup.new f.heap _) λh' B=> ?_)))
 have I3:=I2.kept (h':=h') (t':=f.toks) λb o e=>B b o (Qwq (Qiq e)) e
 show wpAny _ _ (assignInOrder [λv=>bindName X.env z v,λv=>bindName X.env y v,λv=>bindName X.env x v] [g,m,k] >>= λ_=>pure Flow.next) _ _ _
 refine Qaq (assignInOrder_cons (wpAny_bindName (ie I3 J hl (.inl hz) rt (λs2 I4=> ?_) (.inr hz))))
 refine assignInOrder_cons (wpAny_bindName (ie I4 J hj (.inl R) rw' (λs3 I5=> ?_) (.inr R)))
 refine assignInOrder_cons (wpAny_bindName (ie I5 J hi (.inl S) rv (λs4 Q=>assignInOrder_nil (Qgq ?_)) (.inr S)))
 have e:((n.set l (some t)).set j (some w)).set i (some v)=((n.set i (some v)).set j (some w)).set l (some t):=by
  rw[List.set_comm _ _ (Ne.symm L),List.set_comm _ _ (Ne.symm K),List.set_comm _ _ (Ne.symm C)]
 rw[e] at Q
 exact⟨_,H1,Q,r⟩
end
end L2
namespace DL
open PySem PySem.Spec L2
section
variable{X:Cx}{st:Stmt}
noncomputable def zd(i j l:Nat)(f:fK):cI:=λa S=>(f a S).bind λ(b,c)=>match b with
 | [v,w,z]=>some (.nx (((a.set i (some v)).set j (some w)).set l (some z)) c)
 |_=>none
def Ke{i j l:Nat}{f:fK}(h:PS X st (IU i j l (yw (md X) f))):PS X st (tS (md X) (zd i j l f)):=AX h λD s H n=>by
 obtain⟨b,d,S,o,ok,e,q⟩:=n
 obtain⟨⟨t,k⟩,m,e⟩:=aq e
 dsimp only at e
 split at e
 ·cases e
  refine⟨b,d,S,_,k,ok,m,λc u v x st r=> ?_⟩
  cases r with
  | cons r a=>
    cases a with
    | cons g a=>
      cases a with
      | cons p a=>
        cases a
        exact⟨_,_,_,rfl,q _ _ _ x ⟨(((ok.en.ext x).set r).set g).set p,st⟩⟩
 ·cases e
def JB{d:cq}{S:aF}{i j l:Nat}{f:fK}{Q:Out->Prop}(h:∃ds e,f d S=some (ds,e)/\∃a b c,ds= [a,b,c]/\Q (.nx (((d.set i (some a)).set j (some b)).set l (some c)) e)):∃o,zd i j l f d S=some o/\Q o:=by
 obtain⟨ds,e,g,a,b,c,rfl,q⟩:=h
 exact⟨_,by unfold zd;rw[g];rfl,q⟩
end
end DL
namespace Z3
open PySem Zq
end Z3
namespace L2
open PySem PySem.Spec PyProof.Rows Zq
end L2
namespace DL
open PySem PySem.Spec PyProof.Rows L2
end DL
namespace L2
open PySem PySem.Spec PyProof.Rows
section
variable{X:Cx}
theorem BS:∀{b:List String} {a:List Value},bH (b.map V.ty) a->a=b.map Value.type
 | [],_,r=>by cases r;rfl
 | T::b,_,r=>by
   cases r with
   | cons h t=>
     rw[BS t,QDq]
     cases (show _=Value.type T from h)
     rfl
inductive Fy(H:Hp):V->Value->Prop where
 |non:Fy H .non (.type "NoneType")
 |bl (x:Bool):Fy H (.bl x) (.type "bool")
 |int (i:Int):Fy H (.int i) (.type "int")
 |str (x:Str):Fy H (.str x) (.type "str")
 |lst {a:Addr} {xs:List V} (e:H a=some (.lst xs)):Fy H (.ref a) (.type "list")
 |frz {a:Addr} {o:Obj} {xs:List V} (e:H a=some (.frz o (.lst xs))):Fy H (.ref a) (.type "list")
 |tup {a:Addr} {xs:List V} (e:H a=some (.tup xs)):Fy H (.ref a) (.type "tuple")
 |dK {a:Addr} {kvs:List (Key×V)} (e:H a=some (.dK kvs)):Fy H (.ref a) (.type "dict")
def C4:eV X (.builtin "isinstance") (λxs H Q=>∃(x:V) (a:Addr) (j:List String) (t:Value) (b:Bool),xs= [x,.ref a]/\H a=some (.tup (j.map V.ty))/\Fy H x t/\PySem.W.kitAny X.K t (j.map Value.type)=some b/\Q (.bl b) H):=by
 intro m s M H xs P Q I r h
 obtain⟨x,a,j,t,b,rfl,ha,ty,e,q⟩:=h
 obtain⟨u,G,rfl,rx,rt⟩:=vals2 r
 cases (show G=Value.ref a from rt)
 obtain⟨_,J,F,⟨c,U,v,L⟩,f,A,B,n,C⟩:=(show cG X.prog X.w H s.heap a (.tup (j.map V.ty)) from I.hok a _ ha)
 cases A
 cases C
 rw[BS F] at f
 cases ty with
 |non=>cases (show u=Value.none from rx);exact PySem.W.kia_tup PySem.W.kitx_none I.kIn True.intro f e (λz=>nomatch z) λd=>⟨.bl b,H,I.tok d,rfl,q⟩
 |bl y=>cases (show u=Value.bool y from rx);exact PySem.W.kia_tup PySem.W.kitx_bool I.kIn True.intro f e (λz=>nomatch z) λd=>⟨.bl b,H,I.tok d,rfl,q⟩
 |int i=>obtain⟨t,l⟩:=(show∃t,u=Value.int i t from rx);cases l;exact PySem.W.kia_tup PySem.W.kitx_int I.kIn True.intro f e (λz=>nomatch z) λd=>⟨.bl b,H,I.tok d,rfl,q⟩
 |str y=>obtain⟨t,l⟩:=(show∃t,u=Value.str y t from rx);cases l;exact PySem.W.kia_tup PySem.W.kitx_str I.kIn True.intro f e (λz=>nomatch z) λd=>⟨.bl b,H,I.tok d,rfl,q⟩
 | @lst a xs ea=>
   cases (show u=Value.ref a from rx)
   obtain⟨_,_,n,_,g⟩:=(show cG X.prog X.w H s.heap a (.lst xs) from I.hok a _ ea)
   exact PySem.W.kia_tup PySem.W.kitx_list I.kIn ⟨_,g,rfl⟩ f e (λz=>nomatch z) λd=>⟨.bl b,H,I.tok d,rfl,q⟩
 | @frz a ob xs ea=>
   cases (show u=Value.ref a from rx)
   obtain⟨_,_,_,n,_,g⟩:=(show cG X.prog X.w H s.heap a (.frz ob (.lst xs)) from I.hok a _ ea)
   exact PySem.W.kia_tup PySem.W.kitx_list I.kIn ⟨_,g,rfl⟩ f e (λz=>nomatch z) λd=>⟨.bl b,H,I.tok d,rfl,q⟩
 | @tup a xs ea=>
   cases (show u=Value.ref a from rx)
   obtain⟨_,_,_,p⟩:=(show cG X.prog X.w H s.heap a (.tup xs) from I.hok a _ ea)
   obtain⟨o,g,k,_⟩:=p
   exact PySem.W.kia_tup PySem.W.kitx_tuple I.kIn ⟨o,g,k⟩ f e (λz=>nomatch z) λd=>⟨.bl b,H,I.tok d,rfl,q⟩
 | @dK a kvs ea=>
   cases (show u=Value.ref a from rx)
   obtain⟨_,_,R,_,p⟩:=(show cG X.prog X.w H s.heap a (.dK kvs) from I.hok a _ ea)
   obtain⟨o,S,N,g,k,_⟩:=p
   exact PySem.W.kia_tup PySem.W.kitx_dict I.kIn ⟨o,g,k.1⟩ f e (λz=>nomatch z) λd=>⟨.bl b,H,I.tok d,rfl,q⟩
end
end L2
namespace DL
open PySem PySem.Spec PyProof.Rows L2
section
variable{X:Cx}{a:Expr}{pos:Pos}
noncomputable def yS(T U:String)(f:bp):bp:=λc S=>(f c S).bind λ(d,b)=>(sV b T d).bind λk=>(sV b U d).bind λl=>some (.bl (k||l),b)
def HU{K:PySem.W.Frag}{t:Value}{T U:String}{k l:Bool}(c:PySem.W.kitOne K t (.type T)=some k)(b:PySem.W.kitOne K t (.type U)=some l):PySem.W.kitAny K t ([T,U].map Value.type)=some (k||l):=by
 simp only[QDq,List.map_nil,PySem.W.kitAny]
 rw[c]
 cases k with
 |true=>rfl
 |false=>simp only;rw[b];cases l <;>rfl
def NX{T U:String}{s j:Expr}{f:bp}{p C:Pos}{B:Nat}(hk:FI X.K T)(L:FI X.K U)(Z:Gl X "isinstance")(hm:X.mg "isinstance"=none)(ha:PE X a (tD (md X) f))(ht:PE X s (tC (.ty T)))(hu:PE X j (tC (.ty U)))
  (M:starEach [a,.Tuple [s,j] B C] X.env= [(false,eval a X.env),(false,eval (.Tuple [s,j] B C) X.env)]:=by rfl) (m:starEach [.Tuple [s,j] B C] X.env= [(false,eval (.Tuple [s,j] B C) X.env)]:=by rfl)
  (J:starEach [s,j] X.env= [(false,eval s X.env),(false,eval j X.env)]:=by rfl) (y:starEach [j] X.env= [(false,eval j X.env)]:=by rfl):
  PE X (.Call (.Name "isinstance" p) [a,.Tuple [s,j] B C] [] pos) (tD (md X) (yS T U f)):=
 jQ (fP C4 Z hm boot_isinstance (cz ha (cz (Gg (cz ht (cz hu eM y) (by rw[J,y]))) eM m) (by rw[M,m])) (he:=by rw[M,m]) (hpl:=by rw[m];rfl)) λσ H Q qq=>by
  obtain⟨ρ,Γ,S,d,S',ok,e,q⟩:=qq
  obtain⟨⟨d',S1⟩,e1,e⟩:=aq e
  obtain⟨k,g,e⟩:=aq e
  obtain⟨l,i,e⟩:=aq e
  obtain⟨rfl,rfl⟩:=cc e
  obtain⟨k1,k2,k3,k4,k5,N,k7⟩:=hk
  obtain⟨l1,l2,l3,l4,l5,R,l7⟩:=L
  refine⟨ρ,Γ,S,d',S1,ok,e1,λA v n x F r=>⟨by show 2<=_;decide,λp I=> ?_⟩⟩
  have x2:bX A n A (upd n p (.tup ([T,U].map V.ty))):=bX.laid I
  have G:=q _ (.bl (k||l)) _ (x.trans x2) (F.lay I) (.bl _)
  have c:∀{b:Addr} {o:HO},n b=some o->(upd n p (.tup ([T,U].map V.ty))) b=some o:=λ{b o} hb=>by
   rw[bg]
   ·exact hb
   ·intro z;subst z;rw[I] at hb;cases hb
  have mk:∀{t:Value},Fy (upd n p (.tup ([T,U].map V.ty))) v t->PySem.W.kitOne X.K t (.type T)=some k->PySem.W.kitOne X.K t (.type U)=some l->_:=λ{t} ty w h2=>(⟨v,p,[T,U],t,k||l,rfl,bC,ty,HU w h2,G⟩:∃(x:V) (a:Addr) (P:List String) (t:Value) (b:Bool),[v,V.ref p]= [x,.ref a]/\(upd n p (.tup ([T,U].map V.ty))) a=some (.tup (P.map V.ty))/\Fy (upd n p (.tup ([T,U].map V.ty))) x t/\PySem.W.kitAny X.K t (P.map Value.type)=some b/\Q (.bl b) (upd n p (.tup ([T,U].map V.ty))))
  cases r with
  |non=>cases g;cases i;exact mk .non k1 l1
  |bl=>cases g;cases i;exact mk (.bl _) k2 l2
  |int=>cases g;cases i;exact mk (.int _) k3 l3
  |str=>cases g;cases i;exact mk (.str _) k4 l4
  |tup h M=>cases g;cases i;exact mk (.tup (c h)) k5 l5
  |fn=>cases g
  | ref h=>
    simp only[sV] at g i
    split at g
    · rename_i u;rw[u] at i;cases g;cases i;obtain⟨Y,w,_⟩:=F.obj _ _ _ h u;exact mk (.lst (c w)) N R
    · rename_i u;rw[u] at i;cases g;cases i;obtain⟨Y,o,w,_⟩:=F.obj _ _ _ h u;exact mk (.frz (c w)) N R
    · rename_i u;rw[u] at i;cases g;cases i;obtain⟨Y,w,_⟩:=F.obj _ _ _ h u;exact mk (.dK (c w)) k7 l7
    · cases g
end
end DL
namespace L2
open PySem PySem.Spec PyProof.Rows
section
variable{X:Cx}
def Nb:je X (compareOp .IsNot) (λx y H Q=>∃b c,x=.bl b/\y=.bl c/\Q (.bl (!(b==c))) H):=by
 intro a s f H x y v u Q I e d h
 obtain⟨b,c,rfl,rfl,q⟩:=h
 cases e
 cases d
 exact Qgq (bU I q (by cases b <;>cases c <;>rfl))
end
end L2
namespace DL
open PySem PySem.Spec L2
noncomputable def KB(a:Bool):rZ:=λ_ x y=>match x,y with
 |.bl b,.bl c=>some (.bl (if a then !(b==c) else b==c))
 |_,_=>none
def Nt{M:Md}:kz M (λx y H Q=>∃b c,x=.bl b/\y=.bl c/\Q (.bl (!(b==c))) H) (KB true):=by
 intro h S H x y d u v Q f g a e q
 cases g <;>simp only[KB,reduceCtorEq] at e
 cases a <;>simp only[reduceCtorEq] at e
 cases e
 exact⟨_,_,rfl,rfl,q _ _ bX.refl f (.bl _)⟩
section
variable{X:Cx}{a b:Expr}{pos:Pos}
noncomputable def EU(f g:bp):bp:=λd S=>(f d S).bind λ(y,h)=>(g d h).bind λ(x,c)=>match x with
 | .ref k=>match c[k]? with
   |some (.dct l)=>(o_ y).bind λe=>some (.bl (jy l e).isSome,c)
   |_=>none
 |_=>none
def MB{f g:bp}:∀(h:List (Option V)) (H:Hp) (Q:V->Hp->Prop),tD (md X) (EU f g) h H Q->My (tD (md X) f) (tD (md X) g) h H Q:=λh H Q I=>by
 obtain⟨w,o,S,d,P,ok,e,q⟩:=I
 obtain⟨⟨y,p⟩,G,e⟩:=aq e
 obtain⟨⟨x,K⟩,u,e⟩:=aq e
 cases x with
 | ref k=>
   dsimp only at e
   split at e
   · rename_i l M
     obtain⟨j,J,e⟩:=aq e
     obtain⟨rfl,rfl⟩:=cc e
     refine⟨w,o,S,y,p,ok,G,λm R H1 r i z=>⟨m,o,p,_,K,ok.to r i,u,λF U H2 t c L=> ?_⟩⟩
     cases oM (z.ext t) J
     cases L with
     | ref C=>
       obtain⟨N,A,n⟩:=c.obj k _ _ C M
       refine⟨_,_,rfl,ym.k A,?_⟩
       have:(mQ N j).isSome=(jy l j).isSome:=by
         cases s:jy l j with
         |none=>rw[n.noval s];rfl
         |some d=>obtain⟨v,B,_⟩:=n.val s;rw[B];rfl
       rw[this]
       exact q _ _ _ (r.trans t) c (.bl _)
   · cases e
 |_=>cases e
def M7{f g:bp}(d:X.A.units+1<cLine)(e:PE X a (tD (md X) f))(h:PE X b (tD (md X) g))(c:behindInMarks .In b=false:=by rfl):PT X (.Compare a [.In] [b] pos) (tB (md X) (aP (EU f g))):=uI MB (J_ (Ji d e h) c)
end
end DL
namespace L2
open PySem PySem.Spec PyProof.Rows
end L2
namespace DL
open PySem PySem.Spec L2
section
variable{X:Cx}{a b e:Expr}{pos:Pos}
noncomputable def qQ:List D->Option (List Int)
 | []=>some []
 | d::r=>match d with
   |.int i=>(qQ r).bind λc=>some (i::c)
   |_=>none
theorem wa{M:Md}{ρ:List Addr}{H:Hp}:∀{ds:List D} {vs:List V} {is:List Int},bf M ρ H ds vs->qQ ds=some is->vs=is.map V.int
 | [],_,_,h,e=>by cases h;cases e;rfl
 | d::ds,_,_,h,e=>by
   cases d with
   | int b=>
     simp only[qQ] at e
     obtain⟨c,f,e⟩:=aq e
     cases e
     cases h with
     | cons h g=>
       cases h
       rw[wa g f]
       rfl
   |_=>cases e
theorem sP:∀is:List Int,qQ (is.map D.int)=some is
 | []=>rfl
 |i::is=>by simp only[QDq,qQ];rw[sP is];rfl
end
end DL
namespace L2
open PySem PySem.Spec PyProof.Rows
section
variable{X:Cx}
noncomputable def DT(a:List Int):Nat:=(firstMet (λi=>a.getD i 0) a.length).length
def D3(l:X.calm=true):eV X (.type "set") (λxs H Q=>∃a,∃d:List Int,xs= [.ref a]/\iC X.K H a (d.map V.int)/\d.length<=1000/\∀p S,H p=none->Q (.ref p) (upd H p (.set S (DT d)))):=by
 intro g s t H xs w Q I r h
 obtain⟨a,d,rfl,ha,hl,q⟩:=h
 obtain⟨u,rfl,rx⟩:=vals1 r
 cases (show u=Value.ref a from rx)
 obtain⟨c,i,n,x⟩:=I.list ha
 have f:c.length=d.length:=by have:=i.length;simpa using this.symm
 refine call_set_list (I.ok.hd l) n.isList (intsAre_of i) (by show c.toArray.size+1<4096;simp;omega) λy v k m=> ?_
 have e:c.toArray.size=d.length:=by simpa using f
 rw[e] at k
 exact⟨.ref _,_,I.laid (o:=.set _ (DT d)) (λb o j=>m b o (Qiq j) j) (Qmq _) k,rfl,q _ _ I.fresh⟩
def D_:eV X (.builtin "len") (λxs H Q=>∃a S n,xs= [V.ref a]/\H a=some (.set S n)/\n<=1000/\Q (.int n) H):=by
 intro b s j H xs l Q I r h
 obtain⟨a,S,n,rfl,ha,hn,q⟩:=h
 obtain⟨u,rfl,ru⟩:=vals1 r
 cases ru
 obtain⟨o,f,k,t,e,c,g,_,_,_,i,d⟩:=(show cG X.prog X.w H s.heap a (.set S n) from I.hok a _ ha)
 subst d
 exact call_len_set e c g i (by omega) ⟨.int f.size,H,I.tok _,⟨_,rfl⟩,q⟩
def He{a:List Int}(h:a.Nodup):DT a=a.length:=by
 have c:∀i,i<=a.length->(firstMet (λi=>a.getD i 0) i).length=i:=by
  intro i
  induction i with
  |zero=>intro _;rfl
  | succ i f=>
    intro k
    have b:i<a.length:=by omega
    rw[firstMet_succ,step_length,firstMet_any,f (by omega)]
    have:((List.range i).map λi=>a.getD i 0).any (·==a.getD i 0)=false:=by
      rw[List.any_eq_false]
      intro x g z
      obtain⟨j,d,rfl⟩:=Qkq.mp g
      have d:=List.mem_range.mp d
      have e:a.getD j 0=a.getD i 0:=by simpa using z
      rw[Qlq,Qlq,gQe (by omega),gQe b] at e
      have e:a[j]=a[i]:=e
      have:=(List.nodup_iff_pairwise_ne.mp h)
      exact(List.pairwise_iff_getElem.mp this j i (by omega) b d) e
    rw[this]
    rfl
 exact c _ (Qmq _)
def KO{a:List Int}:DT a<=a.length:=firstMet_length_le _ _
end
end L2
namespace DL
open PySem PySem.Spec L2
section
variable{X:Cx}{a:Expr}{pos:Pos}
noncomputable def BW(f:dQ):bp:=λc S=>(f c S).bind λ(p,d)=>if p.2.isL=true then(qQ p.1).bind λb=>if b.length<=1000 then some (.int (DT b:Nat),d) else none else none
def N7{f:dQ}{p i b:Pos}(z:X.calm=true)(s:Gl X "len")(I:X.mg "len"=none)(k:Gl X "set")(j:X.mg "set"=none)(A:PE X a (tQ (md X) f))(n:starEach [a] X.env= [(false,eval a X.env)]:=by rfl)
  (g:starEach [.Call (.Name "set" i) [a] [] b] X.env= [(false,eval (.Call (.Name "set" i) [a] [] b) X.env)]:=by rfl):
  PE X (.Call (.Name "len" p) [.Call (.Name "set" i) [a] [] b] [] pos) (tD (md X) (BW f)):=
 jQ (fP D_ s I (by rfl) (cz (p_ (D3 z) k j (by rfl) (cz A eM n) (he:=n)) eM g) (he:=g)) λL H Q G=>by
  obtain⟨u,w,S,d,K,ok,e,q⟩:=G
  obtain⟨⟨⟨B,t⟩,C⟩,F,e⟩:=aq e
  dsimp only at e
  split at e
  ·rename_i c
   obtain⟨J,o,e⟩:=aq e
   split at e
   ·rename_i m
    obtain⟨rfl,rfl⟩:=cc e
    refine⟨u,w,S,B,t,C,ok,F,λv a M N x y h r=>⟨a,J,rfl,?_,m,λl P hl=> ?_⟩⟩
    ·rw[←wa r o];exact h.sqL c
    ·exact⟨_,_,_,rfl,bC,QAq KO m,q _ _ _ (x.trans (bX.laid hl)) (y.lay hl) (.int _)⟩
   ·cases e
  ·cases e
end
end DL
namespace L2
open PySem PySem.Spec PyProof.Rows
def AB(h:Heap)(v:Value)(i:Int):Prop:=∃a o b n t,v=.ref a/\h.get? a=some o/\o.cls=.type "tuple" /\o.data=.seq b n/\b[0]?=some (.int i t)
section
variable{P:Program}{w:World}{A:Around}{E:Value->Shared->Prop}{s:Shared}
def mH{xs:Array Value}{v:Value}(h:xs[0]?=some v):∃r,xs.toList=v::r:=by
 cases e:xs.toList with
 |nil=>have:=congrArg (·[0]?) e;simp[h] at this
 |cons u r=>have:=congrArg (·[0]?) e;simp[h] at this;exact⟨r,by rw[this]⟩
def CN{v u:Value}{i j:Int}{Q:Value->Shared->Prop}(g:A.units<cLine)(q:AB s.heap v i)(p:AB s.heap u j)(l:i≠j)(h:Q (.bool (decide (i<j))) s):wpAny (model P w) A (richCompare .Lt v u) Q E s:=by
 obtain⟨a,o,y,n,t,rfl,h1,h2,h3,h4⟩:=q
 obtain⟨b,m,C,G,c,rfl,g1,g2,g3,g4⟩:=p
 have f:s.TypeIs (.ref a) "tuple":=⟨o,h1,h2⟩
 have d:s.TypeIs (.ref b) "tuple":=⟨m,g1,g2⟩
 refine wpAny_richCompare_same_room (op:=.Lt) f d F.slot_tuple_lt (wpAny_call_entry F.slot_tuple_lt f F.entry_tuple_lt ?_ (F.args_tuple_lt_2 _ _)) g
 show wpAny _ _ (isInstance (.ref b) (.type "tuple") >>= _) _ _ s
 refine Qaq (wpAny_isInstance d isSubtype_tuple_tuple ?_)
 simp only[Bool.not_true,Bool.false_eq_true,if_false]
 refine Qaq (wpAny_tupleItemsOf h1 h3 (Qaq (wpAny_tupleItemsOf g1 g3 ?_)))
 obtain⟨r,e⟩:=mH h4
 obtain⟨B,k⟩:=mH g4
 rw[e,k,List.zip_cons_cons]
 refine Qaq ?_
 rw[List.forIn_cons]
 refine Qaq (Qaq (wpAny_eqBool_int ?_))
 rw[show(i==j)=false by simpa using l]
 simp only[Bool.not_false,if_true]
 refine Qaq (wpAny_rule (Qaq (richCompare_gives (op:=.Lt) (typeIs_int s _ t) (typeIs_int s _ c) F.slot_int_lt F.entry_int_lt (F.args_int_lt_2 _ _) (gives_int_lt _ _ t c) (λx=>nomatch x) ?_)))
 exact Qaq (Qgq (Qgq (Qgq (Qgq ⟨_,rfl,⟨(λz=>by cases z),h⟩⟩))))
def sm(h:Heap)(v:Value)(p:Int×Str):Prop:=∃a o b n t c,v=.ref a/\h.get? a=some o/\o.cls=.type "tuple" /\o.data=.seq b n/\b= #[.int p.1 t,.str p.2 c]
def sm.keep{h h':Heap}{v:Value}{i:Int×Str}(x:sm h v i)(k:∀a o,v=.ref a->h.get? a=some o->h'.get? a=some o):sm h' v i:=by
 obtain⟨a,o,b,n,t,c,rfl,h1,h2,h3,h4⟩:=x
 exact⟨a,o,b,n,t,c,rfl,k a o rfl h1,h2,h3,h4⟩
def sm.pr{h:Heap}{v:Value}{p:Int×Str}(x:sm h v p):AB h v p.1:=by
 obtain⟨a,o,b,n,t,c,rfl,h1,h2,h3,h4⟩:=x
 exact⟨a,o,b,n,t,rfl,h1,h2,h3,by rw[h4];rfl⟩
def FY{v u:Value}{p c:Int×Str}{Q:Value->Shared->Prop}(g:A.units<cLine)(l:sm s.heap v p)(k:sm s.heap u c)(d:p.1=c.1->p.2=c.2)(h:Q (.bool (decide (p.1<c.1))) s):wpAny (model P w) A (richCompare .Lt v u) Q E s:=by
 by_cases e:p.1=c.1
 ·have f:=d e
  rw[e,Qdq (Int.lt_irrefl _)] at h
  obtain⟨a,o,y,n,t,q,rfl,h1,h2,h3,h4⟩:=l
  obtain⟨b,x,B,C,m,r,rfl,g1,g2,g3,g4⟩:=k
  have j:s.TypeIs (.ref a) "tuple":=⟨o,h1,h2⟩
  have i:s.TypeIs (.ref b) "tuple":=⟨x,g1,g2⟩
  refine wpAny_richCompare_same_room (op:=.Lt) j i F.slot_tuple_lt (wpAny_call_entry F.slot_tuple_lt j F.entry_tuple_lt ?_ (F.args_tuple_lt_2 _ _)) g
  show wpAny _ _ (isInstance (.ref b) (.type "tuple") >>= _) _ _ s
  refine Qaq (wpAny_isInstance i isSubtype_tuple_tuple ?_)
  simp only[Bool.not_true,Bool.false_eq_true,if_false]
  refine Qaq (wpAny_tupleItemsOf h1 h3 (Qaq (wpAny_tupleItemsOf g1 g3 ?_)))
  rw[h4,g4,e,f]
  refine Qaq ?_
  show wpAny _ _ (forIn [(Value.int c.1 t,Value.int c.1 m),(Value.str c.2 q,Value.str c.2 r)] _ _) _ _ s
  rw[List.forIn_cons]
  refine Qaq (Qaq (wpAny_eqBool_int ?_))
  rw[show(c.1==c.1)=true by simp]
  simp only[Bool.not_true,Bool.false_eq_true,if_false]
  refine Qgq ?_
  dsimp only
  rw[List.forIn_cons]
  refine Qaq (Qaq (wpAny_eqBool_str ?_))
  rw[Qeq rfl]
  simp only[Bool.not_true,Bool.false_eq_true,if_false]
  refine Qgq ?_
  dsimp only
  rw[List.forIn_nil]
  refine Qgq (Qgq ⟨_,rfl,⟨λz=> ?_,h⟩⟩)
  cases z
 ·exact CN g l.pr k.pr e h
theorem pS(bt:Nat->Nat->Bool):∀j,argBest bt j<=j
 |0=>Qmq _
 | j+1=>by
   unfold argBest
   split
   · exact Qmq _
   · exact Nat.le_succ_of_le (pS bt j)
variable{I:Addr}{fp wr:List Addr}{n:Nat}{Pi:Nat->Value->Prop}{St:Nat->Heap->Prop}{R:Result->Shared->Prop}{G:Heap->Prop}
def Ew(W:Walks P w A.in1 I fp wr n Pi St)(bt:Nat->Nat->Bool)(S:Addr)(Z:S∉fp)(X:∀h h':Heap,G h->(∀b o,b∉wr->b≠S->h.get? b=some o->h'.get? b=some o)->G h')
  (hc:∀i j vi vj (s:Shared) (Q:Value->Shared->Prop) (E:Value->Shared->Prop),G s.heap->i≠j->Pi i vi->Pi j vj->Q (.bool (bt i j)) s->wpAny (model P w) A.in1 (richCompare .Lt vi vj) Q E s):
  ∀ (k j:Nat) (s:Shared) (b:Value) (c:Nat),n=j+1+k->St (j+1) s.heap->G s.heap->Pi (argBest bt j) b->s.heap.get? S=some (seqObj "list" #[b,b] c)→
    (∀v h' y,Pi (argBest bt (n-1)) v->(∀d o,d∉wr->d≠S->s.heap.get? d=some o->h'.get? d=some o)->R (.ok (.ret v)) {s with heap:=h',toks:=y})→
    codeAny (model P w) A (.builtin "min.loop" ⟨[.ref I,.none,.ref S],[]⟩) R s:=by
 have U:S∉wr:=λz=>Z (W.sub _ z)
 have nm:(toString "min" ++toString ".loop":String)="min.loop":=by decide
 intro k
 induction k with
 | zero=>
   intro j s b c e L g B x C
   refine codeAny_builtin F.entry_min_loop ?_
   rw[Around.under_plainId F.plain_min_loop _]
   show wpAny _ A.in1 (seqItems? (.ref S) >>= _) _ _ s
   refine Qaq (wpAny_seqItems x rfl ?_)
   show wpAny _ A.in1 (tryCatch (pyNext (.ref I)) _ >>= _) _ _ s
   refine Qaq (wpAny_tryCatch (W.done s _ _ (by rw[e];exact L) λh' y r=> ?_))
   have a:=r S _ U x
   show wpAny _ A.in1 (updateSeq S (λ_=> #[]) >>= _) _ _ _
   refine Qaq (wpAny_updateSeq a rfl (Qaq (wpAny_letGo (Qgq (C b _ y (by rw[e];exact B) λd o l f q=> ?_)))))
   exact(Heap.get?_update_other _ _ (Ne.symm f)).trans (r d o l q)
 | succ k N=>
   intro j s b c e L g B x C
   refine codeAny_builtin F.entry_min_loop ?_
   rw[Around.under_plainId F.plain_min_loop _]
   show wpAny _ A.in1 (seqItems? (.ref S) >>= _) _ _ s
   refine Qaq (wpAny_seqItems x rfl ?_)
   show wpAny _ A.in1 (tryCatch (pyNext (.ref I)) _ >>= _) _ _ s
   refine Qaq (wpAny_tryCatch (W.item (j+1) s _ _ (by omega) L λv h' y pv u r=> ?_))
   have a:=r S _ U x
   have K:G h':=X _ _ g λd o l _ q=>r d o l q
   show wpAny _ A.in1 (tryCatch (holding [v,v] (richCompare .Lt v b >>= _)) _ >>= _) _ _ _
   refine Qaq (wpAny_tryCatch (QLq (Qaq (hc (j+1) (argBest bt j) v b _ _ _ K (by have:=pS bt j;omega) pv B ?_))))
   refine Qaq (QLq (wpAny_truthy_bool (Qaq (wpAny_letGo (Qgq ?_)))))
   cases Y:bt (j+1) (argBest bt j) with
   | true=>
     simp only[if_true]
     refine Qaq (wpAny_updateSeq a rfl (Qaq (wpAny_letGo ?_)))
     rw[nm]
     have t:∀d o,d≠S->h'.get? d=some o->(h'.update S (Obj.mapSeq λ_=> #[v,v])).get? d=some o:=λd o f q=>(Heap.get?_update_other _ _ (Ne.symm f)).trans q
     refine Qgq ⟨plainId_quiet F.plain_min_loop _,N (j+1) _ v _ (by omega) (W.frame _ _ _ u λd hd o q=>t d o (λz=>Z (z▸hd)) q) (X _ _ K λd o _ f q=>t d o f q) (by simp only[argBest,Y,if_true];exact pv) (Heap.get?_update_self _ a rfl) λM J m H p=> ?_⟩
     exact C M J m H λd o l f q=>p d o l f (t d o f (r d o l q))
   | false=>
     simp only[Bool.false_eq_true,if_false]
     refine Qaq (wpAny_letGo ?_)
     rw[nm]
     refine Qgq ⟨plainId_quiet F.plain_min_loop _,N (j+1) _ b c (by omega) u K (by simp only[argBest,Y,Bool.false_eq_true,if_false];exact B) a λM J m H p=> ?_⟩
     exact C M J m H λd o l f q=>p d o l f (r d o l q)
def DG(W:Walks P w A.in1 I fp wr n Pi St)(bt:Nat->Nat->Bool)(S:Addr)(u:S∉fp)(m:∀h h':Heap,G h->(∀b o,b∉wr->b≠S->h.get? b=some o->h'.get? b=some o)->G h')
  (M:∀i j B C (s:Shared) (Q:Value->Shared->Prop) (E:Value->Shared->Prop),G s.heap->i≠j->Pi i B->Pi j C->Q (.bool (bt i j)) s->wpAny (model P w) A.in1 (richCompare .Lt B C) Q E s) (J:0<n) {c:Nat} (st:St 0 s.heap) (g:G s.heap)
  (y:s.heap.get? S=some (seqObj "list" #[] c)) (X:∀v h' x,Pi (argBest bt (n-1)) v->(∀d o,d∉wr->d≠S->s.heap.get? d=some o->h'.get? d=some o)->R (.ok (.ret v)) {s with heap:=h',toks:=x}):
  codeAny (model P w) A (.builtin "min.loop" ⟨[.ref I,.none,.ref S],[]⟩) R s:=by
 have N:S∉wr:=λz=>u (W.sub _ z)
 have nm:(toString "min" ++toString ".loop":String)="min.loop":=by decide
 refine codeAny_builtin F.entry_min_loop ?_
 rw[Around.under_plainId F.plain_min_loop _]
 show wpAny _ A.in1 (seqItems? (.ref S) >>= _) _ _ s
 refine Qaq (wpAny_seqItems y rfl ?_)
 show wpAny _ A.in1 (tryCatch (pyNext (.ref I)) _ >>= _) _ _ s
 refine Qaq (wpAny_tryCatch (W.item 0 s _ _ J st λv h' x pv p t=> ?_))
 have f:=t S _ N y
 have L:G h':=m _ _ g λd o k _ q=>t d o k q
 have a:∀d o,d≠S->h'.get? d=some o->(h'.update S (Obj.mapSeq λ_=> #[v,v])).get? d=some o:=λd o e q=>(Heap.get?_update_other _ _ (Ne.symm e)).trans q
 show wpAny _ A.in1 (updateSeq S (λ_=> #[v,v]) >>= _) _ _ _
 refine Qaq (wpAny_updateSeq f rfl ?_)
 rw[nm]
 refine Qgq ⟨plainId_quiet F.plain_min_loop _,Ew W bt S u m M (n-1) 0 _ v _ (by omega) (W.frame _ _ _ p λd U o q=>a d o (λz=>u (z▸U)) q) (m _ _ L λd o _ e q=>a d o e q) pv (Heap.get?_update_self _ f rfl) λY K l H r=> ?_⟩
 exact X Y K l H λd o k e q=>r d o k e (a d o e (t d o k q))
def GY{l:Addr}{d:List Value}{f:List (Int×Str)}{Q:Value->Shared->Prop}(hh:A.handled=none)(Y:A.units+2<cLine)(hl:s.heap.IsList l d.toArray)(J:∀i v,d[i]?=some v->sm s.heap v (f.getD i (0,"")))(nd:∀p∈f,∀q∈f,p.1=q.1->p.2=q.2)(t:d.length=f.length)(ne:0<d.length)
  (q:∀h' y,(∀b o,s.heap.get? b=some o->h'.get? b=some o)->Q (d.getD (argBest (λi j=>decide ((f.getD i (0,"")).1<(f.getD j (0,"")).1)) (d.length-1)) .none) {s with heap:=h',toks:=y}):wpAny (model P w) A (call (.builtin "min") [.ref l]) Q E s:=by
 have nm:(toString "min" ++toString ".loop":String)="min.loop":=by decide
 refine call_function_tree F.kind_min F.plain_min F.entry_min (F.args_min1 _) ?_
 show wpAny _ A.in1 (Builtin.Builtins.bindParams "min" ["key","default"] 0 ⟨[],[]⟩ >>= _) _ _ s
 refine Qaq (wpAny_of_eq (show Builtin.Builtins.bindParams "min" ["key","default"] 0 ⟨[],[]⟩=pure [none,none] from rfl) (Qaq (Qgq ?_)))
 have N:l<s.heap.objs.size:=by obtain⟨_,e,_⟩:=hl;exact Qiq e
 refine Qaq (wpAny_pyIter_list hl ?_)
 refine Qaq (QhQ ?_)
 rw[nm]
 have W:=Walks.list (prog:=P) (w:=w) (A:=A.in1) (show A.in1.handled=none from hh) s.heap.objs.size l (Qwq N) d.toArray
 have sz:d.toArray.size=d.length:=by simp
 have B:(s.heap.push {cls:=.type "list_iterator",data:=.fields #[.ref l,.int 0 0]}).objs.size=s.heap.objs.size+1:=by rw[Heap.size_push]
 have C:(s.heap.push {cls:=.type "list_iterator",data:=.fields #[.ref l,.int 0 0]}).objs.size∉[s.heap.objs.size,l]:=by
  rw[B]
  simp only[Qsq,QXq,or_false,not_or]
  exact⟨Nat.succ_ne_self _,λz=>Nat.lt_irrefl _ (Nat.lt_trans (Nat.lt_succ_self _) (z▸N))⟩
 generalize hb:(λi j=>decide ((f.getD i (0,"")).1<(f.getD j (0,"")).1))=bt at q
 have m:∀{h:Heap} {i:Nat} {v:Value} {a:Addr},d[i]?=some v->v=.ref a->a<s.heap.objs.size:=λ{h i v a} e z=>by
  obtain⟨b,o,_,_,_,_,u,x,_⟩:=J i v e
  rw[z] at u
  cases u
  exact Qiq x
 have go:=DG (P:=P) (w:=w) (A:=A) (G:=λh=>∀i v,d[i]?=some v->sm h v (f.getD i (0,""))) (R:=λr M=>match r with|.ok (.ret v)=>Q v M|.ok _=>False|.error e=>E e M) W bt _ C
  (s:={s with heap:=(s.heap.push {cls:=.type "list_iterator",data:=.fields #[.ref l,.int 0 0]}).push {cls:=.type "list",data:=.seq #[]}})
  (λh h' g k i v e=>(g i v e).keep λa o z q=>k a o (by simp only[Qfq];exact Qwq (m (h:=h) e z)) (by rw[B];exact Qwq (Nat.lt_succ_of_lt (m (h:=h) e z))) q)
  (λi j S U s1 Q1 E1 g ij Z X H=>by
   have u:d[i]?=some S:=by simpa using Z
   have x:d[j]?=some U:=by simpa using X
   have L:i<f.length:=t▸(gQs.mp u).1
   have K:j<f.length:=t▸(gQs.mp x).1
   refine FY (show A.in1.units<cLine from Nat.lt_of_le_of_lt (Nat.le_of_eq rfl) (Nat.lt_of_succ_lt Y)) (g i S u) (g j U x) (nd _ ?_ _ ?_) (by rw[←hb] at H;exact H)
   ·rw[Qlq,gQe L];exact List.getElem_mem L
   ·rw[Qlq,gQe K];exact List.getElem_mem K)
  (by rw[sz];exact ne) (c:=0) ⟨⟨_,Qcq _ (Qrq _ rfl),rfl,rfl⟩,(hl.push _).push _⟩ (λi v e=>(J i v e).keep λa o z q=>Qcq _ (Qcq _ q)) (Qrq _ rfl) (λv h' y p k=> ?_)
 ·exact Qgq ⟨plainId_quiet F.plain_min_loop _,go⟩
 ·show Q v _
  have e:v=d.getD (argBest bt (d.length-1)) .none:=by
   rw[Qlq]
   have p:d[argBest bt (d.length-1)]?=some v:=by simpa using p
   rw[p]
   rfl
  rw[e]
  refine q h' y λb o z=>k b o ?_ ?_ (Qcq _ (Qcq _ z))
  ·simp only[Qfq]
   exact Qwq (Qiq z)
  ·rw[B]
   exact Qwq (Nat.lt_succ_of_lt (Qiq z))
end
inductive yU(H:Hp):List Addr->List (Int×Str)->Prop
 |nil:yU H [] []
 |cons {a:Addr} {x:Int×Str} {rs:List Addr} {ss:List (Int×Str)}:H a=some (.tup [.int x.1,.str x.2])->yU H rs ss->yU H (a::rs) (x::ss)
theorem yU.len{H:Hp}:∀{rs:List Addr} {a:List (Int×Str)},yU H rs a->rs.length=a.length
 |_,_,.nil=>rfl
 |_,_,.cons _ r=>congrArg (·+1) r.len
inductive zm(H:Hp):List Addr->List Int->Prop
 |nil:zm H [] []
 |cons {a b:Addr} {x:Int} {us ws:List V} {rs:List Addr} {ss:List Int}:H a=some (.tup (.ref b::ws))->H b=some (.tup (.int x::us))->zm H rs ss->zm H (a::rs) (x::ss)
theorem zm.len{H:Hp}:∀{rs:List Addr} {a:List Int},zm H rs a->rs.length=a.length
 |_,_,.nil=>rfl
 |_,_,.cons _ _ r=>congrArg (·+1) r.len
section
variable{X:Cx}
def LA{b:List (Addr×Obj)}{d:St}{H:Hp}{s:Shared}(I:Inv X b d H s){a:Addr}{x:Int}{g:List V}(h:H a=some (.tup (.int x::g))):AB s.heap (.ref a) x:=by
 obtain⟨k,i,⟨o,e,c,n,f⟩,l⟩:=I.tuple (gH.of h)
 cases i with
 | cons j m=>
   obtain⟨t,rfl⟩:=j
   exact⟨a,o,_,n,t,rfl,e,c,f,by simp⟩
def Lv{b:List (Addr×Obj)}{f:St}{H:Hp}{s:Shared}(I:Inv X b f H s){a:Addr}{x:Int×Str}(h:H a=some (.tup [.int x.1,.str x.2])):sm s.heap (.ref a) x:=by
 obtain⟨m,k,⟨o,g,e,n,i⟩,p⟩:=I.tuple (gH.of h)
 cases k with
 | cons l c=>
   obtain⟨t,rfl⟩:=l
   cases c with
   | cons j c=>
     obtain⟨d,rfl⟩:=j
     cases c
     exact⟨a,o,_,n,t,d,rfl,g,e,i,rfl⟩
theorem BO{a:List (Addr×Obj)}{c:St}{H:Hp}{s:Shared}(I:Inv X a c H s):∀{rs:List Addr} {b:List (Int×Str)},yU H rs b->∀i v,(rs.map Value.ref)[i]?=some v->sm s.heap v (b.getD i (0,""))
 |_,_,.nil,i,v,e=>by simp at e
 |_,_,.cons h r,0,v,e=>by cases e;exact Lv I h
 |_,_,.cons h r,i+1,v,e=>by simpa using BO I r i v (by simpa using e)
noncomputable def LG(a:List (Int×Str))(i j:Nat):Bool:=decide ((a.getD i (0,"")).1<(a.getD j (0,"")).1)
noncomputable def eG(a:List (Int×Str)):Nat:=argBest (LG a) (a.length-1)
def DU(e:X.calm=true)(d:X.A.units+2<cLine):eV X (.builtin "min") (λxs H Q=>∃a rs b,xs= [.ref a]/\iC X.K H a (rs.map V.ref)/\yU H rs b/\(∀p∈b,∀q∈b,p.1=q.1->p.2=q.2)/\0<rs.length/\Q (.ref (rs.getD (eG b) 0)) H):=by
 intro c s l H xs n Q I r h
 obtain⟨a,rs,b,rfl,ha,hF,hd,hn,q⟩:=h
 obtain⟨u,rfl,rx⟩:=vals1 r
 cases (show u=Value.ref a from rx)
 obtain⟨j,f,k,o⟩:=I.list ha
 cases qm f
 refine GY (I.ok.hd e) d k.isList (BO I hF) hd (by rw[lQm];exact hF.len) (by simpa using hn) λh' m i=> ?_
 refine⟨.ref (rs.getD (eG b) 0),H,I.kept (h':=h') i,?_,q⟩
 show _=Value.ref _
 have g:eG b<rs.length:=by
  have:=pS (LG b) (b.length-1)
  have:=hF.len
  unfold eG
  omega
 rw[Qlq,Qlq,lQm,hF.len,gQm]
 show((rs[eG b]?).map Value.ref).getD _=_
 rw[gQe g]
 rfl
end
end L2
namespace Zp
open PySem PySem.W PyProof.Rows L2
def F_:∀n:Nat,n<=4->2<=n->sJ n (kas_sort n)=true/\(sU (λi j=>decide (i<j)) (kas_sort n)).toList=List.range n:=by
 intro n b a
 have:n=2\/n=3\/n=4:=by omega
 rcases this with rfl|rfl|rfl
 ·decide +kernel
 ·decide +kernel
 ·decide +kernel
def Fi(h:Heap)(v:Value)(i:Int):Prop:=∃a o b n p,v=.ref a/\h.get? a=some o/\o.cls=.type "tuple" /\o.data=.seq b n/\b[0]?=some p/\AB h p i
inductive gC(h:Heap):List Value->List Int->Prop
 |nil:gC h [] []
 |cons {v:Value} {i:Int} {vs:List Value} {is:List Int}:Fi h v i->gC h vs is->gC h (v::vs) (i::is)
theorem gC.len{h:Heap}:∀{vs:List Value} {fs:List Int},gC h vs fs->vs.length=fs.length
 |_,_,.nil=>rfl
 |_,_,.cons _ r=>congrArg (·+1) r.len
def Fi.keep{h h':Heap}{v:Value}{i:Int}(k:∀a o,h.get? a=some o->o.cls=.type "tuple" ->h'.get? a=some o)(x:Fi h v i):Fi h' v i:=by
 obtain⟨a,o,c,n,p,rfl,h1,h2,h3,h4,b,o',ys,m,t,rfl,g1,g2,g3,g4⟩:=x
 exact⟨a,o,c,n,_,rfl,k _ _ h1 h2,h2,h3,h4,b,o',ys,m,t,rfl,k _ _ g1 g2,g2,g3,g4⟩
theorem gC.keep{h h':Heap}(k:∀a o,h.get? a=some o->o.cls=.type "tuple" ->h'.get? a=some o):∀{vs:List Value} {fs:List Int},gC h vs fs->gC h' vs fs
 |_,_,.nil=>.nil
 |_,_,.cons e r=>.cons (e.keep k) (r.keep k)
theorem gC.get{h:Heap}:∀{vs:List Value} {fs:List Int} {i:Nat},gC h vs fs->i<fs.length->Fi h (vs.getD i Value.none) (fs.getD i 0)
 |_,_,0,.cons e r,_=>e
 |_,_,i+1,.cons e r,hi=>by simpa using r.get (i:=i) (by simpa using hi)
 |_,_,_,.nil,hi=>by simp at hi
theorem gC.firsts{M:Model}{h:Heap}:∀{vs:List Value} {fs:List Int},gC h vs fs->∃gs:List Value,KatTups h vs gs/\gs.length=fs.length/\∀v∈gs,Looks M h (typeOf v) (.type "tuple")
 |_,_,.nil=>⟨[],KatTups.nil,rfl,by simp⟩
 | _,_,.cons e r=>by
   obtain⟨gs,k,l,m⟩:=r.firsts (M:=M)
   obtain⟨a,o,d,n,p,rfl,h1,h2,h3,h4,b,o',ys,m',t,rfl,g1,g2,g3,g4⟩:=e
   refine⟨_::gs,KatTups.cons h1 h2 h3 h4 k,by simp[l],λv c=> ?_⟩
   rcases Qsq.mp c with rfl|z
   · have:=show Looks M h (typeOf (.ref b)) o'.cls from(Looks.ld g1).andThen .now
     rw[g2] at this
     exact this
   · exact m v z
section
variable{prog:Program}{w:World}{A:Around}{E:Value->Shared->Prop}{s:Shared}
def GE{v u:Value}{i j:Int}{Q:Bool->Shared->Prop}(k:A.units<cLine)(q:AB s.heap v i)(p:AB s.heap u j)(f:i≠j)(h:Q false s):wpAny (model prog w) A (eqBool v u) Q E s:=by
 obtain⟨a,o,y,n,t,rfl,h1,h2,h3,h4⟩:=q
 obtain⟨b,m,C,G,x,rfl,g1,g2,g3,g4⟩:=p
 have g:s.TypeIs (.ref a) "tuple":=⟨o,h1,h2⟩
 have d:s.TypeIs (.ref b) "tuple":=⟨m,g1,g2⟩
 have c:¬(Value.ref a==Value.ref b)=true:=λz=>by
  have e:a=b:=by have:=eq_of_beq z;injection this
  subst e
  rw[h1] at g1
  cases g1
  rw[h3] at g3
  cases g3
  rw[h4] at g4
  cases g4
  exact f rfl
 unfold eqBool
 try with_reducible refine QLq ?_
 show wpAny _ _ (if (Value.ref a==Value.ref b)=true then _ else _) Q E s
 rw[Quq c]
 refine Qaq (wpAny_richCompare_same_room (op:=.Eq) g d F.slot_tuple_eq (wpAny_call_entry F.slot_tuple_eq g F.entry_tuple_eq ?_ (F.args_tuple_eq_2 _ _)) k)
 show wpAny _ _ (isInstance (.ref b) (.type "tuple") >>= _) _ _ s
 refine Qaq (wpAny_isInstance d isSubtype_tuple_tuple ?_)
 simp only[Bool.not_true,Bool.false_eq_true,if_false]
 refine Qaq (wpAny_tupleItemsOf h1 h3 (Qaq (wpAny_tupleItemsOf g1 g3 ?_)))
 obtain⟨r,e⟩:=mH h4
 obtain⟨B,l⟩:=mH g4
 rw[e,l,List.zip_cons_cons]
 refine Qaq ?_
 rw[List.forIn_cons]
 refine Qaq (Qaq (wpAny_eqBool_int ?_))
 rw[show(i==j)=false by simpa using f]
 simp only[Bool.not_false,if_true]
 refine Qaq (Qgq (Qgq (Qgq (Qgq ⟨_,rfl,⟨(λz=>by cases z),wpAny_truthy_bool h⟩⟩))))
def AK{a:Addr}{vs:List Value}{fs:List Int}{n:Nat}{P:PySem.Fin->Shared->Prop}(X:A.units<cLine)(B:s.heap.get? a=some (seqObj "list" vs.toArray n))(h3:vs.length<=4)(ht:gC s.heap vs fs)(hd:fs.Pairwise (·<·))
  (q:P (.done (.ret .none)) {s with heap:=sortedHeap s.heap a vs vs.toArray}):wpAny (model prog w) A (Builtin.«list.sort» ⟨[.ref a],[]⟩) P E s:=by
 rw[list_sort_plain]
 have sl:vs.length<=sizeLine:=by rw[sizeLine_eq];omega
 refine Qaq (listItems_at B rfl (Qaq (listUpdate_at B rfl ?_ (by rw[Qjq];exact sl) (Nat.zero_le _))))
 obtain⟨K,v⟩:∃K,(s.heap.update a (Obj.mapSeq λ_=> #[])).get? a=some (seqObj "list" #[] K):=⟨_,get?_update_seq B (λ_=> #[])⟩
 refine Qaq (seqEpoch_at v rfl (Qaq (wpAny_newTuple ?_ (by show vs.length<=_;exact sl))))
 refine Qaq (wpAny_newList (QLq ?_) (Nat.zero_le _))
 generalize r:((s.heap.update a (Obj.mapSeq λ_=> #[])).push (seqObj "tuple" vs.toArray 0)).push (seqObj "list" #[] 0)=h1
 have f:h1.get? a=some (seqObj "list" #[] K):=by rw[←r];exact Qcq _ (Qcq _ v)
 have m:gC h1 vs fs:=ht.keep λb o e c=>by
  have nb:b≠a:=λz=>by rw[z,B] at e;cases e;simp[seqObj] at c
  rw[←r]
  exact Qcq _ (Qcq _ (by rw[Heap.get?_update_ne _ _ _ _ nb];exact e))
 have q:P (.done (.ret .none)) {s with heap:=h1.update a (Obj.mapSeq λ_=>vs.toArray)}:=by rw[←r];exact q
 refine(?_:wpAny (model prog w) A _ P E {s with heap:=h1})
 dsimp only
 by_cases t:vs.toArray.size<2
 ·rw[Qhq t,Qhq t]
  refine Qaq (Qgq ?_)
  rw[StateT.run_pure]
  refine Qaq (Qgq ?_)
  dsimp only
  have U:((vs.toArray.zip vs.toArray).map (·.2))=vs.toArray:=by
   apply Array.toList_inj.mp
   simp
   exact List.map_snd_zip (Qmq _)
  refine Qaq (seqEpoch_at f rfl (Qaq (listUpdate_at f rfl ?_ (hsz2:=QAq (Nat.le_of_eq (congrArg Array.size U)) (by rw[Qjq];omega)))))
  simp only[bne_self_eq_false,Bool.false_eq_true,if_false]
  rw[←U] at q
  exact Qgq q
 ·rw[Quq t,Quq t]
  have R:2<=vs.length:=by simpa using t
  obtain⟨gs,kt,lg,mg⟩:=m.firsts (M:=model prog w)
  have lf:=ht.len
  refine Qaq (kat_kind (T:=.type "tuple") kt (by omega) mg rfl ?_)
  rw[show((Value.type "tuple") !=Value.type "tuple")=false from rfl]
  obtain⟨ok,rng⟩:=F_ vs.length h3 R
  have N:SortSt.mk' (tuples' false) (vs.toArray.zip vs.toArray) #[] 7 none=kas_st (tuples' false) (pairsOf vs) (List.toArray (List.range vs.length)):=by
   have e:=kas_range (pairsOf vs)
   rw[pairsOf_size] at e
   refine(?_:SortSt.mk' (tuples' false) (pairsOf vs) #[] 7 none=SortSt.mk' (tuples' false) ((List.toArray (List.range vs.length)).map (kas_item (pairsOf vs))) #[] 7 none)
   rw[e]
  refine(?_:wpAny (model prog w) A (StateT.run sortRuns' (SortSt.mk' (tuples' false) (vs.toArray.zip vs.toArray) #[] 7 none) >>= _) P E _)
  rw[N]
  have F:=kas_runs (prog:=prog) (w:=w) (A:=A) (E:=E) (κ:=tuples' false) (it:=pairsOf vs) (n:=vs.length) (s:={s with heap:=h1})
   (G:=λp u=>p=sU (λi j=>decide (i<j)) (kas_sort vs.length)/\u={s with heap:=h1})
   (Q:=λ_ d u=>u={s with heap:=h1}/\failedOf d=none/\∃p,p=sU (λi j=>decide (i<j)) (kas_sort vs.length)/\arrOf d=p.map (kas_item (pairsOf vs)))
   R (by omega) (λp' d u a1 a2 a3 S=>⟨S.2,a3,p',S.1,a2⟩) (xH (n:=vs.length) (λi j C hi hj I hC=> ?_) _ ok ⟨rfl,rfl⟩)
  ·refine Qaq (QRq F ?_ λ_ _ e=>e)
   rintro⟨⟨⟩,d⟩ u ⟨rfl,hf,p,hp,har⟩
   dsimp only
   have g:(arrOf d).map (·.2)=vs.toArray:=by
    apply Array.toList_inj.mp
    rw[har,Array.map_map,Array.toList_map,hp,rng]
    refine List.ext_getElem (by simp) λk g1 g2=> ?_
    rw[List.getElem_map,List.getElem_range]
    show(kas_item (pairsOf vs) k).2=_
    rw[kas_item_eq]
    have:k<vs.length:=by simpa using g1
    simp[Qlq,this]
   refine Qaq (seqEpoch_at f rfl (Qaq (listUpdate_at f rfl ?_ (hsz2:=QAq (Nat.le_of_eq (congrArg Array.size g)) (by rw[Qjq];omega)))))
   rw[hf]
   simp only[bne_self_eq_false,Bool.false_eq_true,if_false]
   rw[←g] at q
   exact Qgq q
  ·unfold kas_cmp
   rw[kas_item_eq,kas_item_eq]
   obtain⟨x,ox,xs,nx,px,ex,gx,cx,dx,fx,Y⟩:=m.get (i:=i) (by omega)
   obtain⟨y,oy,ys,ny,py,ey,gy,cy,dy,fy,Z⟩:=m.get (i:=j) (by omega)
   dsimp only
   rw[ex,ey]
   have l:i<fs.length:=by omega
   have h:j<fs.length:=by omega
   have gi:fs.getD i 0=fs[i]:=by rw[Qlq,gQe l];rfl
   have gj:fs.getD j 0=fs[j]:=by rw[Qlq,gQe h];rfl
   have J:decide (fs.getD i 0<fs.getD j 0)=decide (i<j)/\fs.getD i 0≠fs.getD j 0:=by
    rw[gi,gj]
    rcases Nat.lt_or_gt_of_ne I with c|c
    ·have:=List.pairwise_iff_getElem.mp hd i j l h c
     exact⟨by simp[this,c],by omega⟩
    ·have:=List.pairwise_iff_getElem.mp hd j i h l c
     exact⟨by simp only[decide_eq_decide];omega,by omega⟩
   refine kat_lt gx dx gy dy ?_
   obtain⟨xr,H⟩:=mH fx
   obtain⟨yr,L⟩:=mH fy
   rw[H,L,List.zip_cons_cons]
   refine kat_cons (GE X Y Z J.2 (kat_no ?_))
   refine kat_one _ _ (CN (Q:=W.BoolBack C) X Y Z J.2 ?_)
   rw[J.1]
   exact hC
def Bn{l:Addr}{vs:List Value}{fs:List Int}{Q:Value->Shared->Prop}(h:A.units+2<cLine)(hl:s.heap.IsList l vs.toArray)(i:vs.length<=4)(ht:gC s.heap vs fs)(hd:fs.Pairwise (·<·))
  (q:Q (.ref (s.heap.objs.size+1)) {s with heap:=sortedAll s.heap vs vs.toArray}):wpAny (model prog w) A (call (.builtin "sorted") [.ref l]) Q E s:=by
 have f:vs.length<=sizeLine:=by rw[sizeLine_eq];omega
 refine Calls.call_function_entry kind_sorted plain_sorted entry_sorted (args_sorted1 _) ?_
 unfold Builtin.«sorted»
 refine Qaq (m:=checkCount "sorted" 1 1 _) (Qgq (Qaq (collect_list hl (Qaq (wpAny_newList ?_ f)) f)))
 generalize a:(s.heap.push (seqObj "list" #[] 0)).update s.heap.objs.size (Obj.mapSeq (·++vs.toArray))=h0
 have g:h0.objs.size=s.heap.objs.size+1:=by rw[←a,Heap.size_update,size_push']
 have d:(h0.push (seqObj "list" vs.toArray 0)).get? (s.heap.objs.size+1)=some (seqObj "list" vs.toArray 0):=by
  rw[←g]
  exact Qrq _ rfl
 have c:gC (h0.push (seqObj "list" vs.toArray 0)) vs fs:=ht.keep λb o e _=>by
  refine Qcq _ ?_
  rw[←a,Heap.get?_update_ne _ _ _ _ (Qwq (Qiq e))]
  exact Qcq _ e
 refine(?_:wpAny _ _ _ _ _ {s with heap:=h0.push (seqObj "list" vs.toArray 0)})
 rw[g]
 refine Qaq (QLq (wpAny_call_entry slot_list_sort ⟨_,d,rfl⟩ entry_list_sort (AK (show _<cLine from Nat.lt_of_le_of_lt (Qmq (A.units+2)) h) d i c hd ⟨_,rfl,?_⟩) (args_list_sort _)))
 refine Qgq ⟨_,rfl,?_⟩
 rw[←a]
 exact q
end
end Zp
namespace L2
open PySem PySem.Spec PyProof.Rows
section
variable{X:Cx}
theorem BQ{a:List (Addr×Obj)}{d:St}{H:Hp}{s:Shared}(I:Inv X a d H s):∀{rs:List Addr} {b:List Int},zm H rs b->Zp.gC s.heap (rs.map Value.ref) b
 |_,_,.nil=>.nil
 | _,_,.cons h g r=>by
   refine .cons ?_ (BQ I r)
   obtain⟨i,c,⟨o,j,e,n,k⟩,l⟩:=I.tuple (gH.of h)
   cases c with
   | cons f m=>
     cases f
     exact⟨_,o,_,n,_,rfl,j,e,k,by simp,LA I g⟩
def yh(f:X.A.units+2<cLine):eV X (.builtin "sorted") (λxs H Q=>∃a rs c,xs= [.ref a]/\iC X.K H a (rs.map V.ref)/\rs.length<=4/\zm H rs c/\c.Pairwise (·<·)/\∀l:Addr,H l=none->Q (.ref l) (upd H l (.lst (rs.map V.ref)))):=by
 intro d s n H xs p Q I r h
 obtain⟨a,rs,c,rfl,ha,h3,hF,hd,q⟩:=h
 obtain⟨u,rfl,rx⟩:=vals1 r
 cases (show u=Value.ref a from rx)
 obtain⟨k,g,m,t⟩:=I.list ha
 cases qm g
 refine Zp.Bn f m.isList (by simpa using h3) (BQ I hF) hd ?_
 obtain⟨e,j⟩:=sortedAll_at s.heap (rs.map Value.ref) (rs.map Value.ref).toArray
 refine⟨.ref (s.heap.objs.size+1),_,I.laid (a:=s.heap.objs.size+1) (o:=.lst (rs.map V.ref)) (h':=sortedAll s.heap (rs.map Value.ref) (rs.map Value.ref).toArray) (t':=s.toks) (λb o i=>sortedAll_old i) (Nat.le_succ _) ⟨?_,rs.map Value.ref,e,uC rs,?_⟩,rfl,q _ (I.hok.fresh (Nat.le_succ _))⟩
 ·rw[lQm]
  exact QAq h3 (by decide)
 ·simpa using j
end
end L2
namespace DL
open PySem PySem.Spec PyProof.Rows L2
noncomputable def oq:List D->Option (List (Int×Str))
 | []=>some []
 | d::r=>match d with
   |.tup [.int i,.str x]=>(oq r).bind λa=>some ((i,x)::a)
   |_=>none
theorem vw{M:Md}{ρ:List Addr}{H:Hp}:∀{ds:List D} {vs:List V} {is:List (Int×Str)},bf M ρ H ds vs->oq ds=some is->∃rs:List Addr,vs=rs.map V.ref/\yU H rs is
 | [],_,_,h,e=>by cases h;cases e;exact⟨[],rfl,.nil⟩
 | d::ds,_,_,h,e=>by
   simp only[oq] at e
   split at e
   · obtain⟨is,g,e⟩:=aq e
     cases e
     cases h with
     | cons h b=>
       obtain⟨rs,rfl,f⟩:=vw b g
       cases h with
       | tup c a=>
         cases a with
         | cons i a=>
           cases i
           cases a with
           | cons j a=>
             cases j
             cases a
             exact⟨_::rs,rfl,.cons (x:=(_,_)) c f⟩
   · cases e
theorem sS:∀l:List (Int×Str),oq (l.map λp=>.tup [.int p.1,.str p.2])=some l
 | []=>rfl
 |p::l=>by simp only[QDq,oq];rw[sS l];rfl
noncomputable def lI:List D->Option (List Int)
 | []=>some []
 | d::r=>match d with
   |.tup (.tup (.int i::_)::_)=>(lI r).bind λa=>some (i::a)
   |_=>none
theorem vI{M:Md}{ρ:List Addr}{H:Hp}:∀{ds:List D} {vs:List V} {is:List Int},bf M ρ H ds vs->lI ds=some is->∃rs:List Addr,vs=rs.map V.ref/\zm H rs is
 | [],_,_,h,e=>by cases h;cases e;exact⟨[],rfl,.nil⟩
 | d::ds,_,_,h,e=>by
   simp only[lI] at e
   split at e
   · obtain⟨is,j,e⟩:=aq e
     cases e
     cases h with
     | cons h c=>
       obtain⟨rs,rfl,f⟩:=vI c j
       cases h with
       | tup g b=>
         cases b with
         | cons k b=>
           cases k with
           | tup i a=>
             cases a with
             | cons l a=>
               cases l
               exact⟨_::rs,rfl,.cons g i f⟩
   · cases e
section
variable{X:Cx}{a:Expr}{pos:Pos}
open Classical in
noncomputable def Iv(f:dQ):bp:=λc S=>(f c S).bind λ(p,d)=>if p.2.isL=true then(oq p.1).bind λb=>if (∀p∈b,∀q∈b,p.1=q.1->p.2=q.2)/\0<b.length then some (p.1.getD (eG b) .non,d) else none else none
def JK{f:dQ}{p:Pos}{k:Nat}(I:eQ k X.A)(F:X.calm=true)(u:Gl X "min")(R:X.mg "min"=none)(G:PE X a (tQ (md X) f))(o:starEach [a] X.env= [(false,eval a X.env)]:=by rfl):
  PE X (.Call (.Name "min" p) [a] [] pos) (tD (md X) (Iv f)):=
 jQ (fP (DU F (by have:=I.units;omega)) u R (by rfl) (cz G eM o) (he:=o)) λW H Q N=>by
  obtain⟨w,z,S,d,U,ok,e,q⟩:=N
  obtain⟨⟨⟨g,t⟩,J⟩,M,e⟩:=aq e
  dsimp only at e
  split at e
  ·rename_i c
   obtain⟨b,s,e⟩:=aq e
   split at e
   ·rename_i B
    obtain⟨rfl,rfl⟩:=cc e
    refine⟨w,z,S,g,t,J,ok,M,λy a Y Z x C h r=> ?_⟩
    obtain⟨j,rfl,hF⟩:=vw r s
    have hl:=hF.len
    have l:eG b<j.length:=by
     have:=pS (LG b) (b.length-1)
     unfold eG
     omega
    refine⟨a,j,b,rfl,h.sqL c,hF,B.1,by omega,?_⟩
    have n:eG b<g.length:=by have:=r.length;rw[lQm] at this;omega
    obtain⟨v,m,L⟩:=r.get (i:=eG b) (gQe n)
    rw[gQm,gQe l] at m
    cases m
    have P:g.getD (eG b) .non=g[eG b]:=by rw[Qlq,gQe n];rfl
    have K:j.getD (eG b) 0=j[eG b]:=by rw[Qlq,gQe l];rfl
    rw[K]
    refine q _ _ _ x C ?_
    rw[P]
    exact L
   ·cases e
  ·cases e
def KI{c:cq}{S:aF}{f:dQ}{Q:D->aF->Prop}(h:E f c S λp b=>p.2.isL=true/\∃is:List (Int×Str),oq p.1=some is/\((∀p∈is,∀q∈is,p.1=q.1->p.2=q.2)/\0<is.length)/\Q (p.1.getD (eG is) .non) b):E (Iv f) c S Q:=by
 obtain⟨p,b,g,l,is,d,e,q⟩:=h
 exact⟨_,b,by unfold Iv;rw[g];simp only[Qbq];rw[Qhq l,d];simp only[Qbq];rw[Qhq e],q⟩
noncomputable def HH(f:dQ):fK:=λc S=>(f c S).bind λ(p,d)=>if p.2.isL=true then(lI p.1).bind λb=>if b.length<=4/\b.Pairwise (·<·) then some (p.1,d) else none else none
def DW{f:dQ}{p:Pos}{k:Nat}(v:eQ k X.A)(j:Gl X "sorted")(G:X.mg "sorted"=none)(u:PE X a (tQ (md X) f))(g:starEach [a] X.env= [(false,eval a X.env)]:=by rfl):
  PE X (.Call (.Name "sorted" p) [a] [] pos) (tL (md X) (HH f)):=
 jQ (fP (yh (by have:=v.units;omega)) j G PyProof.Rows.boot_sorted (cz u eM g) (he:=g)) λJ H Q C=>by
  obtain⟨m,o,S,d,I,ok,e,q⟩:=C
  obtain⟨⟨⟨w,t⟩,y⟩,z,e⟩:=aq e
  dsimp only at e
  split at e
  ·rename_i c
   obtain⟨B,i,e⟩:=aq e
   split at e
   ·rename_i s
    obtain⟨rfl,rfl⟩:=cc e
    refine⟨m,o,S,w,t,y,ok,z,λn a K L x b h r=> ?_⟩
    obtain⟨F,rfl,hF⟩:=vI r i
    refine⟨a,F,B,rfl,h.sqL c,by have:=hF.len;omega,hF,s.2,λl hl=> ?_⟩
    exact q _ _ _ _ (x.trans (bX.laid hl)) (b.lay hl) (x.grow _ hl) (dg x b hl) bC (r.ext (bX.laid hl))
   ·cases e
  ·cases e
def Jj{c:cq}{S:aF}{f:dQ}{Q:List D->aF->Prop}(h:E f c S λp b=>p.2.isL=true/\∃is:List Int,lI p.1=some is/\(is.length<=4/\is.Pairwise (·<·))/\Q p.1 b):E (HH f) c S Q:=by
 obtain⟨p,b,g,l,is,d,e,q⟩:=h
 exact⟨_,b,by unfold HH;rw[g];simp only[Qbq];rw[Qhq l,d];simp only[Qbq];rw[Qhq e],q⟩
end
end DL
namespace W28
open PySem PySem.Spec L2 DL
abbrev cC:=a_ km
abbrev eg(v:Nat)(k:Int):=a_ km (au v) (cF (.int k))
abbrev gQ(v:Nat)(k:Int):=ar (a_ km (au v) (cF (.int k)))
abbrev jO(x:Str):=ar (cF (.str x))
abbrev bV(k:Int):=cF (.int k)
abbrev aG(k:Nat):=ar (au k)
abbrev cW(k:Int):=ar (cF (.int k))
def qC:cI:=
 (aE (aX 2 (bV 0))
 (aE (fj (aP (a_ ER (au 1) (dW (aU (au 0))))) (aX 2 (cC (au 0) (au 1))) fJ)
 (Jc (bo (ar (a_ t8 (CD Er (aG 2 av)) (CD intOfD (ar (a_ N9 (CD Er (aG 2 av)) (a_ Hz (bV 10) (bV 18))) av))) (ar (a_ pG (a_ t8 (a_ bR (a_ bR (a_ pG (au 2) (bV 2147483629)) (a_ t8 (a_ t8 (bV 7919) (au 1)) (au 1))) (bV 11)) (bV 48271)) (bV 2147483647)) (cW 0 av)))))))
def mJ:dr:=eW 3 qC
def ou:cI:=
 (aE (fj (aP (a_ Nf (eg 0 0) (bV 0))) (aE (aX 2 (a_ pG (eg 0 0) (au 1)))
 (aE (oD (a_ Aj (eg 0 0) (au 1)) (Jw (au 0) (bV 0)))
 (cp (au 2)))) fJ)
 (aE (oD (a_ bR (eg 0 2) (bV 1)) (Jw (au 0) (bV 2)))
 (aE (oD (a_ pG (a_ bR (a_ bR (a_ t8 (eg 0 1) (bV 69621)) (a_ t8 (bV 7919) (eg 0 2))) (bV 1)) (bV 2147483629)) (Jw (au 0) (bV 1)))
 (cp (a_ pG (a_ Aj (a_ pG (a_ t8 (eg 0 1) (a_ bR (a_ pG (eg 0 1) (bV 40009)) (bV 3))) (bV 2147483587)) (bV 11)) (au 1))))))
def az:dr:=eW 3 ou
def lT:cI:=
 (aE (aX 2 (cF (.str "abcdefghijklmnopqrstuvwxyz")))
 (aE (oD (aW (ar (aA az (aG 0 (cW 26 av))) (ar (cC (bB (bo (cW 1 (cW 3 (cW 5 (cW 7 (cW 9 (cW 11 av)))))))) (aA az (aG 0 (cW 6 av)))) av))) (iD (nG 2 (aK (bF 3) (aK (bF 4) df)))))
 (aE (aX 5 (bB (bD [none,some 2,some 3,some 4] (ia (au 1)) (bF 0) bS (a_ bR (cC (au 1) (a_ pG (a_ bR (au 2) (a_ t8 (au 3) (au 0))) (bV 26))) (cC (bB (bo (jO "" (jO "zz" (jO "x" (jO "qqqqqqq" av)))))) (a_ pG (a_ bR (au 2) (au 0)) (bV 4)))))))
 (Jc (Cb (aU (au 5)))))))
def eO:dr:=eW 6 lT
def jk:cI:=
 (aE (aX 1 (bB (fc eO (aG 0 (cW 12 av)))))
 (aE (aX 2 (a_ bR (bV 1) (aA az (aG 0 (cW 4 av)))))
 (aE (z9 3 4 (ar (bB (bo av)) (ar (bB (bo av)) av)))
 (aE (iu (ia (au 2)) (bF 5) (aE (aX 6 (cC (au 1) (cC (bB (bo (ar (a_ pG (a_ bR (au 5) (bV 1)) (au 2)) (aG 5 (ar (aA az (aG 0 (aG 2 av))) av))))) (aA az (aG 0 (cW 3 av))))))
 (aE (aX 7 (aW (ar (aW (jO "do" (ar (cF .non) (aG 6 (gQ 1 9 (cW 0 av)))))) av)))
 (aE (fj (aP (a_ (e_ false) (aA az (aG 0 (cW 4 av))) (bV 0))) (aX 7 (a_ bR (au 7) (aW (ar (aW (jO "tell" (cW 1 av))) av)))) fJ)
 (aE (aX 8 (cC (bB (bo (jO "at once" (jO "when free" av)))) (aA az (aG 0 (cW 2 av)))))
 (sZ (As lR (au 3) (ar (aW (ar (cC (au 1) (au 5)) (aG 8 (ar (aW av) (ar (aW av) (ar (aW (ar (aW (gQ 1 8 (aG 7 av))) (ar (aW (gQ 1 9 (ar (aW (ar (aW (jO "tell" (cW 2 av))) av)) av))) av))) av)))))) av))))))))
 (aE (iu (ia (a_ bR (bV 1) (aA az (aG 0 (cW 4 av))))) (bF 5) (aE (aX 9 (cC (au 1) (cC (bB (bo (ar (a_ pG (au 5) (au 2)) (ar (aA az (aG 0 (aG 2 av))) av)))) (aA az (aG 0 (cW 2 av))))))
 (aE (aX 7 (aW (ar (aW (jO "do" (ar (cF .non) (aG 9 (ar (cC (bB (bo (gQ 1 8 (gQ 1 8 (gQ 1 9 av))))) (aA az (aG 0 (cW 3 av)))) (cW 0 av)))))) av)))
 (sZ (As lR (au 4) (ar (aW (ar (aW av) (ar (a_ yR (au 7) (a_ bR (bV 1) (CD intOfD (ar (a_ (e_ false) (aA az (aG 0 (cW 4 av))) (bV 0)) av)))) av))) av))))))
 (cp (aW (ar (tupQ (dB (aU (au 3)))) (ar (aW av) (ar (aW av) (ar (tupQ (dB (aU (au 4)))) av)))))))))))
def eT:dr:=eW 10 jk
def i7(self:dr):cI:=
 (aE (aX 4 (aA az (aG 0 (cW 8 av))))
 (aE (fj (Hy (aP (a_ (e_ false) (au 3) (bV 0))) (aP (a_ ER (au 4) (bV 3)))) (aE (fj (jl (aP (gh (aU (au 1)))) (aP (a_ (e_ true) (au 4) (bV 0)))) (cp (cC (au 1) (aA az (aG 0 (ar (dW (aU (au 1))) av))))) fJ)
 (cp (aA az (aG 0 (cW 3 av))))) fJ)
 (aE (fj (jl (aP (gh (aU (au 2)))) (aP (a_ (e_ false) (au 4) (bV 3)))) (cp (aW (jO "waits" (ar (cC (au 2) (aA az (aG 0 (ar (dW (aU (au 2))) av)))) av)))) fJ)
 (aE (aX 5 (aA self (aG 0 (aG 1 (aG 2 (ar (a_ Ab (au 3) (bV 1)) av))))))
 (aE (fj (aP (a_ (e_ false) (au 4) (bV 4))) (cp (aW (jO "not" (aG 5 av)))) fJ)
 (aE (aX 6 (cC (bB (bo (jO "plus" (jO "minus" (jO "less" (jO "same" (jO "both" av))))))) (aA az (aG 0 (cW 5 av)))))
 (cp (aW (aG 6 (aG 5 (ar (aA self (aG 0 (aG 1 (aG 2 (ar (a_ Ab (au 3) (bV 1)) av))))) av)))))))))))
def a0:Nat->dr
 |0=>λ_ _=>none
 |n+1=>eW 7 (i7 (a0 n))
def kQ:cI:=
 (aE (aX 5 (aA az (aG 0 (cW 12 av))))
 (aE (fj (jl (aP (a_ ER (au 5) (bV 6))) (aP (gh (aU (au 4))))) (aE (oD (cC (au 4) (aA az (aG 0 (ar (dW (aU (au 4))) av)))) (iD (nG 2 (aK (bF 6) (aK (bF 7) df)))))
 (aE (aX 8 (cC (bB (xp (aU (au 1)) (fX (bo (ar (cF .non) av))))) (aA az (aG 0 (ar (a_ bR (dW (aU (au 1))) (bV 1)) av)))))
 (cp (aW (jO "do" (aG 8 (aG 6 (aG 7 (ar (aA (a0 3) (aG 0 (aG 1 (ar (bB (bo av)) (cW 1 av))))) av))))))))) fJ)
 (aE (fj (jl (aP (a_ ER (au 5) (bV 9))) (aP (gh (aU (au 2))))) (aE (z9 9 10 (ar (cC (au 2) (aA az (aG 0 (ar (dW (aU (au 2))) av)))) (ar (cC (au 2) (aA az (aG 0 (ar (dW (aU (au 2))) av)))) av)))
 (cp (cC (bB (bo (ar (aW (jO "take" (aG 9 av))) (ar (aW (jO "give" (aG 9 av))) (ar (aW (jO "pass" (aG 9 (aG 10 av)))) av))))) (aA az (aG 0 (cW 3 av)))))) fJ)
 (aE (aX 11 (a_ bR (a_ bR (eg 3 0) (bV 1)) (aA az (aG 0 (ar (a_ Ab (eg 3 1) (eg 3 0)) av)))))
 (aE (fj (aP (a_ (e_ false) (au 5) (bV 9))) (cp (aW (jO "unless" (ar (aA (a0 3) (aG 0 (aG 1 (ar (bB (bo av)) (cW 2 av))))) (ar (cC (bB (bo (aG 11 (aG 11 (cW 0 av))))) (aA az (aG 0 (cW 3 av)))) av))))) fJ)
 (aE (fj (aP (a_ (e_ false) (au 5) (bV 10))) (cp (aW (jO "go" (ar (cC (bB (bo (aG 11 (cW 0 av)))) (aA az (aG 0 (cW 2 av)))) av)))) fJ)
 (aE (fj (Hy (aP (eqQ false (aU (au 1)) (fX (bo av)))) (aP (a_ (e_ false) (aA az (aG 0 (cW 2 av))) (bV 0)))) (cp (aW (jO "say" (ar (aA (a0 3) (aG 0 (aG 1 (ar (bB (bo av)) (cW 1 av))))) av)))) fJ)
 (cp (aW (jO "put" (ar (cC (au 1) (aA az (aG 0 (ar (dW (aU (au 1))) av)))) (ar (aA (a0 3) (aG 0 (aG 1 (ar (bB (bo av)) (cW 2 av))))) av))))))))))))
def eK:dr:=eW 12 kQ
def h_:cI:=
 (aE (oD (au 1) (iD (nG 3 (aK (bF 4) (aK (bF 5) (aK (bF 6) df))))))
 (aE (aX 7 (bB (xp (aU (au 4)) (fX (bo (jO "given" av))))))
 (aE (aX 8 (aA az (aG 0 (cW 10 av))))
 (aE (fj (jl (aP (a_ ER (au 8) (bV 3))) (aP (gh (aU (au 5))))) (cp (aW (jO "wait" (ar (cC (au 5) (aA az (aG 0 (ar (dW (aU (au 5))) av)))) (ar (aA (a0 3) (aG 0 (aG 7 (aG 5 (cW 1 av))))) av))))) fJ)
 (aE (fj (jl (aP (a_ ER (au 8) (bV 5))) (aP (gh (aU (au 5))))) (aE (aX 9 (cC (bB (bo (jO "call" (ar (cC (bB (bo (jO "call" (jO "all" av)))) (CD intOfD (ar (a_ (e_ false) (au 6) (cF (.str "when free"))) av))) av)))) (aA az (aG 0 (cW 2 av)))))
 (cp (aW (aG 9 (ar (cC (au 5) (aA az (aG 0 (ar (dW (aU (au 5))) av)))) av))))) fJ)
 (aE (fj (jl (aP (a_ ER (au 8) (bV 7))) (aP (gh (aU (au 3))))) (aE (oD (cC (au 3) (aA az (aG 0 (ar (dW (aU (au 3))) av)))) (iD (nG 2 (aK (bF 10) (aK (bF 11) df)))))
 (aE (aX 12 (cC (bB (xp (aU (au 4)) (fX (bo (ar (cF .non) av))))) (aA az (aG 0 (ar (a_ bR (dW (aU (au 4))) (bV 1)) av)))))
 (cp (aW (jO "do" (aG 12 (aG 10 (aG 11 (ar (aA (a0 3) (aG 0 (aG 7 (aG 5 (cW 1 av))))) av))))))))) fJ)
 (aE (fj (aP (a_ (e_ false) (au 8) (bV 7))) (cp (aW (jO "tell" (ar (aA (a0 3) (aG 0 (aG 7 (aG 5 (cW 1 av))))) av)))) fJ)
 (aE (fj (aP (a_ (e_ false) (au 8) (bV 8))) (aE (aX 13 (a_ bR (a_ bR (eg 2 0) (bV 1)) (aA az (aG 0 (ar (a_ Ab (eg 2 1) (eg 2 0)) av)))))
 (cp (aW (jO "unless" (ar (aA (a0 3) (aG 0 (aG 7 (aG 5 (cW 2 av))))) (ar (cC (bB (bo (aG 13 (aG 13 (cW 0 av))))) (aA az (aG 0 (cW 3 av)))) av)))))) fJ)
 (aE (fj (aP (eqQ false (aU (au 4)) (fX (bo av)))) (cp (aW (jO "tell" (jO "given" av)))) fJ)
 (cp (aW (jO "put" (ar (cC (au 4) (aA az (aG 0 (ar (dW (aU (au 4))) av)))) (ar (aA (a0 3) (aG 0 (aG 7 (aG 5 (cW 2 av))))) av))))))))))))))
def eJ:dr:=eW 14 h_
def k0:cI:=
 (aE (aX 2 (bB (fc eO (aG 0 (cW 24 av)))))
 (aE (aX 3 (cC (bB (bo (cW 1 (cW 2 (cW 1 (cW 2 (cW 3 (cW 0 av)))))))) (aA az (aG 0 (cW 6 av)))))
 (aE (aX 4 (bB (bD [none,some 0] (ia (au 3)) (bF 0) bS (a_ bR (bV 1) (aA az (aG 1 (cW 2 av)))))))
 (aE (aX 5 (bB (bo av)))
 (aE (iu (ia (au 3)) (bF 6) (sZ (wM (au 5) (fX (bD [none,some 2,some 6] (Il (bV 1) (cC (au 4) (au 6))) (bF 0) bS (aW (ar (cC (au 1) (au 2)) (ar (cC (au 1) (a_ bR (bV 8) (au 0))) av))))))))
 (aE (oD (aW (ar (bB (bo av)) (ar (bB (bo av)) av))) (iD (nG 2 (aK (bF 7) (aK (bF 8) df)))))
 (aE (iu (ia (au 3)) (bF 6) (aE (aX 9 (bB (vd (fX (vd (aU (au 2)) (jH (bV 12)) jP)) jP (jH (aA az (aG 0 (cW 3 av)))))))
 (aE (aX 10 (bB (vd (fX (vd (aU (au 2)) (jH (cC (bB (bo (cW 0 (cW 16 av)))) (aA az (aG 0 (cW 2 av))))) jP)) jP (jH (cC (bB (bo (cW 1 (cW 0 (cW 1 (cW 2 av)))))) (aA az (aG 0 (cW 4 av))))))))
 (aE (aX 11 (cC (bB (bo (jO "at once" (jO "when free" av)))) (aA az (aG 0 (cW 2 av)))))
 (aE (aX 12 (bB (bo av)))
 (aE (iu (ia (cC (au 4) (au 6))) (bF 13) (aE (aX 14 (a_ bR (bV 1) (aA az (aG 0 (cW 3 av)))))
 (aE (aX 15 (bB (FN (aU (au 5)) (CD intOfD (ar (a_ (e_ false) (au 13) (bV 0)) av)))))
 (aE (aX 16 (bB (bD [none,some 0,some 9,some 10,some 11,some 14,some 15] (ia (au 14)) (bF 0) bS (aA eJ (aG 1 (ar (aW (aG 2 (aG 3 (aG 4 av)))) (ar (aW (aG 0 (aG 5 av))) (aG 6 av))))))))
 (sZ (As lR (au 12) (ar (aW (ar (cC (au 2) (a_ bR (bV 8) (au 13))) (ar (tupQ (dB (aU (au 16)))) av))) av)))))))
 (aE (sZ (wM (au 8) (fX (bD [none,some 2,some 6] (jq (aU (au 12))) (bF 0) bS (aW (ar (cC (au 1) (au 2)) (gQ 0 0 av)))))))
 (aE (aX 17 (tupQ (fX (bD [none,some 0] (jq (aU (au 9))) (bF 0) bS (aW (aG 0 (ar (aA az (aG 1 (cW 3 av))) av)))))))
 (aE (aX 18 (tupQ (fX (bD [none,some 0] (jq (aU (au 10))) (bF 0) bS (aW (aG 0 (ar (cC (bB (bo (jO "row" (jO "turns" av)))) (aA az (aG 1 (cW 2 av)))) av)))))))
 (sZ (As lR (au 7) (ar (aW (ar (cC (au 2) (au 6)) (aG 11 (aG 17 (aG 18 (ar (tupQ (dB (aU (au 12)))) av)))))) av))))))))))))
 (aE (aX 19 (tupQ (fX (bD [none,some 0] (jq (fX (vd (fX (vd (aU (au 2)) (jH (bV 4)) jP)) jP (jH (cC (bB (bo (cW 0 (cW 1 (cW 2 (cW 1 av)))))) (aA az (aG 0 (cW 4 av)))))))) (bF 0) bS (aW (aG 0 (ar (aA az (aG 1 (cW 2 av))) av)))))))
 (aE (aX 20 (tupQ (fX (bD [none,some 0] (jq (fX (vd (fX (vd (aU (au 2)) (jH (bV 20)) jP)) jP (jH (cC (bB (bo (cW 0 (cW 0 (cW 1 av))))) (aA az (aG 0 (cW 3 av)))))))) (bF 0) bS (aW (aG 0 (ar (aA az (aG 1 (cW 2 av))) av)))))))
 (aE (aX 21 (bB (bo av)))
 (aE (iu (ia (cC (bB (bo (cW 2 (cW 2 (cW 3 (cW 1 (cW 2 (cW 4 av)))))))) (aA az (aG 0 (cW 6 av))))) (bF 6) (aE (aX 22 (bB (vd (fX (vd (aU (au 2)) (jH (bV 22)) jP)) jP (jH (aA az (aG 0 (cW 2 av)))))))
 (aE (aX 14 (a_ bR (bV 1) (aA az (aG 0 (aG 1 av)))))
 (aE (aX 23 (bB (xp (aU (au 22)) (fX (bD [none,none] (jq (aU (au 20))) (iD (nG 2 (aK (bF 0) (aK (bF 1) df)))) bS (au 0))))))
 (aE (aX 16 (bB (bD [none,some 0,some 8,some 14,some 19,some 23] (ia (au 14)) (bF 0) bS (aA eK (aG 1 (aG 5 (ar (bB (bD [none,none] (jq (aU (au 4))) (iD (nG 2 (aK (bF 0) (aK (bF 1) df)))) bS (au 0))) (ar (aW (aG 0 (aG 3 av))) (aG 2 av)))))))))
 (sZ (As lR (au 21) (ar (aW (ar (tupQ (fX (bD [none] (jq (aU (au 22))) (bF 0) bS (aW (aG 0 (cW 0 av)))))) (ar (tupQ (dB (aU (au 16)))) av))) av))))))))
 (cp (aW (ar (tupQ (dB (aU (au 7)))) (aG 19 (aG 20 (ar (tupQ (dB (aU (au 21)))) av)))))))))))))))))
def iJ:dr:=eW 24 k0
def kA:cI:=
 (aE (fj (aP (a_ (e_ false) (aA az (aG 0 (cW 4 av))) (bV 0))) (cp (aA iJ (aG 0 (ar (a_ bR (bV 1) (aA az (aG 0 (cW 4 av)))) av)))) fJ)
 (cp (aA eT (aG 0 av))))
def fO:dr:=eW 1 kA
def jV:cI:=
 (aE (aX 2 Nj)
 (aE (iu (AR (aU (eg 0 0)) (aU (eg 1 0))) (iD (nG 2 (aK (bF 3) (aK (iD (nG 5 (aK (bF 4) (aK (bF 5) (aK (bF 6) (aK (bF 7) (aK (bF 8) df))))))) df)))) (iu (jq (aU (au 6))) (bF 9) (KU (au 2) (au 9) (aW (gQ 3 0 (aG 5 av))))))
 (cp (au 2))))
def gZ:dr:=Lj 10 jV
def sk:cI:=
 (aE (aX 2 (bB (bo av)))
 (aE (aX 3 (au 1))
 (aE (EH (jl (aP (EU (au 3) (au 0))) (jl (aP (a_ N9 (au 3) (au 1))) (aP (a_ ER (dW (aU (au 2))) (Ht (au 0)))))) (aE (oD (Jb (au 0) (au 3)) (iD (nG 2 (aK (bF 4) (aK (bF 5) df)))))
 (aE (sZ (As lR (au 2) (ar (aW (aG 3 (aG 4 av))) av)))
 (aE (fj (aP (a_ (e_ false) (au 5) (au 1))) (cp (tupQ (dB (aU (au 2))))) fJ)
 (aX 3 (au 5))))) 5)
 (cp (cF .non)))))
def jW:dr:=eW 6 sk
def Bj:cI:=
 (aE (aX 2 (aA gZ (aG 0 (aG 1 av))))
 (aE (aX 3 (bB (bD [none,some 2] (ia (dW (aU (eg 1 3)))) (bF 0) bS (aA jW (aG 1 (aG 0 av))))))
 (cp (tupQ (fX (bD [none] (jq (aU (au 3))) (bF 0) (aP (a_ (wY true) (au 0) (cF .non))) (au 0)))))))
def nU:dr:=eW 4 Bj
def nO:cI:=
 (cp (tupQ (fX (bD [none,none] (jq (aU (au 0))) (iD (nG 2 (aK (bF 0) (aK (bF 1) df)))) bS (au 1)))))
def gq:dr:=eW 1 nO
def k_:cI:=
 (aE (oD (au 0) (iD (nG 5 (aK (bF 1) (aK (bF 2) (aK (bF 3) (aK (bF 4) (aK (bF 5) df))))))))
 (cp (aW (ar (aA gq (aG 3 av)) (ar (cF (.int (-1))) (ar (aW av) (ar (aW av) (ar (tupQ (fX (bD [none] (jq (aU (au 4))) (bF 0) bS (aW av)))) av))))))))
def iU:dr:=eW 6 k_
def Bv:cI:=
 (aE (oD (au 0) (iD (nG 4 (aK (bF 1) (aK (bF 2) (aK (bF 3) (aK (bF 4) df)))))))
 (aE (aX 5 (aW (ar (cF (.int (-1))) (ar (cF (.int (-1))) (cW 0 (cW 0 (cW 0 av)))))))
 (cp (aW (ar (tupQ (fX (bD [none] (jq (aU (au 1))) (bF 0) bS (aA iU (aG 0 av))))) (ar (tupQ (fX (bD [none,none] (jq (aU (au 2))) (iD (nG 2 (aK (bF 0) (aK (bF 1) df)))) bS (aW (aG 1 (ar (aW av) av)))))) (ar (aA gq (aG 3 av)) (ar (tupQ (fX (bD [none,none,some 5] (jq (aU (au 4))) (iD (nG 2 (aK (bF 0) (aK (bF 1) df)))) bS (aW (ar (aA gq (aG 0 av)) (ar (aW (aG 2 av)) av)))))) av))))))))
def ug:dr:=eW 6 Bv
def qt:cI:=
 (Jc (bD [none,none] (jq (aU (au 0))) (iD (nG 2 (aK (bF 0) (aK (bF 1) df)))) bS (au 1)))
def mw:dr:=eW 1 qt
def ib:cI:=
 (aE (aX 1 (bB (bo av)))
 (aE (iu (jq (aU (eg 0 1))) (iD (nG 2 (aK (bF 2) (aK (bF 3) df)))) (sZ (vt (au 1) (aU (au 3)))))
 (aE (iu (jq (aU (eg 0 0))) (iD (nG 5 (aK (bF 4) (aK (bF 5) (aK (bF 3) (aK (bF 6) (aK (bF 7) df))))))) (aE (sZ (vt (au 1) (aU (a_ bR (au 3) (au 6)))))
 (iu (jq (aU (au 7))) (bF 8) (sZ (wM (au 1) (fX (fc mw (aG 8 av))))))))
 (cp (au 1)))))
def eN:dr:=eW 9 ib
def kY:cI:=
 (cp (cC (cC (cC (eg 0 3) (au 1)) (bV 1)) (xA (bV 1))))
def cT:dr:=eW 2 kY
def qU:cI:=
 (aE (z9 3 4 (gQ 2 0 (gQ 2 1 av)))
 (aE (fj (aP (a_ (e_ false) (au 3) (cF (.int (-1))))) (cp (cC (cC (eg 0 3) (au 1)) (bV 1))) fJ)
 (cp (cC (cC (cC (cC (eg 0 0) (au 3)) (bV 4)) (au 4)) (bV 1)))))
def fI:dr:=eW 5 qU
def iq:cI:=
 (aE (aX 3 (aA cT (aG 1 (aG 2 av))))
 (cp (qK (a_ (e_ false) (eg 3 0) (cF (.int (-1)))) (a_ (e_ false) (eg 3 2) (dW (aU (aA fI (aG 0 (aG 2 (aG 3 av))))))))))
def fS:dr:=eW 4 iq
def p8:cI:=
 (aE (aX 2 (bB (fc eN (aG 1 av))))
 (Jc (bD [none,some 0,some 1,some 2] (ia (dW (aU (eg 1 3)))) (bF 0) (jl (aP (GW true (au 0) (aU (au 3)))) (x9 (kL (aA fS (aG 1 (aG 2 (aG 0 av))))))) (au 0))))
def jE:dr:=eW 3 p8
def qv:cI:=
 (Jc (bD [none] (jq (aU (au 0))) (bF 0) bS (eg 0 0)))
def d0:dr:=eW 1 qv
def qI:cI:=
 (cp (Kc (fX (fc d0 (aG 0 av))) (au 1)))
def da:dr:=eW 2 qI
def n0:cI:=
 (cp (a_ bR (a_ bR (tN (au 0) jP (jH (au 1))) (aW (aG 2 av))) (tN (au 0) (jH (a_ bR (au 1) (bV 1))) jP)))
def dv:dr:=eW 3 n0
def nH:cI:=
 (cp (a_ bR (tN (au 0) jP (jH (bV 3))) (aW (ar (aA dv (gQ 0 3 (aG 1 (ar (aW (aG 2 (aG 3 av))) av)))) av))))
def fA:dr:=eW 4 nH
def nT:cI:=
 (cp (a_ bR (aW (ar (aA dv (gQ 0 0 (aG 1 (aG 2 av)))) av)) (tN (au 0) (jH (bV 1)) jP)))
def c8:dr:=eW 3 nT
def j_:cI:=
 (aE (aX 5 (cC (aA cT (aG 1 (aG 2 av))) (bV 0)))
 (aE (fj (aP (a_ (e_ true) (au 5) (cF (.int (-1))))) (aE (aX 6 (aA da (ar (cC (cC (eg 0 0) (au 5)) (bV 2)) (aG 3 av))))
 (aE (aX 7 (aA dv (ar (cC (cC (eg 1 0) (au 5)) (bV 0)) (aG 6 (aG 4 av)))))
 (cp (aA c8 (aG 1 (aG 5 (ar (a_ bR (aW (aG 7 av)) (tN (cC (eg 1 0) (au 5)) (jH (bV 1)) jP)) av))))))) fJ)
 (aE (fj (aP (GW false (au 3) (fX (fc d0 (gQ 0 2 av))))) (aE (aX 8 (aA dv (gQ 1 2 (ar (aA da (gQ 0 2 (aG 3 av))) (aG 4 av)))))
 (cp (aW (gQ 1 0 (gQ 1 1 (aG 8 (gQ 1 3 av))))))) fJ)
 (aE (oD (cC (eg 1 3) (au 2)) (iD (nG 2 (aK (bF 7) (aK (bF 9) df)))))
 (aE (aX 6 (aA da (ar (cC (cC (eg 0 3) (au 2)) (bV 0)) (aG 3 av))))
 (cp (aA fA (aG 1 (aG 2 (ar (aA dv (aG 7 (aG 6 (aG 4 av)))) (aG 9 av)))))))))))
def fq:dr:=eW 10 j_
def jb:cI:=
 (aE (fj (aP (a_ (e_ false) (au 0) (cF (.str "plus")))) (cp (CD minD (ar (a_ bR (au 1) (au 2)) (ar (cF (.int (9))) av)))) fJ)
 (aE (fj (aP (a_ (e_ false) (au 0) (cF (.str "minus")))) (cp (CD maxD (ar (a_ Ab (au 1) (au 2)) (cW 0 av)))) fJ)
 (aE (fj (aP (a_ (e_ false) (au 0) (cF (.str "less")))) (cp (wZ (aP (a_ ER (au 1) (au 2))) (bV 1) (bV 0))) fJ)
 (aE (fj (aP (a_ (e_ false) (au 0) (cF (.str "same")))) (cp (wZ (aP (a_ (e_ false) (au 1) (au 2))) (bV 1) (bV 0))) fJ)
 (cp (wZ (jl (aP (a_ (e_ true) (au 1) (bV 0))) (aP (a_ (e_ true) (au 2) (bV 0)))) (bV 1) (bV 0)))))))
def gw:dr:=eW 3 jb
def qN(self:dr):cI:=
 (aE (fj (kL (kg "int" (au 0))) (cp (au 0)) fJ)
 (aE (fj (kL (kg "str" (au 0))) (cp (Jb (au 1) (au 0))) fJ)
 (aE (fj (aP (a_ (e_ false) (eg 0 0) (cF (.str "waits")))) (cp (wZ (aP (a_ Nf (Jb (au 2) (eg 0 1)) (bV 0))) (bV 1) (bV 0))) fJ)
 (aE (aX 3 (aA self (gQ 0 1 (aG 1 (aG 2 av)))))
 (aE (fj (aP (a_ (e_ false) (eg 0 0) (cF (.str "not")))) (cp (wZ (aP (a_ (e_ false) (au 3) (bV 0))) (bV 1) (bV 0))) fJ)
 (cp (aA gw (gQ 0 0 (aG 3 (ar (aA self (gQ 0 2 (aG 1 (aG 2 av)))) av))))))))))
def gc:Nat->dr
 |0=>λ_ _=>none
 |n+1=>eW 4 (qN (gc n))
def my:cI:=
 (aE (aX 4 (aA cT (aG 1 (aG 2 av))))
 (aE (aX 5 (eg 4 0))
 (aE (fj (aP (a_ (e_ false) (au 5) (cF (.int (-1))))) (aE (aX 6 (Lm (fX (fc d0 (gQ 0 2 av))) (aU (eg 1 2))))
 (aE (sZ (Ia (au 6) (Lm (fX (fc d0 (ar (cC (cC (eg 0 3) (au 2)) (bV 0)) av))) (aU (cC (cC (eg 1 3) (au 2)) (bV 0))))))
 (cp (aA (gc 6) (aG 3 (aG 6 (ar Nj av))))))) fJ)
 (aE (aX 6 (Lm (fX (fc d0 (ar (cC (cC (eg 0 0) (au 5)) (bV 2)) av))) (aU (cC (cC (eg 1 0) (au 5)) (bV 0)))))
 (aE (KU (au 6) (cF (.str "given")) (eg 4 3))
 (aE (Mw 7 (p6 [none,none] (AR (fX (fc d0 (ar (cC (cC (eg 0 0) (au 5)) (bV 3)) av))) (aU (cC (cC (eg 1 0) (au 5)) (bV 4)))) (iD (nG 2 (aK (bF 0) (aK (bF 1) df)))) bS (au 0) (dW (aU (au 1)))))
 (cp (aA (gc 6) (aG 3 (aG 6 (aG 7 av)))))))))))
def dD:dr:=eW 8 my
def wD:cI:=
 (cp (aA fq (aG 0 (aG 1 (aG 2 (gQ 3 1 (ar (aA dD (aG 0 (aG 1 (aG 2 (gQ 3 2 av))))) av)))))))
def rY:dr:=eW 4 wD
def f_:cI:=
 (aE (oD (cC (eg 0 3) (au 1)) (iD (nG 2 (aK (bF 3) (aK (bF 4) df)))))
 (cp (aA fA (aG 0 (aG 1 (aG 3 (ar (a_ bR (tN (au 4) jP (jH (xA (bV 1)))) (aW (aG 2 av))) av)))))))
def dE:dr:=eW 5 f_
def wu:cI:=
 (aE (aX 3 (aA cT (aG 0 (aG 1 av))))
 (cp (aA dE (aG 0 (aG 1 (ar (a_ bR (a_ bR (tN (au 3) jP (jH (bV 2))) (aW (aG 2 av))) (tN (au 3) (jH (bV 3)) jP)) av))))))
def kr:dr:=eW 4 wu
def nq:cI:=
 (aE (fj (aP (a_ (e_ false) (aA dD (aG 0 (aG 1 (aG 2 (gQ 3 1 av))))) (bV 0))) (cp (aA kr (aG 1 (aG 2 (gQ 3 2 av))))) fJ)
 (cp (au 1)))
def ko:dr:=eW 4 nq
def A0:cI:=
 (cp (aA kr (aG 1 (aG 2 (gQ 3 1 av)))))
def yd:dr:=eW 4 A0
def uH:cI:=
 (aE (oD (cC (eg 0 0) (au 1)) (iD (nG 5 (aK (bF 3) (aK (bF 4) (aK (bF 5) (aK (bF 6) (aK (bF 7) df))))))))
 (aE (fj (aP (a_ (e_ false) (au 4) (cF (.int (-1))))) (cp (aA c8 (aG 0 (aG 1 (ar (aW (aG 3 (aG 2 (aG 5 (aG 6 (aG 7 av)))))) av))))) fJ)
 (cp (aA c8 (aG 0 (aG 1 (ar (aW (aG 3 (aG 4 (ar (a_ bR (au 5) (aW (aG 2 av))) (aG 6 (aG 7 av)))))) av)))))))
def l9:dr:=eW 8 uH
def AS:cI:=
 (aE (aX 4 (aA da (gQ 0 0 (gQ 3 2 av))))
 (aE (aX 5 (aA da (ar (cC (cC (eg 0 0) (au 4)) (bV 4)) (gQ 3 3 av))))
 (aE (aX 6 (aW (aG 4 (aG 5 (cW 0 (ar (aA dD (aG 0 (aG 1 (aG 2 (gQ 3 4 av))))) (cW 0 av)))))))
 (aE (oD (cC (eg 1 3) (au 2)) (iD (nG 2 (aK (bF 7) (aK (bF 8) df)))))
 (cp (aA l9 (ar (aA fA (aG 1 (aG 2 (aG 7 (ar (a_ bR (au 8) (aW (aG 6 av))) av))))) (aG 4 (aG 2 av)))))))))
def wK:dr:=eW 9 AS
def tO:cI:=
 (aE (aX 4 (cC (aA cT (aG 1 (aG 2 av))) (bV 0)))
 (cp (aW (aG 4 (ar (aA da (ar (cC (cC (eg 0 0) (au 4)) (bV 3)) (aG 3 av))) av)))))
def jG:dr:=eW 5 tO
def nW:cI:=
 (aE (aX 4 (cC (eg 0 0) (au 1)))
 (cp (aA c8 (aG 0 (aG 1 (ar (a_ bR (tN (au 4) jP (jH (bV 4))) (aW (ar (aA dv (gQ 4 4 (aG 2 (aG 3 av)))) av))) av))))))
def fu:dr:=eW 5 nW
def AZ:cI:=
 (aE (oD (cC (eg 0 0) (au 1)) (iD (nG 5 (aK (bF 2) (aK (bF 3) (aK (bF 4) (aK (bF 5) (aK (bF 6) df))))))))
 (aE (fj (kL (au 5)) (cp (aA c8 (aG 0 (aG 1 (ar (aW (aG 2 (gQ 5 0 (aG 4 (ar (tN (au 5) (jH (bV 1)) jP) (aG 6 av)))))) av))))) fJ)
 (aE (fj (kL (au 4)) (cp (aA c8 (aG 0 (aG 1 (ar (aW (aG 2 (gQ 4 0 (ar (tN (au 4) (jH (bV 1)) jP) (aG 5 (aG 6 av)))))) av))))) fJ)
 (cp (aA c8 (aG 0 (aG 1 (ar (aW (aG 2 (ar (cF (.int (-1))) (aG 4 (aG 5 (aG 6 av)))))) av))))))))
def qw:dr:=eW 7 AZ
def uB:cI:=
 (aE (oD (aA jG (aG 0 (aG 1 (aG 2 (gQ 3 1 av))))) (iD (nG 2 (aK (bF 4) (aK (bF 5) df)))))
 (aE (aX 6 (bV 0))
 (aE (fj (aP (a_ (e_ false) (cC (cC (cC (cC (eg 0 0) (au 4)) (bV 3)) (au 5)) (bV 1)) (cF (.str "turns")))) (aX 6 (aA dD (aG 0 (aG 1 (aG 2 (gQ 3 2 av)))))) fJ)
 (aE (aX 7 (cC (cC (cC (eg 1 0) (au 4)) (bV 4)) (au 5)))
 (aE (aX 8 (dW (fX (bD [none,none,some 6] (jq (aU (au 7))) (iD (nG 2 (aK (bF 0) (aK (bF 1) df)))) (aP (a_ N3 (au 0) (au 2))) (au 0)))))
 (aE (aX 9 (aA fu (aG 1 (aG 4 (aG 5 (ar (a_ bR (a_ bR (tN (au 7) jP (jH (au 8))) (aW (ar (aW (aG 6 (aG 2 av))) av))) (tN (au 7) (jH (au 8)) jP)) av))))))
 (cp (aA qw (aG 9 (aG 4 av))))))))))
def pE:dr:=eW 10 uB
def um:cI:=
 (aE (oD (aA jG (aG 0 (aG 1 (aG 2 (gQ 3 1 av))))) (iD (nG 2 (aK (bF 4) (aK (bF 5) df)))))
 (aE (aX 6 (cC (cC (cC (eg 1 0) (au 4)) (bV 4)) (au 5)))
 (aE (fj (x9 (kL (au 6))) (cp (au 1)) fJ)
 (aE (aX 7 (aA fu (aG 1 (aG 4 (aG 5 (ar (tN (au 6) (jH (bV 1)) jP) av))))))
 (aE (fj (aP (a_ (e_ false) (cC (cC (eg 0 0) (au 4)) (bV 1)) (cF (.str "when free")))) (cp (au 7)) fJ)
 (aE (oD (cC (eg 7 0) (au 4)) (iD (nG 5 (aK (bF 8) (aK (bF 9) (aK (bF 10) (aK (bF 11) (aK (bF 12) df))))))))
 (cp (aA c8 (aG 7 (aG 4 (ar (aW (aG 8 (ar (cC (eg 6 0) (bV 1)) (aG 10 (ar (a_ bR (au 11) (aW (aG 2 av))) (aG 12 av)))))) av)))))))))))
def pI:dr:=eW 13 um
def w5:cI:=
 (aE (oD (aA jG (aG 0 (aG 1 (aG 2 (gQ 3 1 av))))) (iD (nG 2 (aK (bF 4) (aK (bF 5) df)))))
 (cp (aA fu (aG 1 (aG 4 (aG 5 (ar (aW av) av)))))))
def sf:dr:=eW 6 w5
def sW:cI:=
 (aE (aX 4 (aA dD (aG 0 (aG 1 (aG 2 (gQ 3 1 av))))))
 (cp (aA dE (aG 1 (aG 2 (ar (a_ bR (tN (aA cT (aG 1 (aG 2 av))) jP (jH (bV 4))) (aW (aG 4 av))) av))))))
def pj:dr:=eW 5 sW
def oz:cI:=
 (cp (a_ bR (aW (gQ 0 0 (ar (aA dv (gQ 0 1 (aG 1 (aG 2 av)))) av))) (tN (au 0) (jH (bV 2)) jP)))
def fB:dr:=eW 3 oz
def Bs:cI:=
 (aE (aX 4 (aA da (gQ 0 1 (aG 3 av))))
 (aE (oD (cC (eg 1 1) (au 4)) (iD (nG 2 (aK (bF 5) (aK (bF 6) df)))))
 (aE (fj (aP (a_ Nf (au 5) (bV 0))) (cp (aA fB (aG 1 (aG 4 (ar (aW (ar (a_ Ab (au 5) (bV 1)) (aG 6 av))) av))))) fJ)
 (cp (aA fB (aG 1 (aG 4 (ar (aW (aG 5 (ar (a_ bR (au 6) (aW (aG 2 av))) av))) av))))))))
def tq:dr:=eW 7 Bs
def tw:cI:=
 (cp (aA tq (aG 0 (aG 1 (aG 2 (gQ 3 1 av))))))
def pH:dr:=eW 4 tw
def kU:cI:=
 (aE (aX 3 (aA da (gQ 0 1 (aG 2 av))))
 (aE (oD (cC (eg 1 1) (au 3)) (iD (nG 2 (aK (bF 4) (aK (bF 5) df)))))
 (aE (fj (kL (au 5)) (cp (aA fB (aG 1 (aG 3 (ar (aW (aG 4 (ar (tN (au 5) (jH (bV 1)) jP) av))) av))))) fJ)
 (cp (aA fB (aG 1 (aG 3 (ar (aW (ar (CD minD (ar (a_ bR (au 4) (bV 1)) (ar (cF (.int (9))) av))) (aG 5 av))) av))))))))
def gG:dr:=eW 6 kU
def tm:cI:=
 (cp (aA gG (aG 0 (aG 1 (gQ 3 1 av)))))
def pT:dr:=eW 4 tm
def uj:cI:=
 (cp (aA tq (aG 0 (ar (aA gG (aG 0 (aG 1 (gQ 3 1 av)))) (aG 2 (gQ 3 2 av))))))
def pB:dr:=eW 4 uj
def wR:cI:=
 (cp (au 1))
def si:dr:=eW 4 wR
noncomputable def mD:List (Str×Str):= [("put","by_put"),("unless","by_unless"),("go","by_go"),("do","by_do"),("wait","by_wait"),("call","by_call"),("all","by_all"),("tell","by_tell"),("take","by_take"),("give","by_give"),("pass","by_pass"),("say","by_say")]
def t_:List (Str×dr):= [("by_put",rY),("by_unless",ko),("by_go",yd),("by_do",wK),("by_wait",pE),("by_call",pI),("by_all",sf),("by_tell",pj),("by_take",pH),("by_give",pT),("by_pass",pB),("by_say",si)]
def vy:cI:=
 (aE (aX 4 (Nh mD (eg 3 0)))
 (cp (ur 4 t_ (aG 0 (aG 1 (aG 2 (aG 3 av)))))))
def jm:dr:=eW 5 vy
def qf:cI:=
 (aE (oD (cC (eg 1 3) (au 2)) (iD (nG 2 (aK (bF 3) (aK (bF 4) df)))))
 (aE (oD (cC (au 4) (xA (bV 1))) (iD (nG 5 (aK (bF 5) (aK (bF 6) (aK (bF 7) (aK (bF 8) (aK (bF 9) df))))))))
 (aE (aX 10 (aA fA (ar (aA qw (aG 1 (aG 5 av))) (aG 2 (aG 3 (ar (tN (au 4) jP (jH (xA (bV 1)))) av))))))
 (aE (aX 11 (cC (aA fI (aG 0 (aG 2 (ar (cC (au 4) (xA (bV 2))) av)))) (a_ Ab (cC (cC (au 4) (xA (bV 2))) (bV 2)) (bV 1))))
 (aE (fj (aP (a_ (wY false) (eg 11 1) (cF .non))) (cp (au 10)) fJ)
 (cp (aA fq (aG 0 (aG 10 (aG 2 (gQ 11 1 (aG 9 av))))))))))))
def jj:dr:=eW 12 qf
def lE:cI:=
 (aE (aX 3 (aA cT (aG 1 (aG 2 av))))
 (aE (aX 4 (eg 3 0))
 (aE (fj (jl (aP (a_ (e_ true) (au 4) (cF (.int (-1))))) (aP (a_ (e_ true) (cC (cC (eg 1 0) (au 4)) (bV 1)) (au 2)))) (cp (aW (ar (aA l9 (aG 1 (aG 4 (aG 2 av)))) (ar (cF .non) av)))) fJ)
 (aE (aX 5 (aA fI (aG 0 (aG 2 (aG 3 av)))))
 (aE (fj (aP (a_ (e_ false) (eg 3 2) (dW (aU (au 5))))) (cp (aW (ar (aA jj (aG 0 (aG 1 (aG 2 av)))) (ar (cF .non) av)))) fJ)
 (aE (aX 6 (cC (au 5) (eg 3 2)))
 (aE (aX 7 (cF .non))
 (aE (fj (aP (a_ (e_ false) (eg 6 0) (cF (.str "say")))) (aX 7 (aW (aG 2 (ar (aA dD (aG 0 (aG 1 (aG 2 (gQ 6 1 av))))) av)))) fJ)
 (cp (aW (ar (aA jm (aG 0 (ar (aA kr (aG 1 (aG 2 (ar (a_ bR (eg 3 2) (bV 1)) av)))) (aG 2 (aG 6 av))))) (aG 7 av))))))))))))
def pQ:dr:=eW 8 lE
def uG:cI:=
 (aE (fj (aP (GW true (au 2) (fX (fc jE (aG 0 (aG 1 av)))))) never fJ)
 (cp (aA pQ (aG 0 (aG 1 (aG 2 av))))))
def pw:dr:=eW 3 uG
def kW:cI:=
 (aE (aX 2 (bB (bo av)))
 (aE (iu (jq (fX (fc jE (aG 0 (aG 1 av))))) (bF 3) (aE (oD (aA pw (aG 0 (aG 1 (aG 3 av)))) (iD (nG 2 (aK (bF 4) (aK (bF 5) df)))))
 (sZ (As lR (au 2) (ar (aW (aG 3 (aG 4 (aG 5 av)))) av)))))
 (cp (au 2))))
def iP:dr:=eW 6 kW
def rq:cI:=
 (aE (aX 2 (bB (bo av)))
 (aE (iu (ia (dW (aU (eg 0 3)))) (bF 3) (aE (zd 4 5 6 (ar (bB (bo av)) (aG 3 (aG 3 av))))
 (iu (ia (dW (aU (eg 0 3)))) (bF 7) (aE (iu (AR (aU (eg 0 0)) (aU (eg 1 0))) (iD (nG 2 (aK (bF 8) (aK (bF 9) df)))) (fj (jl (aP (GW false (au 5) (aU (eg 9 2)))) (aP (a_ (e_ false) (dW (aU (au 4))) (au 7)))) (aE (sZ (As lR (au 4) (ar (aW (aG 5 (gQ 8 0 av))) av)))
 (aX 6 (eg 9 1))) fJ))
 (fj (aP (a_ (e_ false) (dW (aU (au 4))) (a_ bR (au 7) (bV 1)))) (aE (aX 5 (au 6))
 (fj (jl (aP (a_ (e_ false) (au 5) (au 3))) (aP (a_ (e_ false) (cC (Iv (aU (au 4))) (bV 0)) (au 3)))) (aE (sZ (As lR (au 2) (ar (tupQ (dB (aU (au 4)))) av)))
 OE) fJ)) fJ)))))
 (cp (tupQ (fX (HH (aU (au 2))))))))
def i3:dr:=eW 10 rq
def fZ(self:dr):cI:=
 (aE (fj (kL (yS "list" "tuple" (au 1))) (aE (fj (Hy (aP (a_ (e_ true) (kg "list" (au 0)) (kg "list" (au 1)))) (aP (a_ (e_ true) (kg "tuple" (au 0)) (kg "tuple" (au 1))))) (cp (cF (.bl false))) fJ)
 (cp (qK (a_ (e_ false) (dW (aU (au 0))) (dW (aU (au 1)))) (Fk (fX (bD [none,none] (AR (aU (au 0)) (aU (au 1))) (iD (nG 2 (aK (bF 0) (aK (bF 1) df)))) bS (aA self (aG 0 (aG 1 av))))))))) fJ)
 (aE (fj (aP (a_ (wY false) (au 1) (cF .non))) (cp (a_ (wY false) (au 0) (cF .non))) fJ)
 (aE (fj (kL (kg "str" (au 1))) (cp (qK (kg "str" (au 0)) (a_ (e_ false) (au 0) (au 1)))) fJ)
 (cp (qK (kg "int" (au 0)) (qK (Et (kg "bool" (au 0))) (a_ (e_ false) (au 0) (au 1))))))))
def gf:Nat->dr
 |0=>λ_ _=>none
 |n+1=>eW 2 (fZ (gf n))
def p0:cI:=
 (cp (qK (kg "int" (au 0)) (Et (kg "bool" (au 0)))))
def mG:dr:=eW 1 p0
def fD:cI:=
 (cp (qK (kg "tuple" (au 0)) (qK (a_ (e_ false) (dW (aU (au 0))) (bV 2)) (qK (aA mG (gQ 0 0 av)) (kg "str" (eg 0 1))))))
def dU:dr:=eW 1 fD
def lG:cI:=
 (aE (fj (Hy (x9 (kL (kg "tuple" (au 2)))) (x9 (kL (Fk (fX (bD [none] (jq (aU (au 2))) (bF 0) bS (aA dU (aG 0 av)))))))) (cp (cF (.bl false))) fJ)
 (cp (LI false (au 2) (aU (aA nU (aG 0 (aG 1 av)))))))
def iR:dr:=eW 3 lG
def k8:cI:=
 (aE (aX 2 (aA i3 (aG 0 (aG 1 av))))
 (aE (fj (x9 (kL (aA (gf 10) (ar (aA nU (aG 0 (aG 1 av))) (aG 2 av))))) (cp (cF (.bl false))) fJ)
 (aE (aX 3 (bB (bo av)))
 (aE (iu (jq (aU (au 2))) (bF 4) (aE (fj (aP (a_ (KB true) (aA iR (aG 0 (aG 1 (aG 4 av)))) (cF (.bl true)))) (cp (cF (.bl false))) fJ)
 (sZ (wM (au 3) (fX (bD [none,none] (jq (aU (au 4))) (iD (nG 2 (aK (bF 0) (aK (bF 1) df)))) bS (au 0)))))))
 (cp (a_ (e_ false) (BW (aU (au 3))) (dW (aU (au 3)))))))))
def iV:dr:=eW 5 k8
def K2:cI:=
 (aE (iu (ia (a_ bR (bV 1) (CD minD (cW 6 (ar (dW (aU (au 0))) av))))) (bF 1) (aE (aX 2 (bB (fc mJ (aG 0 (aG 1 av)))))
 (aE (aX 3 (aA fO (aG 2 av)))
 (aE (fj (aP (a_ (NA true) (aA nU (aG 3 (ar (aA ug (aG 3 av)) av))) (aW av))) (cp (cF (.bl false))) fJ)
 (iu (ia (bV 2)) (bF 4) (aE (aX 5 (aA ug (aG 3 av)))
 (iu (ia (bV 30)) (bF 6) (aE (aX 7 (bB (fc iP (aG 3 (aG 5 av)))))
 (fj (aP (gh (aU (au 7)))) (aE (aX 5 (cC (cC (au 7) (aA az (aG 2 (ar (dW (aU (au 7))) av)))) (bV 1)))
 (fj (x9 (kL (aA iV (aG 3 (aG 5 av))))) (cp (cF (.bl false))) fJ)) fJ)))))))))
 (cp (cF (.bl true))))
def HC:dr:=eW 8 K2
noncomputable def top(i:Nat):Stmt:=PySem.Challenge.pw_calledroom_k40_rings_told.main.body.getD i (.Pass ⟨0,0,0,0⟩)
noncomputable abbrev nL:Stmt:=top 63
noncomputable abbrev l8:Stmt:=top 64
noncomputable abbrev jS:Stmt:=top 65
noncomputable abbrev fR:Stmt:=top 71
noncomputable abbrev iz:Stmt:=top 66
noncomputable abbrev gP:Stmt:=top 68
noncomputable abbrev gI:Stmt:=top 67
noncomputable abbrev kc:Stmt:=top 69
noncomputable abbrev i8:Stmt:=top 72
noncomputable abbrev ja:Stmt:=top 7
noncomputable abbrev lU:Stmt:=top 8
noncomputable abbrev wA:Stmt:=top 6
noncomputable abbrev lL:Stmt:=top 14
noncomputable abbrev kf:Stmt:=top 16
noncomputable abbrev yi:Stmt:=top 15
noncomputable abbrev ng:Stmt:=top 25
noncomputable abbrev gJ:Stmt:=top 58
noncomputable abbrev kh:Stmt:=top 17
noncomputable abbrev j9:Stmt:=top 18
noncomputable abbrev gK:Stmt:=top 59
noncomputable abbrev oB:Stmt:=top 57
noncomputable abbrev nP:Stmt:=top 30
noncomputable abbrev oa:Stmt:=top 32
noncomputable abbrev me:Stmt:=top 19
noncomputable abbrev lM:Stmt:=top 22
noncomputable abbrev lA:Stmt:=top 20
noncomputable abbrev lV:Stmt:=top 34
noncomputable abbrev hX:Stmt:=top 4
noncomputable abbrev nJ:Stmt:=top 3
noncomputable abbrev ni:Stmt:=top 33
noncomputable abbrev tK:Stmt:=top 38
noncomputable abbrev fQ:Stmt:=top 23
noncomputable abbrev tE:Stmt:=top 24
noncomputable abbrev lJ:Stmt:=top 39
noncomputable abbrev xc:Stmt:=top 40
noncomputable abbrev qO:Stmt:=top 35
noncomputable abbrev yk:Stmt:=top 41
noncomputable abbrev qH:Stmt:=top 42
noncomputable abbrev lQ:Stmt:=top 43
noncomputable abbrev xI:Stmt:=top 36
noncomputable abbrev qk:Stmt:=top 44
noncomputable abbrev qA:Stmt:=top 45
noncomputable abbrev sM:Stmt:=top 46
noncomputable abbrev qc:Stmt:=top 47
noncomputable abbrev l_:Stmt:=top 21
noncomputable abbrev yg:Stmt:=top 49
noncomputable abbrev qL:Stmt:=top 48
noncomputable abbrev j8:Stmt:=top 51
noncomputable abbrev qz:Stmt:=top 50
noncomputable abbrev pZ:Stmt:=top 52
noncomputable abbrev sL:Stmt:=top 53
noncomputable abbrev nu:Stmt:=top 55
noncomputable abbrev nI:Stmt:=top 37
noncomputable abbrev qu:Stmt:=top 61
noncomputable abbrev qx:Stmt:=top 60
noncomputable abbrev kb:Stmt:=top 75
noncomputable abbrev jZ:Stmt:=top 73
noncomputable abbrev lX:Stmt:=top 70
noncomputable abbrev nQ:Stmt:=top 2
noncomputable abbrev eY:Stmt:=top 10
noncomputable abbrev ke:Stmt:=top 9
noncomputable abbrev ku:Stmt:=top 74
noncomputable abbrev oN:Stmt:=top 76
end W28
namespace W28
open PySem PySem.Spec L2 DL PyProof.Rows
noncomputable abbrev AN:List Str:= ["_law_found","_law_due"]
noncomputable abbrev yY:List Str:= ["_law_left","_law_many"]
noncomputable abbrev Ca:List Str:= ["_law_left","_law_most"]
noncomputable abbrev vq:List Str:= ["_law_left","_law_names","_law_bells","_law_deep"]
noncomputable abbrev BN:List Str:= ["_law_left","_law_own","_law_passes","_law_span","_law_deeds"]
noncomputable abbrev Cj:List Str:= ["_law_left","_law_room","_law_span","_law_inner"]
noncomputable abbrev pD:List Str:= ["_law_left"]
noncomputable abbrev CM:List Str:= ["_law_script","_law_k"]
noncomputable abbrev Fv:List Str:= ["_law_script"]
noncomputable abbrev kE:List Str:= ["_law_world_here","_law_scene"]
noncomputable abbrev IR:List Str:= ["_law_x","_law_left"]
noncomputable abbrev CF:List Str:= ["ahead","first"]
noncomputable abbrev yG:List Str:= ["form","first","second"]
noncomputable abbrev zv:List Str:= ["line"]
noncomputable abbrev yO:List Str:= ["parts","at","part"]
noncomputable abbrev yA:List Str:= ["roll","name"]
noncomputable abbrev zk:List Str:= ["roll"]
noncomputable abbrev zJ:List Str:= ["room"]
noncomputable abbrev Aa:List Str:= ["scene","at","room"]
noncomputable abbrev zr:List Str:= ["scene","at","turnstile"]
noncomputable abbrev CC:List Str:= ["scene","hand","frame"]
noncomputable abbrev CI:List Str:= ["scene","hand","row"]
noncomputable abbrev zU:List Str:= ["scene","hand","values","frames"]
noncomputable abbrev Af:List Str:= ["scene","hand"]
noncomputable abbrev CO:List Str:= ["scene","room","bell","line"]
noncomputable abbrev B7:List Str:= ["scene","room","hand"]
noncomputable abbrev BZ:List Str:= ["scene","room"]
noncomputable abbrev Cc:List Str:= ["scene"]
noncomputable abbrev mY:List Str:= ["thing"]
noncomputable abbrev y0:List Str:= ["things"]
noncomputable abbrev vO:List Str:= ["tree","things","waiting"]
noncomputable abbrev BU:List Str:= ["world","hand","frame"]
noncomputable abbrev CU:List Str:= ["world","scene","hand","name"]
noncomputable abbrev bJ:List Str:= ["world","scene","hand","row"]
noncomputable abbrev Cr:List Str:= ["world","scene","hand","tree"]
noncomputable abbrev CT:List Str:= ["world","scene","hand","word","value"]
noncomputable abbrev Ct:List Str:= ["world","scene","hand","word"]
noncomputable abbrev eI:List Str:= ["world","scene","hand"]
noncomputable abbrev yn:List Str:= ["world","scene","name"]
noncomputable abbrev ui:List Str:= ["world","scene","thing"]
noncomputable abbrev gL:List Str:= ["world","scene"]
noncomputable abbrev wX:List Str:= ["world"]
section
variable(P:Program)(w:World)(K:PySem.W.Frag)(mg:Str->Option Value)(base:Heap)
abbrev Ay:Prop:=eZ P w K mg base 1 "_law_pot" CM mJ
abbrev dJ:Prop:=eZ P w K mg base 1 "_law_pick" yY az
abbrev oO:Prop:=eZ P w K mg base 2 "_law_words" yY eO
abbrev pN:Prop:=eZ P w K mg base 3 "_law_ring_world" pD eT
abbrev mh:Prop:=eZ P w K mg base 5 "_law_any_sum" vq (a0 3)
abbrev rM:Prop:=eZ P w K mg base 6 "_law_hand_row" BN eK
abbrev rO:Prop:=eZ P w K mg base 6 "_law_deed_row" Cj eJ
abbrev wF:Prop:=eZ P w K mg base 7 "_law_world" Ca iJ
abbrev vb:Prop:=eZ P w K mg base 8 "_law_either" pD fO
abbrev u9:Prop:=eZ P w K mg base 1 "hands_ahead" gL gZ
abbrev zw:Prop:=eZ P w K mg base 1 "ring_from" CF jW
abbrev xf:Prop:=eZ P w K mg base 2 "rings" gL nU
abbrev rE:Prop:=eZ P w K mg base 1 "values_of" y0 gq
abbrev xm:Prop:=eZ P w K mg base 2 "begun_room" zJ iU
abbrev GR:Prop:=eZ P w K mg base 3 "begun" wX ug
abbrev A4:Prop:=eZ P w K mg base 1 "hands_at" zv mw
abbrev rF:Prop:=eZ P w K mg base 2 "hands_in_rows" Cc eN
abbrev dP:Prop:=eZ P w K mg base 1 "last_frame" Af cT
abbrev jR:Prop:=eZ P w K mg base 1 "program_of" BU fI
abbrev rR:Prop:=eZ P w K mg base 2 "is_behind_all" eI fS
abbrev tZ:Prop:=eZ P w K mg base 3 "may_step" gL jE
abbrev og:Prop:=eZ P w K mg base 1 "names_of" zk d0
abbrev iw:Prop:=eZ P w K mg base 2 "place_of" yA da
abbrev gD:Prop:=eZ P w K mg base 1 "with_part" yO dv
abbrev iY:Prop:=eZ P w K mg base 2 "with_hand" zU fA
abbrev gA:Prop:=eZ P w K mg base 2 "with_room" Aa c8
abbrev q5:Prop:=eZ P w K mg base 3 "put_thing" CT fq
abbrev sF:Prop:=eZ P w K mg base 1 "value_of_two" yG gw
abbrev BL:Prop:=eZ P w K mg base 8 "value_of" vO (gc 6)
abbrev gn:Prop:=eZ P w K mg base 9 "reckoned" Cr dD
abbrev iX:Prop:=eZ P w K mg base 3 "with_last_frame" CC dE
abbrev tR:Prop:=eZ P w K mg base 4 "at_row" CI kr
abbrev we:Prop:=eZ P w K mg base 3 "come_in" B7 l9
abbrev p7:Prop:=eZ P w K mg base 3 "bell_of" Ct jG
abbrev lu:Prop:=eZ P w K mg base 3 "with_line" CO fu
abbrev B3:Prop:=eZ P w K mg base 3 "leave" BZ qw
abbrev qZ:Prop:=eZ P w K mg base 2 "with_pass" zr fB
abbrev Cp:Prop:=eZ P w K mg base 3 "taken" CU tq
abbrev oT:Prop:=eZ P w K mg base 3 "given_back" yn gG
abbrev Bi:Prop:=eZ P w K mg base 11 "row_done" bJ jm
abbrev A8:Prop:=eZ P w K mg base 4 "end_deed" eI jj
abbrev DX:Prop:=eZ P w K mg base 12 "step_of" eI pQ
abbrev D7:Prop:=eZ P w K mg base 13 "stepped" eI pw
abbrev xQ:Prop:=eZ P w K mg base 14 "_law_steps" kE iP
abbrev yl:Prop:=eZ P w K mg base 1 "_law_rings" kE i3
abbrev zi:Prop:=eZ P w K mg base 11 "_law_same" AN (gf 10)
abbrev Be:Prop:=eZ P w K mg base 1 "is_whole" mY mG
abbrev mO:Prop:=eZ P w K mg base 2 "is_hand_with_name" mY dU
abbrev xP:Prop:=eZ P w K mg base 3 "shows_ring" ui iR
abbrev xF:Prop:=eZ P w K mg base 12 "_law_right" kE iV
end
def NZ{X:Cx}{a:Expr}{pos:Pos}{f:dQ}{p:Pos}(b:Gl X "len")(c:X.mg "len"=none)(d:PE X a (tQ (md X) f))(e:starEach [a] X.env= [(false,eval a X.env)]):PE X (.Call (.Name "len" p) [a] [] pos) (tD (md X) (dW f)):=jh b c d e
def cA{X:Cx}{pos:Pos}{N:List Str}{js:List (Option Nat)}{a:Scope}{c:List (Str×Addr)}{h b d:Expr}{e:List Expr}{i:uN}{g:mB}{t:iG}{f:bp}(S:aQ X N js a c)(k:X.calm=true)(hi:PI X h b (tI (md X) i))(j:∀C s H fp,PG (aN X N a c C s H fp) h (tG (md (aN X N a c C s H fp)) g))(ht:∀C s H fp,nj (aN X N a c C s H fp) e (tB (md (aN X N a c C s H fp)) t))(he:∀C s H fp,PE (aN X N a c C s H fp) d (tD (md (aN X N a c C s H fp)) f))(l:∀x,foldedSetIterable b X.env x=pure x:=by intro _;rfl):PE X (.ListComp d [⟨h,b,e,0⟩] a pos) (tL (md X) (bD js i g t f)):=KQ S k hi j ht he l
def o8{X:Cx}{pos:Pos}{N:List Str}{js:List (Option Nat)}{a:Scope}{e:List (Str×Addr)}{k b h c:Expr}{j:List Expr}{i:uN}{g:mB}{t:iG}{f:bp}{n:Nat}{d:Pos}(S:aQ X N js a e)(q:X.calm=true)(hi:PI X k b (tI (md X) i))(o:∀C s H fp,PG (aN X N a e C s H fp) k (tG (md (aN X N a e C s H fp)) g))(ht:∀C s H fp,nj (aN X N a e C s H fp) j (tB (md (aN X N a e C s H fp)) t))(he:∀C s H fp,PE (aN X N a e C s H fp) h (tD (md (aN X N a e C s H fp)) f))(m:PG X c (ph n))(r:∀x,foldedSetIterable b X.env x=pure x:=by intro _;rfl)(l:swapsWithSole [c] (.ListComp h [⟨k,b,j,0⟩] a pos) d.line X.env=pure true:=by rfl)(p:(assignEach [c] X.env).map (·.2)= [assign c X.env]:=by rfl):PS X (.Assign [c] (.ListComp h [⟨k,b,j,0⟩] a pos) d) (tS (md X) (aX n (bB (bD js i g t f)))):=Lc S q hi o ht he m r l p
def FW{X:Cx}{pos:Pos}{N:List Str}{js:List (Option Nat)}{a:Scope}{d:List (Str×Addr)}{h b l m c:Expr}{f:List Expr}{i:uN}{g:mB}{t:iG}{o p:bp}{n:Nat}{e:Pos}(S:aQ X N js a d)(u:X.calm=true)(hi:PI X h b (tI (md X) i))(q:∀C s H fp,PG (aN X N a d C s H fp) h (tG (md (aN X N a d C s H fp)) g))(ht:∀C s H fp,nj (aN X N a d C s H fp) f (tB (md (aN X N a d C s H fp)) t))(w:∀C s H fp,PE (aN X N a d C s H fp) l (tD (md (aN X N a d C s H fp)) o))(v:∀C s H fp,PE (aN X N a d C s H fp) m (tD (md (aN X N a d C s H fp)) p))(k:PG X c (ph n))(y:∀x,foldedSetIterable b X.env x=pure x:=by intro _;rfl)(j:swapsWithSole [c] (.DictComp l m [⟨h,b,f,0⟩] a pos) e.line X.env=pure true:=by rfl)(r:(assignEach [c] X.env).map (·.2)= [assign c X.env]:=by rfl):PS X (.Assign [c] (.DictComp l m [⟨h,b,f,0⟩] a pos) e) (tS (md X) (Mw n (p6 js i g t o p))):=GZ S u hi q ht w v k y j r
local macro_rules|`(tactic|ac_rfl)=>do
 let g (l:List (String×Nat)):Lean.MacroM (Array (Lean.TSyntax `Lean.Parser.Tactic.tacticSeq)):=l.toArray.mapM λ(s,k)=>do
  let ws:=((s.splitOn " ").map λn=>Lean.mkIdent n.toName).toArray
  let h←`(?_)
  let e:=Lean.Syntax.mkApp ⟨ws[0]!.raw⟩ ((ws.toList.tail!.map λw=>⟨w.raw⟩).toArray++Array.replicate k h)
  `(tacticSeq|refine $e)
 let a←g [("Py",5),("v_",5),("ay",3),("bh",0),("aS",0),("dz",3),("bG",2),("ji",1),("mz",3),("uP",5),("tW",1),("dm",1),("tH",3),("lN",0),("o9",2),("iM",0),("Oc",1),("fY",1),("Ep",4),("AY",0),("NH",1),("Oz",0),("fN",1),("OG",0),("OJ",1),("ID",5),("hV lD kP",3),("NZ",4),("Nz",3),("zS",6),("wm",4),("uv",2),("oH",5),("Na",3),("I0",2),("Mj lD kP",3),("OH",2),("Pg",2),("hV O0 Pn",3),("B9",0),("Pr",0),("hV El Fp",3),("Pq",5),("CH",2),("MJ",2),("OF",1),("OT",1),("N4",1),("Cu",1),("OL",3),("LH",6),("lS",6),("Pe",7),("hV Po OZ",3),("OY",3),("MX",2),("MN",6),("Lf",10),("Ol",2),("Oq",0),("NT",5),("Lk",6),("Np",3),("KL",4),("hV NM N5",3),("Pc",5),("OV",1),("Mj MR Me",3),("Pd",2),("LN",4),("L7",3),("Om",6),("OQ",2),("hV NB Nd",3),("Nc",6),("NS",3),("MW",6),("hV OO Ph",3),("Nv",0),("NX",11),("Mj NM N5",3),("hV Nb Nt",3),("N7",8),("eP",1),("Pb",1),("Pj",1),("OK",2),("uo",1),("LX",1)]
 let b←g [("d_",1),("PassesOwn.never",0),("iZ",0),("Hn",0),("Bl.abs",1),("Bl.all",1),("Bl.bool",1),("Bl.dict",1),("Bl.int",1),("Bl.isi",1),("Bl.len",1),("Bl.list",1),("Bl.max",1),("Bl.min",1),("Bl.range",1),("Bl.set",1),("Bl.sorted",1),("Bl.str",1),("Bl.tuple",1),("Bl.zip",1),("bG",2),("eP",1)]
 let c←([("FR p_ Df Bl.int",0),("ND fP Li Bl.min",1),("N_ fP LQ Bl.abs",0),("NN fP Ld Bl.max",1),("str",2),("tuple",2),("int",2),("list",2),("bool",2)]:List (String×Nat)).toArray.mapM λ(s,k)=>do
  let ws:=((s.splitOn " ").map λn=>Lean.mkIdent n.toName).toArray
  if k=2 then
   `(tacticSeq|refine HP (v:=.ty $(Lean.quote s)) rfl ($(Lean.mkIdent (.str (.str .anonymous "Bl") s)) (by assumption)) $(Lean.mkIdent (.str `PyProof.Rows ("boot_" ++s))) rfl)
  else
   let e←if k=1 then `($(ws[2]!) rfl) else pure ⟨ws[2]!.raw⟩
   `(tacticSeq|((with_reducible refine ME $(ws[0]!) ?_);refine $(ws[1]!) $e rfl ($(ws[3]!) (by assumption)) (by rfl) ?_))
 `(tactic|repeat (first
 |exact rfl
 |exact Or.inl rfl
 |(with_reducible first $[| $a]*)
 |(with_reducible first|refine PW.pt (w_and ?_ ?_)|refine PW.pt (w_or ?_ ?_))
 |refine gF (by assumption) (by assumption) ?_
 |refine j2 _ (by assumption) ?_
 |refine LB (by assumption) (by assumption) ?_
 |refine jT (xv (v:=.int (-1)) rfl (by assumption) ⟨_,rfl⟩) λ_ _=>.int (-1)
 |refine jT (xv (v:=.int (9)) rfl (by assumption) ⟨_,rfl⟩) λ_ _=>.int (9)
 |refine LR (by assumption) ?_ ?_
 |refine MM (by assumption) ?_ ?_
 |assumption
 |exact Or.inr rfl
 |exact Or.inr (Or.inl rfl)
 |exact Or.inr (Or.inr rfl)
 |decide
 |omega
 |(intro _ _;rfl)
 |(intro _;rfl)
 |(intro _ _ _;rfl)
 |exact⟨rfl,rfl,rfl,rfl,rfl,rfl,rfl⟩
 |exact λ_ _=>.int _
 |(first $[| $c]*)
 |(first $[| $b]*)))
section
variable{P:Program}{w:World}{K:PySem.W.Frag}{mg:Str->Option Value}{base:Heap}{f:Addr}{fd:FuncData}
def qT:aJ ["_law_script","_law_k","_law_cell"] CM (aD nL):=fE
def Ak(F:et K "_law_pot" "_law_pot" nL f fd)(B:Bl mg):bA P w K mg base dG 1 f fd CM (eh ⟨K,mg⟩ 2 mJ):=by
 have d:=qT.nd
 refine bj F qT λb A a s H E c=> ?_
 delta qC
 ac_rfl
def oF:aJ ["_law_left","_law_many","_law_digit"] yY (aD l8):=fE
def xB(F:et K "_law_pick" "_law_pick" l8 f fd)(B:Bl mg):bA P w K mg base dG 1 f fd yY (eh ⟨K,mg⟩ 2 az):=by
 have d:=oF.nd
 refine bj F oF λb A a s H E c=> ?_
 delta ou
 ac_rfl
def m6:aJ ["_law_left","_law_many","_law_letters","_law_first","_law_turn","_law_some"] yY (aD jS):=fE
def uV(F:et K "_law_words" "_law_words" jS f fd)(B:Bl mg)(e:dJ P w K mg base):bA P w K mg base dG 2 f fd yY (eh ⟨K,mg⟩ 2 eO):=by
 have d:=m6.nd
 refine bj F m6 λb A a s H E c=> ?_
 delta lT
 ac_rfl
 refine o8 (n:=5) (N:= ["_law_k","_law_letters","_law_first","_law_turn"]) (js:= [none,some 2,some 3,some 4]) (aQ.gen rfl rfl rfl rfl rfl rfl) rfl ?_ (λ_ _ _ _=> ?_) (λ_ _ _ _=> ?_) (λ_ _ _ _=> ?_) ?_
 ac_rfl
def iA:aJ ["_law_left","_law_words_here","_law_many","_law_rooms","_law_hands","_law_k","_law_other","_law_rows","_law_manner","_law_room"] pD (aD fR):=fE
def nz(F:et K "_law_ring_world" "_law_ring_world" fR f fd)(B:Bl mg)(g:oO P w K mg base)(c:dJ P w K mg base):bA P w K mg base dG 3 f fd pD (eh ⟨K,mg⟩ 1 eT):=by
 have b:=iA.nd
 refine bj F iA λe A d s H E a=> ?_
 exact(bG (j2 1 b (fY (LB g a (ay (v_ 0) (ay bh aS)))))
  (bG (j2 2 b (o9 bh (gF c a (ay (v_ 0) (ay bh aS)))))
  (bG (Gb (A6 (i:=3) (j:=4) rfl b rfl rfl (by decide) rfl rfl (ay (fY (fN aS)) (ay (fY (fN aS)) aS)) rfl))
  (bG (zS PassesOwn.never rfl (wm rfl B.range (v_ 2)) (uP 5 b) (bG (j2 6 b (dz (v_ 1) (dz (fY (fN (ay (I0 (o9 (v_ 5) bh) (v_ 2)) (ay (v_ 5) (ay (gF c a (ay (v_ 0) (ay (v_ 2) aS))) aS))))) (gF c a (ay (v_ 0) (ay bh aS))))))
  (bG (j2 7 b (dm (ay (dm (ay iM (ay B9 (ay (v_ 6) (ay (dz (v_ 1) bh) (ay bh aS)))))) aS)))
  (bG (tH (hV lD kP (gF c a (ay (v_ 0) (ay bh aS))) bh (d_ _)) (eP (j2 7 b (o9 (v_ 7) (dm (ay (dm (ay iM (ay bh aS))) aS))))) lN)
  (bG (j2 8 b (dz (fY (fN (ay iM (ay iM aS)))) (gF c a (ay (v_ 0) (ay bh aS)))))
  (eP (uv (lS (v_ 3) (dm (ay (dz (v_ 1) (v_ 5)) (ay (v_ 8) (ay (dm aS) (ay (dm aS) (ay (dm (ay (dm (ay (dz (v_ 1) bh) (ay (v_ 7) aS))) (ay (dm (ay (dz (v_ 1) bh) (ay (dm (ay (dm (ay iM (ay bh aS))) aS)) aS))) aS))) aS))))))))))))))
  (bG (zS PassesOwn.never rfl (wm rfl B.range (o9 bh (gF c a (ay (v_ 0) (ay bh aS))))) (uP 5 b) (bG (j2 9 b (dz (v_ 1) (dz (fY (fN (ay (I0 (v_ 5) (v_ 2)) (ay (gF c a (ay (v_ 0) (ay (v_ 2) aS))) aS)))) (gF c a (ay (v_ 0) (ay bh aS))))))
  (bG (j2 7 b (dm (ay (dm (ay iM (ay B9 (ay (v_ 9) (ay (dz (fY (fN (ay (dz (v_ 1) bh) (ay (dz (v_ 1) bh) (ay (dz (v_ 1) bh) aS))))) (gF c a (ay (v_ 0) (ay bh aS)))) (ay bh aS)))))) aS)))
  (eP (uv (lS (v_ 4) (dm (ay (dm aS) (ay (K1 (v_ 7) (o9 bh (ME FR (p_ Df rfl B.int (by rfl) (ay (Mj lD kP (gF c a (ay (v_ 0) (ay bh aS))) bh (d_ _)) aS))))) aS)))))))))
  (eP (ji (dm (ay (oH rfl B.tuple (Cu (tW (v_ 3))) (ht:=iZ)) (ay (dm aS) (ay (dm aS) (ay (oH rfl B.tuple (Cu (tW (v_ 4))) (ht:=iZ)) aS))))))))))))
def kJ:aJ ["_law_left","_law_names","_law_bells","_law_deep","_law_way","_law_one","_law_word"] vq (aD iz):=fE
theorem kG(F:et K "_law_any_sum" "_law_any_sum" iz f fd)(B:Bl mg)(g:dJ P w K mg base)(b:Binds K fd vq [])(c:PySem.W.keepIn K (.ref f)=true)(m:mg "_law_any_sum"=some (.ref f)):∀n,bA P w K mg base dG (2+n) f fd vq (eh ⟨K,mg⟩ 4 (a0 n))
 |0=>xg
 | n+1=>by
   have i:eZ P w K mg base (2+n) "_law_any_sum" vq (a0 n):=⟨f,fd,kG F B g b c m n,b,c,m⟩
   have j:=kJ.nd
   refine bj (k:=2+n) F kJ λd A a s H E e=> ?_
   have h:=e.units0
   delta i7
   ac_rfl
def jt:aJ ["_law_left","_law_own","_law_passes","_law_span","_law_deeds","_law_way","_law_room","_law_deed","_law_x","_law_p","_law_q","_law_later"] BN (aD gP):=fE
def pY(F:et K "_law_hand_row" "_law_hand_row" gP f fd)(B:Bl mg)(b:dJ P w K mg base)(d:mh P w K mg base):bA P w K mg base dG 6 f fd BN (eh ⟨K,mg⟩ 5 eK):=by
 have c:=jt.nd
 refine bj F jt λh A g s H E a=> ?_
 have e:=a.units0
 exact(bG (j2 5 c (gF b a (ay (v_ 0) (ay bh aS))))
  (bG (tH (PW.pt (w_and (hV El Fp (v_ 5) bh (d_ _)) (uo (CH e (tW (v_ 4)))))) (bG (ID (dz (v_ 4) (gF b a (ay (v_ 0) (ay (jh rfl B.len (tW (v_ 4))) aS)))) (Ep rfl (mz (uP 6 c) (mz (uP 7 c) AY))))
  (bG (j2 8 c (dz (fY (MX (tW (v_ 1)) (Oc (fN (ay B9 aS))))) (gF b a (ay (v_ 0) (ay (o9 (jh rfl B.len (tW (v_ 1))) bh) aS)))))
  (eP (ji (dm (ay iM (ay (v_ 8) (ay (v_ 6) (ay (v_ 7) (ay (gF d a (ay (v_ 0) (ay (v_ 1) (ay (fY (fN aS)) (ay bh aS))))) aS)))))))))) lN)
  (bG (tH (PW.pt (w_and (hV El Fp (v_ 5) bh (d_ _)) (uo (CH e (tW (v_ 2)))))) (bG (Gb (A6 (i:=9) (j:=10) rfl c rfl rfl (by decide) rfl rfl (ay (dz (v_ 2) (gF b a (ay (v_ 0) (ay (jh rfl B.len (tW (v_ 2))) aS)))) (ay (dz (v_ 2) (gF b a (ay (v_ 0) (ay (jh rfl B.len (tW (v_ 2))) aS)))) aS)) rfl))
  (eP (ji (dz (fY (fN (ay (dm (ay iM (ay (v_ 9) aS))) (ay (dm (ay iM (ay (v_ 9) aS))) (ay (dm (ay iM (ay (v_ 9) (ay (v_ 10) aS)))) aS))))) (gF b a (ay (v_ 0) (ay bh aS))))))) lN)
  (bG (j2 11 c (o9 (o9 (dz (v_ 3) bh) bh) (gF b a (ay (v_ 0) (ay (MJ (dz (v_ 3) bh) (dz (v_ 3) bh)) aS)))))
  (bG (tH (hV lD kP (v_ 5) bh (d_ _)) (eP (ji (dm (ay iM (ay (gF d a (ay (v_ 0) (ay (v_ 1) (ay (fY (fN aS)) (ay bh aS))))) (ay (dz (fY (fN (ay (v_ 11) (ay (v_ 11) (ay bh aS))))) (gF b a (ay (v_ 0) (ay bh aS)))) aS)))))) lN)
  (bG (tH (hV lD kP (v_ 5) bh (d_ _)) (eP (ji (dm (ay iM (ay (dz (fY (fN (ay (v_ 11) (ay bh aS)))) (gF b a (ay (v_ 0) (ay bh aS)))) aS))))) lN)
  (bG (tH (PW.pt (w_or (L7 e (tW (v_ 1)) (Oc (fN aS))) (LX (hV lD kP (gF b a (ay (v_ 0) (ay bh aS))) bh (d_ _))))) (eP (ji (dm (ay iM (ay (gF d a (ay (v_ 0) (ay (v_ 1) (ay (fY (fN aS)) (ay bh aS))))) aS))))) lN)
  (eP (ji (dm (ay iM (ay (dz (v_ 1) (gF b a (ay (v_ 0) (ay (jh rfl B.len (tW (v_ 1))) aS)))) (ay (gF d a (ay (v_ 0) (ay (v_ 1) (ay (fY (fN aS)) (ay bh aS))))) aS)))))))))))))
def jr:aJ ["_law_left","_law_room","_law_span","_law_inner","_law_things","_law_bells","_law_manner","_law_names","_law_way","_law_word","_law_other","_law_deed","_law_x","_law_later"] Cj (aD gI):=fE
def qM(F:et K "_law_deed_row" "_law_deed_row" gI f fd)(B:Bl mg)(h:dJ P w K mg base)(g:mh P w K mg base):bA P w K mg base dG 6 f fd Cj (eh ⟨K,mg⟩ 4 eJ):=by
 have e:=jr.nd
 refine bj F jr λb A a s H E c=> ?_
 have d:=c.units0
 delta h_
 ac_rfl
end
section
variable{P:Program}{w:World}{K:PySem.W.Frag}{mg:Str->Option Value}{base:Heap}{f:Addr}{fd:FuncData}
def mV:aJ ["_law_left","_law_most","_law_words_here","_law_many","_law_sizes","_law_inner","_law_k","_law_rooms","_law_every","_law_things","_law_bells","_law_manner","_law_deeds","_law_at","_law_size","_law_here","_law_rows","_law_first","_law_sorts","_law_passes","_law_opened","_law_hands","_law_own","_law_names"] Ca (aD kc):=fE
def uZ(F:et K "_law_world" "_law_world" kc f fd)(B:Bl mg)(i:oO P w K mg base)(h:dJ P w K mg base)(c:rO P w K mg base)(d:rM P w K mg base):bA P w K mg base dG 7 f fd Ca (eh ⟨K,mg⟩ 2 iJ):=by
 have g:=mV.nd
 refine bj F mV λb A a s H E e=> ?_
 delta k0
 ac_rfl
 refine o8 (n:=4) (N:= ["_law_k","_law_left"]) (js:= [none,some 0]) (aQ.gen rfl rfl rfl rfl rfl rfl) rfl ?_ (λ_ _ _ _=> ?_) (λ_ _ _ _=> ?_) (λ_ _ _ _=> ?_) ?_
 ac_rfl
 refine cA (N:= ["_law_at","_law_words_here","_law_k"]) (js:= [none,some 2,some 6]) (aQ.gen rfl rfl rfl rfl rfl rfl) rfl ?_ (λ_ _ _ _=> ?_) (λ_ _ _ _=> ?_) (λ_ _ _ _=> ?_)
 ac_rfl
 refine o8 (n:=16) (N:= ["_law_row","_law_left","_law_things","_law_bells","_law_manner","_law_size","_law_here"]) (js:= [none,some 0,some 9,some 10,some 11,some 14,some 15]) (aQ.gen rfl rfl rfl rfl rfl rfl) rfl ?_ (λ_ _ _ _=> ?_) (λ_ _ _ _=> ?_) (λ_ _ _ _=> ?_) ?_
 ac_rfl
 refine cA (N:= ["_law_deed","_law_words_here","_law_k"]) (js:= [none,some 2,some 6]) (aQ.gen rfl rfl rfl rfl rfl rfl) rfl ?_ (λ_ _ _ _=> ?_) (λ_ _ _ _=> ?_) (λ_ _ _ _=> ?_)
 ac_rfl
 refine cA (N:=IR) (js:= [none,some 0]) (aQ.gen rfl rfl rfl rfl rfl rfl) rfl ?_ (λ_ _ _ _=> ?_) (λ_ _ _ _=> ?_) (λ_ _ _ _=> ?_)
 ac_rfl
 refine cA (N:= ["_law_bell","_law_left"]) (js:= [none,some 0]) (aQ.gen rfl rfl rfl rfl rfl rfl) rfl ?_ (λ_ _ _ _=> ?_) (λ_ _ _ _=> ?_) (λ_ _ _ _=> ?_)
 ac_rfl
 refine cA (N:= ["_law_p","_law_left"]) (js:= [none,some 0]) (aQ.gen rfl rfl rfl rfl rfl rfl) rfl ?_ (λ_ _ _ _=> ?_) (λ_ _ _ _=> ?_) (λ_ _ _ _=> ?_)
 ac_rfl
 refine cA (N:=IR) (js:= [none,some 0]) (aQ.gen rfl rfl rfl rfl rfl rfl) rfl ?_ (λ_ _ _ _=> ?_) (λ_ _ _ _=> ?_) (λ_ _ _ _=> ?_)
 ac_rfl
 refine cA (N:= ["_law_x","_law_value"]) (js:= [none,none]) (aQ.gen rfl rfl rfl rfl rfl rfl) rfl ?_ (λ_ _ _ _=> ?_) (λ_ _ _ _=> ?_) (λ_ _ _ _=> ?_)
 ac_rfl
 refine o8 (n:=16) (N:= ["_law_row","_law_left","_law_every","_law_size","_law_passes","_law_names"]) (js:= [none,some 0,some 8,some 14,some 19,some 23]) (aQ.gen rfl rfl rfl rfl rfl rfl) rfl ?_ (λ_ _ _ _=> ?_) (λ_ _ _ _=> ?_) (λ_ _ _ _=> ?_) ?_
 ac_rfl
 refine cA (N:= ["_law_p","_law_value"]) (js:= [none,none]) (aQ.gen rfl rfl rfl rfl rfl rfl) rfl ?_ (λ_ _ _ _=> ?_) (λ_ _ _ _=> ?_) (λ_ _ _ _=> ?_)
 ac_rfl
 refine cA (N:= ["_law_x"]) (js:= [none]) (aQ.gen rfl rfl rfl rfl rfl rfl) rfl ?_ (λ_ _ _ _=> ?_) (λ_ _ _ _=> ?_) (λ_ _ _ _=> ?_)
 ac_rfl
def sG:aJ pD pD (aD i8):=fE
def uk(F:et K "_law_either" "_law_either" i8 f fd)(B:Bl mg)(e:dJ P w K mg base)(c:wF P w K mg base)(g:pN P w K mg base):bA P w K mg base dG 8 f fd pD (eh ⟨K,mg⟩ 1 fO):=by
 refine bj F sG λb A a s H E d=> ?_
 delta kA
 ac_rfl
def kR:aJ ["world","scene","ahead","room","values","within","row","late","bells","hand"] gL (aD ja):=fE
def sC(F:et K "hands_ahead" "hands_ahead" ja f fd)(B:Bl mg):bA P w K mg base dG 1 f fd gL (eh ⟨K,mg⟩ 2 gZ):=by
 have e:=kR.nd
 refine Kv F kR λb A a s H E c=> ?_
 have d:=Cn c
 delta jV
 ac_rfl
def oG:aJ ["ahead","first","ring","hand","name","within"] CF (aD lU):=fE
def xX(F:et K "ring_from" "ring_from" lU f fd)(B:Bl mg):bA P w K mg base dG 1 f fd CF (eh ⟨K,mg⟩ 2 jW):=by
 have b:=oG.nd
 refine bj F oG λd A c s H E e=> ?_
 have a:=Cn e
 exact(bG (j2 2 b (fY (fN aS)))
  (bG (j2 3 b (v_ 1))
  (bG (G1 5 PassesOwn.never (PW.pt (w_and (M7 a (v_ 3) (v_ 0)) (w_and (hV MR Me (v_ 3) (v_ 1) (d_ _)) (uo (hV El Fp (jh rfl B.len (tW (v_ 2))) (KS rfl B.len (v_ 0)) (d_ _)))))) (bG (ID (KL a (v_ 0) (v_ 3) (λ_ _=>rfl)) (Ep rfl (mz (uP 4 b) (mz (uP 5 b) AY))))
  (bG (uv (lS (v_ 2) (dm (ay (v_ 3) (ay (v_ 4) aS)))))
  (bG (tH (hV lD kP (v_ 5) (v_ 1) (d_ _)) (eP (ji (oH rfl B.tuple (Cu (tW (v_ 2))) (ht:=iZ)))) lN)
  (eP (j2 3 b (v_ 5)))))))
  (eP (ji B9)))))
def zP:aJ ["world","scene","ahead","found"] gL (aD wA):=fE
def EW(F:et K "rings" "rings" wA f fd)(B:Bl mg)(g:u9 P w K mg base)(c:zw P w K mg base):bA P w K mg base dG 2 f fd gL (eh ⟨K,mg⟩ 2 nU):=by
 have e:=zP.nd
 refine bj F zP λb A a s H E d=> ?_
 delta Bj
 ac_rfl
 refine o8 (n:=3) (N:= ["hand","ahead"]) (js:= [none,some 2]) (aQ.gen rfl rfl rfl rfl rfl rfl) rfl ?_ (λ_ _ _ _=> ?_) (λ_ _ _ _=> ?_) (λ_ _ _ _=> ?_) ?_
 ac_rfl
 refine cA (N:= ["ring"]) (js:= [none]) (aQ.gen rfl rfl rfl rfl rfl rfl) rfl ?_ (λ_ _ _ _=> ?_) (λ_ _ _ _=> ?_) (λ_ _ _ _=> ?_)
 ac_rfl
def xO:aJ y0 y0 (aD lL):=fE
def ya(F:et K "values_of" "values_of" lL f fd)(B:Bl mg):bA P w K mg base dG 1 f fd y0 (eh ⟨K,mg⟩ 1 gq):=by
 refine bj F xO λb A a s H E c=> ?_
 delta nO
 ac_rfl
 refine cA (N:= ["word","value"]) (js:= [none,none]) (aQ.gen rfl rfl rfl rfl rfl rfl) rfl ?_ (λ_ _ _ _=> ?_) (λ_ _ _ _=> ?_) (λ_ _ _ _=> ?_)
 ac_rfl
def m3:aJ ["room","name","manner","things","bells","deeds"] zJ (aD kf):=fE
def uX(F:et K "begun_room" "begun_room" kf f fd)(B:Bl mg)(h:rE P w K mg base){c:Tok}(d:mg "NOBODY"=some (.int (-1) c)):bA P w K mg base dG 2 f fd zJ (eh ⟨K,mg⟩ 1 iU):=by
 have g:=m3.nd
 refine bj F m3 λb A a s H E e=> ?_
 delta k_
 ac_rfl
 refine cA (N:= ["bell"]) (js:= [none]) (aQ.gen rfl rfl rfl rfl rfl rfl) rfl ?_ (λ_ _ _ _=> ?_) (λ_ _ _ _=> ?_) (λ_ _ _ _=> ?_)
 ac_rfl
end
section
variable{P:Program}{w:World}{K:PySem.W.Frag}{mg:Str->Option Value}{base:Heap}{f:Addr}{fd:FuncData}
def zV:aJ ["world","rooms","passes","shared","hands","own"] wX (aD yi):=fE
def Ga(F:et K "begun" "begun" yi f fd)(B:Bl mg)(i:rE P w K mg base)(g:xm P w K mg base){c:Tok}(h:mg "OWN"=some (.int (-1) c)):bA P w K mg base dG 3 f fd wX (eh ⟨K,mg⟩ 1 ug):=by
 have e:=zV.nd
 refine bj F zV λb A a s H E d=> ?_
 delta Bv
 ac_rfl
 refine cA (N:=zJ) (js:= [none]) (aQ.gen rfl rfl rfl rfl rfl rfl) rfl ?_ (λ_ _ _ _=> ?_) (λ_ _ _ _=> ?_) (λ_ _ _ _=> ?_)
 ac_rfl
 refine cA (N:= ["name","value"]) (js:= [none,none]) (aQ.gen rfl rfl rfl rfl rfl rfl) rfl ?_ (λ_ _ _ _=> ?_) (λ_ _ _ _=> ?_) (λ_ _ _ _=> ?_)
 ac_rfl
 refine cA (N:= ["things","program","own"]) (js:= [none,none,some 5]) (aQ.gen rfl rfl rfl rfl rfl rfl) rfl ?_ (λ_ _ _ _=> ?_) (λ_ _ _ _=> ?_) (λ_ _ _ _=> ?_)
 ac_rfl
def yH:aJ zv zv (aD ng):=fE
def yL(F:et K "hands_at" "hands_at" ng f fd)(B:Bl mg):bA P w K mg base dG 1 f fd zv (eh ⟨K,mg⟩ 1 mw):=by
 refine bj F yH λb A a s H E c=> ?_
 delta qt
 ac_rfl
 refine cA (N:= ["turn","hand"]) (js:= [none,none]) (aQ.gen rfl rfl rfl rfl rfl rfl) rfl ?_ (λ_ _ _ _=> ?_) (λ_ _ _ _=> ?_) (λ_ _ _ _=> ?_)
 ac_rfl
def jB:aJ ["scene","hands","value","row","values","within","late","bells","line"] Cc (aD gJ):=fE
def qJ(F:et K "hands_in_rows" "hands_in_rows" gJ f fd)(B:Bl mg)(e:A4 P w K mg base):bA P w K mg base dG 2 f fd Cc (eh ⟨K,mg⟩ 1 eN):=by
 have d:=jB.nd
 refine bj F jB λb A a s H E c=> ?_
 delta ib
 ac_rfl
def u_:aJ Af Af (aD kh):=fE
def uW(F:et K "last_frame" "last_frame" kh f fd)(B:Bl mg):bA P w K mg base dG 1 f fd Af (eh ⟨K,mg⟩ 2 cT):=by
 refine bj F u_ λb A a s H E c=> ?_
 delta kY
 ac_rfl
def m7:aJ ["world","hand","frame","room","deed"] BU (aD j9):=fE
def vk(F:et K "program_of" "program_of" j9 f fd)(B:Bl mg){c:Tok}(e:mg "OWN"=some (.int (-1) c)):bA P w K mg base dG 1 f fd BU (eh ⟨K,mg⟩ 3 fI):=by
 have d:=m7.nd
 refine bj F m7 λb A a s H E g=> ?_
 exact(bG (Gb (A6 (i:=3) (j:=4) rfl d rfl rfl (by decide) rfl rfl (ay (dz (v_ 2) bh) (ay (dz (v_ 2) bh) aS)) rfl))
  (bG (tH (hV lD kP (v_ 3) (jT (xv (v:=.int (-1)) rfl e ⟨_,rfl⟩) λ_ _=>.int (-1)) (d_ _)) (eP (ji (dz (dz (dz (v_ 0) bh) (v_ 1)) bh))) lN)
  (eP (ji (dz (dz (dz (dz (dz (v_ 0) bh) (v_ 3)) bh) (v_ 4)) bh)))))
def jz:aJ ["world","scene","hand","frame"] eI (aD gK):=fE
def qe(F:et K "is_behind_all" "is_behind_all" gK f fd)(B:Bl mg)(d:dP P w K mg base)(h:jR P w K mg base){c:Tok}(i:mg "OWN"=some (.int (-1) c)):bA P w K mg base dG 2 f fd eI (eh ⟨K,mg⟩ 3 fS):=by
 have g:=jz.nd
 refine bj F jz λb A a s H E e=> ?_
 delta iq
 ac_rfl
def qX:aJ ["world","scene","held_up"] gL (aD oB):=fE
def y_(F:et K "may_step" "may_step" oB f fd)(B:Bl mg)(g:rF P w K mg base)(e:rR P w K mg base):bA P w K mg base dG 3 f fd gL (eh ⟨K,mg⟩ 2 jE):=by
 have d:=qX.nd
 refine bj F qX λb A a s H E c=> ?_
 delta p8
 ac_rfl
 refine cA (N:= ["hand","world","scene","held_up"]) (js:= [none,some 0,some 1,some 2]) (aQ.gen rfl rfl rfl rfl rfl rfl) rfl ?_ (λ_ _ _ _=> ?_) (λ_ _ _ _=> ?_) (λ_ _ _ _=> ?_)
 ac_rfl
def yC:aJ zk zk (aD nP):=fE
def zt(F:et K "names_of" "names_of" nP f fd)(B:Bl mg):bA P w K mg base dG 1 f fd zk (eh ⟨K,mg⟩ 1 d0):=by
 refine bj F yC λb A a s H E c=> ?_
 delta qv
 ac_rfl
 refine cA (N:= ["row"]) (js:= [none]) (aQ.gen rfl rfl rfl rfl rfl rfl) rfl ?_ (λ_ _ _ _=> ?_) (λ_ _ _ _=> ?_) (λ_ _ _ _=> ?_)
 ac_rfl
def zH:aJ yA yA (aD oa):=fE
def yz(F:et K "place_of" "place_of" oa f fd)(B:Bl mg)(d:og P w K mg base):bA P w K mg base dG 2 f fd yA (eh ⟨K,mg⟩ 2 da):=by
 refine bj F zH λb A a s H E c=> ?_
 delta qI
 ac_rfl
def wo:aJ yO yO (aD me):=fE
def wW(F:et K "with_part" "with_part" me f fd)(B:Bl mg):bA P w K mg base dG 1 f fd yO (eh ⟨K,mg⟩ 3 dv):=by
 refine bj F wo λb A a s H E c=> ?_
 delta n0
 ac_rfl
def xM:aJ zU zU (aD lM):=fE
def yp(F:et K "with_hand" "with_hand" lM f fd)(B:Bl mg)(d:gD P w K mg base):bA P w K mg base dG 2 f fd zU (eh ⟨K,mg⟩ 4 fA):=by
 refine bj F xM λb A a s H E c=> ?_
 delta nH
 ac_rfl
def ye:aJ Aa Aa (aD lA):=fE
def wC(F:et K "with_room" "with_room" lA f fd)(B:Bl mg)(d:gD P w K mg base):bA P w K mg base dG 2 f fd Aa (eh ⟨K,mg⟩ 3 c8):=by
 refine bj F ye λb A a s H E c=> ?_
 delta nT
 ac_rfl
def pU:aJ ["world","scene","hand","word","value","room","place","values","shared","frames"] CT (aD lV):=fE
def xW(F:et K "put_thing" "put_thing" lV f fd)(B:Bl mg)(d:dP P w K mg base)(e:iw P w K mg base)(m:gD P w K mg base)(l:gA P w K mg base)(j:og P w K mg base)(g:iY P w K mg base){c:Tok}(k:mg "OWN"=some (.int (-1) c)):bA P w K mg base dG 3 f fd CT (eh ⟨K,mg⟩ 5 fq):=by
 have i:=pU.nd
 refine bj F pU λb A a s H E h=> ?_
 delta j_
 ac_rfl
def rQ:aJ yG yG (aD hX):=fE
def rJ(F:et K "value_of_two" "value_of_two" hX f fd)(B:Bl mg){c:Tok}(d:mg "HIGHEST"=some (.int (9) c)):bA P w K mg base dG 1 f fd yG (eh ⟨K,mg⟩ 3 gw):=by
 refine bj F rQ λb A a s H E e=> ?_
 delta jb
 ac_rfl
def qW:aJ ["tree","things","waiting","first"] vO (aD nJ):=fE
theorem rf(F:et K "value_of" "value_of" nJ f fd)(B:Bl mg)(h:sF P w K mg base)(b:Binds K fd vO [])(c:PySem.W.keepIn K (.ref f)=true)(m:mg "value_of"=some (.ref f)):∀n,bA P w K mg base dG (2+n) f fd vO (eh ⟨K,mg⟩ 3 (gc n))
 |0=>xg
 | n+1=>by
   have i:eZ P w K mg base (2+n) "value_of" vO (gc n):=⟨f,fd,rf F B h b c m n,b,c,m⟩
   have j:=qW.nd
   refine bj (k:=2+n) F qW λd A a s H E e=> ?_
   have g:=Cn e
   delta qN
   ac_rfl
end
section
variable{P:Program}{w:World}{K:PySem.W.Frag}{mg:Str->Option Value}{base:Heap}{f:Addr}{fd:FuncData}
def rC:aJ ["world","scene","hand","tree","frame","room","things","waiting"] Cr (aD ni):=fE
def zB(F:et K "reckoned" "reckoned" ni f fd)(B:Bl mg)(g:dP P w K mg base)(j:og P w K mg base)(h:BL P w K mg base){d:Tok}(k:mg "OWN"=some (.int (-1) d)):bA P w K mg base dG 9 f fd Cr (eh ⟨K,mg⟩ 4 dD):=by
 have i:=rC.nd
 refine bj F rC λb A a s H E c=> ?_
 have e:=Cn c
 delta my
 ac_rfl
 refine FW (n:=7) (N:= ["bell","line"]) (js:= [none,none]) (aQ.gen rfl rfl rfl rfl rfl rfl) rfl ?_ (λ_ _ _ _=> ?_) (λ_ _ _ _=> ?_) (λ_ _ _ _=> ?_) (λ_ _ _ _=> ?_) ?_
 ac_rfl
def Dp:aJ bJ bJ (aD tK):=fE
def D6(F:et K "by_put" "by_put" tK f fd)(B:Bl mg)(c:q5 P w K mg base)(e:gn P w K mg base):bA P w K mg base dG 10 f fd bJ (eh ⟨K,mg⟩ 4 rY):=by
 refine bj F Dp λb A a s H E d=> ?_
 delta wD
 ac_rfl
def ip:aJ ["scene","hand","frame","values","frames"] CC (aD fQ):=fE
def nY(F:et K "with_last_frame" "with_last_frame" fQ f fd)(B:Bl mg)(c:iY P w K mg base):bA P w K mg base dG 3 f fd CC (eh ⟨K,mg⟩ 3 dE):=by
 have e:=ip.nd
 refine bj F ip λb A a s H E d=> ?_
 delta f_
 ac_rfl
def vE:aJ ["scene","hand","row","frame"] CI (aD tE):=fE
def CY(F:et K "at_row" "at_row" tE f fd)(B:Bl mg)(c:dP P w K mg base)(d:iX P w K mg base):bA P w K mg base dG 4 f fd CI (eh ⟨K,mg⟩ 3 kr):=by
 have g:=vE.nd
 refine bj F vE λb A a s H E e=> ?_
 delta wu
 ac_rfl
def wy:aJ bJ bJ (aD lJ):=fE
def xJ(F:et K "by_unless" "by_unless" lJ f fd)(B:Bl mg)(e:gn P w K mg base)(d:tR P w K mg base):bA P w K mg base dG 10 f fd bJ (eh ⟨K,mg⟩ 4 ko):=by
 refine bj F wy λb A a s H E c=> ?_
 delta nq
 ac_rfl
def Eu:aJ bJ bJ (aD xc):=fE
def FV(F:et K "by_go" "by_go" xc f fd)(B:Bl mg)(d:tR P w K mg base):bA P w K mg base dG 5 f fd bJ (eh ⟨K,mg⟩ 4 yd):=by
 refine bj F Eu λb A a s H E c=> ?_
 delta A0
 ac_rfl
def uK:aJ ["scene","room","hand","values","within","row","late","bells"] B7 (aD qO):=fE
def AJ(F:et K "come_in" "come_in" qO f fd)(B:Bl mg)(h:gA P w K mg base){c:Tok}(d:mg "NOBODY"=some (.int (-1) c)):bA P w K mg base dG 3 f fd B7 (eh ⟨K,mg⟩ 3 l9):=by
 have g:=uK.nd
 refine bj F uK λb A a s H E e=> ?_
 delta uH
 ac_rfl
def Ah:aJ ["world","scene","hand","row","room","deed","frame","values","frames"] bJ (aD yk):=fE
def EY(F:et K "by_do" "by_do" yk f fd)(B:Bl mg)(c:iw P w K mg base)(i:gn P w K mg base)(d:we P w K mg base)(e:iY P w K mg base):bA P w K mg base dG 10 f fd bJ (eh ⟨K,mg⟩ 4 wK):=by
 have h:=Ah.nd
 refine bj F Ah λb A a s H E g=> ?_
 delta AS
 ac_rfl
def tT:aJ ["world","scene","hand","word","room"] Ct (aD qH):=fE
def AM(F:et K "bell_of" "bell_of" qH f fd)(B:Bl mg)(c:dP P w K mg base)(d:iw P w K mg base):bA P w K mg base dG 3 f fd Ct (eh ⟨K,mg⟩ 4 jG):=by
 have g:=tT.nd
 refine bj F tT λb A a s H E e=> ?_
 delta tO
 ac_rfl
def pM:aJ ["scene","room","bell","line","state"] CO (aD lQ):=fE
def yo(F:et K "with_line" "with_line" lQ f fd)(B:Bl mg)(e:gA P w K mg base)(g:gD P w K mg base):bA P w K mg base dG 3 f fd CO (eh ⟨K,mg⟩ 4 fu):=by
 have d:=pM.nd
 refine bj F pM λb A a s H E c=> ?_
 delta nW
 ac_rfl
def yD:aJ ["scene","room","values","within","row","late","bells"] BZ (aD xI):=fE
def Ei(F:et K "leave" "leave" xI f fd)(B:Bl mg)(h:gA P w K mg base){c:Tok}(d:mg "NOBODY"=some (.int (-1) c)):bA P w K mg base dG 3 f fd BZ (eh ⟨K,mg⟩ 2 qw):=by
 have g:=yD.nd
 refine bj F yD λb A a s H E e=> ?_
 delta AZ
 ac_rfl
def uh:aJ ["world","scene","hand","row","room","bell","turn","line","ahead","waiting"] bJ (aD qk):=fE
def BI(F:et K "by_wait" "by_wait" qk f fd)(B:Bl mg)(g:p7 P w K mg base)(i:gn P w K mg base)(h:lu P w K mg base)(c:B3 P w K mg base):bA P w K mg base dG 10 f fd bJ (eh ⟨K,mg⟩ 4 pE):=by
 have e:=uh.nd
 refine bj F uh λb A a s H E d=> ?_
 delta uB
 ac_rfl
 refine cA (N:= ["other","waiter","turn"]) (js:= [none,none,some 6]) (aQ.gen rfl rfl rfl rfl rfl rfl) rfl ?_ (λ_ _ _ _=> ?_) (λ_ _ _ _=> ?_) (λ_ _ _ _=> ?_)
 ac_rfl
def sr:aJ ["world","scene","hand","row","room","bell","line","called","values","within","queue","late","bells"] bJ (aD qA):=fE
def AV(F:et K "by_call" "by_call" qA f fd)(B:Bl mg)(e:p7 P w K mg base)(g:lu P w K mg base)(h:gA P w K mg base):bA P w K mg base dG 4 f fd bJ (eh ⟨K,mg⟩ 4 pI):=by
 have d:=sr.nd
 refine bj F sr λb A a s H E c=> ?_
 delta um
 ac_rfl
end
section
variable{P:Program}{w:World}{K:PySem.W.Frag}{mg:Str->Option Value}{base:Heap}{f:Addr}{fd:FuncData}
def vL:aJ ["world","scene","hand","row","room","bell"] bJ (aD sM):=fE
def Ds(F:et K "by_all" "by_all" sM f fd)(B:Bl mg)(e:p7 P w K mg base)(g:lu P w K mg base):bA P w K mg base dG 4 f fd bJ (eh ⟨K,mg⟩ 4 sf):=by
 have d:=vL.nd
 refine bj F vL λb A a s H E c=> ?_
 delta w5
 ac_rfl
def sY:aJ ["world","scene","hand","row","told"] bJ (aD qc):=fE
def A3(F:et K "by_tell" "by_tell" qc f fd)(B:Bl mg)(h:gn P w K mg base)(d:iX P w K mg base)(c:dP P w K mg base):bA P w K mg base dG 10 f fd bJ (eh ⟨K,mg⟩ 4 pj):=by
 have g:=sY.nd
 refine bj F sY λb A a s H E e=> ?_
 delta sW
 ac_rfl
def yt:aJ zr zr (aD l_):=fE
def yc(F:et K "with_pass" "with_pass" l_ f fd)(B:Bl mg)(d:gD P w K mg base):bA P w K mg base dG 2 f fd zr (eh ⟨K,mg⟩ 3 fB):=by
 refine bj F yt λb A a s H E c=> ?_
 delta oz
 ac_rfl
def An:aJ ["world","scene","hand","name","place","value","row"] CU (aD yg):=fE
def Gj(F:et K "taken" "taken" yg f fd)(B:Bl mg)(c:iw P w K mg base)(g:qZ P w K mg base):bA P w K mg base dG 3 f fd CU (eh ⟨K,mg⟩ 4 tq):=by
 have e:=An.nd
 refine bj F An λb A a s H E d=> ?_
 delta Bs
 ac_rfl
def AU:aJ bJ bJ (aD qL):=fE
def AO(F:et K "by_take" "by_take" qL f fd)(B:Bl mg)(c:Cp P w K mg base):bA P w K mg base dG 4 f fd bJ (eh ⟨K,mg⟩ 4 pH):=by
 refine bj F AU λb A a s H E d=> ?_
 delta tw
 ac_rfl
def mR:aJ ["world","scene","name","place","value","row"] yn (aD j8):=fE
def vc(F:et K "given_back" "given_back" j8 f fd)(B:Bl mg)(d:iw P w K mg base)(i:qZ P w K mg base){c:Tok}(e:mg "HIGHEST"=some (.int (9) c)):bA P w K mg base dG 3 f fd yn (eh ⟨K,mg⟩ 3 gG):=by
 have h:=mR.nd
 refine bj F mR λb A a s H E g=> ?_
 delta kU
 ac_rfl
def Bu:aJ bJ bJ (aD qz):=fE
def AC(F:et K "by_give" "by_give" qz f fd)(B:Bl mg)(d:oT P w K mg base):bA P w K mg base dG 4 f fd bJ (eh ⟨K,mg⟩ 4 pT):=by
 refine bj F Bu λb A a s H E c=> ?_
 delta tm
 ac_rfl
def BK:aJ bJ bJ (aD pZ):=fE
def AE(F:et K "by_pass" "by_pass" pZ f fd)(B:Bl mg)(c:Cp P w K mg base)(e:oT P w K mg base):bA P w K mg base dG 4 f fd bJ (eh ⟨K,mg⟩ 4 pB):=by
 refine bj F BK λb A a s H E d=> ?_
 delta uj
 ac_rfl
def Dz:aJ bJ bJ (aD sL):=fE
def C8(F:et K "by_say" "by_say" sL f fd)(B:Bl mg):bA P w K mg base dG 1 f fd bJ (eh ⟨K,mg⟩ 4 si):=by
 refine bj F Dz λb A a s H E c=> ?_
 delta wR
 ac_rfl
def qV:aJ ["world","scene","hand","row","deed"] bJ (aD nu):=fE
def zR(F:et K "row_done" "row_done" nu f fd)(B:Bl mg)(g:∀x F,t_.lookup x=some F->eZ P w K mg base 10 x bJ F)(c:Ck P w K mg "DONE_BY" mD):bA P w K mg base dG 11 f fd bJ (eh ⟨K,mg⟩ 4 jm):=by
 have e:=qV.nd
 refine bj F qV λb A a s H E d=> ?_
 exact(bG (j2 4 e (Im c rfl (dz (v_ 3) bh) (λ_ _=>rfl)))
  (eP (ji (Ir g (d.mono (by decide)) rfl (by first|exact Or.inl rfl|exact Or.inr (Or.inl rfl)) (ay (v_ 0) (ay (v_ 1) (ay (v_ 2) (ay (v_ 3) aS)))) (ml (ml (ml (ml AD))))))))
def qY:aJ ["world","scene","hand","values","frames","room","deed","row","given","told","outside","came_by"] eI (aD nI):=fE
def zA(F:et K "end_deed" "end_deed" nI f fd)(B:Bl mg)(e:iY P w K mg base)(c:B3 P w K mg base)(i:jR P w K mg base)(d:q5 P w K mg base):bA P w K mg base dG 4 f fd eI (eh ⟨K,mg⟩ 3 jj):=by
 have h:=qY.nd
 refine bj F qY λb A a s H E g=> ?_
 delta qf
 ac_rfl
def sx:aJ ["world","scene","hand","frame","room","program","row","event"] eI (aD qu):=fE
def Bw(F:et K "step_of" "step_of" qu f fd)(B:Bl mg)(d:dP P w K mg base)(m:we P w K mg base)(e:jR P w K mg base)(i:A8 P w K mg base)(l:gn P w K mg base)(g:Bi P w K mg base)(k:tR P w K mg base){b:Tok}(j:mg "OWN"=some (.int (-1) b)):bA P w K mg base dG 12 f fd eI (eh ⟨K,mg⟩ 3 pQ):=by
 have n:=sx.nd
 refine bj F sx λc A a s H E h=> ?_
 delta lE
 ac_rfl
def Bt:aJ eI eI (aD qx):=fE
def Bo(F:et K "stepped" "stepped" qx f fd)(B:Bl mg)(e:tZ P w K mg base)(c:DX P w K mg base):bA P w K mg base dG 13 f fd eI (eh ⟨K,mg⟩ 3 pw):=by
 refine bj F Bt λb A a s H E d=> ?_
 delta uG
 ac_rfl
def mU:aJ ["_law_world_here","_law_scene","_law_some","_law_hand","_law_later","_law_event"] kE (aD kb):=fE
def uY(F:et K "_law_steps" "_law_steps" kb f fd)(B:Bl mg)(g:tZ P w K mg base)(e:D7 P w K mg base):bA P w K mg base dG 14 f fd kE (eh ⟨K,mg⟩ 2 iP):=by
 have d:=mU.nd
 refine bj F mU λb A a s H E c=> ?_
 delta kW
 ac_rfl
def m5:aJ ["_law_world_here","_law_scene","_law_found","_law_first","_law_ring","_law_hand","_law_later","_law_turn","_law_room","_law_state"] kE (aD jZ):=fE
def vh(F:et K "_law_rings" "_law_rings" jZ f fd)(B:Bl mg):bA P w K mg base dG 1 f fd kE (eh ⟨K,mg⟩ 2 i3):=by
 have a:=m5.nd
 refine bj F m5 λd A b s H E c=> ?_
 exact(bG (j2 2 a (fY (fN aS)))
  (bG (zS PassesOwn.never rfl (wm rfl B.range (jh rfl B.len (tW (dz (v_ 0) bh)))) (uP 3 a) (bG (Ke (GN (i:=4) (j:=5) (l:=6) rfl a rfl rfl rfl (by decide) (by decide) (by decide) rfl rfl rfl (ay (fY (fN aS)) (ay (v_ 3) (ay (v_ 3) aS))) rfl))
  (eP (zS PassesOwn.never rfl (wm rfl B.range (jh rfl B.len (tW (dz (v_ 0) bh)))) (uP 7 a) (bG (zS PassesOwn.never rfl (MN rfl B.zip (tW (dz (v_ 0) bh)) (tW (dz (v_ 1) bh))) (Ep rfl (mz (uP 8 a) (mz (uP 9 a) AY))) (eP (tH (PW.pt (w_and (NS (v_ 5) (tW (dz (v_ 9) bh))) (uo (hV lD kP (jh rfl B.len (tW (v_ 4))) (v_ 7) (d_ _))))) (bG (uv (lS (v_ 4) (dm (ay (v_ 5) (ay (dz (v_ 8) bh) aS)))))
  (eP (j2 6 a (dz (v_ 9) bh)))) lN)))
  (eP (tH (hV lD kP (jh rfl B.len (tW (v_ 4))) (o9 (v_ 7) bh) (d_ _)) (bG (j2 5 a (v_ 6))
  (eP (tH (PW.pt (w_and (hV lD kP (v_ 5) (v_ 3) (d_ _)) (uo (hV lD kP (dz (JK c rfl rfl B.min (tW (v_ 4))) bh) (v_ 3) (d_ _))))) (bG (uv (lS (v_ 2) (oH rfl B.tuple (Cu (tW (v_ 4))) (ht:=iZ))))
  (eP Hi)) lN))) lN)))))))
  (eP (ji (oH rfl B.tuple (Oc (DW c rfl B.sorted (tW (v_ 2)))) (ht:=Hn))))))
end
section
variable{P:Program}{w:World}{K:PySem.W.Frag}{mg:Str->Option Value}{base:Heap}{f:Addr}{fd:FuncData}
def xT:aJ AN AN (aD lX):=fE
theorem pL(F:et K "_law_same" "_law_same" lX f fd)(B:Bl mg)(b:Binds K fd AN [])(c:PySem.W.keepIn K (.ref f)=true)(m:mg "_law_same"=some (.ref f)):∀n,bA P w K mg base dG (1+n) f fd AN (eh ⟨K,mg⟩ 2 (gf n))
 |0=>xg
 | n+1=>by
   have g:eZ P w K mg base (1+n) "_law_same" AN (gf n):=⟨f,fd,pL F B b c m n,b,c,m⟩
   refine bj (k:=1+n) F xT λd A a s H E e=> ?_
   delta fZ
   ac_rfl
   refine cA (N:= ["_law_one","_law_other"]) (js:= [none,none]) (aQ.gen rfl rfl rfl rfl rfl rfl) rfl ?_ (λ_ _ _ _=> ?_) (λ_ _ _ _=> ?_) (λ_ _ _ _=> ?_)
   ac_rfl
def zD:aJ mY mY (aD nQ):=fE
def zc(F:et K "is_whole" "is_whole" nQ f fd)(B:Bl mg):bA P w K mg base dG 1 f fd mY (eh ⟨K,mg⟩ 1 mG):=by
 refine bj F zD λb A a s H E c=> ?_
 delta p0
 ac_rfl
def kN:aJ mY mY (aD eY):=fE
def lW(F:et K "is_hand_with_name" "is_hand_with_name" eY f fd)(B:Bl mg)(d:Be P w K mg base):bA P w K mg base dG 2 f fd mY (eh ⟨K,mg⟩ 1 dU):=by
 refine bj F kN λb A a s H E c=> ?_
 delta fD
 ac_rfl
def uT:aJ ui ui (aD ke):=fE
def u7(F:et K "shows_ring" "shows_ring" ke f fd)(B:Bl mg)(c:mO P w K mg base)(e:xf P w K mg base):bA P w K mg base dG 3 f fd ui (eh ⟨K,mg⟩ 3 iR):=by
 refine bj F uT λb A a s H E d=> ?_
 delta lG
 ac_rfl
 refine cA (N:= ["pair"]) (js:= [none]) (aQ.gen rfl rfl rfl rfl rfl rfl) rfl ?_ (λ_ _ _ _=> ?_) (λ_ _ _ _=> ?_) (λ_ _ _ _=> ?_)
 ac_rfl
def mX:aJ ["_law_world_here","_law_scene","_law_due","_law_hands","_law_ring"] kE (aD ku):=fE
def uS(F:et K "_law_right" "_law_right" ku f fd)(B:Bl mg)(i:yl P w K mg base)(e:zi P w K mg base)(h:xf P w K mg base)(c:xP P w K mg base):bA P w K mg base dG 12 f fd kE (eh ⟨K,mg⟩ 2 iV):=by
 have g:=mX.nd
 refine bj F mX λb A a s H E d=> ?_
 delta k8
 ac_rfl
 refine cA (N:= ["_law_hand","_law_room"]) (js:= [none,none]) (aQ.gen rfl rfl rfl rfl rfl rfl) rfl ?_ (λ_ _ _ _=> ?_) (λ_ _ _ _=> ?_) (λ_ _ _ _=> ?_)
 ac_rfl
def F9:aJ ["_law_script","_law_k","_law_left","_law_world_here","_law_weaving","_law_scene","_law_turn","_law_some"] Fv (aD oN):=fE
def Ki(F:et K "law" "law" oN f fd)(B:Bl mg)(e:Ay P w K mg base)(j:vb P w K mg base)(l:xf P w K mg base)(d:GR P w K mg base)(h:xQ P w K mg base)(k:dJ P w K mg base)(m:xF P w K mg base):bA P w K mg base dG 15 f fd Fv (eh ⟨K,mg⟩ 1 HC):=by
 have i:=F9.nd
 refine bj F F9 λb A a s H E c=> ?_
 have g:=c.units0
 delta K2
 ac_rfl
end
def all_mk{l:PySem.W.OpenLaw}{w:World}{K:PySem.W.Frag}{h:Heap}{mg:Str->Option Value}{fa f1 f2 f3 f4 f5 f6 f7 f8 f9 l0 l1 a5 t2 k5 u8 q6 h3 c0 h5 b4 o2 e9 r6 o1 r7 v1 w2 u3 q2 e5 q c4 n3 C J b5 H f0 s6 b0 M o a1 U g4 h1 t s5 n Q P g2 n7 n2 i2 g3 j1 e8 n8 x0 n6 w7 f:Addr}(X:K.In h)(G:h.Ns mainGlobals mg)(w8:mg "law"=some (.ref fa))
  (d1:bc K "_law_pot" nL f1)
  (d2:bc K "_law_pick" l8 f2)
  (d3:bc K "_law_words" jS f3)
  (d4:bc K "_law_ring_world" fR f4)
  (d5:bc K "_law_any_sum" iz f5)
  (d6:bc K "_law_hand_row" gP f6)
  (d7:bc K "_law_deed_row" gI f7)
  (d8:bc K "_law_world" kc f8)
  (d9:bc K "_law_either" i8 f9)
  (l2:bc K "hands_ahead" ja l0)
  (j5:bc K "ring_from" lU l1)
  (r2:bc K "rings" wA a5)
  (q3:bc K "values_of" lL t2)
  (p4:bc K "begun_room" kf k5)
  (n4:bc K "begun" yi u8)
  (w1:bc K "hands_at" ng q6)
  (k7:bc K "hands_in_rows" gJ h3)
  (k2:bc K "last_frame" kh c0)
  (t3:bc K "program_of" j9 h5)
  (l5:bc K "is_behind_all" gK b4)
  (b7:bc K "may_step" oB o2)
  (v4:bc K "names_of" nP e9)
  (o4:bc K "place_of" oa r6)
  (a6:bc K "with_part" me o1)
  (k4:bc K "with_hand" lM r7)
  (v2:bc K "with_room" lA v1)
  (n1:bc K "put_thing" lV w2)
  (o0:bc K "value_of_two" hX u3)
  (v0:bc K "value_of" nJ q2)
  (l4:bc K "reckoned" ni e5)
  (m2:bc K "by_put" tK q)
  (l6:bc K "with_last_frame" fQ c4)
  (s7:bc K "at_row" tE n3)
  (q8:bc K "by_unless" lJ C)
  (b1:bc K "by_go" xc J)
  (w0:bc K "come_in" qO b5)
  (v6:bc K "by_do" yk H)
  (k1:bc K "bell_of" qH f0)
  (m1:bc K "with_line" lQ s6)
  (n5:bc K "leave" xI b0)
  (h7:bc K "by_wait" qk M)
  (q7:bc K "by_call" qA o)
  (e2:bc K "by_all" sM a1)
  (e4:bc K "by_tell" qc U)
  (p1:bc K "with_pass" l_ g4)
  (b9:bc K "taken" yg h1)
  (p2:bc K "by_take" qL t)
  (h4:bc K "given_back" j8 s5)
  (u2:bc K "by_give" qz n)
  (e0:bc K "by_pass" pZ Q)
  (b6:bc K "by_say" sL P)
  (r5:bc K "row_done" nu g2)
  (b2:bc K "end_deed" nI n7)
  (e3:bc K "step_of" qu n2)
  (h2:bc K "stepped" qx i2)
  (v3:bc K "_law_steps" kb g3)
  (g1:bc K "_law_rings" jZ j1)
  (r1:bc K "_law_same" lX e8)
  (o5:bc K "is_whole" nQ n8)
  (k6:bc K "is_hand_with_name" eY x0)
  (m0:bc K "shows_ring" ke n6)
  (h6:bc K "_law_right" ku w7)
  {oc kV dc pm cd ct:Value} {od an:Option Addr} {sl:Array (Option Value)} (c3:PySem.W.nsIn K mainGlobals "law"=some (some (.ref f))) (s8:K.lookup f=some ⟨oc,od,.func (PySem.W.fnOf "law" "law" (g8 oN) (ff oN) (aD oN) .none kV dc pm an cd ct),sl⟩) (c1:PySem.W.codeIn K cd "law"=true) (i1:PySem.W.keepIn K (.ref f)=true)
  {iB:Tok} (Fg:PySem.W.nsIn K mainGlobals "NOBODY"=some (some (.int (-1) iB)))
  {jn:Tok} (Ly:PySem.W.nsIn K mainGlobals "OWN"=some (some (.int (-1) jn)))
  {jg:Tok} (DN:PySem.W.nsIn K mainGlobals "HIGHEST"=some (some (.int (9) jg)))
  {vz A5:Nat} {wI xj xx xK xu xt wx w6 xU x_ u5 uQ:Tok} (CW:PySem.W.nsIn K mainGlobals "DONE_BY"=some (some (.ref vz))) (Av:K.lookup vz=some ⟨.type "dict",none,.dict (List.toArray [⟨PyData.keyHash w.params "put",.str "put" wI,.ref q⟩,⟨PyData.keyHash w.params "unless",.str "unless" xj,.ref C⟩,⟨PyData.keyHash w.params "go",.str "go" xx,.ref J⟩,⟨PyData.keyHash w.params "do",.str "do" xK,.ref H⟩,⟨PyData.keyHash w.params "wait",.str "wait" xu,.ref M⟩,⟨PyData.keyHash w.params "call",.str "call" xt,.ref o⟩,⟨PyData.keyHash w.params "all",.str "all" wx,.ref a1⟩,⟨PyData.keyHash w.params "tell",.str "tell" w6,.ref U⟩,⟨PyData.keyHash w.params "take",.str "take" xU,.ref t⟩,⟨PyData.keyHash w.params "give",.str "give" x_,.ref n⟩,⟨PyData.keyHash w.params "pass",.str "pass" u5,.ref Q⟩,⟨PyData.keyHash w.params "say",.str "say" uQ,.ref P⟩]) A5,#[]⟩)
  (ML:PySem.W.nsIn K mainGlobals "len"=some none) (GF:PySem.W.nsIn K mainGlobals "tuple"=some none) (Kg:PySem.W.nsIn K mainGlobals "list"=some none) (J5:PySem.W.nsIn K mainGlobals "dict"=some none) (Lu:PySem.W.nsIn K mainGlobals "set"=some none) (MC:PySem.W.nsIn K mainGlobals "int"=some none) (Mx:PySem.W.nsIn K mainGlobals "str"=some none) (JX:PySem.W.nsIn K mainGlobals "bool"=some none) (Mg:PySem.W.nsIn K mainGlobals "all"=some none) (Mv:PySem.W.nsIn K mainGlobals "any"=some none) (GG:PySem.W.nsIn K mainGlobals "range"=some none) (Mn:PySem.W.nsIn K mainGlobals "zip"=some none) (F8:PySem.W.nsIn K mainGlobals "sorted"=some none) (xk:PySem.W.nsIn K mainGlobals "isinstance"=some none) (Mc:PySem.W.nsIn K mainGlobals "min"=some none) (LW:PySem.W.nsIn K mainGlobals "max"=some none) (Ms:PySem.W.nsIn K mainGlobals "abs"=some none) (yE:PySem.W.nsIn K mainGlobals "enumerate"=some none)
  (T:∀ns:List Int,ns.length<=63->∃S',HC [.ref 0] [.frz (ns.map D.int)]=some (.d (.bl true),S')):
  ∃fd:FuncData,(∀(s:Shared) (v:Value),BindsTo s fd ⟨[v],[]⟩ [("_law_script",v)])/\∀base:Heap,K.In base->base.Ns mainGlobals mg->bA l.prog w K mg base dG 15 fa fd Fv y1:=by
 have e:=w8.symm.trans (PySem.W.mg_of X G c3)
 cases e
 have g5:=A_ (st:=oN) s8 c1 i1
 have O1:=d1.ok1 (ps:=CM) X G
 have O2:=d2.ok1 (ps:=yY) X G
 have O3:=d3.ok1 (ps:=yY) X G
 have O4:=d4.ok1 (ps:=pD) X G
 have O5:=d5.ok1 (ps:=vq) X G
 have O6:=d6.ok1 (ps:=BN) X G
 have O7:=d7.ok1 (ps:=Cj) X G
 have O8:=d8.ok1 (ps:=Ca) X G
 have O9:=d9.ok1 (ps:=pD) X G
 have w3:=l2.ok1 (ps:=gL) X G
 have s0:=j5.ok1 (ps:=CF) X G
 have e1:=r2.ok1 (ps:=gL) X G
 have c5:=q3.ok1 (ps:=y0) X G
 have v9:=p4.ok1 (ps:=zJ) X G
 have a9:=n4.ok1 (ps:=wX) X G
 have r0:=w1.ok1 (ps:=zv) X G
 have c6:=k7.ok1 (ps:=Cc) X G
 have u1:=k2.ok1 (ps:=Af) X G
 have q1:=t3.ok1 (ps:=BU) X G
 have s9:=l5.ok1 (ps:=eI) X G
 have l7:=b7.ok1 (ps:=gL) X G
 have s4:=v4.ok1 (ps:=zk) X G
 have e7:=o4.ok1 (ps:=yA) X G
 have i5:=a6.ok1 (ps:=yO) X G
 have b8:=k4.ok1 (ps:=zU) X G
 have o3:=v2.ok1 (ps:=Aa) X G
 have r3:=n1.ok1 (ps:=CT) X G
 have h0:=o0.ok1 (ps:=yG) X G
 have q9:=v0.ok1 (ps:=vO) X G
 have l3:=l4.ok1 (ps:=Cr) X G
 have R:=m2.ok1 (ps:=bJ) X G
 have t1:=l6.ok1 (ps:=CC) X G
 have e6:=s7.ok1 (ps:=CI) X G
 have S:=q8.ok1 (ps:=bJ) X G
 have j:=b1.ok1 (ps:=bJ) X G
 have s1:=w0.ok1 (ps:=B7) X G
 have z:=v6.ok1 (ps:=bJ) X G
 have m4:=k1.ok1 (ps:=Ct) X G
 have h9:=m1.ok1 (ps:=CO) X G
 have r4:=n5.ok1 (ps:=BZ) X G
 have a4:=h7.ok1 (ps:=bJ) X G
 have I:=q7.ok1 (ps:=bJ) X G
 have L:=e2.ok1 (ps:=bJ) X G
 have u:=e4.ok1 (ps:=bJ) X G
 have c2:=p1.ok1 (ps:=zr) X G
 have s3:=b9.ok1 (ps:=CU) X G
 have N:=p2.ok1 (ps:=bJ) X G
 have h8:=h4.ok1 (ps:=yn) X G
 have A:=u2.ok1 (ps:=bJ) X G
 have a3:=e0.ok1 (ps:=bJ) X G
 have a2:=b6.ok1 (ps:=bJ) X G
 have j4:=r5.ok1 (ps:=bJ) X G
 have t0:=b2.ok1 (ps:=eI) X G
 have n9:=e3.ok1 (ps:=eI) X G
 have q4:=h2.ok1 (ps:=eI) X G
 have k3:=v3.ok1 (ps:=kE) X G
 have g0:=g1.ok1 (ps:=kE) X G
 have b3:=r1.ok1 (ps:=AN) X G
 have s2:=o5.ok1 (ps:=mY) X G
 have p3:=k6.ok1 (ps:=mY) X G
 have x1:=m0.ok1 (ps:=ui) X G
 have a7:=h6.ok1 (ps:=kE) X G
 have jC:=PySem.W.mg_of X G Fg
 have i:=PySem.W.mg_of X G Ly
 have mK:=PySem.W.mg_of X G DN
 have qj:Ck l.prog w K mg "DONE_BY" mD:=F2 (PySem.W.mg_of X G CW) Av (.cons R.m (.cons S.m (.cons j.m (.cons z.m (.cons a4.m (.cons I.m (.cons L.m (.cons u.m (.cons N.m (.cons A.m (.cons a3.m (.cons a2.m .nil)))))))))))) (by decide +kernel)
 have B:Bl mg:=⟨QFq X G ML,QFq X G GF,QFq X G Kg,QFq X G J5,QFq X G Lu,QFq X G MC,QFq X G Mx,QFq X G JX,QFq X G Mg,QFq X G Mv,QFq X G GG,QFq X G Mn,QFq X G F8,QFq X G xk,QFq X G Mc,QFq X G LW,QFq X G Ms,QFq X G yE⟩
 refine⟨PySem.W.fnOf "law" "law" (g8 oN) (ff oN) (aD oN) .none kV dc pm an cd ct,λs v=>.of_eq rfl,λbase _ _=> ?_⟩
 have Z:Pk l.prog w base:=⟨⟩
 have sD:=O1.cal Z λ_ F _ _ _=>Ak F B
 have a:=O2.cal Z λ_ F _ _ _=>xB F B
 have fL:=O3.cal Z λ_ F _ _ _=>uV F B a
 have iT:=O4.cal Z λ_ F _ _ _=>nz F B fL a
 have cj:=O5.cal Z λ_ F b k m=>kG F B a b k m 3
 have kC:=O6.cal Z λ_ F _ _ _=>pY F B a cj
 have kI:=O7.cal Z λ_ F _ _ _=>qM F B a cj
 have oS:=O8.cal Z λ_ F _ _ _=>uZ F B fL a kI kC
 have mZ:=O9.cal Z λ_ F _ _ _=>uk F B a oS iT
 have m8:=w3.cal Z λ_ F _ _ _=>sC F B
 have q0:=s0.cal Z λ_ F _ _ _=>xX F B
 have mq:=e1.cal Z λ_ F _ _ _=>EW F B m8 q0
 have iI:=c5.cal Z λ_ F _ _ _=>ya F B
 have pA:=v9.cal Z λ_ F _ _ _=>uX F B iI jC
 have B4:=a9.cal Z λ_ F _ _ _=>Ga F B iI pA i
 have t9:=r0.cal Z λ_ F _ _ _=>yL F B
 have kB:=c6.cal Z λ_ F _ _ _=>qJ F B t9
 have c:=u1.cal Z λ_ F _ _ _=>uW F B
 have eU:=q1.cal Z λ_ F _ _ _=>vk F B i
 have kD:=s9.cal Z λ_ F _ _ _=>qe F B c eU i
 have j7:=l7.cal Z λ_ F _ _ _=>y_ F B kB kD
 have gk:=s4.cal Z λ_ F _ _ _=>zt F B
 have Y:=e7.cal Z λ_ F _ _ _=>yz F B gk
 have r:=i5.cal Z λ_ F _ _ _=>wW F B
 have dI:=b8.cal Z λ_ F _ _ _=>yp F B r
 have y:=o3.cal Z λ_ F _ _ _=>wC F B r
 have iH:=r3.cal Z λ_ F _ _ _=>xW F B c Y r y gk dI i
 have ig:=h0.cal Z λ_ F _ _ _=>rJ F B mK
 have oh:=q9.cal Z λ_ F b k m=>rf F B ig b k m 6
 have g:=l3.cal Z λ_ F _ _ _=>zB F B c gk oh i
 have EL:=R.cal Z λ_ F _ _ _=>D6 F B iH g
 have ee:=t1.cal Z λ_ F _ _ _=>nY F B dI
 have jx:=e6.cal Z λ_ F _ _ _=>CY F B c ee
 have zu:=S.cal Z λ_ F _ _ _=>xJ F B g jx
 have HY:=j.cal Z λ_ F _ _ _=>FV F B jx
 have mL:=s1.cal Z λ_ F _ _ _=>AJ F B y jC
 have Hc:=z.cal Z λ_ F _ _ _=>EY F B Y g mL dI
 have g9:=m4.cal Z λ_ F _ _ _=>AM F B c Y
 have fG:=h9.cal Z λ_ F _ _ _=>yo F B y r
 have sh:=r4.cal Z λ_ F _ _ _=>Ei F B y jC
 have DV:=a4.cal Z λ_ F _ _ _=>BI F B g9 g fG sh
 have Dy:=I.cal Z λ_ F _ _ _=>AV F B g9 fG y
 have Gi:=L.cal Z λ_ F _ _ _=>Ds F B g9 fG
 have C1:=u.cal Z λ_ F _ _ _=>A3 F B g ee c
 have iW:=c2.cal Z λ_ F _ _ _=>yc F B r
 have sg:=s3.cal Z λ_ F _ _ _=>Gj F B Y iW
 have D8:=N.cal Z λ_ F _ _ _=>AO F B sg
 have gX:=h8.cal Z λ_ F _ _ _=>vc F B Y iW mK
 have DM:=A.cal Z λ_ F _ _ _=>AC F B gX
 have DI:=a3.cal Z λ_ F _ _ _=>AE F B sg gX
 have FC:=a2.cal Z λ_ F _ _ _=>C8 F B
 have tX:∀x F,t_.lookup x=some F->eZ l.prog w K mg base 10 x bJ F:=by
  refine Ft λp hp=> ?_
  simp only[t_,Qsq,QXq,or_false] at hp
  rcases hp with rfl|rfl|rfl|rfl|rfl|rfl|rfl|rfl|rfl|rfl|rfl|rfl
  ·exact EL.mono (by decide)
  ·exact zu.mono (by decide)
  ·exact HY.mono (by decide)
  ·exact Hc.mono (by decide)
  ·exact DV.mono (by decide)
  ·exact Dy.mono (by decide)
  ·exact Gi.mono (by decide)
  ·exact C1.mono (by decide)
  ·exact D8.mono (by decide)
  ·exact DM.mono (by decide)
  ·exact DI.mono (by decide)
  ·exact FC.mono (by decide)
 have uc:=j4.cal Z λ_ F _ _ _=>zR F B tX qj
 have su:=t0.cal Z λ_ F _ _ _=>zA F B dI sh eU iH
 have v8:=n9.cal Z λ_ F _ _ _=>Bw F B c mL eU su g uc jx i
 have vC:=q4.cal Z λ_ F _ _ _=>Bo F B j7 v8
 have oJ:=k3.cal Z λ_ F _ _ _=>uY F B j7 vC
 have oY:=g0.cal Z λ_ F _ _ _=>vh F B
 have kT:=b3.cal Z λ_ F b k m=>pL F B b k m 10
 have sO:=s2.cal Z λ_ F _ _ _=>zc F B
 have gU:=p3.cal Z λ_ F _ _ _=>lW F B sO
 have o6:=x1.cal Z λ_ F _ _ _=>u7 F B gU mq
 have oX:=a7.cal Z λ_ F _ _ _=>uS F B oY kT mq o6
 exact Hx (Ki g5 B sD mZ mq B4 oJ a oX) T
end W28
namespace Rg
noncomputable def Jz(g:Nat->Option Nat)(len f:Nat):Nat->Nat->List Nat->Option (List Nat)
 |0,_,_=>none
 | k+1,h,r=>match g h with
   |none=>none
   |some v=>if Nat.ble f h&&Nat.blt r.length len then if Nat.beq v f then some (r++ [h]) else Jz g len f k v (r++ [h]) else none
noncomputable def GD(g:Nat->Option Nat)(f:Nat):Nat->Nat->List Nat->Option (List Nat)
 |0,_,_=>none
 | k+1,h,r=>match g h with
   |none=>none
   |some v=>if Nat.beq v f&&(r++ [h]).all (Nat.ble f) then some (r++ [h]) else GD g f k v (r++ [h])
noncomputable def look(t:List (Option Nat))(h:Nat):Option Nat:=t.getD h none
noncomputable def cnt(t:List (Option Nat)):Nat:=(t.filter (·.isSome)).length
noncomputable def tabs(n:Nat):Nat->List (List (Option Nat))
 |0=> [[]]
 |k+1=>(tabs n k).flatMap λt=>(none::(List.range n).map some).map (·::t)
noncomputable def Nk:List Nat->Bool
 | []=>true
 |x::l=> !l.any (Nat.beq x)&&Nk l
noncomputable def Mp(n:Nat)(t:List (Option Nat))(f:Nat):Bool:=
 let r:=Jz (look t) (cnt t) f 5 f []
 r ==GD (look t) f n f []&&match r with
   |none=>true
   |some l=>l.head? ==some f&&l.all (λh=>Nat.blt h n)&&Nat.ble l.length 4
noncomputable def Lh(n:Nat)(t:List (Option Nat)):Bool:=(List.range n).all (Mp n t)&&Nk ((List.range n).flatMap λf=>(Jz (look t) (cnt t) f 5 f []).getD [])
def all1:(tabs 1 1).all (Lh 1)=true:=by decide +kernel
def all2:(tabs 2 2).all (Lh 2)=true:=by decide +kernel
def Oo:(tabs 3 3).all (Lh 3)=true:=by decide +kernel
def NK:(tabs 4 4).all (Lh 4)=true:=by decide +kernel
theorem B1{n:Nat}:∀{t:List (Option Nat)},(∀o∈t,∀v,o=some v->v<n)->t∈tabs n t.length
 | [],_=>by simp[tabs]
 | o::t,h=>by
   refine QOq.mpr ⟨t,B1 λo a=>h o (Qpq _ a),Qkq.mpr ⟨o,?_,rfl⟩⟩
   cases o with
   |none=>exact QBq ..
   |some v=>exact Qpq _ (Qkq.mpr ⟨v,List.mem_range.mpr (h _ (QBq ..) v rfl),rfl⟩)
theorem Iz:∀{l:List Nat},Nk l=true->l.Nodup
 | [],_=>List.nodup_nil
 | x::l,h=>by
   simp only[Nk,QCq,Bool.not_eq_true',List.any_eq_false] at h
   rw[List.nodup_cons]
   exact⟨λm=>h.1 x m (Nat.beq_refl x),Iz h.2⟩
def Kt{n:Nat}{t:List (Option Nat)}(c:0<n)(b:n<=4)(hl:t.length=n)(a:∀o∈t,∀v,o=some v->v<n):Lh n t=true:=by
 have m:=B1 a
 rw[hl] at m
 have:n=1\/n=2\/n=3\/n=4:=by omega
 rcases this with rfl|rfl|rfl|rfl
 ·exact QUq.mp all1 t m
 ·exact QUq.mp all2 t m
 ·exact QUq.mp Oo t m
 ·exact QUq.mp NK t m
noncomputable def way(g:Nat->Option Nat)(len f:Nat):Option (List Nat):=Jz g len f 5 f []
def HA{n len:Nat}{g:Nat->Option Nat}(s:0<n)(w:n<=4)(k:∀h v,g h=some v->h<n/\v<n)(p:len=((List.range n).filter λh=>(g h).isSome).length):
  (∀f,f<n->GD g f n f []=way g len f/\∀l,way g len f=some l->l.head? =some f/\(∀h∈l,h<n)/\l.length<=4)/\((List.range n).flatMap λf=>(way g len f).getD []).Nodup:=by
 let t:=(List.range n).map g
 have m:t.length=n:=by simp[t]
 have e:look t=g:=by
  funext h
  unfold look
  by_cases c:h<n
  ·simp[t,Qlq,c]
  ·have:g h=none:=by
    cases e:g h with
    |none=>rfl
    |some v=>exact absurd (k h v e).1 c
   simp[t,Qlq,c,this]
 have j:cnt t=len:=by
  rw[p]
  show((List.map g (List.range n)).filter (·.isSome)).length=_
  rw[List.filter_map,lQm]
  rfl
 have ok:=Kt (t:=t) s w m λo r v d=>by
  obtain⟨h,_,rfl⟩:=Qkq.mp r
  exact(k h v d).2
 unfold Lh at ok
 rw[QCq,QUq] at ok
 obtain⟨a,i⟩:=ok
 rw[e,j] at i
 refine⟨λf q=> ?_,Iz i⟩
 have a:=a f (List.mem_range.mpr q)
 simp only[Mp,e,j,QCq,beq_iff_eq] at a
 refine⟨a.1.symm,λl hl=> ?_⟩
 have b:=a.2
 unfold way at hl
 rw[hl] at b
 simp only[QCq,beq_iff_eq,QUq] at b
 exact⟨b.1.1,λh u=>Nat.le_of_ble_eq_true (b.1.2 h u),Nat.le_of_ble_eq_true b.2⟩
end Rg
namespace DL
open PySem PySem.Spec L2
def fT{a:cq}{S:aF}{Q:Bool->aF->Prop}(q:Q true S):E bS a S Q:=⟨_,_,rfl,q⟩
section
variable{S:aF}
def iO{i j:Int}{Q:D->Prop}(q:Q (.int (i+j))):Op (bR S (.int i) (.int j)) Q:=⟨_,rfl,q⟩
def JE{i j:Str}{Q:D->Prop}(h:i.length+j.length<=sizeLine)(q:Q (.str (i++j))):Op (bR S (.str i) (.str j)) Q:=⟨_,by simp only[bR];rw[Qhq h],q⟩
def dR{i j:List D}{Q:D->Prop}(h:i.length+j.length<=sizeLine)(q:Q (.tup (i++j))):Op (bR S (.tup i) (.tup j)) Q:=⟨_,by simp only[bR];rw[Qhq h],q⟩
def Aw{k:Int->Int->D}{i j:Int}{Q:D->Prop}(q:Q (k i j)):Op (intD (λ_ _=>True) k S (.int i) (.int j)) Q:=⟨_,by simp only[intD,if_true],q⟩
def lF{i j:Int}{Q:D->Prop}(h:0<j)(q:Q (.int (i%j))):Op (pG S (.int i) (.int j)) Q:=⟨_,by simp only[pG,intD];rw[Qhq h],q⟩
def Fj{i j:Int}{Q:D->Prop}(h:EC i j)(q:Q (.int (i/j))):Op (Aj S (.int i) (.int j)) Q:=⟨_,by simp only[Aj,intD];rw[Qhq h],q⟩
def rD{i j:Int}{Q:D->Prop}(h:G4 i j)(q:Q (.int (i*j))):Op (t8 S (.int i) (.int j)) Q:=⟨_,by simp only[t8,intD];rw[Qhq h.ok],q⟩
def aB{ds:List D}{i:Int}{d:D}{Q:D->Prop}(h:mF ds i=some d)(q:Q d):Op (km S (.tup ds) (.int i)) Q:=⟨_,h,q⟩
def cN{k:Nat}{ds:List D}{i:Int}{d:D}{Q:D->Prop}(a:S[k]?=some (.lst ds))(h:mF ds i=some d)(q:Q d):Op (km S (.ref k) (.int i)) Q:=⟨_,by simp only[km,a];exact h,q⟩
def cv{ds:List D}{Q:List D×Tag->Prop}(q:Q (ds,.tu)):Op (tF S (.tup ds)) Q:=⟨_,rfl,q⟩
def bP{k:Nat}{ds:List D}{Q:List D×Tag->Prop}(a:S[k]?=some (.lst ds))(q:Q (ds,.st k)):Op (tF S (.ref k)) Q:=⟨_,by simp only[tF,a],q⟩
end
def bq{b:Bool}{p q:Prop}(c:b=true->p)(a:b=false->q):if b=true then p else q:=by
 cases b with
 |true=>exact c rfl
 |false=>exact a rfl
end DL
local macro_rules|`(tactic|symm)=>do
 let mut a:Array (Lean.TSyntax `Lean.Parser.Tactic.tacticSeq):= #[]
 for s in (["aH","ed","cZ","Ou","bO","Fl","mN","cB","t_auS","bN","dM","aw","aL","cm","cP","dk","L6","b_","jF","lB","eX","eR","HF","bL","Cm","cu","zq","x8","qh","Co","OM","fT","aV","Pw","gV","k9","iO","Aw","cv"]:List String) do a:=a.push (←`(tacticSeq|refine $(Lean.mkIdent (.str (.str .anonymous "DL") s)) ?_))
 `(tactic|repeat(first|(with_reducible first $[| $a]*)|((with_reducible refine DL.ax (d := ?_) ?_ ?_); rotate_left; rfl)|dsimp only))
local macro_rules|`(tactic|apply $e)=>`(tactic|(refine $e;symm))
namespace W28
open PySem PySem.Spec L2 DL
noncomputable def oK(a b c:Int):O:=.lst [.int a,.int b,.int c]
def Eb{S:aF}{k:Nat}{a b j m:Int}{Q:Res->aF->Prop}(e:S[k]?=some (oK a b j))(f:0<m)(w:m<1000000)
  (h:∀(d r s q:Int),0<=d->d<m->Q (.d (.int d)) (S.set k (oK r s q))):Fn az [.ref k,.int m] S Q:=by
 have t:k<S.length:=(gQs.mp e).1
 have p:∀(o:O),(S.set k o).take S.length=S.set k o:=λo=>by rw[List.take_of_length_le];simp
 refine bQ ?_
 unfold ou
 symm
 refine cN e rfl ?_
 symm
 refine bq (λc=> ?_) (λc=> ?_)
 ·symm
  refine cN e rfl ?_
  symm
  refine lF f ?_
  symm
  refine cN e rfl ?_
  symm
  refine Fj ⟨f,by omega⟩ ?_
  symm
  refine⟨_,_,_,_,rfl,rfl,e,rfl,?_⟩
  symm
  refine hJ (vH (by rfl)) (p _) (λ_ z=>by cases z) rfl ?_
  exact h _ _ _ _ (Int.emod_nonneg _ (by omega)) (Int.emod_lt_of_pos _ f)
 ·refine cB ?_
  symm
  refine cN e (d:=.int j) rfl ?_
  symm
  refine⟨_,_,_,_,rfl,rfl,e,rfl,?_⟩
  have i:∀o:O,(S.set k o)[k]?=some o:=λo=>by rw[Qyq t]
  symm
  refine cN (i _) (d:=.int b) rfl ?_
  symm
  refine rD (.inr ⟨by decide,by decide⟩) ?_
  symm
  refine cN (i _) (d:=.int (j+1)) rfl ?_
  refine rD (.inl ⟨by decide,by decide⟩) ?_
  symm
  refine lF (by decide) ?_
  generalize g:(b*69621+7919*_+1)%2147483629=mx
  have v:0<=mx:=by rw[←g];exact Int.emod_nonneg _ (by decide)
  have u:mx<2147483629:=by rw[←g];exact Int.emod_lt_of_pos _ (by decide)
  symm
  refine⟨_,_,_,_,rfl,rfl,i _,rfl,?_⟩
  have n:∀o l:O,((S.set k o).set k l)[k]?=some l:=λo l=>by rw[List.set_set];exact i _
  symm
  refine cN (n _ _) (d:=.int mx) rfl ?_
  symm
  refine cN (n _ _) (d:=.int mx) rfl ?_
  symm
  refine lF (by decide) ?_
  symm
  refine rD (.inl ⟨by omega,by omega⟩) ?_
  symm
  refine lF (by decide) ?_
  symm
  refine Fj ⟨by decide,by decide⟩ ?_
  symm
  refine lF f ?_
  symm
  rw[List.set_set]
  refine hJ (vH (by rfl)) (p _) (λ_ z=>by cases z) rfl ?_
  exact h _ _ _ _ (Int.emod_nonneg _ (by omega)) (Int.emod_lt_of_pos _ f)
structure Ex(k:Nat)(S S':aF):Prop where
 len:S.length<=S'.length
 keep:∀(j:Nat) (o:O),j≠k->S[j]?=some o->S'[j]?=some o
 pot:∃a b c,S'[k]?=some (oK a b c)
def Ex.refl{k:Nat}{S:aF}{a b c:Int}(h:S[k]?=some (oK a b c)):Ex k S S:=⟨Qmq _,λ_ _ _ h=>h,_,_,_,h⟩
def Ex.trans{k:Nat}{S a S2:aF}(x:Ex k S a)(y:Ex k a S2):Ex k S S2:=⟨QAq x.len y.len,λj o n h=>y.keep j o n (x.keep j o n h),y.pot⟩
def Ex.set{k:Nat}{S d:aF}{a b c:Int}(x:Ex k S d):Ex k S (d.set k (oK a b c)):=by
 obtain⟨_,_,_,h⟩:=x.pot
 refine⟨by simpa using x.len,λj o n h=> ?_,a,b,c,Qyq (gQs.mp h).1⟩
 rw[QKq (Ne.symm n)]
 exact x.keep j o n h
def Ex.app{k:Nat}{S d G:aF}(x:Ex k S d):Ex k S (d++G):=by
 obtain⟨a,b,c,h⟩:=x.pot
 refine⟨by rw[lQa];have:=x.len;omega,λj o n h=> ?_,a,b,c,?_⟩
 ·have:=x.keep j o n h
  rw[QHq (gQs.mp this).1]
  exact this
 ·rw[QHq (gQs.mp h).1]
  exact h
def Ex.put{k r:Nat}{S d:aF}{o:O}(x:Ex k S d)(g:S.length<=r)(i:k<S.length):Ex k S (d.set r o):=by
 obtain⟨a,b,c,h⟩:=x.pot
 refine⟨by simpa using x.len,λj e n h=> ?_,a,b,c,?_⟩
 ·have f:=(gQs.mp h).1
  rw[QKq (by omega)]
  exact x.keep j e n h
 ·rw[QKq (by omega)]
  exact h
def Ex.lt{k:Nat}{S d:aF}(x:Ex k S d):k<d.length:=by
 obtain⟨a,b,c,h⟩:=x.pot
 exact(gQs.mp h).1
def bu{S G:aF}{j:Nat}{o:O}(h:S[j]?=some o):(S++G)[j]?=some o:=by
 rw[QHq (gQs.mp h).1]
 exact h
def aZ{S:aF}{o:O}:(S++ [o])[S.length]?=some o:=by simp
def gr{S:aF}{k j:Nat}{o o':O}(n:j≠k)(h:S[j]?=some o):(S.set k o')[j]?=some o:=by
 rw[QKq (Ne.symm n)]
 exact h
def fV{S:aF}{j:Nat}{o o':O}(h:S[j]?=some o):(S.set j o')[j]?=some o':=Qyq (gQs.mp h).1
def Ex.clean{k:Nat}{S f:aF}(x:Ex k S f)(l:k<S.length):oV S f/\∃a b c,f.take S.length=S.set k (oK a b c):=by
 obtain⟨a,b,c,h⟩:=x.pot
 have g:∀j,j<S.length->f[j]?=(S.set k (oK a b c))[j]? :=λj d=>by
  by_cases e:j=k
  ·subst e
   rw[h,Qyq d]
  ·rw[QKq (Ne.symm e),x.keep j _ e (gQe d),gQe d]
 refine⟨⟨x.len,λj o d e=> ?_⟩,a,b,c,?_⟩
 ·by_cases i:j=k
  ·subst i
   rw[h] at e
   cases e
   exact .inr rfl
  ·rw[x.keep j _ i (gQe d)] at e
   rw[gQe d]
   exact .inl e
 ·apply List.ext_getElem?
  intro j
  by_cases d:j<S.length
  ·rw[List.getElem?_take_of_lt d]
   exact g j d
  ·rw[List.getElem?_eq_none (by rw[Qxq];omega),List.getElem?_eq_none (by simp;omega)]
def uD{k:Nat}{S e:aF}{d:D}{Q:Res->aF->Prop}(x:Ex k S e)(h:k<S.length)(hd:∀k,d≠.ref k)(hl:cf S.length d=true)(q:∀a b c,Q (.d d) (S.set k (oK a b c))):Op (settle S d e) λp=>Q p.1 p.2:=by
 obtain⟨f,a,b,c,g⟩:=x.clean h
 exact hJ f g hd hl (q a b c)
def MK{k:Nat}{S d:aF}{ds:List D}{Q:Res->aF->Prop}(x:Ex k S d)(g:k<S.length)(hl:bT S.length ds=true)(q:∀a b c,Q (.l ds) (S.set k (oK a b c))):Op (fm S ds d) λp=>Q p.1 p.2:=by
 obtain⟨e,a,b,c,f⟩:=x.clean g
 exact nX e f hl (q a b c)
def bK{S S0:aF}{k:Nat}{m:Int}{Q:Res->aF->Prop}(x:Ex k S0 S)(g:0<m)(j:m<1000000)
  (h:∀(d:Nat) (e:aF),(d:Int)<m->Ex k S0 e->Ex k S e->e.length=S.length->Q (.d (.int d)) e):Fn az [.ref k,.int m] S Q:=by
 obtain⟨a,b,c,f⟩:=x.pot
 refine Eb f g j λd o p l q i=> ?_
 obtain⟨n,rfl⟩:∃n:Nat,d=n:=⟨d.toNat,by omega⟩
 exact h n _ i x.set (Ex.refl f).set (by simp)
def aR{α:Type}{xs:List α}{j:Nat}{x:α}(h:xs[j]?=some x):mF xs (j:Int)=some x:=by
 have a:=(gQs.mp h).1
 unfold mF GA
 rw[Qhq (by omega),Qhq (by omega)]
 simpa using h
def i_{c:cq}{S S0:aF}{k i v:Nat}{xs:List D}{Q:D->aF->Prop}(n:c[0]?=some (some (.ref k)))(g:c[v]?=some (some (.ref i)))(x:Ex k S0 S)(hi:i≠k)(j:S[i]?=some (.lst xs))(p:0<xs.length)(o:xs.length<1000)
  (h:∀(d:D) (a:aF),d∈xs->Ex k S0 a->Ex k S a->a.length=S.length->Q d a):E (a_ km (au v) (aA az (ar (au 0) (ar (dW (aU (au v))) av)))) c S Q:=by
 refine bN (ax g (bL (aw (ax n (aw (lB (b_ (ax g (bP j (aL ?_))))))))))
 refine bK x (by show(0:Int)<xs.length;omega) (by show(xs.length:Int)<1000000;omega) λd a l m f e=> ?_
 have b:d<xs.length:=by have:(d:Int)<(xs.length:Int):=l;omega
 refine cN (f.keep _ _ hi j) (aR (gQe b)) ?_
 exact h _ _ (List.getElem_mem b) m f e
def dS{l:cq}{S S0:aF}{k n:Nat}{xs:List D}{f:fK}{Q:D->aF->Prop}(s:l[0]?=some (some (.ref k)))(x:Ex k S0 S)(v:0<n)(t:n<1000)(hl:xs.length=n)
  (p:E f l S λds j=>ds=xs/\j=S)
  (h:∀(d:D) (e:aF),d∈xs->Ex k S0 e->Ex k S e->e.length=S.length+1->Q d e):E (a_ km (bB (bo f)) (aA az (ar (au 0) (ar (cF (.int n)) av)))) l S Q:=by
 refine bN (dk (cP (p.mono λds j q=> ?_)))
 obtain⟨o,i⟩:=q
 subst o i
 refine⟨nQl (aM (by omega)),?_⟩
 refine bL (aw (ax s (aw (dM (aL ?_)))))
 have w:=x.lt
 refine bK (x.app (G:= [O.lst ds])) (by omega) (by omega) λd e u o i m=> ?_
 have g:d<ds.length:=by omega
 refine cN (i.keep _ _ (by omega) aZ) (aR (gQe g)) ?_
 have y:Ex k j j:=by obtain⟨a,b,c,r⟩:=x.pot;exact Ex.refl r
 exact h _ _ (List.getElem_mem g) o (y.app.trans i) (by rw[m];simp)
end W28
namespace DL
open PySem PySem.Spec L2
mutual
theorem fe{m:Nat}:∀{d:D},cf 0 d=true->cf m d=true
 |.non,_=>rfl
 |.bl _,_=>rfl
 |.int _,_=>rfl
 |.str _,_=>rfl
 |.tup ds,h=>by simp only[cf] at h⊢;exact ju h
 |.ref k,h=>by simp[cf] at h
 |.fn _,_=>rfl
theorem ju{m:Nat}:∀{ds:List D},bT 0 ds=true->bT m ds=true
 | [],_=>rfl
 | d::ds,h=>by
   simp only[bT,QCq] at h⊢
   exact⟨fe h.1,ju h.2⟩
end
theorem wN{m:Nat}:∀{ds:List D},(∀d∈ds,cf m d=true)->bT m ds=true
 | [],_=>rfl
 | d::ds,h=>by
   simp only[bT,QCq]
   exact⟨h d (QBq ..),wN λe a=>h e (Qpq _ a)⟩
def a8{α:Type}{m:Nat}{f:α->D}{l:List α}(h:∀a∈l,cf m (f a)=true):bT m (l.map f)=true:=wN λd c=>by
 obtain⟨a,b,rfl⟩:=Qkq.mp c
 exact h a b
theorem vJ:∀a:List Str,vB (a.map D.str)=some a
 | []=>rfl
 |s::a=>by simp only[QDq,vB];rw[vJ a];rfl
def JR{c:cq}{S:aF}{f:dQ}{Q:List D->aF->Prop}(h:E f c S λp b=>p.2.isL=true/\∃a:List Str,p.1=a.map D.str/\a.length<64/\Q ((qy a).map D.str) b):E (Cb f) c S Q:=by
 obtain⟨p,b,e,l,a,g,d,q⟩:=h
 exact⟨_,b,by unfold Cb;rw[e];simp only[Qbq];rw[Qhq l,g,vJ];simp only[Qbq];rw[Qhq d],q⟩
def ka{ds:List D}{y:D}{Q:List D×D->Prop}(h:ds.length<sizeLine)(q:Q (ds++ [y],.non)):Op (lR ds [y]) Q:=⟨_,by simp only[lR];rw[Qhq h],q⟩
def eF{b:cq}{S:aF}{n:Nat}{g:rH}{ds:List D}{Q:cq->aF->Prop}(d:ds.length=n)(h:Nl g ds b S Q):Tg (iD (nG n g)) (.tup ds) b S Q:=by
 obtain⟨a,c,e,q⟩:=h
 exact⟨a,c,by show nG n g ds b S=_;unfold nG;rw[Qhq d];exact e,q⟩
def bx{a:cq}{S:aF}{Q:cq->aF->Prop}(q:Q a S):Nl df [] a S Q:=⟨_,_,rfl,q⟩
def aC{c:cq}{S:aF}{f:mB}{g:rH}{d:D}{ds:List D}{Q:cq->aF->Prop}(h:Tg f d c S λa e=>Nl g ds a e Q):Nl (aK f g) (d::ds) c S Q:=by
 obtain⟨a,e,k,b,j,i,q⟩:=h
 exact⟨b,j,by show(f d c S).bind _=_;rw[k];exact i,q⟩
end DL
namespace W28
open PySem PySem.Spec L2 DL
def IA{c:cq}{S:aF}{i j:Nat}{f:fK}{Q:Out->Prop}(h:E f c S λds d=>∃a b,ds= [a,b]/\Q (.nx ((c.set i (some a)).set j (some b)) d)):T (z9 i j f) c S Q:=by
 obtain⟨ds,d,e,a,b,rfl,q⟩:=h
 exact⟨_,by unfold z9;rw[e];rfl,q⟩
def EI{c:cq}{S:aF}{i j:Nat}{f:fK}{Q:Out->Prop}(h:E f c S λds d=>∃a b,ds= [a,b]/\Q (.nx ((c.set i (some a)).set j (some b)) d)):T (oD (aW f) (iD (nG 2 (aK (bF i) (aK (bF j) df))))) c S Q:=by
 refine Fl (cm (h.mono λds d g=> ?_))
 obtain⟨a,b,e,q⟩:=g
 subst e
 exact⟨by show 2<=_;decide,eF rfl (aC (aV (aC (aV (bx q)))))⟩
noncomputable def lets:Str:="abcdefghijklmnopqrstuvwxyz"
noncomputable def let1(i:Nat):Str:=⟨#[lets.cps.toList.getD i 0]⟩
noncomputable def Ko:List Str:= ["","zz","x","qqqqqqq"]
noncomputable def Nr(j:Nat):Str:=Ko.getD j ""
noncomputable def nm(i j:Nat):Str:=let1 i++Nr j
def Fh(x:Str):Prop:=∃i j,i<26/\j<4/\x=nm i j
noncomputable def EJ(f s a:Nat):List Str:=(List.range a).map λk=>nm ((f+s*k)%26) ((f+k)%4)
def zW:∀i,i<26->∀j,j<4->PyData.strOk (nm i j)=true/\(nm i j).length<=8/\(let1 i).length=1:=by decide +kernel
def Ib:∀i,i<26->∀a,a<26->∀j,j<4->∀b,b<4->nm i j=nm a b->i=a:=by decide +kernel
def Gp:∀f,f<26->∀s∈([1,3,5,7,9,11]:List Nat),((List.range 24).map λk=>(f+s*k)%26).Nodup:=by decide +kernel
def E3{f s m:Nat}(e:f<26)(g:s∈([1,3,5,7,9,11]:List Nat))(d:m<=24):(EJ f s m).Nodup:=by
 have h:=Gp f e s g
 rw[List.nodup_iff_pairwise_ne,List.pairwise_map] at h
 unfold EJ
 rw[List.nodup_iff_pairwise_ne,List.pairwise_map]
 have c:(List.range m).Sublist (List.range 24):=List.range_sublist.mpr d
 refine(h.sublist c).imp λ{a b} hne z=>hne ?_
 exact Ib _ (Nat.mod_lt _ (by decide)) _ (Nat.mod_lt _ (by decide)) _ (Nat.mod_lt _ (by decide)) _ (Nat.mod_lt _ (by decide)) z
def Fh.ok{x:Str}(h:Fh x):PyData.strOk x=true:=by obtain⟨i,j,b,a,rfl⟩:=h;exact(zW i b j a).1
def KR{f s m:Nat}:∀x∈EJ f s m,Fh x:=λx a=>by
 obtain⟨k,_,rfl⟩:=Qkq.mp a
 exact⟨_,_,Nat.mod_lt _ (by decide),Nat.mod_lt _ (by decide),rfl⟩
def JF:∀i:Nat,i<26->mF lets.cps.toList (i:Int)=some (lets.cps.toList.getD i 0):=by decide +kernel
def JJ:∀j:Nat,j<4->mF (([.str "",.str "zz",.str "x",.str "qqqqqqq"]:List D)) (j:Int)=some (.str (Nr j)):=by
 intro j a
 rcases j with _|_|_|_|j
 ·rfl
 ·rfl
 ·rfl
 ·rfl
 ·omega
def GM:∀j,(Nr j).length<=7:=by
 intro j
 rcases j with _|_|_|_|j
 ·decide
 ·decide
 ·decide
 ·decide
 ·show(Str.length (Ko.getD (j+4) ""))<=7
  simp[Ko]
  decide
def Mh{S:aF}{z:Str}{i:Int}{c:Nat}{Q:D->Prop}(hl:z.length<=sizeLine)(h:mF z.cps.toList i=some c)(q:Q (.str ⟨#[c]⟩)):Op (km S (.str z) (.int i)) Q:=⟨_,by simp only[km];rw[Qhq hl,h];rfl,q⟩
def J7{d:D}(h:d∈([.int 1,.int 3,.int 5,.int 7,.int 9,.int 11]:List D)):∃s:Nat,s∈([1,3,5,7,9,11]:List Nat)/\d=.int s:=by
 simp only[Qsq,QXq,or_false] at h
 rcases h with rfl|rfl|rfl|rfl|rfl|rfl
 ·exact⟨1,by decide,rfl⟩
 ·exact⟨3,by decide,rfl⟩
 ·exact⟨5,by decide,rfl⟩
 ·exact⟨7,by decide,rfl⟩
 ·exact⟨9,by decide,rfl⟩
 ·exact⟨11,by decide,rfl⟩
def zO{S S0:aF}{k e:Nat}{Q:Res->aF->Prop}(x:Ex k S0 S)(H:e<=24)
  (h:∀(ws:List Str) (g:aF),ws.Nodup->ws.Pairwise rB->ws.length=e->(∀z∈ws,Fh z)->Ex k S0 g->Ex k S g->g.length=S.length->Q (.l (ws.map D.str)) g):Fn eO [.ref k,.int e] S Q:=by
 have y:Ex k S S:=by obtain⟨a,b,c,I⟩:=x.pot;exact Ex.refl I
 have N:=x.lt
 refine bQ ?_
 unfold lT
 refine aH (bO (dM ?_))
 apply aH (EI ?_)
 refine bK y (by decide) (by decide) λf W X F M U=> ?_
 dsimp only
 refine aw (dS (n:=6) (xs:= [.int 1,.int 3,.int 5,.int 7,.int 9,.int 11]) rfl F (by decide) (by decide) rfl (by symm;exact⟨rfl,rfl⟩) λd Y r w K R=> ?_)
 obtain⟨s,v,rfl⟩:=J7 r
 have u:s<12:=by
  simp only[Qsq,QXq,or_false] at v
  omega
 apply aL ⟨_,_,rfl,?_⟩
 apply gM (gV ?_)
 refine⟨(e:Int),rfl,by omega,?_⟩
 refine⟨λi m g p=>(∃o:Option D,m= [o,some (.str "abcdefghijklmnopqrstuvwxyz"),some (.int f),some (.int s)])/\Ex k S g/\p=(EJ f s i).map D.str,⟨⟨none,rfl⟩,w,rfl⟩,λ_ _ _ _ _=>trivial,?_,?_⟩
 ·rintro i d m g p r ⟨⟨o,rfl⟩,e4,rfl⟩
  have P:=(gQs.mp r).1
  simp only[iE,lQm,QVq] at P
  obtain rfl:d=.int i:=by
   simp only[iE,gQm] at r
   obtain⟨j,G,rfl⟩:=oQm.mp r
   have:=(gQs.mp G).2
   simp at this
   subst this
   simp
  apply aV ?_
  rw[Qhq rfl]
  symm
  apply rD (.inl ⟨by omega,by omega⟩) ?_
  refine lF (by decide) ?_
  have B:((f:Int)+(s:Int)*(i:Int))%26=(((f+s*i)%26:Nat):Int):=by push_cast;rfl
  rw[B]
  have q:(f+s*i)%26<26:=Nat.mod_lt _ (by decide)
  apply Mh (by decide) (JF _ q) ?_
  apply⟨by decide,?_⟩
  refine lF (by decide) ?_
  have L:((f:Int)+(i:Int))%4=(((f+i)%4:Nat):Int):=by push_cast;rfl
  rw[L]
  have J:(f+i)%4<4:=Nat.mod_lt _ (by decide)
  refine cN aZ (JJ _ J) ?_
  refine JE (QAq (show(let1 ((f+s*i)%26)).length+(Nr ((f+i)%4)).length<=8 by have:=(zW _ q 0 (by decide)).2.2;have:=GM ((f+i)%4);omega) (by decide)) ?_
  refine⟨Qqq (show _<64 by simp only[EJ,lQm,QVq];omega) (by decide),⟨_,rfl⟩,e4.app,?_⟩
  simp only[EJ,List.range_succ,Qzq,QDq,List.map_nil]
  rfl
 ·rintro m g p ⟨-,e4,rfl⟩
  have A:(iE 0 (e:Int)).length=e:=by simp only[iE,lQm,QVq];omega
  show T _ _ (g++ [O.lst ((EJ f s (iE 0 (e:Int)).length).map D.str)]) _
  rw[A]
  symm
  apply JR ?_
  refine bP aZ ?_
  refine⟨rfl,EJ f s e,rfl,by simp only[EJ,lQm,QVq];omega,?_⟩
  have t:=lj (EJ f s e)
  refine MK e4.app N (a8 λ_ _=>rfl) λa b c=> ?_
  exact h _ _ (t.symm.nodup (E3 (by omega) v H)) (jd _) (by rw[t.length_eq];simp[EJ]) (λz C=>KR z (t.mem_iff.mp C)) x.set y.set (by simp)
end W28
namespace DL
open PySem PySem.Spec L2
def E_{a:cq}{S:aF}{f g:dQ}{Q:List D->aF->Prop}(h:E f a S λp b=>E g a b λr S2=>(p.2.isM=true/\r.2.isM=true/\p.2.stays S2 p.1/\p.1.length+r.1.length<=sizeLine)/\Q (p.1++r.1) S2):E (xp f g) a S Q:=by
 obtain⟨p,b,d,r,S2,c,l,q⟩:=h
 exact⟨_,S2,by unfold xp;rw[d];simp only[Qbq];rw[c];simp only[Qbq];rw[Qhq l],q⟩
def dH{S:aF}{i j:Int}{Q:D->Prop}(q:Q (.bl (decide (i=j)))):Op (e_ false S (.int i) (.int j)) Q:=⟨_,by simp[e_,xC,A2],q⟩
def iy{S:aF}{i j:Str}{Q:D->Prop}(q:Q (.bl (decide (i=j)))):Op (e_ false S (.str i) (.str j)) Q:=⟨_,by simp[e_,xC,A2],q⟩
section
variable{Γ:cq}{S:aF}
def Bm{v i:Nat}{ds:List D}(c:Γ[v]?=some (some (.ref i)))(a:S[i]?=some (.lst ds)):E (aP (gh (aU (au v)))) Γ S λb d=>d=S/\b= !ds.isEmpty:=
 cu (HF (b_ (ax c (bP a ⟨⟨rfl,a⟩,rfl,rfl⟩))))
def DR{v:Nat}{w m:Int}(a:Γ[v]?=some (some (.int w))):E (aP (a_ ER (au v) (cF (.int m)))) Γ S λb c=>c=S/\b=decide (w<m):=
 cu (bN (ax a (dM (Aw ⟨rfl,rfl⟩))))
def AH{v:Nat}{w m:Int}(a:Γ[v]?=some (some (.int w))):E (aP (a_ (e_ false) (au v) (cF (.int m)))) Γ S λb c=>c=S/\b=decide (w=m):=
 cu (bN (ax a (dM (dH ⟨rfl,rfl⟩))))
def mT{i j:Int}{Q:D->Prop}(q:Q (.bl (!decide (i=j)))):Op (e_ true S (.int i) (.int j)) Q:=⟨_,by simp[e_,xC,A2],q⟩
def MU{v:Nat}{w m:Int}(a:Γ[v]?=some (some (.int w))):E (aP (a_ (e_ true) (au v) (cF (.int m)))) Γ S λb c=>c=S/\b= !decide (w=m):=
 cu (bN (ax a (dM (mT ⟨rfl,rfl⟩))))
def sE{f g:iG}{p q:Bool}(e:E f Γ S λb a=>a=S/\b=p)(d:E g Γ S λb a=>a=S/\b=q):E (jl f g) Γ S λb a=>a=S/\b=(p&&q):=
 qh (e.mono λb a i=>by
  obtain⟨h,c⟩:=i
  subst h c
  cases b with
  |true=>rw[Qhq rfl];exact d
  |false=>rw[Quq (by decide)];exact⟨rfl,rfl⟩)
def NQ{f g:iG}{p q:Bool}(e:E f Γ S λb a=>a=S/\b=p)(d:E g Γ S λb a=>a=S/\b=q):E (Hy f g) Γ S λb a=>a=S/\b=(p||q):=
 Co (e.mono λb a i=>by
  obtain⟨h,c⟩:=i
  subst h c
  cases b with
  |true=>rw[Qhq rfl];exact⟨rfl,rfl⟩
  |false=>rw[Quq (by decide)];exact d)
def iL{c:iG}{f:cI}{Q:Out->Prop}{b:Bool}(g:E c Γ S λx d=>d=S/\x=b)(j:b=true->T f Γ S Q)(a:b=false->Q (.nx Γ S)):T (fj c f fJ) Γ S Q:=
 ed (g.mono λx d i=>by
  obtain⟨h,e⟩:=i
  subst h e
  exact bq (λz=>j z) (λz=>cB (a z)))
end
def oo{α:Type}{f:α->D}{l:List α}(h:(!(l.map f).isEmpty)=true):0<l.length:=by
 cases l with
 |nil=>cases h
 |cons a r=>simp
end DL
namespace W28
open PySem PySem.Spec L2 DL
noncomputable def ops:List Str:= ["plus","minus","less","same","both"]
inductive Tr where
 |num (n:Nat)|word (x:Str)|waits (b:Str)|no (t:Tr)|two (o:Str) (a b:Tr)
noncomputable def Tr.d:Tr->D
 |.num n=>.int n
 |.word x=>.str x
 |.waits b=>.tup [.str "waits",.str b]
 |.no t=>.tup [.str "not",t.d]
 |.two o a b=>.tup [.str o,a.d,b.d]
def Tr.Ok(ws bs:List Str):Tr->Prop
 |.num n=>n<=9
 |.word x=>x∈ws
 |.waits b=>b∈bs
 |.no t=>t.Ok ws bs
 |.two o a b=>o∈ops/\a.Ok ws bs/\b.Ok ws bs
noncomputable def Tr.dep:Tr->Nat
 |.num _=>1
 |.word _=>1
 |.waits _=>1
 |.no t=>t.dep+1
 |.two _ a b=>max a.dep b.dep+1
theorem Tr.low:∀t:Tr,cf 0 t.d=true
 |.num _=>rfl
 |.word _=>rfl
 |.waits _=>rfl
 |.no t=>by simp only[Tr.d,cf,bT];rw[t.low];rfl
 |.two _ a b=>by simp only[Tr.d,cf,bT];rw[a.low,b.low];rfl
def Tr.noref(t:Tr):∀k,t.d≠.ref k:=by
 intro k
 cases t <;>simp[Tr.d]
theorem A1:∀(n:Nat) {S S0:aF} {k i j:Nat} {ws bs:List Str} {deep:Nat} {Q:Res->aF->Prop} (x:Ex k S0 S) (hi:i≠k) (F:j≠k) (K:S[i]?=some (.lst (ws.map D.str))) (N:S[j]?=some (.lst (bs.map D.str))) (W:ws.length<1000) (Y:bs.length<1000) (J:deep<n)
  (h:∀(t:Tr) (f:aF),t.Ok ws bs->t.dep<=deep+1->Ex k S0 f->Ex k S f->f.length=S.length->Q (.d t.d) f),Fn (a0 n) [.ref k,.ref i,.ref j,.int deep] S Q
 |0,_,_,_,_,_,_,_,_,_,_,_,_,_,_,_,_,J,_=>absurd J (Nat.not_lt_zero _)
 | n+1,S,S0,k,i,j,ws,bs,deep,Q,x,hi,F,K,N,W,Y,J,h=>by
   have y:Ex k S S:=by obtain⟨a,b,c,hh⟩:=x.pot;exact Ex.refl hh
   have g:∀(t:Tr) (f:aF),t.Ok ws bs->t.dep<=deep+1->Ex k S f->Op (settle S t.d f) λp=>Q p.1 p.2:=λt f L Z e=>uD e x.lt t.noref (fe t.low) λa b c=>h _ _ L Z x.set y.set (by simp)
   have go:∀{R:Res->aF->Prop} {I:aF},Ex k S I->1<=deep->(∀(t:Tr) (f:aF),t.Ok ws bs->t.dep<=deep->Ex k S f->R (.d t.d) f)->Fn (a0 n) [.ref k,.ref i,.ref j,.int ((deep:Int)-1)] I R:=by
     intro R I m hd hR
     have e:((deep:Int)-1)=((deep-1:Nat):Int):=by omega
     rw[e]
     exact A1 n m hi F (m.keep _ _ hi K) (m.keep _ _ F N) W Y (by omega) λt f L Z h3 _ _=>hR t f L (by omega) h3
   refine bQ ?_
   unfold i7
   symm
   refine bK y (by decide) (by decide) λway S1 a1 q _ l1=> ?_
   have u:=q.keep _ _ hi K
   have s:=q.keep _ _ F N
   refine aH (iL (NQ (AH (w:=(deep:Int)) rfl) (DR (w:=(way:Int)) rfl)) (λ_=> ?_) λr=> ?_)
   · refine aH (iL (sE (Bm rfl u) (MU (w:=(way:Int)) rfl)) (λM=> ?_) λ_=> ?_)
     · have l:=oo (QCq _ _▸M).1
       refine cZ (i_ rfl rfl q hi u (by rw[lQm];exact l) (by rw[lQm];exact W) λv S4 H C _ l4=> ?_)
       obtain⟨z,P,rfl⟩:=Qkq.mp H
       exact g (.word z) _ P (by show 1<=deep+1;omega) C
     · symm
       refine bK q (by decide) (by decide) λv S3 H U _ l3=> ?_
       exact g (.num v) _ (by show v<=9;omega) (by show 1<=deep+1;omega) U
   have A:1<=deep:=by
     rw[Bool.or_eq_false_iff] at r
     have:=QaQ r.1
     omega
   refine aH (iL (sE (Bm rfl s) (AH (w:=(way:Int)) rfl)) (λM=> ?_) λ_=> ?_)
   · have l:=oo (QCq _ _▸M).1
     refine cZ (cm (aw (dM (aw (i_ rfl rfl q F s (by rw[lQm];exact l) (by rw[lQm];exact Y) λv S4 H C _ l4=>aL ⟨by show 2<=_;decide,?_⟩)))))
     obtain⟨z,P,rfl⟩:=Qkq.mp H
     exact g (.waits z) _ P (by show 1<=deep+1;omega) C
   symm
   refine go q A λG I B a3 m=> ?_
   refine aH (iL (AH (w:=(way:Int)) rfl) (λ_=> ?_) λ_=> ?_)
   · symm
     refine⟨by show 2<=_;decide,?_⟩
     exact g (.no G) _ B (by show G.dep+1<=deep+1;omega) m
   refine aH (bO (dS (n:=5) (xs:=ops.map D.str) rfl m (by decide) (by decide) rfl (by symm;exact⟨rfl,rfl⟩) λd S3 hd U _ l3=> ?_))
   obtain⟨o,ho,rfl⟩:=Qkq.mp hd
   symm
   apply go U A λt2 S4 X a2 C=> ?_
   refine⟨by show 3<=_;decide,?_⟩
   exact g (.two o G t2) _ ⟨ho,B,X⟩ (by show max G.dep t2.dep+1<=deep+1;omega) C
inductive Rw where
 |put (x:Str) (t:Tr)|unl (t:Tr) (n:Nat)|go (n:Nat)|do_ (g:Option Str) (r d:Str) (t:Tr)|wait (b:Str) (t:Tr)|call (b:Str)|all (b:Str)|tell (t:Tr)
 |take (p:Str)|give (p:Str)|pass (p q:Str)|say (t:Tr)
noncomputable def E9:Option Str->D
 |none=>.non
 |some x=>.str x
noncomputable def Rw.d:Rw->D
 |.put x t=>.tup [.str "put",.str x,t.d]
 |.unl t n=>.tup [.str "unless",t.d,.int n]
 |.go n=>.tup [.str "go",.int n]
 |.do_ g r d t=>.tup [.str "do",E9 g,.str r,.str d,t.d]
 |.wait b t=>.tup [.str "wait",.str b,t.d]
 |.call b=>.tup [.str "call",.str b]
 |.all b=>.tup [.str "all",.str b]
 |.tell t=>.tup [.str "tell",t.d]
 |.take p=>.tup [.str "take",.str p]
 |.give p=>.tup [.str "give",.str p]
 |.pass p q=>.tup [.str "pass",.str p,.str q]
 |.say t=>.tup [.str "say",t.d]
structure Sc where
 own:Bool
 ws:List Str
 ps:List Str
 bs:List Str
 gs:List (Str×Str)
 ts:List Str
def HV(a:Sc)(t:Tr):Prop:=t.Ok a.ws a.bs/\t.dep<=4
def Rw.Ok(a:Sc)(n:Nat):Rw->Prop
 |.put x t=>x∈a.ps/\HV a t
 |.unl t m=>HV a t/\m<=n
 |.go m=>m<=n
 |.do_ g r d t=>(∀x,g=some x->x∈a.ps)/\(r,d)∈a.gs/\HV a t
 |.wait b t=>a.own=false/\b∈a.bs/\HV a t
 |.call b=>a.own=false/\b∈a.bs
 |.all b=>a.own=false/\b∈a.bs
 |.tell t=>a.own=false/\HV a t
 |.take p=>a.own=true/\p∈a.ts
 |.give p=>a.own=true/\p∈a.ts
 |.pass p q=>a.own=true/\p∈a.ts/\q∈a.ts
 |.say t=>a.own=true/\HV a t
theorem Rw.low(r:Rw):cf 0 r.d=true:=by
 cases r with
 |do_ g r d t=>cases g <;>simp only[Rw.d,cf,bT,E9,t.low,Bool.and_true,Bool.true_and]
 |_=>simp only[Rw.d,cf,bT,Tr.low,Bool.and_true,Bool.true_and]
def Ag(a:Sc)(rs:List Rw):Prop:=∀r∈rs,r.Ok a rs.length
noncomputable def cg(g:Str×Str):D:=.tup [.str g.1,.str g.2]
theorem FA:∀a:List Str,ix (a.map D.str)=some (a.map V.str)
 | []=>rfl
 |s::a=>by simp only[QDq,ix];rw[FA a];rfl
def L5{d:cq}{S:aF}{a:Bool}{f g:dQ}{Q:D->aF->Prop}(h:E f d S λp e=>E g d e λr S2=>(p.2.isL=true/\r.2.isL=true/\p.2.stays S2 p.1)/\∃b vs,ix p.1=some b/\ix r.1=some vs/\Q (.bl (if a then !Ed b vs else Ed b vs)) S2):E (eqQ a f g) d S Q:=by
 obtain⟨p,e,k,r,S2,i,c,b,vs,l,j,q⟩:=h
 exact⟨_,S2,by unfold eqQ;rw[k];simp only[Qbq];rw[i];simp only[Qbq];rw[Qhq c,l];simp only[Qbq];rw[j];rfl,q⟩
def IG{d:cq}{S:aF}{v i:Nat}{a:List Str}(e:d[v]?=some (some (.ref i)))(c:S[i]?=some (.lst (a.map D.str))):E (aP (eqQ false (aU (au v)) (fX (bo av)))) d S λb f=>f=S/\b=a.isEmpty:=
 cu (L5 (b_ (ax e (bP c (jF (cP (aL ⟨by show 0<=_;decide,⟨rfl,rfl,c⟩,_,_,FA a,rfl,rfl,by cases a <;>rfl⟩)))))))
noncomputable def cX:List Str:= ["given"]
def F4{l:cq}{S S0:aF}{k v i:Nat}{e:List Str}{Q:D->aF->Prop}(A:l[0]?=some (some (.ref k)))(q:l[v]?=some (some (.ref i)))(x:Ex k S0 S)(hi:i≠k)(o:S[i]?=some (.lst (e.map D.str)))(C:e.length<900)
  (h:∀(g:Option Str) (f:aF),(∀z,g=some z->z∈e)->Ex k S0 f->Ex k S f->f.length=S.length+1->Q (E9 g) f):
  E (a_ km (bB (xp (aU (au v)) (fX (bo (ar (cF .non) av))))) (aA az (ar (au 0) (ar (a_ bR (dW (aU (au v))) (cF (.int 1))) av)))) l S Q:=by
 refine bN (dk (E_ (b_ (ax q (bP o (jF (cP (aw (dM (aL ⟨by show 1<=_;decide,⟨rfl,rfl,o,nQl (aM (by rw[lQm];show e.length+1<=1000;omega))⟩,?_⟩))))))))))
 refine bL (aw (ax A (aw (bN (lB (b_ (ax q (bP (bu o) (dM (iO (aL ?_)))))))))))
 have F:=x.lt
 refine bK (x.app (G:= [O.lst (e.map D.str++ [.non])])) (by rw[lQm];omega) (by rw[lQm];omega) λd f u w p m=> ?_
 rw[lQm] at u
 have y:Ex k S S:=by obtain⟨a,b,c,B⟩:=x.pot;exact Ex.refl B
 have j:∀g:Option Str,(∀z,g=some z->z∈e)->(e.map D.str++ [D.non])[d]?=some (E9 g)->Op (km f (.ref S.length) (.int d)) λr=>Q r f:=λg s t=>
  cN (p.keep _ _ (by omega) aZ) (aR t) (h g f s w (y.app.trans p) (by rw[m];simp))
 by_cases c:d<e.length
 ·exact j (some e[d]) (λz n=>by cases n;exact List.getElem_mem c) (by rw[QHq (by simpa using c),gQm,gQe c];rfl)
 ·have:d=e.length:=by omega
  exact j none (λz n=>(nomatch n)) (by rw[QQq (by simp;omega),this];simp;rfl)
def yQ{S S0:aF}{k th bl I row f:Nat}{ths mf:List Str}{gs:List (Str×Str)}{mn:Str}{Q:Res->aF->Prop}(x:Ex k S0 S)(Z:th≠k)(Y:bl≠k)(h3:I≠k)
  (ht:S[th]?=some (.lst (ths.map D.str))) (hb:S[bl]?=some (.lst (mf.map D.str))) (hg:S[I]?=some (.lst (gs.map cg))) (l1:ths.length<900) (l2:mf.length<900) (l3:gs.length<900) (hr:row<f) (hs:f<1000)
  (h:∀(r:Rw) (s:aF),r.Ok ⟨false,ths++cX,ths,mf,gs,[]⟩ f->Ex k S0 s->Ex k S s->s.length=S.length->Q (.d r.d) s):
  Fn eJ [.ref k,.tup [.ref th,.ref bl,.str mn],.tup [.int row,.int f],.ref I] S Q:=by
 have y:Ex k S S:=by obtain⟨a,b,c,hh⟩:=x.pot;exact Ex.refl hh
 have kl:=x.lt
 have A:∀(r:Rw) (s:aF),r.Ok ⟨false,ths++cX,ths,mf,gs,[]⟩ f->Ex k S s->Op (settle S r.d s) λp=>Q p.1 p.2:=λr s Z e=>uD e kl (λk z=>by cases r <;>cases z) (fe r.low) λa b c=>h _ _ Z x.set y.set (by simp)
 refine bQ ?_
 unfold h_
 symm
 refine eF rfl (aC (aV (aC (aV (aC (aV (bx ?_)))))))
 refine aH (bO (dk (E_ (b_ (ax rfl (bP ht (jF (cP (aw (dM (aL ⟨by show 1<=_;decide,⟨rfl,rfl,ht,nQl (aM (by rw[lQm];show ths.length+1<=1000;omega))⟩,?_⟩)))))))))))
 have en:ths.map D.str++ [D.str "given"]=(ths++cX).map D.str:=by rw[Qzq];rfl
 rw[en]
 have P:(S++ [O.lst ((ths++cX).map D.str)])[S.length]?=some (.lst ((ths++cX).map D.str)):=aZ
 have a2:(S++ [O.lst ((ths++cX).map D.str)])[th]?=some (.lst (ths.map D.str)):=bu ht
 have a4:(S++ [O.lst ((ths++cX).map D.str)])[bl]?=some (.lst (mf.map D.str)):=bu hb
 have a1:(S++ [O.lst ((ths++cX).map D.str)])[I]?=some (.lst (gs.map cg)):=bu hg
 have e1:Ex k S (S++ [O.lst ((ths++cX).map D.str)]):=y.app
 have nk:S.length≠k:=by omega
 generalize (S++ [O.lst ((ths++cX).map D.str)])=S1 at P a2 a4 a1 e1⊢
 generalize S.length=nl at P nk⊢
 have ln:(ths++cX).length<1000:=by rw[lQa];show ths.length+1<1000;omega
 symm
 refine bK e1 (by decide) (by decide) λway S2 b2 K M b3=> ?_
 have a6:=M.keep _ _ nk P
 have X:=M.keep _ _ Z a2
 have C:=M.keep _ _ Y a4
 have a3:=M.keep _ _ h3 a1
 have F:∀{deep:Nat} {R:Res->aF->Prop} {N:aF},deep<=2->Ex k S N->Ex k S2 N->(∀(t:Tr) (s:aF),HV ⟨false,ths++cX,ths,mf,gs,[]⟩ t->Ex k S s->Ex k N s->R (.d t.d) s)->Fn (a0 3) [.ref k,.ref nl,.ref bl,.int deep] N R:=λ{deep R N} hd W i hR=>
  A1 3 W nk Y (i.keep _ _ nk a6) (i.keep _ _ Y C) ln (by omega) (by omega) λt s ok dp B q _=>hR t s ⟨ok,by omega⟩ B q
 have y2:Ex k S2 S2:=by obtain⟨a,b,c,hh⟩:=K.pot;exact Ex.refl hh
 have U:∀{Γ:cq} {R:D->aF->Prop},Γ[0]?=some (some (.ref k))->Γ[5]?=some (some (.ref bl))->0<mf.length->(∀(z:Str) (s:aF),z∈mf->Ex k S s->Ex k S2 s->R (.str z) s)->E (a_ km (au 5) (aA az (ar (au 0) (ar (dW (aU (au 5))) av)))) Γ S2 R:=λg0 g5 j hR=>
  i_ g0 g5 K Y C (by rw[lQm];exact j) (by rw[lQm];omega) λv S4 L B q _=>by
   obtain⟨z,J,rfl⟩:=Qkq.mp L
   exact hR z S4 J B q
 refine aH (iL (sE (DR (w:=(way:Int)) rfl) (Bm rfl C)) (λH=> ?_) λ_=> ?_)
 ·have j:=oo (QCq _ _▸H).2
  apply cZ (cm (aw (dM (aw (U rfl rfl j λz N J W i=>aw (bL ?_))))))
  apply F (deep:=1) (by decide) W i λt S4 o B _=> ?_
  refine⟨by show 3<=_;decide,?_⟩
  exact A (.wait z t) _ ⟨rfl,J,o⟩ B
 refine aH (iL (sE (DR (w:=(way:Int)) rfl) (Bm rfl C)) (λH=> ?_) λ_=> ?_)
 ·have j:=oo (QCq _ _▸H).2
  symm
  refine⟨by show 2<=_;decide,?_⟩
  symm
  apply iy ?_
  obtain⟨z,J,c,b1,a5⟩:∃z:Str,(z="call" \/z="all")/\∃c:Int,intOfD [.bl (decide (mn="when free"))]=some (.int c)/\mF ([.str "call",.str "all"]:List D) c=some (.str z):=by
   by_cases c:mn="when free"
   ·exact⟨"all",.inr rfl,1,by rw[Qeq c];rfl,rfl⟩
   ·exact⟨"call",.inl rfl,0,by rw[Qdq c];rfl,rfl⟩
  refine⟨_,b1,?_⟩
  apply cN aZ a5 ?_
  refine⟨by show 2<=_;decide,?_⟩
  symm
  have b4:=K.lt
  refine bK ((K.app (G:= [O.lst [.str "call",.str "all"]])).app (G:= [O.lst [.str "call",.str z]])) (by decide) (by decide) λv N L W i l3=> ?_
  dsimp only
  obtain⟨u,hu,ha⟩:∃u:Str,(u="call" \/u="all")/\mF ([.str "call",.str z]:List D) (v:Int)=some (.str u):=by
   rcases(by omega:v=0\/v=1) with rfl|rfl
   ·exact⟨"call",.inl rfl,rfl⟩
   ·exact⟨z,J,rfl⟩
  refine cN (i.keep _ _ (by simp;omega) aZ) ha ?_
  have b0:=i.keep _ _ Y (bu (bu C))
  refine cZ (cm (aw (ax rfl (aw (i_ rfl rfl W Y b0 (by rw[lQm];exact j) (by rw[lQm];omega) λv S4 L B q _=>aL ⟨by show 2<=_;decide,?_⟩)))))
  obtain⟨b,hb,rfl⟩:=Qkq.mp L
  rcases hu with rfl|rfl
  ·exact A (.call b) _ ⟨rfl,hb⟩ B
  ·exact A (.all b) _ ⟨rfl,hb⟩ B
 refine aH (iL (sE (DR (w:=(way:Int)) rfl) (Bm rfl a3)) (λH=> ?_) λ_=> ?_)
 ·have j:=oo (QCq _ _▸H).2
  refine aH (Fl (i_ rfl rfl K h3 a3 (by rw[lQm];exact j) (by rw[lQm];omega) λv S4 L B q _=> ?_))
  obtain⟨z,J,rfl⟩:=Qkq.mp L
  refine eF rfl (aC (aV (aC (aV (bx ?_)))))
  apply aH (bO (F4 rfl rfl B Z (q.keep _ _ Z X) l1 λg S5 a7 e5 a9 _=> ?_))
  apply F (deep:=1) (by decide) e5 (q.trans a9) λt S6 o e6 _=> ?_
  refine⟨by show 5<=_;decide,?_⟩
  exact A (.do_ g z.1 z.2 t) _ ⟨a7,J,o⟩ e6
 refine aH (iL (AH (w:=(way:Int)) rfl) (λH=> ?_) λ_=> ?_)
 ·symm
  apply F (deep:=1) (by decide) K y2 λt S6 o e6 _=> ?_
  refine⟨by show 2<=_;decide,?_⟩
  exact A (.tell t) _ ⟨rfl,o⟩ e6
 refine aH (iL (AH (w:=(way:Int)) rfl) (λH=> ?_) λ_=> ?_)
 ·symm
  apply aB rfl ?_
  apply aB rfl ?_
  apply aB rfl ?_
  rw[show(f:Int)-(row:Int)=((f-row:Nat):Int) by omega]
  apply bK K (by omega) (by omega) λv N L W i _=> ?_
  rw[show(row:Int)+1+(v:Int)=((row+1+v:Nat):Int) by omega]
  refine F (deep:=2) (by decide) W i λt S4 o B _=> ?_
  refine aw (dS (n:=3) (xs:= [.int (row+1+v:Nat),.int (row+1+v:Nat),.int 0]) rfl B (by decide) (by decide) rfl (by symm;exact⟨rfl,rfl⟩) λd S5 hd e5 _ _=> ?_)
  obtain⟨m,hm,rfl⟩:∃m:Nat,m<=f/\d=.int m:=by
   simp only[Qsq,QXq,or_false] at hd
   rcases hd with rfl|rfl|rfl
   ·exact⟨row+1+v,by omega,rfl⟩
   ·exact⟨row+1+v,by omega,rfl⟩
   ·exact⟨0,by omega,rfl⟩
  symm
  refine⟨by show 3<=_;decide,?_⟩
  exact A (.unl t m) _ ⟨o,hm⟩ e5
 refine aH (iL (IG rfl X) (λH=> ?_) λH=> ?_)
 ·symm
  refine⟨by show 2<=_;decide,?_⟩
  exact A (.tell (.word "given")) _ ⟨rfl,by show _∈ths++cX;simp[cX],by show 1<=4;decide⟩ K
 have j:0<ths.length:=by
  cases ths with
  |nil=>cases H
  |cons a l=>simp
 refine cZ (cm (aw (dM (aw (i_ rfl rfl K Z X (by rw[lQm];exact j) (by rw[lQm];omega) λv S4 L B q _=>aw (bL ?_))))))
 obtain⟨z,J,rfl⟩:=Qkq.mp L
 symm
 apply F (deep:=2) (by decide) B q λt S5 o e5 _=> ?_
 refine⟨by show 3<=_;decide,?_⟩
 exact A (.put z t) _ ⟨J,o⟩ e5
def zj{S S0:aF}{k ow pa de row f:Nat}{j J:List Str}{gs:List (Str×Str)}{Q:Res->aF->Prop}(x:Ex k S0 S)(K:ow≠k)(h2:pa≠k)(h3:de≠k)
  (ho:S[ow]?=some (.lst (j.map D.str))) (hp:S[pa]?=some (.lst (J.map D.str))) (hg:S[de]?=some (.lst (gs.map cg))) (l1:j.length<900) (l2:J.length<900) (l3:gs.length<900) (hr:row<f) (hs:f<1000)
  (h:∀(r:Rw) (i:aF),r.Ok ⟨true,j,j,[],gs,J⟩ f->Ex k S0 i->Ex k S i->i.length=S.length->Q (.d r.d) i):
  Fn eK [.ref k,.ref ow,.ref pa,.tup [.int row,.int f],.ref de] S Q:=by
 have y:Ex k S S:=by obtain⟨a,b,c,hh⟩:=x.pot;exact Ex.refl hh
 have kl:=x.lt
 have A:∀(r:Rw) (i:aF),r.Ok ⟨true,j,j,[],gs,J⟩ f->Ex k S i->Op (settle S r.d i) λp=>Q p.1 p.2:=λr i K e=>uD e kl (λk z=>by cases r <;>cases z) (fe r.low) λa b c=>h _ _ K x.set y.set (by simp)
 refine bQ ?_
 unfold kQ
 symm
 refine bK y (by decide) (by decide) λway S2 b1 e2 a1 b2=> ?_
 have L:=a1.keep _ _ K ho
 have Z:=a1.keep _ _ h2 hp
 have a2:=a1.keep _ _ h3 hg
 have y2:Ex k S2 S2:=by obtain⟨a,b,c,hh⟩:=e2.pot;exact Ex.refl hh
 have M:∀{deep:Nat} {R:Res->aF->Prop} {U:aF},deep<=2->Ex k S U->Ex k S2 U->(∀(t:Tr) (i:aF),HV ⟨true,j,j,[],gs,J⟩ t->Ex k S i->Ex k U i->R (.d t.d) i)->Fn (a0 3) [.ref k,.ref ow,.ref U.length,.int deep] (U++ [O.lst []]) R:=λ{deep R U} P X B hR=>by
  have y3:Ex k U U:=by obtain⟨a,b,c,hh⟩:=X.pot;exact Ex.refl hh
  have l3:=X.lt
  exact A1 (bs:= []) 3 X.app K (by omega) (bu (B.keep _ _ K L)) aZ (by omega) (by decide) (by omega) λt i ok dp H s _=>hR t i ⟨ok,by omega⟩ H (y3.app.trans s)
 refine aH (iL (sE (DR (w:=(way:Int)) rfl) (Bm rfl a2)) (λW=> ?_) λ_=> ?_)
 ·have u:=oo (QCq _ _▸W).2
  refine aH (Fl (i_ rfl rfl e2 h3 a2 (by rw[lQm];exact u) (by rw[lQm];omega) λv I hv H s _=> ?_))
  obtain⟨z,Y,rfl⟩:=Qkq.mp hv
  refine eF rfl (aC (aV (aC (aV (bx ?_)))))
  apply aH (bO (F4 rfl rfl H K (s.keep _ _ K L) l1 λg S5 a4 G F _=> ?_))
  refine⟨by show 0<=_;decide,?_⟩
  symm
  apply M (deep:=1) (by decide) G (s.trans F) λt S6 C e6 _=> ?_
  refine⟨by show 5<=_;decide,?_⟩
  exact A (.do_ g z.1 z.2 t) _ ⟨a4,Y,C⟩ e6
 refine aH (iL (sE (DR (w:=(way:Int)) rfl) (Bm rfl Z)) (λW=> ?_) λ_=> ?_)
 ·have u:=oo (QCq _ _▸W).2
  refine aH (IA (aw (i_ rfl rfl e2 h2 Z (by rw[lQm];exact u) (by rw[lQm];omega) λv I hv H s _=>aw (i_ rfl rfl H h2 (s.keep _ _ h2 Z) (by rw[lQm];exact u) (by rw[lQm];omega) λv' S5 a6 G F _=>aL ⟨_,_,rfl,?_⟩))))
  obtain⟨z,Y,rfl⟩:=Qkq.mp hv
  obtain⟨z',a9,rfl⟩:=Qkq.mp a6
  refine cZ (dS (n:=3) (xs:= [(Rw.take z).d,(Rw.give z).d,(Rw.pass z z').d]) rfl G (by decide) (by decide) rfl ?_ λd S6 P e6 _ _=> ?_)
  ·symm
   refine⟨by show 2<=_;decide,?_⟩
   symm
   refine⟨by show 2<=_;decide,?_⟩
   symm
   refine⟨by show 3<=_;decide,?_⟩
   symm
   exact⟨rfl,rfl⟩
  ·simp only[Qsq,QXq,or_false] at P
   rcases P with rfl|rfl|rfl
   ·exact A (.take z) _ ⟨rfl,Y⟩ e6
   ·exact A (.give z) _ ⟨rfl,Y⟩ e6
   ·exact A (.pass z z') _ ⟨rfl,Y,a9⟩ e6
 symm
 apply aB rfl ?_
 apply aB rfl ?_
 apply aB rfl ?_
 rw[show(f:Int)-(row:Int)=((f-row:Nat):Int) by omega]
 refine bK e2 (by omega) (by omega) λv U hv X B b3=> ?_
 refine iO ?_
 rw[show(row:Int)+1+(v:Int)=((row+1+v:Nat):Int) by omega]
 have b0:row+1+v<=f:=by omega
 have a5:=B.keep _ _ K L
 refine aH (iL (AH (w:=(way:Int)) rfl) (λW=> ?_) λ_=> ?_)
 ·symm
  refine⟨by show 0<=_;decide,?_⟩
  symm
  refine M (deep:=2) (by decide) X B λt I C H _=> ?_
  refine aw (dS (n:=3) (xs:= [.int (row+1+v:Nat),.int (row+1+v:Nat),.int 0]) rfl H (by decide) (by decide) rfl (by symm;exact⟨rfl,rfl⟩) λd S5 P G _ _=> ?_)
  obtain⟨m,hm,rfl⟩:∃m:Nat,m<=f/\d=.int m:=by
   simp only[Qsq,QXq,or_false] at P
   rcases P with rfl|rfl|rfl
   ·exact⟨row+1+v,by omega,rfl⟩
   ·exact⟨row+1+v,by omega,rfl⟩
   ·exact⟨0,by omega,rfl⟩
  symm
  refine⟨by show 3<=_;decide,?_⟩
  exact A (.unl t m) _ ⟨C,hm⟩ G
 refine aH (iL (AH (w:=(way:Int)) rfl) (λW=> ?_) λ_=> ?_)
 ·refine cZ (cm (aw (dM (aw (dS (n:=2) (xs:= [.int (row+1+v:Nat),.int 0]) rfl X (by decide) (by decide) rfl (by symm;exact⟨rfl,rfl⟩) λd S5 P G _ _=>aL ⟨by show 2<=_;decide,?_⟩)))))
  obtain⟨m,hm,rfl⟩:∃m:Nat,m<=f/\d=.int m:=by
   simp only[Qsq,QXq,or_false] at P
   rcases P with rfl|rfl
   ·exact⟨row+1+v,by omega,rfl⟩
   ·exact⟨0,by omega,rfl⟩
  exact A (.go m) _ hm G
 have a3:∀{I:aF} {N:cq},Ex k S I->Ex k S2 I->N[0]?=some (some (.ref k))->N[1]?=some (some (.ref ow))->T (cp (aW (ar (cF (.str "say")) (ar (aA (a0 3) (ar (au 0) (ar (au 1) (ar (bB (bo av)) (ar (cF (.int 1)) av))))) av)))) N I λo=>∃d i,o=.rt d i/\Op (settle S d i) λp=>Q p.1 p.2:=λ{I N} H s g0 g1=>by
  refine cZ (cm (aw (dM (aw (bL (aw (ax g0 (aw (ax g1 (aw (dk (cP (aL ⟨by show 0<=_;decide,aw (dM (aL ?_))⟩)))))))))))))
  refine M (deep:=1) (by decide) H s λt S5 C G _=> ?_
  refine aL ⟨by show 2<=_;decide,_,_,rfl,?_⟩
  exact A (.say t) _ ⟨rfl,C⟩ G
 have a7:∀{I:aF} {N:cq},0<j.length->Ex k S I->Ex k S2 I->N[0]?=some (some (.ref k))->N[1]?=some (some (.ref ow))->T (cp (aW (ar (cF (.str "put")) (ar (a_ km (au 1) (aA az (ar (au 0) (ar (dW (aU (au 1))) av)))) (ar (aA (a0 3) (ar (au 0) (ar (au 1) (ar (bB (bo av)) (ar (cF (.int 2)) av))))) av))))) N I λo=>∃d i,o=.rt d i/\Op (settle S d i) λp=>Q p.1 p.2:=λ{I N} u H s g0 g1=>by
  refine cZ (cm (aw (dM (aw (i_ g0 g1 H K (s.keep _ _ K L) (by rw[lQm];exact u) (by rw[lQm];omega) λv S5 hv G F _=>aw (bL (aw (ax g0 (aw (ax g1 (aw (dk (cP (aL ⟨by show 0<=_;decide,aw (dM (aL ?_))⟩))))))))))))))
  obtain⟨z,Y,rfl⟩:=Qkq.mp hv
  refine M (deep:=2) (by decide) G (s.trans F) λt S6 C e6 _=> ?_
  refine aL ⟨by show 3<=_;decide,_,_,rfl,?_⟩
  exact A (.put z t) _ ⟨Y,C⟩ e6
 refine aH (ed (Co ((IG rfl a5).mono λb I qr=> ?_)))
 obtain⟨H,eb⟩:=qr
 subst H eb
 refine bq (λW=> ?_) (λW=> ?_)
 ·rw[Qhq rfl]
  refine(a3 X B rfl rfl).mono λo ⟨d,i,e,q⟩=>by subst e;exact q
 ·have u:0<j.length:=by
   cases j with
   |nil=>cases W
   |cons a l=>simp
  symm
  apply bK X (by decide) (by decide) λw S5 hw G F b4=> ?_
  refine dH ?_
  refine bq (λ_=> ?_) (λ_=>cB ?_)
  ·refine(a3 G (B.trans F) rfl rfl).mono λo ⟨d,i,e,q⟩=>by subst e;exact q
  ·refine(a7 u G (B.trans F) rfl rfl).mono λo ⟨d,i,e,q⟩=>by subst e;exact q
end W28
namespace DL
open PySem PySem.Spec L2
def N1{a b:cq}{d:D}(h:a.set 0 none=b.set 0 none):a.set 0 (some d)=b.set 0 (some d):=by
 have:=congrArg (λc:cq=>c.set 0 (some d)) h
 simpa using this
def JM{i:cq}{S:aF}{js:List (Option Nat)}{f:dQ}{e:bp}{Q:List D->aF->Prop}(F:D->D)(h:E f i S λp c=>p.2.stays c p.1/\p.1.length<=1000/\(∀d∈p.1,E e ((nF js i).set 0 (some d)) c λy S2=>y=F d/\S2=c)/\Q (p.1.map F) c):
  E (bD js (jq f) (bF 0) bS e) i S Q:=by
 refine gM (k9 (h.mono λp c l=> ?_))
 obtain⟨s,hl,r,q⟩:=l
 refine⟨λn a g b=>g=c/\b=(p.1.take n).map F/\a.set 0 none=(nF js i).set 0 none,⟨rfl,rfl,rfl⟩,λn a g b h=>by rw[h.1];exact s,λn d a g b j h=> ?_,λa g b h=> ?_⟩
 ·obtain⟨rfl,rfl,h3⟩:=h
  refine aV (fT ?_)
  rw[Qhq rfl,N1 h3]
  refine(r d (mQg j)).mono λy S2 o=> ?_
  obtain⟨m,k⟩:=o
  subst m k
  have t:=(gQs.mp j).1
  refine⟨?_,rfl,?_,by simp⟩
  ·rw[lQm,Qxq]
   exact aM (by omega)
  ·rw[QYq,j]
   simp
 ·obtain⟨rfl,rfl,_⟩:=h
  rw[QEq]
  exact q
def Lw{a:cq}{S:aF}{f:dQ}{g:bp}{Q:List D->aF->Prop}(h:E f a S λp b=>E g a b λr S2=>∃n:Nat,r=.int n/\(p.2.isM=true/\p.2.stays S2 p.1/\p.1.length*n<=1000/\n<=1)/\Q ((List.replicate n p.1).flatten) S2):E (FN f g) a S Q:=by
 obtain⟨p,b,d,r,S2,c,n,rfl,⟨h1,h2,h3,h4⟩,q⟩:=h
 refine⟨_,S2,?_,q⟩
 unfold FN
 rw[d]
 simp only[Qbq]
 rw[c]
 simp only[Qbq]
 rw[Qhq ⟨h1,h2,by omega,by omega,by simpa using QAq h3 (by decide)⟩]
 simp
def cK{a:cq}{S:aF}{Q:Option Int->aF->Prop}(q:Q none S):E jP a S Q:=⟨_,_,rfl,q⟩
def cJ{b:cq}{S:aF}{f:bp}{Q:Option Int->aF->Prop}(h:E f b S λd a=>∃i,d=.int i/\Q (some i) a):E (jH f) b S Q:=by
 obtain⟨d,a,c,i,rfl,q⟩:=h
 exact⟨_,a,by unfold jH;rw[c];rfl,q⟩
def IY{b:cq}{S:aF}{f:dQ}{lo hi:HQ}{Q:List D->aF->Prop}(h:E f b S λp c=>E lo b c λl S2=>E hi b S2 λu a=>(p.2.isL=true/\p.2.stays a p.1)/\Q (gd p.1 l u) a):E (vd f lo hi) b S Q:=by
 obtain⟨p,c,e,l,S2,d,u,a,g,i,q⟩:=h
 exact⟨_,a,by unfold vd;rw[e];simp only[Qbq];rw[d];simp only[Qbq];rw[g];simp only[Qbq];rw[Qhq i],q⟩
def J9{α:Type}{xs:List α}{i:Nat}(h:i<=xs.length):gd xs (some (i:Int)) none=xs.drop i:=by
 unfold gd
 have b:HT.dN xs.length 0 (some (i:Int))=i:=by rw[HT.se];omega
 have a:HT.dN xs.length xs.length none=xs.length:=rfl
 rw[b,a,List.take_of_length_le (by rw[List.length_drop];omega)]
def Jx{α:Type}{xs:List α}{i:Nat}:gd xs none (some (i:Int))=xs.take i:=by
 unfold gd
 have b:HT.dN xs.length 0 none=0:=rfl
 have a:HT.dN xs.length xs.length (some (i:Int))=min i xs.length:=HT.se ..
 rw[b,a,List.drop_zero,Nat.sub_zero]
 by_cases c:i<=xs.length
 ·rw[Nat.min_eq_left c]
 ·rw[Nat.min_eq_right (by omega),QEq,List.take_of_length_le (by omega)]
def yN{b:cq}{S:aF}{v i:Nat}{ws:List Str}{f g:bp}{Q:List D->aF->Prop}(o:b[v]?=some (some (.ref i)))(r:S[i]?=some (.lst (ws.map D.str)))
  (h:E f b S λd c=>∃a:Nat,d=.int a/\a<=ws.length/\c[i]?=some (.lst (ws.map D.str))/\E g b c λj S2=>∃n:Nat,j=.int n/\Q (((ws.drop a).take n).map D.str) S2):
  E (vd (fX (vd (aU (au v)) (jH f) jP)) jP (jH g)) b S Q:=by
 refine IY (jF (IY (b_ (ax o (bP r (cJ (h.mono λd c ⟨a,p,m,e,l⟩=>⟨a,p,cK ⟨⟨rfl,e⟩,?_⟩⟩)))))))
 refine cK (cJ (l.mono λj S2 ⟨n,k,q⟩=>⟨n,k,⟨rfl,trivial⟩,?_⟩))
 show Q (gd (gd (ws.map D.str) (some (a:Int)) none) none (some (n:Int))) S2
 rw[J9 (by simpa using m),Jx,←List.map_drop,←List.map_take]
 exact q
end DL
namespace W28
open PySem PySem.Spec L2 DL
noncomputable def mS(p:Str×Nat):D:=.tup [.str p.1,.int p.2]
noncomputable def GU(p:Str×Str):D:=.tup [.str p.1,.str p.2]
noncomputable def i0(p:Str×List Rw):D:=.tup [.str p.1,.tup (p.2.map Rw.d)]
def Em{q:cq}{S S0:aF}{k m:Nat}{it:uN}{Q:List D->aF->Prop}(P:List Str->Prop)(H:q.getD 0 none=some (.ref k))(J:0<m)(L:m<1000)
  (hi:E it q S λp l=>∃ws:List Str,P ws/\ws.length<=900/\p.1=ws.map D.str/\Ex k S0 l/\Ex k S l/\∀f,Ex k l f->p.2 f)
  (h:∀(ps:List (Str×Nat)) (f:aF),P (ps.map (·.1))->(∀p∈ps,p.2<m)->Ex k S0 f->Ex k S f->Q (ps.map mS) f):
  E (bD [none,some 0] it (bF 0) bS (aW (ar (au 0) (ar (aA az (ar (au 1) (ar (cF (.int m)) av))) av)))) q S Q:=by
 refine gM (hi.mono λp l F=> ?_)
 obtain⟨ws,C,hl,j,x,B,r⟩:=F
 have y:Ex k l l:=by obtain⟨a,b,c,G⟩:=x.pot;exact Ex.refl G
 refine⟨λn g f i=>∃(o:Option D) (ps:List (Str×Nat)),g= [o,some (.ref k)]/\Ex k S0 f/\Ex k l f/\ps.map (·.1)=ws.take n/\(∀p∈ps,p.2<m)/\i=ps.map mS,⟨none,[],by show [none,q.getD 0 none]=_;rw[H],x,y,rfl,λ_ h=>(nomatch h),rfl⟩,λn g f i ⟨_,_,_,_,e,_⟩=>r f e,?_,?_⟩
 ·rintro n d g f i t ⟨o,ps,rfl,e0,e1,h1,h2,rfl⟩
  rw[j,gQm] at t
  obtain⟨z,u,rfl⟩:=oQm.mp t
  have I:=(gQs.mp u).1
  refine aV (fT ?_)
  rw[Qhq rfl]
  symm
  apply bK e0 (by omega) (by omega) λv M K A s _=> ?_
  refine⟨by show 2<=_;decide,?_⟩
  have w:ps.length=n:=by
   have:=congrArg List.length h1
   rw[lQm,Qxq] at this
   omega
  refine⟨by rw[lQm];exact aM (by omega),_,ps++ [(z,v)],rfl,A,e1.trans s,?_,λp j=> ?_,by simp[mS]⟩
  ·rw[Qzq,h1,QYq,u]
   rfl
  ·rcases mQa.mp j with j|j
   ·exact h2 p j
   ·rw[Qfq.mp j];show v<m;omega
 ·rintro g f i ⟨o,ps,rfl,e0,e1,h1,h2,rfl⟩
  rw[j,lQm,QEq] at h1
  exact h ps f (by rw[h1];exact C) h2 e0 (B.trans e1)
def LP{r:cq}{S S0:aF}{k j l:Nat}{ws:List Str}{Q:List D->aF->Prop}(x:Ex k S0 S)(J:r.getD 0 none=some (.ref k))(F:r[j]?=some (some (.ref l)))(hl:S[l]?=some (.lst (ws.map D.str)))(nl:l≠k)(w:ws.length<=900)
  (h:∀(ps:List (Str×Str)) (f:aF),ps.map (·.1)=ws->(∀p∈ps,p.2="row" \/p.2="turns")->Ex k S0 f->Ex k S f->Q (ps.map GU) f):
  E (bD [none,some 0] (jq (aU (au j))) (bF 0) bS (aW (ar (au 0) (ar (a_ km (bB (bo (ar (cF (.str "row")) (ar (cF (.str "turns")) av)))) (aA az (ar (au 1) (ar (cF (.int 2)) av)))) av)))) r S Q:=by
 have y:Ex k S S:=by obtain⟨a,b,c,H⟩:=x.pot;exact Ex.refl H
 refine gM (k9 (b_ (ax F (bP hl ?_))))
 refine⟨λn g f i=>∃(o:Option D) (ps:List (Str×Str)),g= [o,some (.ref k)]/\Ex k S0 f/\Ex k S f/\ps.map (·.1)=ws.take n/\(∀p∈ps,p.2="row" \/p.2="turns")/\i=ps.map GU,⟨none,[],by show [none,r.getD 0 none]=_;rw[J],x,y,rfl,λ_ h=>(nomatch h),rfl⟩,λn g f i ⟨_,_,_,_,e,_⟩=>e.keep _ _ nl hl,?_,?_⟩
 ·rintro n d g f i t ⟨o,ps,rfl,e0,e1,h1,h2,rfl⟩
  rw[gQm] at t
  obtain⟨z,u,rfl⟩:=oQm.mp t
  have K:=(gQs.mp u).1
  refine aV (fT ?_)
  rw[Qhq rfl]
  symm
  refine⟨by show 2<=_;decide,?_⟩
  symm
  have N:=e0.lt
  refine bK (e0.app (G:= [O.lst [.str "row",.str "turns"]])) (by decide) (by decide) λv M L A q _=> ?_
  dsimp only
  obtain⟨s,I,B⟩:∃s:Str,(s="row" \/s="turns")/\mF ([.str "row",.str "turns"]:List D) (v:Int)=some (.str s):=by
   rcases(by omega:v=0\/v=1) with rfl|rfl
   ·exact⟨"row",.inl rfl,rfl⟩
   ·exact⟨"turns",.inr rfl,rfl⟩
  apply cN (q.keep _ _ (by omega) aZ) B ?_
  refine⟨by show 2<=_;decide,?_⟩
  have C:ps.length=n:=by
   have:=congrArg List.length h1
   rw[lQm,Qxq] at this
   omega
  refine⟨by rw[lQm];exact aM (by omega),_,ps++ [(z,s)],rfl,A,e1.app.trans q,?_,λp m=> ?_,by simp[GU]⟩
  ·rw[Qzq,h1,QYq,u]
   rfl
  ·rcases mQa.mp m with m|m
   ·exact h2 p m
   ·rw[Qfq.mp m];exact I
 ·rintro g f i ⟨o,ps,rfl,e0,e1,h1,h2,rfl⟩
  exact h ps f (by rw[h1];simp) h2 e0 e1
def Rw.Ok.sub{a:Bool}{ws ps bs ts:List Str}{gs b:List (Str×Str)}{n:Nat}{r:Rw}(h:r.Ok ⟨a,ws,ps,bs,gs,ts⟩ n)(c:∀g∈gs,g∈b):r.Ok ⟨a,ws,ps,bs,b,ts⟩ n:=by
 cases r with
 |do_ g r d t=>exact⟨h.1,c _ h.2.1,h.2.2⟩
 |_=>exact h
def Ag.sub{a:Bool}{ws ps bs ts:List Str}{gs b:List (Str×Str)}{rs:List Rw}(h:Ag ⟨a,ws,ps,bs,gs,ts⟩ rs)(c:∀g∈gs,g∈b):Ag ⟨a,ws,ps,bs,b,ts⟩ rs:=λr d=>(h r d).sub c
structure Rm where
 name:Str
 ah:Str
 ao:List (Str×Nat)
 aa:List (Str×Str)
 ae:List (Str×List Rw)
noncomputable def Rm.d(r:Rm):D:=.tup [.str r.name,.str r.ah,.tup (r.ao.map mS),.tup (r.aa.map GU),.tup (r.ae.map i0)]
structure Ba(gs:List (Str×Str))(r:Rm):Prop where
 mn:r.ah="at once" \/r.ah="when free"
 tv:∀p∈r.ao,p.2<=9
 l1:r.ao.length<=6
 l2:r.aa.length<=6
 l3:r.ae.length<=6
 bv:∀p∈r.aa,p.2="row" \/p.2="turns"
 pr:∀p∈r.ae,Ag ⟨false,r.ao.map (·.1)++cX,r.ao.map (·.1),r.aa.map (·.1),gs,[]⟩ p.2/\p.2.length<=12
def Gv(p:Str×List Rw):cf 0 (i0 p)=true:=by
 simp only[i0,cf,bT,Bool.and_true,Bool.true_and]
 exact a8 λr _=>r.low
def Rm.low(r:Rm):cf 0 r.d=true:=by
 simp only[Rm.d,cf,bT,Bool.and_true,Bool.true_and,QCq]
 exact⟨a8 λ_ _=>rfl,a8 λ_ _=>rfl,a8 λp _=>Gv p⟩
noncomputable def bE(rs:List Rm):List (Str×Str):=rs.flatMap λr=>r.ae.map λp=>(r.name,p.1)
def Ba.sub{gs a:List (Str×Str)}{r:Rm}(h:Ba gs r)(c:∀g∈gs,g∈a):Ba a r:={h with pr:=λp b=>⟨(h.pr p b).1.sub c,(h.pr p b).2⟩}
end W28
namespace DL
open PySem PySem.Spec L2
def CS{b:cq}{S:aF}{f:bp}{g:dQ}{Q:D->aF->Prop}(h:E f b S λx c=>∃k a,x=.ref k/\c[k]?=some (.lst a)/\E g b c λp S2=>∃ds,S2[k]?=some (.lst ds)/\(p.2.isM=true/\ds.length+p.1.length<=sizeLine)/\Q .non (S2.set k (.lst (ds++p.1)))):E (wM f g) b S Q:=by
 obtain⟨x,c,d,k,a,rfl,h1,p,S2,e2,ds,h2,h3,q⟩:=h
 exact⟨_,_,by unfold wM;rw[d];simp only[Qbq,e2,h1,h2];rw[Qhq h3],q⟩
def t6{b:Bool}{Q:D->Prop}(q:Q (.int (if b then 1 else 0))):Op (intOfD [.bl b]) Q:=⟨_,rfl,q⟩
def c7{j:Nat}{n:Nat}{d:D}(h:(iE 0 (j:Int))[n]?=some d):d=.int n/\n<j:=by
 simp only[iE,gQm] at h
 obtain⟨i,c,rfl⟩:=oQm.mp h
 obtain⟨b,a⟩:=gQs.mp c
 simp at b a
 subst a
 exact⟨by simp,by omega⟩
def dC{j:Nat}:(iE 0 (j:Int)).length=j:=by simp only[iE,lQm,QVq];omega
end DL
namespace W28
open PySem PySem.Spec L2 DL
noncomputable def fH(p:List (Str×Nat)×List Rw):D:=.tup [.tup (p.1.map mS),.tup (p.2.map Rw.d)]
structure cV where
 aj:List Rm
 ai:List (Str×Nat)
 ak:List (Str×Nat)
 af:List (List (Str×Nat)×List Rw)
noncomputable def cV.d(w:cV):D:=.tup [.tup (w.aj.map Rm.d),.tup (w.ai.map mS),.tup (w.ak.map mS),.tup (w.af.map fH)]
structure xD(gs:List (Str×Str))(ak ai:List Str)(h:List (Str×Nat)×List Rw):Prop where
 tv:∀p∈h.1,p.2<=9
 l1:h.1.length<=6
 l2:h.2.length<=9
 l0:0<h.2.length
 pr:Ag ⟨true,h.1.map (·.1)++ak,h.1.map (·.1)++ak,[],gs,ai⟩ h.2
structure dF(w:cV):Prop where
 nd:(w.aj.map (·.name)).Nodup
 l1:w.aj.length<=4
 l2:w.ai.length<=6
 l3:w.ak.length<=6
 l4:w.af.length<=4
 l0:0<w.af.length
 pv:∀p∈w.ai,p.2<=9
 sv:∀p∈w.ak,p.2<=9
 rm:∀r∈w.aj,Ba (bE w.aj) r
 hd:∀h∈w.af,xD (bE w.aj) (w.ak.map (·.1)) (w.ai.map (·.1)) h
def Fq(p:List (Str×Nat)×List Rw):cf 0 (fH p)=true:=by
 simp only[fH,cf,bT,Bool.and_true,Bool.true_and,QCq]
 exact⟨a8 λ_ _=>rfl,a8 λr _=>r.low⟩
def cV.low(w:cV):cf 0 w.d=true:=by
 simp only[cV.d,cf,bT,Bool.and_true,Bool.true_and,QCq]
 exact⟨a8 λr _=>r.low,a8 λ_ _=>rfl,a8 λ_ _=>rfl,a8 λp _=>Fq p⟩
def vN{rs:List Rm}(hd:∀r∈rs,r.ae.length<=6):(bE rs).length<=6*rs.length:=by
 induction rs with
 |nil=>simp[bE]
 | cons a l b=>
   have:=b λr c=>hd r (Qpq _ c)
   have:=hd a (QBq ..)
   simp only[bE,QSq,lQa,lQm,Qnq] at *
   omega
structure Fr(L:List Nat)(S S':aF):Prop where
 len:S.length<=S'.length
 keep:∀j o,j∉L->S[j]?=some o->S'[j]?=some o
def Fr.trans{L:List Nat}{S c S2:aF}(a:Fr L S c)(b:Fr L c S2):Fr L S S2:=⟨QAq a.len b.len,λj o h e=>b.keep j o h (a.keep j o h e)⟩
def Fr.mono{L M:List Nat}{S b:aF}(a:Fr L S b)(h:∀j∈L,j∈M):Fr M S b:=⟨a.len,λj o c e=>a.keep j o (λz=>c (h j z)) e⟩
def Fr.ex{k:Nat}{L:List Nat}{S b:aF}(a:Ex k S b)(d:k∈L):Fr L S b:=⟨a.len,λj o c e=>a.keep j o (λz=>c (z▸d)) e⟩
def Fr.set{L:List Nat}{S:aF}{r:Nat}{o:O}(h:r∈L):Fr L S (S.set r o):=⟨by simp,λj b a e=>gr (λz=>a (z▸h)) e⟩
def Fr.app{L:List Nat}{S G:aF}:Fr L S (S++G):=⟨by simp,λ_ _ _ e=>bu e⟩
def EK:cI:=(aE (aX 14 (a_ bR (cF (.int 1)) (aA az (ar (au 0) (ar (cF (.int 3)) av))))) (aE (aX 15 (bB (FN (aU (au 5)) (CD intOfD (ar (a_ (e_ false) (au 13) (cF (.int 0))) av))))) (aE (aX 16 (bB (bD [none,some 0,some 9,some 10,some 11,some 14,some 15] (ia (au 14)) (bF 0) bS (aA eJ (ar (au 1) (ar (aW (ar (au 2) (ar (au 3) (ar (au 4) av)))) (ar (aW (ar (au 0) (ar (au 5) av))) (ar (au 6) av)))))))) (sZ (As lR (au 12) (ar (aW (ar (a_ km (au 2) (a_ bR (cF (.int 8)) (au 13))) (ar (tupQ (dB (aU (au 16)))) av))) av))))))
def IZ:cI:=(aE (aX 9 (bB (vd (fX (vd (aU (au 2)) (jH (cF (.int 12))) jP)) jP (jH (aA az (ar (au 0) (ar (cF (.int 3)) av))))))) (aE (aX 10 (bB (vd (fX (vd (aU (au 2)) (jH (a_ km (bB (bo (ar (cF (.int 0)) (ar (cF (.int 16)) av)))) (aA az (ar (au 0) (ar (cF (.int 2)) av))))) jP)) jP (jH (a_ km (bB (bo (ar (cF (.int 1)) (ar (cF (.int 0)) (ar (cF (.int 1)) (ar (cF (.int 2)) av)))))) (aA az (ar (au 0) (ar (cF (.int 4)) av)))))))) (aE (aX 11 (a_ km (bB (bo (ar (cF (.str "at once")) (ar (cF (.str "when free")) av)))) (aA az (ar (au 0) (ar (cF (.int 2)) av))))) (aE (aX 12 (bB (bo av))) (aE (iu (ia (a_ km (au 4) (au 6))) (bF 13) EK) (aE (sZ (wM (au 8) (fX (bD [none,some 2,some 6] (jq (aU (au 12))) (bF 0) bS (aW (ar (a_ km (au 1) (au 2)) (ar (a_ km (au 0) (cF (.int 0))) av))))))) (aE (aX 17 (tupQ (fX (bD [none,some 0] (jq (aU (au 9))) (bF 0) bS (aW (ar (au 0) (ar (aA az (ar (au 1) (ar (cF (.int 3)) av))) av))))))) (aE (aX 18 (tupQ (fX (bD [none,some 0] (jq (aU (au 10))) (bF 0) bS (aW (ar (au 0) (ar (a_ km (bB (bo (ar (cF (.str "row")) (ar (cF (.str "turns")) av)))) (aA az (ar (au 1) (ar (cF (.int 2)) av)))) av))))))) (sZ (As lR (au 7) (ar (aW (ar (a_ km (au 2) (au 6)) (ar (au 11) (ar (au 17) (ar (au 18) (ar (tupQ (dB (aU (au 12)))) av)))))) av)))))))))))
def IQ:cI:=(aE (aX 22 (bB (vd (fX (vd (aU (au 2)) (jH (cF (.int 22))) jP)) jP (jH (aA az (ar (au 0) (ar (cF (.int 2)) av))))))) (aE (aX 14 (a_ bR (cF (.int 1)) (aA az (ar (au 0) (ar (au 1) av))))) (aE (aX 23 (bB (xp (aU (au 22)) (fX (bD [none,none] (jq (aU (au 20))) (iD (nG 2 (aK (bF 0) (aK (bF 1) df)))) bS (au 0)))))) (aE (aX 16 (bB (bD [none,some 0,some 8,some 14,some 19,some 23] (ia (au 14)) (bF 0) bS (aA eK (ar (au 1) (ar (au 5) (ar (bB (bD [none,none] (jq (aU (au 4))) (iD (nG 2 (aK (bF 0) (aK (bF 1) df)))) bS (au 0))) (ar (aW (ar (au 0) (ar (au 3) av))) (ar (au 2) av))))))))) (sZ (As lR (au 21) (ar (aW (ar (tupQ (fX (bD [none] (jq (aU (au 22))) (bF 0) bS (aW (ar (au 0) (ar (cF (.int 0)) av)))))) (ar (tupQ (dB (aU (au 16)))) av))) av)))))))
section
variable{S S0:aF}{k most lw many lz li kk lr le lt lb ld at_:Nat}{ws ths mf:List Str}{gs:List (Str×Str)}{mn:Str}{ds:List (Str×List Rw)}{a14 a15 a16 a17 a18 a19 a20 a21 a22 a23:Option D}
def G7{Q:Out->Prop}(x:Ex k S0 S)(hl:S0.length<=ld)(hk:k<S0.length)(n1:lw≠k)(n2:li≠k)(M:lt≠k)(n4:lb≠k)(n5:lw≠ld)(hW:S[lw]?=some (.lst (ws.map D.str)))(hI:S[li]?=some (.lst (gs.map cg)))(hT:S[lt]?=some (.lst (ths.map D.str)))(hB:S[lb]?=some (.lst (mf.map D.str)))(hD:S[ld]?=some (.lst (ds.map i0)))
  (a3:ws.length=24) (l1:ths.length<900) (l2:mf.length<900) (l3:gs.length<900) (l4:ds.length<900) (ha:at_<8)
  (h:∀(p:Str×List Rw) (j:aF) (P U K:Option D),ws[8+at_]?=some p.1->Ag ⟨false,ths++cX,ths,mf,gs,[]⟩ p.2->p.2.length<=12->j[ld]?=some (.lst ((ds++ [p]).map i0))->Ex k S0 j->Fr [k,ld] S j→
   Q (.nx [some (.ref k),some (.int most),some (.ref lw),some (.int many),some (.ref lz),some (.ref li),some (.int kk),some (.ref lr),some (.ref le),some (.ref lt),some (.ref lb),some (.str mn),some (.ref ld),some (.int at_),P,U,K,a17,a18,a19,a20,a21,a22,a23] j)):
  T EK [some (.ref k),some (.int most),some (.ref lw),some (.int many),some (.ref lz),some (.ref li),some (.int kk),some (.ref lr),some (.ref le),some (.ref lt),some (.ref lb),some (.str mn),some (.ref ld),some (.int at_),a14,a15,a16,a17,a18,a19,a20,a21,a22,a23] S Q:=by
 have y:Ex k S S:=by obtain⟨a,b,c,X⟩:=x.pot;exact Ex.refl X
 unfold EK
 symm
 refine bK x (by decide) (by decide) λv l hv e1 w _=> ?_
 refine iO ?_
 rw[show(1:Int)+(v:Int)=((1+v:Nat):Int) by omega]
 have C:=w.keep _ _ n2 hI
 refine aH (bO (dk (Lw (b_ (ax rfl (bP C (L6 (aw (bN (ax rfl (dM (dH (aL (t6 ?_))))))))))))))
 obtain⟨m,hm,L⟩:∃m:Nat,m<=1/\(D.int (if decide ((at_:Int)=0)=true then 1 else 0))=.int m:=by
  by_cases c:(at_:Int)=0
  ·exact⟨1,Qmq _,by rw[Qeq c];rfl⟩
  ·exact⟨0,by decide,by rw[Qdq c];rfl⟩
 refine⟨m,L,⟨rfl,C,by rw[lQm];have:gs.length*m<=gs.length*1:=Nat.mul_le_mul_left _ hm;omega,hm⟩,?_⟩
 obtain⟨f,J,B,I⟩:∃f:List (Str×Str),(List.replicate m (gs.map cg)).flatten=f.map cg/\(∀g∈f,g∈gs)/\f.length<900:=by
  rcases(by omega:m=0\/m=1) with rfl|rfl
  ·exact⟨[],rfl,λ_ h=>(nomatch h),by decide⟩
  ·exact⟨gs,by simp,λ_ h=>h,l3⟩
 rw[J]
 have a2:=e1.lt
 have N:Ex k S0 (l++ [O.lst (f.map cg)]):=e1.app
 have i:Ex k S (l++ [O.lst (f.map cg)]):=w.app
 have s:(l++ [O.lst (f.map cg)])[l.length]?=some (.lst (f.map cg)):=aZ
 have Z:l.length≠k:=by omega
 have lH:S.length<=l.length:=w.len
 generalize (l++ [O.lst (f.map cg)])=S2 at N i s⊢
 generalize l.length=lh at s Z lH⊢
 refine aH (bO (dk (gM (gV (ax rfl ⟨((1+v:Nat):Int),rfl,by omega,?_⟩)))))
 have y2:Ex k S2 S2:=by obtain⟨a,b,c,X⟩:=N.pot;exact Ex.refl X
 refine⟨λn u j A=>(∃o,u= [o,some (.ref k),some (.ref lt),some (.ref lb),some (.str mn),some (.int (1+v:Nat)),some (.ref lh)])/\∃e:List Rw,e.length=n/\(∀r∈e,r.Ok ⟨false,ths++cX,ths,mf,f,[]⟩ (1+v))/\A=e.map Rw.d/\Ex k S0 j/\Ex k S2 j,⟨⟨none,rfl⟩,[],rfl,λ_ h=>(nomatch h),rfl,N,y2⟩,λ_ _ _ _ _=>trivial,?_,?_⟩
 ·rintro n d u j A hd ⟨⟨o,rfl⟩,e,hn,hok,rfl,e3,e3'⟩
  obtain⟨rfl,hnv⟩:=c7 hd
  refine aV (fT ?_)
  rw[Qhq rfl]
  symm
  refine⟨by show 3<=_;decide,?_⟩
  symm
  refine⟨by show 2<=_;decide,?_⟩
  symm
  refine yQ e3 M n4 Z (e3'.keep _ _ M (i.keep _ _ M hT)) (e3'.keep _ _ n4 (i.keep _ _ n4 hB)) (e3'.keep _ _ Z s) l1 l2 I hnv (by omega) λr S4 Y e4 a1 _=> ?_
  refine⟨by rw[lQm];exact aM (by omega),⟨_,rfl⟩,e++ [r],by simp[hn],λz F=> ?_,by simp,e4,e3'.trans a1⟩
  rcases mQa.mp F with F|F
  ·exact hok z F
  ·rw[Qfq.mp F];exact Y
 rintro u H A ⟨-,e,hn,hok,rfl,e3,e3'⟩
 rw[dC] at hn
 have q:Ex k S H:=i.trans e3'
 have t:H[ld]?=some (.lst (ds.map i0)):=q.keep _ _ (by omega) hD
 have W:H[lw]?=some (.lst (ws.map D.str)):=q.keep _ _ n1 hW
 refine mN (xw (ax rfl ⟨_,_,rfl,bu t,?_⟩))
 refine aw (cm (aw (bN (ax rfl (bN (dM (ax rfl (iO ?_))))))))
 obtain⟨nm,G⟩:∃nm,ws[8+at_]?=some nm:=⟨_,gQe (by omega)⟩
 rw[show(8:Int)+(at_:Int)=((8+at_:Nat):Int) by omega]
 refine cN (bu W) (aR (by rw[gQm,G];rfl)) ?_
 refine aw (eX (eR (b_ (ax rfl (bP aZ ⟨rfl,aL ⟨by show 2<=_;decide,aL ⟨_,bu t,ka (aM (by rw[lQm];omega)) ?_⟩⟩⟩)))))
 have R:Fr [k,ld] S ((H++ [O.lst (e.map Rw.d)]).set ld (.lst (ds.map i0++ [i0 (nm,e)]))):=(Fr.ex q (by simp)).trans (Fr.app.trans (Fr.set (by simp)))
 refine h (nm,e) _ _ _ _ G (λr hr=> ?_) (by show e.length<=12;omega) (by rw[fV (bu t),Qzq];rfl) (e3.app.put hl hk) R
 have:=hok r hr
 rw[show 1+v=e.length from hn.symm] at this
 exact Rw.Ok.sub this B
end
end W28
namespace DL
open PySem PySem.Spec L2
def yj{α:Type}{o:cq}{S:aF}{js:List (Option Nat)}{f:dQ}{g:mB}{k:bp}{Q:List D->aF->Prop}(P:cq->Prop)(enc G:α->D)(C:P (nF js o)) (h:E f o S λp i=>∃xs:List α,p.1=xs.map enc/\p.2.stays i p.1/\xs.length<=1000∧
   (∀x∈xs,∀a,P a->Tg g (enc x) a i λb S2=>S2=i/\P b/\E k b i λy r=>y=G x/\r=i)/\Q (xs.map G) i):E (bD js (jq f) g bS k) o S Q:=by
 refine gM (k9 (h.mono λp i u=> ?_))
 obtain⟨xs,s,B,hl,A,q⟩:=u
 refine⟨λn a l c=>l=i/\c=(xs.take n).map G/\P a,⟨rfl,rfl,C⟩,λn a l c h=>by rw[h.1];exact B,λn d a l c m h=> ?_,λa l c h=> ?_⟩
 ·obtain⟨rfl,rfl,h3⟩:=h
  have m:p.1[n]?=some d:=m
  rw[s,gQm] at m
  obtain⟨x,j,rfl⟩:=oQm.mp m
  obtain⟨b,S2,v,rfl,h4,h5⟩:=A x (mQg j) a h3
  refine⟨b,S2,v,fT ?_⟩
  rw[Qhq rfl]
  refine h5.mono λy r z=> ?_
  obtain⟨t,w⟩:=z
  subst t w
  have F:=(gQs.mp j).1
  refine⟨?_,rfl,?_,h4⟩
  ·rw[lQm,Qxq]
   exact aM (by omega)
  ·rw[QYq,j]
   simp
 ·obtain⟨rfl,rfl,_⟩:=h
  have e:p.1.length=xs.length:=by rw[s,lQm]
  show Q ((xs.take p.1.length).map G) _
  rw[e,QEq]
  exact q
end DL
namespace W28
open PySem PySem.Spec L2 DL
def Fr.fresh{k r:Nat}{S d S2:aF}(a:Fr [k] S d)(b:Fr [k,r] d S2)(h:S.length<=r):Fr [k] S S2:=⟨QAq a.len b.len,λj o c e=>by
 have hl:=(gQs.mp e).1
 have f:j≠k:=by simpa using c
 exact b.keep j o (by simp;omega) (a.keep j o c e)⟩
noncomputable def oA(s:Nat):D:=.int s
section
variable{S S0:aF}{k most lw many lz li kk lr le:Nat}{ws:List Str}{szs:List Nat}{gs ev:List (Str×Str)}{rs:List Rm}{a9 a10 a11 a12 a13 a14 a15 a16 a17 a18 a19 a20 a21 a22 a23:Option D}
def HR{Q:Out->Prop}{sz:Nat}(x:Ex k S0 S)(hk:k<S0.length)(f0:S0.length<=lr)(f6:S0.length<=le)(d5:lr≠le)(n1:lw≠k)(n2:lz≠k)(n3:li≠k)(h8:lw≠lr)(h2:lw≠le)(P:S[lw]?=some (.lst (ws.map D.str)))(hZ:S[lz]?=some (.lst (szs.map oA)))(hI:S[li]?=some (.lst (gs.map cg)))
  (hR:S[lr]?=some (.lst (rs.map Rm.d))) (hE:S[le]?=some (.lst (ev.map cg))) (f5:ws.length=24) (hsz:szs[kk]?=some sz) (h4:sz<=2) (l3:gs.length<900) (l4:rs.length<900) (l5:ev.length<900) (h7:kk<4)
  (h:∀(r:Rm) (i:aF) (b9 g0 f9 c4 w l s g d7 e0:Option D),ws[kk]?=some r.name->r.ae.map (·.1)=(ws.drop 8).take sz->Ba gs r->i[lr]?=some (.lst ((rs++ [r]).map Rm.d))->i[le]?=some (.lst ((ev++r.ae.map λp=>(r.name,p.1)).map cg))->Ex k S0 i->Fr [k,lr,le] S i→
   Q (.nx [some (.ref k),some (.int most),some (.ref lw),some (.int many),some (.ref lz),some (.ref li),some (.int kk),some (.ref lr),some (.ref le),b9,g0,f9,c4,w,l,s,g,d7,e0,a19,a20,a21,a22,a23] i)):
  T IZ [some (.ref k),some (.int most),some (.ref lw),some (.int many),some (.ref lz),some (.ref li),some (.int kk),some (.ref lr),some (.ref le),a9,a10,a11,a12,a13,a14,a15,a16,a17,a18,a19,a20,a21,a22,a23] S Q:=by
 have y:Ex k S S:=by obtain⟨a,b,c,hh⟩:=x.pot;exact Ex.refl hh
 have kS:=x.lt
 have h9:=(gQs.mp hR).1
 have rB:=(gQs.mp hE).1
 have h1:=(gQs.mp P).1
 have h6:=(gQs.mp hZ).1
 have h0:=(gQs.mp hI).1
 unfold IZ
 refine aH (bO (dk (yN rfl P (dM ⟨12,rfl,by omega,P,bL (aw (ax rfl (aw (dM (aL ?_)))))⟩))))
 refine bK x (by decide) (by decide) λv1 U g5 e1 c3 _=>⟨v1,rfl,?_⟩
 obtain⟨ths,F⟩:∃ths:List Str,(ws.drop 12).take v1=ths:=⟨_,rfl⟩
 have i2:ths.length<=2:=by rw[←F,Qxq];omega
 rw[F]
 have e2:Ex k S0 (U++ [O.lst (ths.map D.str)]):=e1.app
 have W:Ex k S (U++ [O.lst (ths.map D.str)]):=c3.app
 have B:(U++ [O.lst (ths.map D.str)])[U.length]?=some (.lst (ths.map D.str)):=aZ
 have f2:S.length<=U.length:=c3.len
 generalize (U++ [O.lst (ths.map D.str)])=S2 at e2 W B⊢
 generalize U.length=lt at B f2⊢
 have nt:lt≠k:=by omega
 have g3:=(gQs.mp B).1
 have a5:=W.keep _ _ n1 P
 refine aH (bO (dk (yN rfl a5 ?_)))
 refine dS (n:=2) (xs:= [.int 0,.int 16]) rfl e2 (by decide) (by decide) rfl (by symm;exact⟨rfl,rfl⟩) λd S3 A e3 H _=> ?_
 obtain⟨b0,i1,rfl⟩:∃b0:Nat,b0<=16/\d=.int b0:=by
  simp only[Qsq,QXq,or_false] at A
  rcases A with rfl|rfl
  ·exact⟨0,by omega,rfl⟩
  ·exact⟨16,by omega,rfl⟩
 refine⟨b0,rfl,by omega,H.keep _ _ n1 a5,?_⟩
 refine dS (n:=4) (xs:= [.int 1,.int 0,.int 1,.int 2]) rfl e3 (by decide) (by decide) rfl (by symm;exact⟨rfl,rfl⟩) λd K A e4 c1 _=> ?_
 obtain⟨b1,j1,rfl⟩:∃b1:Nat,b1<=2/\d=.int b1:=by
  simp only[Qsq,QXq,or_false] at A
  rcases A with rfl|rfl|rfl|rfl
  ·exact⟨1,by omega,rfl⟩
  ·exact⟨0,by omega,rfl⟩
  ·exact⟨1,by omega,rfl⟩
  ·exact⟨2,by omega,rfl⟩
 refine⟨b1,rfl,?_⟩
 obtain⟨mf,G⟩:∃mf:List Str,(ws.drop b0).take b1=mf:=⟨_,rfl⟩
 have g4:mf.length<=2:=by rw[←G,Qxq];omega
 rw[G]
 have e5:Ex k S0 (K++ [O.lst (mf.map D.str)]):=e4.app
 have N:Ex k S2 (K++ [O.lst (mf.map D.str)]):=(H.trans c1).app
 have J:(K++ [O.lst (mf.map D.str)])[K.length]?=some (.lst (mf.map D.str)):=aZ
 have f8:S2.length<=K.length:=(H.trans c1).len
 generalize (K++ [O.lst (mf.map D.str)])=S5 at e5 N J⊢
 generalize K.length=lb at J f8⊢
 have nb:lb≠k:=by omega
 have f7:=N.keep _ _ nt B
 refine aH (bO (dS (n:=2) (xs:= [.str "at once",.str "when free"]) rfl e5 (by decide) (by decide) rfl (by symm;exact⟨rfl,rfl⟩) λd C A e6 R _=> ?_))
 obtain⟨mn,d6,rfl⟩:∃mn:Str,(mn="at once" \/mn="when free")/\d=.str mn:=by
  simp only[Qsq,QXq,or_false] at A
  rcases A with rfl|rfl
  ·exact⟨"at once",.inl rfl,rfl⟩
  ·exact⟨"when free",.inr rfl,rfl⟩
 refine aH (bO (dk (cP (aL ⟨by show 0<=_;decide,?_⟩))))
 have c2:Ex k S C:=(W.trans N).trans R
 have b7:=R.keep _ _ nb J
 have c0:=R.keep _ _ nt f7
 have d9:=(gQs.mp b7).1
 have d3:=(gQs.mp c0).1
 have d4:=c2.len
 have Y:Fr [k] S (C++ [O.lst []]):=(Fr.ex c2 (by simp)).trans Fr.app
 have e7:Ex k S0 (C++ [O.lst []]):=e6.app
 have b5:(C++ [O.lst []])[lb]?=some (.lst (mf.map D.str)):=bu b7
 have a2:(C++ [O.lst []])[lt]?=some (.lst (ths.map D.str)):=bu c0
 have I:(C++ [O.lst []])[C.length]?=some (.lst (([]:List (Str×List Rw)).map i0)):=aZ
 have i5:=x.len
 generalize (C++ [O.lst []])=S7 at Y e7 b5 a2 I⊢
 generalize C.length=ld at I d4 d9 d3⊢
 have kn:∀{j:Nat},j≠k->j∉[k]:=λh z=>h (Qfq.mp z)
 have g2:=Y.keep _ _ (kn n2) hZ
 refine aH (fU (gV (bN (ax rfl (ax rfl (cN g2 (aR (by rw[gQm,hsz];rfl)) ⟨(sz:Int),rfl,by omega,?_⟩))))))
 refine⟨λj o i=>(∃w l s g,o= [some (.ref k),some (.int most),some (.ref lw),some (.int many),some (.ref lz),some (.ref li),some (.int kk),some (.ref lr),some (.ref le),some (.ref lt),some (.ref lb),some (.str mn),some (.ref ld),w,l,s,g,a17,a18,a19,a20,a21,a22,a23])/\∃f:List (Str×List Rw),f.map (·.1)=(ws.drop 8).take j/\(∀p∈f,Ag ⟨false,ths++cX,ths,mf,gs,[]⟩ p.2/\p.2.length<=12)/\i[ld]?=some (.lst (f.map i0))/\i[lb]?=some (.lst (mf.map D.str))/\i[lt]?=some (.lst (ths.map D.str))/\Ex k S0 i/\Fr [k] S i,⟨⟨_,_,_,_,rfl⟩,[],rfl,λ_ h=>(nomatch h),I,b5,a2,e7,Y⟩,λ_ _ _ _=>trivial,?_,?_⟩
 ·rintro j d o i A ⟨⟨w,l,s,g,rfl⟩,f,hnm,hpr,hD,hB,hT,ex,fr⟩
  obtain⟨rfl,hj⟩:=c7 A
  have d1:f.length=j:=by
   have:=congrArg List.length hnm
   rw[lQm,Qxq,List.length_drop] at this
   omega
  refine aV ?_
  refine G7 (gs:=gs) (ths:=ths) (mf:=mf) ex (by omega) hk n1 n3 nt nb (by omega) (fr.keep _ _ (kn n1) P) (fr.keep _ _ (kn n3) hI) hT hB hD f5 (by omega) (by omega) l3 (by omega) (by omega) λp h3 l s g hp a3 d2 b2 a6 t=> ?_
  refine⟨⟨_,_,_,_,rfl⟩,f++ [p],?_,λq hq=> ?_,b2,t.keep _ _ (by simp;omega) hB,t.keep _ _ (by simp;omega) hT,a6,fr.fresh t (by omega)⟩
  ·rw[Qzq,hnm,QYq,List.getElem?_drop,hp]
   rfl
  ·rcases mQa.mp hq with hq|hq
   ·exact hpr q hq
   ·rw[Qfq.mp hq];exact⟨a3,d2⟩
 rintro o S8 ⟨⟨w,l,s,g,rfl⟩,f,hnm,hpr,hD,hB,hT,e8,fr8⟩
 rw[dC] at hnm
 have d1:f.length<=2:=by
  have:=congrArg List.length hnm
  rw[lQm,Qxq] at this
  omega
 obtain⟨nm,u⟩:∃nm,ws[kk]?=some nm:=⟨_,gQe (by omega)⟩
 have c5:=fr8.keep _ _ (kn n1) P
 have X:=fr8.keep _ _ (kn (by omega)) hE
 refine aH (mN (CS (ax rfl ⟨_,_,rfl,X,jF ?_⟩)))
 refine yj (α:=Str×List Rw) (λo=>∃a,o= [a,some (.ref lw),some (.int kk)]) i0 (λp=>cg (nm,p.1)) ⟨_,rfl⟩ ?_
 refine b_ (ax rfl (bP hD ?_))
 refine⟨f,rfl,hD,by omega,λp hp o c6=> ?_,?_⟩
 ·obtain⟨a,rfl⟩:=c6
  refine aV ⟨rfl,⟨_,rfl⟩,?_⟩
  refine cm (aw (bN (ax rfl (ax rfl (cN c5 (aR (by rw[gQm,u];rfl)) ?_)))))
  refine aw (bN (ax rfl (dM (aB rfl (aL ⟨by show 2<=_;decide,rfl,rfl⟩)))))
 have f3:ev.map cg++f.map (λp=>cg (nm,p.1))=(ev++f.map λp=>(nm,p.1)).map cg:=by rw[Qzq,QPq];rfl
 refine⟨_,X,⟨rfl,nQl (aM (by rw[lQm,lQm];omega))⟩,?_⟩
 show T _ _ (S8.set le (.lst (ev.map cg++f.map (λp=>cg (nm,p.1))))) _
 rw[f3]
 have e9:Ex k S0 (S8.set le (.lst ((ev++f.map λp=>(nm,p.1)).map cg))):=e8.put f6 hk
 have L:Fr [k,lr,le] S (S8.set le (.lst ((ev++f.map λp=>(nm,p.1)).map cg))):=(fr8.mono (by simp)).trans (Fr.set (by simp))
 have b4:=fV (o':=.lst ((ev++f.map λp=>(nm,p.1)).map cg)) X
 have a7:=gr (k:=le) (o':=.lst ((ev++f.map λp=>(nm,p.1)).map cg)) (show ld≠le by omega) hD
 have a1:=gr (k:=le) (o':=.lst ((ev++f.map λp=>(nm,p.1)).map cg)) (show lb≠le by omega) hB
 have M:=gr (k:=le) (o':=.lst ((ev++f.map λp=>(nm,p.1)).map cg)) (show lt≠le by omega) hT
 have b6:=gr (k:=le) (o':=.lst ((ev++f.map λp=>(nm,p.1)).map cg)) d5 (fr8.keep _ _ (kn (by omega)) hR)
 generalize (S8.set le (.lst ((ev++f.map λp=>(nm,p.1)).map cg)))=S9 at e9 L b4 a7 a1 M b6⊢
 have y9:Ex k S9 S9:=by obtain⟨a,b,c,hh⟩:=e9.pot;exact Ex.refl hh
 refine aH (bO (eX (jF (Em (m:=3) (·=ths) rfl (by decide) (by decide) (k9 (b_ (ax rfl (bP M ⟨ths,rfl,by omega,rfl,e9,y9,λi e=>e.keep _ _ nt M⟩)))) λts SA a4 f1 eA b8=> ?_))))
 refine aH (bO (eX (jF (LP eA rfl rfl (b8.keep _ _ nb a1) nb (by omega) λbs SB b3 d8 eB f4=> ?_))))
 have v:Ex k S9 SB:=b8.trans f4
 have Z:=v.keep _ _ (show lr≠k by omega) b6
 refine mN (xw (ax rfl ⟨_,_,rfl,Z,?_⟩))
 have g1:SB[lw]?=some (.lst (ws.map D.str)):=v.keep _ _ n1 (L.keep _ _ (by simp;omega) P)
 refine aw (cm (aw (bN (ax rfl (ax rfl (cN g1 (aR (by rw[gQm,u];rfl)) ?_))))))
 refine aw (ax rfl (aw (ax rfl (aw (ax rfl (aw (eX (eR (b_ (ax rfl (bP (v.keep _ _ (show ld≠k by omega) a7) ⟨rfl,?_⟩)))))))))))
 refine aL ⟨by show 5<=_;decide,aL ⟨_,Z,ka (aM (by rw[lQm];omega)) ?_⟩⟩
 have g9:ts.length<=2:=by have:=congrArg List.length a4;rw[lQm] at this;omega
 have h5:bs.length<=2:=by have:=congrArg List.length b3;rw[lQm] at this;omega
 refine h ⟨nm,mn,ts,bs,f⟩ _ _ _ _ _ _ _ _ _ _ _ u hnm ⟨d6,λp hp=>by have:=f1 p hp;omega,by show ts.length<=6;omega,by show bs.length<=6;omega,by show f.length<=6;omega,d8,λp hp=> ?_⟩ (by rw[fV Z,Qzq];rfl) (gr (by omega) (v.keep _ _ (show le≠k by omega) b4)) (eB.put f0 hk) ((L.trans (Fr.ex v (by simp))).trans (Fr.set (by simp)))
 have:=hpr p hp
 rw[←a4,←b3] at this
 exact this
end
def EX{e:cq}{S:aF}{v:Nat}{ps:List (Str×Nat)}{Q:List D->aF->Prop}(f:e[v]?=some (some (.tup (ps.map mS))))(hl:ps.length<=900)(h:Q ((ps.map (·.1)).map D.str) S):
  E (bD [none,none] (jq (aU (au v))) (iD (nG 2 (aK (bF 0) (aK (bF 1) df)))) bS (au 0)) e S Q:=by
 refine yj (α:=Str×Nat) (λc=>∃a b,c= [a,b]) mS (λp=>.str p.1) ⟨_,_,rfl⟩ ?_
 refine b_ (ax f (cv ⟨ps,rfl,trivial,by omega,λp g c d=> ?_,?_⟩))
 ·obtain⟨a,b,rfl⟩:=d
  refine eF rfl (aC (aV (aC (aV (bx ⟨rfl,⟨_,_,rfl⟩,ax rfl ⟨rfl,rfl⟩⟩)))))
 ·rw[QPq] at h
  exact h
section
variable{S S0:aF}{k most lw lh le:Nat}{ws:List Str}{ev:List (Str×Str)}{ps os:List (Str×Nat)}{hs:List (List (Str×Nat)×List Rw)}{a3 a4 a5 a6 a7 a9 a10 a11 a12 a13 a14 a15 a16 a17 a18 a22 a23:Option D}
def Hb{Q:Out->Prop}(x:Ex k S0 S)(hk:k<S0.length)(b1:S0.length<=lh)(n1:lw≠k)(Y:le≠k)(c2:lw≠lh)(hW:S[lw]?=some (.lst (ws.map D.str)))(hE:S[le]?=some (.lst (ev.map cg)))(hH:S[lh]?=some (.lst (hs.map fH)))
  (c0:ws.length=24) (l1:ps.length<=4) (l2:os.length<=4) (l3:ev.length<900) (l4:hs.length<900) (m1:1<=most) (m4:most<=4)
  (h:∀(p:List (Str×Nat)×List Rw) (l:aF) (a1 U W P:Option D),xD ev (os.map (·.1)) (ps.map (·.1)) p->l[lh]?=some (.lst ((hs++ [p]).map fH))->Ex k S0 l->Fr [k,lh] S l→
   Q (.nx [some (.ref k),some (.int most),some (.ref lw),a3,a4,a5,a6,a7,some (.ref le),a9,a10,a11,a12,a13,a1,a15,U,a17,a18,some (.tup (ps.map mS)),some (.tup (os.map mS)),some (.ref lh),W,P] l)):
  T IQ [some (.ref k),some (.int most),some (.ref lw),a3,a4,a5,a6,a7,some (.ref le),a9,a10,a11,a12,a13,a14,a15,a16,a17,a18,some (.tup (ps.map mS)),some (.tup (os.map mS)),some (.ref lh),a22,a23] S Q:=by
 have y:Ex k S S:=by obtain⟨a,b,c,L⟩:=x.pot;exact Ex.refl L
 have kS:=x.lt
 have b6:=(gQs.mp hW).1
 have rB:=(gQs.mp hE).1
 have b8:=(gQs.mp hH).1
 unfold IQ
 refine aH (bO (dk (yN rfl hW (dM ⟨22,rfl,by omega,hW,bL (aw (ax rfl (aw (dM (aL ?_)))))⟩))))
 refine bK x (by decide) (by decide) λv1 v b4 e1 N _=>⟨v1,rfl,?_⟩
 obtain⟨e,q⟩:∃e:List Str,(ws.drop 22).take v1=e:=⟨_,rfl⟩
 have c1:e.length<=1:=by rw[←q,Qxq];omega
 rw[q]
 have e2:Ex k S0 (v++ [O.lst (e.map D.str)]):=e1.app
 have M:Ex k S (v++ [O.lst (e.map D.str)]):=N.app
 have u:(v++ [O.lst (e.map D.str)])[v.length]?=some (.lst (e.map D.str)):=aZ
 have a2:S.length<=v.length:=N.len
 generalize (v++ [O.lst (e.map D.str)])=S2 at e2 M u⊢
 generalize v.length=lo at u a2⊢
 have no:lo≠k:=by omega
 refine aH (bO (bN (dM (bL (aw (ax rfl (aw (ax rfl (aL ?_)))))))))
 refine bK e2 (by omega) (by omega) λF m b7 e3 H _=> ?_
 refine iO ?_
 rw[show(1:Int)+(F:Int)=((1+F:Nat):Int) by omega]
 have t:=H.keep _ _ no u
 refine aH (bO (dk (E_ (b_ (ax rfl (bP t (jF (EX rfl (by omega) ⟨⟨rfl,rfl,t,nQl (aM (by simp;omega))⟩,?_⟩))))))))
 rw[←Qzq]
 obtain⟨f,j⟩:∃f:List Str,e++os.map (·.1)=f:=⟨_,rfl⟩
 have b9:f.length<=5:=by rw[←j,lQa,lQm];omega
 rw[j]
 have J:Ex k S m:=M.trans H
 have R:Ex k S0 (m++ [O.lst (f.map D.str)]):=e3.app
 have A:Ex k S (m++ [O.lst (f.map D.str)]):=J.app
 have K:(m++ [O.lst (f.map D.str)])[lo]?=some (.lst (e.map D.str)):=bu t
 have w:(m++ [O.lst (f.map D.str)])[m.length]?=some (.lst (f.map D.str)):=aZ
 have b3:S.length<=m.length:=J.len
 generalize (m++ [O.lst (f.map D.str)])=S4 at R A K w⊢
 generalize m.length=ln at w b3⊢
 have nn:ln≠k:=by omega
 have y4:Ex k S4 S4:=by obtain⟨a,b,c,L⟩:=R.pot;exact Ex.refl L
 have Z:=A.keep _ _ Y hE
 refine aH (bO (dk (gM (gV (ax rfl ⟨((1+F:Nat):Int),rfl,by omega,?_⟩)))))
 refine⟨λn g l B=>(∃o,g= [o,some (.ref k),some (.ref le),some (.int (1+F:Nat)),some (.tup (ps.map mS)),some (.ref ln)])/\∃i:List Rw,i.length=n/\(∀r∈i,r.Ok ⟨true,f,f,[],ev,ps.map (·.1)⟩ (1+F))/\B=i.map Rw.d/\Ex k S0 l/\Ex k S4 l,⟨⟨none,rfl⟩,[],rfl,λ_ h=>(nomatch h),rfl,R,y4⟩,λ_ _ _ _ _=>trivial,?_,?_⟩
 ·rintro n d g l B hd ⟨⟨o,rfl⟩,i,hn,hok,rfl,e5,e5'⟩
  obtain⟨rfl,hnv⟩:=c7 hd
  refine aV (fT ?_)
  rw[Qhq rfl]
  apply bL (aw (ax rfl (aw (ax rfl (aw (dk (EX rfl (by omega) ?_)))))))
  refine⟨by show 2<=_;decide,?_⟩
  symm
  have b5:=e5.lt
  refine zj e5.app nn (by omega) Y (bu (e5'.keep _ _ nn w)) aZ (bu (e5'.keep _ _ Y Z)) (by omega) (by rw[lQm];omega) l3 hnv (by omega) λr S6 b2 e6 b0 _=> ?_
  have y5:Ex k l l:=by obtain⟨a,b,c,L⟩:=e5.pot;exact Ex.refl L
  refine⟨by rw[lQm];exact aM (by omega),⟨_,rfl⟩,i++ [r],by simp[hn],λz C=> ?_,by simp,e6,e5'.trans (y5.app.trans b0)⟩
  rcases mQa.mp C with C|C
  ·exact hok z C
  ·rw[Qfq.mp C];exact b2
 rintro g S5 B ⟨-,i,hn,hok,rfl,e5,e5'⟩
 rw[dC] at hn
 have I:Ex k S S5:=A.trans e5'
 have s:S5[lh]?=some (.lst (hs.map fH)):=I.keep _ _ (by omega) hH
 have G:S5[lo]?=some (.lst (e.map D.str)):=e5'.keep _ _ no K
 refine mN (xw (ax rfl ⟨_,_,rfl,bu s,?_⟩))
 refine aw (cm (aw (eX (jF ?_))))
 refine yj (α:=Str) (λg=>∃a,g= [a]) D.str (λz=>mS (z,0)) ⟨_,rfl⟩ ?_
 refine b_ (ax rfl (bP (bu G) ⟨e,rfl,bu G,by omega,λz C g X=> ?_,?_⟩))
 ·obtain⟨a,rfl⟩:=X
  refine aV ⟨rfl,⟨_,rfl⟩,?_⟩
  refine cm (aw (ax rfl (aw (dM (aL ⟨by show 2<=_;decide,rfl,rfl⟩)))))
 refine aw (eX (eR (b_ (ax rfl (bP aZ ⟨rfl,aL ⟨by show 2<=_;decide,aL ⟨_,bu s,ka (aM (by rw[lQm];omega)) ?_⟩⟩⟩)))))
 have eo:(e.map λz=>((z,0):Str×Nat)).map (·.1)=e:=by rw[QPq];exact List.map_id e
 refine h (e.map λz=>(z,0),i) _ _ _ _ _ ⟨λp hp=> ?_,by show(e.map _).length<=6;rw[lQm];omega,by show i.length<=9;omega,by show 0<i.length;omega,λr hr=> ?_⟩ ?_ (e5.app.put b1 hk) ((Fr.ex I (by simp)).trans (Fr.app.trans (Fr.set (by simp))))
 ·obtain⟨z,_,rfl⟩:=Qkq.mp hp
  show 0<=9
  decide
 ·have:=hok r hr
  rw[show 1+F=i.length from hn.symm] at this
  show r.Ok ⟨true,(e.map λz=>((z,0):Str×Nat)).map (·.1)++os.map (·.1),(e.map λz=>((z,0):Str×Nat)).map (·.1)++os.map (·.1),[],ev,ps.map (·.1)⟩ i.length
  rw[eo,j]
  exact this
 ·rw[fV (bu s),Qzq]
  show some (O.lst (hs.map fH++ [.tup [.tup (e.map λz=>mS (z,0)),.tup (i.map Rw.d)]]))=some (O.lst (hs.map fH++ [.tup [.tup ((e.map λz=>(z,0)).map mS),.tup (i.map Rw.d)]]))
  rw[QPq]
  rfl
end
end W28
namespace DL
open PySem PySem.Spec L2
def JU{a:cq}{S:aF}{f g:bp}{Q:(List D×(aF->Prop))->aF->Prop}(h:E f a S λd b=>E g a b λc S2=>∃i j,d=.int i/\c=.int j/\(-(2^62)<=i/\i<2^62/\ -(2^62)<=j/\j<2^62)/\Q (iE i j,λ_=>True) S2):E (Il f g) a S Q:=by
 obtain⟨d,b,k,c,S2,e,i,j,rfl,rfl,hb,q⟩:=h
 exact⟨_,S2,by unfold Il;rw[k];simp only[Qbq];rw[e];simp only[Qbq];rw[Qhq hb],q⟩
def C9{j n:Nat}{d:D}(h:(iE 1 (j:Int))[n]?=some d):d=.int (1+n:Nat)/\1+n<j:=by
 simp only[iE,gQm] at h
 obtain⟨i,c,rfl⟩:=oQm.mp h
 obtain⟨b,a⟩:=gQs.mp c
 simp at b a
 subst a
 exact⟨by simp,by omega⟩
def Dw{j:Nat}:(iE 1 (j:Int)).length=j-1:=by simp only[iE,lQm,QVq];omega
end DL
namespace W28
open PySem PySem.Spec L2 DL
section
variable{S S0:aF}{k:Nat}{Q:Res->aF->Prop}
def DS{rs:List Rm}{i j:Nat}{r:Rm}{x:Str}(b:rs[i]?=some r)(a:(r.ae.map (·.1))[j]?=some x):(r.name,x)∈bE rs:=by
 rw[gQm] at a
 obtain⟨p,c,rfl⟩:=oQm.mp a
 exact QOq.mpr ⟨r,mQg b,Qkq.mpr ⟨p,mQg c,rfl⟩⟩
def yI{rs:List Rm}{r:Rm}:bE (rs++ [r])=bE rs++r.ae.map λp=>(r.name,p.1):=by
 unfold bE
 rw[List.flatMap_append]
 simp
def sj{rs:List Rm}{ws:List Str}(h:∀(i:Nat) (r:Rm),rs[i]?=some r->ws[i]?=some r.name):rs.map (·.name)=ws.take rs.length:=by
 apply List.ext_getElem?
 intro i
 rw[gQm,List.getElem?_take]
 cases a:rs[i]? with
 | none=>
   have:=List.getElem?_eq_none_iff.mp a
   rw[Quq (by omega)]
   rfl
 | some r=>
   have:=(gQs.mp a).1
   rw[Qhq this,h i r a]
   rfl
def vG{rs:List Rm}{ws:List Str}(nd:ws.Pairwise rB)(ok:∀z∈ws,Fh z)(h:∀(i:Nat) (r:Rm),rs[i]?=some r->ws[i]?=some r.name):(rs.map (·.name)).Pairwise rB/\∀x∈rs.map (·.name),PyData.strOk x=true:=by
 rw[sj h]
 exact⟨nd.sublist (List.take_sublist ..),λx a=>(ok x (List.mem_of_mem_take a)).ok⟩
def Gz(w:cV):Prop:=(w.aj.map (·.name)).Pairwise rB/\∀x∈w.aj.map (·.name),PyData.strOk x=true
def names_nodup{rs:List Rm}{ws:List Str}(nd:ws.Nodup)(h:∀(i:Nat) (r:Rm),rs[i]?=some r->ws[i]?=some r.name):(rs.map (·.name)).Nodup:=by
 rw[sj h]
 exact nd.sublist (List.take_sublist ..)
def E4{B:Nat}(x:Ex k S0 S)(m1:1<=B)(m4:B<=4)(h:∀(w:cV) (t:aF),dF w->Gz w->Ex k S0 t->Ex k S t->t.length=S.length->Q (.d w.d) t):Fn iJ [.ref k,.int B] S Q:=by
 have y:Ex k S S:=by obtain⟨a,b,c,hh⟩:=x.pot;exact Ex.refl hh
 have kl:=x.lt
 refine bQ ?_
 unfold k0
 symm
 show Fn eO [.ref k,.int ((24:Nat):Int)] S _
 refine zO y (by decide) λI S1 h8 h6 d7 g0 e1 k2 l1=> ?_
 dsimp only
 have e2:Ex k S (S1++ [O.lst (I.map D.str)]):=e1.app
 have b2:(S1++ [O.lst (I.map D.str)])[S1.length]?=some (.lst (I.map D.str)):=aZ
 have i5:S.length<=S1.length:=by omega
 generalize (S1++ [O.lst (I.map D.str)])=S2 at e2 b2⊢
 generalize S1.length=lw at b2 i5⊢
 have nw:lw≠k:=by omega
 refine aH (bO (dS (n:=6) (xs:= [.int 1,.int 2,.int 1,.int 2,.int 3,.int 0]) rfl e2 (by decide) (by decide) rfl (by symm;exact⟨rfl,rfl⟩) λd S3 F e3 f2 _=> ?_))
 obtain⟨A,f4,rfl⟩:∃n:Nat,n<=3/\d=.int n:=by
  simp only[Qsq,QXq,or_false] at F
  rcases F with rfl|rfl|rfl|rfl|rfl|rfl
  ·exact⟨1,by omega,rfl⟩
  ·exact⟨2,by omega,rfl⟩
  ·exact⟨1,by omega,rfl⟩
  ·exact⟨2,by omega,rfl⟩
  ·exact⟨3,by omega,rfl⟩
  ·exact⟨0,by omega,rfl⟩
 have f8:=f2.keep _ _ nw b2
 refine aH (bO (dk (gM (gV (ax rfl ⟨(A:Int),rfl,by omega,?_⟩)))))
 refine⟨λn f t Z=>(∃o,f= [o,some (.ref k)])/\∃e:List Nat,e.length=n/\(∀s∈e,s<=2)/\Z=e.map oA/\Ex k S t/\Ex k S3 t,⟨⟨none,rfl⟩,[],rfl,λ_ h=>(nomatch h),rfl,e3,by obtain⟨a,b,c,hh⟩:=e3.pot;exact Ex.refl hh⟩,λ_ _ _ _ _=>trivial,?_,?_⟩
 ·rintro n d f t Z F ⟨⟨o,rfl⟩,e,hn,h2,rfl,e4,e4'⟩
  obtain⟨rfl,a4⟩:=c7 F
  refine aV (fT ?_)
  rw[Qhq rfl]
  symm
  refine bK e4 (by decide) (by decide) λv S5 hv e5 f7 _=> ?_
  refine iO ?_
  rw[show(1:Int)+(v:Int)=((1+v:Nat):Int) by omega]
  refine⟨by rw[lQm];exact aM (by omega),⟨_,rfl⟩,e++ [1+v],by simp[hn],λs L=> ?_,by simp[oA],e5,e4'.trans f7⟩
  rcases mQa.mp L with L|L
  ·exact h2 s L
  ·rw[Qfq.mp L];omega
 rintro f S4 Z ⟨-,e,hszl,hsz2,rfl,e4,e4'⟩
 rw[dC] at hszl
 have d6:=e4'.keep _ _ nw f8
 have d8:=(gQs.mp d6).1
 refine aH (bO (dk (cP (aL ⟨by show 0<=_;decide,?_⟩))))
 have e5:Ex k S (S4++ [O.lst (e.map oA)]++ [O.lst []]):=e4.app.app
 have d1:(S4++ [O.lst (e.map oA)]++ [O.lst []])[lw]?=some (.lst (I.map D.str)):=bu (bu d6)
 have b5:(S4++ [O.lst (e.map oA)]++ [O.lst []])[S4.length]?=some (.lst (e.map oA)):=bu aZ
 have b0:(S4++ [O.lst (e.map oA)]++ [O.lst []])[S4.length+1]?=some (.lst (([]:List (Str×Str)).map cg)):=by have:=aZ (S:=S4++ [O.lst (e.map oA)]) (o:=O.lst []);simpa using this
 have h7:=e4.lt
 have i1:=e4.len
 show T _ [some (.ref k),some (.int B),some (.ref lw),some (.int A),some (.ref S4.length),some (.ref (S4++ [O.lst (e.map oA)]).length),none,none,none,none,none,none,none,none,none,none,none,none,none,none,none,none,none,none] _ _
 rw[show(S4++ [O.lst (e.map oA)]).length=S4.length+1 by simp]
 generalize (S4++ [O.lst (e.map oA)]++ [O.lst []])=S5 at e5 d1 b5 b0⊢
 generalize S4.length=lz at b5 b0 h7 d8 i1⊢
 refine aH (fU (gV (ax rfl ⟨(A:Int),rfl,by omega,?_⟩)))
 refine⟨λj f t=>(∃b6,f= [some (.ref k),some (.int B),some (.ref lw),some (.int A),some (.ref lz),some (.ref (lz+1)),b6,none,none,none,none,none,none,none,none,none,none,none,none,none,none,none,none,none])/\∃gs:List (Str×Str),gs.length<=j/\(∀g∈gs,∃i G a,i<j/\e[i]?=some G/\a<G/\I[i]?=some g.1/\I[8+a]?=some g.2)/\t[lw]?=some (.lst (I.map D.str))/\t[lz]?=some (.lst (e.map oA))/\t[lz+1]?=some (.lst (gs.map cg))/\Ex k S t,⟨⟨_,rfl⟩,[],by simp,λ_ h=>(nomatch h),d1,b5,b0,e5⟩,λ_ _ _ _=>trivial,?_,?_⟩
 ·rintro j d f t F ⟨⟨b6,rfl⟩,gs,hgl,hgs,hW,hZ,hI,ex⟩
  obtain⟨rfl,hj⟩:=c7 F
  obtain⟨G,Y⟩:∃G,e[j]?=some G:=⟨_,gQe (by omega)⟩
  have d2:=hsz2 G (mQg Y)
  obtain⟨nm,a4⟩:∃nm,I[j]?=some nm:=⟨_,gQe (by omega)⟩
  refine aV ?_
  refine mN (CS (ax rfl ⟨_,_,rfl,hI,jF (gM (JU (dM (bN (ax rfl (ax rfl (cN hZ (aR (by rw[gQm,Y];rfl)) ⟨1,(G:Int),rfl,rfl,by omega,?_⟩)))))))⟩))
  refine⟨λn f a2 Z=>(∃o,f= [o,some (.ref lw),some (.int j)])/\a2=t/\∃fs:List (Str×Str),fs.length=n/\(∀g∈fs,g.1=nm/\∃a,a<G/\I[8+a]?=some g.2)/\Z=fs.map cg,⟨⟨none,rfl⟩,rfl,[],rfl,λ_ h=>(nomatch h),rfl⟩,λ_ _ _ _ _=>trivial,?_,?_⟩
  ·rintro n d f a2 Z F ⟨⟨o,rfl⟩,rfl,fs,hfl,hfs,rfl⟩
   obtain⟨rfl,hn⟩:=C9 F
   obtain⟨n8,c1⟩:∃n8,I[8+(1+n)]?=some n8:=⟨_,gQe (by omega)⟩
   refine aV (fT ?_)
   rw[Qhq rfl]
   refine cm (aw (bN (ax rfl (ax rfl (cN hW (aR (by rw[gQm,a4];rfl)) ?_)))))
   refine aw (bN (ax rfl (bN (dM (ax rfl (iO ?_))))))
   rw[show(8:Int)+((1+n:Nat):Int)=((8+(1+n):Nat):Int) by omega]
   refine cN hW (aR (by rw[gQm,c1];rfl)) ?_
   refine aL ⟨by show 2<=_;decide,by rw[lQm];exact aM (by omega),⟨_,rfl⟩,rfl,fs++ [(nm,n8)],by simp[hfl],λg hg=> ?_,by simp[cg]⟩
   rcases mQa.mp hg with hg|hg
   ·exact hfs g hg
   ·rw[Qfq.mp hg];exact⟨rfl,1+n,hn,c1⟩
  rintro f a2 Z ⟨-,rfl,fs,hfl,hfs,rfl⟩
  rw[Dw] at hfl
  refine⟨_,hI,⟨rfl,nQl (aM (by rw[lQm,lQm];omega))⟩,⟨_,rfl⟩,gs++fs,by rw[lQa];omega,λg hg=> ?_,gr (by omega) hW,gr (by omega) hZ,by rw[fV hI,Qzq],ex.put (by omega) kl⟩
  rcases mQa.mp hg with hg|hg
  ·obtain⟨i,G,a,h1,h2,h3,h4⟩:=hgs g hg
   exact⟨i,G,a,by omega,h2,h3,h4⟩
  ·obtain⟨h1,a,h2,h3⟩:=hfs g hg
   exact⟨j,G,a,by omega,Y,h2,by rw[h1];exact a4,h3⟩
 rintro f X ⟨⟨b6,rfl⟩,gs,hgl,hgs,hW6,hZ6,hI6,e6⟩
 rw[dC] at hgl hgs
 have i2:=(gQs.mp hI6).1
 refine aH (EI (aw (dk (cP (aL ⟨by show 0<=_;decide,aw (dk (cP (aL ⟨by show 0<=_;decide,aL ⟨_,_,rfl,?_⟩⟩)))⟩)))))
 have e7:Ex k S (X++ [O.lst []]++ [O.lst []]):=e6.app.app
 have c5:(X++ [O.lst []]++ [O.lst []])[lw]?=some (.lst (I.map D.str)):=bu (bu hW6)
 have f0:(X++ [O.lst []]++ [O.lst []])[lz]?=some (.lst (e.map oA)):=bu (bu hZ6)
 have d3:(X++ [O.lst []]++ [O.lst []])[lz+1]?=some (.lst (gs.map cg)):=bu (bu hI6)
 have b3:(X++ [O.lst []]++ [O.lst []])[X.length]?=some (.lst (([]:List Rm).map Rm.d)):=bu aZ
 have b7:(X++ [O.lst []]++ [O.lst []])[X.length+1]?=some (.lst ((bE []).map cg)):=by have:=aZ (S:=X++ [O.lst []]) (o:=O.lst []);rw[show(X++ [O.lst []]).length=X.length+1 by simp] at this;exact this
 show T _ [some (.ref k),some (.int B),some (.ref lw),some (.int A),some (.ref lz),some (.ref (lz+1)),b6,some (.ref X.length),some (.ref (X++ [O.lst []]).length),none,none,none,none,none,none,none,none,none,none,none,none,none,none,none] _ _
 rw[show(X++ [O.lst []]).length=X.length+1 by simp]
 have f6:=e6.len
 generalize (X++ [O.lst []]++ [O.lst []])=S7 at e7 c5 f0 d3 b3 b7⊢
 generalize X.length=lr at b3 b7 i2 f6⊢
 refine aH (fU (gV (ax rfl ⟨(A:Int),rfl,by omega,?_⟩)))
 refine⟨λj f t=>(∃b6 b9 U R K W J P H M N,f= [some (.ref k),some (.int B),some (.ref lw),some (.int A),some (.ref lz),some (.ref (lz+1)),b6,some (.ref lr),some (.ref (lr+1)),b9,U,R,K,W,J,P,H,M,N,none,none,none,none,none])/\∃u:List Rm,u.length=j/\(∀(i:Nat) (r:Rm),u[i]?=some r->I[i]?=some r.name/\Ba gs r/\∃G,e[i]?=some G/\r.ae.map (·.1)=(I.drop 8).take G)/\t[lr]?=some (.lst (u.map Rm.d))/\t[lr+1]?=some (.lst ((bE u).map cg))/\t[lw]?=some (.lst (I.map D.str))/\t[lz]?=some (.lst (e.map oA))/\t[lz+1]?=some (.lst (gs.map cg))/\Ex k S t,⟨⟨_,_,_,_,_,_,_,_,_,_,_,rfl⟩,[],rfl,λi r hr=>by simp at hr,b3,b7,c5,f0,d3,e7⟩,λ_ _ _ _=>trivial,?_,?_⟩
 ·rintro j d f t F ⟨⟨b6,b9,U,R,K,W,J,P,H,M,N,rfl⟩,u,hrl,hrs,hR,hE,hW,hZ,hI,ex⟩
  obtain⟨rfl,hj⟩:=c7 F
  obtain⟨G,Y⟩:∃G,e[j]?=some G:=⟨_,gQe (by omega)⟩
  have d2:=hsz2 G (mQg Y)
  have f9:(bE u).length<=6*u.length:=vN λr hr=>by
   obtain⟨i,hi⟩:=List.getElem?_of_mem hr
   exact(hrs i r hi).2.1.l3
  refine aV ?_
  refine HR (gs:=gs) ex kl (by omega) (by omega) (by omega) nw (by omega) (by omega) (by omega) (by omega) hW hZ hI hR hE d7 Y d2 (by omega) (by omega) (by omega) (by omega) λr a2 b9 U R K W J P H M N a4 h9 b4 c2 f1 a3 C=> ?_
  refine⟨⟨_,_,_,_,_,_,_,_,_,_,_,rfl⟩,u++ [r],by simp[hrl],λi r' a1=> ?_,c2,by rw[yI];exact f1,C.keep _ _ (by simp;omega) hW,C.keep _ _ (by simp;omega) hZ,C.keep _ _ (by simp;omega) hI,a3⟩
  by_cases c:i<u.length
  ·rw[QHq c] at a1
   exact hrs i r' a1
  ·rw[QQq (by omega)] at a1
   have hi:i-u.length=0:=by
    have:=(gQs.mp a1).1
    simp at this
    omega
   rw[hi] at a1
   cases a1
   have:i=u.length:=by omega
   rw[this,hrl]
   exact⟨a4,b4,G,Y,h9⟩
 rintro f S8 ⟨⟨b6,b9,U,R,K,W,J,P,H,M,N,rfl⟩,u,hrl,hrs,hR8,hE8,hW8,hZ8,hI8,e8⟩
 rw[dC] at hrl
 have f9:(bE u).length<=6*u.length:=vN λr hr=>by
  obtain⟨i,hi⟩:=List.getElem?_of_mem hr
  exact(hrs i r hi).2.1.l3
 have y8:Ex k S8 S8:=by obtain⟨a,b,c,hh⟩:=e8.pot;exact Ex.refl hh
 refine aH (bO (eX (jF (Em (S0:=S) (m:=2) (λl=>l.length<=2) rfl (by decide) (by decide) (k9 (jF (yN rfl hW8 (dM ⟨4,rfl,by omega,hW8,dS (n:=4) (xs:= [.int 0,.int 1,.int 2,.int 1]) rfl e8 (by decide) (by decide) rfl (by symm;exact⟨rfl,rfl⟩) λd S9 F e9 b8 _=> ?_⟩)))) λps SA j1 g5 eA e0=> ?_))))
 ·obtain⟨n,hn,rfl⟩:∃n:Nat,n<=2/\d=.int n:=by
   simp only[Qsq,QXq,or_false] at F
   rcases F with rfl|rfl|rfl|rfl
   ·exact⟨0,by omega,rfl⟩
   ·exact⟨1,by omega,rfl⟩
   ·exact⟨2,by omega,rfl⟩
   ·exact⟨1,by omega,rfl⟩
  exact⟨n,rfl,(I.drop 4).take n,by rw[Qxq];omega,by rw[Qxq];omega,rfl,e9,b8,λ_ _=>trivial⟩
 rw[lQm] at j1
 have d5:=e0.keep _ _ nw hW8
 refine aH (bO (eX (jF (Em (S0:=S) (m:=2) (λl=>l.length<=1) rfl (by decide) (by decide) (k9 (jF (yN rfl d5 (dM ⟨20,rfl,by omega,d5,dS (n:=3) (xs:= [.int 0,.int 0,.int 1]) rfl eA (by decide) (by decide) rfl (by symm;exact⟨rfl,rfl⟩) λd S9 F e9 b8 _=> ?_⟩)))) λos SB g9 h0 eB g4=> ?_))))
 ·obtain⟨n,hn,rfl⟩:∃n:Nat,n<=1/\d=.int n:=by
   simp only[Qsq,QXq,or_false] at F
   rcases F with rfl|rfl|rfl
   ·exact⟨0,by omega,rfl⟩
   ·exact⟨0,by omega,rfl⟩
   ·exact⟨1,by omega,rfl⟩
  exact⟨n,rfl,(I.drop 20).take n,by rw[Qxq];omega,by rw[Qxq];omega,rfl,e9,b8,λ_ _=>trivial⟩
 rw[lQm] at g9
 have a6:Ex k S8 SB:=e0.trans g4
 refine aH (bO (dk (cP (aL ⟨by show 0<=_;decide,?_⟩))))
 have f3:=a6.len
 have k1:=(gQs.mp hE8).1
 have eC:Ex k S (SB++ [O.lst []]):=eB.app
 have d9:(SB++ [O.lst []])[lw]?=some (.lst (I.map D.str)):=bu (a6.keep _ _ nw hW8)
 have c3:(SB++ [O.lst []])[lr+1]?=some (.lst ((bE u).map cg)):=bu (a6.keep _ _ (by omega) hE8)
 have d4:(SB++ [O.lst []])[lr]?=some (.lst (u.map Rm.d)):=bu (a6.keep _ _ (by omega) hR8)
 have b1:(SB++ [O.lst []])[SB.length]?=some (.lst (([]:List (List (Str×Nat)×List Rw)).map fH)):=aZ
 generalize (SB++ [O.lst []])=SC at eC d9 c3 d4 b1⊢
 generalize SB.length=lh at b1 f3⊢
 refine aH (fU (gV (dS (n:=6) (xs:= [.int 2,.int 2,.int 3,.int 1,.int 2,.int 4]) rfl eC (by decide) (by decide) rfl (by symm;exact⟨rfl,rfl⟩) λd SD F eD a9 _=> ?_)))
 obtain⟨nh,j5,j4,rfl⟩:∃n:Nat,1<=n/\n<=4/\d=.int n:=by
  simp only[Qsq,QXq,or_false] at F
  rcases F with rfl|rfl|rfl|rfl|rfl|rfl
  ·exact⟨2,by omega,by omega,rfl⟩
  ·exact⟨2,by omega,by omega,rfl⟩
  ·exact⟨3,by omega,by omega,rfl⟩
  ·exact⟨1,by omega,by omega,rfl⟩
  ·exact⟨2,by omega,by omega,rfl⟩
  ·exact⟨4,by omega,by omega,rfl⟩
 refine⟨(nh:Int),rfl,by omega,?_⟩
 refine⟨λj f t=>(∃b6 b9 U R K W J P H M N a7 a5,f= [some (.ref k),some (.int B),some (.ref lw),some (.int A),some (.ref lz),some (.ref (lz+1)),b6,some (.ref lr),some (.ref (lr+1)),b9,U,R,K,W,J,P,H,M,N,some (.tup (ps.map mS)),some (.tup (os.map mS)),some (.ref lh),a7,a5])/\∃L:List (List (Str×Nat)×List Rw),L.length=j/\(∀p∈L,xD (bE u) (os.map (·.1)) (ps.map (·.1)) p)/\t[lh]?=some (.lst (L.map fH))/\t[lr]?=some (.lst (u.map Rm.d))/\t[lr+1]?=some (.lst ((bE u).map cg))/\t[lw]?=some (.lst (I.map D.str))/\Ex k S t,⟨⟨_,_,_,_,_,_,_,_,_,_,_,_,_,rfl⟩,[],rfl,λ_ h=>(nomatch h),a9.keep _ _ (by omega) b1,a9.keep _ _ (by omega) d4,a9.keep _ _ (by omega) c3,a9.keep _ _ nw d9,eD⟩,λ_ _ _ _=>trivial,?_,?_⟩
 ·rintro j d f t F ⟨⟨b6,b9,U,R,K,W,J,P,H,M,N,a7,a5,rfl⟩,L,hhl,hhs,hH,hR,hE,hW,ex⟩
  obtain⟨rfl,hj⟩:=c7 F
  refine aV ?_
  refine Hb ex kl (by omega) nw (by omega) (by omega) hW hE hH d7 (by omega) (by omega) (by omega) (by omega) m1 m4 λp a2 J H a7 a5 b4 c0 a3 C=> ?_
  refine⟨⟨_,_,_,_,_,_,_,_,_,_,_,_,_,rfl⟩,L++ [p],by simp[hhl],λq hq=> ?_,c0,C.keep _ _ (by simp;omega) hR,C.keep _ _ (by simp;omega) hE,C.keep _ _ (by simp;omega) hW,a3⟩
  rcases mQa.mp hq with hq|hq
  ·exact hhs q hq
  ·rw[Qfq.mp hq];exact b4
 rintro f SE ⟨⟨b6,b9,U,R,K,W,J,P,H,M,N,a7,a5,rfl⟩,L,hhl,hhs,hH,hR,hE,hW,eE⟩
 rw[dC] at hhl
 have f5:∀g∈gs,g∈bE u:=λg hg=>by
  obtain⟨i,G,a,h1,h2,h3,h4,h5⟩:=hgs g hg
  have c4:=gQe (l:=u) (i:=i) (by omega)
  obtain⟨g1,_,j7,g2,g3⟩:=hrs i _ c4
  rw[h2] at g2
  cases g2
  have:(u[i].name,g.2)∈bE u:=DS (j:=a) c4 (by rw[g3,List.getElem?_take,Qhq h3,List.getElem?_drop];exact h5)
  rw[h4] at g1
  rw[←QdQ g1] at this
  exact this
 have c6:dF ⟨u,ps,os,L⟩:=by
  refine⟨names_nodup h8 λi r hr=>(hrs i r hr).1,by show u.length<=4;omega,by show ps.length<=6;omega,by show os.length<=6;omega,by show L.length<=4;omega,by show 0<L.length;omega,λp hp=>by have:=g5 p hp;omega,λp hp=>by have:=h0 p hp;omega,λr hr=> ?_,hhs⟩
  obtain⟨i,hi⟩:=List.getElem?_of_mem hr
  exact(hrs i r hi).2.1.sub f5
 refine cZ (cm (aw (eX (eR (b_ (ax rfl (bP hR ⟨rfl,?_⟩)))))))
 refine aw (ax rfl (aw (ax rfl (aw (eX (eR (b_ (ax rfl (bP hH ⟨rfl,?_⟩)))))))))
 refine aL ⟨by show 4<=_;decide,?_⟩
 refine uD eE kl (λk z=>(nomatch z)) (fe (cV.low ⟨u,ps,os,L⟩)) λa b c=> ?_
 exact h ⟨u,ps,os,L⟩ _ c6 (vG h6 g0 λi r hr=>(hrs i r hr).1) x.set y.set (by simp)
end
end W28
namespace DL
open PySem PySem.Spec L2
def Jd{k:cq}{S:aF}{js:List (Option Nat)}{f:dQ}{g:mB}{i:bp}{Q:List D->aF->Prop}(P:cq->Prop)(F:D->D)(x:P (nF js k)) (h:E f k S λp e=>p.2.stays e p.1/\p.1.length<=1000∧
   (∀d∈p.1,∀a,P a->Tg g d a e λb S2=>S2=e/\P b/\E i b e λy m=>y=F d/\m=e)/\Q (p.1.map F) e):E (bD js (jq f) g bS i) k S Q:=by
 refine gM (k9 (h.mono λp e r=> ?_))
 obtain⟨w,hl,v,q⟩:=r
 refine⟨λn a j c=>j=e/\c=(p.1.take n).map F/\P a,⟨rfl,rfl,x⟩,λn a j c h=>by rw[h.1];exact w,λn d a j c l h=> ?_,λa j c h=> ?_⟩
 ·obtain⟨rfl,rfl,h3⟩:=h
  obtain⟨b,S2,s,rfl,h4,h5⟩:=v d (mQg l) a h3
  refine⟨b,S2,s,fT ?_⟩
  rw[Qhq rfl]
  refine h5.mono λy m u=> ?_
  obtain⟨o,t⟩:=u
  subst o t
  have z:=(gQs.mp l).1
  refine⟨?_,rfl,?_,h4⟩
  ·rw[lQm,Qxq]
   exact aM (by omega)
  ·rw[QYq,l]
   simp
 ·obtain⟨rfl,rfl,_⟩:=h
  rw[QEq]
  exact q
def tU{α:Type}{o:cq}{S:aF}{js:List (Option Nat)}{f:dQ}{g:mB}{k:bp}{Q:List D->aF->Prop}(P:cq->Prop)(enc G:α->D)(C:P (nF js o)) (h:E f o S λp i=>∃xs:List α,p.1=xs.map enc/\p.2.stays i p.1/\xs.length<=1000∧
   (∀x∈xs,∀a,P a->Tg g (enc x) a i λb S2=>S2=i/\P b/\E k b i λy r=>y=G x/\r=i)/\Q (xs.map G) i):E (bD js (jq f) g bS k) o S Q:=by
 refine gM (k9 (h.mono λp i u=> ?_))
 obtain⟨xs,s,B,hl,A,q⟩:=u
 refine⟨λn a l c=>l=i/\c=(xs.take n).map G/\P a,⟨rfl,rfl,C⟩,λn a l c h=>by rw[h.1];exact B,λn d a l c m h=> ?_,λa l c h=> ?_⟩
 ·obtain⟨rfl,rfl,h3⟩:=h
  have m:p.1[n]?=some d:=m
  rw[s,gQm] at m
  obtain⟨x,j,rfl⟩:=oQm.mp m
  obtain⟨b,S2,v,rfl,h4,h5⟩:=A x (mQg j) a h3
  refine⟨b,S2,v,fT ?_⟩
  rw[Qhq rfl]
  refine h5.mono λy r z=> ?_
  obtain⟨t,w⟩:=z
  subst t w
  have F:=(gQs.mp j).1
  refine⟨?_,rfl,?_,h4⟩
  ·rw[lQm,Qxq]
   exact aM (by omega)
  ·rw[QYq,j]
   simp
 ·obtain⟨rfl,rfl,_⟩:=h
  have e:p.1.length=xs.length:=by rw[s,lQm]
  show Q ((xs.take p.1.length).map G) _
  rw[e,QEq]
  exact q
def cE{S:aF}{d:D}{Q:Res->aF->Prop}(hd:∀k,d≠.ref k)(hl:cf 0 d=true)(q:Q (.d d) S):Op (settle S d S) λp=>Q p.1 p.2:=hJ ue (QEq) hd (fe hl) q
def ET{S:aF}{ds:List D}{Q:Res->aF->Prop}(hl:bT 0 ds=true)(q:Q (.l ds) S):Op (fm S ds S) λp=>Q p.1 p.2:=nX ue (QEq) (ju hl) q
end DL
namespace W28
open PySem PySem.Spec L2 DL
structure cH where
 room:Int
 deed:Int
 row:Int
 given:Int
 told:Int
structure c_ where
 vals:List Int
 within:Int
 row:List Int
 ag:List Int
 aa:List (List (Int×Int))
structure bz where
 aj:List c_
 ai:List (Int×List Int)
 ak:List Int
 af:List (List Int×List cH)
noncomputable def cO(l:List Int):D:=.tup (l.map D.int)
noncomputable def cH.d(f:cH):D:=.tup [.int f.room,.int f.deed,.int f.row,.int f.given,.int f.told]
noncomputable def pairD(p:Int×Int):D:=.tup [.int p.1,.int p.2]
noncomputable def eL(l:List (Int×Int)):D:=.tup (l.map pairD)
noncomputable def c_.d(r:c_):D:=.tup [cO r.vals,.int r.within,cO r.row,cO r.ag,.tup (r.aa.map eL)]
noncomputable def Ci(p:Int×List Int):D:=.tup [.int p.1,cO p.2]
noncomputable def CP(h:List Int×List cH):D:=.tup [cO h.1,.tup (h.2.map cH.d)]
noncomputable def bz.d(s:bz):D:=.tup [.tup (s.aj.map c_.d),.tup (s.ai.map Ci),cO s.ak,.tup (s.af.map CP)]
def lK(l:List Int):cf 0 (cO l)=true:=by simp only[cO,cf];exact a8 λ_ _=>rfl
def sT(l:List (Int×Int)):cf 0 (eL l)=true:=by simp only[eL,cf];exact a8 λ_ _=>rfl
def c_.low(r:c_):cf 0 r.d=true:=by
 simp only[c_.d,cf,bT,lK,Bool.and_true,Bool.true_and]
 exact a8 λl _=>sT l
def AL(p:Int×List Int):cf 0 (Ci p)=true:=by simp only[Ci,cf,bT,lK,Bool.and_true]
def BJ(h:List Int×List cH):cf 0 (CP h)=true:=by
 simp only[CP,cf,bT,lK,Bool.and_true,Bool.true_and]
 exact a8 λ_ _=>rfl
def bz.low(s:bz):cf 0 s.d=true:=by
 simp only[bz.d,cf,bT,lK,Bool.and_true,Bool.true_and,QCq]
 exact⟨a8 λr _=>r.low,a8 λp _=>AL p,a8 λh _=>BJ h⟩
noncomputable def fw(ts:List (Str×Nat)):List Int:=ts.map λp=>(p.2:Int)
noncomputable def c9(r:Rm):c_:=⟨fw r.ao,-1,[],[],r.aa.map λ_=> []⟩
noncomputable def FP:cH:=⟨-1,-1,0,0,0⟩
noncomputable def bM(w:cV):bz:=⟨w.aj.map c9,w.ai.map λp=>((p.2:Int),[]),fw w.ak,w.af.map λh=>(fw h.1,[FP])⟩
section
variable{S:aF}{Q:Res->aF->Prop}
def jY{ts:List (Str×Nat)}(l:ts.length<=1000)(h:Q (.d (cO (fw ts))) S):Fn gq [.tup (ts.map mS)] S Q:=by
 refine bQ ?_
 unfold nO
 symm
 apply Jd (λc=>∃a b,c= [a,b]) (λd=>match d with|.tup [_,v]=>v|d=>d) ⟨none,none,rfl⟩ ?_
 refine⟨trivial,by simpa using l,λd g c f=> ?_,?_⟩
 ·obtain⟨p,_,rfl⟩:=Qkq.mp g
  obtain⟨a,b,rfl⟩:=f
  refine eF rfl (aC (aV (aC (aV (bx ?_)))))
  apply⟨rfl,⟨_,_,rfl⟩,?_⟩
  exact⟨rfl,rfl⟩
 ·have e:(ts.map mS).map (λd=>match d with|.tup [_,v]=>v|d=>d)=(fw ts).map D.int:=by
   simp only[fw,QPq]
   rfl
  rw[e]
  exact cE (d:=cO (fw ts)) (λk z=>(nomatch z)) (lK _) h
def vf{r:Rm}(b:r.ao.length<=6)(a:r.aa.length<=6)(h:Q (.d (c9 r).d) S):Fn iU [r.d] S Q:=by
 refine bQ ?_
 unfold k_
 symm
 apply eF rfl (aC (aV (aC (aV (aC (aV (aC (aV (aC (aV (bx ?_)))))))))))
 apply jY (by omega) ?_
 apply⟨by decide,?_⟩
 apply⟨by decide,?_⟩
 apply JM (λ_=>.tup []) ?_
 refine⟨trivial,by simp;omega,λd c=> ?_,?_⟩
 ·symm
  exact⟨by decide,rfl,rfl⟩
 ·symm
  refine⟨by show 5<=_;decide,?_⟩
  have e:D.tup ((r.aa.map GU).map λ_=>D.tup [])=D.tup ((c9 r).aa.map eL):=by
   simp only[c9,QPq]
   rfl
  rw[e]
  exact cE (d:=(c9 r).d) (λk z=>(nomatch z)) (c_.low _) h
def Am{w:cV}(o:dF w)(h:Q (.d (bM w).d) S):Fn ug [w.d] S Q:=by
 refine bQ ?_
 unfold Bv
 symm
 apply eF rfl (aC (aV (aC (aV (aC (aV (aC (aV (bx ?_)))))))))
 apply⟨by decide,?_⟩
 have n:=o.l1
 have l:=o.l2
 have m:=o.l3
 have q:=o.l4
 apply tU (α:=Rm) (λc=>∃a,c= [a]) Rm.d (λr=>(c9 r).d) ⟨none,rfl⟩ ?_
 refine⟨w.aj,rfl,trivial,by omega,λr f c e=> ?_,?_⟩
 ·obtain⟨a,rfl⟩:=e
  apply aV ⟨rfl,⟨_,rfl⟩,?_⟩
  exact vf (o.rm r f).l1 (o.rm r f).l2 ⟨rfl,rfl⟩
 symm
 apply tU (α:=Str×Nat) (λc=>∃a b,c= [a,b]) mS (λp=>Ci ((p.2:Int),[])) ⟨none,none,rfl⟩ ?_
 refine⟨w.ai,rfl,trivial,by omega,λr f c e=> ?_,?_⟩
 ·obtain⟨a,b,rfl⟩:=e
  refine eF rfl (aC (aV (aC (aV (bx ?_)))))
  apply⟨rfl,⟨_,_,rfl⟩,?_⟩
  apply⟨by decide,?_⟩
  exact⟨by show 2<=_;decide,rfl,rfl⟩
 symm
 apply jY (by omega) ?_
 apply tU (α:=List (Str×Nat)×List Rw) (λc=>∃a b,c= [a,b,some FP.d]) fH (λh=>CP (fw h.1,[FP])) ⟨none,none,rfl⟩ ?_
 refine⟨w.af,rfl,trivial,by omega,λr f c e=> ?_,?_⟩
 ·obtain⟨a,b,rfl⟩:=e
  refine eF rfl (aC (aV (aC (aV (bx ?_)))))
  apply⟨rfl,⟨_,_,rfl⟩,?_⟩
  refine jY (by have:=(o.hd r f).l1;omega) ?_
  symm
  refine⟨by show 1<=_;decide,?_⟩
  symm
  exact⟨by show 2<=_;decide,rfl,rfl⟩
 symm
 refine⟨by show 4<=_;decide,?_⟩
 have i:w.aj.map (λr=>(c9 r).d)=(bM w).aj.map c_.d:=by simp only[bM,QPq];rfl
 have g:w.ai.map (λp=>Ci ((p.2:Int),[]))=(bM w).ai.map Ci:=by simp only[bM,QPq];rfl
 have j:w.af.map (λh=>CP (fw h.1,[FP]))=(bM w).af.map CP:=by simp only[bM,QPq];rfl
 rw[i,g,j]
 exact cE (d:=(bM w).d) (λk z=>(nomatch z)) (bz.low _) h
end
end W28
namespace DL
open PySem PySem.Spec L2
section
variable{Γ:cq}{S:aF}
def vT{f:bp}{Q:D->aF->Prop}(h:E f Γ S λd a=>∃i,d=.int i/\Q (.int (-i)) a):E (xA f) Γ S Q:=by
 obtain⟨d,a,b,i,rfl,q⟩:=h
 exact⟨_,a,by unfold xA;rw[b];rfl,q⟩
def kM{f:bp}{lo hi:HQ}{Q:D->aF->Prop}(h:E f Γ S λd b=>E lo Γ b λl S2=>E hi Γ S2 λu a=>∃ds,d=.tup ds/\Q (.tup (gd ds l u)) a):E (tN f lo hi) Γ S Q:=by
 obtain⟨d,b,e,l,S2,c,u,a,g,ds,rfl,q⟩:=h
 exact⟨_,a,by unfold tN;rw[e];simp only[Qbq];rw[c];simp only[Qbq];rw[g];rfl,q⟩
def L1{i j:Nat}{f:fK}{Q:Out->Prop}(h:E f Γ S λds c=>∃a b,ds= [a,b]/\Q (.nx ((Γ.set i (some a)).set j (some b)) c)):T (z9 i j f) Γ S Q:=by
 obtain⟨ds,c,d,a,b,rfl,q⟩:=h
 exact⟨_,by unfold z9;rw[d];rfl,q⟩
end
def F5{α:Type}{xs:List α}{i:Nat}(h:i<=xs.length):gd xs none (some (i:Int))=xs.take i:=by
 unfold gd
 rw[HT.tj,HT.se,Nat.min_eq_left h]
 simp
def jM{α:Type}{xs:List α}{i:Nat}(h:i<=xs.length):gd xs (some (i:Int)) none=xs.drop i:=by
 unfold gd
 rw[HT.tj,HT.se,Nat.min_eq_left h]
 rw[List.take_of_length_le]
 simp
def yX{α:Type}{xs:List α}(h:0<xs.length):gd xs none (some (-1))=xs.dropLast:=by
 unfold gd
 rw[HT.tj]
 show(xs.drop 0).take (HT.dN xs.length xs.length (some (-1))-0)=_
 rw[show HT.dN xs.length xs.length (some (-1))=xs.length-1 by simp only[HT.dN];rw[Qhq (by omega)];omega]
 simp[List.dropLast_eq_take]
def zp{α:Type}{xs:List α}{x:α}(h:xs.getLast? =some x):mF xs (-1)=some x:=by
 have c:0<xs.length:=by
  cases xs with
  |nil=>cases h
  |cons a b=>simp
 unfold mF GA
 rw[Quq (by omega),Qhq (by omega)]
 rw[List.getLast?_eq_getElem?] at h
 simp only[Qbq]
 rw[show((-1:Int)+(xs.length:Int)).toNat=xs.length-1 by omega]
 exact h
end DL
namespace W28
open PySem PySem.Spec L2 DL
section
variable{S:aF}{Q:Res->aF->Prop}
def bZ{s:bz}{h:Nat}{vs:List Int}{fs:List cH}{f:cH}(b:s.af[h]?=some (vs,fs))(a:fs.getLast? =some f)(q:Q (.d f.d) S):Fn cT [s.d,.int h] S Q:=by
 refine bQ ?_
 unfold kY
 symm
 apply aB rfl ?_
 refine aB (d:=CP (vs,fs)) (aR (by rw[gQm,b];rfl)) ?_
 symm
 refine aB rfl ?_
 apply vT ?_
 refine⟨1,rfl,?_⟩
 refine aB (d:=f.d) (zp (by rw[QfQ,a];rfl)) ?_
 exact cE (λk z=>(nomatch z)) rfl q
noncomputable def progOf(w:cV)(h:Nat)(f:cH):Option (List Rw):=
 if f.room= -1 then(w.af[h]?).map (·.2) else if 0<=f.room/\0<=f.deed then(w.aj[f.room.toNat]?).bind λr=>(r.ae[f.deed.toNat]?).map (·.2) else none
def mv{α:Type}{xs:List α}{i:Int}{x:α}(a:0<=i)(h:xs[i.toNat]?=some x):mF xs i=some x:=by
 obtain⟨n,rfl⟩:∃n:Nat,i=n:=⟨i.toNat,by omega⟩
 exact aR (by simpa using h)
def zg(rs:List Rw):cf 0 (.tup (rs.map Rw.d))=true:=by simp only[cf];exact a8 λr _=>r.low
def gu{w:cV}{h:Nat}{f:cH}{pr:List Rw}(a:progOf w h f=some pr)(q:Q (.d (.tup (pr.map Rw.d))) S):Fn fI [w.d,.int h,f.d] S Q:=by
 refine bQ ?_
 unfold qU
 apply aH (L1 ?_)
 apply aB rfl ?_
 apply aB rfl ?_
 apply⟨_,_,rfl,?_⟩
 refine dH ?_
 dsimp only
 unfold progOf at a
 by_cases c:f.room= -1
 ·rw[Qhq c] at a
  obtain⟨g,b,rfl⟩:=oQm.mp a
  rw[Qeq c,Qhq rfl]
  symm
  apply aB rfl ?_
  refine aB (d:=fH g) (aR (by rw[gQm,b];rfl)) ?_
  symm
  refine aB rfl ?_
  exact cE (λk z=>(nomatch z)) (zg _) q
 ·rw[Quq c] at a
  split at a
  ·rename_i e
   obtain⟨r,b,a⟩:=aq a
   obtain⟨j,i,rfl⟩:=oQm.mp a
   rw[Qdq c,Quq (by decide)]
   symm
   apply aB rfl ?_
   refine aB (d:=r.d) (mv e.1 (by rw[gQm,b];rfl)) ?_
   symm
   apply aB rfl ?_
   refine aB (d:=i0 j) (mv e.2 (by rw[gQm,i];rfl)) ?_
   symm
   refine aB rfl ?_
   exact cE (λk z=>(nomatch z)) (zg _) q
  ·cases a
def dX{xs:List D}{i:Nat}{d:D}(hi:i<xs.length)(hl:xs.length<=900)(j:bT 0 xs=true)(g:cf 0 d=true)(q:Q (.d (.tup (xs.set i d))) S):Fn dv [.tup xs,.int i,d] S Q:=by
 refine bQ ?_
 unfold n0
 symm
 apply kM ?_
 apply cK (cJ ?_)
 apply⟨_,rfl,_,rfl,?_⟩
 refine⟨by show 1<=_;decide,?_⟩
 rw[F5 (by omega)]
 refine dR (by simp only[Qxq,Qnq,QGq];exact nQl (aM (by omega))) ?_
 apply kM ?_
 apply cJ ?_
 refine⟨_,rfl,cK ⟨_,rfl,?_⟩⟩
 rw[show((i:Int)+1)=((i+1:Nat):Int) by omega,jM (by omega)]
 refine dR (by simp only[lQa,Qxq,List.length_drop,Qnq,QGq];exact nQl (aM (by omega))) ?_
 have e:xs.take i++ [d]++xs.drop (i+1)=xs.set i d:=by
  rw[List.set_eq_take_append_cons_drop,Qhq hi]
  simp
 rw[e]
 refine cE (λk z=>(nomatch z)) ?_ q
 simp only[cf]
 refine wN λz b=> ?_
 rcases QTq b with b|rfl
 ·have c:∀l:List D,bT 0 l=true->∀z∈l,cf 0 z=true:=by
   intro l
   induction l with
   |nil=>intro _ z b;cases b
   | cons a l f=>
     intro h z b
     simp only[bT,QCq] at h
     rcases Qsq.mp b with rfl|b
     · exact h.1
     · exact f h.2 z b
  exact c xs j z b
 ·exact g
end
section
variable{S:aF}{Q:Res->aF->Prop}
def map_set{α b:Type}(f:α->b)(l:List α)(i:Nat)(a:α):(l.set i a).map f=(l.map f).set i (f a):=by
 rw[List.map_set]
def aY(s:bz):∀k,s.d≠.ref k:=λk z=>(nomatch z)
def dj{s:bz}{i:Nat}{r:c_}(hi:i<s.aj.length)(hl:s.aj.length<=900)(q:Q (.d ({s with aj:=s.aj.set i r}:bz).d) S):Fn c8 [s.d,.int i,r.d] S Q:=by
 refine bQ ?_
 unfold nT
 symm
 apply aB rfl ?_
 apply dX (by simpa using hi) (by simpa using hl) (a8 λr _=>r.low) r.low ?_
 refine⟨by show 1<=_;decide,?_⟩
 apply kM ?_
 apply cJ ?_
 refine⟨_,rfl,cK ⟨_,rfl,?_⟩⟩
 refine dR (by show 4<=_;decide) ?_
 refine cE (d:=({s with aj:=s.aj.set i r}:bz).d) (aY _) (bz.low _) q|>λz=> ?_
 rw[←map_set]
 exact z
def g7{s:bz}{i:Nat}{p:Int×List Int}(hi:i<s.ai.length)(hl:s.ai.length<=900)(q:Q (.d ({s with ai:=s.ai.set i p}:bz).d) S):Fn fB [s.d,.int i,Ci p] S Q:=by
 refine bQ ?_
 unfold oz
 symm
 apply aB rfl ?_
 apply aB rfl ?_
 apply dX (by simpa using hi) (by simpa using hl) (a8 λr _=>AL r) (AL p) ?_
 refine⟨by show 2<=_;decide,?_⟩
 apply kM ?_
 apply cJ ?_
 refine⟨_,rfl,cK ⟨_,rfl,?_⟩⟩
 refine dR (by show 4<=_;decide) ?_
 refine cE (d:=({s with ai:=s.ai.set i p}:bz).d) (aY _) (bz.low _) q|>λz=> ?_
 rw[←map_set]
 exact z
def g6{s:bz}{i:Nat}{vs:List Int}{fs:List cH}(hi:i<s.af.length)(hl:s.af.length<=900)(q:Q (.d ({s with af:=s.af.set i (vs,fs)}:bz).d) S):Fn fA [s.d,.int i,cO vs,.tup (fs.map cH.d)] S Q:=by
 refine bQ ?_
 unfold nH
 apply cZ (bN (kM ?_))
 apply cK (cJ ?_)
 apply⟨_,rfl,_,rfl,?_⟩
 apply aB rfl ?_
 refine⟨by show 2<=_;decide,?_⟩
 symm
 apply dX (d:=CP (vs,fs)) (by simpa using hi) (by simpa using hl) (a8 λr _=>BJ r) (BJ (vs,fs)) ?_
 refine⟨by show 1<=_;decide,?_⟩
 refine dR (by show 4<=_;decide) ?_
 refine cE (d:=({s with af:=s.af.set i (vs,fs)}:bz).d) (aY _) (bz.low _) q|>λz=> ?_
 rw[←map_set]
 exact z
def ic{s:bz}{h:Nat}{vs:List Int}{fs:List cH}{f:cH}(a:s.af[h]?=some (vs,fs))(b:0<fs.length)(c:fs.length<=900)(hl:s.af.length<=900)(q:Q (.d ({s with af:=s.af.set h (vs,fs.dropLast++ [f])}:bz).d) S):Fn dE [s.d,.int h,f.d] S Q:=by
 refine bQ ?_
 unfold f_
 symm
 apply aB rfl ?_
 refine aB (d:=CP (vs,fs)) (aR (by rw[gQm,a];rfl)) ?_
 apply eF rfl (aC (aV (aC (aV (bx ?_)))))
 apply kM ?_
 apply cK (cJ (vT ?_))
 apply⟨1,rfl,_,rfl,_,rfl,?_⟩
 refine⟨by show 1<=_;decide,?_⟩
 rw[yX (by simpa using b)]
 refine dR (by simp only[List.length_dropLast,lQm,Qnq,QGq];exact nQl (aM (by omega))) ?_
 symm
 have e:(fs.map cH.d).dropLast++ [f.d]=(fs.dropLast++ [f]).map cH.d:=by rw[Qzq,List.map_dropLast];rfl
 rw[e]
 refine g6 (gQs.mp a).1 hl ?_
 exact cE (aY _) (bz.low _) q
def pW{s:bz}{h:Nat}{vs:List Int}{fs:List cH}{f:cH}{n:Int}(e:s.af[h]?=some (vs,fs))(c:fs.getLast? =some f)(g:fs.length<=900)(hl:s.af.length<=900)(q:Q (.d ({s with af:=s.af.set h (vs,fs.dropLast++ [{f with row:=n}])}:bz).d) S):Fn kr [s.d,.int h,.int n] S Q:=by
 refine bQ ?_
 unfold wu
 symm
 apply bZ e c ?_
 apply kM ?_
 apply cK (cJ ?_)
 apply⟨_,rfl,_,rfl,?_⟩
 refine⟨by show 1<=_;decide,?_⟩
 refine dR (by show 3<=_;decide) ?_
 apply kM ?_
 apply cJ ?_
 refine⟨_,rfl,cK ⟨_,rfl,?_⟩⟩
 refine dR (by show 5<=_;decide) ?_
 symm
 have i:0<fs.length:=by
  cases fs with
  |nil=>cases c
  |cons a b=>simp
 refine ic (f:={f with row:=n}) e i g hl ?_
 exact cE (aY _) (bz.low _) q
noncomputable def iK(r:c_)(h:Int):c_:=if r.within= -1 then{r with within:=h} else{r with row:=r.row++ [h]}
noncomputable def cn(r:c_):c_:=match r.ag,r.row with
 |a::l,_=>{r with within:=a,ag:=l}
 | [],a::l=>{r with within:=a,row:=l}
 | [],[]=>{r with within:= -1}
def uw{s:bz}{i:Nat}{h:Int}{r:c_}(a:s.aj[i]?=some r)(hl:s.aj.length<=900)(lr:r.row.length<=900)(q:Q (.d ({s with aj:=s.aj.set i (iK r h)}:bz).d) S):Fn l9 [s.d,.int i,.int h] S Q:=by
 have b:=(gQs.mp a).1
 refine bQ ?_
 unfold uH
 symm
 apply aB rfl ?_
 refine aB (d:=r.d) (aR (by rw[gQm,a];rfl)) ?_
 apply eF rfl (aC (aV (aC (aV (aC (aV (aC (aV (aC (aV (bx ?_)))))))))))
 refine dH ?_
 dsimp only
 unfold iK at q
 by_cases c:r.within= -1
 ·rw[Qhq c] at q
  rw[Qeq c,Qhq rfl]
  symm
  refine⟨by show 5<=_;decide,?_⟩
  symm
  refine dj (r:={r with within:=h}) b hl ?_
  exact cE (aY _) (bz.low _) q
 ·rw[Quq c] at q
  rw[Qdq c,Quq (by decide)]
  symm
  refine⟨by show 1<=_;decide,?_⟩
  refine dR (by simp only[lQm,Qnq,QGq];exact nQl (aM (by omega))) ?_
  symm
  refine⟨by show 5<=_;decide,?_⟩
  symm
  have e:D.tup (r.row.map D.int++ [D.int h])=cO (r.row++ [h]):=by simp[cO]
  rw[e]
  refine dj (r:={r with row:=r.row++ [h]}) b hl ?_
  exact cE (aY _) (bz.low _) q
end
section
variable{S:aF}{Q:Res->aF->Prop}
def Fm{α:Type}{a:α}{l:List α}:mF (a::l) 0=some a:=aR (j:=0) rfl
def wz{S:aF}{ds:List D}{Q:Bool->Prop}(q:Q (!ds.isEmpty)):Op (BH S (.tup ds)) Q:=⟨_,rfl,q⟩
def zF{s:bz}{i:Nat}{r:c_}(k:s.aj[i]?=some r)(hl:s.aj.length<=900)(q:Q (.d ({s with aj:=s.aj.set i (cn r)}:bz).d) S):Fn qw [s.d,.int i] S Q:=by
 have j:=(gQs.mp k).1
 refine bQ ?_
 unfold AZ
 symm
 apply aB rfl ?_
 refine aB (d:=r.d) (aR (by rw[gQm,k];rfl)) ?_
 refine eF rfl (aC (aV (aC (aV (aC (aV (aC (aV (aC (aV (bx ?_)))))))))))
 obtain⟨b,g,f,m,h⟩:=r
 symm
 refine wz ?_
 cases m with
 | cons a l=>
   apply bq (λ_=> ?_) (λc=>by cases c)
   apply aB (d:=.int a) Fm ?_
   apply kM ?_
   apply cJ ?_
   apply⟨_,rfl,cK ⟨_,rfl,?_⟩⟩
   refine⟨by show 5<=_;decide,?_⟩
   symm
   have e:D.tup (gd ((a::l).map D.int) (some 1) none)=cO l:=by
     rw[show(some (1:Int))=some ((1:Nat):Int) from rfl,jM (by simp)]
     rfl
   rw[e]
   refine dj (r:=⟨b,a,f,l,h⟩) j hl ?_
   exact cE (aY _) (bz.low _) q
 | nil=>
   refine bq (λc=>by cases c) (λ_=> ?_)
   apply cB ?_
   refine wz ?_
   cases f with
   | cons a l=>
     apply bq (λ_=> ?_) (λc=>by cases c)
     apply aB (d:=.int a) Fm ?_
     apply kM ?_
     apply cJ ?_
     apply⟨_,rfl,cK ⟨_,rfl,?_⟩⟩
     refine⟨by show 5<=_;decide,?_⟩
     symm
     have e:D.tup (gd ((a::l).map D.int) (some 1) none)=cO l:=by
       rw[show(some (1:Int))=some ((1:Nat):Int) from rfl,jM (by simp)]
       rfl
     rw[e]
     refine dj (r:=⟨b,a,l,[],h⟩) j hl ?_
     exact cE (aY _) (bz.low _) q
   | nil=>
     refine bq (λc=>by cases c) (λ_=> ?_)
     apply cB ?_
     refine⟨by show 5<=_;decide,?_⟩
     symm
     refine dj (r:=⟨b,-1,[],[],h⟩) j hl ?_
     exact cE (aY _) (bz.low _) q
def fF{α:Type}{enc:α->D}{nm:α->Str}{xs:List α}(he:∀a,∃r,enc a=.tup (.str (nm a)::r))(hl:xs.length<=1000)(q:Q (.l ((xs.map nm).map D.str)) S):Fn d0 [.tup (xs.map enc)] S Q:=by
 refine bQ ?_
 unfold qv
 symm
 apply tU (α:=α) (λb=>∃a,b= [a]) enc (λa=>.str (nm a)) ⟨none,rfl⟩ ?_
 refine⟨xs,rfl,trivial,hl,λr f b c=> ?_,?_⟩
 ·obtain⟨a,rfl⟩:=c
  refine aV ⟨rfl,⟨_,rfl⟩,?_⟩
  obtain⟨d,e⟩:=he r
  rw[e]
  symm
  exact aB Fm ⟨rfl,rfl⟩
 ·have e:xs.map (λa=>D.str (nm a))=(xs.map nm).map D.str:=by rw[QPq];rfl
  rw[e]
  exact ET (a8 λ_ _=>rfl) q
theorem nc:∀a:List Str,ix (a.map D.str)=some (a.map V.str)
 | []=>rfl
 |s::a=>by simp only[QDq,ix,xC,Qbq];rw[nc a];rfl
theorem xa{x:Str}:∀{ns:List Str},x∈ns->∃j,oP (.str x) (ns.map V.str)=some j/\ns[j]?=some x
 | [],h=>by cases h
 | n::ns,h=>by
   by_cases c:n=x
   · subst c
     exact⟨0,by simp[oP,rG],rfl⟩
   · obtain⟨j,b,a⟩:=xa (ns:=ns) ((Qsq.mp h).resolve_left (Ne.symm c))
     exact⟨j+1,by simp only[QDq,oP];rw[b];simp[rG,c],by simpa using a⟩
end
end W28
namespace DL
open PySem PySem.Spec L2
section
variable{Γ:cq}{S:aF}
def kH{T:String}{f:bp}{Q:D->aF->Prop}(h:E f Γ S λd a=>Op (sV a T d) λk=>Q (.bl k) a):E (kg T f) Γ S Q:=by
 obtain⟨d,a,c,k,b,q⟩:=h
 exact⟨_,a,by unfold kg;rw[c];simp only[Qbq];rw[b];rfl,q⟩
def qi{b:Bool}{Q:Bool->Prop}(q:Q b):Op (BH S (.bl b)) Q:=⟨_,rfl,q⟩
def Ln{f g:bp}{Q:D->aF->Prop}(h:E f Γ S λx a=>E g Γ a λy S2=>∃k kvs z v,x=.ref k/\y=.str z/\S2[k]?=some (.dct kvs)/\jy kvs (.inr z)=some v/\Q v S2):E (Jb f g) Γ S Q:=by
 obtain⟨x,a,c,y,S2,b,k,kvs,z,v,rfl,rfl,h1,h2,q⟩:=h
 exact⟨v,S2,by unfold Jb;rw[c];simp only[Qbq];rw[b];simp only[Qbq,h1,o_,h2],q⟩
def Ey{i j:Int}{Q:D->Prop}(q:Q (.int (if j<i then j else i))):Op (minD [.int i,.int j]) Q:=⟨_,rfl,q⟩
def MF{i j:Int}{Q:D->Prop}(q:Q (.int (if j>i then j else i))):Op (maxD [.int i,.int j]) Q:=⟨_,rfl,q⟩
end
end DL
namespace W28
open PySem PySem.Spec L2 DL
noncomputable def Ll(o:Str)(a b:Int):Int:=
 if o="plus" then(if 9<a+b then 9 else a+b) else if o="minus" then(if 0>a-b then 0 else a-b) else if o="less" then(if a<b then 1 else 0)
 else if o="same" then(if a=b then 1 else 0) else(if a≠0/\b≠0 then 1 else 0)
noncomputable def Ar(th wt:Str->Int):Tr->Int
 |.num n=>n
 |.word x=>th x
 |.waits b=>if 0<wt b then 1 else 0
 |.no t=>if Ar th wt t=0 then 1 else 0
 |.two o a b=>Ll o (Ar th wt a) (Ar th wt b)
def C_{o:Str}{a b:Int}(c:0<=a/\a<=9)(d:0<=b/\b<=9):0<=Ll o a b/\Ll o a b<=9:=by
 unfold Ll
 repeat' split
 all_goals omega
theorem mj{th wt:Str->Int}{ws bs:List Str}(h:∀x∈ws,0<=th x/\th x<=9):∀{t:Tr},t.Ok ws bs->0<=Ar th wt t/\Ar th wt t<=9
 |.num n,ho=>by have:n<=9:=ho;simp only[Ar];omega
 |.word x,ho=>h x ho
 |.waits b,_=>by simp only[Ar];split <;>omega
 |.no t,_=>by simp only[Ar];split <;>omega
 |.two o a b,ho=>C_ (mj h ho.2.1) (mj h ho.2.2)
section
variable{S:aF}{Q:Res->aF->Prop}
def dA{S:aF}{i:Int}{Q:Res->aF->Prop}(q:Q (.d (.int i)) S):Op (settle S (.int i) S) λp=>Q p.1 p.2:=cE (λk z=>(nomatch z)) rfl q
def rT{o:Str}{a b:Int}(q:Q (.d (.int (Ll o a b))) S):Fn gw [.str o,.int a,.int b] S Q:=by
 refine bQ ?_
 unfold jb
 unfold Ll at q
 symm
 refine iy ?_
 dsimp only
 by_cases j:o="plus"
 ·rw[Qhq j] at q
  rw[Qeq j,Qhq rfl]
  symm
  refine Ey ?_
  exact dA q
 rw[Quq j] at q
 rw[Qdq j,Quq (by decide)]
 apply cB ?_
 refine iy ?_
 dsimp only
 by_cases e:o="minus"
 ·rw[Qhq e] at q
  rw[Qeq e,Qhq rfl]
  symm
  refine MF ?_
  exact dA q
 rw[Quq e] at q
 rw[Qdq e,Quq (by decide)]
 apply cB ?_
 refine iy ?_
 dsimp only
 by_cases f:o="less"
 ·rw[Qhq f] at q
  rw[Qeq f,Qhq rfl]
  symm
  by_cases c:a<b
  ·rw[Qhq c] at q
   rw[Qeq c,Qhq rfl]
   symm
   exact dA q
  ·rw[Quq c] at q
   rw[Qdq c,Quq (by decide)]
   symm
   exact dA q
 rw[Quq f] at q
 rw[Qdq f,Quq (by decide)]
 apply cB ?_
 refine iy ?_
 dsimp only
 by_cases i:o="same"
 ·rw[Qhq i] at q
  rw[Qeq i,Qhq rfl]
  symm
  refine dH ?_
  dsimp only
  by_cases c:a=b
  ·rw[Qhq c] at q
   rw[Qeq c,Qhq rfl]
   symm
   exact dA q
  ·rw[Quq c] at q
   rw[Qdq c,Quq (by decide)]
   symm
   exact dA q
 rw[Quq i] at q
 rw[Qdq i,Quq (by decide)]
 apply cB ?_
 refine mT ?_
 dsimp only
 by_cases g:a=0
 ·rw[Quq (λz=>z.1 g)] at q
  rw[Qeq g]
  show if (false=true) then _ else _
  rw[Quq (by decide)]
  show if (false=true) then _ else _
  rw[Quq (by decide)]
  symm
  exact dA q
 ·rw[Qdq g]
  show if (true=true) then _ else _
  rw[Qhq rfl]
  symm
  refine mT ?_
  dsimp only
  by_cases h:b=0
  ·rw[Quq (λz=>z.2 h)] at q
   rw[Qeq h]
   show if (false=true) then _ else _
   rw[Quq (by decide)]
   symm
   exact dA q
  ·rw[Qhq ⟨g,h⟩] at q
   rw[Qdq h]
   show if (true=true) then _ else _
   rw[Qhq rfl]
   symm
   exact dA q
end
def fg{a:cq}{S:aF}{T:String}{f:bp}{d:D}{b:Bool}{Q:Bool->aF->Prop}(h:E f a S λx c=>x=d/\c=S)(hd:sV S T d=some b)(q:Q b S):E (kL (kg T f)) a S Q:=by
 refine zq (kH (h.mono λx c i=> ?_))
 obtain⟨g,e⟩:=i
 subst g e
 exact⟨b,hd,qi q⟩
def GK{o:Str}(h:o∈ops):o≠"waits" /\o≠"not":=by
 simp only[ops,Qsq,QXq,or_false] at h
 rcases h with rfl|rfl|rfl|rfl|rfl <;>exact⟨by decide +kernel,by decide +kernel⟩
theorem gB{th wt:Str->Int}{ws bs:List Str}{i j:Nat}{kvs kws:List (Key×D)}{S:aF}(hi:S[i]?=some (.dct kvs))(g:S[j]?=some (.dct kws))(f:∀x∈ws,jy kvs (.inr x)=some (.int (th x)))(e:∀b∈bs,jy kws (.inr b)=some (.int (wt b))):
  ∀(n:Nat) (t:Tr) {Q:Res->aF->Prop},t.Ok ws bs->t.dep<=n->Q (.d (.int (Ar th wt t))) S->Fn (gc n) [t.d,.ref i,.ref j] S Q
 |0,t,Q,_,hd,_=>by cases t <;>simp[Tr.dep] at hd
 | n+1,t,Q,ho,hd,q=>by
   refine bQ ?_
   unfold qN
   cases t with
   | num v=>
     refine aH (ed (fg (d:=.int v) (ax rfl ⟨rfl,rfl⟩) rfl ?_))
     apply bq (λ_=> ?_) (λc=>by cases c)
     exact dA q
   | word x=>
     refine aH (ed (fg (d:=.str x) (ax rfl ⟨rfl,rfl⟩) rfl ?_))
     refine bq (λc=>by cases c) (λ_=>cB ?_)
     refine aH (ed (fg (d:=.str x) (ax rfl ⟨rfl,rfl⟩) rfl ?_))
     refine bq (λ_=> ?_) (λc=>by cases c)
     apply cZ (Ln ?_)
     refine⟨_,_,_,_,rfl,rfl,hi,f x ho,?_⟩
     exact dA q
   | waits b=>
     refine aH (ed (fg (d:=.tup [.str "waits",.str b]) (ax rfl ⟨rfl,rfl⟩) rfl ?_))
     refine bq (λc=>by cases c) (λ_=>cB ?_)
     refine aH (ed (fg (d:=.tup [.str "waits",.str b]) (ax rfl ⟨rfl,rfl⟩) rfl ?_))
     apply bq (λc=>by cases c) (λ_=>cB ?_)
     apply aB rfl ?_
     refine iy ?_
     dsimp only
     rw[Qeq rfl,Qhq rfl]
     symm
     apply Ln ?_
     refine aB rfl ?_
     apply⟨_,_,_,_,rfl,rfl,g,e b ho,?_⟩
     simp only[Ar] at q
     by_cases c:0<wt b
     · rw[Qhq c] at q
       rw[Qeq c,Qhq rfl]
       symm
       exact dA q
     · rw[Quq c] at q
       rw[Qdq c,Quq (by decide)]
       symm
       exact dA q
   | no t=>
     have k:t.dep<=n:=by simp only[Tr.dep] at hd;omega
     refine aH (ed (fg (d:=.tup [.str "not",t.d]) (ax rfl ⟨rfl,rfl⟩) rfl ?_))
     refine bq (λc=>by cases c) (λ_=>cB ?_)
     refine aH (ed (fg (d:=.tup [.str "not",t.d]) (ax rfl ⟨rfl,rfl⟩) rfl ?_))
     apply bq (λc=>by cases c) (λ_=>cB ?_)
     apply aB rfl ?_
     refine iy ?_
     dsimp only
     rw[Qdq (show¬(("not":Str)="waits") by decide +kernel),Quq (by decide)]
     apply cB ?_
     apply aB rfl ?_
     apply gB hi g f e n t ho k ?_
     apply aB rfl ?_
     refine iy ?_
     dsimp only
     rw[Qeq rfl,Qhq rfl]
     symm
     refine dH ?_
     dsimp only
     simp only[Ar] at q
     by_cases c:Ar th wt t=0
     · rw[Qhq c] at q
       rw[Qeq c,Qhq rfl]
       symm
       exact dA q
     · rw[Quq c] at q
       rw[Qdq c,Quq (by decide)]
       symm
       exact dA q
   | two o a b=>
     have l:a.dep<=n:=by simp only[Tr.dep] at hd;omega
     have h:b.dep<=n:=by simp only[Tr.dep] at hd;omega
     obtain⟨m,p⟩:=GK ho.1
     refine aH (ed (fg (d:=.tup [.str o,a.d,b.d]) (ax rfl ⟨rfl,rfl⟩) rfl ?_))
     refine bq (λc=>by cases c) (λ_=>cB ?_)
     refine aH (ed (fg (d:=.tup [.str o,a.d,b.d]) (ax rfl ⟨rfl,rfl⟩) rfl ?_))
     apply bq (λc=>by cases c) (λ_=>cB ?_)
     apply aB rfl ?_
     refine iy ?_
     dsimp only
     rw[Qdq m,Quq (by decide)]
     apply cB ?_
     apply aB rfl ?_
     apply gB hi g f e n a ho.2.1 l ?_
     apply aB rfl ?_
     refine iy ?_
     dsimp only
     rw[Qdq p,Quq (by decide)]
     apply cB ?_
     apply aB rfl ?_
     apply aB rfl ?_
     apply gB hi g f e n b ho.2.2 h ?_
     refine rT ?_
     exact dA q
end W28
namespace DL
open PySem PySem.Spec L2
def vZ{l:List (Key×D)}{k:Key}(h:k∈l.map (·.1)):∃d,jy l k=some d/\(k,d)∈l:=by
 unfold jy
 cases e:l.find? λc=>decide (c.1=k) with
 | none=>
   obtain⟨p,b,rfl⟩:=Qkq.mp h
   have:=List.find?_eq_none.mp e p b
   simp at this
 | some p=>
   have f:=List.find?_some e
   have a:=List.mem_of_find?_eq_some e
   have g:p.1=k:=by simpa using f
   exact⟨p.2,rfl,by rw[←g];exact a⟩
def zT{l:List (Key×D)}{k:Key}{v:D}{p:Key×D}(h:p∈putD l k v):p∈l\/p=(k,v):=by
 unfold putD at h
 split at h
 ·obtain⟨q,a,e⟩:=Qkq.mp h
  split at e
  ·rename_i c
   rw[←e,c]
   exact .inr rfl
  ·rw[←e]
   exact .inl a
 ·rcases mQa.mp h with h|h
  ·exact .inl h
  ·exact .inr (Qfq.mp h)
def mE{l:List (Key×D)}{k x:Key}{v:D}(h:x=k\/x∈l.map (·.1)):x∈(putD l k v).map (·.1):=by
 unfold putD
 split
 ·rename_i c
  have a:∀p∈l,(if p.1=k then(p.1,v) else p).1=p.1:=λp _=>by split <;>rfl
  have e:(l.map λp=>if p.1=k then(p.1,v) else p).map (·.1)=l.map (·.1):=by
   rw[QPq]
   exact List.map_congr_left a
  rw[e]
  rcases h with rfl|h
  ·obtain⟨p,d,b⟩:=List.any_eq_true.mp c
   exact Qkq.mpr ⟨p,d,by simpa using b⟩
  ·exact h
 ·rw[Qzq]
  rcases h with rfl|h
  ·exact Qoq _ (by simp)
  ·exact List.mem_append_left _ h
theorem nR:∀{more l:List (Key×D)} {p:Key×D},p∈cY l more->p∈l\/p∈more
 | [],l,p,h=>.inl h
 | q::more,l,p,h=>by
   rcases nR (more:=more) (l:=putD l q.1 q.2) h with h|h
   · rcases zT h with h|rfl
     · exact .inl h
     · exact .inr (QBq ..)
   · exact .inr (Qpq _ h)
theorem gE:∀{more l:List (Key×D)} {x:Key},x∈l.map (·.1)\/x∈more.map (·.1)->x∈(cY l more).map (·.1)
 | [],l,x,h=>h.elim id λz=>by cases z
 | q::more,l,x,h=>by
   refine gE (more:=more) (l:=putD l q.1 q.2) ?_
   rcases h with h|h
   · exact .inl (mE (.inr h))
   · rcases Qsq.mp h with rfl|h
     · exact .inl (mE (.inl rfl))
     · exact .inr h
theorem sA:∀a:List Str,zo (a.map D.str)=some (a.map Sum.inr)
 | []=>rfl
 |s::a=>by simp only[QDq,zo,o_,Qbq];rw[sA a];rfl
section
variable{Γ:cq}{S:aF}
def Mu{Q:D->aF->Prop}(q:Q (.ref S.length) (S++ [.dct []])):E Nj Γ S Q:=⟨_,_,rfl,q⟩
def K3{f g:dQ}{Q:D->aF->Prop}(h:E f Γ S λp b=>E g Γ b λr S2=>∃a:List Str,p.1=a.map D.str/\(p.2.stays S2 p.1/\p.1.length=r.1.length)/\Q (.ref S2.length) (S2++ [.dct (cY [] ((a.map Sum.inr).zip r.1))])):E (Lm f g) Γ S Q:=by
 obtain⟨p,b,e,r,S2,c,a,i,d,q⟩:=h
 refine⟨_,_,?_,q⟩
 unfold Lm
 rw[e]
 simp only[Qbq]
 rw[c]
 simp only[Qbq]
 rw[Qhq d,i,sA]
 rfl
def MO{f g:bp}{Q:D->aF->Prop}(h:E f Γ S λx a=>E g Γ a λy S2=>∃k j b l m,x=.ref k/\y=.ref j/\k≠j/\a[k]?=some (.dct b)/\S2[k]?=some (.dct l)/\S2[j]?=some (.dct m)/\l.length+m.length<=sizeLine/\Q .non (S2.set k (.dct (cY l m)))):E (Ia f g) Γ S Q:=by
 obtain⟨x,a,d,y,S2,c,k,j,b,l,m,rfl,rfl,hn,h0,h1,h2,h3,q⟩:=h
 exact⟨_,_,by unfold Ia;rw[d];simp only[Qbq];rw[c];simp only[Qbq];rw[Qhq hn];simp only[h0,h1,h2];rw[Qhq h3],q⟩
def OC{f g h:bp}{Q:Out->Prop}(w:E h Γ S λd b=>E f Γ b λx S2=>E g Γ S2 λy a=>∃k l z,x=.ref k/\y=.str z/\a[k]?=some (.dct l)/\l.length<sizeLine/\Q (.nx Γ (a.set k (.dct (putD l (.inr z) d))))):T (KU f g h) Γ S Q:=by
 obtain⟨d,b,e,x,S2,c,y,a,i,k,l,z,rfl,rfl,h1,h2,q⟩:=w
 exact⟨_,by unfold KU;rw[e];simp only[Qbq];rw[c];simp only[Qbq];rw[i];simp only[Qbq,h1,o_];rw[Qhq h2],q⟩
def Oy{α:Type}{n:Nat}{js:List (Option Nat)}{i:uN}{g:mB}{t u:bp}{Q:Out->Prop}(P:cq->Prop)(enc:α->D)(key:α->Str)(f:α->D)(M:P (nF js Γ)) (h:E i Γ S λp d=>∃xs:List α,p.1=xs.map enc/\p.2 d/\xs.length<=1000∧
   (∀x∈xs,∀b,P b->Tg g (enc x) b d λe S2=>S2=d/\P e/\E t e d λy B=>y=.str (key x)/\B=d/\E u e d λz w=>z=f x/\w=d)∧
   Q (.nx (Γ.set n (some (.ref d.length))) (d++ [.dct (cY [] (xs.map λx=>(Sum.inr (key x),f x)))]))):T (Mw n (p6 js i g bS t u)) Γ S Q:=by
 obtain⟨⟨N,W⟩,d,L,xs,rfl,hW,hl,hs,q⟩:=h
 have J:∀(l:List (Key×D)) (k:Key) (v:D),(putD l k v).length<=l.length+1:=λl k v=>by
  unfold putD
  split <;>simp
 have F:∀(j:List α) (b:cq) (c:List (Key×D)),(∀y∈j,y∈xs)->P b->c.length+j.length<=1000->∃r,i9 g bS t u W (j.map enc) b d c=some (r,d)/\r=cY c (j.map λx=>(Sum.inr (key x),f x)):=by
  intro j
  induction j with
  |nil=>intro b c _ _ _;exact⟨c,by simp only[List.map_nil,i9];rw[Qhq hW],rfl⟩
  | cons a j G=>
    intro b c A C m
    obtain⟨e,S2,o,rfl,hp1,y,B,e3,rfl,rfl,z,w,e4,rfl,rfl⟩:=hs a (A a (QBq ..)) b C
    have s:=J c (Sum.inr (key a)) (f a)
    simp only[Qnq] at m
    obtain⟨r,I,H⟩:=G e (putD c (Sum.inr (key a)) (f a)) (λy K=>A y (Qpq _ K)) hp1 (by omega)
    refine⟨r,?_,H⟩
    simp only[QDq,i9]
    rw[Qhq hW,o]
    simp only[Qbq,bS,if_true]
    rw[e3]
    simp only[Qbq]
    rw[e4]
    simp only[Qbq,o_]
    rw[Qhq (aM (by omega))]
    exact I
 obtain⟨r,o,rfl⟩:=F xs _ [] (λ_ h=>h) M (by simpa using hl)
 exact⟨_,by unfold Mw p6;rw[L];simp only[Qbq];rw[o];rfl,q⟩
end
def w4{a:cq}{S:aF}{f g:dQ}{Q:(List D×(aF->Prop))->aF->Prop}(h:E f a S λp b=>E g a b λr S2=>(p.2.stays S2 p.1/\p.1.length<=r.1.length)/\Q (u4 p.1 r.1,λS=>p.2.stays S p.1/\r.2.stays S r.1) S2):E (AR f g) a S Q:=by
 obtain⟨p,b,e,r,S2,c,d,q⟩:=h
 exact⟨_,S2,by unfold AR;rw[e];simp only[Qbq];rw[c];simp only[Qbq];rw[Qhq d],q⟩
def kZ(l:List (Key×D)):Prop:=∀p∈l,∃v:Int,p.2=.int v/\0<=v/\v<=9
def kZ.merge{l m:List (Key×D)}(c:kZ l)(a:kZ m):kZ (cY l m):=λp b=>(nR b).elim (c p) (a p)
def kZ.put{l:List (Key×D)}{k:Key}{v:Int}(h:kZ l)(c:0<=v)(b:v<=9):kZ (putD l k (.int v)):=λp a=>by
 rcases zT a with a|rfl
 ·exact h p a
 ·exact⟨v,rfl,c,b⟩
noncomputable def numAt(l:List (Key×D))(x:Str):Int:=match jy l (.inr x) with|some (.int v)=>v|_=>0
def pP{l:List (Key×D)}(h:kZ l){x:Str}(i:(Sum.inr x:Key)∈l.map (·.1)):jy l (.inr x)=some (.int (numAt l x))/\0<=numAt l x/\numAt l x<=9:=by
 obtain⟨d,b,f⟩:=vZ i
 obtain⟨v,a,c,g⟩:=h _ f
 have a:d=.int v:=a
 subst a
 have e:numAt l x=v:=by unfold numAt;rw[b]
 rw[e]
 exact⟨b,c,g⟩
def Gh{d:List Str}{vs:List Int}(h:∀v∈vs,0<=v/\v<=9):kZ ((d.map (Sum.inr:Str->Key)).zip (vs.map D.int)):=λp a=>by
 have b:p.2∈vs.map D.int:=(QeQ (show(p.1,p.2)∈_ from a)).2
 obtain⟨v,c,e⟩:=Qkq.mp b
 exact⟨v,e.symm,h v c⟩
def Ff{a:List Str}{ds:List D}(h:a.length=ds.length):((a.map (Sum.inr:Str->Key)).zip ds).map (·.1)=a.map Sum.inr:=by
 rw[List.map_fst_zip]
 simpa using Nat.le_of_eq h
end DL
namespace W28
open PySem PySem.Spec L2 DL
noncomputable def dY(ts:List (Str×Nat))(vs:List Int):List (Key×D):=cY [] (((ts.map (·.1)).map Sum.inr).zip (vs.map D.int))
noncomputable def Dj(w:cV)(s:bz)(ts:List (Str×Nat))(vs:List Int):List (Key×D):=cY (dY w.ak s.ak) (dY ts vs)
noncomputable def vm(r:Rm)(rs:c_)(a:Int):List (Key×D):=putD (dY r.ao rs.vals) (.inr "given") (.int a)
noncomputable def Cd(r:Rm)(rs:c_):List (Key×D):=cY [] ((r.aa.zip rs.aa).map λp=>(Sum.inr p.1.1,D.int (p.2.length:Nat)))
def g_{ts:List (Str×Nat)}{vs:List Int}(h:∀v∈vs,0<=v/\v<=9):kZ (dY ts vs):=kZ.merge (λp a=>by cases a) (Gh h)
def hU{ts:List (Str×Nat)}{vs:List Int}(hl:ts.length=vs.length){x:Str}(h:x∈ts.map (·.1)):(Sum.inr x:Key)∈(dY ts vs).map (·.1):=by
 refine gE (.inr ?_)
 rw[Ff (by simpa using hl)]
 exact Qkq.mpr ⟨x,h,rfl⟩
structure mr(S S':aF):Prop where
 len:S.length<=S'.length
 eq:∀j,j<S.length->S'[j]?=S[j]?
def mr.refl{S:aF}:mr S S:=⟨Qmq _,λ_ _=>rfl⟩
def mr.app{S a G:aF}(x:mr S a):mr S (a++G):=⟨by rw[lQa];have:=x.len;omega,λj b=>by rw[QHq (by have:=x.len;omega)];exact x.eq j b⟩
def mr.put{S a:aF}{r:Nat}{o:O}(x:mr S a)(c:S.length<=r):mr S (a.set r o):=⟨by simpa using x.len,λj b=>by rw[QKq (by omega)];exact x.eq j b⟩
def uL{S b:aF}{d:D}{Q:Res->aF->Prop}(x:mr S b)(hd:∀k,d≠.ref k)(hl:cf 0 d=true)(q:Q (.d d) S):Op (settle S d b) λp=>Q p.1 p.2:=by
 refine hJ ⟨x.len,λk o c e=>.inl (by rw[←x.eq k c];exact e)⟩ ?_ hd (fe hl) q
 apply List.ext_getElem?
 intro j
 by_cases a:j<S.length
 ·rw[List.getElem?_take_of_lt a]
  exact x.eq j a
 ·rw[List.getElem?_eq_none (by rw[Qxq];omega),List.getElem?_eq_none (by omega)]
def gY:∀a:Str×Nat,∃r,mS a=.tup (.str a.1::r):=λa=>⟨_,rfl⟩
def CB:∀a:Str×Str,∃r,GU a=.tup (.str a.1::r):=λa=>⟨_,rfl⟩
section
variable{S:aF}{Q:Res->aF->Prop}
theorem tJ:∀{m l:List (Key×D)},(cY l m).length<=l.length+m.length
 | [],l=>Qmq _
 | q::m,l=>by
   have b:(cY (putD l q.1 q.2) m).length<=(putD l q.1 q.2).length+m.length:=tJ
   have a:(putD l q.1 q.2).length<=l.length+1:=by unfold putD;split <;>simp
   show(cY (putD l q.1 q.2) m).length<=_
   simp only[Qnq]
   omega
def ub{ts:List (Str×Nat)}{vs:List Int}:(dY ts vs).length<=ts.length:=by
 refine QAq tJ ?_
 simp only[QGq,List.length_zip,lQm]
 omega
def xY{w:cV}{s:bz}{h:Nat}{ts:List (Str×Nat)}{pr:List Rw}{vs:List Int}{fs:List cH}{f:cH}{t:Tr}(u:w.af[h]?=some (ts,pr))(r:s.af[h]?=some (vs,fs))(B:fs.getLast? =some f)(y:f.room= -1)
  (n:w.ak.length=s.ak.length) (i:ts.length=vs.length) (L:w.ak.length<=100) (M:ts.length<=100) (A:∀v∈s.ak,0<=v/\v<=9) (I:∀v∈vs,0<=v/\v<=9)
  (G:t.Ok (ts.map (·.1)++w.ak.map (·.1)) []) (hd:t.dep<=6) (q:Q (.d (.int (Ar (numAt (Dj w s ts vs)) (λ_=>0) t))) S):Fn dD [w.d,s.d,.int h,t.d] S Q:=by
 have a:kZ (Dj w s ts vs):=kZ.merge (g_ A) (g_ I)
 refine bQ ?_
 unfold my
 symm
 apply bZ r B ?_
 apply aB (d:=.int f.room) rfl ?_
 refine dH ?_
 dsimp only
 rw[Qeq y,Qhq rfl]
 symm
 apply K3 ?_
 apply aB rfl ?_
 apply fF (enc:=mS) (nm:=(·.1)) gY (by omega) ?_
 refine aB rfl ?_
 refine cv (ds:=s.ak.map D.int) ?_
 refine⟨_,rfl,⟨trivial,by simp only[lQm];exact n⟩,?_⟩
 dsimp only
 rw[show cY [] (((w.ak.map (·.1)).map (Sum.inr:Str->Key)).zip (s.ak.map D.int))=dY w.ak s.ak from rfl]
 apply aH (mN (MO ?_))
 apply K3 ?_
 apply aB rfl ?_
 refine aB (d:=fH (ts,pr)) (aR (by rw[gQm,u];rfl)) ?_
 symm
 apply aB rfl ?_
 apply fF (enc:=mS) (nm:=(·.1)) gY (by omega) ?_
 apply aB rfl ?_
 refine aB (d:=CP (vs,fs)) (aR (by rw[gQm,r];rfl)) ?_
 symm
 refine aB rfl ?_
 refine cv (ds:=vs.map D.int) ?_
 refine⟨_,rfl,⟨trivial,by simp only[lQm];exact i⟩,?_⟩
 dsimp only
 rw[show cY [] (((ts.map (·.1)).map (Sum.inr:Str->Key)).zip (vs.map D.int))=dY ts vs from rfl]
 have e:(S++ [O.dct (dY w.ak s.ak)])[S.length]?=some (.dct (dY w.ak s.ak)):=aZ
 have o:(S++ [O.dct (dY w.ak s.ak)]).length=S.length+1:=by simp
 have F:mr S (S++ [O.dct (dY w.ak s.ak)]):=mr.refl.app
 show∃k j H l m,D.ref S.length=.ref k/\D.ref (S++ [O.dct (dY w.ak s.ak)]).length=.ref j/\k≠j/\(S++ [O.dct (dY w.ak s.ak)])[k]?=some (.dct H)/\(S++ [O.dct (dY w.ak s.ak)]++ [O.dct (dY ts vs)])[k]?=some (.dct l)/\(S++ [O.dct (dY w.ak s.ak)]++ [O.dct (dY ts vs)])[j]?=some (.dct m)/\_
 refine⟨_,_,_,_,_,rfl,rfl,by omega,e,bu e,aZ,?_,?_⟩
 ·have K:=ub (ts:=w.ak) (vs:=s.ak)
  have J:=ub (ts:=ts) (vs:=vs)
  exact nQl (aM (by omega))
 have g:((S++ [O.dct (dY w.ak s.ak)]++ [O.dct (dY ts vs)]).set S.length (.dct (cY (dY w.ak s.ak) (dY ts vs))))[S.length]?=some (.dct (Dj w s ts vs)):=fV (bu e)
 have p:mr S ((S++ [O.dct (dY w.ak s.ak)]++ [O.dct (dY ts vs)]).set S.length (.dct (cY (dY w.ak s.ak) (dY ts vs)))):=F.app.put (Qmq _)
 generalize ((S++ [O.dct (dY w.ak s.ak)]++ [O.dct (dY ts vs)]).set S.length (.dct (cY (dY w.ak s.ak) (dY ts vs))))=S2 at g p⊢
 symm
 apply Mu ?_
 refine gB (th:=numAt (Dj w s ts vs)) (wt:=λ_=>0) (ws:=ts.map (·.1)++w.ak.map (·.1)) (bs:= []) (bu g) aZ (λx c=> ?_) (λb C=>by cases C) 6 t G hd ?_
 ·refine(pP a ?_).1
  refine gE ?_
  rcases mQa.mp c with c|c
  ·exact .inr (hU i c)
  ·exact .inl (hU n c)
 ·exact uL p.app (λk z=>(nomatch z)) rfl q
end
section
variable{S:aF}{Q:Res->aF->Prop}
theorem zC:∀(bs:List (Str×Str)) (ls:List (List (Int×Int))),u4 ((bs.map (·.1)).map D.str) (ls.map eL)=(bs.zip ls).map λp=>D.tup [.str p.1.1,eL p.2]
 | [],_=>rfl
 |_::_,[]=>rfl
 | b::bs,l::ls=>by
   have:=zC bs ls
   simp only[u4,QDq,List.zipWith_cons_cons,List.zip_cons_cons] at this⊢
   rw[this]
noncomputable def Ae(r:Rm)(rs:c_)(x:Str):Int:=numAt (Cd r rs) x
def EG{r:Rm}{rs:c_}(hl:r.aa.length=rs.aa.length){x:Str}(h:x∈r.aa.map (·.1)):jy (Cd r rs) (.inr x)=some (.int (Ae r rs x)):=by
 have g:(Sum.inr x:Key)∈(Cd r rs).map (·.1):=by
  refine gE (.inr ?_)
  rw[QPq]
  obtain⟨b,f,rfl⟩:=Qkq.mp h
  obtain⟨i,c,e⟩:=QbQ f
  refine Qkq.mpr ⟨(b,rs.aa[i]'(by omega)),?_,rfl⟩
  rw[←e]
  have:(r.aa.zip rs.aa)[i]?=some (r.aa[i],rs.aa[i]'(by omega)):=by
   rw[List.getElem?_zip_eq_some]
   exact⟨gQe c,gQe (by omega)⟩
  exact mQg this
 obtain⟨d,j,a⟩:=vZ g
 have c:∃v:Int,d=.int v:=by
  rcases nR a with a|a
  ·cases a
  ·obtain⟨p,_,e⟩:=Qkq.mp a
   exact⟨_,(congrArg (·.2) e).symm⟩
 obtain⟨v,rfl⟩:=c
 unfold Ae DL.numAt
 rw[j]
def u0{w:cV}{s:bz}{h i:Nat}{vs:List Int}{fs:List cH}{f:cH}{r:Rm}{rs:c_}{t:Tr}(J:s.af[h]?=some (vs,fs))(F:fs.getLast? =some f)(B:f.room=i)(n:w.aj[i]?=some r)(c:s.aj[i]?=some rs)
  (o:r.ao.length=rs.vals.length) (A:r.aa.length=rs.aa.length) (L:r.ao.length<=100) (M:r.aa.length<=100) (C:∀v∈rs.vals,0<=v/\v<=9) (y:0<=f.given/\f.given<=9)
  (I:t.Ok (r.ao.map (·.1)++cX) (r.aa.map (·.1))) (hd:t.dep<=6) (q:Q (.d (.int (Ar (numAt (vm r rs f.given)) (Ae r rs) t))) S):Fn dD [w.d,s.d,.int h,t.d] S Q:=by
 have g:kZ (vm r rs f.given):=(g_ C).put y.1 y.2
 refine bQ ?_
 unfold my
 symm
 apply bZ J F ?_
 apply aB (d:=.int f.room) rfl ?_
 refine dH ?_
 dsimp only
 rw[Qdq (show¬f.room= -1 by omega),Quq (by decide),B]
 apply cB ?_
 apply K3 ?_
 apply aB rfl ?_
 refine aB (d:=r.d) (aR (by rw[gQm,n];rfl)) ?_
 symm
 apply aB rfl ?_
 apply fF (enc:=mS) (nm:=(·.1)) gY (by omega) ?_
 apply aB rfl ?_
 refine aB (d:=rs.d) (aR (by rw[gQm,c];rfl)) ?_
 symm
 refine aB rfl ?_
 refine cv (ds:=rs.vals.map D.int) ?_
 refine⟨_,rfl,⟨trivial,by simp only[lQm];exact o⟩,?_⟩
 dsimp only
 rw[show cY [] (((r.ao.map (·.1)).map (Sum.inr:Str->Key)).zip (rs.vals.map D.int))=dY r.ao rs.vals from rfl]
 have H:mr S (S++ [O.dct (dY r.ao rs.vals)]):=mr.refl.app
 apply aH (OC ?_)
 apply aB (d:=.int f.given) rfl ?_
 refine⟨_,_,_,rfl,rfl,aZ,aM (by have:=ub (ts:=r.ao) (vs:=rs.vals);omega),?_⟩
 have m:((S++ [O.dct (dY r.ao rs.vals)]).set S.length (.dct (putD (dY r.ao rs.vals) (.inr "given") (.int f.given))))[S.length]?=some (.dct (vm r rs f.given)):=fV aZ
 have u:mr S ((S++ [O.dct (dY r.ao rs.vals)]).set S.length (.dct (putD (dY r.ao rs.vals) (.inr "given") (.int f.given)))):=H.put (Qmq _)
 generalize ((S++ [O.dct (dY r.ao rs.vals)]).set S.length (.dct (putD (dY r.ao rs.vals) (.inr "given") (.int f.given))))=S2 at m u⊢
 apply aH (Oy (α:=(Str×Str)×List (Int×Int)) (λe=>∃a b,e= [a,b]) (λp=>D.tup [.str p.1.1,eL p.2]) (λp=>p.1.1) (λp=>.int (p.2.length:Nat)) ⟨none,none,rfl⟩ (w4 ?_))
 apply aB rfl ?_
 refine aB (d:=r.d) (aR (by rw[gQm,n];rfl)) ?_
 symm
 apply aB rfl ?_
 apply fF (enc:=GU) (nm:=(·.1)) CB (by omega) ?_
 apply aB rfl ?_
 refine aB (d:=rs.d) (aR (by rw[gQm,c];rfl)) ?_
 symm
 refine aB rfl ?_
 refine cv (ds:=rs.aa.map eL) ?_
 refine⟨⟨trivial,by simp only[lQm];omega⟩,r.aa.zip rs.aa,zC _ _,⟨trivial,trivial⟩,by rw[List.length_zip];omega,λp K e l=> ?_,?_⟩
 ·obtain⟨a,b,rfl⟩:=l
  refine eF rfl (aC (aV (aC (aV (bx ?_)))))
  apply⟨rfl,⟨_,_,rfl⟩,?_⟩
  apply⟨rfl,rfl,?_⟩
  refine cv (ds:=p.2.map pairD) ?_
  exact⟨by simp,rfl⟩
 symm
 refine gB (th:=numAt (vm r rs f.given)) (wt:=Ae r rs) (ws:=r.ao.map (·.1)++cX) (bs:=r.aa.map (·.1)) (kws:=Cd r rs) (bu m) aZ (λx j=> ?_) (λb G=>EG A G) 6 t I hd ?_
 ·refine(pP g ?_).1
  refine mE ?_
  rcases mQa.mp j with j|j
  ·exact .inr (hU o j)
  ·left
   rw[Qfq.mp j]
 ·exact uL u.app (λk z=>(nomatch z)) rfl q
end
end W28
namespace DL
open PySem PySem.Spec L2
def Ic{b:cq}{S:aF}{a:Bool}{f:bp}{g:dQ}{Q:D->aF->Prop}(h:E f b S λx c=>E g b c λp S2=>∃v vs,xC x=some v/\ix p.1=some vs/\Q (.bl (if a then !Ec v vs else Ec v vs)) S2):E (GW a f g) b S Q:=by
 obtain⟨x,c,i,p,S2,d,v,vs,j,e,q⟩:=h
 exact⟨_,S2,by unfold GW;rw[i];simp only[Qbq];rw[d];simp only[Qbq];rw[j,e];rfl,q⟩
def GL{x:Str}{b:List Str}:Ec (.str x) (b.map V.str)=decide (x∈b):=by
 induction b with
 |nil=>rfl
 | cons a b e=>
   show(rG (.str a) (.str x)||Ec (.str x) (b.map V.str))=_
   rw[e]
   simp only[rG,Qsq]
   by_cases c:a=x
   · subst c;simp
   · have d:¬x=a:=λz=>c z.symm
     simp[c,d]
end DL
namespace W28
open PySem PySem.Spec L2 DL
section
variable{S:aF}{Q:Res->aF->Prop}
noncomputable def fh(ns:List Str)(vs:List Int)(x:Str)(v:Int):List Int:=vs.set ((oP (.str x) (ns.map V.str)).getD 0) v
def pK{α:Type}{enc:α->D}{nm:α->Str}{xs:List α}{x:Str}(he:∀a,∃r,enc a=.tup (.str (nm a)::r))(hl:xs.length<=1000)(i:x∈xs.map nm)(q:((oP (.str x) ((xs.map nm).map V.str)).getD 0)<xs.length->Q (.d (.int ((oP (.str x) ((xs.map nm).map V.str)).getD 0:Nat))) S):Fn da [.tup (xs.map enc),.str x] S Q:=by
 refine bQ ?_
 unfold qI
 obtain⟨j,e,f⟩:=xa i
 have h:j<xs.length:=by have:=(gQs.mp f).1;simpa using this
 rw[e] at q
 refine cZ ?_
 have c:E (fX (fc d0 (ar (au 0) av))) ([D.tup (xs.map enc),D.str x].map some++List.replicate (2- [D.tup (xs.map enc),D.str x].length) none) S λp b=>p=((xs.map nm).map D.str,.fr)/\b=S:=by
  symm
  exact fF he hl ⟨rfl,rfl⟩
 obtain⟨p,b,g,rfl,rfl⟩:=c
 refine⟨.int j,b,?_,cE (λk z=>(nomatch z)) rfl (q h)⟩
 unfold Kc
 rw[g]
 simp only[Qbq]
 rw[Qhq (show Tag.fr.isL=true from rfl)]
 show((au 1 _ b).bind _)=_
 rw[show au 1 ([D.tup (xs.map enc),D.str x].map some++List.replicate (2- [D.tup (xs.map enc),D.str x].length) none) b=some (.str x,b) from rfl]
 simp only[Qbq]
 rw[Qhq (show Tag.stays b _ .fr from trivial)]
 show(xC (.str x)).bind _=_
 simp only[xC,Qbq]
 rw[nc]
 simp only[Qbq]
 rw[e]
 rfl
def Gw{w:cV}{s:bz}{h i:Nat}{vs:List Int}{fs:List cH}{f:cH}{r:Rm}{rs:c_}{x:Str}{v:Int}(j:s.af[h]?=some (vs,fs))(g:fs.getLast? =some f)(c:f.room=i)(b:w.aj[i]?=some r)(a:s.aj[i]?=some rs)
  (l:r.ao.length=rs.vals.length) (m:r.ao.length<=100) (n:s.aj.length<=100) (k:x∈r.ao.map (·.1))
  (q:Q (.d ({s with aj:=s.aj.set i {rs with vals:=fh (r.ao.map (·.1)) rs.vals x v}}:bz).d) S):Fn fq [w.d,s.d,.int h,.str x,.int v] S Q:=by
 refine bQ ?_
 unfold j_
 symm
 apply bZ j g ?_
 apply aB (d:=.int f.room) rfl ?_
 refine mT ?_
 dsimp only
 rw[Qdq (show¬f.room= -1 by omega),c]
 show if (true=true) then _ else _
 rw[Qhq rfl]
 symm
 apply aB rfl ?_
 refine aB (d:=r.d) (aR (by rw[gQm,b];rfl)) ?_
 symm
 apply aB rfl ?_
 apply pK (enc:=mS) (nm:=(·.1)) gY (by omega) k λo=> ?_
 apply aB rfl ?_
 refine aB (d:=rs.d) (aR (by rw[gQm,a];rfl)) ?_
 symm
 apply aB rfl ?_
 refine dX (xs:=rs.vals.map D.int) (by rw[lQm];omega) (by rw[lQm];omega) (a8 λ_ _=>rfl) rfl ?_
 symm
 refine⟨by show 1<=_;decide,?_⟩
 apply kM ?_
 apply aB rfl ?_
 refine aB (d:=rs.d) (aR (by rw[gQm,a];rfl)) ?_
 apply cJ ?_
 refine⟨_,rfl,cK ⟨_,rfl,?_⟩⟩
 refine dR (by show 5<=_;decide) ?_
 symm
 have e:({rs with vals:=fh (r.ao.map (·.1)) rs.vals x v}:c_).d=.tup ([.tup ((rs.vals.map D.int).set ((oP (.str x) ((r.ao.map (·.1)).map V.str)).getD 0) (.int v))]++gd [cO rs.vals,.int rs.within,cO rs.row,cO rs.ag,.tup (rs.aa.map eL)] (some 1) none):=by
  show D.tup [cO (fh _ _ _ _),_,_,_,_]=_
  unfold fh cO
  rw[map_set]
  rfl
 rw[←e]
 refine dj (gQs.mp a).1 (by omega) ?_
 exact cE (aY _) (bz.low _) q
end
section
variable{S:aF}{Q:Res->aF->Prop}
noncomputable def wL(w:cV)(s:bz)(h:Nat)(ts:List (Str×Nat))(vs:List Int)(fs:List cH)(x:Str)(v:Int):bz:=
 if x∈w.ak.map (·.1) then{s with ak:=fh (w.ak.map (·.1)) s.ak x v} else{s with af:=s.af.set h (fh (ts.map (·.1)) vs x v,fs)}
def Hw{w:cV}{s:bz}{h:Nat}{ts:List (Str×Nat)}{pr:List Rw}{vs:List Int}{fs:List cH}{f:cH}{x:Str}{v:Int}(e:w.af[h]?=some (ts,pr))(b:s.af[h]?=some (vs,fs))(j:fs.getLast? =some f)(g:f.room= -1)
  (r:w.ak.length=s.ak.length) (o:ts.length=vs.length) (t:w.ak.length<=100) (u:ts.length<=100) (y:s.af.length<=100) (n:x∈ts.map (·.1)++w.ak.map (·.1))
  (q:Q (.d (wL w s h ts vs fs x v).d) S):Fn fq [w.d,s.d,.int h,.str x,.int v] S Q:=by
 refine bQ ?_
 unfold j_
 symm
 apply bZ b j ?_
 apply aB (d:=.int f.room) rfl ?_
 refine mT ?_
 dsimp only
 rw[Qeq g]
 refine bq (λc=>by cases c) (λ_=>cB ?_)
 apply aH (ed (cu (Ic ?_)))
 apply aB rfl ?_
 apply fF (enc:=mS) (nm:=(·.1)) gY (by omega) ?_
 refine⟨_,_,rfl,nc _,?_⟩
 unfold wL at q
 show if Ec (.str x) ((w.ak.map (·.1)).map V.str)=true then _ else _
 rw[GL]
 by_cases c:x∈w.ak.map (·.1)
 ·rw[Qhq c] at q
  rw[Qeq c,Qhq rfl]
  symm
  apply aB rfl ?_
  apply aB rfl ?_
  apply pK (enc:=mS) (nm:=(·.1)) gY (by omega) c λl=> ?_
  refine dX (xs:=s.ak.map D.int) (by rw[lQm];omega) (by rw[lQm];omega) (a8 λ_ _=>rfl) rfl ?_
  symm
  apply aB rfl ?_
  apply aB rfl ?_
  apply aB rfl ?_
  refine⟨by show 4<=_;decide,?_⟩
  rw[←map_set]
  exact cE (d:=({s with ak:=fh (w.ak.map (·.1)) s.ak x v}:bz).d) (aY _) (bz.low _) q
 ·rw[Quq c] at q
  rw[Qdq c,Quq (by decide)]
  refine cB ?_
  have a:x∈ts.map (·.1):=(mQa.mp n).resolve_right c
  symm
  apply aB rfl ?_
  refine aB (d:=CP (vs,fs)) (aR (by rw[gQm,b];rfl)) ?_
  apply eF rfl (aC (aV (aC (aV (bx ?_)))))
  apply aB rfl ?_
  refine aB (d:=fH (ts,pr)) (aR (by rw[gQm,e];rfl)) ?_
  symm
  apply aB rfl ?_
  apply pK (enc:=mS) (nm:=(·.1)) gY (by omega) a λl=> ?_
  refine dX (xs:=vs.map D.int) (by rw[lQm];omega) (by rw[lQm];omega) (a8 λ_ _=>rfl) rfl ?_
  symm
  rw[←map_set]
  rw[show D.tup ((vs.set ((oP (.str x) ((ts.map (·.1)).map V.str)).getD 0) v).map D.int)=cO (fh (ts.map (·.1)) vs x v) from rfl]
  generalize fh (ts.map (·.1)) vs x v=nv at q⊢
  have m:h<s.af.length:=(gQs.mp b).1
  have k:s.af.length<=900:=by omega
  have i:Op (settle S ({s with af:=s.af.set h (nv,fs)}:bz).d S) λp=>Q p.1 p.2:=cE (aY _) (bz.low _) q
  exact g6 m k i
end
section
variable{S:aF}{Q:Res->aF->Prop}
noncomputable def gg(ns:List Str)(x:Str):Nat:=(oP (.str x) (ns.map V.str)).getD 0
def j3{ns:List Str}{x:Str}(h:x∈ns):gg ns x<ns.length/\ns[gg ns x]?=some x:=by
 obtain⟨j,b,a⟩:=xa h
 unfold gg
 rw[b]
 exact⟨(gQs.mp a).1,a⟩
def jA{α:Type}{enc:α->D}{nm:α->Str}{xs:List α}{x:Str}(he:∀a,∃r,enc a=.tup (.str (nm a)::r))(hl:xs.length<=1000)(b:x∈xs.map nm)(q:Q (.d (.int (gg (xs.map nm) x:Nat))) S):Fn da [.tup (xs.map enc),.str x] S Q:=pK he hl b λ_=>q
def nB{w:cV}{s:bz}{h i:Nat}{vs:List Int}{fs:List cH}{f:cH}{r:Rm}{x:Str}(e:s.af[h]?=some (vs,fs))(a:fs.getLast? =some f)(b:f.room=i)(c:w.aj[i]?=some r)(j:r.aa.length<=100)(g:x∈r.aa.map (·.1))
  (q:Q (.d (.tup [.int i,.int (gg (r.aa.map (·.1)) x:Nat)])) S):Fn jG [w.d,s.d,.int h,.str x] S Q:=by
 refine bQ ?_
 unfold tO
 symm
 apply bZ e a ?_
 refine aB (d:=.int f.room) rfl ?_
 rw[b]
 symm
 apply aB rfl ?_
 refine aB (d:=r.d) (aR (by rw[gQm,c];rfl)) ?_
 symm
 apply aB rfl ?_
 apply jA (enc:=GU) (nm:=(·.1)) CB (by omega) g ?_
 refine⟨by show 2<=_;decide,?_⟩
 exact cE (λk z=>(nomatch z)) rfl q
def kj{s:bz}{i b:Nat}{rs:c_}{l:List (Int×Int)}(a:s.aj[i]?=some rs)(j:b<rs.aa.length)(h:rs.aa.length<=100)(k:s.aj.length<=100)
  (q:Q (.d ({s with aj:=s.aj.set i {rs with aa:=rs.aa.set b l}}:bz).d) S):Fn fu [s.d,.int i,.int b,eL l] S Q:=by
 refine bQ ?_
 unfold nW
 symm
 apply aB rfl ?_
 refine aB (d:=rs.d) (aR (by rw[gQm,a];rfl)) ?_
 symm
 apply kM ?_
 apply cK (cJ ?_)
 apply⟨_,rfl,_,rfl,?_⟩
 apply aB rfl ?_
 refine dX (xs:=rs.aa.map eL) (by rw[lQm];omega) (by rw[lQm];omega) (a8 λl _=>sT l) (sT l) ?_
 symm
 refine⟨by show 1<=_;decide,?_⟩
 refine dR (by show 5<=_;decide) ?_
 symm
 rw[←map_set]
 generalize c:rs.aa.set b l=nb at q⊢
 have e:({rs with aa:=nb}:c_).d=.tup (gd [cO rs.vals,.int rs.within,cO rs.row,cO rs.ag,.tup (rs.aa.map eL)] none (some 4)++ [.tup (nb.map eL)]):=rfl
 rw[←e]
 have g:i<s.aj.length:=(gQs.mp a).1
 have hl:s.aj.length<=900:=by omega
 have f:Op (settle S ({s with aj:=s.aj.set i {rs with aa:=nb}}:bz).d S) λp=>Q p.1 p.2:=cE (aY _) (bz.low _) q
 exact dj g hl f
noncomputable def gS(p:Int×List Int)(h:Int):Int×List Int:=if 0<p.1 then(p.1-1,p.2) else(p.1,p.2++ [h])
noncomputable def fM(p:Int×List Int):Int×List Int:=match p.2 with
 |_::l=>(p.1,l)
 | []=>(if 9<p.1+1 then 9 else p.1+1,[])
def Ac{w:cV}{s:bz}{h:Int}{x:Str}{p:Int×List Int}(g:x∈w.ai.map (·.1))(b:s.ai[gg (w.ai.map (·.1)) x]?=some p)(l:w.ai.length<=100)(k:s.ai.length<=100)(i:p.2.length<=900)
  (q:Q (.d ({s with ai:=s.ai.set (gg (w.ai.map (·.1)) x) (gS p h)}:bz).d) S):Fn tq [w.d,s.d,.int h,.str x] S Q:=by
 refine bQ ?_
 unfold Bs
 symm
 apply aB rfl ?_
 refine jA (enc:=mS) (nm:=(·.1)) gY (by omega) g ?_
 generalize gg (w.ai.map (·.1)) x=j at b q⊢
 have f:j<s.ai.length:=(gQs.mp b).1
 have hl:s.ai.length<=900:=by omega
 symm
 apply aB rfl ?_
 refine aB (d:=Ci p) (aR (by rw[gQm,b];rfl)) ?_
 refine eF rfl (aC (aV (aC (aV (bx ?_)))))
 have a:Op (settle S ({s with ai:=s.ai.set j (gS p h)}:bz).d S) λp=>Q p.1 p.2:=cE (aY _) (bz.low _) q
 unfold gS at a
 symm
 by_cases c:0<p.1
 ·rw[Qhq c] at a
  rw[Qeq c,Qhq rfl]
  symm
  refine⟨by show 2<=_;decide,?_⟩
  symm
  exact g7 (p:=(p.1-1,p.2)) f hl a
 ·rw[Quq c] at a
  rw[Qdq c,Quq (by decide)]
  apply cB ?_
  refine⟨by show 1<=_;decide,?_⟩
  refine dR (by simp only[lQm,Qnq,QGq];exact nQl (aM (by omega))) ?_
  symm
  refine⟨by show 2<=_;decide,?_⟩
  symm
  have e:D.tup [.int p.1,.tup (p.2.map D.int++ [.int h])]=Ci (p.1,p.2++ [h]):=by simp[Ci,cO]
  rw[e]
  exact g7 f hl a
end
section
variable{S:aF}{Q:Res->aF->Prop}
def m9{w:cV}{s:bz}{x:Str}{p:Int×List Int}(i:x∈w.ai.map (·.1))(b:s.ai[gg (w.ai.map (·.1)) x]?=some p)(k:w.ai.length<=100)(m:s.ai.length<=100)
  (q:Q (.d ({s with ai:=s.ai.set (gg (w.ai.map (·.1)) x) (fM p)}:bz).d) S):Fn gG [w.d,s.d,.str x] S Q:=by
 refine bQ ?_
 unfold kU
 symm
 apply aB rfl ?_
 refine jA (enc:=mS) (nm:=(·.1)) gY (by omega) i ?_
 generalize gg (w.ai.map (·.1)) x=j at b q⊢
 have h:j<s.ai.length:=(gQs.mp b).1
 have hl:s.ai.length<=900:=by omega
 symm
 apply aB rfl ?_
 refine aB (d:=Ci p) (aR (by rw[gQm,b];rfl)) ?_
 refine eF rfl (aC (aV (aC (aV (bx ?_)))))
 have g:Op (settle S ({s with ai:=s.ai.set j (fM p)}:bz).d S) λp=>Q p.1 p.2:=cE (aY _) (bz.low _) q
 obtain⟨v,f⟩:=p
 symm
 refine wz ?_
 cases f with
 | cons a l=>
   apply bq (λ_=> ?_) (λc=>by cases c)
   apply kM ?_
   apply cJ ?_
   apply⟨_,rfl,cK ⟨_,rfl,?_⟩⟩
   refine⟨by show 2<=_;decide,?_⟩
   symm
   have e:D.tup (gd ((a::l).map D.int) (some 1) none)=cO l:=by
     rw[show(some (1:Int))=some ((1:Nat):Int) from rfl,jM (by simp)]
     rfl
   rw[e]
   exact g7 (p:=(v,l)) h hl g
 | nil=>
   apply bq (λc=>by cases c) (λ_=>cB ?_)
   apply Ey ?_
   refine⟨by show 2<=_;decide,?_⟩
   symm
   exact g7 (p:=(if 9<v+1 then 9 else v+1,[])) h hl g
def DK{b sd hd a:D}{s:bz}(q:Q (.d s.d) S):Fn si [b,s.d,hd,a] S Q:=by
 refine bQ ?_
 unfold wR
 symm
 exact cE (aY _) (bz.low _) q
def F1{g:D}{s:bz}{h n:Nat}{vs:List Int}{fs:List cH}{f:cH}(c:s.af[h]?=some (vs,fs))(b:fs.getLast? =some f)(e:fs.length<=900)(hl:s.af.length<=900)(q:Q (.d ({s with af:=s.af.set h (vs,fs.dropLast++ [{f with row:=n}])}:bz).d) S):Fn yd [g,s.d,.int h,(Rw.go n).d] S Q:=by
 refine bQ ?_
 unfold A0
 symm
 apply aB (d:=.int n) rfl ?_
 have a:Op (settle S ({s with af:=s.af.set h (vs,fs.dropLast++ [{f with row:=n}])}:bz).d S) λp=>Q p.1 p.2:=cE (aY _) (bz.low _) q
 exact pW c b e hl a
end
section
variable{S:aF}{Q:Res->aF->Prop}
def AI{w:cV}{s:bz}{h:Int}{x:Str}{p:Int×List Int}(g:x∈w.ai.map (·.1))(c:s.ai[gg (w.ai.map (·.1)) x]?=some p)(f:w.ai.length<=100)(e:s.ai.length<=100)(b:p.2.length<=900)
  (q:Q (.d ({s with ai:=s.ai.set (gg (w.ai.map (·.1)) x) (gS p h)}:bz).d) S):Fn pH [w.d,s.d,.int h,(Rw.take x).d] S Q:=by
 refine bQ ?_
 unfold tw
 symm
 apply aB (d:=.str x) rfl ?_
 have a:Op (settle S ({s with ai:=s.ai.set (gg (w.ai.map (·.1)) x) (gS p h)}:bz).d S) λp=>Q p.1 p.2:=cE (aY _) (bz.low _) q
 exact Ac g c f e b a
def AW{w:cV}{s:bz}{hd:D}{x:Str}{p:Int×List Int}(f:x∈w.ai.map (·.1))(b:s.ai[gg (w.ai.map (·.1)) x]?=some p)(e:w.ai.length<=100)(c:s.ai.length<=100)
  (q:Q (.d ({s with ai:=s.ai.set (gg (w.ai.map (·.1)) x) (fM p)}:bz).d) S):Fn pT [w.d,s.d,hd,(Rw.give x).d] S Q:=by
 refine bQ ?_
 unfold tm
 symm
 apply aB (d:=.str x) rfl ?_
 have a:Op (settle S ({s with ai:=s.ai.set (gg (w.ai.map (·.1)) x) (fM p)}:bz).d S) λp=>Q p.1 p.2:=cE (aY _) (bz.low _) q
 exact m9 f b e c a
end
section
variable{S:aF}{Q:Res->aF->Prop}
def Az(w:cV)(s:bz)(h:Nat)(t:Tr)(v:Int):Prop:=∀(S:aF) (Q:Res->aF->Prop),Q (.d (.int v)) S->Fn dD [w.d,s.d,.int h,t.d] S Q
def Puts(w:cV)(s:bz)(h:Nat)(x:Str)(v:Int)(a:bz):Prop:=∀(S:aF) (Q:Res->aF->Prop),Q (.d a.d) S->Fn fq [w.d,s.d,.int h,.str x,.int v] S Q
def Ax{w:cV}{s:bz}{h:Int}{x y:Str}{p a:Int×List Int}(k:x∈w.ai.map (·.1))(j:y∈w.ai.map (·.1))(i:s.ai[gg (w.ai.map (·.1)) x]?=some p)(c:w.ai.length<=100)(e:s.ai.length<=100)(g:a.2.length<=900)
  (b:(s.ai.set (gg (w.ai.map (·.1)) x) (fM p))[gg (w.ai.map (·.1)) y]?=some a)
  (q:Q (.d ({s with ai:=(s.ai.set (gg (w.ai.map (·.1)) x) (fM p)).set (gg (w.ai.map (·.1)) y) (gS a h)}:bz).d) S):Fn pB [w.d,s.d,.int h,(Rw.pass x y).d] S Q:=by
 refine bQ ?_
 unfold uj
 symm
 apply aB (d:=.str x) rfl ?_
 apply m9 k i c e ?_
 apply aB (d:=.str y) rfl ?_
 have f:Op (settle S ({s with ai:=(s.ai.set (gg (w.ai.map (·.1)) x) (fM p)).set (gg (w.ai.map (·.1)) y) (gS a h)}:bz).d S) λp=>Q p.1 p.2:=cE (aY _) (bz.low _) q
 exact Ac (s:={s with ai:=s.ai.set (gg (w.ai.map (·.1)) x) (fM p)}) j b c (by simpa using e) g f
def Dc{w:cV}{s a:bz}{h:Nat}{x:Str}{t:Tr}{v:Int}(b:Az w s h t v)(c:Puts w s h x v a)(q:Q (.d a.d) S):Fn rY [w.d,s.d,.int h,(Rw.put x t).d] S Q:=by
 refine bQ ?_
 unfold wD
 symm
 apply aB (d:=.str x) rfl ?_
 apply aB (d:=t.d) rfl ?_
 apply b _ _ ?_
 refine c _ _ ?_
 exact cE (aY _) (bz.low _) q
def wH{w:cV}{s:bz}{h n:Nat}{t:Tr}{v:Int}{vs:List Int}{fs:List cH}{f:cH}(e:Az w s h t v)(b:s.af[h]?=some (vs,fs))(a:fs.getLast? =some f)(i:fs.length<=900)(hl:s.af.length<=900)
  (q:Q (.d (if v=0 then({s with af:=s.af.set h (vs,fs.dropLast++ [{f with row:=n}])}:bz) else s).d) S):Fn ko [w.d,s.d,.int h,(Rw.unl t n).d] S Q:=by
 refine bQ ?_
 unfold nq
 symm
 apply aB (d:=t.d) rfl ?_
 apply e _ _ ?_
 refine dH ?_
 dsimp only
 by_cases c:v=0
 ·rw[Qhq c] at q
  rw[Qeq c,Qhq rfl]
  symm
  apply aB (d:=.int n) rfl ?_
  have g:Op (settle S ({s with af:=s.af.set h (vs,fs.dropLast++ [{f with row:=n}])}:bz).d S) λp=>Q p.1 p.2:=cE (aY _) (bz.low _) q
  exact pW b a i hl g
 ·rw[Quq c] at q
  rw[Qdq c,Quq (by decide)]
  apply cB ?_
  exact cE (aY _) (bz.low _) q
end
section
variable{S:aF}{Q:Res->aF->Prop}
def A7{w:cV}{s:bz}{h:Nat}{t:Tr}{v:Int}{vs:List Int}{fs:List cH}{f:cH}(g:Az w s h t v)(e:s.af[h]?=some (vs,fs))(c:fs.getLast? =some f)(j:fs.length<=900)(hl:s.af.length<=900)
  (q:Q (.d ({s with af:=s.af.set h (vs,fs.dropLast++ [{f with told:=v}])}:bz).d) S):Fn pj [w.d,s.d,.int h,(Rw.tell t).d] S Q:=by
 refine bQ ?_
 unfold sW
 symm
 apply aB (d:=t.d) rfl ?_
 apply g _ _ ?_
 apply kM ?_
 refine bZ e c ?_
 apply cK (cJ ?_)
 apply⟨_,rfl,_,rfl,?_⟩
 refine⟨by show 1<=_;decide,?_⟩
 refine dR (by show 5<=_;decide) ?_
 symm
 have k:0<fs.length:=by
  cases fs with
  |nil=>cases c
  |cons a b=>simp
 have i:Op (settle S ({s with af:=s.af.set h (vs,fs.dropLast++ [{f with told:=v}])}:bz).d S) λp=>Q p.1 p.2:=cE (aY _) (bz.low _) q
 exact ic (f:={f with told:=v}) e k j hl i
def DC{w:cV}{s:bz}{h i:Nat}{vs:List Int}{fs:List cH}{f:cH}{r:Rm}{rs:c_}{x:Str}(t:s.af[h]?=some (vs,fs))(m:fs.getLast? =some f)(j:f.room=i)(g:w.aj[i]?=some r)(a:s.aj[i]?=some rs)(n:r.aa.length<=100)(u:r.aa.length=rs.aa.length)(o:s.aj.length<=100)(e:x∈r.aa.map (·.1))
  (q:Q (.d ({s with aj:=s.aj.set i {rs with aa:=rs.aa.set (gg (r.aa.map (·.1)) x) []}}:bz).d) S):Fn sf [w.d,s.d,.int h,(Rw.all x).d] S Q:=by
 have c:=(j3 e).1
 rw[lQm] at c
 refine bQ ?_
 unfold w5
 symm
 apply aB (d:=.str x) rfl ?_
 refine nB t m j g n e ?_
 refine eF rfl (aC (aV (aC (aV (bx ?_)))))
 generalize gg (r.aa.map (·.1)) x=b at c q⊢
 symm
 apply⟨by decide,?_⟩
 have k:Op (settle S ({s with aj:=s.aj.set i {rs with aa:=rs.aa.set b []}}:bz).d S) λp=>Q p.1 p.2:=cE (aY _) (bz.low _) q
 exact kj (l:= []) a (by omega) (by omega) o k
end
section
variable{S:aF}{Q:Res->aF->Prop}
def Ku:∀a:Rm,∃r,a.d=.tup (.str a.name::r):=λa=>⟨_,rfl⟩
def Fw:∀a:Str×List Rw,∃r,i0 a=.tup (.str a.1::r):=λa=>⟨_,rfl⟩
def F0{w:cV}{s:bz}{h:Nat}{g:Option Str}{a c:Str}{t:Tr}{v:Int}{vs:List Int}{fs:List cH}{r:Rm}{rs:c_}(n:Az w s h t v)(l:s.af[h]?=some (vs,fs))(j:a∈w.aj.map (·.name))(k:w.aj[gg (w.aj.map (·.name)) a]?=some r)(b:s.aj[gg (w.aj.map (·.name)) a]?=some rs)(f:c∈r.ae.map (·.1))
  (z:w.aj.length<=100) (B:r.ae.length<=100) (C:s.aj.length<=100) (u:rs.row.length<=900) (y:fs.length<=900) (A:s.af.length<=100)
  (q:Q (.d ({s with af:=s.af.set h (vs,fs++ [⟨(gg (w.aj.map (·.name)) a:Nat),(gg (r.ae.map (·.1)) c:Nat),0,v,0⟩]),aj:=s.aj.set (gg (w.aj.map (·.name)) a) (iK rs h)}:bz).d) S):Fn wK [w.d,s.d,.int h,(Rw.do_ g a c t).d] S Q:=by
 refine bQ ?_
 unfold AS
 symm
 apply aB rfl ?_
 apply aB (d:=.str a) rfl ?_
 refine jA (enc:=Rm.d) (nm:=(·.name)) Ku (by omega) j ?_
 generalize gg (w.aj.map (·.name)) a=i at k b q⊢
 symm
 apply aB rfl ?_
 refine aB (d:=r.d) (aR (by rw[gQm,k];rfl)) ?_
 symm
 apply aB rfl ?_
 apply aB (d:=.str c) rfl ?_
 refine jA (enc:=i0) (nm:=(·.1)) Fw (by omega) f ?_
 generalize gg (r.ae.map (·.1)) c=dd at q⊢
 symm
 apply aB (d:=t.d) rfl ?_
 apply n _ _ ?_
 refine⟨by show 5<=_;decide,?_⟩
 symm
 apply aB rfl ?_
 refine aB (d:=CP (vs,fs)) (aR (by rw[gQm,l];rfl)) ?_
 apply eF rfl (aC (aV (aC (aV (bx ?_)))))
 refine⟨by show 1<=_;decide,?_⟩
 refine dR (by simp only[lQm,Qnq,QGq];exact nQl (aM (by omega))) ?_
 symm
 have e:fs.map cH.d++ [D.tup [.int i,.int dd,.int 0,.int v,.int 0]]=(fs++ [(⟨i,dd,0,v,0⟩:cH)]).map cH.d:=by rw[Qzq];rfl
 rw[e]
 generalize m:fs++ [(⟨i,dd,0,v,0⟩:cH)]=nf at q⊢
 have x:h<s.af.length:=(gQs.mp l).1
 apply g6 (vs:=vs) (fs:=nf) x (by omega) ?_
 have o:Op (settle S ({s with af:=s.af.set h (vs,nf),aj:=s.aj.set i (iK rs h)}:bz).d S) λp=>Q p.1 p.2:=cE (aY _) (bz.low _) q
 exact uw (s:={s with af:=s.af.set h (vs,nf)}) b (by show s.aj.length<=900;omega) u o
end
section
variable{S:aF}{Q:Res->aF->Prop}
noncomputable def uf(free:Bool)(rs:c_)(b:Nat)(h:Int):c_:=match rs.aa[b]? with
 |some (p::l)=>if free then{rs with aa:=rs.aa.set b l} else{rs with aa:=rs.aa.set b l,within:=p.2,ag:=rs.ag++ [h]}
 |_=>rs
def A9{w:cV}{s:bz}{h i:Nat}{vs:List Int}{fs:List cH}{f:cH}{r:Rm}{rs:c_}{x:Str}(J:s.af[h]?=some (vs,fs))(C:fs.getLast? =some f)(A:f.room=i)(u:w.aj[i]?=some r)(k:s.aj[i]?=some rs)(G:r.aa.length<=100)(K:r.aa.length=rs.aa.length)(I:s.aj.length<=100)(L:rs.ag.length<=900)(y:x∈r.aa.map (·.1))
  (q:Q (.d ({s with aj:=s.aj.set i (uf (decide (r.ah="when free")) rs (gg (r.aa.map (·.1)) x) h)}:bz).d) S):Fn pI [w.d,s.d,.int h,(Rw.call x).d] S Q:=by
 have t:=(j3 y).1
 rw[lQm] at t
 have o:i<s.aj.length:=(gQs.mp k).1
 refine bQ ?_
 unfold um
 symm
 apply aB (d:=.str x) rfl ?_
 refine nB J C A u G y ?_
 refine eF rfl (aC (aV (aC (aV (bx ?_)))))
 generalize gg (r.aa.map (·.1)) x=b at t q⊢
 have v:b<rs.aa.length:=by omega
 obtain⟨m,a⟩:∃l,rs.aa[b]?=some l:=⟨_,gQe v⟩
 have g:Op (settle S ({s with aj:=s.aj.set i (uf (decide (r.ah="when free")) rs b h)}:bz).d S) λp=>Q p.1 p.2:=cE (aY _) (bz.low _) q
 unfold uf at g
 rw[a] at g
 symm
 apply aB rfl ?_
 refine aB (d:=rs.d) (aR (by rw[gQm,k];rfl)) ?_
 symm
 apply aB rfl ?_
 refine aB (d:=eL m) (aR (by rw[gQm,a];rfl)) ?_
 symm
 refine wz ?_
 cases m with
 | nil=>
   apply bq (λ_=> ?_) (λc=>by cases c)
   have e:s.aj.set i rs=s.aj:=by
     apply List.ext_getElem?
     intro j
     rw[List.getElem?_set]
     split
     · rename_i c
       subst c
       rw[k]
       first|done|simp[o]
     · rfl
   have z:({s with aj:=s.aj.set i rs}:bz)=s:=by rw[e]
   have n:Op (settle S ({s with aj:=s.aj.set i rs}:bz).d S) λp=>Q p.1 p.2:=g
   rw[z] at n
   exact n
 | cons p l=>
   apply bq (λc=>by cases c) (λ_=>cB ?_)
   apply kM ?_
   apply cJ ?_
   apply⟨_,rfl,cK ⟨_,rfl,?_⟩⟩
   have e:D.tup (gd ((p::l).map pairD) (some 1) none)=eL l:=by
     rw[show(some (1:Int))=some ((1:Nat):Int) from rfl,jM (by simp)]
     rfl
   rw[e]
   refine kj k v (by omega) I ?_
   dsimp only at g
   generalize B:rs.aa.set b l=nb at g⊢
   symm
   apply aB rfl ?_
   refine aB (d:=r.d) (aR (by rw[gQm,u];rfl)) ?_
   symm
   apply aB (d:=.str r.ah) rfl ?_
   refine iy ?_
   dsimp only
   by_cases c:r.ah="when free"
   · rw[Qeq c] at g⊢
     rw[Qhq rfl] at g
     rw[Qhq rfl]
     symm
     exact g
   · rw[Qdq c] at g⊢
     rw[Quq (by decide)] at g
     rw[Quq (by decide)]
     apply cB ?_
     refine aB rfl ?_
     have F:((s.aj.set i {rs with aa:=nb}).map c_.d)[i]?=some ({rs with aa:=nb}:c_).d:=by rw[gQm,Qyq o];rfl
     symm
     refine aB (d:=({rs with aa:=nb}:c_).d) (aR F) ?_
     apply eF rfl (aC (aV (aC (aV (aC (aV (aC (aV (aC (aV (bx ?_)))))))))))
     apply aB (d:=pairD p) Fm ?_
     apply aB (d:=.int p.2) rfl ?_
     refine⟨by show 1<=_;decide,?_⟩
     refine dR (by simp only[lQm,Qnq,QGq];exact nQl (aM (by omega))) ?_
     symm
     refine⟨by show 5<=_;decide,?_⟩
     symm
     have H:D.tup [cO rs.vals,.int p.2,cO rs.row,.tup (rs.ag.map D.int++ [.int h]),.tup (nb.map eL)]=({rs with aa:=nb,within:=p.2,ag:=rs.ag++ [(h:Int)]}:c_).d:=by simp[c_.d,cO]
     rw[H]
     have n:Op (settle S ({s with aj:=(s.aj.set i {rs with aa:=nb}).set i {rs with aa:=nb,within:=p.2,ag:=rs.ag++ [(h:Int)]}}:bz).d S) λp=>Q p.1 p.2:=by rw[List.set_set];exact g
     exact dj (s:={s with aj:=s.aj.set i {rs with aa:=nb}}) (by simpa using o) (by simp;omega) n
end
end W28
namespace DL
open PySem PySem.Spec L2
def j6{α:Type}{u:cq}{S:aF}{js:List (Option Nat)}{i:uN}{g:mB}{t:iG}{o:bp}{Q:List D->aF->Prop}(P:cq->Prop)(enc G:α->D)(c:α->Bool)(R:P (nF js u)) (h:E i u S λp f=>∃xs:List α,p.1=xs.map enc/\p.2 f/\xs.length<=1000∧
   (∀x∈xs,∀a,P a->Tg g (enc x) a f λb S2=>S2=f/\P b/\E t b f λk A=>A=f/\k=c x/\(c x=true->E o b f λy z=>y=G x/\z=f))/\Q ((xs.filter c).map G) f):E (bD js i g t o) u S Q:=by
 refine gM (h.mono λp f F=> ?_)
 obtain⟨xs,B,N,hl,M,q⟩:=F
 refine⟨λn a r j=>r=f/\j=((xs.take n).filter c).map G/\P a,⟨rfl,rfl,R⟩,λn a r j h=>by rw[h.1];exact N,λn d a r j s h=> ?_,λa r j h=> ?_⟩
 ·obtain⟨rfl,rfl,h3⟩:=h
  have s:p.1[n]?=some d:=s
  rw[B,gQm] at s
  obtain⟨x,l,rfl⟩:=oQm.mp s
  obtain⟨b,S2,K,rfl,h4,h5⟩:=M x (mQg l) a h3
  refine⟨b,S2,K,?_⟩
  refine h5.mono λk A v=> ?_
  obtain⟨C,L,H⟩:=v
  subst C L
  have U:=(gQs.mp l).1
  have w:((xs.take (n+1)).filter c).map G=((xs.take n).filter c).map G++if c x=true then [G x] else []:=by
   rw[QYq,l]
   cases m:c x <;>simp[m]
  by_cases m:c x=true
  ·rw[Qhq m]
   refine(H m).mono λy z v=> ?_
   obtain⟨I,J⟩:=v
   subst I J
   refine⟨?_,rfl,?_,h4⟩
   ·rw[lQm]
    have:=List.length_filter_le c (xs.take n)
    rw[Qxq] at this
    exact aM (by omega)
   ·rw[w,Qhq m]
  ·rw[Quq m]
   refine⟨rfl,?_,h4⟩
   rw[w,Quq m,List.append_nil]
 ·obtain⟨rfl,rfl,_⟩:=h
  have e:p.1.length=xs.length:=by rw[B,lQm]
  show Q (((xs.take p.1.length).filter c).map G) _
  rw[e,QEq]
  exact q
end DL
namespace W28
open PySem PySem.Spec L2 DL
section
variable{S:aF}{Q:Res->aF->Prop}
noncomputable def il(l:List (Int×Int))(t h:Int):List (Int×Int):=l.take (l.filter λp=>decide (p.1<=t)).length++ [(t,h)]++l.drop (l.filter λp=>decide (p.1<=t)).length
def BE{w:cV}{s:bz}{h i:Nat}{vs:List Int}{fs:List cH}{f:cH}{r:Rm}{rs:c_}{x u:Str}{t:Tr}{v:Int}{g:List (Int×Int)}(Z:s.af[h]?=some (vs,fs))(U:fs.getLast? =some f)(P:f.room=i)(J:w.aj[i]?=some r)(m:s.aj[i]?=some rs)(X:r.aa.length<=100)(l2:r.aa.length=rs.aa.length)(Y:s.aj.length<=100)(L:x∈r.aa.map (·.1))
  (B:r.aa[gg (r.aa.map (·.1)) x]?=some (x,u)) (k:rs.aa[gg (r.aa.map (·.1)) x]?=some g) (b4:g.length<=900) (H:Az w s h t v)
  (q:Q (.d ({s with aj:=s.aj.set i (cn {rs with aa:=rs.aa.set (gg (r.aa.map (·.1)) x) (il g (if u="turns" then v else 0) h)})}:bz).d) S):Fn pE [w.d,s.d,.int h,(Rw.wait x t).d] S Q:=by
 have C:=(j3 L).1
 rw[lQm] at C
 have hi:i<s.aj.length:=(gQs.mp m).1
 refine bQ ?_
 unfold uB
 symm
 apply aB (d:=.str x) rfl ?_
 refine nB Z U P J X L ?_
 refine eF rfl (aC (aV (aC (aV (bx ?_)))))
 generalize gg (r.aa.map (·.1)) x=b at C q B k⊢
 have W:b<rs.aa.length:=by omega
 symm
 apply aB rfl ?_
 refine aB (d:=r.d) (aR (by rw[gQm,J];rfl)) ?_
 symm
 apply aB rfl ?_
 refine aB (d:=GU (x,u)) (aR (by rw[gQm,B];rfl)) ?_
 symm
 apply aB (d:=.str u) rfl ?_
 refine iy ?_
 dsimp only
 have y:∀j:Int,j=(if u="turns" then v else 0)->T (aE (aX 7 (a_ km (a_ km (a_ km (a_ km (au 1) (cF (.int 0))) (au 4)) (cF (.int 4))) (au 5)))
   (aE (aX 8 (dW (fX (bD [none,none,some 6] (jq (aU (au 7))) (iD (nG 2 (aK (bF 0) (aK (bF 1) df)))) (aP (a_ N3 (au 0) (au 2))) (au 0)))))
   (aE (aX 9 (aA fu (ar (au 1) (ar (au 4) (ar (au 5) (ar (a_ bR (a_ bR (tN (au 7) jP (jH (au 8))) (aW (ar (aW (ar (au 6) (ar (au 2) av))) av))) (tN (au 7) (jH (au 8)) jP)) av))))))
   (cp (aA qw (ar (au 9) (ar (au 4) av)))))))
   [some w.d,some s.d,some (.int h),some (Rw.wait x t).d,some (.int i),some (.int b),some (.int j),none,none,none] S (λo=>match o with
   |.nx _ A=>Op (settle S .non A) λp=>Q p.1 p.2|.rt d A=>Op (settle S d A) λp=>Q p.1 p.2|.rl l A=>Op (fm S l A) λp=>Q p.1 p.2|_=>False):=by
  intro j F
  rw[←F] at q
  symm
  apply aB rfl ?_
  refine aB (d:=rs.d) (aR (by rw[gQm,m];rfl)) ?_
  symm
  apply aB rfl ?_
  refine aB (d:=eL g) (aR (by rw[gQm,k];rfl)) ?_
  symm
  apply j6 (α:=Int×Int) (λz=>∃a b,z= [a,b,some (.int j)]) pairD (λp=>.int p.1) (λp=>decide (p.1<=j)) ⟨none,none,rfl⟩ ?_
  refine cv (ds:=g.map pairD) ?_
  refine⟨g,rfl,trivial,by omega,λp C z I=> ?_,?_⟩
  ·obtain⟨a,b,rfl⟩:=I
   refine eF rfl (aC (aV (aC (aV (bx ?_)))))
   apply⟨rfl,⟨_,_,rfl⟩,?_⟩
   apply⟨rfl,rfl,λ_=> ?_⟩
   exact⟨rfl,rfl⟩
  have N:((g.filter λp=>decide (p.1<=j)).map λp=>D.int p.1).length=(g.filter λp=>decide (p.1<=j)).length:=lQm ..
  have G:=List.length_filter_le (λp=>decide (p.1<=j)) g
  unfold il at q
  symm
  rw[N]
  generalize (g.filter λp=>decide (p.1<=j)).length=n at q G⊢
  apply kM ?_
  apply cK (cJ ?_)
  refine⟨_,rfl,g.map pairD,rfl,?_⟩
  rw[F5 (by rw[lQm];exact G)]
  symm
  refine⟨by show 2<=_;decide,?_⟩
  symm
  refine⟨by show 1<=_;decide,?_⟩
  refine dR (by simp only[lQm,Qxq,Qnq,QGq];exact nQl (aM (by omega))) ?_
  apply kM ?_
  apply cJ ?_
  refine⟨_,rfl,cK ⟨g.map pairD,rfl,?_⟩⟩
  rw[jM (by rw[lQm];exact G)]
  refine dR (by simp only[lQa,lQm,Qxq,List.length_drop,Qnq,QGq];exact nQl (aM (by omega))) ?_
  symm
  have e:D.tup ((g.map pairD).take n++ [D.tup [.int j,.int h]]++(g.map pairD).drop n)=eL (g.take n++ [(j,(h:Int))]++g.drop n):=by
   simp only[eL,Qzq,List.map_take,List.map_drop]
   rfl
  rw[e]
  generalize g.take n++ [(j,(h:Int))]++g.drop n=nl at q⊢
  apply kj m W (by omega) Y ?_
  have K:Op (settle S ({s with aj:=s.aj.set i (cn {rs with aa:=rs.aa.set b nl})}:bz).d S) λp=>Q p.1 p.2:=cE (aY _) (bz.low _) q
  generalize R:({rs with aa:=rs.aa.set b nl}:c_)=nr at K⊢
  have M:Op (settle S ({s with aj:=(s.aj.set i nr).set i (cn nr)}:bz).d S) λp=>Q p.1 p.2:=by rw[List.set_set];exact K
  exact zF (s:={s with aj:=s.aj.set i nr}) (Qyq hi) (by simp;omega) M
 by_cases c:u="turns"
 ·rw[Qeq c,Qhq rfl]
  symm
  apply aB (d:=t.d) rfl ?_
  refine H _ _ ?_
  exact y v (by rw[Qhq c])
 ·rw[Qdq c,Quq (by decide)]
  refine cB ?_
  exact y 0 (by rw[Quq c])
end
end W28
namespace DL
open PySem PySem.Spec L2
section
variable{Γ:cq}{S:aF}
def Oj{a:List (Str×Str)}{g:bp}{Q:D->aF->Prop}(h:E g Γ S λy b=>∃x nm,y=.str x/\a.lookup x=some nm/\Q (.fn nm) b):E (Nh a g) Γ S Q:=by
 obtain⟨y,b,c,x,nm,rfl,e2,q⟩:=h
 exact⟨_,b,by unfold Nh;rw[c];simp only[Qbq];rw[e2];rfl,q⟩
def Hl{i:Nat}{T:List (Str×dr)}{g:fK}{x:Str}{F:dr}{Q:D->aF->Prop}(c:Γ[i]?=some (some (.fn x)))(a:T.lookup x=some F)(h:E (aA F g) Γ S Q):E (ur i T g) Γ S Q:=by
 obtain⟨y,d,b,q⟩:=h
 exact⟨_,d,by unfold ur;rw[c];show(T.lookup x).bind _=_;rw[a];exact b,q⟩
def Gn{f:bp}{Q:D->aF->Prop}(h:E f Γ S λd a=>∃k,d=.bl k/\Q (.bl (!k)) a):E (Et f) Γ S Q:=by
 obtain⟨d,a,b,k,rfl,q⟩:=h
 exact⟨_,a,by unfold Et;rw[b];rfl,q⟩
def vR{a:Bool}{x:D}{Q:D->Prop}(q:Q (.bl (if a then !isNone x else isNone x))):Op (wY a S x .non) Q:=⟨_,rfl,q⟩
end
def vF{α:Type}{xs:List α}{a b:α}:mF (xs++ [a,b]) (-2)=some a:=by
 unfold mF GA
 rw[Quq (by omega),Qhq (by simp;omega)]
 simp only[Qbq]
 rw[show((-2:Int)+((xs++ [a,b]).length:Int)).toNat=xs.length by simp;omega]
 simp
end DL
namespace W28
open PySem PySem.Spec L2 DL
section
variable{S:aF}{Q:Res->aF->Prop}
def Pp:Rw->dr
 |.put _ _=>rY
 |.unl _ _=>ko
 |.go _=>yd
 |.do_ _ _ _ _=>wK
 |.wait _ _=>pE
 |.call _=>pI
 |.all _=>sf
 |.tell _=>pj
 |.take _=>pH
 |.give _=>pT
 |.pass _ _=>pB
 |.say _=>si
noncomputable def Rw.kind:Rw->Str
 |.put _ _=>"put"
 |.unl _ _=>"unless"
 |.go _=>"go"
 |.do_ _ _ _ _=>"do"
 |.wait _ _=>"wait"
 |.call _=>"call"
 |.all _=>"all"
 |.tell _=>"tell"
 |.take _=>"take"
 |.give _=>"give"
 |.pass _ _=>"pass"
 |.say _=>"say"
def Rw.d_kind(r:Rw):∃l,r.d=.tup (.str r.kind::l):=by cases r <;>exact⟨_,rfl⟩
def Ig(r:Rw):∃nm,mD.lookup r.kind=some nm/\t_.lookup nm=some (Pp r):=by
 cases r
 ·exact⟨"by_put",rfl,rfl⟩
 ·exact⟨"by_unless",rfl,rfl⟩
 ·exact⟨"by_go",rfl,rfl⟩
 ·exact⟨"by_do",rfl,rfl⟩
 ·exact⟨"by_wait",rfl,rfl⟩
 ·exact⟨"by_call",rfl,rfl⟩
 ·exact⟨"by_all",rfl,rfl⟩
 ·exact⟨"by_tell",rfl,rfl⟩
 ·exact⟨"by_take",rfl,rfl⟩
 ·exact⟨"by_give",rfl,rfl⟩
 ·exact⟨"by_pass",rfl,rfl⟩
 ·exact⟨"by_say",rfl,rfl⟩
def Jl(w:cV)(s:bz)(h:Nat)(r:Rw)(a:bz):Prop:=∀(S:aF) (Q:Res->aF->Prop),Q (.d a.d) S->Fn (Pp r) [w.d,s.d,.int h,r.d] S Q
def zG{w:cV}{s a:bz}{h:Nat}{r:Rw}(hd:Jl w s h r a)(q:Q (.d a.d) S):Fn jm [w.d,s.d,.int h,r.d] S Q:=by
 obtain⟨nm,b,c⟩:=Ig r
 obtain⟨l,hl⟩:=r.d_kind
 refine bQ ?_
 unfold vy
 apply aH (bO (Oj ?_))
 rw[hl]
 refine aB (d:=.str r.kind) Fm ?_
 rw[←hl]
 refine⟨_,nm,rfl,b,?_⟩
 apply cZ (Hl (x:=nm) rfl c ?_)
 refine hd _ _ ?_
 exact cE (aY _) (bz.low _) q
def rj{w:cV}{s l:bz}{h i:Nat}{vs:List Int}{gs:List cH}{b f:cH}{rs:c_}{pr:List Rw}{g:Option Str}{p o:Str}{t:Tr}(r:s.af[h]?=some (vs,gs++ [b,f]))(v:f.room=i)(k:s.aj[i]?=some rs)(z:s.aj.length<=900)(y:s.af.length<=900)
  (u:progOf w h b=some pr) (B:1<=b.row) (j:pr[(b.row-1).toNat]?=some (.do_ g p o t))
  (e:∀a:bz,a={s with aj:=s.aj.set i (cn rs),af:=s.af.set h (vs,gs++ [b])}->match g with|none=>l=a|some x=>Puts w a h x f.told l)
  (q:Q (.d l.d) S):Fn jj [w.d,s.d,.int h] S Q:=by
 have A:h<s.af.length:=(gQs.mp r).1
 refine bQ ?_
 unfold qf
 symm
 apply aB rfl ?_
 refine aB (d:=CP (vs,gs++ [b,f])) (aR (by rw[gQm,r];rfl)) ?_
 refine eF rfl (aC (aV (aC (aV (bx ?_)))))
 have m:(gs++ [b,f]).map cH.d=gs.map cH.d++ [b.d,f.d]:=by simp
 dsimp only
 rw[m]
 symm
 apply vT ?_
 refine⟨1,rfl,?_⟩
 refine aB (d:=f.d) (zp (by simp)) ?_
 refine eF rfl (aC (aV (aC (aV (aC (aV (aC (aV (aC (aV (bx ?_)))))))))))
 rw[v]
 symm
 apply zF k z ?_
 apply kM ?_
 apply cK (cJ (vT ?_))
 refine⟨1,rfl,_,rfl,_,rfl,?_⟩
 rw[yX (by simp)]
 have n:D.tup ((gs.map cH.d++ [b.d,f.d]).dropLast)=.tup ((gs++ [b]).map cH.d):=by
  rw[show gs.map cH.d++ [b.d,f.d]=(gs.map cH.d++ [b.d])++ [f.d] by simp,List.dropLast_concat]
  simp
 rw[n]
 symm
 refine g6 (s:={s with aj:=s.aj.set i (cn rs)}) A y ?_
 have e:=e _ rfl
 dsimp only at e⊢
 generalize ({s with aj:=s.aj.set i (cn rs),af:=s.af.set h (vs,gs++ [b])}:bz)=a at e⊢
 symm
 apply vT ?_
 refine⟨2,rfl,?_⟩
 apply aB (d:=b.d) vF ?_
 apply gu u ?_
 apply vT ?_
 refine⟨2,rfl,?_⟩
 apply aB (d:=b.d) vF ?_
 apply aB (d:=.int b.row) rfl ?_
 refine aB (d:=(Rw.do_ g p o t).d) (mv (by omega) (by rw[gQm,j];rfl)) ?_
 symm
 apply aB (d:=E9 g) rfl ?_
 refine vR ?_
 cases g with
 | none=>
   dsimp only at e
   subst e
   apply bq (λ_=> ?_) (λc=>by cases c)
   exact cE (aY _) (bz.low _) q
 | some x=>
   apply bq (λc=>by cases c) (λ_=>cB ?_)
   apply aB (d:=.str x) rfl ?_
   refine e _ _ ?_
   exact cE (aY _) (bz.low _) q
end
section
variable{S:aF}{Q:Res->aF->Prop}
noncomputable def Nq(h:Nat):Option Int->D
 |none=>.non
 |some v=>.tup [.int h,.int v]
def Cz(h:Nat)(e:Option Int):cf 0 (Nq h e)=true:=by cases e <;>rfl
noncomputable def Js(s:bz)(h:Nat)(e:Option Int):D:=.tup [s.d,Nq h e]
def r_(s:bz)(h:Nat)(e:Option Int):cf 0 (Js s h e)=true:=by
 simp only[Js,cf,bT,Cz,bz.low,Bool.and_true]
def wc(w:cV)(s:bz)(h:Nat)(a:bz)(e:Option Int):Prop:=∀(S:aF) (Q:Res->aF->Prop),Q (.d (Js a h e)) S->Fn pQ [w.d,s.d,.int h] S Q
def Dg{w:cV}{s:bz}{h i:Nat}{vs:List Int}{fs:List cH}{f:cH}{rs:c_}(l:s.af[h]?=some (vs,fs))(e:fs.getLast? =some f)(c:f.room=i)(a:s.aj[i]?=some rs)(b:rs.within≠h)(j:s.aj.length<=900)(g:rs.row.length<=900):
  wc w s h {s with aj:=s.aj.set i (iK rs h)} none:=by
 intro S Q q
 refine bQ ?_
 unfold lE
 symm
 apply bZ l e ?_
 apply aB (d:=.int f.room) rfl ?_
 refine mT ?_
 dsimp only
 rw[Qdq (show¬f.room= -1 by omega),c]
 show if (true=true) then _ else _
 rw[Qhq rfl]
 symm
 apply aB rfl ?_
 refine aB (d:=rs.d) (aR (by rw[gQm,a];rfl)) ?_
 symm
 apply aB (d:=.int rs.within) rfl ?_
 refine mT ?_
 dsimp only
 rw[Qdq b]
 show if (true=true) then _ else _
 rw[Qhq rfl]
 symm
 apply uw a j g ?_
 refine⟨by show 2<=_;decide,?_⟩
 exact cE (d:=Js _ h none) (λk z=>(nomatch z)) (r_ _ _ _) q
def Here(s:bz)(h:Nat)(f:cH):Prop:=f.room= -1\/∃(i:Nat) (a:c_),f.room=i/\s.aj[i]?=some a/\a.within=h
def vX{w:cV}{s:bz}{h:Nat}{f:cH}{a b c d:Option D}{Q:Bool->aF->Prop}(k:Here s h f)(q:Q false S):E (jl (aP (a_ (e_ true) (au 4) (cF (.int (-1))))) (aP (a_ (e_ true) (a_ km (a_ km (a_ km (au 1) (cF (.int 0))) (au 4)) (cF (.int 1))) (au 2)))) [some w.d,some s.d,some (.int h),some f.d,some (.int f.room),a,b,c] S Q:=by
 rcases k with g|⟨i,j,g,e,l⟩
 ·symm
  refine mT ?_
  dsimp only
  rw[Qeq g]
  show if (false=true) then _ else _
  rw[Quq (by decide)]
  exact q
 ·symm
  refine mT ?_
  dsimp only
  rw[Qdq (show¬f.room= -1 by omega),g]
  show if (true=true) then _ else _
  rw[Qhq rfl]
  symm
  apply aB rfl ?_
  refine aB (d:=j.d) (aR (by rw[gQm,e];rfl)) ?_
  symm
  apply aB (d:=.int j.within) rfl ?_
  refine mT ?_
  dsimp only
  rw[Qeq l]
  exact q
def zX{w:cV}{s b:bz}{h:Nat}{vs:List Int}{fs:List cH}{f:cH}{pr:List Rw}(j:s.af[h]?=some (vs,fs))(g:fs.getLast? =some f)(i:Here s h f)(e:progOf w h f=some pr)(a:f.row=pr.length)
  (he:∀(S:aF) (Q:Res->aF->Prop),Q (.d b.d) S->Fn jj [w.d,s.d,.int h] S Q):wc w s h b none:=by
 intro S Q q
 refine bQ ?_
 unfold lE
 symm
 apply bZ j g ?_
 refine aB (d:=.int f.room) rfl ?_
 refine aH (ed (vX (d:=none) i ?_))
 apply bq (λc=>by cases c) (λ_=>cB ?_)
 apply gu e ?_
 apply aB (d:=.int f.row) rfl ?_
 refine dH ?_
 dsimp only
 rw[lQm,Qeq a,Qhq rfl]
 symm
 apply he _ _ ?_
 refine⟨by show 2<=_;decide,?_⟩
 exact cE (d:=Js _ h none) (λk z=>(nomatch z)) (r_ _ _ _) q
def Km(w:cV)(s:bz)(h:Nat)(r:Rw)(e:Option Int):Prop:=match r with
 |.say t=>∃v,e=some v/\Az w s h t v
 |_=>e=none
def FQ{w:cV}{s j:bz}{h:Nat}{vs:List Int}{fs:List cH}{f:cH}{pr:List Rw}{r:Rw}{e:Option Int}(n:s.af[h]?=some (vs,fs))(m:fs.getLast? =some f)(A:Here s h f)(u:progOf w h f=some pr)(C:0<=f.row)(b:pr[f.row.toNat]?=some r)(x:fs.length<=900)(y:s.af.length<=900)
  (a:Km w s h r e) (hd:Jl w {s with af:=s.af.set h (vs,fs.dropLast++ [{f with row:=f.row+1}])} h r j):wc w s h j e:=by
 intro S Q q
 have B:=(gQs.mp b).1
 refine bQ ?_
 unfold lE
 symm
 apply bZ n m ?_
 refine aB (d:=.int f.room) rfl ?_
 refine aH (ed (vX (d:=none) A ?_))
 apply bq (λc=>by cases c) (λ_=>cB ?_)
 apply gu u ?_
 apply aB (d:=.int f.row) rfl ?_
 refine dH ?_
 dsimp only
 rw[lQm,Qdq (show¬f.row=(pr.length:Int) by omega),Quq (by decide)]
 apply cB ?_
 refine aB (d:=.int f.row) rfl ?_
 refine aB (d:=r.d) (mv C (by rw[gQm,b];rfl)) ?_
 symm
 obtain⟨l,hl⟩:=r.d_kind
 have g:T (cp (aW (ar (aA jm (ar (au 0) (ar (aA kr (ar (au 1) (ar (au 2) (ar (a_ bR (a_ km (au 3) (cF (.int 2))) (cF (.int 1))) av)))) (ar (au 2) (ar (au 6) av))))) (ar (au 7) av))))
   [some w.d,some s.d,some (.int h),some f.d,some (.int f.room),some (.tup (pr.map Rw.d)),some r.d,some (Nq h e)] S (λo=>match o with
   |.nx _ i=>Op (settle S .non i) λp=>Q p.1 p.2|.rt d i=>Op (settle S d i) λp=>Q p.1 p.2|.rl l i=>Op (fm S l i) λp=>Q p.1 p.2|_=>False):=by
  symm
  apply aB (d:=.int f.row) rfl ?_
  apply pW n m x y ?_
  apply zG hd ?_
  refine⟨by show 2<=_;decide,?_⟩
  exact cE (d:=Js _ h e) (λk z=>(nomatch z)) (r_ _ _ _) q
 cases r with
 | say t=>
   obtain⟨v,rfl,hv⟩:=a
   apply aB (d:=.str "say") rfl ?_
   refine iy ?_
   dsimp only
   rw[Qeq rfl,Qhq rfl]
   symm
   apply aB (d:=t.d) rfl ?_
   apply hv _ _ ?_
   refine⟨by show 2<=_;decide,?_⟩
   exact g
 | _=>
   have a:e=none:=a
   subst a
   apply aB rfl ?_
   refine iy ?_
   dsimp only
   refine bq (λc=>absurd (QZq c) (by decide +kernel)) (λ_=>cB ?_)
   exact g
end
end W28
namespace DL
open PySem PySem.Spec L2
section
variable{Γ:cq}{S:aF}
def E2{f:bp}{g:dQ}{Q:D->aF->Prop}(h:E f Γ S λx b=>∃k a,x=.ref k/\b[k]?=some (.lst a)/\E g Γ b λp S2=>∃ds,S2[k]?=some (.lst ds)/\(p.2.isL=false/\ds.length+p.1.length<=sizeLine)/\Q .non (S2.set k (.lst (ds++p.1)))):E (vt f g) Γ S Q:=by
 obtain⟨x,b,c,k,a,rfl,h1,p,S2,e2,ds,h2,h3,q⟩:=h
 exact⟨_,_,by unfold vt;rw[c];simp only[Qbq,e2,h1,h2];rw[Qhq h3],q⟩
end
def Br{S a:aF}{k:Nat}{ds:List D}{Q:Res×aF->Prop}(c:oV S a)(d:S.length<=k)(b:a[k]?=some (.lst ds))(hl:bT S.length ds=true)(q:Q (.l ds,a.take S.length)):Op (settle S (.ref k) a) Q:=by
 refine⟨_,?_,q⟩
 unfold settle
 rw[Qhq c]
 show(if k<S.length then _ else _)=_
 rw[Quq (by omega),b]
 show(if bT S.length ds=true then _ else _)=_
 rw[Qhq hl]
def yq{n:Nat}(h:n<=100000):n<=sizeLine:=QAq h (by decide)
theorem jU:∀a:List Int,ix (a.map D.int)=some (a.map V.int)
 | []=>rfl
 |s::a=>by simp only[QDq,ix,xC,Qbq];rw[jU a];rfl
def xR{x:Int}{b:List Int}:Ec (.int x) (b.map V.int)=decide (x∈b):=by
 induction b with
 |nil=>rfl
 | cons a b e=>
   show(rG (.int a) (.int x)||Ec (.int x) (b.map V.int))=_
   rw[e]
   simp only[rG,Qsq]
   by_cases c:a=x
   · subst c;simp
   · have d:¬x=a:=λz=>c z.symm
     simp[c,d]
end DL
namespace W28
open PySem PySem.Spec L2 DL
section
variable{S:aF}{Q:Res->aF->Prop}
def zK{S b:aF}(x:mr S b):b.take S.length=S:=by
 apply List.ext_getElem?
 intro j
 by_cases a:j<S.length
 ·rw[List.getElem?_take_of_lt a]
  exact x.eq j a
 ·rw[List.getElem?_eq_none (by rw[Qxq];omega),List.getElem?_eq_none (by omega)]
def Kn{S a:aF}{ds:List D}{Q:Res->aF->Prop}(x:mr S a)(hl:bT 0 ds=true)(q:Q (.l ds) S):Op (fm S ds a) λp=>Q p.1 p.2:=
 nX ⟨x.len,λk o b e=>.inl (by rw[←x.eq k b];exact e)⟩ (zK x) (ju hl) q
def ED{S a:aF}{k:Nat}{ds:List D}{Q:Res->aF->Prop}(x:mr S a)(b:S.length<=k)(c:a[k]?=some (.lst ds))(hl:bT 0 ds=true)(q:Q (.l ds) S):Op (settle S (.ref k) a) λp=>Q p.1 p.2:=
 Br ⟨x.len,λk o b e=>.inl (by rw[←x.eq k b];exact e)⟩ b c (ju hl) (by rw[zK x];exact q)
def zI{l:List (Int×Int)}(hl:l.length<=1000)(q:Q (.l ((l.map (·.2)).map D.int)) S):Fn mw [eL l] S Q:=by
 refine bQ ?_
 unfold qt
 symm
 apply tU (α:=Int×Int) (λc=>∃a b,c= [a,b]) pairD (λp=>.int p.2) ⟨none,none,rfl⟩ ?_
 refine cv (ds:=l.map pairD) ?_
 refine⟨l,rfl,trivial,hl,λp f c d=> ?_,?_⟩
 ·obtain⟨a,b,rfl⟩:=d
  refine eF rfl (aC (aV (aC (aV (bx ?_)))))
  apply⟨rfl,⟨_,_,rfl⟩,?_⟩
  exact⟨rfl,rfl⟩
 ·have e:l.map (λp=>D.int p.2)=(l.map (·.2)).map D.int:=by rw[QPq];rfl
  rw[e]
  exact ET (a8 λ_ _=>rfl) q
noncomputable def aO(r:c_):List Int:=r.row++r.ag++r.aa.flatMap λl=>l.map (·.2)
noncomputable def held(s:bz):List Int:=s.ai.flatMap (·.2)++s.aj.flatMap aO
theorem oI{α d:Type}{f:α->List d}{n:Nat}:∀{l:List α},(∀a∈l,(f a).length<=n)->(l.flatMap f).length<=n*l.length
 | [],_=>by simp
 | a::l,h=>by
   have g:=h a (QBq ..)
   have e:=oI (f:=f) (l:=l) λb c=>h b (Qpq _ c)
   rw[QSq,lQa,Qnq,Nat.mul_add]
   omega
def pX{α b:Type}{f:α->List b}{l:List α}{n:Nat}{a:α}(h:l[n]?=some a):(l.take (n+1)).flatMap f=(l.take n).flatMap f++f a:=by
 rw[QYq,h]
 simp
def qG{s:bz}{n:Nat}(M:n<=100)(b1:s.ai.length<=100)(b2:s.aj.length<=20)(L:∀p∈s.ai,p.2.length<=n)(I:∀r∈s.aj,r.row.length<=n/\r.ag.length<=n/\r.aa.length<=10/\∀l∈r.aa,l.length<=n)
  (q:Q (.l ((held s).map D.int)) S):Fn eN [s.d] S Q:=by
 have Y:∀o:List D,mr S (S++ [.lst o]):=λo=>mr.refl.app
 have C:∀r∈s.aj,∀j:Nat,((r.aa.take j).flatMap λl=>l.map (·.2)).length<=1000:=λr C j=>by
  obtain⟨_,_,P,R⟩:=I r C
  have G:=oI (f:=λl:List (Int×Int)=>l.map (·.2)) (n:=n) (l:=r.aa.take j) λl hl=>by rw[lQm];exact R l (List.mem_of_mem_take hl)
  have F:(r.aa.take j).length<=10:=by rw[Qxq];omega
  have Z:n*(r.aa.take j).length<=100*10:=Nat.mul_le_mul M F
  omega
 have K:∀r∈s.aj,(aO r).length<=1200:=λr h=>by
  have J:=C r h r.aa.length
  obtain⟨U,P,_⟩:=I r h
  rw[QEq] at J
  simp only[aO,lQa]
  omega
 have w:∀j:Nat,((s.ai.take j).flatMap (·.2)).length<=10000:=λj=>by
  have G:=oI (f:=λp:Int×List Int=>p.2) (n:=n) (l:=s.ai.take j) λl hl=>L l (List.mem_of_mem_take hl)
  have F:(s.ai.take j).length<=100:=by rw[Qxq];omega
  have Z:n*(s.ai.take j).length<=100*100:=Nat.mul_le_mul M F
  omega
 have H:∀j:Nat,((s.aj.take j).flatMap aO).length<=24000:=λj=>by
  have G:=oI (f:=aO) (n:=1200) (l:=s.aj.take j) λl hl=>K l (List.mem_of_mem_take hl)
  have F:(s.aj.take j).length<=20:=by rw[Qxq];omega
  omega
 refine bQ ?_
 unfold ib
 symm
 refine⟨by decide,?_⟩
 apply aH (fU (k9 ?_))
 refine aB rfl ?_
 refine cv (ds:=s.ai.map Ci) ?_
 refine⟨λj k u=>(∃a b c d e f g,k= [some s.d,some (.ref S.length),a,b,c,d,e,f,g])/\u=S++ [.lst (((s.ai.take j).flatMap (·.2)).map D.int)],⟨⟨_,_,_,_,_,_,_,rfl⟩,rfl⟩,λ_ _ _ _=>trivial,?_,?_⟩
 ·rintro j d k u t ⟨⟨a,b,c,B,e,f,g,rfl⟩,rfl⟩
  have t:(s.ai.map Ci)[j]?=some d:=t
  rw[gQm] at t
  obtain⟨p,N,rfl⟩:=oQm.mp t
  refine eF rfl (aC (aV (aC (aV (bx ?_)))))
  apply mN (E2 ?_)
  apply⟨_,_,rfl,aZ,?_⟩
  refine cv (ds:=p.2.map D.int) ?_
  refine⟨_,aZ,⟨rfl,?_⟩,⟨_,_,_,_,_,_,_,rfl⟩,?_⟩
  ·have:=w j
   have:=L p (mQg N)
   simp only[lQm]
   exact yq (by omega)
  ·rw[pX N,Qzq]
   simp
 rintro k u ⟨⟨a,b,c,B,e,f,g,rfl⟩,rfl⟩
 have hl:(s.ai.map Ci).length=s.ai.length:=lQm ..
 rw[hl,QEq]
 apply aH (fU (k9 ?_))
 refine aB rfl ?_
 refine cv (ds:=s.aj.map c_.d) ?_
 refine⟨λj k u=>(∃a b c d e f g,k= [some s.d,some (.ref S.length),a,b,c,d,e,f,g])/\u=S++ [.lst ((s.ai.flatMap (·.2)++(s.aj.take j).flatMap aO).map D.int)],⟨⟨_,_,_,_,_,_,_,rfl⟩,by simp⟩,λ_ _ _ _=>trivial,?_,?_⟩
 ·rintro j d k u t ⟨⟨a,b,c,B,e,f,g,rfl⟩,rfl⟩
  have t:(s.aj.map c_.d)[j]?=some d:=t
  rw[gQm] at t
  obtain⟨r,x,rfl⟩:=oQm.mp t
  have v:=mQg x
  obtain⟨U,P,R,G⟩:=I r v
  have z:(s.ai.flatMap (·.2)++(s.aj.take j).flatMap aO).length<=34000:=by
   have:=w s.ai.length
   rw[QEq] at this
   have:=H j
   rw[lQa]
   omega
  generalize y:s.ai.flatMap (·.2)++(s.aj.take j).flatMap aO=o at z⊢
  refine eF rfl (aC (aV (aC (aV (aC (aV (aC (aV (aC (aV (bx ?_)))))))))))
  apply aH (mN (E2 ?_))
  apply⟨_,_,rfl,aZ,?_⟩
  refine dR (i:=r.row.map D.int) (j:=r.ag.map D.int) (by simp only[lQm];exact yq (by omega)) ?_
  refine cv ?_
  refine⟨_,aZ,⟨rfl,?_⟩,?_⟩
  ·simp only[lQa,lQm]
   exact yq (by omega)
  dsimp only
  have X:(S++ [O.lst (o.map D.int)]).set S.length (.lst (o.map D.int++(r.row.map D.int++r.ag.map D.int)))=S++ [.lst ((o++(r.row++r.ag)).map D.int)]:=by simp
  rw[X]
  apply fU (k9 ?_)
  refine⟨λj k u=>(∃a b c d e f g,k= [some s.d,some (.ref S.length),a,b,c,d,e,f,g])/\u=S++ [.lst ((o++(r.row++r.ag)++(r.aa.take j).flatMap λl=>l.map (·.2)).map D.int)],⟨⟨_,_,_,_,_,_,_,rfl⟩,by simp⟩,λ_ _ _ _=>trivial,?_,?_⟩
  ·rintro m d k u t ⟨⟨a,b,c,B,e,f,g,rfl⟩,rfl⟩
   have t:(r.aa.map eL)[m]?=some d:=t
   rw[gQm] at t
   obtain⟨l,A,rfl⟩:=oQm.mp t
   have W:=G l (mQg A)
   refine aV ?_
   apply mN (CS ?_)
   apply⟨_,_,rfl,aZ,?_⟩
   apply zI (by omega) ?_
   refine⟨_,aZ,⟨rfl,?_⟩,⟨_,_,_,_,_,_,_,rfl⟩,?_⟩
   ·have:=C r v m
    simp only[lQa,lQm]
    exact yq (by omega)
   ·rw[pX A,←Qvq,Qzq]
    simp
  ·rintro k u ⟨J,rfl⟩
   refine⟨J,?_⟩
   have hl:(r.aa.map eL).length=r.aa.length:=lQm ..
   rw[hl,QEq,pX x]
   subst y
   simp only[aO,Qvq]
 ·rintro k u ⟨⟨a,b,c,B,e,f,g,rfl⟩,rfl⟩
  have hl:(s.aj.map c_.d).length=s.aj.length:=lQm ..
  rw[hl,QEq]
  symm
  exact ED (Y _) (Qmq _) aZ (a8 λ_ _=>rfl) q
end
end W28
namespace DL
open PySem PySem.Spec L2
def ki{b:cq}{S:aF}{f g:bp}{Q:D->aF->Prop}(h:E f b S λd a=>∃k,d=.bl k/\if k=true then E g b a Q else Q (.bl false) a):E (qK f g) b S Q:=by
 obtain⟨d,a,c,k,rfl,q⟩:=h
 cases k with
 |true=>obtain⟨j,i,e,q⟩:=(q:E g b a Q);exact⟨j,i,by unfold qK;rw[c];exact e,q⟩
 |false=>exact⟨_,a,by unfold qK;rw[c];rfl,q⟩
end DL
namespace W28
open PySem PySem.Spec L2 DL
section
variable{S:aF}{Q:Res->aF->Prop}
noncomputable def F3(s:bz)(h:Nat):Option cH:=(s.af[h]?).bind λp=>p.2.getLast?
noncomputable def zL(w:cV)(s:bz)(h:Nat):Bool:=match F3 s h with
 |some f=>decide (f.room= -1)&&decide (f.row=(((progOf w h f).getD []).length:Int))
 |none=>false
def qo{w:cV}{s:bz}{h:Nat}{vs:List Int}{fs:List cH}{f:cH}{pr:List Rw}(e:s.af[h]?=some (vs,fs))(a:fs.getLast? =some f)(b:progOf w h f=some pr)(q:Q (.d (.bl (zL w s h))) S):Fn fS [w.d,s.d,.int h] S Q:=by
 have g:zL w s h=(decide (f.room= -1)&&decide (f.row=(pr.length:Int))):=by
  unfold zL F3
  rw[e]
  show(match fs.getLast? with|some f=>_|none=>_)=_
  rw[a]
  simp only[b,Option.getD_some]
 rw[g] at q
 refine bQ ?_
 unfold iq
 symm
 apply bZ e a ?_
 apply ki ?_
 apply aB (d:=.int f.room) rfl ?_
 refine dH ?_
 refine⟨_,rfl,?_⟩
 by_cases c:f.room= -1
 ·rw[Qeq c] at q⊢
  rw[Qhq rfl]
  symm
  apply aB (d:=.int f.row) rfl ?_
  apply gu b ?_
  refine dH ?_
  rw[lQm]
  exact cE (λk z=>(nomatch z)) rfl q
 ·rw[Qdq c] at q⊢
  rw[Quq (by decide)]
  exact cE (λk z=>(nomatch z)) rfl q
noncomputable def Bz(w:cV)(s:bz):List Nat:=(List.range s.af.length).filter λh=> !decide ((h:Int)∈held s)&& !zL w s h
noncomputable def K5(h:Nat):D:=.int h
def Jf(w:cV)(s:bz):Prop:=∀(S:aF) (Q:Res->aF->Prop),Q (.l ((Bz w s).map K5)) S->Fn jE [w.d,s.d] S Q
def yM{w:cV}{s:bz}(o:∀(S:aF) (Q:Res->aF->Prop),Q (.l ((held s).map D.int)) S->Fn eN [s.d] S Q)(j:∀h<s.af.length,∃vs fs f pr,s.af[h]?=some (vs,fs)/\fs.getLast? =some f/\progOf w h f=some pr)(p:s.af.length<=100):Jf w s:=by
 intro S Q q
 refine bQ ?_
 unfold p8
 symm
 apply o _ _ ?_
 apply j6 (α:=Nat) (λb=>∃a,b= [a,some w.d,some s.d,some (.ref S.length)]) (λ(i:Nat)=>D.int (0+(i:Int))) K5 (λh=> !decide ((h:Int)∈held s)&& !zL w s h) ⟨none,rfl⟩ ?_
 apply aB rfl ?_
 refine⟨_,rfl,?_,?_⟩
 ·simp only[lQm]
  omega
 refine⟨List.range s.af.length,?_,trivial,by simp;omega,λh n b e=> ?_,?_⟩
 ·simp only[iE,lQm]
  rfl
 ·obtain⟨a,rfl⟩:=e
  obtain⟨vs,fs,f,pr,k,g,m⟩:=j h (List.mem_range.mp n)
  refine aV ⟨rfl,⟨_,rfl⟩,?_⟩
  rw[Int.zero_add]
  apply qh (cu (Ic ?_))
  refine bP (ds:=(held s).map D.int) aZ ?_
  refine⟨_,_,rfl,jU _,?_⟩
  rw[xR]
  by_cases c:(h:Int)∈held s
  ·rw[Qeq c]
   refine bq (λc=>by cases c) (λ_=> ?_)
   exact⟨rfl,rfl,λc=>by cases c⟩
  ·rw[Qdq c]
   apply bq (λ_=> ?_) (λc=>by cases c)
   refine qo k g m ?_
   dsimp only
   refine qi ?_
   apply⟨rfl,rfl,λ_=> ?_⟩
   exact⟨rfl,rfl⟩
 ·refine Kn (mr.refl.app) (a8 λ_ _=>rfl) q
def AF{w:cV}{s b:bz}{h:Nat}{e:Option Int}(f:Jf w s)(g:h∈Bz w s)(a:wc w s h b e)(q:Q (.d (Js b h e)) S):Fn pw [w.d,s.d,.int h] S Q:=by
 refine bQ ?_
 unfold uG
 apply aH (ed (cu (Ic ?_)))
 refine f _ _ ?_
 dsimp only
 have i:(Bz w s).map K5=((Bz w s).map λh:Nat=>(h:Int)).map D.int:=by rw[QPq];rfl
 refine⟨_,_,rfl,by rw[i];exact jU _,?_⟩
 rw[xR,Qeq (Qkq.mpr ⟨h,g,rfl⟩)]
 apply bq (λc=>by cases c) (λ_=>cB ?_)
 refine a _ _ ?_
 exact cE (λk z=>(nomatch z)) (r_ _ _ _) q
end
structure kq(n:Nat)(r:Rm)(rs:c_):Prop where
 lv:r.ao.length=rs.vals.length
 lb:r.aa.length=rs.aa.length
 vv:∀v∈rs.vals,0<=v/\v<=9
 br:rs.row.length<=n
 bl:rs.ag.length<=n
 bb:∀l∈rs.aa,l.length<=n
structure Fd(w:cV)(h:Nat)(f:cH):Prop where
 pr:∃pr,progOf w h f=some pr/\0<=f.row/\f.row<=pr.length
 gv:0<=f.given/\f.given<=9
 tv:0<=f.told/\f.told<=9
def NJ(w:cV)(h:Nat)(f:cH):Prop:=∃a g c b t,progOf w h f=some a/\1<=f.row/\a[(f.row-1).toNat]?=some (.do_ g c b t)
def iQ:List cH->Prop
 | []=>False
 |f0::tl=>f0.room= -1/\∀f∈tl,f.room≠-1
structure jf(w:cV)(n h:Nat)(ts:List (Str×Nat))(vs:List Int)(fs:List cH):Prop where
 lv:ts.length=vs.length
 vv:∀v∈vs,0<=v/\v<=9
 lf:fs.length<=n
 fr:∀f∈fs,Fd w h f
 hd:iQ fs
 ch:∀f∈fs.dropLast,NJ w h f
structure cD(w:cV)(n:Nat)(s:bz):Prop where
 lr:w.aj.length=s.aj.length
 rm:∀(i:Nat) (r:Rm) (rs:c_),w.aj[i]?=some r->s.aj[i]?=some rs->kq n r rs
 lp:w.ai.length=s.ai.length
 ps:∀p∈s.ai,p.2.length<=n
 ls:w.ak.length=s.ak.length
 sv:∀v∈s.ak,0<=v/\v<=9
 lh:w.af.length=s.af.length
 hd:∀(h:Nat) (ts:List (Str×Nat)) (pr:List Rw) (vs:List Int) (fs:List cH),w.af[h]?=some (ts,pr)->s.af[h]?=some (vs,fs)->jf w n h ts vs fs
def kq.mono{n m:Nat}{r:Rm}{rs:c_}(h:kq n r rs)(l:n<=m):kq m r rs:=⟨h.lv,h.lb,h.vv,QAq h.br l,QAq h.bl l,λx a=>QAq (h.bb x a) l⟩
def jf.mono{w:cV}{n m h:Nat}{ts:List (Str×Nat)}{vs:List Int}{fs:List cH}(x:jf w n h ts vs fs)(l:n<=m):jf w m h ts vs fs:=⟨x.lv,x.vv,QAq x.lf l,x.fr,x.hd,x.ch⟩
def cD.mono{w:cV}{n m:Nat}{s:bz}(x:cD w n s)(l:n<=m):cD w m s:=⟨x.lr,λi r f b a=>(x.rm i r f b a).mono l,x.lp,λp d=>QAq (x.ps p d) l,x.ls,x.sv,x.lh,λh j c e g b a=>(x.hd h j c e g b a).mono l⟩
def get_set{α:Type}{l:List α}{i j:Nat}{a b:α}(h:(l.set i a)[j]?=some b):(j=i/\b=a)\/(j≠i/\l[j]?=some b):=by
 rw[List.getElem?_set] at h
 split at h
 ·rename_i c
  split at h
  ·cases h;exact .inl ⟨c.symm,rfl⟩
  ·cases h
 ·rename_i c
  exact .inr ⟨λz=>c z.symm,h⟩
def cD.room{w:cV}{n i:Nat}{s:bz}{r:Rm}{nr:c_}(x:cD w n s)(f:w.aj[i]?=some r)(e:kq n r nr):cD w n {s with aj:=s.aj.set i nr} where
 lr:=by simpa using x.lr
 rm:=λj d a c b=>by
  rcases get_set b with⟨rfl,rfl⟩|⟨_,b⟩
  ·rw[f] at c;cases c;exact e
  ·exact x.rm j d a c b
 lp:=x.lp
 ps:=x.ps
 ls:=x.ls
 sv:=x.sv
 lh:=x.lh
 hd:=x.hd
def cD.pass{w:cV}{n i:Nat}{s:bz}{p:Int×List Int}(x:cD w n s)(b:p.2.length<=n):cD w n {s with ai:=s.ai.set i p} where
 lr:=x.lr
 rm:=x.rm
 lp:=by simpa using x.lp
 ps:=λq a=>by
  rcases QTq a with a|rfl
  ·exact x.ps q a
  ·exact b
 ls:=x.ls
 sv:=x.sv
 lh:=x.lh
 hd:=x.hd
def cD.share{w:cV}{n:Nat}{s:bz}{vs:List Int}(x:cD w n s)(hl:vs.length=s.ak.length)(a:∀v∈vs,0<=v/\v<=9):cD w n {s with ak:=vs}:=⟨x.lr,x.rm,x.lp,x.ps,by rw[x.ls,←hl],a,x.lh,x.hd⟩
def cD.hand{w:cV}{n h:Nat}{s:bz}{ts:List (Str×Nat)}{pr:List Rw}{vs:List Int}{fs:List cH}(x:cD w n s)(i:w.af[h]?=some (ts,pr))(k:jf w n h ts vs fs):cD w n {s with af:=s.af.set h (vs,fs)} where
 lr:=x.lr
 rm:=x.rm
 lp:=x.lp
 ps:=x.ps
 ls:=x.ls
 sv:=x.sv
 lh:=by simpa using x.lh
 hd:=λj f c g a d b=>by
  rcases get_set b with⟨rfl,e⟩|⟨_,b⟩
  ·rw[i] at d;cases d;cases e;exact k
  ·exact x.hd j f c g a d b
def ir{α:Type}{l:List α}{a:α}(h:l.getLast? =some a):l=l.dropLast++ [a]:=by
 cases l with
 |nil=>cases h
 | cons x y=>
   have b:x::y≠[]:=by simp
   rw[List.getLast?_eq_some_getLast b] at h
   cases h
   exact(List.dropLast_concat_getLast b).symm
def iQ.last{fs:List cH}{f f':cH}:∀{b:List cH},iQ (b++ [f])->f'.room=f.room->iQ (b++ [f'])
 | [],h,e=>⟨by rw[e];exact h.1,λ_ z=>by cases z⟩
 | a::l,h,e=>⟨h.1,λx c=>by
   rcases mQa.mp c with c|c
   · exact h.2 x (mQa.mpr (.inl c))
   · rw[Qfq.mp c,e];exact h.2 f (mQa.mpr (.inr (Qfq.mpr rfl)))⟩
def iQ.push{f':cH}:∀{fs:List cH},iQ fs->f'.room≠-1->iQ (fs++ [f'])
 | [],h,_=>h.elim
 | a::l,h,e=>⟨h.1,λx b=>by
   rcases mQa.mp b with b|b
   · exact h.2 x b
   · rw[Qfq.mp b];exact e⟩
def iQ.pop{c f:cH}:∀{gs:List cH},iQ (gs++ [c,f])->iQ (gs++ [c])
 | [],h=>⟨h.1,λ_ z=>by cases z⟩
 | a::l,h=>⟨h.1,λx b=>h.2 x (by
   rcases mQa.mp b with b|b
   · exact mQa.mpr (.inl b)
   · exact mQa.mpr (.inr (by rw[Qfq.mp b];simp)))⟩
def iQ.two{f:cH}:∀{b:List cH},iQ (b++ [f])->f.room≠-1->∃gs c,b=gs++ [c]
 | [],h,e=>absurd h.1 e
 |a::l,h,e=>⟨(a::l).dropLast,(a::l).getLast (by simp),(List.dropLast_concat_getLast (by simp)).symm⟩
section
variable{w:cV}{n h:Nat}{ts:List (Str×Nat)}{vs:List Int}{fs:List cH}{f f' f2:cH}
def jf.setLast(x:jf w n h ts vs fs)(d:fs.getLast? =some f)(e:f'.room=f.room)(i:Fd w h f'):jf w n h ts vs (fs.dropLast++ [f']):=by
 have b:=ir d
 have c:=x.hd
 rw[b] at c
 refine⟨x.lv,x.vv,?_,λg a=> ?_,iQ.last (fs:=fs) c e,λg a=> ?_⟩
 ·have:=congrArg List.length b
  have:=x.lf
  simp only[lQa,Qnq,QGq] at *
  omega
 ·rcases mQa.mp a with a|a
  ·exact x.fr g (List.dropLast_subset _ a)
  ·rw[Qfq.mp a];exact i
 ·rw[List.dropLast_concat] at a
  exact x.ch g a
def jf.push(x:jf w n h ts vs fs)(b:fs.getLast? =some f)(d:NJ w h f)(e:f'.room≠-1)(i:Fd w h f'):jf w (n+1) h ts vs (fs++ [f']):=by
 refine⟨x.lv,x.vv,?_,λg a=> ?_,x.hd.push e,λg a=> ?_⟩
 ·have:=x.lf
  simp only[lQa,Qnq,QGq]
  omega
 ·rcases mQa.mp a with a|a
  ·exact x.fr g a
  ·rw[Qfq.mp a];exact i
 ·rw[List.dropLast_concat,ir b] at a
  rcases mQa.mp a with a|a
  ·exact x.ch g a
  ·rw[Qfq.mp a];exact d
def jf.pop{gs:List cH}(x:jf w n h ts vs (gs++ [f2,f])):jf w n h ts vs (gs++ [f2])/\NJ w h f2:=by
 have e:(gs++ [f2,f]).dropLast=gs++ [f2]:=by rw[show gs++ [f2,f]=(gs++ [f2])++ [f] by simp,List.dropLast_concat]
 have b:=x.ch
 rw[e] at b
 refine⟨⟨x.lv,x.vv,?_,λg a=>x.fr g ?_,x.hd.pop,λg a=>b g ?_⟩,b f2 (by simp)⟩
 ·have:=x.lf
  simp only[lQa,Qnq,QGq] at *
  omega
 ·rcases mQa.mp a with a|a
  ·exact mQa.mpr (.inl a)
  ·exact mQa.mpr (.inr (by rw[Qfq.mp a];simp))
 ·rw[List.dropLast_concat] at a
  exact mQa.mpr (.inl a)
def jf.vals{a:List Int}(x:jf w n h ts vs fs)(hl:a.length=vs.length)(b:∀v∈a,0<=v/\v<=9):jf w n h ts a fs:=⟨by rw[x.lv,hl],b,x.lf,x.fr,x.hd,x.ch⟩
def jf.last(x:jf w n h ts vs fs):∃f,fs.getLast? =some f/\Fd w h f:=by
 have:=x.hd
 cases fs with
 |nil=>exact this.elim
 | cons a l=>
   refine⟨_,List.getLast?_eq_some_getLast (by simp),x.fr _ (List.getLast_mem (by simp))⟩
end
def nM{w:cV}{h:Nat}{f:cH}{pr:List Rw}(a:progOf w h f=some pr):(f.room= -1/\∃ts,w.af[h]?=some (ts,pr))\/∃(i j:Nat) (r:Rm) (b:Str),f.room=i/\f.deed=j/\w.aj[i]?=some r/\r.ae[j]?=some (b,pr):=by
 unfold progOf at a
 split at a
 ·rename_i c
  obtain⟨⟨ts,e⟩,g,d⟩:=oQm.mp a
  cases d
  exact .inl ⟨c,ts,g⟩
 ·split at a
  ·rename_i c
   obtain⟨r,g,d⟩:=aq a
   obtain⟨⟨b,e⟩,l,k⟩:=oQm.mp d
   cases k
   exact .inr ⟨f.room.toNat,f.deed.toNat,r,b,by omega,by omega,g,l⟩
  ·cases a
def D2{w:cV}{h i j:Nat}{f:cH}{r:Rm}{a:Str}{pr:List Rw}(d:f.room=i)(c:f.deed=j)(e:w.aj[i]?=some r)(b:r.ae[j]?=some (a,pr)):progOf w h f=some pr:=by
 unfold progOf
 rw[Quq (by omega),Qhq ⟨by omega,by omega⟩,d,c]
 show(w.aj[i]?).bind _=_
 rw[e]
 show(r.ae[j]?).map _=_
 rw[b]
 rfl
noncomputable def CV(w:cV)(h:Nat)(f:cH):Option Sc:=if f.room= -1 then(w.af[h]?).map λp=>⟨true,p.1.map (·.1)++w.ak.map (·.1),p.1.map (·.1)++w.ak.map (·.1),[],bE w.aj,w.ai.map (·.1)⟩
 else(w.aj[f.room.toNat]?).map λr=>⟨false,r.ao.map (·.1)++cX,r.ao.map (·.1),r.aa.map (·.1),bE w.aj,[]⟩
def Gf{w:cV}{h:Nat}{f:cH}{pr:List Rw}(o:dF w)(g:progOf w h f=some pr):∃d,CV w h f=some d/\Ag d pr:=by
 unfold CV
 rcases nM g with⟨c,m,a⟩|⟨i,j,r,k,a,l,b,e⟩
 ·rw[Qhq c,a]
  exact⟨_,rfl,(o.hd _ (mQg a)).pr⟩
 ·rw[Quq (by omega),a]
  refine⟨_,by rw[show((i:Int)).toNat=i by omega,b];rfl,((o.rm _ (mQg b)).pr _ (mQg e)).1⟩
def wg{w:cV}(o:dF w):cD w 1 (bM w) where
 lr:=by simp[bM]
 rm:=λi r n c d=>by
  simp only[bM,gQm,c,Option.map_some,Option.some.injEq] at d
  subst d
  have e:=o.rm r (mQg c)
  refine⟨by simp[c9,fw],by simp[c9],λv b=> ?_,by simp[c9],by simp[c9],λl hl=> ?_⟩
  ·simp only[c9,fw,Qkq] at b
   obtain⟨p,a,rfl⟩:=b
   have:=e.tv p a
   omega
  ·simp only[c9,Qkq] at hl
   obtain⟨p,a,rfl⟩:=hl
   simp
 lp:=by simp[bM]
 ps:=λp a=>by
  simp only[bM,Qkq] at a
  obtain⟨p,a,rfl⟩:=a
  simp
 ls:=by simp[bM,fw]
 sv:=λv b=>by
  simp only[bM,fw,Qkq] at b
  obtain⟨p,a,rfl⟩:=b
  have:=o.sv p a
  omega
 lh:=by simp[bM]
 hd:=λh q j m k c d=>by
  simp only[bM,gQm,c,Option.map_some,Option.some.injEq] at d
  cases d
  have e:=o.hd _ (mQg c)
  refine⟨by simp[fw],λv b=> ?_,by simp,λf g=> ?_,⟨rfl,λ_ z=>by cases z⟩,λf g=>by cases g⟩
  ·simp only[fw,Qkq] at b
   obtain⟨p,a,rfl⟩:=b
   have:=e.tv p a
   omega
  ·rw[Qfq.mp g]
   refine⟨⟨j,?_,by decide,?_⟩,by decide,by decide⟩
   ·unfold progOf
    rw[Qhq (show FP.room= -1 from rfl),c]
    rfl
   ·show(0:Int)<=_
    omega
section
variable{w:cV}{n h:Nat}{s:bz}{vs:List Int}{fs:List cH}{f:cH}{sc:Sc}
def cD.whand(x:cD w n s)(a:s.af[h]?=some (vs,fs)):∃ts pr,w.af[h]?=some (ts,pr)/\jf w n h ts vs fs:=by
 have hl:h<w.af.length:=by rw[x.lh];exact(gQs.mp a).1
 exact⟨_,_,gQe hl,x.hd h _ _ vs fs (gQe hl) a⟩
def cD.wroom{i:Nat}{r:Rm}(x:cD w n s)(a:w.aj[i]?=some r):∃rs,s.aj[i]?=some rs/\kq n r rs:=by
 have hl:i<s.aj.length:=by rw[←x.lr];exact(gQs.mp a).1
 exact⟨_,gQe hl,x.rm i r _ a (gQe hl)⟩
def lO{t:Sc}(a:CV w h f=some t):(f.room= -1/\∃ts pr,w.af[h]?=some (ts,pr)/\t=⟨true,ts.map (·.1)++w.ak.map (·.1),ts.map (·.1)++w.ak.map (·.1),[],bE w.aj,w.ai.map (·.1)⟩)∨
  (f.room≠-1/\∃r,w.aj[f.room.toNat]?=some r/\t=⟨false,r.ao.map (·.1)++cX,r.ao.map (·.1),r.aa.map (·.1),bE w.aj,[]⟩):=by
 unfold CV at a
 split at a
 ·rename_i c
  obtain⟨⟨ts,pr⟩,d,b⟩:=oQm.mp a
  exact .inl ⟨c,ts,pr,d,b.symm⟩
 ·rename_i c
  obtain⟨r,d,b⟩:=oQm.mp a
  exact .inr ⟨c,r,d,b.symm⟩
def qF(x:Fd w h f)(c:f.room≠-1):f.room=(f.room.toNat:Int):=by
 obtain⟨d,b,_⟩:=x.pr
 rcases nM b with⟨a,_⟩|⟨i,_,_,_,e,_⟩
 ·exact absurd a c
 ·omega
def mi{t:Tr}(o:dF w)(x:cD w n s)(A:s.af[h]?=some (vs,fs))(u:fs.getLast? =some f)(p:CV w h f=some sc)(ht:HV sc t):∃v,(0<=v/\v<=9)/\Az w s h t v:=by
 obtain⟨m,J,l,i⟩:=x.whand A
 have C:=o.hd _ (mQg l)
 have j:=i.fr f (QcQ u)
 have L:=o.l3
 have G:=C.l1
 have B:=x.ls
 rcases lO p with⟨c,F,H,e,rfl⟩|⟨c,r,hr,rfl⟩
 ·rw[l] at e
  cases e
  have a:kZ (Dj w s m vs):=kZ.merge (g_ x.sv) (g_ i.vv)
  refine⟨Ar (numAt (Dj w s m vs)) (λ_=>0) t,?_,λS Q q=>xY l A u c B i.lv (by omega) (by dsimp only at G;omega) x.sv i.vv ht.1 (by have:=ht.2;omega) q⟩
  refine mj (ws:=m.map (·.1)++w.ak.map (·.1)) (bs:= []) (λy b=> ?_) ht.1
  refine(pP a (gE ?_)).2
  rcases mQa.mp b with b|b
  ·exact .inr (hU i.lv b)
  ·exact .inl (hU B b)
 ·obtain⟨z,k,g⟩:=x.wroom hr
  have d:=o.rm r (mQg hr)
  have I:=d.l1
  have K:=d.l2
  have a:kZ (vm r z f.given):=(g_ g.vv).put j.gv.1 j.gv.2
  refine⟨Ar (numAt (vm r z f.given)) (Ae r z) t,?_,λS Q q=>u0 A u (qF j c) hr k g.lv g.lb (by omega) (by omega) g.vv j.gv ht.1 (by have:=ht.2;omega) q⟩
  refine mj (ws:=r.ao.map (·.1)++cX) (bs:=r.aa.map (·.1)) (λy b=> ?_) ht.1
  refine(pP a (mE ?_)).2
  rcases mQa.mp b with b|b
  ·exact .inr (hU g.lv b)
  ·left
   rw[Qfq.mp b]
def nK{ns:List Str}{y:Str}{v:Int}{a:List Int}(d:∀v∈a,0<=v/\v<=9)(c:0<=v/\v<=9):(fh ns a y v).length=a.length/\∀u∈fh ns a y v,0<=u/\u<=9:=by
 unfold fh
 refine⟨by simp,λz b=> ?_⟩
 rcases QTq b with b|rfl
 ·exact d z b
 ·exact c
def cD.goes{m:Int}{pr:List Rw}(x:cD w n s)(i:s.af[h]?=some (vs,fs))(a:fs.getLast? =some f)(d:progOf w h f=some pr)(k:0<=m)(g:m<=pr.length):cD w n {s with af:=s.af.set h (vs,fs.dropLast++ [{f with row:=m}])}:=by
 obtain⟨l,e,j,b⟩:=x.whand i
 have c:=b.fr f (QcQ a)
 exact x.hand j (b.setLast a rfl ⟨⟨pr,d,k,g⟩,c.gv,c.tv⟩)
def cD.tells{v:Int}(x:cD w n s)(i:s.af[h]?=some (vs,fs))(a:fs.getLast? =some f)(d:0<=v/\v<=9):cD w n {s with af:=s.af.set h (vs,fs.dropLast++ [{f with told:=v}])}:=by
 obtain⟨j,e,g,b⟩:=x.whand i
 have c:=b.fr f (QcQ a)
 exact x.hand g (b.setLast a rfl ⟨c.pr,c.gv,d⟩)
def kq.come{r:Rm}{rs:c_}{k:Int}(x:kq n r rs):kq (n+1) r (iK rs k):=by
 unfold iK
 have:=x.br
 split
 ·exact⟨x.lv,x.lb,x.vv,by show rs.row.length<=_;omega,Nat.le_succ_of_le x.bl,λl hl=>Nat.le_succ_of_le (x.bb l hl)⟩
 ·exact⟨x.lv,x.lb,x.vv,by simp;omega,Nat.le_succ_of_le x.bl,λl hl=>Nat.le_succ_of_le (x.bb l hl)⟩
def kq.leave{r:Rm}{rs:c_}(x:kq n r rs):kq n r (cn rs):=by
 obtain⟨d,b,c,i,j⟩:=rs
 have g:=x.br
 have e:=x.bl
 unfold cn
 dsimp only at g e⊢
 cases i with
 |cons a l=>exact⟨x.lv,x.lb,x.vv,x.br,by simp at e;show l.length<=n;omega,x.bb⟩
 | nil=>
   cases c with
   |cons a l=>exact⟨x.lv,x.lb,x.vv,by simp at g;show l.length<=n;omega,x.bl,x.bb⟩
   |nil=>exact⟨x.lv,x.lb,x.vv,x.br,x.bl,x.bb⟩
def kq.line{r:Rm}{rs:c_}{b:Nat}{l:List (Int×Int)}(x:kq n r rs)(hl:l.length<=n):kq n r {rs with aa:=rs.aa.set b l}:=⟨x.lv,by simp;exact x.lb,x.vv,x.br,x.bl,λk a=>by
 rcases QTq a with a|rfl
 ·exact x.bb k a
 ·exact hl⟩
def kq.call{r:Rm}{rs:c_}{b:Nat}{k:Int}{fr:Bool}(x:kq n r rs):kq (n+1) r (uf fr rs b k):=by
 unfold uf
 split
 ·rename_i p l e
  have hl:=x.bb _ (mQg e)
  have y:=(x.mono (Nat.le_succ n)).line (b:=b) (l:=l) (by simp at hl;omega)
  have z:=x.bl
  split
  ·exact y
  ·exact⟨y.lv,y.lb,y.vv,y.br,by simp;omega,y.bb⟩
 ·exact x.mono (Nat.le_succ n)
def FS{l:List (Int×Int)}{a b:Int}:(il l a b).length=l.length+1:=by
 unfold il
 have:=List.length_filter_le (λp:Int×Int=>decide (p.1<=a)) l
 simp only[lQa,Qxq,List.length_drop,Qnq,QGq]
 omega
def HB{a d:Str}(o:dF w)(b:(a,d)∈bE w.aj):a∈w.aj.map (·.name)/\∃r,w.aj[gg (w.aj.map (·.name)) a]?=some r/\d∈r.ae.map (·.1):=by
 unfold bE at b
 obtain⟨r,g,q⟩:=QOq.mp b
 obtain⟨p,m,e⟩:=Qkq.mp q
 cases e
 have c:r.name∈w.aj.map (·.name):=Qkq.mpr ⟨r,g,rfl⟩
 refine⟨c,r,?_,Qkq.mpr ⟨p,m,rfl⟩⟩
 obtain⟨t,l⟩:=j3 c
 obtain⟨i,j,e⟩:=QbQ g
 have k:(w.aj.map (·.name))[i]?=some r.name:=by rw[gQm,gQe j,e];rfl
 rw[jN o.nd l k,gQe j,e]
end
section
variable{w:cV}{n h:Nat}{s:bz}{vs:List Int}{fs:List cH}{f:cH}{sc:Sc}
def cD.mays(o:dF w)(x:cD w n s)(l:n<=100):Jf w s:=by
 have v:=o.l1
 have C:=o.l2
 have A:=o.l4
 have F:=x.lr
 have B:=x.lp
 have G:=x.lh
 refine yM (λS Q q=>qG l (by omega) (by omega) x.ps (λk d=> ?_) q) (λh t=> ?_) (by omega)
 ·obtain⟨i,j,e⟩:=QbQ d
  have a:s.aj[i]?=some k:=by rw[gQe j,e]
  have c:w.aj[i]?=some (w.aj[i]'(by omega)):=gQe (by omega)
  have b:=x.rm i _ k c a
  have:=(o.rm _ (mQg c)).l2
  have:=b.lb
  exact⟨b.br,b.bl,by omega,b.bb⟩
 ·obtain⟨⟨vs,fs⟩,a⟩:∃p,s.af[h]?=some p:=⟨_,gQe t⟩
  obtain⟨z,y,c,j⟩:=x.whand a
  obtain⟨f,r,u⟩:=j.last
  obtain⟨g,m,_⟩:=u.pr
  exact⟨vs,fs,f,g,a,r,m⟩
end
end W28
namespace DL
open PySem PySem.Spec L2
section
variable{Γ:cq}{S:aF}
def IW{f:dQ}{Q:D->aF->Prop}(h:E f Γ S λp a=>p.2.isL=true/\∃bs,mf p.1=some bs/\Q (.bl (bs.all id)) a):E (Fk f) Γ S Q:=by
 obtain⟨p,a,c,l,bs,b,q⟩:=h
 exact⟨_,a,by unfold Fk;rw[c];simp only[Qbq];rw[Qhq l,b];rfl,q⟩
def Lo{i j:Int}{Q:D->Prop}(h:E8 i j)(q:Q (.int (i^j.toNat))):Op (Hz S (.int i) (.int j)) Q:=⟨_,by simp only[Hz,intD];rw[Qhq h],q⟩
end
theorem tf:∀n:Nat,mf (List.replicate n (.bl true))=some (List.replicate n true)
 |0=>rfl
 |n+1=>by simp only[QNq,mf];rw[tf n];rfl
end DL
namespace W28
open PySem PySem.Spec L2 DL
end W28
namespace DL
open PySem PySem.Spec L2
def K9{b:cq}{S:aF}{T U:String}{f:bp}{Q:D->aF->Prop}(h:E f b S λd a=>Op (sV a T d) λk=>Op (sV a U d) λl=>Q (.bl (k||l)) a):E (yS T U f) b S Q:=by
 obtain⟨d,a,e,k,c,l,g,q⟩:=h
 exact⟨_,a,by unfold yS;rw[e];simp only[Qbq];rw[c];simp only[Qbq];rw[g];rfl,q⟩
def oQ{e:cq}{S:aF}{T U:String}{f:bp}{d:D}{b c:Bool}{Q:Bool->aF->Prop}(h:E f e S λx g=>x=d/\g=S)(hd:sV S T d=some b)(a:sV S U d=some c)(q:Q (b||c) S):E (kL (yS T U f)) e S Q:=by
 refine zq (K9 (h.mono λx g k=> ?_))
 obtain⟨j,i⟩:=k
 subst j i
 exact⟨_,hd,_,a,qi q⟩
def Gd{S:aF}{a:Bool}{Q:D->Prop}(q:Q (.bl false)):Op (e_ true S (.bl a) (.bl a)) Q:=⟨_,by cases a <;>rfl,q⟩
end DL
namespace W28
open PySem PySem.Spec L2 DL
section
variable{S S0:aF}{Q:Res->aF->Prop}
def Pl:Nat->D->Prop
 |0,_=>False
 |_+1,.int _=>True
 |_+1,.str _=>True
 |_+1,.non=>True
 |n+1,.tup ds=>ds.length<=1000/\∀d∈ds,Pl n d
 |_+1,_=>False
theorem zM:∀ds:List D,u4 ds ds=ds.map λd=>D.tup [d,d]
 | []=>rfl
 | d::ds=>by
   have:=zM ds
   simp only[u4,List.zipWith_cons_cons,QDq] at this⊢
   rw[this]
theorem B6:∀(n:Nat) (d:D) {S:aF} {Q:Res->aF->Prop},Pl n d->Q (.d (.bl true)) S->Fn (gf n) [d,d] S Q
 |0,_,_,_,h,_=>h.elim
 | n+1,.int i,S,Q,_,q=>by
   refine bQ ?_
   unfold fZ
   refine aH (ed (oQ (d:=.int i) (ax rfl ⟨rfl,rfl⟩) rfl rfl ?_))
   refine bq (λc=>by cases c) (λ_=>cB ?_)
   refine aH (ed (cu (bN (ax rfl (dM (vR ?_))))))
   refine bq (λc=>by cases c) (λ_=>cB ?_)
   refine aH (ed (fg (d:=.int i) (ax rfl ⟨rfl,rfl⟩) rfl ?_))
   refine bq (λc=>by cases c) (λ_=>cB ?_)
   refine cZ (ki (kH (ax rfl ⟨_,rfl,true,rfl,?_⟩)))
   rw[Qhq rfl]
   refine ki (Gn (kH (ax rfl ⟨_,rfl,false,rfl,true,rfl,?_⟩)))
   rw[Qhq rfl]
   symm
   refine dH ?_
   rw[Qeq rfl]
   exact cE (λk z=>(nomatch z)) rfl q
 | n+1,.non,S,Q,_,q=>by
   refine bQ ?_
   unfold fZ
   refine aH (ed (oQ (d:=.non) (ax rfl ⟨rfl,rfl⟩) rfl rfl ?_))
   refine bq (λc=>by cases c) (λ_=>cB ?_)
   refine aH (ed (cu (bN (ax rfl (dM (vR ?_))))))
   refine bq (λ_=> ?_) (λc=>by cases c)
   refine cZ (bN (ax rfl (dM (vR ?_))))
   exact cE (λk z=>(nomatch z)) rfl q
 | n+1,.str i,S,Q,_,q=>by
   refine bQ ?_
   unfold fZ
   refine aH (ed (oQ (d:=.str i) (ax rfl ⟨rfl,rfl⟩) rfl rfl ?_))
   refine bq (λc=>by cases c) (λ_=>cB ?_)
   refine aH (ed (cu (bN (ax rfl (dM (vR ?_))))))
   refine bq (λc=>by cases c) (λ_=>cB ?_)
   refine aH (ed (fg (d:=.str i) (ax rfl ⟨rfl,rfl⟩) rfl ?_))
   refine bq (λ_=> ?_) (λc=>by cases c)
   refine cZ (ki (kH (ax rfl ⟨_,rfl,true,rfl,?_⟩)))
   rw[Qhq rfl]
   symm
   refine iy ?_
   rw[Qeq rfl]
   exact cE (λk z=>(nomatch z)) rfl q
 | n+1,.tup ds,S,Q,h,q=>by
   refine bQ ?_
   unfold fZ
   refine aH (ed (oQ (d:=.tup ds) (ax rfl ⟨rfl,rfl⟩) rfl rfl ?_))
   refine bq (λ_=> ?_) (λc=>by cases c)
   refine aH (ed (Co (cu (bN (kH (ax rfl ⟨_,rfl,kH (ax rfl ⟨_,rfl,Gd ?_⟩)⟩))))))
   refine bq (λc=>by cases c) (λ_=> ?_)
   refine cu (bN (kH (ax rfl ⟨_,rfl,kH (ax rfl ⟨_,rfl,Gd ?_⟩)⟩)))
   refine bq (λc=>by cases c) (λ_=>cB ?_)
   refine cZ (ki (bN (lB (b_ (ax rfl (cv (lB (b_ (ax rfl (cv (dH ⟨_,rfl,?_⟩)))))))))))
   rw[Qeq rfl,Qhq rfl]
   refine IW (jF ?_)
   apply j6 (α:=D) (λe=>∃a b,e= [a,b]) (λd=>D.tup [d,d]) (λ_=>.bl true) (λ_=>true) ⟨none,none,rfl⟩ (w4 ?_)
   refine⟨⟨trivial,Qmq _⟩,ds,zM ds,⟨trivial,trivial⟩,h.1,λd g e f=> ?_,?_⟩
   · obtain⟨a,b,rfl⟩:=f
     refine eF rfl (aC (aV (aC (aV (bx ?_)))))
     apply⟨rfl,⟨_,_,rfl⟩,fT ⟨rfl,rfl,λ_=> ?_⟩⟩
     exact B6 n d (h.2 d g) ⟨rfl,rfl⟩
   · refine⟨rfl,List.replicate ds.length true,?_,?_⟩
     · rw[←tf]
       congr 1
       rw[List.filter_eq_self.mpr (λ_ _=>rfl),List.map_const']
     · have:(List.replicate ds.length true).all id=true:=by simp
       rw[this]
       exact cE (λk z=>(nomatch z)) rfl q
end
end W28
namespace DL
open PySem PySem.Spec L2
theorem zip_map{α a:Type}(f:α->D)(g:a->D):∀(xs:List α) (ys:List a),u4 (xs.map f) (ys.map g)=(xs.zip ys).map λp=>D.tup [f p.1,g p.2]
 | [],_=>rfl
 |_::_,[]=>rfl
 | x::xs,y::ys=>by
   have:=zip_map f g xs ys
   simp only[u4,QDq,List.zipWith_cons_cons,List.zip_cons_cons] at this⊢
   rw[this]
end DL
namespace W28
open PySem PySem.Spec L2 DL
end W28
namespace DL
open PySem PySem.Spec L2
def ES{S:aF}{k:Nat}{ds:List D}{Q:List D×Tag->Prop}(a:S[k]?=some (.frz ds))(q:Q (ds,.fz k)):Op (tF S (.ref k)) Q:=⟨_,by simp only[tF,a],q⟩
def MY{S:aF}{k:Nat}{ds:List D}{i:Int}{d:D}{Q:D->Prop}(a:S[k]?=some (.frz ds))(h:mF ds i=some d)(q:Q d):Op (km S (.ref k) (.int i)) Q:=⟨_,by simp only[km,a];exact h,q⟩
def Ja{i:Int}{Q:D->Prop}(q:Q (.int (if i<0 then -i else i))):Op (Er [.int i]) Q:=⟨_,rfl,q⟩
end DL
namespace W28
open PySem PySem.Spec L2 DL
section
variable{S:aF}{Q:Res->aF->Prop}
def Kz{ns:List Int}{k:Nat}(g:k<100)(e:S[0]?=some (.frz (ns.map D.int)))(q:∀a b:Int,Q (.l [.int a,.int b,.int 0]) S):Fn mJ [.ref 0,.int k] S Q:=by
 refine bQ ?_
 unfold qC
 refine aH (bO (dM ?_))
 refine aH (T.mono (Q:=λo=>∃d:Int,o=.nx [some (.ref 0),some (.int k),some (.int d)] S) ?_ ?_)
 ·apply ed (cu (bN (ax rfl (lB (b_ (ax rfl (ES e ?_)))))))
  rw[lQm]
  by_cases c:(k:Int)<ns.length
  ·rw[Qeq c,Qhq rfl]
   have g:k<ns.length:=by omega
   symm
   refine MY e (aR (x:=.int ns[k]) (by rw[gQm,gQe g];rfl)) ?_
   exact⟨_,rfl⟩
  ·rw[Qdq c,Quq (by decide)]
   exact cB ⟨_,rfl⟩
 rintro _ ⟨d,rfl⟩
 dsimp only
 symm
 apply Ja ?_
 apply Ja ?_
 refine Lo ⟨by decide,by decide,by decide⟩ ?_
 generalize (10:Int)^(18:Int).toNat=c2
 generalize (if d<0 then -d else d)=c1
 symm
 refine t6 ?_
 have f:G4 c1 (if decide (c2<=c1)=true then 1 else 0):=by
  right
  split <;>decide
 generalize (if decide (c2<=c1)=true then(1:Int) else 0)=c3 at f⊢
 apply rD f ?_
 apply lF (by decide) ?_
 apply rD (.inl ⟨by decide,by decide⟩) ?_
 have h:0<=d%2147483629:=Int.emod_nonneg _ (by decide)
 have i:d%2147483629<2147483629:=Int.emod_lt_of_pos _ (by decide)
 apply rD (.inl ⟨by omega,by omega⟩) ?_
 apply rD (.inr ⟨by decide,by decide⟩) ?_
 apply lF (by decide) ?_
 refine⟨by show 3<=_;decide,?_⟩
 exact ET rfl (q _ _)
end
section
variable{S S0:aF}{k:Nat}{Q:Res->aF->Prop}
def Ce{j:cq}{n:Nat}{f:fK}{Q:D->aF->Prop}(s:j[0]?=some (some (.ref k)))(v:0<n)(t:n<1000)
  (o:E f j S λds e=>ds.length=n/\Ex k S0 e/\∀(d:D) (i:aF),d∈ds->Ex k S0 i->Ex k e i->Q d i):E (a_ km (bB (bo f)) (aA az (ar (au 0) (ar (cF (.int n)) av)))) j S Q:=by
 refine bN (dk (cP (o.mono λds e q=> ?_)))
 obtain⟨hl,x,h⟩:=q
 refine⟨nQl (aM (by omega)),?_⟩
 refine bL (aw (ax s (aw (dM (aL ?_)))))
 have w:=x.lt
 refine bK (x.app (G:= [O.lst ds])) (by omega) (by omega) λd i u p l m=> ?_
 have g:d<ds.length:=by omega
 refine cN (l.keep _ _ (by omega) aZ) (aR (gQe g)) ?_
 have y:Ex k e e:=by obtain⟨a,b,c,r⟩:=x.pot;exact Ex.refl r
 exact h _ _ (List.getElem_mem g) p (y.app.trans l)
noncomputable def sI(o a:Str)(more:Bool):List Rw:=.do_ none o a (.num 0)::if more then [.tell (.num 1)] else []
noncomputable def Bc(nm b c a o:Str)(more:Bool):Rm:=⟨nm,b,[],[],[(c,sI o a more),(a,[.tell (.num 2)])]⟩
def Ky(ws:List Str)(d e:Str)(b:Nat)(r:Rm):Prop:=∃(c o:Str) (a:Bool),(c="at once" \/c="when free")/\(∃i,i<b/\ws[i]?=some o)/\r=Bc r.name c d e o a
def Jo{ds:List D}{n:Nat}{Q:D->Prop}(b:ds≠[])(a:ds.length*n<=sizeLine)(c:n<1000)(q:Q (.tup (List.replicate n ds).flatten)):Op (yR S (.tup ds) (.int n)) Q:=⟨_,by simp only[yR];rw[Qhq ⟨by omega,by omega,b,by simpa using a⟩];simp,q⟩
def GJ(x:Ex k S0 S)(h:∀(w:cV) (g:aF),dF w->Gz w->Ex k S0 g->Ex k S g->g.length=S.length->Q (.d w.d) g):Fn eT [.ref k] S Q:=by
 have y:Ex k S S:=by obtain⟨a,b,c,hh⟩:=x.pot;exact Ex.refl hh
 have kl:=x.lt
 refine bQ ?_
 unfold jk
 refine aH (bO (dk (Cm (aw (ax rfl (aw (dM (aL ?_))))))))
 show Fn eO [.ref k,.int ((12:Nat):Int)] S _
 refine zO y (by decide) λA S1 d7 d6 f2 d4 e1 f4 l1=> ?_
 dsimp only
 have e2:Ex k S (S1++ [O.lst (A.map D.str)]):=e1.app
 have a1:(S1++ [O.lst (A.map D.str)])[S1.length]?=some (.lst (A.map D.str)):=aZ
 have d9:S.length<=S1.length:=by omega
 generalize (S1++ [O.lst (A.map D.str)])=S2 at e2 a1⊢
 generalize S1.length=lw at a1 d9⊢
 have nw:lw≠k:=by omega
 obtain⟨L,c1⟩:∃L,A[8]?=some L:=⟨_,gQe (by omega)⟩
 obtain⟨K,c5⟩:∃K,A[9]?=some K:=⟨_,gQe (by omega)⟩
 have a5:mF (A.map D.str) 8=some (.str L):=aR (j:=8) (by rw[gQm,c1];rfl)
 have a6:mF (A.map D.str) 9=some (.str K):=aR (j:=9) (by rw[gQm,c5];rfl)
 refine aH (bO (bN (dM (bL (aw (ax rfl (aw (dM (aL ?_)))))))))
 refine bK e2 (by decide) (by decide) λv G hv e3 c3 _=> ?_
 refine iO ?_
 obtain⟨e,c4⟩:∃n:Nat,1+v=n:=⟨_,rfl⟩
 rw[show(1:Int)+(v:Int)=(e:Int) by omega]
 have e6:1<=e:=by omega
 have e5:e<=4:=by omega
 have b2:=c3.keep _ _ nw a1
 refine aH (IA (aw (dk (cP (aL ⟨by show 0<=_;decide,aw (dk (cP (aL ⟨by show 0<=_;decide,aL ⟨_,_,rfl,?_⟩⟩)))⟩)))))
 have e7:Ex k S (G++ [O.lst []]++ [O.lst []]):=e3.app.app
 have b0:(G++ [O.lst []]++ [O.lst []])[lw]?=some (.lst (A.map D.str)):=bu (bu b2)
 have a3:(G++ [O.lst []]++ [O.lst []])[G.length]?=some (.lst (([]:List Rm).map Rm.d)):=bu aZ
 have a7:(G++ [O.lst []]++ [O.lst []])[G.length+1]?=some (.lst (([]:List (List (Str×Nat)×List Rw)).map fH)):=by have:=aZ (S:=G++ [O.lst []]) (o:=O.lst []);rw[show(G++ [O.lst []]).length=G.length+1 by simp] at this;exact this
 show T _ [some (.ref k),some (.ref lw),some (.int e),some (.ref G.length),some (.ref (G++ [O.lst []]).length),none,none,none,none,none] _ _
 rw[show(G++ [O.lst []]).length=G.length+1 by simp]
 have d5:=e3.len
 have d2:=(gQs.mp b2).1
 generalize (G++ [O.lst []]++ [O.lst []])=S7 at e7 b0 a3 a7⊢
 generalize G.length=lr at a3 a7 d5 d2⊢
 refine aH (fU (gV (ax rfl ⟨(e:Int),rfl,by omega,?_⟩)))
 refine⟨λj C g=>(∃Z X b7 U,C= [some (.ref k),some (.ref lw),some (.int e),some (.ref lr),some (.ref (lr+1)),Z,X,b7,U,none])/\∃m:List Rm,m.length=j/\(∀(i:Nat) (r:Rm),m[i]?=some r->A[i]?=some r.name/\Ky A L K e r)/\g[lr]?=some (.lst (m.map Rm.d))/\g[lr+1]?=some (.lst (([]:List (List (Str×Nat)×List Rw)).map fH))/\g[lw]?=some (.lst (A.map D.str))/\Ex k S g,⟨⟨_,_,_,_,rfl⟩,[],rfl,λi r t=>by simp at t,a3,a7,b0,e7⟩,λ_ _ _ _=>trivial,?_,?_⟩
 ·rintro j d C g F ⟨⟨Z,X,b7,U,rfl⟩,m,hrl,hrs,hR,hH,hW,ex⟩
  obtain⟨rfl,hj⟩:=c7 F
  have y':Ex k g g:=by obtain⟨a,b,c,hh⟩:=ex.pot;exact Ex.refl hh
  obtain⟨nm,b3⟩:∃nm,A[j]?=some nm:=⟨_,gQe (by omega)⟩
  refine aV ?_
  refine aH (bO (bN (ax rfl (Ce (S0:=g) (n:=3) rfl (by decide) (by decide) ?_))))
  refine aw (bN (bN (ax rfl (dM (iO (ax rfl (lF (by omega) ?_)))))))
  rw[show((j:Int)+1)%(e:Int)=(((j+1)%e:Nat):Int) by push_cast;rfl]
  refine aw (ax rfl (aw (bL (aw (ax rfl (aw (ax rfl (aL ?_))))))))
  refine bK y' (by omega) (by omega) λu S8 hu e8 e0 _=>aL ⟨rfl,e8,λd S9 F e9 _=> ?_⟩
  obtain⟨o,ho,rfl⟩:∃o:Nat,o<e/\d=.int o:=by
   simp only[Qsq,QXq,or_false] at F
   rcases F with rfl|rfl|rfl
   ·exact⟨_,Nat.mod_lt _ (by omega),rfl⟩
   ·exact⟨_,hj,rfl⟩
   ·exact⟨u,by omega,rfl⟩
  obtain⟨s,B⟩:∃z,A[o]?=some z:=⟨_,gQe (by omega)⟩
  refine cN (e9.keep _ _ nw hW) (aR (by rw[gQm,B];rfl)) ?_
  refine aH (bO (cm (aw (cm (aw (dM (aw (dM (aw (ax rfl (aw (bN (ax rfl (dM (cN (e9.keep _ _ nw hW) a6 (aw (dM (aL ⟨by show 5<=_;decide,aL ⟨by show 1<=_;decide,?_⟩⟩))))))))))))))))))
  refine aH (T.mono (Q:=λo=>∃(f:Bool) (Y:aF),o=.nx [some (.ref k),some (.ref lw),some (.int e),some (.ref lr),some (.ref (lr+1)),some (.int j),some (.str s),some (.tup ((sI s K f).map Rw.d)),U,none] Y/\Ex k g Y) ?_ ?_)
  ·refine ed (cu (bN (bL (aw (ax rfl (aw (dM (aL ?_))))))))
   refine bK e9 (by decide) (by decide) λv Y hv eA f3 _=> ?_
   refine dM (dH ?_)
   refine bq (λc=> ?_) (λc=> ?_)
   ·refine bO (bN (ax rfl (cm (aw (cm (aw (dM (aw (dM (aL ⟨by show 2<=_;decide,aL ⟨by show 1<=_;decide,?_⟩⟩))))))))))
    exact dR (by show 2<=_;decide) ⟨true,Y,rfl,eA⟩
   ·exact cB ⟨false,Y,rfl,eA⟩
  rintro _ ⟨f,Y,rfl,eA⟩
  dsimp only
  refine aH (bO (dS (n:=2) (xs:= [.str "at once",.str "when free"]) rfl eA (by decide) (by decide) rfl (by symm;exact⟨rfl,rfl⟩) λd SB F N _ _=> ?_))
  obtain⟨R,a2,rfl⟩:∃R:Str,(R="at once" \/R="when free")/\d=.str R:=by
   simp only[Qsq,QXq,or_false] at F
   rcases F with rfl|rfl
   ·exact⟨_,.inl rfl,rfl⟩
   ·exact⟨_,.inr rfl,rfl⟩
  have P:=N.keep _ _ nw hW
  have a9:=N.keep _ _ (by omega) hR
  refine mN (xw (ax rfl ⟨_,_,rfl,a9,?_⟩))
  refine aw (cm (aw (bN (ax rfl (ax rfl (cN P (aR (by rw[gQm,b3];rfl)) ?_))))))
  refine aw (ax rfl (aw (cm (aL ⟨by show 0<=_;decide,aw (cm (aL ⟨by show 0<=_;decide,?_⟩))⟩))))
  refine aw (cm (aw (cm (aw (bN (ax rfl (dM (cN P a5 (aw (ax rfl (aL ⟨by show 2<=_;decide,?_⟩)))))))))))
  refine aw (cm (aw (bN (ax rfl (dM (cN P a6 (aw (cm (aw (cm (aw (dM (aw (dM (aL ⟨by show 2<=_;decide,aL ⟨by show 1<=_;decide,aL ⟨by show 2<=_;decide,aL ⟨by show 2<=_;decide,aL ⟨by show 5<=_;decide,aL ?_⟩⟩⟩⟩⟩)))))))))))))))
  refine⟨_,a9,ka (by rw[lQm];exact aM (by omega)) ?_⟩
  refine⟨⟨_,_,_,_,rfl⟩,m++ [Bc nm R L K s f],by simp[hrl],λi r' I=> ?_,?_,gr (by omega) (N.keep _ _ (by omega) hH),gr (by omega) P,(ex.trans N).put (by omega) kl⟩
  ·by_cases c:i<m.length
   ·rw[QHq c] at I
    exact hrs i r' I
   ·rw[QQq (by omega)] at I
    have hi:i-m.length=0:=by
     have:=(gQs.mp I).1
     simp at this
     omega
    rw[hi] at I
    cases I
    have:i=m.length:=by omega
    rw[this,hrl]
    exact⟨b3,R,s,f,a2,⟨o,ho,B⟩,rfl⟩
  ·rw[fV a9,Qzq]
   rfl
 rintro C S8 ⟨⟨Z,X,b7,U,rfl⟩,m,hrl,hrs,hR8,hH8,hW8,e8⟩
 rw[dC] at hrl
 have H:∀{i:Nat} {z q:Str},i<e->A[i]?=some z->(q=L\/q=K)->(z,q)∈bE m:=λ{i z q} hi hz hq=>by
  have c6:=gQe (l:=m) (i:=i) (by omega)
  obtain⟨g1,R,o,f,_,_,t⟩:=hrs i _ c6
  rw[hz] at g1
  rw[QdQ g1]
  refine QOq.mpr ⟨m[i],List.getElem_mem _,?_⟩
  rw[t]
  simp only[Bc,QDq,List.map_nil,Qsq,Prod.mk.injEq,true_and,QXq,or_false]
  exact hq
 have c2:∀{i:Nat} {z:Str},i<e->A[i]?=some z->(z,L)∈bE m/\(z,K)∈bE m:=λhi hz=>⟨H hi hz (.inl rfl),H hi hz (.inr rfl)⟩
 refine aH (fU (gV (bN (dM (bL (aw (ax rfl (aw (dM (aL ?_))))))))))
 refine bK e8 (by decide) (by decide) λv SD hv eD a4 _=> ?_
 refine iO ?_
 obtain⟨nh,f1⟩:∃n:Nat,1+v=n:=⟨_,rfl⟩
 rw[show(1:Int)+(v:Int)=(nh:Int) by omega]
 refine⟨(nh:Int),rfl,by omega,?_⟩
 refine⟨λj C g=>(∃Z X b7 U b9,C= [some (.ref k),some (.ref lw),some (.int e),some (.ref lr),some (.ref (lr+1)),Z,X,b7,U,b9])/\∃J:List (List (Str×Nat)×List Rw),J.length=j/\(∀p∈J,xD (bE m) [] [] p)/\g[lr+1]?=some (.lst (J.map fH))/\g[lr]?=some (.lst (m.map Rm.d))/\g[lw]?=some (.lst (A.map D.str))/\Ex k S g,⟨⟨_,_,_,_,_,rfl⟩,[],rfl,λ_ h=>(nomatch h),a4.keep _ _ (by omega) hH8,a4.keep _ _ (by omega) hR8,a4.keep _ _ nw hW8,eD⟩,λ_ _ _ _=>trivial,?_,?_⟩
 ·rintro j d C g F ⟨⟨Z,X,b7,U,b9,rfl⟩,J,hhl,hhs,hH,hR,hW,ex⟩
  obtain⟨rfl,hj⟩:=c7 F
  have y':Ex k g g:=by obtain⟨a,b,c,hh⟩:=ex.pot;exact Ex.refl hh
  refine aV ?_
  refine aH (bO (bN (ax rfl (Ce (S0:=g) (n:=2) rfl (by decide) (by decide) ?_))))
  refine aw (bN (ax rfl (ax rfl (lF (by omega) ?_))))
  rw[show(j:Int)%(e:Int)=((j%e:Nat):Int) by push_cast;rfl]
  refine aw (bL (aw (ax rfl (aw (ax rfl (aL ?_))))))
  refine bK y' (by omega) (by omega) λu S8 hu e8 e0 _=>aL ⟨rfl,e8,λd S9 F e9 _=> ?_⟩
  obtain⟨o,ho,rfl⟩:∃o:Nat,o<e/\d=.int o:=by
   simp only[Qsq,QXq,or_false] at F
   rcases F with rfl|rfl
   ·exact⟨_,Nat.mod_lt _ (by omega),rfl⟩
   ·exact⟨u,by omega,rfl⟩
  obtain⟨s,B⟩:∃z,A[o]?=some z:=⟨_,gQe (by omega)⟩
  have M:=e9.keep _ _ nw hW
  refine cN M (aR (by rw[gQm,B];rfl)) ?_
  refine aH (bO (cm (aw (cm (aw (dM (aw (dM (aw (ax rfl (aw ?_)))))))))))
  refine dS (n:=3) (xs:= [.str L,.str L,.str K]) rfl e9 (by decide) (by decide) rfl (aw (bN (ax rfl (dM (cN M a5 (aw (bN (ax rfl (dM (cN M a5 (aw (bN (ax rfl (dM (cN M a6 (aL ⟨rfl,rfl⟩)))))))))))))))) λd Y F eA _ _=> ?_
  obtain⟨W,d8,rfl⟩:∃W:Str,(W=L\/W=K)/\d=.str W:=by
   simp only[Qsq,QXq,or_false] at F
   rcases F with rfl|rfl|rfl
   ·exact⟨_,.inl rfl,rfl⟩
   ·exact⟨_,.inl rfl,rfl⟩
   ·exact⟨_,.inr rfl,rfl⟩
  refine aw (dM (aL ⟨by show 5<=_;decide,aL ⟨by show 1<=_;decide,?_⟩⟩))
  have e4:=eA.keep _ _ (by omega) hH
  refine mN (xw (ax rfl ⟨_,_,rfl,e4,?_⟩))
  refine aw (cm (aw (cm (aL ⟨by show 0<=_;decide,?_⟩))))
  refine aw (bN (ax rfl (bN (dM (L6 (aw (bN (bL (aw (ax rfl (aw (dM (aL ?_)))))))))))))
  refine bK eA (by decide) (by decide) λv SB hv N f0 _=> ?_
  refine dM (dH (aL (t6 (iO ?_))))
  obtain⟨n,d3,c0,en⟩:∃n:Nat,1<=n/\n<=2/\(1:Int)+(if decide ((v:Int)=0)=true then 1 else 0)=n:=by
   by_cases c:(v:Int)=0
   ·exact⟨2,by omega,by omega,by rw[Qhq (by simpa using c)];rfl⟩
   ·exact⟨1,by omega,by omega,by rw[Quq (by simpa using c)];rfl⟩
  rw[en]
  refine Jo (by simp) (by show 1*n<=sizeLine;rw[Nat.one_mul];exact nQl (aM (by omega))) (by omega) ?_
  refine aL ⟨by show 2<=_;decide,aL ?_⟩
  have b4:=N.keep _ _ (by omega) hH
  refine⟨_,b4,ka (by rw[lQm];exact aM (by omega)) ?_⟩
  have er:(List.replicate n [(Rw.do_ none s W (.num 0)).d]).flatten=(List.replicate n (Rw.do_ none s W (.num 0))).map Rw.d:=by
   rw[QlQ]
   clear en d3 c0
   induction n with
   |zero=>rfl
   |succ n ih=>simp only[QNq,List.flatten_cons,ih];rfl
  refine⟨⟨_,_,_,_,_,rfl⟩,J++ [([],List.replicate n (.do_ none s W (.num 0)))],by simp[hhl],λq hq=> ?_,?_,gr (by omega) (N.keep _ _ (by omega) hR),gr (by omega) (N.keep _ _ nw hW),(ex.trans N).put (by omega) kl⟩
  ·rcases mQa.mp hq with hq|hq
   ·exact hhs q hq
   ·rw[Qfq.mp hq]
    refine⟨λ_ h=>(nomatch h),Nat.zero_le _,by show(List.replicate n _).length<=9;rw[QIq];omega,by show 0<(List.replicate n _).length;rw[QIq];omega,λr t=> ?_⟩
    rw[(List.mem_replicate.mp t).2]
    exact⟨λ_ z=>(nomatch z),H ho B d8,Nat.zero_le _,by decide⟩
  ·rw[fV b4,Qzq]
   show some (O.lst (J.map fH++ [.tup [.tup [],.tup (List.replicate n [(Rw.do_ none s W (.num 0)).d]).flatten]]))=_
   rw[er]
   rfl
 rintro C SE ⟨⟨Z,X,b7,U,b9,rfl⟩,J,hhl,hhs,hH,hR,hW,eE⟩
 rw[dC] at hhl
 have b1:dF ⟨m,[],[],J⟩:=by
  refine⟨names_nodup d7 λi r t=>(hrs i r t).1,by show m.length<=4;omega,Nat.zero_le _,Nat.zero_le _,by show J.length<=4;omega,by show 0<J.length;omega,λ_ h=>(nomatch h),λ_ h=>(nomatch h),λr t=> ?_,hhs⟩
  obtain⟨i,hi⟩:=List.getElem?_of_mem t
  obtain⟨-,R,o,f,a2,⟨i',d1,ho⟩,er⟩:=hrs i r hi
  rw[er]
  refine⟨a2,λ_ h=>(nomatch h),Nat.zero_le _,Nat.zero_le _,by show 2<=6;omega,λ_ h=>(nomatch h),λp hp=> ?_⟩
  rcases Qsq.mp hp with rfl|hp
  ·refine⟨λr t=> ?_,by cases f <;>simp[sI]⟩
   rcases Qsq.mp t with rfl|t
   ·exact⟨λ_ z=>(nomatch z),H d1 ho (.inr rfl),Nat.zero_le _,by decide⟩
   ·cases f with
    |true=>rw[Qfq.mp t];exact⟨rfl,by show 1<=9;omega,by decide⟩
    |false=>exact(nomatch t)
  ·rw[Qfq.mp hp]
   refine⟨λr t=> ?_,by show 1<=12;omega⟩
   rw[Qfq.mp t]
   exact⟨rfl,by show 2<=9;omega,by decide⟩
 refine cZ (cm (aw (eX (eR (b_ (ax rfl (bP hR ⟨rfl,?_⟩)))))))
 refine aw (cm (aL ⟨by show 0<=_;decide,aw (cm (aL ⟨by show 0<=_;decide,aw (eX (eR (b_ (ax rfl (bP hH ⟨rfl,?_⟩)))))⟩))⟩))
 refine aL ⟨by show 4<=_;decide,?_⟩
 refine uD eE kl (λk z=>(nomatch z)) (fe (cV.low ⟨m,[],[],J⟩)) λa b c=> ?_
 exact h ⟨m,[],[],J⟩ _ b1 (vG d6 d4 λi r t=>(hrs i r t).1) x.set y.set (by simp)
def DP(x:Ex k S0 S)(h:∀(w:cV) (e:aF),dF w->Gz w->Ex k S0 e->Ex k S e->e.length=S.length->Q (.d w.d) e):Fn fO [.ref k] S Q:=by
 have y:Ex k S S:=by obtain⟨a,b,c,p⟩:=x.pot;exact Ex.refl p
 have j:=x.lt
 refine bQ ?_
 unfold kA
 refine aH (ed (cu (bN (bL (aw (ax rfl (aw (dM (aL ?_)))))))))
 refine bK y (by decide) (by decide) λv B n i t A=> ?_
 refine dM (dH ?_)
 refine bq (λc=> ?_) (λc=> ?_)
 ·refine cZ (bL (aw (ax rfl (aw (bN (dM (bL (aw (ax rfl (aw (dM (aL ?_))))))))))))
  refine bK i (by decide) (by decide) λv C n l q u=> ?_
  refine iO (aL ?_)
  rw[show(1:Int)+(v:Int)=((1+v:Nat):Int) by omega]
  refine E4 l (by omega) (by omega) λw r o s g f m=> ?_
  exact uD g j (λk z=>(nomatch z)) (fe (cV.low w)) λa b c=>h w _ o s x.set y.set (by simp)
 ·refine cB (cZ (bL (aw (ax rfl (aL ?_)))))
  refine GJ i λw r o s g f m=> ?_
  exact uD g j (λk z=>(nomatch z)) (fe (cV.low w)) λa b c=>h w _ o s x.set y.set (by simp)
end
theorem jI{α c:Type}{f:α->List c}:∀{l:List α} {i:Nat} {a:α},l[i]?=some a->(l.flatMap f).Perm (f a++(l.eraseIdx i).flatMap f)
 | [],_,_,h=>by simp at h
 | x::l,0,a,h=>by
   simp at h
   subst h
   exact List.Perm.refl _
 | x::l,i+1,a,h=>by
   have b:=jI (f:=f) (l:=l) (i:=i) (by simpa using h)
   rw[QSq,List.eraseIdx_cons_succ,QSq]
   exact(List.Perm.append_left (f x) b).trans (by
     rw[←Qvq,←Qvq]
     exact QJq _ List.perm_append_comm)
theorem vn{α:Type}{b:α}:∀{l:List α} {i:Nat},(l.set i b).eraseIdx i=l.eraseIdx i
 | [],_=>rfl
 |_::_,0=>rfl
 | x::l,i+1=>by
   simp only[List.set_cons_succ,List.eraseIdx_cons_succ]
   rw[vn]
def jc{α c:Type}{f:α->List c}{l:List α}{i:Nat}{a b:α}(h:l[i]?=some a):((l.set i b).flatMap f).Perm (f b++(l.eraseIdx i).flatMap f):=by
 have:=jI (f:=f) (l:=l.set i b) (i:=i) (Qyq (gQs.mp h).1)
 rw[vn] at this
 exact this
noncomputable def LJ(r:c_):List Int:=r.ag++r.aa.flatMap λl=>l.map (·.2)
def i4{r:c_}{y:Int}(h:y∈LJ r):y∈aO r:=by
 unfold aO
 rw[Qvq]
 exact mQa.mpr (.inr h)
structure Q2(w:cV)(N:Nat)(ps:List (Int×List Int))(rs:List c_)(fr:Nat->List Int):Prop where
 fo:∀g,g<N->(fr g).head? =some (-1)
 nd:(ps.flatMap (·.2)++rs.flatMap aO).Nodup
 hv:∀x∈ps.flatMap (·.2)++rs.flatMap aO,∃g:Nat,x=g/\g<N
 pv:∀p∈ps,(0<=p.1/\p.1<=9)/\(p.1=0\/p.2= [])
 pl:∀p∈ps,∀g:Nat,(g:Int)∈p.2->fr g= [-1]
 rl:∀(i:Nat) (r:c_),rs[i]?=some r->∀g:Nat,(g:Int)∈aO r->(fr g).getLast? =some (i:Int)
 r1:∀(i:Nat) (r:c_),rs[i]?=some r->r.within= -1->r.row= []/\r.ag= []
 r2:∀(i:Nat) (r:c_),rs[i]?=some r->r.within= -1\/∃g:Nat,r.within=g/\g<N/\(i:Int)∈fr g
 r3:∀(i:Nat) (r:c_) (rm:Rm),rs[i]?=some r->w.aj[i]?=some rm->rm.ah="when free" ->r.ag= []
 r4:∀(i:Nat) (r:c_) (rm:Rm),rs[i]?=some r->w.aj[i]?=some rm->∀(b:Nat) (l:List (Int×Int)) (nm so:Str),r.aa[b]?=some l->rm.aa[b]?=some (nm,so)->(l.map (·.1)).Pairwise (·<=·)/\(so="row" ->∀p∈l,p.1=0)
 r5:∀(i:Nat) (r:c_),rs[i]?=some r->∀y∈LJ r,r.within≠y
noncomputable def hl(ps:List (Int×List Int))(rs:List c_):List Int:=ps.flatMap (·.2)++rs.flatMap aO
section
variable{w:cV}{N:Nat}{ps:List (Int×List Int)}{rs:List c_}{fr fr':Nat->List Int}{h:Nat}
def rX{i:Nat}{r nr:c_}(b:rs[i]?=some r):∃a,(hl ps rs).Perm (aO r++a)/\(hl ps (rs.set i nr)).Perm (aO nr++a):=by
 refine⟨ps.flatMap (·.2)++(rs.eraseIdx i).flatMap aO,?_,?_⟩
 ·exact(List.Perm.append_left _ (jI b)).trans (by rw[←Qvq,←Qvq];exact QJq _ List.perm_append_comm)
 ·exact(List.Perm.append_left _ (jc b)).trans (by rw[←Qvq,←Qvq];exact QJq _ List.perm_append_comm)
def wO{i:Nat}{p np:Int×List Int}(b:ps[i]?=some p):∃a,(hl ps rs).Perm (p.2++a)/\(hl (ps.set i np) rs).Perm (np.2++a):=by
 refine⟨(ps.eraseIdx i).flatMap (·.2)++rs.flatMap aO,?_,?_⟩
 ·rw[←Qvq];exact QJq _ (jI (f:=λp:Int×List Int=>p.2) b)
 ·rw[←Qvq];exact QJq _ (jc (f:=λp:Int×List Int=>p.2) b)
structure R2(w:cV)(N i:Nat)(fr:Nat->List Int)(r:c_):Prop where
 rl:∀g:Nat,(g:Int)∈aO r->(fr g).getLast? =some (i:Int)
 r1:r.within= -1->r.row= []/\r.ag= []
 r2:r.within= -1\/∃g:Nat,r.within=g/\g<N/\(i:Int)∈fr g
 r3:∀rm:Rm,w.aj[i]?=some rm->rm.ah="when free" ->r.ag= []
 r4:∀rm:Rm,w.aj[i]?=some rm->∀(b:Nat) (l:List (Int×Int)) (nm so:Str),r.aa[b]?=some l->rm.aa[b]?=some (nm,so)->(l.map (·.1)).Pairwise (·<=·)/\(so="row" ->∀p∈l,p.1=0)
 r5:∀y∈LJ r,r.within≠y
def Q2.at(x:Q2 w N ps rs fr){i:Nat}{r:c_}(a:rs[i]?=some r):R2 w N i fr r:=⟨x.rl i r a,x.r1 i r a,x.r2 i r a,λb=>x.r3 i r b a,λb=>x.r4 i r b a,x.r5 i r a⟩
def Q2.room(x:Q2 w N ps rs fr){i:Nat}{r nr:c_}(n:rs[i]?=some r)(e:R2 w N i fr nr)(l:∀a:List Int,(aO r++a).Nodup->(h:Int)∉aO r++a->(aO nr++a).Nodup)(f:∀y∈aO nr,y∈aO r\/y=(h:Int))(o:h<N)(p:(h:Int)∉hl ps rs):Q2 w N ps (rs.set i nr) fr:=by
 obtain⟨a,k,m⟩:=rX (ps:=ps) (nr:=nr) n
 refine⟨x.fo,m.nodup_iff.mpr (l a (k.nodup_iff.mp x.nd) λz=>p (k.mem_iff.mpr z)),λy d=> ?_,x.pv,x.pl,λj c b=> ?_,λj c b=> ?_,λj c b=> ?_,λj c g b=> ?_,λj c g b=> ?_,λj c b=> ?_⟩
 ·rcases mQa.mp (m.mem_iff.mp d) with d|d
  ·rcases f y d with d|rfl
   ·exact x.hv y (k.mem_iff.mpr (mQa.mpr (.inl d)))
   ·exact⟨h,rfl,o⟩
  ·exact x.hv y (k.mem_iff.mpr (mQa.mpr (.inr d)))
 all_goals rcases get_set b with⟨rfl,rfl⟩|⟨_,b⟩
 ·exact e.rl
 ·exact x.rl j c b
 ·exact e.r1
 ·exact x.r1 j c b
 ·exact e.r2
 ·exact x.r2 j c b
 ·exact e.r3 g
 ·exact x.r3 j c g b
 ·exact e.r4 g
 ·exact x.r4 j c g b
 ·exact e.r5
 ·exact x.r5 j c b
end
section
variable{w:cV}{N:Nat}{ps:List (Int×List Int)}{rs:List c_}{fr fr':Nat->List Int}{h:Nat}
def Q2.room0(x:Q2 w N ps rs fr){i:Nat}{r nr:c_}(n:rs[i]?=some r)(d:R2 w N i fr nr)(k:∀a:List Int,(aO r++a).Nodup->(aO nr++a).Nodup)(f:∀y∈aO nr,y∈aO r):Q2 w N ps (rs.set i nr) fr:=by
 obtain⟨a,l,m⟩:=rX (ps:=ps) (nr:=nr) n
 refine⟨x.fo,m.nodup_iff.mpr (k a (l.nodup_iff.mp x.nd)),λy g=> ?_,x.pv,x.pl,λj c b=> ?_,λj c b=> ?_,λj c b=> ?_,λj c e b=> ?_,λj c e b=> ?_,λj c b=> ?_⟩
 ·rcases mQa.mp (m.mem_iff.mp g) with g|g
  ·exact x.hv y (l.mem_iff.mpr (mQa.mpr (.inl (f y g))))
  ·exact x.hv y (l.mem_iff.mpr (mQa.mpr (.inr g)))
 all_goals rcases get_set b with⟨rfl,rfl⟩|⟨_,b⟩
 ·exact d.rl
 ·exact x.rl j c b
 ·exact d.r1
 ·exact x.r1 j c b
 ·exact d.r2
 ·exact x.r2 j c b
 ·exact d.r3 e
 ·exact x.r3 j c e b
 ·exact d.r4 e
 ·exact x.r4 j c e b
 ·exact d.r5
 ·exact x.r5 j c b
def uz{a b c:List Int}{k:Int}(p:b.Perm (k::a))(n:(a++c).Nodup)(d:k∉a++c):(b++c).Nodup:=by
 refine(QJq c p).nodup_iff.mpr ?_
 rw[List.cons_append]
 exact List.nodup_cons.mpr ⟨d,n⟩
def tx{a b c:List Int}{k:Int}(p:a.Perm (k::b))(n:(a++c).Nodup):(b++c).Nodup:=by
 have:=(QJq c p).nodup_iff.mp n
 rw[List.cons_append] at this
 exact(List.nodup_cons.mp this).2
def gW(x:Q2 w N ps rs fr){i:Nat}{r:c_}(a:rs[i]?=some r){y:Int}(b:y∈aO r):y∈hl ps rs:=mQa.mpr (.inr (QOq.mpr ⟨r,mQg a,b⟩))
def leave_held(r:c_):(∃a,(aO r).Perm (a::aO (cn r))/\(cn r).within=a)\/(aO (cn r)=aO r/\(cn r).within= -1/\r.row= []/\r.ag= []):=by
 obtain⟨d,c,b,e,f⟩:=r
 cases e with
 | cons a l=>
   refine .inl ⟨a,?_,rfl⟩
   show(b++(a::l)++_).Perm (a::(b++l++_))
   rw[Qvq,Qvq]
   exact List.perm_middle
 | nil=>
   cases b with
   |cons a l=>exact .inl ⟨a,List.Perm.refl _,rfl⟩
   |nil=>exact .inr ⟨rfl,rfl,rfl,rfl⟩
def nE{r:c_}(h:r.ag= []):(cn r).ag= []:=by
 obtain⟨c,a,b,d,e⟩:=r
 cases h
 cases b <;>rfl
def kX(r:c_):(cn r).aa=r.aa:=by
 obtain⟨d,b,c,e,f⟩:=r
 cases e with
 |cons a l=>rfl
 |nil=>cases c <;>rfl
def r8(x:Q2 w N ps rs fr){i:Nat}{r:c_}(c:rs[i]?=some r):(aO r).Nodup:=by
 obtain⟨a,b,_⟩:=rX (ps:=ps) (nr:=r) c
 exact(List.nodup_append.mp (b.nodup_iff.mp x.nd)).1
def wj{a:Int}{l m:List Int}(c:l.Perm (a::m))(n:l.Nodup){y:Int}(b:y∈m):a≠y:=λz=>by
 subst z
 exact(List.nodup_cons.mp (c.nodup_iff.mp n)).1 b
def CK{r:c_}{b:Nat}{l nl:List (Int×Int)}{y:Int}(f:r.aa[b]?=some l)(g:∀z∈nl.map (·.2),z∈l.map (·.2))(a:y∈LJ {r with aa:=r.aa.set b nl}):y∈LJ r:=by
 rcases mQa.mp a with a|a
 ·exact mQa.mpr (.inl a)
 ·obtain⟨m,e,c⟩:=QOq.mp a
  obtain⟨j,d⟩:=List.getElem?_of_mem e
  rcases get_set d with⟨rfl,rfl⟩|⟨_,d⟩
  ·exact mQa.mpr (.inr (QOq.mpr ⟨l,mQg f,g y c⟩))
  ·exact mQa.mpr (.inr (QOq.mpr ⟨m,mQg d,c⟩))
def Q2.leave(x:Q2 w N ps rs fr){i:Nat}{r:c_}(o:rs[i]?=some r):Q2 w N ps (rs.set i (cn r)) fr:=by
 have f:=x.at o
 rcases leave_held r with⟨a,s,m⟩|⟨u,m,c,q⟩
 ·have G:a∈aO r:=s.mem_iff.mpr (QBq ..)
  have d:∀y∈aO (cn r),y∈aO r:=λy k=>s.mem_iff.mpr (Qpq _ k)
  obtain⟨g,rfl,F⟩:=x.hv a (gW x o G)
  refine x.room0 o ⟨λv j=>f.rl v (d _ j),λz=>by rw[m] at z;omega,.inr ⟨g,m,F,QcQ (f.rl g G)⟩,λe c q=>nE (f.r3 e c q),λe c b l nm C B A=>f.r4 e c b l nm C (by rw[←kX];exact B) A,λy k=>by rw[m];exact wj s (r8 x o) (i4 k)⟩ (λp n=>tx s n) d
 ·refine x.room0 o ⟨λv j=>f.rl v (by rw[←u];exact j),λ_=> ?_,.inl m,λe c q=>nE (f.r3 e c q),λe c b l nm C B A=>f.r4 e c b l nm C (by rw[←kX];exact B) A,λy k=>by obtain⟨g,F,_⟩:=x.hv y (gW x o (by rw[←u];exact i4 k));rw[m];omega⟩ (λp n=>by rw[u];exact n) (λy k=>by rw[←u];exact k)
  obtain⟨H,t,I,J,K⟩:=r
  cases c
  cases q
  exact⟨rfl,rfl⟩
def Q2.come(x:Q2 w N ps rs fr){i:Nat}{r:c_}(j:rs[i]?=some r)(m:h<N)(o:(h:Int)∉hl ps rs)(l:(fr h).getLast? =some (i:Int)):Q2 w N ps (rs.set i (iK r h)) fr:=by
 have b:=x.at j
 unfold iK
 by_cases c:r.within= -1
 ·rw[Qhq c]
  refine x.room0 j ⟨b.rl,λz=>by have z:(h:Int)= -1:=z;omega,.inr ⟨h,rfl,m,QcQ l⟩,b.r3,b.r4,λy d z=>o (gW x j (by have z:(h:Int)=y:=z;rw[z];exact i4 d))⟩ (λe n=>n) (λy d=>d)
 ·rw[Quq c]
  have k:(aO {r with row:=r.row++ [(h:Int)]}).Perm ((h:Int)::aO r):=by
   show((r.row++ [(h:Int)])++r.ag++_).Perm ((h:Int)::(r.row++r.ag++_))
   rw[Qvq,Qvq,Qvq]
   exact List.perm_middle
  have a:∀y∈aO {r with row:=r.row++ [(h:Int)]},y∈aO r\/y=(h:Int):=λy d=>by
   rcases Qsq.mp (k.mem_iff.mp d) with rfl|d
   ·exact .inr rfl
   ·exact .inl d
  refine x.room j ⟨λg f=> ?_,λz=>absurd z c,b.r2,b.r3,b.r4,b.r5⟩ (λe n p=>uz k n p) a m o
  rcases a _ f with f|f
  ·exact b.rl g f
  ·have:g=h:=by omega
   subst this
   exact l
def uF{α:Type}{A B C:List α}:(A++(B++C)).Perm (B++(A++C)):=by
 rw[←Qvq,←Qvq]
 exact QJq _ List.perm_append_comm
def n_{r:c_}{b:Nat}{l nl:List (Int×Int)}(c:r.aa[b]?=some l):∃a,(aO r).Perm (l.map (·.2)++a)/\(aO {r with aa:=r.aa.set b nl}).Perm (nl.map (·.2)++a):=by
 refine⟨(r.row++r.ag)++(r.aa.eraseIdx b).flatMap λl=>l.map (·.2),?_,?_⟩
 ·exact(List.Perm.append_left (r.row++r.ag) (jI (f:=λl:List (Int×Int)=>l.map (·.2)) c)).trans uF
 ·exact(List.Perm.append_left (r.row++r.ag) (jc (f:=λl:List (Int×Int)=>l.map (·.2)) (b:=nl) c)).trans uF
def DY{l:List (Int×Int)}{t k:Int}:((il l t k).map (·.2)).Perm (k::l.map (·.2)):=by
 unfold il
 generalize (l.filter λp=>decide (p.1<=t)).length=n
 have e:l.map (·.2)=(l.take n).map (·.2)++(l.drop n).map (·.2):=by rw[←Qzq,List.take_append_drop]
 rw[e,Qvq,Qzq]
 exact List.perm_middle
theorem sN{t:Int}:∀{l:List (Int×Int)},(l.map (·.1)).Pairwise (·<=·)->(∀p∈l.take (l.filter λp=>decide (p.1<=t)).length,p.1<=t)/\∀p∈l.drop (l.filter λp=>decide (p.1<=t)).length,t<p.1
 | [],_=>⟨λp b=>by simp at b,λp b=>by simp at b⟩
 | a::l,hs=>by
   rw[QDq,List.pairwise_cons] at hs
   by_cases c:a.1<=t
   · rw[List.filter_cons_of_pos (by simpa using c),Qnq,List.take_succ_cons,List.drop_succ_cons]
     obtain⟨g,f⟩:=sN (t:=t) hs.2
     refine⟨λp b=> ?_,f⟩
     rcases Qsq.mp b with rfl|b
     · exact c
     · exact g p b
   · have e:∀p∈a::l,t<p.1:=λp b=>by
       rcases Qsq.mp b with rfl|b
       · omega
       · have:=hs.1 p.1 (Qkq.mpr ⟨p,b,rfl⟩)
         omega
     have d:((a::l).filter λp=>decide (p.1<=t))= []:=List.filter_eq_nil_iff.mpr λp b=>by
       have:=e p b
       simpa using this
     rw[d]
     exact⟨λp b=>by simp at b,λp b=>e p (by simpa using b)⟩
def yV{l:List (Int×Int)}{t k:Int}(f:(l.map (·.1)).Pairwise (·<=·)):((il l t k).map (·.1)).Pairwise (·<=·):=by
 obtain⟨g,d⟩:=sN (t:=t) f
 unfold il
 generalize (l.filter λp=>decide (p.1<=t)).length=n at g d⊢
 rw[Qvq,Qzq,Qzq,List.pairwise_append]
 have o:((l.take n).map (·.1)).Pairwise (·<=·):=by rw[List.map_take];exact f.sublist (List.take_sublist ..)
 have r:((l.drop n).map (·.1)).Pairwise (·<=·):=by rw[List.map_drop];exact f.sublist (List.drop_sublist ..)
 refine⟨o,?_,λa j b c=> ?_⟩
 ·show(t::(l.drop n).map (·.1)).Pairwise (·<=·)
  rw[List.pairwise_cons]
  refine⟨λb c=> ?_,r⟩
  obtain⟨p,e,rfl⟩:=Qkq.mp c
  have:=d p e
  omega
 ·obtain⟨p,e,rfl⟩:=Qkq.mp j
  have m:=g p e
  rcases Qsq.mp (show b∈t::(l.drop n).map (·.1) from c) with rfl|c
  ·exact m
  ·obtain⟨q,i,rfl⟩:=Qkq.mp c
   have:=d q i
   omega
def Gr{l:List (Int×Int)}{t k:Int}{p:Int×Int}(h:p∈il l t k):p∈l\/p=(t,k):=by
 unfold il at h
 rcases mQa.mp h with h|h
 ·rcases mQa.mp h with h|h
  ·exact .inl (List.mem_of_mem_take h)
  ·exact .inr (Qfq.mp h)
 ·exact .inl (List.mem_of_mem_drop h)
def Q2.wait(x:Q2 w N ps rs fr){i b:Nat}{r:c_}{rm:Rm}{l:List (Int×Int)}{t:Int}{nm W:Str}(G:rs[i]?=some r)(hm:w.aj[i]?=some rm)(hb:r.aa[b]?=some l)(hs:rm.aa[b]?=some (nm,W))(ht:W="row" ->t=0)(Y:h<N)(Z:(h:Int)∉hl ps rs)(hf:(fr h).getLast? =some (i:Int)):
  Q2 w N ps (rs.set i (cn {r with aa:=r.aa.set b (il l t h)})) fr:=by
 have P:=x.at G
 obtain⟨f,p1,p2⟩:=n_ (nl:=il l t h) hb
 have q:(aO {r with aa:=r.aa.set b (il l t h)}).Perm ((h:Int)::aO r):=by
  refine p2.trans ((QJq f DY).trans ?_)
  rw[List.cons_append]
  exact List.Perm.cons _ p1.symm
 have e:∀y∈aO {r with aa:=r.aa.set b (il l t h)},y∈aO r\/y=(h:Int):=λy d=>by
  rcases Qsq.mp (q.mem_iff.mp d) with rfl|d
  ·exact .inr rfl
  ·exact .inl d
 have B:∀g:Nat,(g:Int)∈aO {r with aa:=r.aa.set b (il l t h)}->(fr g).getLast? =some (i:Int):=λg s=>by
  rcases e _ s with s|s
  ·exact P.rl g s
  ·have:g=h:=by omega
   subst this
   exact hf
 have K:∀c:Rm,w.aj[i]?=some c->∀(I:Nat) (J:List (Int×Int)) (u m:Str),(cn {r with aa:=r.aa.set b (il l t h)}).aa[I]?=some J->c.aa[I]?=some (u,m)->(J.map (·.1)).Pairwise (·<=·)/\(m="row" ->∀p∈J,p.1=0):=λc A I J u m k v=>by
  rw[kX] at k
  rcases get_set k with⟨rfl,rfl⟩|⟨_,k⟩
  ·rw[hm] at A
   cases A
   rw[hs] at v
   cases v
   obtain⟨e1,e2⟩:=P.r4 rm hm I l nm W hb hs
   refine⟨yV e1,λz p q=> ?_⟩
   rcases Gr q with q|rfl
   ·exact e2 z p q
   ·exact ht z
  ·exact P.r4 c A I J u m k v
 have H:∀y∈aO {r with aa:=r.aa.set b (il l t h)},∃g:Nat,y=g/\g<N:=λy d=>by
  rcases e y d with d|rfl
  ·exact x.hv y (gW x G d)
  ·exact⟨h,rfl,Y⟩
 have n':(aO {r with aa:=r.aa.set b (il l t h)}).Nodup:=q.nodup_iff.mpr (List.nodup_cons.mpr ⟨λz=>Z (gW x G z),r8 x G⟩)
 have L:∀c:Rm,w.aj[i]?=some c->c.ah="when free" ->(cn {r with aa:=r.aa.set b (il l t h)}).ag= []:=λc S R=>nE (P.r3 c S R)
 rcases leave_held {r with aa:=r.aa.set b (il l t h)} with⟨a,o,F⟩|⟨Q,F,S,R⟩
 ·have ha:a∈aO {r with aa:=r.aa.set b (il l t h)}:=o.mem_iff.mpr (QBq ..)
  have j:∀y∈aO (cn {r with aa:=r.aa.set b (il l t h)}),y∈aO {r with aa:=r.aa.set b (il l t h)}:=λy d=>o.mem_iff.mpr (Qpq _ d)
  obtain⟨g,rfl,s⟩:=H a ha
  exact x.room G ⟨λU C=>B U (j _ C),λz=>by rw[F] at z;omega,.inr ⟨g,F,s,QcQ (B g ha)⟩,L,K,λy d=>by rw[F];exact wj o n' (i4 d)⟩ (λf n X=>tx o (uz q n X)) (λy d=>e y (j y d)) Y Z
 ·refine x.room G ⟨λU C=>B U (by rw[←Q];exact C),λ_=> ?_,.inl F,L,K,λy d=>by obtain⟨g,s,_⟩:=H y (by rw[←Q];exact i4 d);rw[F];omega⟩ (λf n X=>by rw[Q];exact uz q n X) (λy d=>e y (by rw[←Q];exact d)) Y Z
  obtain⟨a1,M,a2,ag,aa⟩:=r
  cases S
  cases R
  exact⟨rfl,rfl⟩
def Q2.all(x:Q2 w N ps rs fr){i b:Nat}{r:c_}{l:List (Int×Int)}(v:rs[i]?=some r)(A:r.aa[b]?=some l):Q2 w N ps (rs.set i {r with aa:=r.aa.set b []}) fr:=by
 have e:=x.at v
 obtain⟨u,t,s⟩:=n_ (nl:= []) A
 have c:∀y∈aO {r with aa:=r.aa.set b []},y∈aO r:=λy q=>t.mem_iff.mpr (mQa.mpr (.inr (by simpa using s.mem_iff.mp q)))
 refine x.room0 v ⟨λg C=>e.rl g (c _ C),e.r1,e.r2,e.r3,λk m G H f o d j=> ?_,λy q=>e.r5 y (CK A (λ_ z=>by simp at z) q)⟩ (λa n=> ?_) c
 ·rcases get_set d with⟨rfl,rfl⟩|⟨_,d⟩
  ·exact⟨.nil,λ_ p F=>by cases F⟩
  ·exact e.r4 k m G H f o d j
 ·have B:=(QJq a t).nodup_iff.mp n
  refine(QJq a s).nodup_iff.mpr ?_
  rw[Qvq] at B
  exact(List.nodup_append.mp B).2.1
def Q2.call(x:Q2 w N ps rs fr){i b:Nat}{r:c_}{rm:Rm}{l:List (Int×Int)}(u:rs[i]?=some r)(hm:w.aj[i]?=some rm)(M:r.aa[b]?=some l)(hN:h<N)(S:(h:Int)∉hl ps rs)(Z:(fr h).getLast? =some (i:Int)):
  Q2 w N ps (rs.set i (uf (decide (rm.ah="when free")) r b h)) fr:=by
 have v:=x.at u
 unfold uf
 rw[M]
 cases l with
 | nil=>
   have e:rs.set i r=rs:=by
     apply List.ext_getElem?
     intro j
     rw[List.getElem?_set]
     split
     · rename_i c
       subst c
       rw[u]
       have:=(gQs.mp u).1
       simp[this]
     · rfl
   rw[e]
   exact x
 | cons p l=>
   obtain⟨A,X,W⟩:=n_ (nl:=l) M
   have C:(aO r).Perm (p.2::aO {r with aa:=r.aa.set b l}):=by
     refine X.trans ?_
     rw[QDq,List.cons_append]
     exact List.Perm.cons _ W.symm
   have G:p.2∈aO r:=C.mem_iff.mpr (QBq ..)
   have d:∀y∈aO {r with aa:=r.aa.set b l},y∈aO r:=λy a=>C.mem_iff.mpr (Qpq _ a)
   have Q:∀f:Rm,w.aj[i]?=some f->∀(I:Nat) (J:List (Int×Int)) (t o:Str),(r.aa.set b l)[I]?=some J->f.aa[I]?=some (t,o)->(J.map (·.1)).Pairwise (·<=·)/\(o="row" ->∀p∈J,p.1=0):=λf m I J t o B H=>by
     rcases get_set B with⟨rfl,rfl⟩|⟨_,B⟩
     · obtain⟨R,U⟩:=v.r4 f m I _ t o M H
       rw[QDq,List.pairwise_cons] at R
       exact⟨R.2,λz q Y=>U z q (Qpq _ Y)⟩
     · exact v.r4 f m I J t o B H
   dsimp only
   by_cases c:rm.ah="when free"
   · rw[Qeq c,Qhq rfl]
     exact x.room0 u ⟨λg G=>v.rl g (d _ G),v.r1,v.r2,v.r3,Q,λy a=>v.r5 y (CK M (λ_ z=>Qpq _ z) a)⟩ (λA n=>tx C n) d
   · rw[Qdq c,Quq (by decide)]
     have L:(aO {r with aa:=r.aa.set b l,within:=p.2,ag:=r.ag++ [(h:Int)]}).Perm ((h:Int)::aO {r with aa:=r.aa.set b l}):=by
       show(r.row++(r.ag++ [(h:Int)])++_).Perm ((h:Int)::(r.row++r.ag++_))
       rw[←Qvq,Qvq]
       exact List.perm_middle
     have s:∀y∈aO {r with aa:=r.aa.set b l,within:=p.2,ag:=r.ag++ [(h:Int)]},y∈aO r\/y=(h:Int):=λy a=>by
       rcases Qsq.mp (L.mem_iff.mp a) with rfl|a
       · exact .inr rfl
       · exact .inl (d y a)
     obtain⟨g,K,P⟩:=x.hv p.2 (gW x u G)
     refine x.room u ⟨λk F=> ?_,λz=> ?_,.inr ⟨g,K,P,QcQ (v.rl g (by rw[←K];exact G))⟩,λf m z=> ?_,Q,λy a=> ?_⟩ (λA n F=> ?_) s hN S
     · rcases s _ F with F|F
       · exact v.rl k F
       · have:k=h:=by omega
         subst this
         exact Z
     · have z:p.2= -1:=z
       omega
     · rw[hm] at m
       cases m
       exact absurd z c
     · show p.2≠y
       rcases mQa.mp a with a|a
       · rcases mQa.mp a with a|a
         · exact wj C (r8 x u) (i4 (mQa.mpr (.inl a)))
         · rw[Qfq.mp a]
           exact λz=>S (gW x u (z▸G))
       · exact wj C (r8 x u) (i4 (mQa.mpr (.inr a)))
     · refine uz L (tx C n) λz=>F ?_
       rcases mQa.mp z with z|z
       · exact mQa.mpr (.inl (d _ z))
       · exact mQa.mpr (.inr z)
end
section
variable{w:cV}{N:Nat}{ps:List (Int×List Int)}{rs:List c_}{fr fr':Nat->List Int}{h:Nat}
def Q2.take(x:Q2 w N ps rs fr){j:Nat}{p:Int×List Int}(r:ps[j]?=some p)(B:h<N)(C:(h:Int)∉hl ps rs)(A:fr h= [-1]):Q2 w N (ps.set j (gS p h)) rs fr:=by
 obtain⟨⟨v,u⟩,o⟩:=x.pv p (mQg r)
 obtain⟨t,m,s⟩:=wO (rs:=rs) (np:=gS p h) r
 have i:(gS p h).2=p.2\/(gS p h).2=p.2++ [(h:Int)]:=by
  unfold gS
  split
  ·exact .inl rfl
  ·exact .inr rfl
 have d:∀y∈(gS p h).2,y∈p.2\/y=(h:Int):=λy b=>by
  rcases i with e|e
  ·rw[e] at b;exact .inl b
  ·rw[e] at b
   rcases mQa.mp b with b|b
   ·exact .inl b
   ·exact .inr (Qfq.mp b)
 refine⟨x.fo,s.nodup_iff.mpr ?_,λy b=> ?_,λq f=> ?_,λq f g l=> ?_,x.rl,x.r1,x.r2,x.r3,x.r4,x.r5⟩
 ·have n:=m.nodup_iff.mp x.nd
  rcases i with e|e
  ·rw[e];exact n
  ·rw[e]
   exact uz (a:=p.2) (k:=(h:Int)) (by rw[←List.append_nil p.2];simpa using List.perm_middle (l₁:=p.2) (a:=(h:Int)) (l₂:= [])) n λz=>C (m.mem_iff.mpr z)
 ·rcases mQa.mp (s.mem_iff.mp b) with b|b
  ·rcases d y b with b|rfl
   ·exact x.hv y (m.mem_iff.mpr (mQa.mpr (.inl b)))
   ·exact⟨h,rfl,B⟩
  ·exact x.hv y (m.mem_iff.mpr (mQa.mpr (.inr b)))
 ·rcases QTq f with f|rfl
  ·exact x.pv q f
  ·unfold gS
   split
   ·rename_i c
    refine⟨⟨by show 0<=p.1-1;omega,by show p.1-1<=9;omega⟩,.inr ?_⟩
    rcases o with o|o
    ·omega
    ·exact o
   ·rename_i c
    exact⟨⟨v,u⟩,.inl (by show p.1=0;omega)⟩
 ·rcases QTq f with f|rfl
  ·exact x.pl q f g l
  ·rcases d _ l with l|l
   ·exact x.pl p (mQg r) g l
   ·have:g=h:=by omega
    subst this
    exact A
def Q2.give(x:Q2 w N ps rs fr){j:Nat}{p:Int×List Int}(m:ps[j]?=some p):Q2 w N (ps.set j (fM p)) rs fr:=by
 obtain⟨⟨o,u⟩,e⟩:=x.pv p (mQg m)
 obtain⟨t,i,r⟩:=wO (rs:=rs) (np:=fM p) m
 have f:=x.pl p (mQg m)
 obtain⟨v,l⟩:=p
 have c:∀y∈(fM (v,l)).2,y∈l:=λy b=>by
  unfold fM at b
  cases l with
  |nil=>cases b
  |cons a l=>exact Qpq _ b
 refine⟨x.fo,r.nodup_iff.mpr ?_,λy b=> ?_,λq d=> ?_,λq d g s=> ?_,x.rl,x.r1,x.r2,x.r3,x.r4,x.r5⟩
 ·have n:=i.nodup_iff.mp x.nd
  unfold fM
  cases l with
  |nil=>exact n
  |cons a l=>exact tx (k:=a) (List.Perm.refl _) n
 ·rcases mQa.mp (r.mem_iff.mp b) with b|b
  ·exact x.hv y (i.mem_iff.mpr (mQa.mpr (.inl (c y b))))
  ·exact x.hv y (i.mem_iff.mpr (mQa.mpr (.inr b)))
 ·rcases QTq d with d|rfl
  ·exact x.pv q d
  ·unfold fM
   cases l with
   | nil=>
     refine⟨?_,.inr rfl⟩
     show 0<=(if 9<v+1 then 9 else v+1)/\(if 9<v+1 then 9 else v+1)<=9
     have o:0<=v:=o
     split <;>omega
   | cons a l=>
     refine⟨⟨o,u⟩,.inl ?_⟩
     rcases e with e|e
     · exact e
     · cases e
 ·rcases QTq d with d|rfl
  ·exact x.pl q d g s
  ·exact f g (c _ s)
def Q2.frames(x:Q2 w N ps rs fr)(b:∀g,g≠h->fr' g=fr g)(k:(h:Int)∉hl ps rs)(l:∀(i:Nat) (r:c_),rs[i]?=some r->r.within=(h:Int)->(i:Int)∈fr' h)(m:(fr' h).head? =some (-1)):Q2 w N ps rs fr':=by
 have j:∀g:Nat,(g:Int)∈hl ps rs->fr' g=fr g:=λg a=>b g λz=>k (by rw[←z];exact a)
 refine⟨λg a=> ?_,x.nd,x.hv,x.pv,λp f g a=> ?_,λi r d g a=> ?_,x.r1,λi r d=> ?_,x.r3,x.r4,x.r5⟩
 ·by_cases c:g=h
  ·subst c
   exact m
  ·rw[b g c]
   exact x.fo g a
 ·rw[j g (mQa.mpr (.inl (QOq.mpr ⟨p,f,a⟩)))]
  exact x.pl p f g a
 ·rw[j g (gW x d a)]
  exact x.rl i r d g a
 ·rcases x.r2 i r d with z|⟨g,e,a,n⟩
  ·exact .inl z
  ·refine .inr ⟨g,e,a,?_⟩
   by_cases c:g=h
   ·subst c
    exact l i r d e
   ·rw[b g c]
    exact n
end
noncomputable def rc(f:cH):Int:=if f.room= -1 then(if f.deed= -1/\f.given=0/\f.told=0 then -1 else -2) else f.room
def mM{f:cH}(h:f.room≠-1):rc f=f.room:=Quq h
noncomputable def xV(s:bz)(g:Nat):List Int:=((s.af[g]?).map λp=>p.2.map rc).getD []
def jK(w:cV)(s:bz):Prop:=Q2 w s.af.length s.ai s.aj (xV s)
section
variable{w:cV}{n h:Nat}{s:bz}{vs:List Int}{fs:List cH}{f:cH}
def lP(a:s.af[h]?=some (vs,fs)):xV s h=fs.map rc:=by
 unfold xV
 rw[a]
 rfl
def yb{p:List Int×List cH}{g:Nat}(a:g≠h):xV {s with af:=s.af.set h p} g=xV s g:=by
 unfold xV
 rw[QKq (Ne.symm a)]
def xZ{p:List Int×List cH}(hl:h<s.af.length):xV {s with af:=s.af.set h p} h=p.2.map rc:=by
 unfold xV
 rw[Qyq hl]
 rfl
def jK.quiet(x:jK w s){b:List Int}{a:List cH}(d:s.af[h]?=some (vs,fs))(e:a.map rc=fs.map rc):jK w {s with af:=s.af.set h (b,a)}:=by
 have hl:=(gQs.mp d).1
 have i:xV {s with af:=s.af.set h (b,a)}=xV s:=by
  funext g
  by_cases c:g=h
  ·subst c
   rw[xZ hl,lP d]
   exact e
  ·exact yb c
 unfold jK
 rw[i]
 show Q2 w (s.af.set h (b,a)).length s.ai s.aj (xV s)
 rw[List.length_set]
 exact x
def jK.share(x:jK w s){a:List Int}:jK w {s with ak:=a}:=x
def jK.vals(x:jK w s){i:Nat}{r:c_}{d:List Int}(b:s.aj[i]?=some r):jK w {s with aj:=s.aj.set i {r with vals:=d}}:=by
 have a:=Q2.at x b
 exact Q2.room0 x b ⟨a.rl,a.r1,a.r2,a.r3,a.r4,a.r5⟩ (λc n=>n) (λy e=>e)
def jK.begun(o:dF w):jK w (bM w):=by
 have j:∀(i:Nat) (r:c_),(bM w).aj[i]?=some r->∃c,w.aj[i]?=some c/\r=c9 c:=λi r j=>by
  simp only[bM,gQm] at j
  obtain⟨c,B,A⟩:=oQm.mp j
  exact⟨c,B,A.symm⟩
 have u:∀c:Rm,∀l∈(c9 c).aa,l= []:=λc l hl=>by
  simp only[c9,Qkq] at hl
  obtain⟨_,_,e⟩:=hl
  exact e.symm
 have t:∀c:Rm,aO (c9 c)= []:=λc=>by
  unfold aO
  have:(c9 c).aa.flatMap (λl=>l.map (·.2))= []:=List.flatMap_eq_nil_iff.mpr λl hl=>by rw[u c l hl];rfl
  rw[this]
  rfl
 have F:hl (bM w).ai (bM w).aj= []:=by
  unfold hl
  rw[List.append_eq_nil_iff,List.flatMap_eq_nil_iff,List.flatMap_eq_nil_iff]
  refine⟨λp d=> ?_,λr a=> ?_⟩
  ·simp only[bM,Qkq] at d
   obtain⟨q,_,rfl⟩:=d
   rfl
  ·simp only[bM,Qkq] at a
   obtain⟨q,_,rfl⟩:=a
   exact t q
 have v:(bM w).ai.flatMap (·.2)++(bM w).aj.flatMap aO= []:=F
 refine⟨λg k=> ?_,by rw[v];exact .nil,(λx z=>by rw[v] at z;cases z),?_,λp d g k=> ?_,λi r a g k=> ?_,λi r a _=> ?_,λi r a=> ?_,λi r c a _ _=> ?_,λi r c a _ b l nm I G _=> ?_,λi r a y H=>by obtain⟨c,_,rfl⟩:=j i r a;have:=i4 H;rw[t] at this;cases this⟩
 ·have m:g<w.af.length:=by simpa [bM] using k
  unfold xV
  simp only[bM,gQm,gQe m,Option.map_some,Option.getD_some]
  rfl
 ·intro p d
  simp only[bM,Qkq] at d
  obtain⟨q,C,rfl⟩:=d
  have:=o.pv q C
  exact⟨⟨by show(0:Int)<=(q.2:Int);omega,by show(q.2:Int)<=9;omega⟩,.inr rfl⟩
 ·simp only[bM,Qkq] at d
  obtain⟨q,_,rfl⟩:=d
  cases k
 ·obtain⟨c,_,rfl⟩:=j i r a
  rw[t] at k
  cases k
 ·obtain⟨c,_,rfl⟩:=j i r a
  exact⟨rfl,rfl⟩
 ·obtain⟨c,_,rfl⟩:=j i r a
  exact .inl rfl
 ·obtain⟨c,_,rfl⟩:=j i r a
  rfl
 ·obtain⟨c,_,rfl⟩:=j i r a
  rw[u c l (mQg G)]
  exact⟨.nil,λ_ p d=>by cases d⟩
end
section
variable{w:cV}{n h:Nat}{s:bz}{vs:List Int}{fs:List cH}{f:cH}{sc:Sc}
def mC{f':cH}(a:fs.getLast? =some f)(e:rc f'=rc f):(fs.dropLast++ [f']).map rc=fs.map rc:=by
 conv=>rhs;rw[ir a]
 rw[Qzq,Qzq]
 show _++ [rc f']=_++ [rc f]
 rw[e]
def B5{y:Str}{v:Int}(o:dF w)(x:cD w n s)(q:jK w s)(j:s.af[h]?=some (vs,fs))(t:fs.getLast? =some f)(p:CV w h f=some sc)(A:y∈sc.ps)(u:0<=v/\v<=9):∃m,Puts w s h y v m/\cD w n m/\jK w m:=by
 obtain⟨z,L,i,k⟩:=x.whand j
 have B:=o.hd _ (mQg i)
 have H:=k.fr f (QcQ t)
 have J:=o.l1
 have R:=o.l3
 have F:=B.l1
 have K:=o.l4
 have P:=x.lr
 have M:=x.lh
 rcases lO p with⟨c,C,G,g,rfl⟩|⟨c,r,hr,rfl⟩
 ·rw[i] at g
  cases g
  refine⟨wL w s h z vs fs y v,λS Q q=>Hw i j t c x.ls k.lv (by omega) (by dsimp only at F;omega) (by omega) A q,?_⟩
  unfold wL
  split
  ·obtain⟨d,e⟩:=nK (ns:=w.ak.map (·.1)) (y:=y) x.sv u
   exact⟨x.share d e,q.share⟩
  ·obtain⟨d,e⟩:=nK (ns:=z.map (·.1)) (y:=y) k.vv u
   exact⟨x.hand i (k.vals d e),q.quiet j rfl⟩
 ·obtain⟨N,b,a⟩:=x.wroom hr
  have l:=o.rm r (mQg hr)
  have I:=l.l1
  refine⟨_,λS Q q=>Gw j t (qF H c) hr b a.lv (by omega) (by omega) A q,?_⟩
  obtain⟨d,e⟩:=nK (ns:=r.ao.map (·.1)) (y:=y) a.vv u
  exact⟨x.room hr ⟨by rw[a.lv,←d],a.lb,e,a.br,a.bl,a.bb⟩,q.vals b⟩
def Du(hi:iQ fs)(e:fs.getLast? =some f)(c:f.room= -1)(b:(fs.map rc).head? =some (-1)):fs.map rc= [-1]:=by
 have g:=ir e
 rw[g] at hi b⊢
 cases d:fs.dropLast with
 | nil=>
   rw[d] at b
   rw[List.nil_append]
   have b:some (rc f)=some (-1):=b
   show [rc f]= [-1]
   rw[QdQ b]
 | cons a l=>
   rw[d] at hi
   exact absurd c (hi.2 f (mQa.mpr (.inr (Qfq.mpr rfl))))
def Iq{r:Rw}{pr:List Rw}(o:dF w)(x:cD w n s)(N:jK w s)(I:(h:Int)∉held s)(hn:n<=100)(A:s.af[h]?=some (vs,fs))(H:fs.getLast? =some f)(hp:progOf w h f=some pr)(h1:1<=f.row)(a3:pr[(f.row-1).toNat]?=some r):∃s',Jl w s h r s'/\cD w (n+1) s'/\jK w s':=by
 obtain⟨sc,J,c4⟩:=Gf o hp
 have b:=c4 r (mQg a3)
 obtain⟨ts,a5,hw,hi⟩:=x.whand A
 have fi:=hi.fr f (QcQ H)
 have hl:h<s.af.length:=(gQs.mp A).1
 have b1:=o.l1
 have b2:=o.l2
 have b3:=o.l3
 have b4:=o.l4
 have lr:=x.lr
 have lp:=x.lp
 have lh:=x.lh
 have lf:=hi.lf
 have Z:=x.mono (Nat.le_succ n)
 have U:f.room≠-1->(xV s h).getLast? =some f.room:=λc=>by rw[lP A,QfQ,H];exact congrArg some (mM c)
 have f0:=N.fo h hl
 have C:sc.own=false->∃(i:Nat) (r:Rm) (rs:c_),f.room=i/\w.aj[i]?=some r/\s.aj[i]?=some rs/\kq n r rs/\Ba (bE w.aj) r/\sc.bs=r.aa.map (·.1):=λho=>by
  rcases lO J with⟨c,b0,a5,b8,rfl⟩|⟨c,r,M,rfl⟩
  ·cases ho
  ·obtain⟨rs,k,L⟩:=x.wroom M
   exact⟨_,r,rs,qF fi c,M,k,L,o.rm r (mQg M),rfl⟩
 have G:sc.own=true->sc.ts=w.ai.map (·.1)/\xV s h= [-1]:=λho=>by
  rcases lO J with⟨c,b0,a5,b8,rfl⟩|⟨c,r,M,rfl⟩
  ·exact⟨rfl,by rw[lP A] at f0⊢;exact Du hi.hd H c f0⟩
  ·cases ho
 have F:∀y,y∈w.ai.map (·.1)->∀ps:List (Int×List Int),w.ai.length=ps.length->∃p,ps[gg (w.ai.map (·.1)) y]?=some p:=λy B ps hl=>by
  have:=(j3 B).1
  rw[lQm] at this
  exact⟨_,gQe (by omega)⟩
 have X:∀p:Int×List Int,p.2.length<=n->(gS p h).2.length<=n+1:=λp hp=>by
  unfold gS
  split
  ·show p.2.length<=_;omega
  ·simp;omega
 have Y:∀p:Int×List Int,p.2.length<=n->(fM p).2.length<=n:=λp hp=>by
  obtain⟨v,l⟩:=p
  unfold fM
  cases l with
  |nil=>simp
  |cons a l=>simp at hp;show l.length<=n;omega
 cases r with
 | put y t=>
   obtain⟨v,hv,M⟩:=mi o x A H J b.2
   obtain⟨s',u,c1,c3⟩:=B5 o x N A H J b.1 hv
   exact⟨s',λS Q q=>Dc M u q,c1.mono (Nat.le_succ n),c3⟩
 | unl t m=>
   obtain⟨v,hv,M⟩:=mi o x A H J b.1
   refine⟨_,λS Q q=>wH M A H (by omega) (by omega) q,?_⟩
   split
   · exact⟨Z.goes A H hp (by omega) (by have:=b.2;omega),N.quiet A (mC H rfl)⟩
   · exact⟨Z,N⟩
 |go m=>exact⟨_,λS Q q=>F1 A H (by omega) (by omega) q,Z.goes A H hp (by omega) (by have:m<=pr.length:=b;omega),N.quiet A (mC H rfl)⟩
 | do_ g rn dn t=>
   obtain⟨v,hv,M⟩:=mi o x A H J b.2.2
   have c6:sc.gs=bE w.aj:=by
     rcases lO J with⟨c,b0,a5,b8,rfl⟩|⟨c,r,M,rfl⟩ <;>rfl
   have a6:=b.2.1
   rw[c6] at a6
   obtain⟨a2,r,d,c0⟩:=HB o a6
   obtain⟨rs,k,L⟩:=x.wroom d
   have R:=o.rm r (mQg d)
   have b5:=R.l3
   have b6:=L.br
   refine⟨_,λS Q q=>F0 M A a2 d k c0 (by omega) (by omega) (by omega) (by omega) (by omega) (by omega) q,?_⟩
   have c2:=j3 c0
   have a7:=c2.1
   rw[lQm] at a7
   obtain⟨⟨d3,a9⟩,d1⟩:∃p,r.ae[gg (r.ae.map (·.1)) dn]?=some p:=⟨_,gQe a7⟩
   have pf:progOf w h ⟨(gg (w.aj.map (·.name)) rn:Nat),(gg (r.ae.map (·.1)) dn:Nat),0,v,0⟩=some a9:=D2 rfl rfl d d1
   have hh:=hi.push (f':=⟨(gg (w.aj.map (·.name)) rn:Nat),(gg (r.ae.map (·.1)) dn:Nat),0,v,0⟩) H ⟨pr,g,rn,dn,t,hp,h1,a3⟩ (by show((gg (w.aj.map (·.name)) rn:Nat):Int)≠-1;omega) ⟨⟨a9,pf,by show(0:Int)<=0;omega,by show(0:Int)<=_;omega⟩,hv,by show(0:Int)<=0/\(0:Int)<=9;omega⟩
   refine⟨(Z.hand hw hh).room d L.come,?_⟩
   generalize gg (r.ae.map (·.1)) dn=dd
   generalize gg (w.aj.map (·.name)) rn=i at k
   have eo:xV {s with af:=s.af.set h (vs,fs++ [(⟨i,dd,0,v,0⟩:cH)]),aj:=s.aj.set i (iK rs h)} h=fs.map rc++ [(i:Int)]:=by
     have:=xZ (s:={s with aj:=s.aj.set i (iK rs h)}) (h:=h) (p:=(vs,fs++ [(⟨i,dd,0,v,0⟩:cH)])) hl
     rw[Qzq] at this
     rw[show [(i:Int)]= [(⟨i,dd,0,v,0⟩:cH)].map rc by show _= [rc _];rw[mM (by show(i:Int)≠-1;omega)]]
     exact this
   have q3:Q2 w s.af.length s.ai s.aj (xV {s with af:=s.af.set h (vs,fs++ [(⟨i,dd,0,v,0⟩:cH)]),aj:=s.aj.set i (iK rs h)}):=by
     refine Q2.frames N (h:=h) (λg hg=> ?_) I (λj r' hj e=> ?_) ?_
     · exact yb (s:={s with aj:=s.aj.set i (iK rs h)}) hg
     · rw[eo]
       rcases N.r2 j r' hj with z|⟨g,e',_,hm⟩
       · omega
       · have:g=h:=by omega
         subst this
         rw[lP A] at hm
         exact mQa.mpr (.inl hm)
     · rw[eo]
       rw[lP A] at f0
       cases b9:fs.map rc with
       |nil=>rw[b9] at f0;cases f0
       |cons a l=>rw[b9] at f0;exact f0
   have q4:=q3.come (h:=h) k hl I (by rw[eo];simp)
   unfold jK
   show Q2 w (s.af.set h _).length s.ai (s.aj.set i (iK rs h)) _
   rw[List.length_set]
   exact q4
 | wait y t=>
   obtain⟨i,r,rs,K,d,k,L,R,a1⟩:=C b.1
   obtain⟨v,hv,M⟩:=mi o x A H J b.2.2
   have B:=b.2.1
   rw[a1] at B
   have b6:=R.l2
   have lb:=L.lb
   obtain⟨k1,k2⟩:=j3 B
   rw[lQm] at k1
   rw[gQm] at k2
   obtain⟨⟨y',so⟩,k3,k4⟩:=oQm.mp k2
   have k4:y'=y:=k4
   subst k4
   obtain⟨W,P⟩:∃l,rs.aa[gg (r.aa.map (·.1)) y']?=some l:=⟨_,gQe (by omega)⟩
   have ll:=L.bb W (mQg P)
   refine⟨_,λS Q q=>BE A H K d k (by omega) lb (by omega) B k3 P (by omega) M q,?_⟩
   refine⟨Z.room d (((L.mono (Nat.le_succ n)).line (by rw[FS];omega)).leave),?_⟩
   exact Q2.wait N (h:=h) k d P k3 (λz=>by rw[z,Quq (by decide +kernel)]) hl I (by rw[U (by omega),K])
 | call y=>
   obtain⟨i,r,rs,K,d,k,L,R,a1⟩:=C b.1
   have B:=b.2
   rw[a1] at B
   have b6:=R.l2
   have b7:=L.bl
   have lb:=L.lb
   have k1:=(j3 B).1
   rw[lQm] at k1
   obtain⟨W,P⟩:∃l,rs.aa[gg (r.aa.map (·.1)) y]?=some l:=⟨_,gQe (by omega)⟩
   refine⟨_,λS Q q=>A9 A H K d k (by omega) L.lb (by omega) (by omega) B q,?_⟩
   exact⟨Z.room d L.call,Q2.call N (h:=h) k d P hl I (by rw[U (by omega),K])⟩
 | all y=>
   obtain⟨i,r,rs,K,d,k,L,R,a1⟩:=C b.1
   have B:=b.2
   rw[a1] at B
   have b6:=R.l2
   have lb:=L.lb
   have k1:=(j3 B).1
   rw[lQm] at k1
   obtain⟨W,P⟩:∃l,rs.aa[gg (r.aa.map (·.1)) y]?=some l:=⟨_,gQe (by omega)⟩
   refine⟨_,λS Q q=>DC A H K d k (by omega) L.lb (by omega) B q,?_⟩
   exact⟨Z.room d ((L.mono (Nat.le_succ n)).line (by simp)),Q2.all N k P⟩
 | tell t=>
   obtain⟨v,hv,M⟩:=mi o x A H J b.2
   exact⟨_,λS Q q=>A7 M A H (by omega) (by omega) q,Z.tells A H hv,N.quiet A (mC H (by
     have a2:f.room≠-1:=by obtain⟨i,r,rs,K,_⟩:=C b.1;omega
     rw[mM a2];exact mM (f:={f with told:=v}) a2))⟩
 | take y=>
   have B:=b.2
   rw[(G b.1).1] at B
   obtain⟨p,u⟩:=F y B s.ai lp
   have pl:=x.ps p (mQg u)
   exact⟨_,λS Q q=>AI B u (by omega) (by omega) (by omega) q,Z.pass (X p pl),Q2.take N u hl I (G b.1).2⟩
 | give y=>
   have B:=b.2
   rw[(G b.1).1] at B
   obtain⟨p,u⟩:=F y B s.ai lp
   have pl:=x.ps p (mQg u)
   exact⟨_,λS Q q=>AW B u (by omega) (by omega) q,Z.pass (Nat.le_succ_of_le (Y p pl)),Q2.give N u⟩
 | pass y z=>
   have B:=b.2.1
   have hz:=b.2.2
   rw[(G b.1).1] at B hz
   obtain⟨p,u⟩:=F y B s.ai lp
   have pl:=x.ps p (mQg u)
   have x2:cD w n _:=x.pass (i:=gg (w.ai.map (·.1)) y) (Y p pl)
   obtain⟨p2,a4⟩:=F z hz (s.ai.set (gg (w.ai.map (·.1)) y) (fM p)) (by simpa using lp)
   have c5:=x2.ps p2 (mQg a4)
   have q3:=Q2.give N u
   refine⟨_,λS Q q=>Ax B hz u (by omega) (by omega) (by omega) a4 q,(x2.mono (Nat.le_succ n)).pass (X p2 c5),Q2.take q3 a4 hl ?_ (G b.1).2⟩
   intro zz
   obtain⟨d2,e1,e2⟩:=wO (rs:=s.aj) (np:=fM p) u
   refine I (e1.mem_iff.mpr ?_)
   rcases mQa.mp (e2.mem_iff.mp zz) with zz|zz
   · refine mQa.mpr (.inl ?_)
     obtain⟨v,l⟩:=p
     unfold fM at zz
     cases l with
     |nil=>cases zz
     |cons a l=>exact Qpq _ zz
   · exact mQa.mpr (.inr zz)
 |say t=>exact⟨s,λS Q q=>DK (sd:=.non) q,Z,N⟩
def HX(o:dF w)(x:cD w n s)(Y:jK w s)(hn:n<=100)(hm:h∈Bz w s)(u:s.af[h]?=some (vs,fs))(C:fs.getLast? =some f):∃F e,wc w s h F e/\cD w (n+1) F/\jK w F:=by
 obtain⟨ts,b8,hw,hi⟩:=x.whand u
 have fi:=hi.fr f (QcQ C)
 obtain⟨pr,H,a9,b5⟩:=fi.pr
 have hl:h<s.af.length:=(gQs.mp u).1
 have b1:=o.l1
 have b4:=o.l4
 have lr:=x.lr
 have lh:=x.lh
 have lf:=hi.lf
 have mm:=(List.mem_filter.mp hm).2
 rw[QCq] at mm
 have A:(h:Int)∉held s:=by
  intro z
  have:=mm.1
  rw[Qeq z] at this
  cases this
 have nb:¬(f.room= -1/\f.row=pr.length):=by
  rintro⟨c1,c2⟩
  have hb:zL w s h=true:=by
   unfold zL F3
   rw[u]
   show(match fs.getLast? with|some f=>_|none=>_)=_
   rw[C]
   simp only[H,Option.getD_some,c1,c2,decide_true,Bool.and_true]
  rw[hb] at mm
  exact absurd mm.2 (by decide)
 have row:∀(r:Rw) (e:Option Int),Here s h f->pr[f.row.toNat]?=some r->Km w s h r e->∃F e,wc w s h F e/\cD w (n+1) F/\jK w F:=λr e p b N=>by
  have G:=(gQs.mp b).1
  have x2:=x.goes u C H (m:=f.row+1) (by omega) (by omega)
  have q3:jK w {s with af:=s.af.set h (vs,fs.dropLast++ [{f with row:=f.row+1}])}:=Y.quiet u (mC C rfl)
  obtain⟨F,hd,M,U⟩:=Iq (f:={f with row:=f.row+1}) (r:=r) (pr:=pr) o x2 q3 A hn (Qyq hl) (by simp) H (by show 1<=f.row+1;omega) (by show pr[(f.row+1-1).toNat]?=_;rw[show f.row+1-1=f.row by omega];exact b)
  exact⟨F,e,FQ u C p H a9 b (by omega) (by omega) N hd,M,U⟩
 obtain⟨sc,a4,b0⟩:=Gf o H
 have I:∀r,pr[f.row.toNat]?=some r->∃e,Km w s h r e:=λr b=>by
  have X:=b0 r (mQg b)
  cases r with
  | say t=>
    obtain⟨v,hv,hr⟩:=mi o x u C a4 X.2
    exact⟨some v,v,rfl,hr⟩
  |_=>exact⟨none,rfl⟩
 by_cases c:f.room= -1
 ·have G:f.row.toNat<pr.length:=by
   have:f.row≠pr.length:=λz=>nb ⟨c,z⟩
   omega
  have b:pr[f.row.toNat]?=some (pr[f.row.toNat]):=gQe G
  obtain⟨e,N⟩:=I _ b
  exact row _ e (.inl c) b N
 ·rcases nM H with⟨c',_⟩|⟨i,j,r,dn,Z,h2,h3,h4⟩
  ·exact absurd c' c
  obtain⟨B,k,ri⟩:=x.wroom h3
  have br:=ri.br
  have L:(xV s h).getLast? =some (i:Int):=by rw[lP u,QfQ,C,←Z];exact congrArg some (mM c)
  by_cases cw:B.within=h
  ·have p:Here s h f:=.inr ⟨i,B,Z,k,cw⟩
   by_cases ce:f.row=pr.length
   ·have a3:=ir C
    have hd:=hi.hd
    rw[a3] at hd
    obtain⟨J,R,hg⟩:=hd.two c
    have a6:fs=J++ [R,f]:=by rw[a3,hg];simp
    subst a6
    obtain⟨a7,a5⟩:=hi.pop
    obtain⟨b7,g,rn,b9,t,p1,p2,p3⟩:=a5
    have x2:cD w n {s with aj:=s.aj.set i (cn B),af:=s.af.set h (vs,J++ [R])}:=(x.hand hw a7).room h3 ri.leave
    have ql:=Q2.leave Y k
    have P:(h:Int)∉W28.hl s.ai (s.aj.set i (cn B)):=by
     intro z
     obtain⟨b3,e1,e2⟩:=rX (ps:=s.ai) (nr:=cn B) k
     refine A (e1.mem_iff.mpr ?_)
     rcases mQa.mp (e2.mem_iff.mp z) with z|z
     ·refine mQa.mpr (.inl ?_)
      rcases leave_held B with⟨a,K,_⟩|⟨N,_⟩
      ·exact K.mem_iff.mpr (Qpq _ z)
      ·rw[←N];exact z
     ·exact mQa.mpr (.inr z)
    have q3:jK w {s with aj:=s.aj.set i (cn B),af:=s.af.set h (vs,J++ [R])}:=by
     have eo:xV {s with aj:=s.aj.set i (cn B),af:=s.af.set h (vs,J++ [R])} h=(J++ [R]).map rc:=xZ (s:={s with aj:=s.aj.set i (cn B)}) hl
     unfold jK
     show Q2 w (s.af.set h _).length s.ai (s.aj.set i (cn B)) _
     rw[List.length_set]
     refine Q2.frames ql (h:=h) (λg hg=>yb (s:={s with aj:=s.aj.set i (cn B)}) hg) P (λj r' hj e=> ?_) ?_
     ·rw[eo]
      rcases get_set hj with⟨rfl,rfl⟩|⟨hne,hj⟩
      ·exfalso
       rcases leave_held B with⟨a,K,W⟩|⟨_,W,_⟩
       ·rw[W] at e
        refine A (gW (fr:=xV s) Y k ?_)
        rw[←e]
        exact K.mem_iff.mpr (QBq ..)
       ·rw[W] at e
        omega
      ·rcases Y.r2 j r' hj with z|⟨g',e',_,d⟩
       ·omega
       ·have:g'=h:=by omega
        subst this
        rw[lP u,show J++ [R,f]=(J++ [R])++ [f] by simp,Qzq] at d
        rcases mQa.mp d with d|d
        ·exact d
        ·have d:=Qfq.mp (show(j:Int)∈[rc f] from d)
         rw[mM c,Z] at d
         exact absurd (by omega:j=i) hne
     ·rw[eo]
      have f0:=Y.fo h hl
      rw[lP u] at f0
      cases J with
      |nil=>exact f0
      |cons a l=>exact f0
    obtain⟨b6,a1,a2⟩:=Gf o p1
    have X:=a2 _ (mQg p3)
    cases g with
    | none=>
      exact⟨_,none,zX u C p H ce λS Q q=>rj u Z k (by omega) (by omega) p1 p2 p3 (λ_ e=>e.symm) q,x2.mono (Nat.le_succ n),q3⟩
    | some y=>
      obtain⟨F,b2,M,U⟩:=B5 (y:=y) (v:=f.told) o x2 q3 (Qyq hl) (by simp) a1 (X.1 y rfl) fi.tv
      exact⟨F,none,zX u C p H ce λS Q q=>rj u Z k (by omega) (by omega) p1 p2 p3 (λ_ e=>by rw[e];exact b2) q,M.mono (Nat.le_succ n),U⟩
   ·have G:f.row.toNat<pr.length:=by omega
    have b:pr[f.row.toNat]?=some (pr[f.row.toNat]):=gQe G
    obtain⟨e,N⟩:=I _ b
    exact row _ e p b N
  ·exact⟨_,none,Dg u C Z k cw (by omega) (by omega),(x.mono (Nat.le_succ n)).room h3 ri.come,Q2.come Y (h:=h) k hl A L⟩
end
end W28
namespace DL
open PySem PySem.Spec L2
section
variable{Γ:cq}{S:aF}
def M9{f g h:bp}{Q:Out->Prop}(w:E h Γ S λd b=>E f Γ b λx S2=>E g Γ S2 λy a=>∃k l z,x=.ref k/\y=.int z/\a[k]?=some (.dct l)/\l.length<sizeLine/\Q (.nx Γ (a.set k (.dct (putD l (.inl z) d))))):T (KU f g h) Γ S Q:=by
 obtain⟨d,b,e,x,S2,c,y,a,i,k,l,z,rfl,rfl,h1,h2,q⟩:=w
 exact⟨_,by unfold KU;rw[e];simp only[Qbq];rw[c];simp only[Qbq];rw[i];simp only[Qbq,h1,o_];rw[Qhq h2],q⟩
def Mf{f g:bp}{Q:D->aF->Prop}(h:E f Γ S λx a=>E g Γ a λy S2=>∃k l z v,x=.ref k/\y=.int z/\S2[k]?=some (.dct l)/\jy l (.inl z)=some v/\Q v S2):E (Jb f g) Γ S Q:=by
 obtain⟨x,a,c,y,S2,b,k,l,z,v,rfl,rfl,h1,h2,q⟩:=h
 exact⟨_,_,by unfold Jb;rw[c];simp only[Qbq];rw[b];simp only[Qbq,h1,o_];rw[h2];rfl,q⟩
def KA{f g:bp}{Q:D->aF->Prop}(h:E f Γ S λy a=>E g Γ a λx S2=>∃k l z,x=.ref k/\y=.int z/\S2[k]?=some (.dct l)/\Q (.bl (jy l (.inl z)).isSome) S2):E (EU f g) Γ S Q:=by
 obtain⟨y,a,c,x,S2,b,k,l,z,rfl,rfl,h1,q⟩:=h
 exact⟨_,_,by unfold EU;rw[c];simp only[Qbq];rw[b];simp only[Qbq,h1,o_],q⟩
def JL{f:bp}{Q:D->aF->Prop}(h:E f Γ S λx a=>∃k l,x=.ref k/\a[k]?=some (.dct l)/\Q (.int l.length) a):E (Ht f) Γ S Q:=by
 obtain⟨x,a,b,k,l,rfl,h1,q⟩:=h
 exact⟨_,_,by unfold Ht;rw[b];simp only[Qbq,yT,h1],q⟩
theorem II{c:iG}{b:cI}{Q:Out->Prop}(I:Nat->cq->aF->Prop)(j:∀m Γ S,I m Γ S->E c Γ S λk f=>if k=true then T b Γ f λo=>match o with|.nx a S2=>∃e,m=e+1/\I e a S2|.rt d S2=>Q (.rt d S2)|_=>False else Q (.nx Γ f)):
  ∀(n m:Nat) (Γ:cq) (S:aF),m<n->I m Γ S->T (EH c b n) Γ S Q
 |0,_,_,_,h,_=>absurd h (Nat.not_lt_zero _)
 | n+1,m,Γ,S,h,hi=>by
   obtain⟨k,f,g,q⟩:=j m Γ S hi
   cases k with
   |false=>exact⟨_,by simp only[EH];rw[g];rfl,q⟩
   | true=>
     obtain⟨o,i,q⟩:=(q:T b Γ f _)
     cases o with
     | nx a S2=>
       obtain⟨e,rfl,q⟩:=(q:∃e,m=e+1/\I e a S2)
       obtain⟨o,l,q⟩:=II I j n e a S2 (by omega) q
       exact⟨o,by simp only[EH];rw[g];simp only[Qbq,if_true];rw[i];exact l,q⟩
     |rt d S2=>exact⟨_,by simp only[EH];rw[g];simp only[Qbq,if_true];rw[i];rfl,q⟩
     |_=>exact q.elim
def N8{n:Nat}{b:cI}{ds:List D}{S:aF}{Q:Res->aF->Prop}(h:T b (ds.map some++List.replicate (n-ds.length) none) S λo=>match o with|.nx _ a=>Q (.d .non) a|.rt d a=>Q (.d d) a|.rl l a=>Q (.l l) a|_=>False):Fn (Lj n b) ds S Q:=by
 obtain⟨o,e,q⟩:=h
 cases o with
 |nx _ a=>exact⟨_,_,by unfold Lj;rw[e];rfl,q⟩
 |rt d a=>exact⟨_,_,by unfold Lj;rw[e];rfl,q⟩
 |rl l a=>exact⟨_,_,by unfold Lj;rw[e];rfl,q⟩
 |_=>exact q.elim
end
end DL
namespace W28
open PySem PySem.Spec L2 DL
noncomputable def ent(p:Rm×c_):List (Int×Str×Int):=p.2.row.map λh=>(h,p.1.name,p.2.within)
noncomputable def ents(w:cV)(s:bz):List (Int×Str×Int):=(w.aj.zip s.aj).flatMap ent
noncomputable def Ij(e:Int×Str×Int):Key×D:=(.inl e.1,.tup [.str e.2.1,.int e.2.2])
noncomputable def nx(w:cV)(s:bz)(h:Nat):Option (Int×Str×Int):=(ents w s).find? λe=>decide (e.1=(h:Int))
noncomputable def uU(w:cV)(s:bz)(h:Nat):Option Nat:=(nx w s h).map λe=>e.2.2.toNat
noncomputable def Fc(w:cV)(s:bz)(h:Nat):Str:=((nx w s h).map λe=>e.2.1).getD ""
section
variable{w:cV}{n h:Nat}{s:bz}{S:aF}{Q:Res->aF->Prop}
theorem zip_rows:∀{a:List Rm} {b:List c_},b.length=a.length->((a.zip b).flatMap ent).map (·.1)=b.flatMap (·.row)
 | [],[],_=>rfl
 | x::a,y::b,h=>by
   rw[List.zip_cons_cons,QSq,Qzq,zip_rows (a:=a) (b:=b) (by simpa using h),QSq]
   congr 1
   show(y.row.map _).map _=_
   rw[QPq]
   exact List.map_id' _
 | [],_::_,h=>by simp at h
 |_::_,[],h=>by simp at h
theorem yy{α b:Type}{f g:α->List b}(h:∀a,(f a).Sublist (g a)):∀l:List α,(l.flatMap f).Sublist (l.flatMap g)
 | []=>QjQ _
 |a::l=>by rw[QSq,QSq];exact(h a).append (yy h l)
def BR(x:cD w n s)(a:jK w s):((ents w s).map (·.1)).Nodup:=by
 unfold ents
 rw[zip_rows x.lr.symm]
 refine(Q2.nd a).sublist ?_
 refine(yy (g:=aO) (λr=> ?_) s.aj).trans (List.sublist_append_right _ _)
 unfold aO
 rw[Qvq]
 exact List.sublist_append_left _ _
def mI(x:cD w n s)(a:jK w s){e:Int×Str×Int}(he:e∈ents w s):(∃g:Nat,e.1=g/\g<s.af.length)/\∃g:Nat,e.2.2=g/\g<s.af.length:=by
 obtain⟨p,k,f⟩:=QOq.mp he
 obtain⟨y,d,rfl⟩:=Qkq.mp f
 obtain⟨i,l⟩:=List.getElem?_of_mem k
 obtain⟨m,b⟩:=List.getElem?_zip_eq_some.mp l
 refine⟨?_,?_⟩
 ·refine Q2.hv a y (mQa.mpr (.inr (QOq.mpr ⟨p.2,mQg b,?_⟩)))
  unfold aO
  exact mQa.mpr (.inl (mQa.mpr (.inl d)))
 ·rcases Q2.r2 a i p.2 b with c|⟨g,j,hl,_⟩
  ·have:=(Q2.r1 a i p.2 b c).1
   rw[this] at d
   cases d
  ·exact⟨g,j,hl⟩
def oW{e:Int×Str×Int}(a:nx w s h=some e):e∈ents w s/\e.1=(h:Int):=by
 unfold nx at a
 exact⟨List.mem_of_find?_eq_some a,by simpa using List.find?_some a⟩
def H_(a:nx w s h=none){e:Int×Str×Int}(he:e∈ents w s):e.1≠(h:Int):=by
 unfold nx at a
 have:=List.find?_eq_none.mp a e he
 simpa using this
def JI(x:cD w n s)(b:jK w s){v:Nat}(a:uU w s h=some v):h<s.af.length/\v<s.af.length:=by
 unfold uU at a
 obtain⟨e,d,rfl⟩:=oQm.mp a
 obtain⟨m,j⟩:=oW d
 obtain⟨⟨g,i,hl⟩,k,c,f⟩:=mI x b m
 exact⟨by omega,by omega⟩
def zN(x:cD w n s)(c:jK w s):(ents w s).length=((List.range s.af.length).filter λh=>(uU w s h).isSome).length:=by
 have e:(ents w s).length=((ents w s).map λe=>e.1.toNat).length:=by rw[lQm]
 rw[e]
 refine List.Perm.length_eq ((List.perm_ext_iff_of_nodup ?_ ?_).mpr λa=> ?_)
 ·rw[List.nodup_iff_pairwise_ne,List.pairwise_map]
  have i:=BR x c
  rw[List.nodup_iff_pairwise_ne,List.pairwise_map] at i
  refine List.Pairwise.imp_of_mem (λ{a b} ha hb ne z=> ?_) i
  obtain⟨⟨g,j,_⟩,_⟩:=mI x c ha
  obtain⟨⟨p,k,_⟩,_⟩:=mI x c hb
  exact ne (by omega)
 ·exact List.nodup_range.filter _
 ·rw[Qkq,List.mem_filter,List.mem_range]
  constructor
  ·rintro⟨e,d,rfl⟩
   obtain⟨⟨g,j,hl⟩,_⟩:=mI x c d
   refine⟨by omega,?_⟩
   unfold uU
   rw[Option.isSome_map]
   cases l:nx w s e.1.toNat with
   |some _=>rfl
   |none=>exact absurd (by omega) (H_ l d)
  ·rintro⟨hl,f⟩
   unfold uU at f
   rw[Option.isSome_map,Option.isSome_iff_exists] at f
   obtain⟨e,d⟩:=f
   obtain⟨m,o⟩:=oW d
   exact⟨e,m,by omega⟩
noncomputable def kK(w:cV)(s:bz)(f:Nat):Option (List Nat):=Rg.way (uU w s) (ents w s).length f
def IK(o:dF w)(x:cD w n s)(a:jK w s):(∀f,f<s.af.length->Rg.GD (uU w s) f s.af.length f []=kK w s f/\∀l,kK w s f=some l->l.head? =some f/\(∀h∈l,h<s.af.length)/\l.length<=4)/\((List.range s.af.length).flatMap λf=>(kK w s f).getD []).Nodup:=
 Rg.HA (by have:=o.l0;have:=x.lh;omega) (by have:=o.l4;have:=x.lh;omega) (λh v e=>JI x a e) (zN x a)
def B0(o:dF w)(x:cD w n s)(a:jK w s):(ents w s).length<=4:=by
 rw[zN x a]
 refine QAq (List.length_filter_le _ _) ?_
 rw[QVq]
 have:=o.l4
 have:=x.lh
 omega
def Hk{l:List (Int×Str×Int)}{e:Int×Str×Int}(h:e.1∉l.map (·.1)):putD (l.map Ij) (.inl e.1) (.tup [.str e.2.1,.int e.2.2])=(l++ [e]).map Ij:=by
 unfold putD
 rw[Quq]
 ·rw[Qzq]
  rfl
 ·rw[List.any_map]
  intro z
  obtain⟨a,c,b⟩:=List.any_eq_true.mp z
  have b:(Sum.inl a.1:Key)=.inl e.1:=QZq b
  exact h (Qkq.mpr ⟨a,c,Sum.inl.inj b⟩)
def Cy{l:List (Int×Str×Int)}{k:Int}:jy (l.map Ij) (.inl k)=(l.find? λe=>decide (e.1=k)).map λe=>.tup [.str e.2.1,.int e.2.2]:=by
 unfold jy
 rw[List.find?_map,Option.map_map]
 have:((λa:Key×D=>decide (a.1=Sum.inl k))∘Ij)=λe=>decide (e.1=k):=by
  funext e
  show decide ((Sum.inl e.1:Key)=Sum.inl k)=_
  simp
 rw[this]
 rfl
noncomputable def HJ(r:Nat×bz×Option Int):D:=.tup [.int r.1,r.2.1.d,Nq r.1 r.2.2]
def FZ(o:dF w)(x:cD w n s)(L:jK w s)(B:n<=100)(q:∀g:List (Nat×bz×Option Int),g.length<=4->(∀r∈g,cD w (n+1) r.2.1/\jK w r.2.1)->Q (.l (g.map HJ)) S):Fn iP [w.d,s.d] S Q:=by
 have F:=x.mays o B
 have K:(Bz w s).length<=4:=by
  have I:=List.length_filter_le (λh:Nat=> !decide ((h:Int)∈held s)&& !zL w s h) (List.range s.af.length)
  have N:=x.lh
  have R:=o.l4
  rw[QVq] at I
  unfold Bz
  omega
 refine bQ ?_
 unfold kW
 refine aH (bO (dk (cP (aL ⟨by show 0<=_;decide,?_⟩))))
 refine aH (fU (k9 (jF (Cm (aw (ax rfl (aw (ax rfl (aL ?_)))))))))
 refine F _ _ ?_
 refine⟨λj i t=>(∃a b c,i= [some w.d,some s.d,some (.ref S.length),a,b,c])/\mr S t/\∃g:List (Nat×bz×Option Int),g.length=j/\(∀r∈g,cD w (n+1) r.2.1/\jK w r.2.1)/\t[S.length]?=some (.lst (g.map HJ)),⟨⟨_,_,_,rfl⟩,mr.refl.app,[],rfl,λ_ z=>(nomatch z),aZ⟩,λ_ _ _ _=>trivial,?_,?_⟩
 ·rintro j d i t C ⟨⟨a,b,c,rfl⟩,be,g,hrl,hrs,hS⟩
  rw[gQm] at C
  obtain⟨h,k,rfl⟩:=oQm.mp C
  have Y:=(gQs.mp k).1
  have k:=mQg k
  have v:h<s.af.length:=List.mem_range.mp (List.mem_filter.mp k).1
  obtain⟨⟨X,P⟩,G⟩:∃p,s.af[h]?=some p:=⟨_,gQe v⟩
  obtain⟨ts,W,U,H⟩:=x.whand G
  obtain⟨f,M,Z⟩:=H.last
  obtain⟨J,e,y,A,u⟩:=HX o x L B k G M
  refine aV ?_
  refine aH (Fl (bL (aw (ax rfl (aw (ax rfl (aw (ax rfl (aL ?_)))))))))
  refine AF F k y ?_
  refine eF rfl (aC (aV (aC (aV (bx ?_)))))
  refine mN (xw (ax rfl ⟨_,_,rfl,hS,?_⟩))
  refine aw (cm (aw (ax rfl (aw (ax rfl (aw (ax rfl (aL ⟨by show 3<=_;decide,aL ?_⟩))))))))
  refine⟨_,hS,ka (by rw[lQm];exact aM (by omega)) ?_⟩
  refine⟨⟨_,_,_,rfl⟩,be.put (Qmq _),g++ [(h,J,e)],by simp[hrl],λr m=> ?_,?_⟩
  ·rcases mQa.mp m with m|m
   ·exact hrs r m
   ·rw[Qfq.mp m];exact⟨A,u⟩
  ·rw[fV hS,Qzq]
   rfl
 ·rintro i t ⟨⟨a,b,c,rfl⟩,be,g,hrl,hrs,hS⟩
  rw[lQm] at hrl
  refine cZ (ax rfl ?_)
  exact ED be (Qmq _) hS (a8 λr _=>by simp only[HJ,cf,bT,Cz,bz.low,Bool.and_true]) (q g (by omega) hrs)
end
section
variable{w:cV}{n h:Nat}{s:bz}{S:aF}{Q:Res->aF->Prop}
def EB(o:dF w)(x:cD w n s)(L:jK w s)(q:Q (.d (.ref S.length)) (S++ [.dct ((ents w s).map Ij)])):Fn gZ [w.d,s.d] S Q:=by
 have U:=o.l1
 have W:=x.lr
 have C:=BR x L
 have J:=B0 o x L
 refine N8 ?_
 unfold jV
 refine aH (bO (Mu ?_))
 apply aH (fU (w4 ?_))
 refine aB rfl ?_
 apply cv (ds:=w.aj.map Rm.d) ?_
 refine aB rfl ?_
 refine cv (ds:=s.aj.map c_.d) ?_
 refine⟨⟨trivial,by simp only[lQm];omega⟩,?_⟩
 rw[zip_map]
 refine⟨λj l t=>(∃a b c d e f g,l= [some w.d,some s.d,some (.ref S.length),a,b,c,d,e,f,g])/\t=S++ [.dct ((((w.aj.zip s.aj).take j).flatMap ent).map Ij)],⟨⟨_,_,_,_,_,_,_,rfl⟩,rfl⟩,λ_ _ _ _=>⟨trivial,trivial⟩,?_,?_⟩
 ·rintro j d l t v ⟨⟨a,b,c,N,e,f,g,rfl⟩,rfl⟩
  rw[gQm] at v
  obtain⟨p,R,rfl⟩:=oQm.mp v
  have u:(w.aj.zip s.aj).take (j+1)=(w.aj.zip s.aj).take j++ [p]:=by rw[QYq,R];rfl
  have m:∃r,ents w s=((w.aj.zip s.aj).take j).flatMap ent++(ent p++r):=by
   refine⟨((w.aj.zip s.aj).drop (j+1)).flatMap ent,?_⟩
   unfold ents
   conv=>lhs;rw[←List.take_append_drop (j+1) (w.aj.zip s.aj),u]
   rw[List.flatMap_append,List.flatMap_append,Qvq]
   simp
  obtain⟨r,K⟩:=m
  rw[K,Qzq,Qzq] at C
  rw[K,lQa,lQa] at J
  have A:((w.aj.zip s.aj).take (j+1)).flatMap ent=((w.aj.zip s.aj).take j).flatMap ent++ent p:=by
   rw[u,List.flatMap_append]
   simp
  generalize ((w.aj.zip s.aj).take j).flatMap ent=pre at C J A⊢
  refine eF rfl (aC (aV (aC (eF rfl (aC (aV (aC (aV (aC (aV (aC (aV (aC (aV (bx (bx ?_))))))))))))))))
  refine fU (k9 (b_ (ax rfl (cv (ds:=p.2.row.map D.int) ?_))))
  refine⟨λi l t=>(∃g,l= [some w.d,some s.d,some (.ref S.length),some p.1.d,some (cO p.2.vals),some (.int p.2.within),some (cO p.2.row),some (cO p.2.ag),some (.tup (p.2.aa.map eL)),g])/\t=S++ [.dct ((pre++(ent p).take i).map Ij)],⟨⟨_,rfl⟩,by rw[List.take_zero,List.append_nil]⟩,λ_ _ _ _=>trivial,?_,?_⟩
  ·rintro i d l t v ⟨⟨g,rfl⟩,rfl⟩
   rw[gQm] at v
   obtain⟨y,M,rfl⟩:=oQm.mp v
   have X:=(gQs.mp M).1
   have H:(ent p)[i]?=some (y,p.1.name,p.2.within):=by unfold ent;rw[gQm,M];rfl
   have B:(ent p).length=p.2.row.length:=by unfold ent;rw[lQm]
   refine aV ?_
   refine M9 (cm (aw (bN (ax rfl (dM (aB (d:=.str p.1.name) rfl (aw (ax rfl (aL ⟨by show 2<=_;decide,?_⟩)))))))))
   refine ax rfl (ax rfl ⟨_,_,_,rfl,rfl,aZ,?_,?_⟩)
   ·rw[lQm,lQa,Qxq]
    exact aM (by omega)
   ·refine⟨⟨_,rfl⟩,?_⟩
    have P:y∉(pre++(ent p).take i).map (·.1):=by
     rw[Qzq]
     intro z
     rcases mQa.mp z with z|z
     ·exact(List.nodup_append.mp C).2.2 y z y (mQa.mpr (.inl (Qkq.mpr ⟨_,mQg H,rfl⟩))) rfl
     ·have I:=(List.nodup_append.mp (List.nodup_append.mp C).2.1).1
      rw[List.map_take] at z
      obtain⟨k,F⟩:=List.getElem?_of_mem z
      have G:=(gQs.mp F).1
      rw[Qxq] at G
      rw[List.getElem?_take_of_lt (by omega)] at F
      have:=jN I F (show((ent p).map (·.1))[i]?=some y by rw[gQm,H];rfl)
      omega
    rw[Hk (e:=(y,p.1.name,p.2.within)) P,QYq,H,List.set_append_right _ _ (Qmq _)]
    simp
  ·rintro l t ⟨⟨g,rfl⟩,rfl⟩
   have B:(ent p).length=p.2.row.length:=by unfold ent;rw[lQm]
   refine⟨⟨_,_,_,_,_,_,_,rfl⟩,?_⟩
   rw[lQm,←B,QEq,A]
 ·rintro l t ⟨⟨a,b,c,N,e,f,g,rfl⟩,rfl⟩
  rw[lQm,QEq]
  refine cZ (ax rfl ?_)
  exact q
noncomputable def qP(w:cV)(s:bz)(h:Nat):D:=.tup [.int h,.str (Fc w s h)]
noncomputable def J6(w:cV)(s:bz):Option (List Nat)->D
 |none=>.non
 |some l=>.tup (l.map (qP w s))
def KW(r:Option (List Nat)):cf 0 (J6 w s r)=true:=by
 cases r with
 |none=>rfl
 |some l=>simp only[J6,cf];exact a8 λ_ _=>rfl
def Hj(o:dF w)(x:cD w n s)(K:jK w s){k f:Nat}(L:S[k]?=some (.dct ((ents w s).map Ij)))(q:Q (.d (J6 w s (kK w s f))) S):Fn jW [.ref k,.int f] S Q:=by
 have Y:=B0 o x K
 have J:=(gQs.mp L).1
 refine bQ ?_
 unfold sk
 refine aH (bO (dk (cP (aL ⟨by show 0<=_;decide,?_⟩))))
 refine aH (bO (ax rfl ?_))
 refine aH (II (λm B r=>∃(i:Nat) (j:List Nat) (a b:Option D),B= [some (.ref k),some (.int f),some (.ref S.length),some (.int i),a,b]/\mr S r/\r[S.length]?=some (.lst (j.map (qP w s)))/\m+j.length=4/\Rg.Jz (uU w s) (ents w s).length f (m+1) i j=kK w s f) (λm B r W=> ?_) 5 4 _ _ (by decide) ⟨f,[],_,_,rfl,mr.refl.app,aZ,rfl,rfl⟩)
 obtain⟨i,j,a,b,rfl,be,hS,hm,hR⟩:=W
 have y:r[k]?=some (.dct ((ents w s).map Ij)):=by rw[be.eq k J];exact L
 have A:kK w s f=none->T (cp (cF .non)) [some (.ref k),some (.int f),some (.ref S.length),some (.int i),a,b] r λo=>match o with
   |.nx _ r=>Op (settle S .non r) λp=>Q p.1 p.2
   |.rt d r=>Op (settle S d r) λp=>Q p.1 p.2
   |.rl l r=>Op (fm S l r) λp=>Q p.1 p.2
   |_=>False:=λt=>by
  refine cZ (dM ?_)
  rw[t] at q
  exact uL be (λk z=>(nomatch z)) rfl q
 refine qh (cu (KA (ax rfl (ax rfl ⟨_,_,_,rfl,rfl,y,?_⟩))))
 rw[Cy]
 rw[Rg.Jz] at hR
 cases t:nx w s i with
 | none=>
   have G:((ents w s).find? λe=>decide (e.1=(i:Int)))=none:=t
   rw[G]
   have H:uU w s i=none:=by unfold uU;rw[t];rfl
   rw[H] at hR
   exact A hR.symm
 | some e=>
   have G:((ents w s).find? λe=>decide (e.1=(i:Int)))=some e:=t
   have H:uU w s i=some e.2.2.toNat:=by unfold uU;rw[t];rfl
   obtain⟨⟨Z,N,_⟩,g,M,U⟩:=mI x K (oW t).1
   have X:e.2.2.toNat=g:=by omega
   have P:Fc w s i=e.2.1:=by unfold Fc;rw[t];rfl
   rw[G]
   rw[H] at hR
   dsimp only at hR
   show if true=true then _ else _
   rw[Qhq rfl]
   refine qh (cu (bN (ax rfl (ax rfl (Aw ?_)))))
   refine bq (λc=> ?_) (λc=> ?_)
   · have c:f<=i:=by have:=QZq c;omega
     refine cu (bN (lB (b_ (ax rfl (bP hS (JL (ax rfl ⟨_,_,rfl,y,Aw ?_⟩)))))))
     rw[lQm,lQm]
     rw[show Nat.ble f i=true from Nat.ble_eq_true_of_le c,Bool.true_and] at hR
     refine bq (λv=> ?_) (λv=> ?_)
     · have v:j.length<(ents w s).length:=by have:=QZq v;omega
       rw[show Nat.blt j.length (ents w s).length=true from Nat.ble_eq_true_of_le v,Qhq rfl,X] at hR
       refine aH (Fl (Mf (ax rfl (ax rfl ⟨_,_,_,_,rfl,rfl,y,by rw[Cy,G];rfl,?_⟩))))
       refine eF rfl (aC (aV (aC (aV (bx ?_)))))
       refine aH (mN (xw (ax rfl ⟨_,_,rfl,hS,aw (cm (aw (ax rfl (aw (ax rfl (aL ⟨by show 2<=_;decide,aL ?_⟩))))))⟩)))
       refine⟨_,hS,ka (by rw[lQm];exact aM (by omega)) ?_⟩
       have R:j.map (qP w s)++ [.tup [.int i,.str e.2.1]]=(j++ [i]).map (qP w s):=by rw[Qzq];show _=_++ [qP w s i];unfold qP;rw[P]
       rw[R]
       have F:(r.set S.length (.lst ((j++ [i]).map (qP w s))))[S.length]?=some (.lst ((j++ [i]).map (qP w s))):=fV hS
       refine aH (ed (cu (bN (ax rfl (ax rfl ?_)))))
       rw[M]
       refine dH ?_
       refine bq (λu=> ?_) (λu=> ?_)
       · have u:g=f:=by have:=QZq u;omega
         subst u
         rw[show Nat.beq g g=true from Nat.beq_refl g,Qhq rfl] at hR
         refine cZ (eX (eR (b_ (ax rfl (bP F ⟨rfl,?_⟩)))))
         rw[←hR] at q
         exact uL (be.put (Qmq _)) (λk z=>(nomatch z)) (KW (w:=w) (s:=s) (some (j++ [i]))) q
       · have u:¬g=f:=λz=>by rw[z] at u;simp at u
         rw[show Nat.beq g f=false from by cases C:Nat.beq g f with|false=>rfl|true=>exact absurd (Nat.eq_of_beq_eq_true C) u,Quq (by decide)] at hR
         refine cB (bO (ax rfl ?_))
         obtain⟨I,rfl⟩:∃I,m=I+1:=⟨m-1,by omega⟩
         exact⟨I,rfl,g,j++ [i],_,_,rfl,be.put (Qmq _),F,by rw[lQa];simp;omega,hR⟩
     · have v:¬j.length<(ents w s).length:=λz=>by have:=QaQ v;omega
       rw[show Nat.blt j.length (ents w s).length=false from by cases C:Nat.blt j.length (ents w s).length with|false=>rfl|true=>exact absurd (Nat.le_of_ble_eq_true C) v,Quq (by decide)] at hR
       exact A hR.symm
   · have c:¬f<=i:=λz=>by have:=QaQ c;omega
     rw[show Nat.ble f i=false from by cases C:Nat.ble f i with|false=>rfl|true=>exact absurd (Nat.le_of_ble_eq_true C) c,Bool.false_and,Quq (by decide)] at hR
     exact A hR.symm
end
end W28
namespace DL
open PySem PySem.Spec L2
def HI{d:cq}{S:aF}{i j l:Nat}{f:fK}{Q:Out->Prop}(h:E f d S λds e=>∃a b c,ds= [a,b,c]/\Q (.nx (((d.set i (some a)).set j (some b)).set l (some c)) e)):T (zd i j l f) d S Q:=JB h
def MV{b:cq}{S:aF}{a:Bool}{f:bp}{g:dQ}{Q:D->aF->Prop}(h:E f b S λx c=>E g b c λp S2=>∃v vs,nZ x=some v/\jD p.1=some vs/\v.depth<=60/\Q (.bl (if a then !vs.any (PyData.eqv · v) else vs.any (PyData.eqv · v))) S2):E (LI a f g) b S Q:=by
 obtain⟨x,c,k,p,S2,d,v,vs,i,e,j,q⟩:=h
 exact⟨_,S2,by unfold LI;rw[k];simp only[Qbq];rw[d];simp only[Qbq];rw[i,e];simp only[Qbq];rw[Qhq j],q⟩
def J4{b:cq}{S:aF}{f:dQ}{Q:D->aF->Prop}(h:E f b S λp a=>p.2.isL=true/\∃is:List Int,p.1=is.map D.int/\is.length<=1000/\Q (.int (DT is:Nat)) a):E (BW f) b S Q:=by
 obtain⟨p,a,e,l,is,c,d,q⟩:=h
 exact⟨_,a,by unfold BW;rw[e];simp only[Qbq];rw[Qhq l,c,sP];simp only[Qbq];rw[Qhq d],q⟩
def EO(j:Nat):iE 0 (j:Int)=(List.range j).map λf:Nat=>D.int f:=by
 refine List.ext_getElem? λi=> ?_
 by_cases h:i<j
 ·have e:=gQe (l:=iE 0 (j:Int)) (i:=i) (by rw[dC];exact h)
  obtain⟨a,_⟩:=c7 e
  rw[e,a,gQm,List.getElem?_range h]
  rfl
 ·rw[List.getElem?_eq_none (by rw[dC];omega),List.getElem?_eq_none (by rw[lQm,QVq];omega)]
theorem ua{bt:Nat->Nat->Bool}{key:Nat->Int}(a:∀i j,bt i j=decide (key i<key j)):∀j i,i<=j->key (argBest bt j)<=key i
 |0,i,h=>by have:i=0:=by omega
            subst this;exact Int.le_refl _
 | j+1,i,h=>by
   unfold argBest
   rw[a]
   split
   · rename_i c
     have c:=QZq c
     by_cases e:i=j+1
     · subst e;exact Int.le_refl _
     · have:=ua a j i (by omega);omega
   · rename_i c
     have c:¬key (j+1)<key (argBest bt j):=by simpa using c
     by_cases e:i=j+1
     · subst e;omega
     · exact ua a j i (by omega)
def zf{l:List (Int×Str)}(h:0<l.length):eG l<l.length:=by
 have:=pS (LG l) (l.length-1)
 unfold eG
 omega
def Ai{l:List (Int×Str)}{i:Nat}(h:i<l.length):(l.getD (eG l) (0,"")).1<=(l.getD i (0,"")).1:=
 ua (bt:=LG l) (key:=λi=>(l.getD i (0,"")).1) (λ_ _=>rfl) (l.length-1) i (by omega)
end DL
namespace W28
open PySem PySem.Spec L2 DL
section
variable{w:cV}{n h:Nat}{s:bz}{S:aF}{Q:Res->aF->Prop}
noncomputable def s_(w:cV)(s:bz):List (List Nat):=(List.range s.af.length).filterMap (kK w s)
noncomputable def vY(w:cV)(s:bz)(l:List Nat):D:=.tup (l.map (qP w s))
noncomputable def Jg(w:cV)(s:bz)(f:Nat):Bool:=(kK w s f).isSome
def Iw(l:List Nat):(l.filter (Jg w s)).map (λf=>J6 w s (kK w s f))=(l.filterMap (kK w s)).map (vY w s):=by
 induction l with
 |nil=>rfl
 | cons f l a=>
   unfold Jg at a⊢
   cases e:kK w s f with
   |none=>rw[List.filter_cons_of_neg (by rw[e];decide),List.filterMap_cons_none e,a]
   |some r=>rw[List.filter_cons_of_pos (by rw[e];rfl),List.filterMap_cons_some e,QDq,QDq,a,e];rfl
def BM:cf 0 (.tup ((s_ w s).map (vY w s)))=true:=by
 simp only[cf]
 exact a8 λr _=>by unfold vY;simp only[cf];exact a8 λ_ _=>rfl
def t5(o:dF w)(x:cD w n s)(e:jK w s)(q:Q (.d (.tup ((s_ w s).map (vY w s)))) S):Fn nU [w.d,s.d] S Q:=by
 have j:=o.l4
 have i:=x.lh
 refine bQ ?_
 unfold Bj
 refine aH (bO (bL (aw (ax rfl (aw (ax rfl (aL ?_)))))))
 refine EB o x e ?_
 apply aH (bO (dk (j6 (α:=Nat) (λb=>∃a,b= [a,some (.ref S.length)]) (λf=>D.int f) (λf=>J6 w s (kK w s f)) (λ_=>true) ⟨none,rfl⟩ (gV ?_))))
 refine aB rfl ?_
 refine cv (ds:=s.af.map CP) ?_
 refine⟨(s.af.length:Int),by rw[lQm],by omega,?_⟩
 refine⟨List.range s.af.length,EO _,trivial,by rw[QVq];omega,λf g b c=> ?_,?_⟩
 ·obtain⟨a,rfl⟩:=c
  refine aV ⟨rfl,⟨_,rfl⟩,fT ⟨rfl,rfl,λ_=> ?_⟩⟩
  refine bL (aw (ax rfl (aw (ax rfl (aL ?_)))))
  exact Hj o x e aZ ⟨rfl,rfl⟩
 ·rw[List.filter_eq_self.mpr (λ_ _=>rfl)]
  refine cZ (eX (jF (j6 (α:=Nat) (λb=>∃a,b= [a]) (λf=>J6 w s (kK w s f)) (λf=>J6 w s (kK w s f)) (Jg w s) ⟨none,rfl⟩ (k9 (b_ (ax rfl (bP aZ ?_)))))))
  refine⟨List.range s.af.length,rfl,aZ,by rw[QVq];omega,λf g b c=> ?_,?_⟩
  ·obtain⟨a,rfl⟩:=c
   refine aV ⟨rfl,⟨_,rfl⟩,?_⟩
   refine cu (bN (ax rfl (dM (vR ?_))))
   refine⟨rfl,?_,λ_=>ax rfl ⟨rfl,rfl⟩⟩
   unfold Jg
   cases kK w s f <;>rfl
  ·rw[Iw]
   refine uL (mr.refl.app.app) (λk z=>(nomatch z)) BM ?_
   exact q
noncomputable def zx(w:cV)(s:bz)(h:Nat):Int×Str:=(h,Fc w s h)
def Jn(l:List Nat):l.map (qP w s)=(l.map (zx w s)).map λp=>D.tup [.int p.1,.str p.2]:=by rw[QPq];rfl
def HN{l:List Nat}:∀p∈l.map (zx w s),∀q∈l.map (zx w s),p.1=q.1->p.2=q.2:=by
 intro p d q c e
 obtain⟨a,_,rfl⟩:=Qkq.mp d
 obtain⟨b,_,rfl⟩:=Qkq.mp c
 have:a=b:=by
  have e:(a:Int)=b:=e
  omega
 subst this
 rfl
def Ej{f:Nat}{l:List Nat}(d:f∈l):((l.map (zx w s)).getD (eG (l.map (zx w s))) (0,"")).1=(f:Int)↔l.all (Nat.ble f)=true:=by
 have hl:0<l.length:=List.length_pos_of_mem d
 have c:=zf (l:=l.map (zx w s)) (by rw[lQm];exact hl)
 rw[lQm] at c
 have a:∀{i:Nat} (b:i<l.length),((l.map (zx w s)).getD i (0,"")).1=(l[i]:Int):=λ{i} b=>by
  rw[Qlq,gQm,gQe b]
  rfl
 rw[a c]
 constructor
 ·intro e
  rw[QUq]
  intro y g
  obtain⟨i,b,rfl⟩:=QbQ g
  have:=Ai (l:=l.map (zx w s)) (i:=i) (by rw[lQm];exact b)
  rw[a c,a b] at this
  exact Nat.ble_eq_true_of_le (by omega)
 ·intro e
  obtain⟨i,b,rfl⟩:=QbQ d
  have:=Ai (l:=l.map (zx w s)) (i:=i) (by rw[lQm];exact b)
  rw[a c,a b] at this
  have:=Nat.le_of_ble_eq_true (QUq.mp e _ (List.getElem_mem c))
  omega
def yP{p:Rm×c_}{hd:Int}:(ent p).find? (λe=>decide (e.1=hd))=if hd∈p.2.row then some (hd,p.1.name,p.2.within) else none:=by
 unfold ent
 rw[List.find?_map]
 induction p.2.row with
 |nil=>rfl
 | cons y l b=>
   by_cases c:y=hd
   · subst c
     rw[List.find?_cons_of_pos (by simp),Qhq (QBq ..)]
     rfl
   · rw[List.find?_cons_of_neg (by simpa using c),b]
     by_cases a:hd∈l
     · rw[Qhq a,Qhq (Qpq _ a)]
     · rw[Quq a,Quq (by rw[Qsq];exact λz=>z.elim (λz=>c z.symm) a)]
theorem vM{N:Nat}(c:∀f,f<N->∀l,kK w s f=some l->l.head? =some f):∀l:List Nat,(∀f∈l,f<N)->lI ((l.filterMap (kK w s)).map (vY w s))=some ((l.filter (Jg w s)).map λf:Nat=>(f:Int))
 | [],_=>rfl
 | f::l,h=>by
   have b:=vM c l λg d=>h g (Qpq _ d)
   cases e:kK w s f with
   |none=>rw[List.filterMap_cons_none e,List.filter_cons_of_neg (by unfold Jg;rw[e];decide)];exact b
   | some r=>
     have a:=c f (h f (QBq ..)) r e
     rw[List.filterMap_cons_some e,List.filter_cons_of_pos (by unfold Jg;rw[e];rfl)]
     cases r with
     |nil=>cases a
     | cons y r=>
       cases a
       show lI (.tup (.tup [.int (f:Int),_]::_)::_)=_
       simp only[lI]
       rw[b]
       rfl
def DH(o:dF w)(x:cD w n s)(q2:jK w s)(q:Q (.d (.tup ((s_ w s).map (vY w s)))) S):Fn i3 [w.d,s.d] S Q:=by
 have l1:=o.l1
 have l4:=o.l4
 have lr:=x.lr
 have lh:=x.lh
 obtain⟨b2,c6⟩:=IK o x q2
 refine bQ ?_
 unfold rq
 refine aH (bO (dk (cP (aL ⟨by show 0<=_;decide,?_⟩))))
 apply aH (fU (gV ?_))
 refine aB rfl ?_
 refine cv (ds:=w.af.map fH) ?_
 refine⟨(s.af.length:Int),by rw[lQm];congr 1;omega,by omega,?_⟩
 refine⟨λf B K=>(∃a b c d e g i,B= [some w.d,some s.d,some (.ref S.length),a,b,c,d,e,g,i])/\mr S K/\K[S.length]?=some (.lst (((List.range f).filterMap (kK w s)).map (vY w s))),⟨⟨_,_,_,_,_,_,_,rfl⟩,mr.refl.app,aZ⟩,λ_ _ _ _=>trivial,?_,?_⟩
 ·rintro f d B K u ⟨⟨a,b,c,d1,e,g,i,rfl⟩,be,hS⟩
  obtain⟨rfl,hf⟩:=c7 u
  obtain⟨Y,b9⟩:=b2 f hf
  have fl:((List.range f).filterMap (kK w s)).length<=4:=by
   refine QAq (List.length_filterMap_le _ _) ?_
   rw[QVq]
   omega
  have F:List.range (f+1)=List.range f++ [f]:=List.range_succ
  have bl:=be.len
  have c5:=(gQs.mp hS).1
  refine aV ?_
  refine aH (HI (aw (dk (cP (aL ⟨by show 0<=_;decide,aw (ax rfl (aw (ax rfl (aL ⟨_,_,_,rfl,?_⟩))))⟩)))))
  have b0:(K++ [O.lst []])[S.length]?=some (.lst (((List.range f).filterMap (kK w s)).map (vY w s))):=bu hS
  have a1:(K++ [O.lst []])[K.length]?=some (.lst []):=aZ
  have b4:mr S (K++ [O.lst []]):=be.app
  have a7:S.length≠K.length:=by omega
  have a6:S.length<=K.length:=bl
  generalize K++ [O.lst []]=S1 at b0 a1 b4⊢
  generalize K.length=r at a1 a7 a6⊢
  apply fU (gV ?_)
  refine aB rfl ?_
  refine cv (ds:=w.af.map fH) ?_
  refine⟨(s.af.length:Int),by rw[lQm];congr 1;omega,by omega,?_⟩
  refine⟨λt B S2=>∃(v:List Nat) (u:Nat) (lt e g i:Option D),B= [some w.d,some s.d,some (.ref S.length),some (.int f),some (.ref r),some (.int u),lt,e,g,i]/\mr S S2/\S2[S.length]?=some (.lst (((List.range f).filterMap (kK w s)).map (vY w s)))/\S2[r]?=some (.lst (v.map (qP w s)))/\((v.length=t/\Rg.GD (uU w s) f (s.af.length-t) u v=kK w s f)\/(v.length<t/\kK w s f=none))/\(v= []->u=f)/\(v≠[]->f∈v),⟨[],f,_,_,_,_,rfl,b4,b0,a1,.inl ⟨rfl,Y⟩,λ_=>rfl,λz=>absurd rfl z⟩,λ_ _ _ _=>trivial,?_,?_⟩
  ·rintro t d B S2 b8 ⟨v,u,lt,e,g,i,rfl,be2,hS2,hr2,hcase,hn1,hn2⟩
   obtain⟨rfl,ht⟩:=c7 b8
   have d2:v.length<=t:=by rcases hcase with⟨z,_⟩|⟨z,_⟩ <;>omega
   have a4:f∈v++ [u]:=by
    by_cases z:v= []
    ·rw[z,hn1 z];simp
    ·exact mQa.mpr (.inl (hn2 z))
   refine aV ?_
   apply aH (fU (w4 ?_))
   refine aB rfl ?_
   apply cv (ds:=w.aj.map Rm.d) ?_
   refine aB rfl ?_
   refine cv (ds:=s.aj.map c_.d) ?_
   refine⟨⟨trivial,by simp only[lQm];omega⟩,?_⟩
   rw[zip_map]
   refine⟨λj B S3=>∃(y:List Nat) (H g i:Option D),B= [some w.d,some s.d,some (.ref S.length),some (.int f),some (.ref r),some (.int u),H,some (.int t),g,i]/\mr S S3/\S3[S.length]?=some (.lst (((List.range f).filterMap (kK w s)).map (vY w s)))/\S3[r]?=some (.lst (y.map (qP w s)))/\((v.length=t/\∃e,(((w.aj.zip s.aj).take j).flatMap ent).find? (λe=>decide (e.1=(u:Int)))=some e/\y=v++ [u]/\H=some (.int e.2.2))\/((v.length≠t\/(((w.aj.zip s.aj).take j).flatMap ent).find? (λe=>decide (e.1=(u:Int)))=none)/\y=v)),⟨v,_,_,_,rfl,be2,hS2,hr2,.inr ⟨.inr rfl,rfl⟩⟩,λ_ _ _ _=>⟨trivial,trivial⟩,?_,?_⟩
   ·rintro j d B S3 a9 ⟨y,H,g,i,rfl,be3,hS3,hr3,U⟩
    rw[gQm] at a9
    obtain⟨p,hp,rfl⟩:=oQm.mp a9
    have I:((w.aj.zip s.aj).take (j+1)).flatMap ent=((w.aj.zip s.aj).take j).flatMap ent++ent p:=by
     rw[QYq,hp,List.flatMap_append]
     simp
    have G:∃Z,ents w s=((w.aj.zip s.aj).take j).flatMap ent++ent p++Z:=by
     refine⟨((w.aj.zip s.aj).drop (j+1)).flatMap ent,?_⟩
     rw[←I,←List.flatMap_append,List.take_append_drop]
     rfl
    obtain⟨Z,G⟩:=G
    generalize ((w.aj.zip s.aj).take j).flatMap ent=pre at U G I
    refine eF rfl (aC (aV (aC (aV (bx ?_)))))
    refine ed (qh (cu (Ic (ax rfl (b_ (bN (ax rfl (dM (aB (d:=cO p.2.row) rfl (cv ⟨_,_,rfl,jU _,?_⟩))))))))))
    show if (Ec (.int (u:Int)) (p.2.row.map V.int))=true then _ else _
    rw[xR]
    refine bq (λc=> ?_) (λc=> ?_)
    ·have c:=QZq c
     refine cu (bN (lB (b_ (ax rfl (bP hr3 (ax rfl (dH ?_)))))))
     rw[lQm]
     refine bq (λX=> ?_) (λX=> ?_)
     ·have X:y.length=t:=by have:=QZq X;omega
      obtain⟨N,rfl⟩:(v.length≠t\/pre.find? (λe=>decide (e.1=(u:Int)))=none)/\y=v:=by
       rcases U with⟨P,e,J,z3,z4⟩|z
       ·rw[z3,lQa] at X
        simp at X
        omega
       ·exact z
      have N:pre.find? (λe=>decide (e.1=(u:Int)))=none:=N.resolve_left λz=>z X
      have L:(pre++ent p).find? (λe=>decide (e.1=(u:Int)))=some ((u:Int),p.1.name,p.2.within):=by rw[List.find?_append,N,yP,Qhq c];rfl
      have c0:Fc w s u=p.1.name:=by
       unfold Fc nx
       rw[G,List.find?_append,L]
       rfl
      refine aH (mN (xw (ax rfl ⟨_,_,rfl,hr3,aw (cm (aw (ax rfl (aw (bN (ax rfl (dM (aB (d:=.str p.1.name) rfl (aL ⟨by show 2<=_;decide,aL ?_⟩)))))))))⟩)))
      refine⟨_,hr3,ka (by rw[lQm];exact aM (by omega)) ?_⟩
      refine bO (bN (ax rfl (dM (aB (d:=.int p.2.within) rfl ?_))))
      have e5:y.map (qP w s)++ [.tup [.int u,.str p.1.name]]=(y++ [u]).map (qP w s):=by rw[Qzq];show _=_++ [qP w s u];unfold qP;rw[c0]
      rw[e5]
      exact⟨y++ [u],_,_,_,rfl,be3.put a6,gr a7 hS3,fV hr3,.inl ⟨X,_,by rw[I];exact L,rfl,rfl⟩⟩
     ·have X:y.length≠t:=λz=>by have:=QaQ X;omega
      refine cB ⟨y,_,_,_,rfl,be3,hS3,hr3,?_⟩
      rcases U with⟨P,e,J,z3,z4⟩|⟨P,rfl⟩
      ·exact .inl ⟨P,e,by rw[I,List.find?_append,J];rfl,z3,z4⟩
      ·exact .inr ⟨.inl X,rfl⟩
    ·have c:=QaQ c
     refine cB ⟨y,_,_,_,rfl,be3,hS3,hr3,?_⟩
     rcases U with⟨P,e,J,z3,z4⟩|⟨P,rfl⟩
     ·exact .inl ⟨P,e,by rw[I,List.find?_append,J];rfl,z3,z4⟩
     ·refine .inr ⟨P.imp id λz=> ?_,rfl⟩
      rw[I,List.find?_append,z,yP,Quq c]
      rfl
   ·rintro B S3 ⟨y,H,g,i,rfl,be3,hS3,hr3,U⟩
    rw[lQm,QEq] at U
    have U:(v.length=t/\∃e,nx w s u=some e/\y=v++ [u]/\H=some (.int e.2.2))\/((v.length≠t\/nx w s u=none)/\y=v):=U
    have b3:(v.length≠t\/nx w s u=none)->kK w s f=none:=λz=>by
     rcases hcase with⟨P,J⟩|⟨_,J⟩
     ·have z:=z.resolve_left λz=>z P
      obtain⟨k,hk⟩:∃k,s.af.length-t=k+1:=⟨s.af.length-t-1,by omega⟩
      have e2:uU w s u=none:=by unfold uU;rw[z];rfl
      rw[hk,Rg.GD,e2] at J
      exact J.symm
     ·exact J
    refine ed (cu (bN (lB (b_ (ax rfl (bP hr3 (bN (ax rfl (dM (iO (dH ?_)))))))))))
    rw[lQm]
    refine bq (λc=> ?_) (λc=> ?_)
    ·have c:y.length=t+1:=by have:=QZq c;omega
     obtain⟨P,e,J,rfl,rfl⟩:v.length=t/\∃e,nx w s u=some e/\y=v++ [u]/\H=some (.int e.2.2):=by
      rcases U with z|⟨_,rfl⟩
      ·exact z
      ·omega
     have A:=hcase.resolve_right λz=>by omega
     obtain⟨k,hk⟩:∃k,s.af.length-t=k+1:=⟨s.af.length-t-1,by omega⟩
     obtain⟨_,W,b1,c1⟩:=mI x q2 (oW J).1
     have e2:uU w s u=some W:=by unfold uU;rw[J];show some e.2.2.toNat=some W;rw[b1];rfl
     have A:=A.2
     rw[hk,Rg.GD,e2] at A
     dsimp only at A
     refine aH (bO (ax rfl ?_))
     rw[b1]
     refine ed (qh (cu (bN (ax rfl (ax rfl (dH ?_))))))
     have b6:∀(M:¬(W=f/\(v++ [u]).all (Nat.ble f)=true)),Rg.GD (uU w s) f k W (v++ [u])=kK w s f:=λM=>by
      rw[←A,Quq]
      intro z
      rw[QCq] at z
      exact M ⟨Nat.eq_of_beq_eq_true z.1,z.2⟩
     have a5:∀(M:¬(W=f/\(v++ [u]).all (Nat.ble f)=true)),∃(C:List Nat) (a2:Nat) (lt e' g' i':Option D),[some w.d,some s.d,some (.ref S.length),some (.int f),some (.ref r),some (.int W),some (.int (W:Int)),some (.int t),g,i]= [some w.d,some s.d,some (.ref S.length),some (.int f),some (.ref r),some (.int a2),lt,e',g',i']/\mr S S3/\S3[S.length]?=some (.lst (((List.range f).filterMap (kK w s)).map (vY w s)))/\S3[r]?=some (.lst (C.map (qP w s)))/\((C.length=t+1/\Rg.GD (uU w s) f (s.af.length-(t+1)) a2 C=kK w s f)\/(C.length<t+1/\kK w s f=none))/\(C= []->a2=f)/\(C≠[]->f∈C):=λM=>by
      refine⟨v++ [u],W,_,_,_,_,rfl,be3,hS3,hr3,.inl ⟨c,?_⟩,λz=>by simp at z,λ_=>a4⟩
      rw[show s.af.length-(t+1)=k by omega]
      exact b6 M
     refine bq (λc3=> ?_) (λc3=> ?_)
     ·have c3:W=f:=by have:=QZq c3;omega
      have a3:=zf (l:=(v++ [u]).map (zx w s)) (by simp)
      refine cu (bN (bN (KI (b_ (ax rfl (bP hr3 ⟨rfl,(v++ [u]).map (zx w s),by rw[Jn];exact sS _,⟨HN,by simp⟩,?_⟩))))))
      have b5:((v++ [u]).map (qP w s)).getD (eG ((v++ [u]).map (zx w s))) .non=.tup [.int (((v++ [u]).map (zx w s)).getD (eG ((v++ [u]).map (zx w s))) (0,"")).1,.str (((v++ [u]).map (zx w s)).getD (eG ((v++ [u]).map (zx w s))) (0,"")).2]:=by
       generalize eG ((v++ [u]).map (zx w s))=m at a3⊢
       rw[lQm] at a3
       rw[Qlq,Qlq,gQm,gQm,gQe a3]
       rfl
      show E (cF (.int 0)) _ _ _
      rw[b5]
      refine dM (aB rfl (ax rfl (dH ?_)))
      refine bq (λc4=> ?_) (λc4=> ?_)
      ·have c4:=(Ej a4).mp (QZq c4)
       rw[Qhq (by rw[QCq];exact⟨by rw[c3];exact Nat.beq_refl f,c4⟩)] at A
       refine aH (mN (xw (ax rfl ⟨_,_,rfl,hS3,aw (eX (eR (b_ (ax rfl (bP hr3 ⟨rfl,aL ?_⟩)))))⟩)))
       refine⟨_,hS3,ka (by rw[lQm];exact aM (by omega)) ?_⟩
       refine⟨_,rfl,?_⟩
       refine⟨⟨_,_,_,_,_,_,_,rfl⟩,be3.put (Qmq _),?_⟩
       have b7:(List.range (f+1)).filterMap (kK w s)=(List.range f).filterMap (kK w s)++ [v++ [u]]:=by
        rw[F,List.filterMap_append,List.filterMap_cons_some A.symm]
        rfl
       rw[fV hS3,b7]
       show some (O.lst (_++ [D.tup ((v++ [u]).map (qP w s))]))=_
       generalize v++ [u]=rr
       rw[Qzq]
       rfl
      ·have c4:=QaQ c4
       exact cB (a5 λz=>c4 ((Ej a4).mpr z.2))
     ·have c3:W≠f:=λz=>by have:=QaQ c3;omega
      exact cB (a5 λz=>c3 z.1)
    ·have c:y.length≠t+1:=λz=>by have:=QaQ c;omega
     refine cB ?_
     have hz:(v.length≠t\/nx w s u=none)/\y=v:=by
      rcases U with⟨P,e,J,rfl,_⟩|z
      ·rw[lQa] at c
       simp at c
       omega
      ·exact z
     obtain⟨hz,rfl⟩:=hz
     exact⟨y,u,_,_,_,_,rfl,be3,hS3,hr3,.inr ⟨by omega,b3 hz⟩,hn1,hn2⟩
  ·rintro B S2 ⟨v,u,lt,e,g,i,rfl,be2,hS2,hr2,hcase,hn1,hn2⟩
   rw[dC] at hcase
   have N:kK w s f=none:=by
    rcases hcase with⟨_,z⟩|⟨_,z⟩
    ·rw[Nat.sub_self,Rg.GD] at z
     exact z.symm
    ·exact z
   refine⟨⟨_,_,_,_,_,_,_,rfl⟩,be2,?_⟩
   rw[F,List.filterMap_append,List.filterMap_cons_none N,List.filterMap_nil,List.append_nil]
   exact hS2
 ·rintro B K ⟨⟨a,b,c,d1,e,g,i,rfl⟩,be,hS⟩
  rw[dC] at hS
  refine cZ (eX (jF (Jj (b_ (ax rfl (bP hS ⟨rfl,?_⟩))))))
  refine⟨_,vM (λf hf l e=>((b2 f hf).2 l e).1) (List.range s.af.length) λf hf=>List.mem_range.mp hf,⟨?_,?_⟩,?_⟩
  ·rw[lQm]
   refine QAq (List.length_filter_le _ _) ?_
   rw[QVq]
   omega
  ·rw[List.pairwise_map]
   refine List.Pairwise.imp (R:=(·<·)) (λ{a b} h=>by omega) (List.pairwise_lt_range.filter _)
  ·exact uL be (λk z=>(nomatch z)) BM q
def Eo{i:Int}(q:Q (.d (.bl true)) S):Fn mG [.int i] S Q:=by
 refine bQ ?_
 unfold p0
 refine cZ (ki (kH (ax rfl ⟨_,rfl,true,rfl,?_⟩)))
 rw[Qhq rfl]
 refine Gn (kH (ax rfl ⟨_,rfl,false,rfl,?_⟩))
 exact cE (λk z=>(nomatch z)) rfl q
def Io(q:Q (.d (.bl true)) S):Fn dU [qP w s h] S Q:=by
 refine bQ ?_
 unfold fD
 refine cZ (ki (kH (ax rfl ⟨_,rfl,true,rfl,?_⟩)))
 rw[Qhq rfl]
 refine ki (bN (lB (b_ (ax rfl (cv (ds:= [.int h,.str (Fc w s h)]) (dM (dH ⟨_,rfl,?_⟩)))))))
 rw[Qhq (by rfl)]
 refine ki (bL (aw (bN (ax rfl (dM (aB (d:=.int h) rfl (aL ?_)))))))
 refine Eo ⟨_,rfl,?_⟩
 rw[Qhq rfl]
 refine kH (bN (ax rfl (dM (aB (d:=.str (Fc w s h)) rfl ⟨_,rfl,?_⟩))))
 exact cE (λk z=>(nomatch z)) rfl q
end
section
variable{w:cV}{n h:Nat}{s:bz}{S:aF}{Q:Res->aF->Prop}
noncomputable def KY(w:cV)(s:bz)(h:Nat):PyData:=.tuple [.int h,.str (Fc w s h)]
noncomputable def IT(w:cV)(s:bz)(l:List Nat):PyData:=.tuple (l.map (KY w s))
def Kl(d:Gz w):PyData.strOk (Fc w s h)=true:=by
 unfold Fc
 cases b:nx w s h with
 |none=>decide +kernel
 | some e=>
   obtain⟨p,c,a⟩:=QOq.mp (oW b).1
   obtain⟨y,_,rfl⟩:=Qkq.mp a
   exact d.2 _ (Qkq.mpr ⟨p.1,(QeQ (show(p.1,p.2)∈_ from c)).1,rfl⟩)
def K_(a:Gz w):nZ (qP w s h)=some (KY w s h):=by
 unfold qP KY
 simp[nZ,jD,Kl a]
theorem Cs(a:Gz w):∀l:List Nat,jD (l.map (qP w s))=some (l.map (KY w s))/\PyData.depthAll (l.map (KY w s))<=3
 | []=>⟨rfl,by simp[PyData.depthAll]⟩
 | h::l=>by
   obtain⟨b,c⟩:=Cs a l
   refine⟨by simp only[QDq,jD];rw[K_ a,b];rfl,?_⟩
   simp only[QDq,PyData.depthAll]
   have:(KY w s h).depth<=3:=by simp[KY,PyData.depth,PyData.depthAll]
   omega
def Fo(b:Gz w)(l:List Nat):nZ (vY w s l)=some (IT w s l)/\(IT w s l).depth<=60:=by
 obtain⟨a,c⟩:=Cs (s:=s) b l
 refine⟨by unfold vY IT;simp only[nZ];rw[a];rfl,?_⟩
 unfold IT
 simp only[PyData.depth]
 omega
theorem Cw(a:Gz w):∀l:List (List Nat),jD (l.map (vY w s))=some (l.map (IT w s))
 | []=>rfl
 |r::l=>by simp only[QDq,jD];rw[(Fo a r).1,Cw a l];rfl
def FF(o:dF w)(i:Gz w)(x:cD w n s)(m:jK w s){l:List Nat}(hl:l∈s_ w s)(p:l.length<=4)(q:Q (.d (.bl true)) S):Fn iR [w.d,s.d,vY w s l] S Q:=by
 refine bQ ?_
 unfold lG
 refine aH (ed (Co (x8 (fg (d:=vY w s l) (ax rfl ⟨rfl,rfl⟩) (b:=true) rfl ?_))))
 refine bq (λc=>by cases c) (λ_=> ?_)
 refine x8 (zq (IW (jF (j6 (α:=Nat) (λe=>∃a,e= [a]) (qP w s) (λ_=>.bl true) (λ_=>true) ⟨none,rfl⟩ (k9 (b_ (ax rfl (cv (ds:=l.map (qP w s)) ?_))))))))
 refine⟨l,rfl,trivial,by omega,λy r e f=> ?_,?_⟩
 ·obtain⟨a,rfl⟩:=f
  refine aV ⟨rfl,⟨_,rfl⟩,fT ⟨rfl,rfl,λ_=> ?_⟩⟩
  refine bL (aw (ax rfl (aL ?_)))
  exact Io ⟨rfl,rfl⟩
 ·refine⟨rfl,List.replicate l.length true,?_,?_⟩
  ·rw[←tf]
   congr 1
   rw[List.filter_eq_self.mpr (λ_ _=>rfl),List.map_const']
  ·have:(List.replicate l.length true).all id=true:=by simp
   rw[this]
   refine qi ?_
   refine bq (λc=>by cases c) (λ_=>cB ?_)
   refine cZ (MV (ax rfl (b_ (bL (aw (ax rfl (aw (ax rfl (aL ?_)))))))))
   refine t5 o x m ?_
   refine cv (ds:=(s_ w s).map (vY w s)) ?_
   obtain⟨g,j⟩:=Fo (s:=s) i l
   refine⟨_,_,g,Cw i _,j,?_⟩
   have:((s_ w s).map (IT w s)).any (PyData.eqv · (IT w s l))=true:=List.any_eq_true.mpr ⟨IT w s l,Qkq.mpr ⟨l,hl,rfl⟩,SeqAt.eqv_refl _ (lC g)⟩
   rw[this]
   exact cE (λk z=>(nomatch z)) rfl q
def Kq(o:dF w)(x:cD w n s)(b:∀l∈s_ w s,l.length<=4):Pl 10 (.tup ((s_ w s).map (vY w s))):=by
 have hl:(s_ w s).length<=4:=by
  unfold s_
  refine QAq (List.length_filterMap_le _ _) ?_
  rw[QVq]
  have:=o.l4
  have:=x.lh
  omega
 refine⟨by rw[lQm];omega,λd a=> ?_⟩
 obtain⟨l,hl,rfl⟩:=Qkq.mp a
 refine⟨by rw[lQm];have:=b l hl;omega,λd a=> ?_⟩
 obtain⟨y,_,rfl⟩:=Qkq.mp a
 refine⟨by show 2<=1000;omega,λd a=> ?_⟩
 rcases Qsq.mp a with rfl|a
 ·exact trivial
 ·rw[Qfq.mp a];exact trivial
def HS(l:List Nat):l.flatMap (λf=>(kK w s f).getD [])=(l.filterMap (kK w s)).flatten:=by
 induction l with
 |nil=>rfl
 | cons f l a=>
   rw[QSq,a]
   cases e:kK w s f with
   |none=>rw[List.filterMap_cons_none e];rfl
   |some r=>rw[List.filterMap_cons_some e];rfl
def E7(o:dF w)(K:Gz w)(x:cD w n s)(v:jK w s)(q:Q (.d (.bl true)) S):Fn iV [w.d,s.d] S Q:=by
 have U:=o.l4
 have W:=x.lh
 obtain⟨C,r⟩:=IK o x v
 rw[HS] at r
 have F:∀l∈s_ w s,l.length<=4:=λl hl=>by
  obtain⟨f,N,e⟩:=List.mem_filterMap.mp hl
  exact((C f (List.mem_range.mp N)).2 l e).2.2
 have M:(s_ w s).length<=4:=by
  unfold s_
  refine QAq (List.length_filterMap_le _ _) ?_
  rw[QVq]
  omega
 refine bQ ?_
 unfold k8
 refine aH (bO (bL (aw (ax rfl (aw (ax rfl (aL ?_)))))))
 refine DH o x v ?_
 refine aH (ed (x8 (zq (bL (aw (bL (aw (ax rfl (aw (ax rfl (aL ?_)))))))))))
 refine t5 o x v ?_
 refine aw (ax rfl (aL ?_))
 refine B6 10 _ (Kq o x F) ?_
 refine qi ?_
 refine bq (λc=>by cases c) (λ_=>cB ?_)
 refine aH (bO (dk (cP (aL ⟨by show 0<=_;decide,?_⟩))))
 refine aH (fU (k9 (b_ (ax rfl (cv (ds:=(s_ w s).map (vY w s)) ?_)))))
 have i:∀j,(((s_ w s).take j).flatten).length<=16:=λj=>by
  have A:∀m:List (List Nat),(∀l∈m,l.length<=4)->m.flatten.length<=4*m.length:=by
   intro m
   induction m with
   |nil=>intro _;simp
   | cons a m L=>
     intro t
     have H:=t a (QBq ..)
     have R:=L λl hl=>t l (Qpq _ hl)
     rw[List.flatten_cons,lQa,Qnq]
     omega
  have H:=A ((s_ w s).take j) λl hl=>F l (List.mem_of_mem_take hl)
  rw[Qxq] at H
  omega
 refine⟨λj g p=>(∃a,g= [some w.d,some s.d,some (.tup ((s_ w s).map (vY w s))),some (.ref S.length),a])/\mr S p/\p[S.length]?=some (.lst ((((s_ w s).take j).flatten).map λh:Nat=>D.int h)),⟨⟨_,rfl⟩,mr.refl.app,aZ⟩,λ_ _ _ _=>trivial,?_,?_⟩
 ·rintro j d g p I ⟨⟨a,rfl⟩,be,hS⟩
  rw[gQm] at I
  obtain⟨l,hl,rfl⟩:=oQm.mp I
  have t:=mQg hl
  have B:=F l t
  refine aV ?_
  refine aH (ed (cu (bN (bL (aw (ax rfl (aw (ax rfl (aw (ax rfl (aL ?_)))))))))))
  refine FF o K x v t B ?_
  refine dM ⟨.bl false,rfl,?_⟩
  refine bq (λc=>by cases c) (λ_=>cB ?_)
  refine mN (CS (ax rfl ⟨_,_,rfl,hS,jF (j6 (α:=Nat) (λg=>∃a b,g= [a,b]) (qP w s) (λh=>.int h) (λ_=>true) ⟨none,none,rfl⟩ (k9 (b_ (ax rfl (cv (ds:=l.map (qP w s)) ?_)))))⟩))
  refine⟨l,rfl,trivial,by omega,λy X g G=> ?_,?_⟩
  ·obtain⟨a,b,rfl⟩:=G
   refine eF rfl (aC (aV (aC (aV (bx ⟨rfl,⟨_,_,rfl⟩,fT ⟨rfl,rfl,λ_=>ax rfl ⟨rfl,rfl⟩⟩⟩)))))
  ·rw[List.filter_eq_self.mpr (λ_ _=>rfl)]
   refine⟨_,hS,⟨rfl,?_⟩,?_⟩
   ·rw[lQm,lQm]
    have:=i j
    exact nQl (aM (by omega))
   ·refine⟨⟨_,rfl⟩,be.put (Qmq _),?_⟩
    rw[fV hS,QYq,hl]
    simp
 ·rintro g p ⟨⟨a,rfl⟩,be,hS⟩
  have J:=i (s_ w s).length
  rw[lQm,QEq] at hS
  rw[QEq] at J
  have u:p[S.length]?=some (.lst (((s_ w s).flatten.map λh:Nat=>(h:Int)).map D.int)):=by rw[hS,QPq];rfl
  have P:((s_ w s).flatten.map λh:Nat=>(h:Int)).Nodup:=by
   rw[List.nodup_iff_pairwise_ne,List.pairwise_map]
   exact List.Pairwise.imp (λ{a b} h z=>h (by omega)) (List.nodup_iff_pairwise_ne.mp r)
  refine cZ (bN (J4 (b_ (ax rfl (bP u ⟨rfl,_,rfl,by rw[lQm];omega,?_⟩)))))
  refine lB (b_ (ax rfl (bP u (dH ?_))))
  rw[He P]
  simp only[lQm,decide_true]
  exact uL be (λk z=>(nomatch z)) rfl q
def C3(o:dF w)(q:Q (.d (.tup [])) S):Fn nU [w.d,(bM w).d] S Q:=by
 refine t5 o (wg o) (jK.begun o) ?_
 have a:ents w (bM w)= []:=by
  unfold ents
  rw[List.flatMap_eq_nil_iff]
  rintro⟨p,r⟩ b
  obtain⟨e,_,rfl⟩:=Qkq.mp (show r∈(bM w).aj from(QeQ b).2)
  rfl
 have c:s_ w (bM w)= []:=by
  unfold s_
  rw[List.filterMap_eq_nil_iff]
  intro f _
  unfold kK Rg.way
  have:uU w (bM w) f=none:=by unfold uU nx;rw[a];rfl
  rw[Rg.Jz,this]
 rw[c]
 exact q
end
def Ho{c:cq}{S S0:aF}{k i u v:Nat}{xs:List D}{Q:D->aF->Prop}(n:c[u]?=some (some (.ref k)))(e:c[v]?=some (some (.ref i)))(x:Ex k S0 S)(hi:i≠k)(f:S[i]?=some (.lst xs))(p:0<xs.length)(o:xs.length<1000)
  (h:∀(d:D) (b:aF),d∈xs->Ex k S0 b->Q d b):E (a_ km (au v) (aA az (ar (au u) (ar (dW (aU (au v))) av)))) c S Q:=by
 refine bN (ax e (bL (aw (ax n (aw (lB (b_ (ax e (bP f (aL ?_))))))))))
 refine bK x (by show(0:Int)<xs.length;omega) (by show(xs.length:Int)<1000000;omega) λd b j m g l=> ?_
 have a:d<xs.length:=by have:(d:Int)<(xs.length:Int):=j;omega
 refine cN (g.keep _ _ hi f) (aR (gQe a)) ?_
 exact h _ _ (List.getElem_mem a) m
def Ez:∀ns:List Int,ns.length<=63->∃f,HC [.ref 0] [.frz (ns.map D.int)]=some (.d (.bl true),f):=by
 intro ns U
 suffices h:Fn HC [.ref 0] [.frz (ns.map D.int)] λr _=>r=.d (.bl true) by
  obtain⟨r,f,e,rfl⟩:=h
  exact⟨f,e⟩
 refine bQ ?_
 unfold K2
 refine aH (fU ?_)
 apply gV ?_
 apply ES rfl ?_
 refine Ey ?_
 refine iO ?_
 obtain⟨m,hm,W⟩:∃m:Nat,(1:Int)+(if (((ns.map D.int).length:Nat):Int)<6 then(((ns.map D.int).length:Nat):Int) else 6)=(m:Int)/\m<=7:=by
  refine⟨((1:Int)+(if (((ns.map D.int).length:Nat):Int)<6 then(((ns.map D.int).length:Nat):Int) else 6)).toNat,?_,?_⟩ <;>(repeat' split) <;>omega
 refine⟨m,congrArg D.int hm,by omega,?_⟩
 refine⟨λn b f=>(∃L C F K I J B,b= [some (.ref 0),L,C,F,K,I,J,B])/\f[0]?=some (.frz (ns.map D.int)),⟨⟨_,_,_,_,_,_,_,rfl⟩,rfl⟩,λ_ _ _ _=>trivial,?_,?_⟩
 ·rintro n d b S u ⟨⟨L,C,F,K,I,J,B,rfl⟩,hS⟩
  obtain⟨rfl,hn7⟩:=c7 u
  apply aV ?_
  apply Kz (by omega) hS λy v=> ?_
  have p:Ex S.length (S++ [oK y v 0]) (S++ [oK y v 0]):=Ex.refl aZ
  have x:(S++ [oK y v 0])[0]?=some (.frz (ns.map D.int)):=bu hS
  have Q:0≠S.length:=by
   have:=(gQs.mp hS).1
   omega
  show Fn fO [.ref S.length] (S++ [oK y v 0]) _
  generalize S.length=kp at p Q⊢
  generalize S++ [oK y v 0]=S1 at p x⊢
  refine DP p λw S2 ok so x2 _ _=> ?_
  refine aH (ed (cu (bN (bL (aw (ax rfl (aw (bL (aw (ax rfl (aL ?_)))))))))))
  refine Am ok ?_
  refine aL ?_
  refine C3 ok ?_
  refine cm (aL ⟨by show 0<=_;decide,?_⟩)
  refine⟨.bl false,rfl,?_⟩
  refine bq (λc=>by cases c) (λ_=>cB ?_)
  apply fU (gV ?_)
  refine⟨(2:Nat),rfl,by decide,?_⟩
  refine⟨λ_ b f=>(∃H A t q,b= [some (.ref 0),some (.int n),some (.ref kp),some w.d,H,A,t,q])/\Ex kp S1 f,⟨⟨_,_,_,_,rfl⟩,x2⟩,λ_ _ _ _=>trivial,?_,?_⟩
  ·rintro m d b f u ⟨⟨H,A,t,q,rfl⟩,hex⟩
   obtain⟨rfl,hm2⟩:=c7 (j:=2) u
   apply aV ?_
   refine Am ok ?_
   apply fU (gV ?_)
   refine⟨(30:Nat),rfl,by decide,?_⟩
   refine⟨λj b f=>(∃(s:bz) (t q:Option D),b= [some (.ref 0),some (.int n),some (.ref kp),some w.d,some (.int m),some s.d,t,q]/\cD w (1+j) s/\jK w s)/\Ex kp S1 f,⟨⟨bM w,_,_,rfl,wg ok,jK.begun ok⟩,hex⟩,λ_ _ _ _=>trivial,?_,?_⟩
   ·rintro j d b f u ⟨⟨s,t,q,rfl,hinv,hq2⟩,hex⟩
    obtain⟨rfl,hj⟩:=c7 (j:=30) u
    apply aV ?_
    refine FZ ok hinv hq2 (by omega) λg R G=> ?_
    have a9:kp<f.length:=hex.lt
    symm
    refine bP aZ ?_
    refine⟨⟨rfl,aZ⟩,?_⟩
    cases g with
    | nil=>
      refine bq (λc=>by cases c) (λ_=>cB ?_)
      exact⟨⟨s,_,_,rfl,hinv.mono (by omega),hq2⟩,hex.app⟩
    | cons Z g=>
      refine bq (λ_=> ?_) (λc=>by cases c)
      refine aH (bO (bN (Ho (k:=kp) (i:=f.length) (xs:=(Z::g).map HJ) rfl rfl hex.app (by omega) aZ (by rw[lQm];simp) (by rw[lQm];omega) λd S4 u Y=> ?_)))
      obtain⟨r,X,rfl⟩:=Qkq.mp u
      obtain⟨N,M⟩:=G r X
      refine dM (aB (d:=r.2.1.d) rfl ?_)
      refine ed (x8 (zq (bL (aw (ax rfl (aw (ax rfl (aL ?_))))))))
      refine E7 ok so N M ?_
      refine qi ?_
      refine bq (λc=>by cases c) (λ_=>cB ?_)
      exact⟨⟨r.2.1,_,_,rfl,N.mono (by omega),M⟩,Y⟩
   ·rintro b f ⟨⟨s,t,q,rfl,hinv,hq2⟩,hex⟩
    exact⟨⟨_,_,_,_,rfl⟩,hex⟩
  ·rintro b f ⟨⟨H,A,t,q,rfl⟩,hex⟩
   exact⟨⟨_,_,_,_,_,_,_,rfl⟩,hex.keep _ _ Q x⟩
 ·rintro b f ⟨⟨L,C,F,K,I,J,B,rfl⟩,hS⟩
  symm
  have hl:=(gQs.mp hS).1
  refine hJ (S2:= [.frz (ns.map D.int)]) ⟨by show 1<=f.length;omega,λk o P e=> ?_⟩ ?_ (λk z=>(nomatch z)) rfl rfl
  ·have P:k<1:=P
   have:k=0:=by omega
   subst this
   rw[hS] at e
   exact .inl e
  ·cases f with
   |nil=>simp at hl
   | cons a l=>
     simp at hS
     subst hS
     rfl
end W28
open PySem PySem.W PyProof.Rows L2 DL
theorem PySem.Challenge.cw_calledroom_k40_rings_told_holds : PySem.Challenge.rw_calledroom_k40_rings_told.Holds := by
  w_on; o_law; k_head; (case hw => w_witness2)
  k_fill
  refine DL.M3 (l := PySem.Challenge.rw_calledroom_k40_rings_told) (k := 15) rfl rfl ⟨rfl, by decide, by decide⟩ (λw h Y => PySem.W.kIn_of Y) (λw => ?nl) ?F
  case nl => rfl
  case F =>
    intro w mg fa h KX G hmg
    refine' W28.all_mk KX G hmg ?_ ?_ ?_ ?_ ?_ ?_ ?_ ?_ ?_ ?_ ?_ ?_ ?_ ?_ ?_ ?_ ?_ ?_ ?_ ?_ ?_ ?_ ?_ ?_ ?_ ?_ ?_ ?_ ?_ ?_ ?_ ?_ ?_ ?_ ?_ ?_ ?_ ?_ ?_ ?_ ?_ ?_ ?_ ?_ ?_ ?_ ?_ ?_ ?_ ?_ ?_ ?_ ?_ ?_ ?_ ?_ ?_ ?_ ?_ ?_ ?_ ?_ ?_ ?_ ?_ ?_ ?_ ?_ ?_ ?_ ?_ ?_ ?_ ?_ ?_ ?_ ?_ ?_ ?_ ?_ ?_ ?_ ?_ ?_ ?_ ?_ ?_ ?_ ?_ W28.Ez
    any_goals first | exact DL.bc.of (by k_is) (by k_is) (by k_is) (by k_is) | k_is
