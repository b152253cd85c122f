import PyProof.Rows.All
import Wide.FinOn
import KE.KEqDict
import KE.KSortTup
import KE.KUnpack
import KE.KDictOf
import KE.KFromBytes
import KE.KIsAll
import PySem.Challenge.RW_calledroom_k44_lost_known_by_hand
set_option Elab.async false
set_option linter.all false
set_option maxRecDepth 100000
set_option maxHeartbeats 8000000
namespace PySem.W.Fast
def tw7341891018317716361:True:=⟨⟩
def tw10656306470108768247:True:=⟨⟩
def tw10476662602565220772:True:=⟨⟩
def tw13067129622298962267:True:=⟨⟩
def tw11388871851261564643:True:=⟨⟩
def tw8099895786106940064:True:=⟨⟩
def tw1085726307709238265:True:=⟨⟩
def tw2584549370092268957:True:=⟨⟩
def tw8937339992163868052:True:=⟨⟩
def tw18356934386803862264:True:=⟨⟩
def tw17251541474102200597:True:=⟨⟩
def tw11762004200075911003:True:=⟨⟩
def tw10867935492647242400:True:=⟨⟩
def tw9009370863899732219:True:=⟨⟩
def tw5307146982729796611:True:=⟨⟩
def tw4857404875140400053:True:=⟨⟩
def tw15149215925328016844:True:=⟨⟩
def tw12199635424813590713:True:=⟨⟩
def tw9862232046401427960:True:=⟨⟩
def tw1563900099881554874:True:=⟨⟩
def tw7822483956576271286:True:=⟨⟩
def tw2603391024970903232:True:=⟨⟩
def tw8259601118029894744:True:=⟨⟩
def tw5205039871288305563:True:=⟨⟩
def tw15660112555681048041:True:=⟨⟩
def tw14570674961082951199:True:=⟨⟩
def tw16873274888644189505:True:=⟨⟩
def tw54545054980701033:True:=⟨⟩
def tw1374064322573884396:True:=⟨⟩
def tw18070640612664938225:True:=⟨⟩
def tw10992189769775822317:True:=⟨⟩
def tw12014294331148725580:True:=⟨⟩
def tw16279739286905906129:True:=⟨⟩
def tw12782953812337762437:True:=⟨⟩
def tw5015532442018561630:True:=⟨⟩
def tw15653831840279299773:True:=⟨⟩
def tw14708162746616972523:True:=⟨⟩
def tw12908124407618867052:True:=⟨⟩
def tw16011005471846187710:True:=⟨⟩
def tw14389559913017408908:True:=⟨⟩
def tw9504301978608382938:True:=⟨⟩
def tw15087753372585466726:True:=⟨⟩
def tw2649751086446736614:True:=⟨⟩
def tw9821301372920193482:True:=⟨⟩
def tw6123138132523197452:True:=⟨⟩
def tw14477607276388100332:True:=⟨⟩
def tw10837884423355888725:True:=⟨⟩
def tw10183907179215100904:True:=⟨⟩
def tw10411818120474037710:True:=⟨⟩
def tw8709804109263524028:True:=⟨⟩
def tw14483655733711032416:True:=⟨⟩
def tw6424919335193776776:True:=⟨⟩
def tw3552979298497454771:True:=⟨⟩
def tw12882504442283730519:True:=⟨⟩
def tw9412065219724827939:True:=⟨⟩
def tw4470093855983280133:True:=⟨⟩
def tw12484950144667225101:True:=⟨⟩
def tw10004768704423243447:True:=⟨⟩
def tw2206313849854053746:True:=⟨⟩
def tw16328021674773006498:True:=⟨⟩
def tw12700043521053580009:True:=⟨⟩
def tw8717123276505441596:True:=⟨⟩
def tw14096372117781094316:True:=⟨⟩
def tw1898869839677316139:True:=⟨⟩
def tw15395188648383574399:True:=⟨⟩
def tw1214086842298597210:True:=⟨⟩
def tw15815363109270337492:True:=⟨⟩
def tw7744716051613843569:True:=⟨⟩
def tw12256248524260195730:True:=⟨⟩
def tw12469059407506026330:True:=⟨⟩
def tw2112011089072089818:True:=⟨⟩
def tw10279907427777810513:True:=⟨⟩
def tw436593897131618524:True:=⟨⟩
def tw3475421905721023962:True:=⟨⟩
def tw14985754549731421717:True:=⟨⟩
def tw16521139270525781924:True:=⟨⟩
def tw10312005243148299771:True:=⟨⟩
def tw670548759953471695:True:=⟨⟩
def tw1342247102378826753:True:=⟨⟩
def tw14414046492116334149:True:=⟨⟩
def tw11305033787200239931:True:=⟨⟩
def tw13704625420501508756:True:=⟨⟩
def tw18138124784193318007:True:=⟨⟩
def tw6844133298274958711:True:=⟨⟩
def tw3295561440805047623:True:=⟨⟩
def tw10918049886317904544:True:=⟨⟩
def tw15096217959340935348:True:=⟨⟩
def tw17728752811383593673:True:=⟨⟩
def tw5988929495231258434:True:=⟨⟩
def tw8120615769559539029:True:=⟨⟩
def tw6170689305112911739:True:=⟨⟩
def tw6699865840293509589:True:=⟨⟩
def tw4433597628307382388:True:=⟨⟩
def tw2085090996865107455:True:=⟨⟩
def tw7387706976077726906:True:=⟨⟩
def tw2594027448177648451:True:=⟨⟩
def tw14348312738528163588:True:=⟨⟩
def tw3649132741900395284:True:=⟨⟩
def tw15731446030064652703:True:=⟨⟩
def tw14058241832427432919:True:=⟨⟩
def tw13060264444961401385:True:=⟨⟩
def tw6006193608734588416:True:=⟨⟩
def tw16167461202357945245:True:=⟨⟩
def tw7237233400409630661:True:=⟨⟩
def tw6009130189138819679:True:=⟨⟩
def tw3063798137732442452:True:=⟨⟩
def tw18222672339545258009:True:=⟨⟩
def tw2524564274326299899:True:=⟨⟩
def tw12904328413861458951:True:=⟨⟩
def tw17411491046783466809:True:=⟨⟩
def tw7847225219757898391:True:=⟨⟩
def tw7591030461419065099:True:=⟨⟩
def tw8031368926978968037:True:=⟨⟩
def tw10116080828939864858:True:=⟨⟩
def tw5906908711918273806:True:=⟨⟩
def tw4625725244429018520:True:=⟨⟩
def tw10803072247201704700:True:=⟨⟩
def tw15111319588940696845:True:=⟨⟩
def tw927929014666990089:True:=⟨⟩
def tw5535199320571686253:True:=⟨⟩
def tw8553935599214673931:True:=⟨⟩
def tw190222122805030229:True:=⟨⟩
def tw2237229125080585174:True:=⟨⟩
def tw2045495534967209265:True:=⟨⟩
def tw8028504762710636594:True:=⟨⟩
def tw6056836309043455830:True:=⟨⟩
def tw5023095204677450176:True:=⟨⟩
def tw9157042293498687589:True:=⟨⟩
def tw9859660185205784898:True:=⟨⟩
def tw14591785524779951942:True:=⟨⟩
def tw12698787424929176474:True:=⟨⟩
def tw4697821853450754730:True:=⟨⟩
def tw10798812508159315947:True:=⟨⟩
def tw5537132871997820348:True:=⟨⟩
def tw4864517090823893222:True:=⟨⟩
def tw10308056642584029446:True:=⟨⟩
def tw4580741147109132033:True:=⟨⟩
def tw8582682281529245200:True:=⟨⟩
def tw17224639405153493749:True:=⟨⟩
def tw7921386105475149280:True:=⟨⟩
def tw17540544960254902219:True:=⟨⟩
def tw2498886648350251221:True:=⟨⟩
def tw8732941511579635869:True:=⟨⟩
def tw17937820087839496631:True:=⟨⟩
def tw1511574930955628742:True:=⟨⟩
def tw6457890390840197364:True:=⟨⟩
def tw6714629132280919135:True:=⟨⟩
def tw2364997639517896100:True:=⟨⟩
def tw7698621504691210425:True:=⟨⟩
def tw15314782460313992109:True:=⟨⟩
def tw14912239430526936519:True:=⟨⟩
def tw13196317124958768430:True:=⟨⟩
def tw16136952217777338495:True:=⟨⟩
def tw14367269085093361702:True:=⟨⟩
def tw16569586436334193393:True:=⟨⟩
def tw15216611891652911335:True:=⟨⟩
def tw3866320130468120564:True:=⟨⟩
def tw14743483025192686138:True:=⟨⟩
def tw12686870178422931759:True:=⟨⟩
def tw5175785987860492865:True:=⟨⟩
def tw16932476833716009663:True:=⟨⟩
def tw16293118892046818586:True:=⟨⟩
def tw8758969915091025226:True:=⟨⟩
def tw13208747406072602970:True:=⟨⟩
def tw11581396538880543060:True:=⟨⟩
def tw12014372009903454711:True:=⟨⟩
def tw3585962113638384271:True:=⟨⟩
def tw16443762529247682202:True:=⟨⟩
def tw693539943819542326:True:=⟨⟩
def tw10832535770724337615:True:=⟨⟩
def tw757603126917018740:True:=⟨⟩
def tw13239780584592099820:True:=⟨⟩
def tw4814401509394961275:True:=⟨⟩
def tw18360656788353103389:True:=⟨⟩
def tw10289772399138133413:True:=⟨⟩
def tw8893311704257187871:True:=⟨⟩
def tw17581967262438258769:True:=⟨⟩
def tw4409073601461758859:True:=⟨⟩
def tw11127109294303426269:True:=⟨⟩
def tw13924590367085804995:True:=⟨⟩
def tw7319264397664458677:True:=⟨⟩
def tw4571681290196073885:True:=⟨⟩
def tw13556976775288644336:True:=⟨⟩
def tw18438846044389028980:True:=⟨⟩
def tw13823940920530881264:True:=⟨⟩
def tw9206074710181543945:True:=⟨⟩
def tw11734267531619396544:True:=⟨⟩
def tw17440604941212546708:True:=⟨⟩
def tw8121140892412576756:True:=⟨⟩
def tw6053854243120167551:True:=⟨⟩
def tw6373487119379485691:True:=⟨⟩
def tw16115186780751326525:True:=⟨⟩
def tw13949596992788280921:True:=⟨⟩
def tw17065476970157235235:True:=⟨⟩
def tw13961245865128550188:True:=⟨⟩
def tw14013151760327943047:True:=⟨⟩
def tw5571453186466610503:True:=⟨⟩
def tw18254664948160177485:True:=⟨⟩
def tw2599446838106392242:True:=⟨⟩
def tw3323756717072666475:True:=⟨⟩
def tw12934814810457365113:True:=⟨⟩
def tw858536560327169538:True:=⟨⟩
def tw9195463227944099805:True:=⟨⟩
def tw5638632243873666325:True:=⟨⟩
def tw5776362988200048397:True:=⟨⟩
def tw4589277764078809909:True:=⟨⟩
def tw7669200257109322572:True:=⟨⟩
def tw11557619810879467011:True:=⟨⟩
def tw6771134530612432750:True:=⟨⟩
def tw5483050894394258181:True:=⟨⟩
def tw4787910749323990285:True:=⟨⟩
def tw8937714993713572832:True:=⟨⟩
def tw2644152096322092116:True:=⟨⟩
def tw10155608347256272425:True:=⟨⟩
def tw7166183377495818998:True:=⟨⟩
def tw13901502554986161447:True:=⟨⟩
def tw17112655990080102598:True:=⟨⟩
def tw15789618896168223929:True:=⟨⟩
def tw3771099349026247060:True:=⟨⟩
def tw2319439896825442783:True:=⟨⟩
def tw13911527891168377013:True:=⟨⟩
def tw3605353215956524147:True:=⟨⟩
def tw17259989574868664069:True:=⟨⟩
def tw15817518830089687920:True:=⟨⟩
def tw9458186964497497877:True:=⟨⟩
def tw826473544284050331:True:=⟨⟩
def tw3781767291591691232:True:=⟨⟩
def tw1350659814269726215:True:=⟨⟩
def tw12289801888629373709:True:=⟨⟩
def tw11271729762873836491:True:=⟨⟩
def tw9228399391717842094:True:=⟨⟩
def tw18323337550437391150:True:=⟨⟩
def tw159193177754347687:True:=⟨⟩
def tw3766000473079260670:True:=⟨⟩
def tw18297542547650831558:True:=⟨⟩
end PySem.W.Fast
set_option bootstrap.genMatcherCode false
set_option compiler.extract_closed false
noncomputable section
local macro_rules|`(tactic|omega)=>`(tactic|lia)
abbrev gQm:=@List.getElem?_map
abbrev lQm:=@List.length_map
abbrev mQg:=@List.mem_of_getElem?
abbrev oQm:=@Option.map_eq_some_iff
abbrev gQe:=@List.getElem?_eq_getElem
abbrev gQs:=@List.getElem?_eq_some_iff
abbrev lQa:=@List.length_append
abbrev nQl:=@Nat.le_of_lt
abbrev mQa:=@List.mem_append
abbrev Qaq:=@PySem.wpAny_bind
abbrev Qbq:=@Option.bind_some
abbrev Qcq:=@PySem.Heap.get?_push_of_some
abbrev Qdq:=@decide_eq_false
abbrev Qeq:=@decide_eq_true
abbrev Qfq:=@List.mem_singleton
abbrev Qgq:=@PySem.wpAny_pure
abbrev Qhq:=@if_pos
abbrev Qiq:=@PySem.Heap.lt_size
abbrev Qjq:=@List.size_toArray
abbrev Qkq:=@List.mem_map
abbrev Qlq:=@List.getD_eq_getElem?_getD
abbrev Qmq:=@Nat.le_refl
abbrev Qnq:=@List.length_cons
abbrev Qoq:=@List.mem_append_right
abbrev Qpq:=@List.mem_cons_of_mem
abbrev Qqq:=@Nat.lt_of_lt_of_le
abbrev Qrq:=@PySem.Heap.get?_push_size
abbrev Qsq:=@List.mem_cons
abbrev Qtq:=@Bool.false_ne_true
abbrev Quq:=@if_neg
abbrev Qvq:=@List.append_assoc
abbrev Qwq:=@Nat.ne_of_lt
abbrev Qxq:=@List.length_take
abbrev Qyq:=@List.getElem?_set_self
abbrev Qzq:=@List.map_append
abbrev QAq:=@Nat.le_trans
abbrev QBq:=@List.mem_cons_self
abbrev QCq:=@Bool.and_eq_true
abbrev QDq:=@List.map_cons
abbrev QEq:=@List.take_length
abbrev QFq:=@PySem.W.mg_none_of
abbrev QGq:=@List.length_nil
abbrev QHq:=@List.getElem?_append_left
abbrev QIq:=@List.length_replicate
abbrev QJq:=@List.Perm.append_right
abbrev QKq:=@List.getElem?_set_ne
abbrev QLq:=@PySem.wpAny_holding
abbrev QMq:=@PySem.wpAny_field
abbrev QNq:=@List.replicate_succ
abbrev QOq:=@List.mem_flatMap
abbrev QPq:=@List.map_map
abbrev QQq:=@List.getElem?_append_right
abbrev QRq:=@PySem.wpAny_mono
abbrev QSq:=@List.flatMap_cons
abbrev QTq:=@List.mem_or_eq_of_mem_set
abbrev QUq:=@List.all_eq_true
abbrev QVq:=@List.length_range
abbrev QWq:=@List.drop_eq_getElem_cons
abbrev QXq:=@List.not_mem_nil
abbrev QYq:=@List.take_add_one
abbrev QZq:=@of_decide_eq_true
abbrev QaQ:=@of_decide_eq_false
abbrev QbQ:=@List.getElem_of_mem
abbrev QcQ:=@List.mem_of_getLast?
abbrev QdQ:=@Option.some.inj
abbrev QeQ:=@List.of_mem_zip
abbrev QfQ:=@List.getLast?_map
abbrev QgQ:=@PySem.wpAny_ite_false
abbrev QhQ:=@PySem.wpAny_newObj_type
abbrev QiQ:=@PySem.wpAny_callSpecial?_slot
abbrev QjQ:=@List.Sublist.refl
abbrev QkQ:=@List.eq_of_mem_replicate
abbrev QlQ:=@List.map_replicate
namespace L2
open PySem PySem.Spec PyProof.Rows
abbrev Key:=Sum Int Str
def oU:Key->Value->Bool
 |.inl k,v=>Value.isInt k v
 |.inr x,v=>Value.isStrOf x v
def Nz(w:World):Key->Int
 |.inl k=>hashInt k
 |.inr x=>hashStr w x
def cG:∀{k:Key} {v:Value},oU k v=true->(∃i t,k=Sum.inl i/\v=Value.int i t)\/(∃x t,k=Sum.inr x/\v=Value.str x t)
 | .inl i,v,h=>by
   obtain⟨t,e⟩:=Value.isInt_shape (k:=i) (v:=v) h
   exact .inl ⟨i,t,rfl,e⟩
 | .inr x,v,h=>by
   obtain⟨t,e⟩:=Value.isStrOf_shape (x:=x) (v:=v) h
   exact .inr ⟨x,t,rfl,e⟩
def Ct(i:Int)(t:Tok):oU (.inl i) (.int i t)=true:=by simp[oU,Value.isInt]
def oz(x:Str)(t:Tok):oU (.inr x) (.str x t)=true:=by simp[oU,Value.isStrOf]
def IA(a b:Int):decide ((Sum.inl a:Key)=Sum.inl b)=(a==b):=by
 by_cases e:a=b
 ·subst e;simp
 ·have h:¬(Sum.inl a:Key)=Sum.inl b:=λq=>e (Sum.inl.inj q)
  rw[Qdq h]
  exact(beq_eq_false_iff_ne.mpr e).symm
def JY(a b:Str):decide ((Sum.inr a:Key)=Sum.inr b)=decide (a=b):=by
 by_cases e:a=b
 ·subst e;simp
 ·have h:¬(Sum.inr a:Key)=Sum.inr b:=λq=>e (Sum.inr.inj q)
  rw[Qdq h,Qdq e]
def J6(a:Int)(b:Str):decide ((Sum.inl a:Key)=Sum.inr b)=false:=Qdq (λq=>nomatch q)
def JW(a:Str)(b:Int):decide ((Sum.inr a:Key)=Sum.inl b)=false:=Qdq (λq=>nomatch q)
def bt(prog:Program)(w:World):PySem.KeyKind prog w Key where
 is:=oU
 hash:=Nz w
 inj:=λv a b l f=>by
  rcases cG l with⟨i,t,rfl,rfl⟩|⟨x,t,rfl,rfl⟩
  ·rcases cG f with⟨j,u,rfl,e⟩|⟨y,u,rfl,e⟩
   ·injection e with c _;rw[c]
   ·exact nomatch e
  ·rcases cG f with⟨j,u,rfl,e⟩|⟨y,u,rfl,e⟩
   ·exact nomatch e
   ·injection e with c _;rw[c]
 byValue:=λk v h=>by
  rcases cG h with⟨i,t,rfl,rfl⟩|⟨x,t,rfl,rfl⟩ <;>rfl
 pyHash:=λd h=>by
  rcases cG d with⟨i,t,rfl,rfl⟩|⟨x,t,rfl,rfl⟩
  ·exact wpAny_pyHash_int h
  ·exact wpAny_pyHash_str h
 eqBool:=λg d h=>by
  rcases cG g with⟨i,t,rfl,rfl⟩|⟨x,t,rfl,rfl⟩
  ·rcases cG d with⟨j,u,rfl,rfl⟩|⟨y,u,rfl,rfl⟩
   ·rw[IA] at h;exact wpAny_eqBool_int h
   ·rw[J6] at h;exact SeqAt.EqAt.int_str i t y u _ _ _ _ h
  ·rcases cG d with⟨j,u,rfl,rfl⟩|⟨y,u,rfl,rfl⟩
   ·rw[JW] at h;exact SeqAt.EqAt.str_int x t j u _ _ _ _ h
   ·rw[JY] at h;exact wpAny_eqBool_str h
 «strs»:=λk x t v h=>by
  rcases cG h with⟨i,u,rfl,e⟩|⟨y,u,rfl,e⟩
  ·exact nomatch e
  ·injection e with c _
   subst c
   cases v <;>rfl
def yC(prog:Program)(w:World)(i:Int)(t:Tok):(bt prog w).is (.inl i) (.int i t)=true:=Ct i t
def w4(prog:Program)(w:World)(x:Str)(t:Tok):(bt prog w).is (.inr x) (.str x t)=true:=oz x t
inductive V where
 |non|bl (b:Bool)|int (i:Int)|str (x:Str)|byt (b:Array UInt8)|flt (b:UInt64)|ref (a:Addr)|ty (n:String)
 deriving DecidableEq
def RelV:V->Value->Prop
 |.non,u=>u=Value.none
 |.bl b,u=>u=Value.bool b
 |.int i,u=>∃t,u=Value.int i t
 |.str x,u=>∃t,u=Value.str x t
 |.byt b,u=>∃t,u=Value.bytes b t
 |.flt b,u=>∃t,u=Value.float b t
 |.ref a,u=>u=Value.ref a
 |.ty n,u=>u=Value.type n
abbrev bp:List V->List Value->Prop:=Paired RelV
def bp.length{xs:List V}{a:List Value}(r:bp xs a):xs.length=a.length:=Paired.length r
theorem bp.get:∀{xs:List V} {a:List Value} {i:Nat} {x:V},bp xs a->xs[i]?=some x->∃u,a[i]?=some u/\RelV x u
 |_,_,_,_,.nil,e=>by simp at e
 |_,_,0,_,.cons r _,e=>by simp at e;subst e;exact⟨_,rfl,r⟩
 | _,_,i+1,x,.cons _ t,e=>by
   obtain⟨u,c,b⟩:=bp.get (i:=i) (x:=x) t (by simpa using e)
   exact⟨u,by simpa using c,b⟩
theorem bp.set{x:V}{u:Value}(r:RelV x u):∀{xs:List V} {a:List Value} (i:Nat),bp xs a->bp (xs.set i x) (a.set i u)
 |_,_,_,.nil=>.nil
 |_,_,0,.cons _ t=>.cons r t
 |_,_,i+1,.cons q t=>.cons q (bp.set r i t)
theorem bp.append:∀{xs ys:List V} {a ws:List Value},bp xs a->bp ys ws->bp (xs++ys) (a++ws)
 |_,_,_,_,.nil,s=>s
 |_,_,_,_,.cons r t,s=>.cons r (bp.append t s)
theorem bp.take:∀{xs:List V} {a:List Value} (n:Nat),bp xs a->bp (xs.take n) (a.take n)
 |_,_,0,_=>.nil
 |_,_,_+1,.nil=>.nil
 |_,_,n+1,.cons r t=>.cons r (bp.take n t)
theorem bp.drop:∀{xs:List V} {a:List Value} (n:Nat),bp xs a->bp (xs.drop n) (a.drop n)
 |_,_,0,r=>r
 |_,_,_+1,.nil=>.nil
 |_,_,n+1,.cons _ t=>bp.drop n t
def sI:Option V->Option Value->Prop
 |some v,some u=>RelV v u
 |none,none=>True
 |_,_=>False
def KV{a:Type}:List (a×V)->List (a×Value)->Prop:=Paired λ(p:a×V) (q:a×Value)=>p.1=q.1/\RelV p.2 q.2
def kV:Key->V
 |.inl i=>.int i
 |.inr x=>.str x
inductive HO where
 |lst (xs:List V)
 |tup (xs:List V)
 |dK (kvs:List (Key×V))|dT (kvs:List (List Key×V))
 |set (S:Int->Bool) (n:Nat)
 |ins (C dx:Addr) (fs:List (Str×V))
 |own (x:Addr)
 |xd (fs:List (Str×V))
 |met (f x:Addr)
 |rng (lo hi:Int)
 |frz (o:Obj) (u:HO)
 |tbl (ps:Array Value)
 |ext (φ:Heap->Prop)
abbrev Hp:=Addr->Option HO
def upd(H:Hp)(a:Addr)(o:HO):Hp:=λb=>if b=a then some o else H b
def aU{H:Hp}{a:Addr}{o:HO}:upd H a o a=some o:=by unfold upd;rw[Qhq rfl]
def aN{H:Hp}{a b:Addr}{o:HO}(h:b≠a):upd H a o b=H b:=by unfold upd;rw[Quq h]
def Ec{H:Hp}{a b:Addr}{o u:HO}(h:H a=some o)(h':H b=some u)(d:o≠u):a≠b:=by
 intro e;subst e;rw[h] at h';exact d (QdQ h')
def dS{H:Hp}{a b:Addr}{o:HO}(h:H a=some o)(h':H b=none):a≠b:=by
 intro e;subst e;rw[h] at h';cases h'
def tN(h:Heap)(a:Addr)(items:Array Value):Prop:=∃o,h.get? a=some o/\o.cls=.type "tuple" /\o.dict=none/\∃n,o.data=.seq items n
def tN.it{h:Heap}{a:Addr}{items:Array Value}(x:tN h a items):IsTup h a items:=by
 obtain⟨o,e,c,_,d⟩:=x
 exact⟨o,e,c,d⟩
def tN.new(h:Heap)(items:Array Value):tN (h.push {cls:=.type "tuple",data:=.seq items}) h.objs.size items:=⟨_,Qrq _ rfl,rfl,rfl,_,rfl⟩
section
variable(P:Program)(w:World)
def bI(H:Hp)(h:Heap)(a:Addr):HO->Prop
 |.lst d=>d.length<=sizeLine/\∃(c:List Value) (n:Nat),bp d c/\h.get? a=some {cls:=.type "list",data:=.seq c.toArray n}
 |.tup d=>d.length<=sizeLine/\∃c:List Value,bp d c/\tN h a c.toArray
 |.dK b=>b.length<=sizeLine/\(a==sysModules)=false/\∃m,KV b m/\h.DictOf (bt P w) a m
 |.dT b=>b.length<=sizeLine/\(a==sysModules)=false/\∃d:List (List Key×Addr×Value),
   Paired (λ(p:List Key×V) (q:List Key×Addr×Value)=>p.1=q.1/\H q.2.1=some (.tup (p.1.map kV))/\RelV p.2 q.2.2) b d∧
   ∃o l s,h.get? a=some o/\o.ExactDict/\o.data=.dict l s/\l.toList=d.map (entryOfKey (tupleKind (bt P w)))/\(d.map (·.1)).Nodup
 |.set S n=>h.SetOf (intKind P w) a S n
 |.ins C i g=>H i=some (.own a)/\g.length<=1000/\i≠a/\h.get? a=some (PySem.W.instObj C i)∧
   ∃e,h.Ns1 i e/\(∀f,sI (g.lookup f) (e f))/\PySem.Within e (g.map (·.1))
 |.own _=>∃o,h.get? a=some o
 |.xd g=>∃e,h.Ns1 a e/\∀f,sI (g.lookup f) (e f)
 |.rng z A=>∃t u v,h.get? a=some {cls:=.type "range",data:=.fields #[.int z t,.int A u,.int 1 v]}
 |.frz o u=>h.get? a=some o/\bI H h a u
 |.tbl y=>h.get? a=some {cls:=.none,data:=.fields y}
 |.met f x=>h.get? a=some (PySem.W.methodObj (.ref f) (.ref x))
 |.ext j=>j h/\(∃o,h.get? a=some o)/\∀r k:Heap,j r->(∀o,r.get? a=some o->k.get? a=some o)->j k
def l9(H:Hp)(h:Heap):Prop:=∀a o,H a=some o->bI P w H h a o
end
section
variable{P:Program}{w:World}{H H':Hp}{h h':Heap}{a:Addr}{o:HO}
theorem bI.lt(x:bI P w H h a o):a<h.objs.size:=by
 cases o with
 |lst c=>obtain⟨_,_,_,_,e⟩:=x;exact Qiq e
 |tup c=>obtain⟨_,_,_,p⟩:=x;exact p.it.lt
 |dK b=>obtain⟨_,_,_,_,o,_,_,e,_⟩:=x;exact Qiq e
 |dT b=>obtain⟨_,_,_,_,o,_,_,e,_⟩:=x;exact Qiq e
 |set S n=>obtain⟨o,_,_,_,e,_⟩:=x;exact Qiq e
 |ins C l d=>obtain⟨_,_,_,e,_⟩:=x;exact Qiq e
 |own y=>obtain⟨_,e⟩:=x;exact Qiq e
 |xd d=>obtain⟨_,⟨_,_,_,e,_⟩,_⟩:=x;exact Qiq e
 |rng k m=>obtain⟨_,_,_,e⟩:=x;exact Qiq e
 |frz g u=>obtain⟨e,_⟩:=x;exact Qiq e
 |tbl i=>exact Qiq (show h.get? a=some _ from x)
 |met f y=>exact Qiq (show h.get? a=some _ from x)
 |ext j=>obtain⟨_,⟨_,e⟩,_⟩:=x;exact Qiq e
theorem Paired.mapP{α c:Type}{F G:α->c->Prop}:∀{l₁:List α} {l₂:List c},Paired F l₁ l₂->(∀a b,F a b->G a b)->Paired G l₁ l₂
 |_,_,.nil,_=>.nil
 |_,_,.cons r t,f=>.cons (f _ _ r) (Paired.mapP t f)
def bI.stay(x:bI P w H h a o)(k:∀b u,(b=a\/H b=some (.own a))->h.get? b=some u->h'.get? b=some u)
  (N:∀b,H b=some (.own a)->H' b=some (.own a)) (Q:∀b xs,H b=some (.tup xs)->H' b=some (.tup xs)):bI P w H' h' a o:=by
 induction o with
 |lst xs=>obtain⟨z,l,n,r,e⟩:=x;exact⟨z,l,n,r,k _ _ (.inl rfl) e⟩
 |tup xs=>obtain⟨z,l,r,g,e,c⟩:=x;exact⟨z,l,r,g,k _ _ (.inl rfl) e,c⟩
 |dK m=>obtain⟨z,y,J,r,g,i,j,e,c⟩:=x;exact⟨z,y,J,r,g,i,j,k _ _ (.inl rfl) e,c⟩
 | dT m=>
   obtain⟨z,y,xs,r,g,i,j,e,c⟩:=x
   exact⟨z,y,xs,Paired.mapP r λp q z=>⟨z.1,Q _ _ z.2.1,z.2.2⟩,g,i,j,k _ _ (.inl rfl) e,c⟩
 |set S n=>obtain⟨g,i,j,t,e,c⟩:=x;exact⟨g,i,j,t,k _ _ (.inl rfl) e,c⟩
 | ins C X K=>
   obtain⟨d,z,M,e,A,⟨s,i,j,G,c⟩,r⟩:=x
   exact⟨N _ d,z,M,k _ _ (.inl rfl) e,A,⟨s,i,j,k _ _ (.inr d) G,c⟩,r⟩
 |own y=>obtain⟨g,e⟩:=x;exact⟨g,k _ _ (.inl rfl) e⟩
 |xd K=>obtain⟨A,⟨s,i,j,e,c⟩,r⟩:=x;exact⟨A,⟨s,i,j,k _ _ (.inl rfl) e,c⟩,r⟩
 |rng U Y=>obtain⟨t,u,v,e⟩:=x;exact⟨t,u,v,k _ _ (.inl rfl) e⟩
 |frz g u I=>obtain⟨e,q⟩:=x;exact⟨k _ _ (.inl rfl) e,I q⟩
 | tbl B=>
   have e:h.get? a=some {cls:=.none,data:=.fields B}:=x
   show h'.get? a=some {cls:=.none,data:=.fields B}
   exact k a _ (.inl rfl) e
 | met f y=>
   have e:h.get? a=some (PySem.W.methodObj (.ref f) (.ref y)):=x
   show h'.get? a=some (PySem.W.methodObj (.ref f) (.ref y))
   exact k a _ (.inl rfl) e
 |ext R=>obtain⟨p,⟨o,e⟩,F⟩:=x;exact⟨F _ _ p λo q=>k _ _ (.inl rfl) q,⟨o,k _ _ (.inl rfl) e⟩,F⟩
def l9.lt(x:l9 P w H h)(e:H a=some o):a<h.objs.size:=(x a o e).lt
def l9.fresh(x:l9 P w H h)(e:h.objs.size<=a):H a=none:=by
 cases q:H a with
 |none=>rfl
 |some u=>exact absurd (Qqq (x.lt q) e) (Nat.lt_irrefl _)
def l9.kept(x:l9 P w H h)(k:∀b u,h.get? b=some u->h'.get? b=some u):l9 P w H h':=λa o e=>
 (x a o e).stay (λb u _ q=>k b u q) (λ_ q=>q) λ_ _ q=>q
def l9.laid(x:l9 P w H h)(k:∀b u,h.get? b=some u->h'.get? b=some u)(g:h.objs.size<=a)(new:bI P w (upd H a o) h' a o):l9 P w (upd H a o) h':=λb u e=>by
 have d:=x.fresh g
 by_cases f:b=a
 ·subst f;rw[aU] at e;cases e;exact new
 ·rw[aN f] at e
  exact(x b u e).stay (λc v _ q=>k c v q) (λc q=>by rw[aN (dS q d)];exact q) λc i q=>by rw[aN (dS q d)];exact q
end
def Rd(H:Hp)(a:Addr)(u:HO):Prop:=H a=some u\/∃o,H a=some (.frz o u)
def Rd.ok{P:Program}{w:World}{H:Hp}{h:Heap}{a:Addr}{u:HO}(r:Rd H a u)(x:l9 P w H h):bI P w H h a u:=by
 rcases r with r|⟨o,r⟩
 ·exact x a u r
 ·obtain⟨_,q⟩:=x a _ r
  exact q
def LA:Option HO->Prop
 |some (.lst _)=>True
 |some (.dK _)=>True
 |some (.dT _)=>True
 |some (.set _ _)=>True
 |some (.ins _ _ _)=>True
 |some (.ext _)=>True
 |_=>False
section
variable{P:Program}{w:World}{H:Hp}{h h':Heap}{x e:Addr}{o':HO}
def l9.write(ok:l9 P w H h)(l:LA (H x))(he:e=x\/H e=some (.own x))(k:∀b u,b≠e->h.get? b=some u->h'.get? b=some u)(m:∃u,h'.get? e=some u)
  (new:bI P w (upd H x o') h' x o'):l9 P w (upd H x o') h':=λb u q=>by
 have d:∀c y,H c=some (.own y)->c≠x:=λc y r z=>by subst z;rw[r] at l;exact l
 have f:∀c i,H c=some (.tup i)->c≠x:=λc i r z=>by subst z;rw[r] at l;exact l
 by_cases g:b=x
 ·subst g;rw[aU] at q;cases q;exact new
 ·rw[aN g] at q
  by_cases a:b=e
  ·have n:H b=some (.own x):=by
    rcases he with z|z
    ·exact absurd (a.trans z) g
    ·rw[a];exact z
   rw[q] at n;cases n
   obtain⟨v,o⟩:=m
   exact⟨v,by rw[a];exact o⟩
  ·refine(ok b u q).stay (λc v j r=>k c v ?_ r) (λc r=>by rw[aN (d c b r)];exact r) λc i r=>by rw[aN (f c i r)];exact r
   rcases j with rfl|j
   ·exact a
   ·rintro rfl
    rcases he with z|z
    ·exact d c b j z
    ·rw[j] at z;cases z;exact g rfl
end
structure Un(fs ex:List Addr)(H H':Hp)(h h':Heap):Prop where
 keep:∀b o,h.get? b=some o->H b=none->b∉fs->b∉ex->h'.get? b=some o
 slot:∀b o,h.get? b=some o->H b=none->b∈fs->b∉ex->∃sl,h'.get? b=some {o with slots:=sl}
 free:∀b o,h.get? b=some o->H b=none->b∉ex->H' b=none
 there:∀b o,h.get? b=some o->b∉ex->∃o',h'.get? b=some o'
 tups:∀b xs,H b=some (.tup xs)->H' b=some (.tup xs)
 frzs:∀b o u,H b=some (.frz o u)->H' b=some (.frz o u)
 tbls:∀b ps,H b=some (.tbl ps)->∃more,H' b=some (.tbl (ps++more))
section
variable{fs fs' ex ex':List Addr}{H H1 H2:Hp}{h h1 h2 h':Heap}{a x e:Addr}{o:HO}
def Un.any(u:Un fs ex H H1 h h1){b:Addr}{c:Obj}(q:h.get? b=some c)(n:H b=none)(d:b∉ex):∃sl,h1.get? b=some {c with slots:=sl}:=by
 by_cases f:b∈fs
 ·exact u.slot b c q n f d
 ·exact⟨c.slots,u.keep b c q n f d⟩
def Un.kept(k:∀b u,h.get? b=some u->h'.get? b=some u):Un fs ex H H h h':=
 ⟨λb c q _ _ _=>k b c q,λb c q _ _ _=>⟨c.slots,k b c q⟩,λ_ _ _ n _=>n,λb c q _=>⟨c,k b c q⟩,λ_ _ q=>q,λ_ _ _ q=>q,λ_ d q=>⟨#[],by rw[q];simp⟩⟩
def Un.refl:Un fs ex H H h h:=Un.kept λ_ _ q=>q
def Un.laid(k:∀b u,h.get? b=some u->h'.get? b=some u)(d:h.objs.size<=a)(c:H a=none):Un fs ex H (upd H a o) h h' where
 keep:=λb u q _ _ _=>k b u q
 slot:=λb u q _ _ _=>⟨u.slots,k b u q⟩
 free:=λb u q n _=>by rw[aN (Qwq (Qqq (Qiq q) d))];exact n
 there:=λb u q _=>⟨u,k b u q⟩
 tups:=λb f q=>by rw[aN (dS q c)];exact q
 frzs:=λb u f q=>by rw[aN (dS q c)];exact q
 tbls:=λb g q=>⟨#[],by rw[aN (dS q c),q];simp⟩
def Un.write(d:LA (H x))(he:e=x\/H e=some (.own x))(k:∀b u,b≠e->h.get? b=some u->h'.get? b=some u)(f:∃u,h'.get? e=some u):Un fs ex H (upd H x o) h h':=by
 have i:∀b,H b=none->b≠x:=λb n z=>by subst z;rw[n] at d;exact d
 have j:∀b,H b=none->b≠e:=λb n z=>by
  subst z
  rcases he with r|r
  ·exact i b n r
  ·rw[n] at r;cases r
 have g:∀b u,H b=some u->¬LA (some u)->b≠x:=λb u q nm z=>by subst z;rw[q] at d;exact nm d
 refine⟨λb u q n _ _=>k b u (j b n) q,λb u q n _ _=>⟨u.slots,k b u (j b n) q⟩,λb u q n _=>by rw[aN (i b n)];exact n,λb u q _=> ?_,
  λb l q=>by rw[aN (g b _ q λz=>z)];exact q,λb u l q=>by rw[aN (g b _ q λz=>z)];exact q,λb m q=>⟨#[],by rw[aN (g b _ q λz=>z),q];simp⟩⟩
 by_cases c:b=e
 ·subst c;exact f
 ·exact⟨u,k b u c q⟩
end
def Mz(h:Heap)(H:Hp):List Addr:=(List.range h.objs.size).filter λa=>(H a).isSome
def vy(h:Heap)(H:Hp):Heap:=PySem.W.hideAll h (Mz h H)
def BQ(h:Heap)(H:Hp):(vy h H).objs.size=h.objs.size:=PySem.W.hideAll_size _ _
def Dv{h:Heap}{H:Hp}{b:Addr}{o:Obj}(e:h.get? b=some o)(n:H b=none):(vy h H).get? b=some o:=
 PySem.W.hideAll_get _ e λa=>by
  have q:(H b).isSome=true:=(List.mem_filter.mp a).2
  rw[n] at q;simp at q
def Hf{h:Heap}{H:Hp}{b:Addr}{o:Obj}(e:(vy h H).get? b=some o):h.get? b=some o/\H b=none:=by
 have a:h.get? b=some o:=PySem.W.of_hideAll (Mz h H) e
 refine⟨a,?_⟩
 cases q:H b with
 |none=>rfl
 | some x=>
   have c:b∈Mz h H:=List.mem_filter.mpr ⟨List.mem_range.mpr (Qiq a),by simp[q]⟩
   have z:(vy h H).get? b=none:=PySem.W.hideAll_none (Mz h H) c
   rw[z] at e;cases e
structure Mod(K:PySem.W.Frag)(mg:Str->Option Value)(base:Heap):Prop where
 kin:K.In base
 glob:base.Ns mainGlobals mg
 blt:∃mb,base.Ns builtinsNs mb/\∀x:Str,x≠"__name__" ->mb x=bootBuiltins x
 nolimit:base.NoLimit
structure Cx where
 prog:Program
 w:World
 K:PySem.W.Frag
 mg:Str->Option Value
 base:Heap
 A:Around
 N:List Str
 s₀:Shared
 H₀:Hp
 env:Env
 outer:List Env
 stack:List Env
 ex:List Addr
 fn:Str->Bool
 calm:Bool
 pn:List (Addr×Obj)
 xe:Value->Shared->Prop
def DP(l:List Env):List Addr:=l.filterMap (·.frame)
abbrev Cx.fs(X:Cx):List Addr:=DP X.outer
def GB(a:Scope)(x:Str):Prop:=a.names.lookup x=some .local\/a.names.lookup x=some .cell\/a.names.lookup x=some .free
def Loc(a:Scope)(x:Str):Prop:=a.names.lookup x=some .local\/a.names.lookup x=some .cell
def Look(env:Env)(h:Heap)(m:Str->Option Value)(x:Str)(u:Value):Prop:=
 (env.kindOf x=some .local/\m x=some u)\/((env.kindOf x=some .cell\/env.kindOf x=some .free)/\∃c,env.cells.lookup x=some c/\h.IsCell c (some u))
structure Cx.Ok(X:Cx):Prop where
 mod:Mod X.K X.mg X.base
 kind:X.env.scope.kind=.function
 glob:X.env.globals=mainGlobals
 blt:X.env.builtins=builtinsNs
 above:X.s₀.heap.objs.size<=X.env.locals
 inj:∀x y c,X.env.cells.lookup x=some c->X.env.cells.lookup y=some c->x=y
 has:∀x,(X.env.kindOf x=some .cell\/X.env.kindOf x=some .free)->∃c,X.env.cells.lookup x=some c
 cab:∀x c,X.fn x=true->X.env.cells.lookup x=some c->X.s₀.heap.objs.size<=c
 hd:X.calm=true->X.A.handled=none
 frames:X.A.frames=some X.stack
 stk:X.stack=X.outer\/(X.stack=X.env::X.outer/\X.env.frame=some X.env.locals)
 exf:∀b∈X.ex,b≠X.env.locals/\∀x c,X.env.cells.lookup x=some c->c≠b
 bs:∀b o,X.base.get? b=some o->X.s₀.heap.get? b=some o/\X.H₀ b=none
 bsz:X.base.objs.size<=X.s₀.heap.objs.size
 noex:∀b o,X.base.get? b=some o->b∉X.ex
 exfs:∀b∈X.ex,b∉X.fs
 funs:X.s₀.heap.FunFrames X.base X.outer
 frf:∀b∈X.fs,X.H₀ b=none
structure Inv(X:Cx)(pins:List (Addr×Obj))(σ:List (Option V))(H:Hp)(s:Shared):Prop where
 ok:X.Ok
 os:s.os=X.s₀.os
 bare:AllBare s.gens
 base:Un X.fs X.ex X.H₀ H X.s₀.heap s.heap
 loc:∃m,s.heap.Ns X.env.locals m/\∀(i:Nat) (x:Str) (v:V),X.N[i]?=some x->σ[i]?=some (some v)->GB X.env.scope x->∃u,RelV v u/\Look X.env s.heap m x u
 cell:∀x c,X.env.cells.lookup x=some c->∃v,s.heap.IsCell c v
 free:H X.env.locals=none
 freeC:∀x c,X.env.cells.lookup x=some c->H c=none
 pin:∀p∈X.pn++pins,s.heap.get? p.1=some p.2/\H p.1=none/\p.1≠X.env.locals/\p.1∉X.fs/\∀v,p.2.data≠.cell v
 hok:l9 X.prog X.w H s.heap
 len:σ.length=X.N.length
section
variable{X:Cx}{pins:List (Addr×Obj)}{σ:List (Option V)}{H H':Hp}{s:Shared}{h':Heap}
def Cx.Ok.nofr(ok:X.Ok){b:Addr}{o:Obj}(e:X.base.get? b=some o):b∉X.fs:=λa=>by
 have:=(ok.funs.mem a).1
 rw[e] at this;cases this
def Inv.bs(I:Inv X pins σ H s):∀b o,X.base.get? b=some o->s.heap.get? b=some o/\H b=none:=λb o e=>
 ⟨I.base.keep b o (I.ok.bs b o e).1 (I.ok.bs b o e).2 (I.ok.nofr e) (I.ok.noex b o e),I.base.free b o (I.ok.bs b o e).1 (I.ok.bs b o e).2 (I.ok.noex b o e)⟩
def Inv.bk(I:Inv X pins σ H s):∀b o,X.base.get? b=some o->s.heap.get? b=some o:=λb o e=>(I.bs b o e).1
def Inv.mod(I:Inv X pins σ H s):Mod X.K X.mg X.base:=I.ok.mod
def Inv.kIn(I:Inv X pins σ H s):X.K.In s.heap:=I.ok.mod.kin.keeps I.bk
def Inv.lt(I:Inv X pins σ H s):X.env.locals<s.heap.objs.size:=let ⟨_,hn,_⟩:=I.loc;hn.lt
def Inv.sz(I:Inv X pins σ H s):X.s₀.heap.objs.size<=s.heap.objs.size:=QAq I.ok.above (nQl I.lt)
def Inv.nofs(I:Inv X pins σ H s){a:Addr}(h:s.heap.objs.size<=a):a∉X.fs:=λb=>by
 obtain⟨_,o,c,_⟩:=I.ok.funs.mem b
 exact absurd (Qqq (Qiq c) (QAq I.sz h)) (Nat.lt_irrefl _)
def Inv.cne(I:Inv X pins σ H s):∀x c,X.env.cells.lookup x=some c->c≠X.env.locals:=λx c e z=>by
 obtain⟨v,o,f,d⟩:=I.cell x c e
 obtain⟨m,⟨h,i,g,a,b,_⟩,_⟩:=I.loc
 rw[z,a] at f;cases f;rw[b] at d;cases d
theorem Inv.funs(I:Inv X pins σ H s):s.heap.FunFrames X.base X.outer:=by
 have c:∀(l:List Env),(∀b∈DP l,b∈X.fs)->X.s₀.heap.FunFrames X.base l->s.heap.FunFrames X.base l:=by
  intro l
  induction l with
  |nil=>intro _ _;trivial
  | cons j r m=>
    intro g hl
    obtain⟨i,⟨L,o,f,n,p,h⟩,k⟩:=hl
    have d:L∈X.fs:=g L (by unfold DP;rw[List.filterMap_cons,f];exact QBq)
    obtain⟨sl,e⟩:=I.base.slot L o p (I.ok.frf L d) d λz=>I.ok.exfs L z d
    exact⟨i,⟨L,_,f,n,e,h⟩,m (λb a=>g b (by unfold DP;rw[List.filterMap_cons,f];exact Qpq _ a)) k⟩
 exact c X.outer (λ_ a=>a) I.ok.funs
def Inv.stack(I:Inv X pins σ H s):s.heap.FunFrames X.base X.stack:=by
 rcases I.ok.stk with e|⟨e,b⟩
 ·rw[e];exact I.funs
 ·rw[e]
  obtain⟨m,a,_⟩:=I.loc
  refine .cons (by rw[I.ok.kind];decide) b a ?_ I.funs
  exact Heap.get?_none_of_le (QAq I.ok.bsz I.ok.above)
def Inv.stkSub(I:Inv X pins σ H s):∀b∈DP X.stack,b∈X.env.locals::X.fs:=λb a=>by
 rcases I.ok.stk with e|⟨e,c⟩
 ·rw[e] at a;exact Qpq _ a
 ·rw[e] at a
  unfold DP at a
  rw[List.filterMap_cons,c] at a
  exact a
def Inv.stkFree(I:Inv X pins σ H s):∀b∈DP X.stack,H b=none:=λb a=>by
 rcases Qsq.mp (I.stkSub b a) with e|a
 ·rw[e];exact I.free
 ·obtain⟨_,o,c,_⟩:=I.ok.funs.mem a
  exact I.base.free b o c (I.ok.frf b a) λz=>I.ok.exfs b z a
def Inv.step{g':Array GenState}{t':Nat}{d':Drawn}{ch:List Addr}(I:Inv X pins σ H s)
  (f:∀b∈ch,(b∈X.ex\/X.s₀.heap.objs.size<=b)/\b≠X.env.locals/\(∀x c,X.env.cells.lookup x=some c->c≠b)/\∀p∈X.pn++pins,p.1≠b)
  (keep:∀b o,b≠X.env.locals->b∉X.fs->b∉ch->s.heap.get? b=some o->H b=none->h'.get? b=some o)
  (slot:∀b o,b≠X.env.locals->b∈X.fs->b∉ch->s.heap.get? b=some o->H b=none->∃sl,h'.get? b=some {o with slots:=sl}) (free:∀b o,b∉ch->s.heap.get? b=some o->H b=none->H' b=none)
  (there:∀b o,b∉ch->s.heap.get? b=some o->∃o',h'.get? b=some o')
  (tups:∀b xs,H b=some (.tup xs)->H' b=some (.tup xs)) (frzs:∀b o u,H b=some (.frz o u)->H' b=some (.frz o u)) (tbls:∀b ps,H b=some (.tbl ps)->∃more,H' b=some (.tbl (ps++more)))
  (ns:∀m,s.heap.Ns X.env.locals m->h'.Ns X.env.locals m) (G:l9 X.prog X.w H' h') (U:AllBare g'):
  Inv X pins σ H' {s with heap:=h',gens:=g',drawn:=d',toks:=t'}:=by
 have C:∀b o,X.s₀.heap.get? b=some o->b≠X.env.locals:=λb o e=>Qwq (Qqq (Qiq e) I.ok.above)
 have j:∀b o,X.s₀.heap.get? b=some o->b∉X.ex->b∉ch:=λb o e a y=>by
  rcases(f b y).1 with z|z
  ·exact a z
  ·exact absurd (Qqq (Qiq e) z) (Nat.lt_irrefl _)
 have g:∀x c,X.env.cells.lookup x=some c->∀v,s.heap.IsCell c v->h'.IsCell c v:=λx c e v R=>by
  obtain⟨o,A,F⟩:=R
  have h:c∉ch:=λz=>(f c z).2.2.1 x c e rfl
  by_cases M:c∈X.fs
  ·obtain⟨sl,q⟩:=slot c o (I.cne x c e) M h A (I.freeC x c e)
   exact⟨_,q,F⟩
  ·exact⟨o,keep c o (I.cne x c e) M h A (I.freeC x c e),F⟩
 refine⟨I.ok,I.os,U,⟨λb o e n y a=> ?_,λb o e n y a=> ?_,λb o e n a=> ?_,λb o e a=> ?_,λb xs e=>tups b xs (I.base.tups b xs e),λb o xs e=>frzs b o xs (I.base.frzs b o xs e),λb ps e=> ?_⟩,?_,λx c e=> ?_,?_,λx c e=> ?_,λp K=> ?_,G,I.len⟩
 ·exact keep b o (C b o e) y (j b o e a) (I.base.keep b o e n y a) (I.base.free b o e n a)
 ·obtain⟨sl,t⟩:=I.base.slot b o e n y a
  obtain⟨J,B⟩:=slot b _ (C b o e) y (j b o e a) t (I.base.free b o e n a)
  exact⟨J,B⟩
 ·obtain⟨o',t⟩:=I.base.there b o e a
  exact free b o' (j b o e a) t (I.base.free b o e n a)
 ·obtain⟨o',t⟩:=I.base.there b o e a
  exact there b o' (j b o e a) t
 ·obtain⟨W,t⟩:=I.base.tbls b ps e
  obtain⟨Q,B⟩:=tbls b _ t
  exact⟨W++Q,by rw[B,Array.append_assoc]⟩
 ·obtain⟨m,Y,hl⟩:=I.loc
  refine⟨m,ns m Y,λi x v t B S=> ?_⟩
  obtain⟨u,r,l⟩:=hl i x v t B S
  refine⟨u,r,?_⟩
  rcases l with l|⟨k,c,e,z⟩
  ·exact .inl l
  ·exact .inr ⟨k,c,e,g x c e _ z⟩
 ·obtain⟨v,z⟩:=I.cell x c e
  exact⟨v,g x c e v z⟩
 ·obtain⟨m,⟨o,_,_,A,_⟩,_⟩:=I.loc
  exact free _ o (λz=>(f _ z).2.1 rfl) A I.free
 ·obtain⟨v,o,A,F⟩:=I.cell x c e
  exact free c o (λz=>(f c z).2.2.1 x c e rfl) A (I.freeC x c e)
 ·obtain⟨e,n,P,N,d⟩:=I.pin p K
  have h:p.1∉ch:=λz=>(f p.1 z).2.2.2 p K rfl
  exact⟨keep p.1 p.2 P N h e n,free p.1 p.2 h e n,P,N,d⟩
def Inv.un{t':Nat}(I:Inv X pins σ H s)(u:Un X.fs [] H H' s.heap h')(f:l9 X.prog X.w H' h'):Inv X pins σ H' {s with heap:=h',toks:=t'}:=by
 obtain⟨m,⟨o,p,q,h,r⟩,_⟩:=id I.loc
 obtain⟨sl,j⟩:=u.any h I.free (by simp)
 exact I.step (g':=s.gens) (d':=s.drawn) (ch:= []) (λ_ z=>nomatch z) (λb o _ c _ e n=>u.keep b o e n c (by simp)) (λb o _ c _ e n=>u.slot b o e n c (by simp)) (λb o _ e n=>u.free b o e n (by simp)) (λb o _ e=>u.there b o e (by simp)) u.tups u.frzs u.tbls (λt i=>by
  obtain⟨l,d,g,a,k⟩:=i
  rw[h] at a;cases a
  exact⟨_,d,g,j,k⟩) f I.bare
def Inv.call{g':Array GenState}{t':Nat}{d':Drawn}{ch:List Addr}(I:Inv X pins σ H s)(u:Un (DP X.stack) ch H H' s.heap h')(h:l9 X.prog X.w H' h')(t:AllBare g')
  (d:∀b∈ch,(b∈X.ex\/X.s₀.heap.objs.size<=b)/\b≠X.env.locals/\(∀x c,X.env.cells.lookup x=some c->c≠b)/\∀p∈X.pn++pins,p.1≠b):
  Inv X pins σ H' {s with heap:=h',gens:=g',drawn:=d',toks:=t'}:=by
 obtain⟨m,⟨o,A,B,k,r⟩,_⟩:=id I.loc
 obtain⟨sl,i⟩:=u.any k I.free λz=>(d _ z).2.1 rfl
 exact I.step (ch:=ch) d (λb o i l a e n=>u.keep b o e n (λz=>(Qsq.mp (I.stkSub b z)).elim i l) a) (λb o _ _ a e n=>u.any e n a) (λb o a e n=>u.free b o e n a) (λb o a e=>u.there b o e a) u.tups u.frzs u.tbls (λC q=>by
  obtain⟨y,g,j,f,v⟩:=q
  rw[k] at f;cases f
  exact⟨_,g,j,i,v⟩) h t
def Inv.turned{t':Nat}{it:Addr}(I:Inv X pins σ H s)(k:∀b o,b≠it->s.heap.get? b=some o->h'.get? b=some o)(t:H it=none)(f:it≠X.env.locals)
  (y:it∈X.ex\/X.s₀.heap.objs.size<=it) (g:∀x c,X.env.cells.lookup x=some c->c≠it) (w:∀p∈X.pn++pins,p.1≠it):Inv X pins σ H {s with heap:=h',toks:=t'}:=by
 have d:∀b u,H b=some u->b≠it:=λb u e z=>by rw[z,t] at e;cases e
 refine I.step (g':=s.gens) (d':=s.drawn) (ch:= [it]) (λb i=> ?_) (λb o _ _ a e _=>k b o (λz=>a (by simp[z])) e) (λb o _ _ a e _=>⟨o.slots,k b o (λz=>a (by simp[z])) e⟩) (λ_ _ _ _ n=>n)
  (λb o a e=>⟨o,k b o (λz=>a (by simp[z])) e⟩) (λ_ _ e=>e) (λ_ _ _ e=>e) (λb B e=>⟨#[],by rw[e];simp⟩) (λm j=> ?_) (λb u e=> ?_) I.bare
 ·have e:b=it:=by simpa using i
  subst e
  exact⟨y,f,g,w⟩
 ·obtain⟨o,h,l,A,r⟩:=j
  exact⟨o,h,l,k _ o (Ne.symm f) A,r⟩
 ·refine(I.hok b u e).stay (λc v a q=>k c v ?_ q) (λ_ q=>q) λ_ _ q=>q
  rcases a with z|z
  ·rw[z];exact d b u e
  ·exact d c _ z
def Inv.tok(I:Inv X pins σ H s)(t:Nat):Inv X pins σ H {s with toks:=t}:=I.un (h':=s.heap) (t':=t) Un.refl I.hok
def Inv.kept{t':Nat}(I:Inv X pins σ H s)(k:∀b u,s.heap.get? b=some u->h'.get? b=some u):Inv X pins σ H {s with heap:=h',toks:=t'}:=I.un (Un.kept k) (I.hok.kept k)
def Inv.laid{a:Addr}{o:HO}{t':Nat}(I:Inv X pins σ H s)(k:∀b u,s.heap.get? b=some u->h'.get? b=some u)(c:s.heap.objs.size<=a)(new:bI X.prog X.w (upd H a o) h' a o):
  Inv X pins σ (upd H a o) {s with heap:=h',toks:=t'}:=I.un (Un.laid k c (I.hok.fresh c)) (I.hok.laid k c new)
def Inv.write{x e:Addr}{o:HO}{t':Nat}(I:Inv X pins σ H s)(c:LA (H x))(he:e=x\/H e=some (.own x))(k:∀b u,b≠e->s.heap.get? b=some u->h'.get? b=some u)(a:∃u,h'.get? e=some u)
  (new:bI X.prog X.w (upd H x o) h' x o):Inv X pins σ (upd H x o) {s with heap:=h',toks:=t'}:=I.un (Un.write c he k a) (I.hok.write c he k a new)
def Inv.pins_of{a:List (Addr×Obj)}(I:Inv X pins σ H s)(h:∀p∈a,s.heap.get? p.1=some p.2/\H p.1=none/\p.1≠X.env.locals/\p.1∉X.fs/\∀v,p.2.data≠.cell v):Inv X a σ H s:=
 ⟨I.ok,I.os,I.bare,I.base,I.loc,I.cell,I.free,I.freeC,λp b=>(mQa.mp b).elim (λz=>I.pin p (List.mem_append_left _ z)) (h p),I.hok,I.len⟩
def xh{N:List Str}(c:N.Nodup){i j:Nat}{x:Str}(a:N[i]?=some x)(b:N[j]?=some x):i=j:=by
 obtain⟨g,e⟩:=gQs.mp a
 obtain⟨f,d⟩:=gQs.mp b
 exact(List.getElem_inj c).mp (e.trans d.symm)
def Cz{M:Model}{A:Around}{E:Value->Shared->Prop}{i:Nat}{x:Str}{v:V}{u:Value}{Q:Unit->Shared->Prop}(I:Inv X pins σ H s)(hN:X.N.Nodup)(hi:X.N[i]?=some x)(B:Loc X.env.scope x)(r:RelV v u)
  (h:∀s',Inv X pins (σ.set i (some v)) H s'->(∃a,Heap.SameBut a s.heap s'.heap/\(a=X.env.locals\/X.env.cells.lookup x=some a))->Q () s') (hf:X.fn x=true\/X.env.scope.names.lookup x=some .local:=by first|exact .inl rfl|exact .inr rfl|assumption):wpAny M A (storeName X.env x u) Q E s:=by
 obtain⟨m,hn,hl⟩:=id I.loc
 have Y:(X.env.scope.kind==.class||(X.env.scope.kind==.module&&X.env.locals !=X.env.globals))=false:=by rw[I.ok.kind];rfl
 have J:i<σ.length:=by rw[I.len];exact(gQs.mp hi).1
 have S:=I.cne
 have g:∀{a:Addr} {h':Heap},(∃o,s.heap.get? a=some o/\H a=none)->Heap.SameBut a s.heap h'->l9 X.prog X.w H h':=λ{a h'} ha f b ob e=>by
  obtain⟨_,_,C⟩:=ha
  refine(I.hok b ob e).stay (λc w' t q=>(f.2 c ?_).trans q) (λ_ q=>q) λ_ _ q=>q
  rintro rfl
  rcases t with rfl|t
  ·rw[C] at e;cases e
  ·rw[C] at t;cases t
 rcases B with G|G
 ·refine wpAny_storeName_local G hn (λh' a1 f=> ?_) Y
  obtain⟨oL,_,_,a2,_⟩:=id hn
  refine h _ ⟨I.ok,I.os,I.bare,⟨λb o e n K B=> ?_,λb o e n K B=> ?_,I.base.free,λb o e B=> ?_,I.base.tups,I.base.frzs,I.base.tbls⟩,⟨_,a1,λj y v' l F e3=> ?_⟩,λy c e=> ?_,I.free,I.freeC,λp hp=> ?_,g ⟨oL,a2,I.free⟩ f,by simpa using I.len⟩ ⟨_,f,.inl rfl⟩
  ·exact(f.2 b (Qwq (Qqq (Qiq e) I.ok.above))).trans (I.base.keep b o e n K B)
  ·obtain⟨sl,l⟩:=I.base.slot b o e n K B
   exact⟨sl,(f.2 b (Qwq (Qqq (Qiq e) I.ok.above))).trans l⟩
  ·obtain⟨o',l⟩:=I.base.there b o e B
   exact⟨o',(f.2 b (Qwq (Qqq (Qiq e) I.ok.above))).trans l⟩
  ·by_cases P:j=i
   ·subst P
    rw[hi] at l;cases l
    rw[Qyq J] at F
    cases F
    exact⟨u,r,.inl ⟨G,by simp⟩⟩
   ·rw[QKq (Ne.symm P)] at F
    obtain⟨u',r',q⟩:=hl j y v' l F e3
    refine⟨u',r',?_⟩
    rcases q with⟨k,e⟩|⟨k,c,e,z⟩
    ·refine .inl ⟨k,?_⟩
     have:y≠x:=λe=>P (xh hN l (e▸hi))
     simp[this,e]
    ·exact .inr ⟨k,c,e,z.sameBut f (S y c e)⟩
  ·obtain⟨w',z⟩:=I.cell y c e
   exact⟨w',z.sameBut f (S y c e)⟩
  ·obtain⟨e,n,ne,nf,d⟩:=I.pin p hp
   exact⟨(f.2 p.1 ne).trans e,n,ne,nf,d⟩
 ·have R:X.fn x=true:=by
   rcases hf with z|z
   ·exact z
   ·rw[z] at G;cases G
  obtain⟨c,t⟩:=I.ok.has x (.inl G)
  obtain⟨w',z⟩:=I.cell x c t
  refine wpAny_storeName_cell I.ok.kind G t z (λh' a0 f=> ?_)
  obtain⟨oc,U,Z⟩:=id z
  refine h {s with heap:=h'} ⟨I.ok,I.os,I.bare,⟨λb o e n K B=> ?_,λb o e n K B=> ?_,I.base.free,λb o e B=> ?_,I.base.tups,I.base.frzs,I.base.tbls⟩,⟨m,hn.sameBut f (Ne.symm (S x c t)),λj y v' l F e3=> ?_⟩,λy c' e=> ?_,I.free,I.freeC,λp hp=> ?_,g ⟨oc,U,I.freeC x c t⟩ f,by simpa using I.len⟩ ⟨c,f,.inr t⟩
  ·exact(f.2 b (Qwq (Qqq (Qiq e) (I.ok.cab x c R t)))).trans (I.base.keep b o e n K B)
  ·obtain⟨sl,l⟩:=I.base.slot b o e n K B
   exact⟨sl,(f.2 b (Qwq (Qqq (Qiq e) (I.ok.cab x c R t)))).trans l⟩
  ·obtain⟨o',l⟩:=I.base.there b o e B
   exact⟨o',(f.2 b (Qwq (Qqq (Qiq e) (I.ok.cab x c R t)))).trans l⟩
  ·by_cases P:j=i
   ·subst P
    rw[hi] at l;cases l
    rw[Qyq J] at F
    cases F
    exact⟨u,r,.inr ⟨.inl G,c,t,a0⟩⟩
   ·rw[QKq (Ne.symm P)] at F
    obtain⟨u',r',q⟩:=hl j y v' l F e3
    refine⟨u',r',?_⟩
    rcases q with q|⟨k,c',e,z'⟩
    ·exact .inl q
    ·refine .inr ⟨k,c',e,z'.sameBut f ?_⟩
     rintro rfl
     exact P (xh hN l (I.ok.inj _ _ _ e t▸hi))
  ·by_cases W:c'=c
   ·subst W;exact⟨_,a0⟩
   ·obtain⟨w2,z2⟩:=I.cell y c' e
    exact⟨w2,z2.sameBut f W⟩
  ·obtain⟨e,n,ne,nf,d⟩:=I.pin p hp
   refine⟨(f.2 p.1 ?_).trans e,n,ne,nf,d⟩
   intro q
   rw[q,U] at e
   have q':oc=p.2:=QdQ e
   exact d w' (by rw[←q'];exact Z)
def jK{M:Model}{A:Around}{E:Value->Shared->Prop}{i:Nat}{x:Str}{v:V}{u:Value}{Q:Unit->Shared->Prop}(I:Inv X pins σ H s)(a:X.N.Nodup)(hi:X.N[i]?=some x)(b:Loc X.env.scope x)(r:RelV v u)
  (h:∀s',Inv X pins (σ.set i (some v)) H s'->Q () s') (c:X.fn x=true\/X.env.scope.names.lookup x=some .local:=by first|exact .inl rfl|exact .inr rfl|assumption):wpAny M A (storeName X.env x u) Q E s:=
 Cz I a hi b r (λs' d _=>h s' d) c
def Inv.call'{s':Shared}{ch:List Addr}(I:Inv X pins σ H s)(g:s'.os=s.os)(u:Un (DP X.stack) ch H H' s.heap s'.heap)(d:l9 X.prog X.w H' s'.heap)(h:AllBare s'.gens)
  (a:∀b∈ch,(b∈X.ex\/X.s₀.heap.objs.size<=b)/\b≠X.env.locals/\(∀x c,X.env.cells.lookup x=some c->c≠b)/\∀p∈X.pn++pins,p.1≠b):Inv X pins σ H' s':=by
 obtain⟨h',g',d',t',f⟩:=s'
 have e:f=s.os:=g
 subst e
 exact I.call (g':=g') (t':=t') (d':=d') u d h a
end
abbrev XK:=Value->Option Addr->Hp->Prop
abbrev St:=List (Option V)
abbrev VK:=V->Hp->Prop
abbrev TE:=St->Hp->VK->Prop
abbrev TT:=St->Hp->(Bool->Hp->Prop)->Prop
abbrev TA:=St->Hp->(List V->Hp->Prop)->Prop
structure Ends where
 nx:St->Hp->Prop
 rt:VK
 bk:St->Hp->Prop:=λ_ _=>False
 ct:St->Hp->Prop:=λ_ _=>False
abbrev TS:=Ends->St->Hp->Prop
def EP(X:Cx)(a:List (Addr×Obj))(c:St)(Q:VK)(u:Value)(s':Shared):Prop:=∃v b,Inv X a c b s'/\RelV v u/\Q v b
def TP(X:Cx)(a:List (Addr×Obj))(d:St)(Q:Bool->Hp->Prop)(b:Bool)(s':Shared):Prop:=∃c,Inv X a d c s'/\Q b c
def AP(X:Cx)(a:List (Addr×Obj))(d:St)(Q:List V->Hp->Prop)(e:List Value)(s':Shared):Prop:=∃b c,Inv X a d c s'/\bp b e/\Q b c
def SP(X:Cx)(b:List (Addr×Obj))(D:Ends)(f:Flow)(s':Shared):Prop:=
 match f with
 |.next=>∃a c,Inv X b a c s'/\D.nx a c
 |.brk=>∃a c,Inv X b a c s'/\D.bk a c
 |.cont=>∃a c,Inv X b a c s'/\D.ct a c
 |.ret u=>∃v a c,Inv X b a c s'/\RelV v u/\D.rt v c
def PE(X:Cx)(e:Expr)(t:TE):Prop:=
 ∀(a:List (Addr×Obj)) (s:Shared) (b:St) (H:Hp) (Q:VK),Inv X a b H s->t b H Q->wpAny (model X.prog X.w) X.A (eval e X.env) (EP X a b Q) X.xe s
def PT(X:Cx)(e:Expr)(t:TT):Prop:=
 ∀(a:List (Addr×Obj)) (s:Shared) (b:St) (H:Hp) (Q:Bool->Hp->Prop),Inv X a b H s->t b H Q->wpAny (model X.prog X.w) X.A (isTrue e X.env (eval e X.env)) (TP X a b Q) X.xe s
def PW(X:Cx)(e:Expr)(t:TT):Prop:=
 ∀(b:Sem Value) (a:List (Addr×Obj)) (s:Shared) (c:St) (H:Hp) (Q:Bool->Hp->Prop),Inv X a c H s->t c H Q->wpAny (model X.prog X.w) X.A (isTrue e X.env b) (TP X a c Q) X.xe s
def PW.pt{X:Cx}{e:Expr}{t:TT}(h:PW X e t):PT X e t:=h _
def PA(X:Cx)(es:List Expr)(t:TA):Prop:=
 ∀(c:Pos) (a:List (Addr×Obj)) (s:Shared) (b:St) (H:Hp) (Q:List V->Hp->Prop),Inv X a b H s->t b H Q->wpAny (model X.prog X.w) X.A (spliced (backTo c (starEach es X.env))) (AP X a b Q) X.xe s
def PS(X:Cx)(st:Stmt)(t:TS):Prop:=
 ∀(a:List (Addr×Obj)) (s:Shared) (b:St) (H:Hp) (D:Ends),Inv X a b H s->t D b H->wpAny (model X.prog X.w) X.A (exec st X.env) (SP X a D) X.xe s
def pH(X:Cx)(st:List Stmt)(t:TS):Prop:=
 ∀(a:List (Addr×Obj)) (s:Shared) (b:St) (H:Hp) (D:Ends),Inv X a b H s->t D b H->wpAny (model X.prog X.w) X.A (execs st X.env) (SP X a D) X.xe s
def bW{α:Type}{t:Sem α}{Q b:α->Shared->Prop}{M:Model}{A:Around}{E:Value->Shared->Prop}{s:Shared}(h:wpAny M A t Q E s)(c:∀a s,Q a s->b a s):wpAny M A t b E s:=QRq h c λ_ _ x=>x
section
variable{X:Cx}
def ID(i:Nat):TE:=λa H Q=>∃v,a[i]?=some (some v)/\Q v H
def tC(v:V):TE:=λ_ H Q=>Q v H
def DJ{i:Nat}{x:Str}{pos:Pos}(o:X.N[i]?=some x)(n:GB X.env.scope x)(hd:(x==("__debug__":Str))=false:=by decide)(g:(x==("__classdict__":Str))=false:=by decide):PE X (.Name x pos) (ID i):=by
 intro f s q H Q I h
 obtain⟨v,e,h⟩:=h
 obtain⟨m,p,hl⟩:=I.loc
 obtain⟨u,r,l⟩:=hl i x v o e n
 have b:EP X f q Q u s:=⟨v,H,I,r,h⟩
 rcases l with⟨d,k⟩|⟨d,c,j,a⟩
 ·exact wpAny_Name (wpAny_loadName_local I.ok.kind d p k b) hd
 ·rcases d with d|d
  ·exact wpAny_Name (wpAny_loadName_cell I.ok.kind d j a b) hd
  ·exact wpAny_Name (wpAny_loadName_free I.ok.kind d j a b g) hd
def JT{i j pos}:PE X (.Constant (.int i) j pos) (tC (.int i)):=λ_ _ _ H _ I h=>wpAny_Constant_int ⟨.int i,H,I.tok _,⟨_,rfl⟩,h⟩
def Lv{b j pos}:PE X (.Constant (.bool b) j pos) (tC (.bl b)):=λ_ _ _ H _ I h=>Constant_bool ⟨.bl b,H,I,rfl,h⟩
def Jw{j pos}:PE X (.Constant .none j pos) (tC .non):=λ_ _ _ H _ I h=>Constant_none ⟨.non,H,I,rfl,h⟩
def IK{x j pos}:PE X (.Constant (.str x) j pos) (tC (.str x)):=λ_ _ _ H _ I h=>Calls.Constant_str ⟨.str x,H,I.tok _,⟨_,rfl⟩,h⟩
def Gl(X:Cx)(x:Str):Prop:=X.env.kindOf x=some .globalImplicit
def vS{E:Value->Shared->Prop}{a:List (Addr×Obj)}{s:Shared}{b:St}{H:Hp}{x:Str}{u:Value}{pos:Pos}{Q:Value->Shared->Prop}(I:Inv X a b H s)(c:Gl X x)(d:X.mg x=some u)(h:Q u s)
  (hd:(x==("__debug__":Str))=false:=by decide):wpAny (model X.prog X.w) X.A (eval (.Name x pos) X.env) Q E s:=
 Calls.Name_function_global I.ok.kind c (Calls.loadGlobal_global (by rw[I.ok.glob];exact I.mod.glob.keeps I.bk) d h) hd
def i4{E:Value->Shared->Prop}{a:List (Addr×Obj)}{s:Shared}{g:St}{H:Hp}{x:Str}{u:Value}{pos:Pos}{Q:Value->Shared->Prop}(I:Inv X a g H s)(e:Gl X x)(c:X.mg x=none)(d:bootBuiltins x=some u)(h:Q u s)
  (f:x≠"__name__":=by decide) (hd:(x==("__debug__":Str))=false:=by decide):wpAny (model X.prog X.w) X.A (eval (.Name x pos) X.env) Q E s:=by
 obtain⟨j,i,b⟩:=I.mod.blt
 exact Calls.Name_function_global I.ok.kind e (Calls.loadGlobal_builtin (by rw[I.ok.glob];exact I.mod.glob.keeps I.bk) c (by rw[I.ok.blt];exact i.keeps I.bk) ((b x f).trans d) h) hd
def AM{x:Str}{v:V}{u:Value}{pos:Pos}(b:Gl X x)(a:X.mg x=some u)(r:RelV v u)(hd:(x==("__debug__":Str))=false:=by decide):PE X (.Name x pos) (tC v):=
 λ_ _ _ H _ I h=>vS I b a ⟨v,H,I,r,h⟩ hd
def G6{x:Str}{v:V}{u:Value}{pos:Pos}(d:Gl X x)(c:X.mg x=none)(b:bootBuiltins x=some u)(r:RelV v u)(a:x≠"__name__":=by decide)(hd:(x==("__debug__":Str))=false:=by decide):PE X (.Name x pos) (tC v):=
 λ_ _ _ H _ I h=>i4 I d c b ⟨v,H,I,r,h⟩ a hd
variable{a b:Expr}{ta tb:TE}{pos:Pos}
def PC(X:Cx)(g:CmpOp)(a b:Expr)(t:TE):Prop:=
 ∀ (c:List (Addr×Obj)) (s:Shared) (f:St) (H:Hp) (Q:VK),Inv X c f H s->t f H Q→
   wpAny (model X.prog X.w) X.A (eval a X.env) (λv d=>wpAny (model X.prog X.w) X.A (eval b X.env) (λu e=>wpAny (model X.prog X.w) X.A (compareOp g v u) (EP X c f Q) X.xe e) X.xe d) X.xe s
def tB(t:TE):TT:=λd H Q=>t d H λx H1=>∃c,x=.bl c/\Q c H1
def Jq{f:CmpOp}{t:TE}(h:PC X f a b t)(g:behindInMarks f b=false:=by first|exact nobehind _ (by decide) (by decide)|rfl):PT X (.Compare a [f] [b] pos) (tB t):=by
 intro e s n H Q I k
 refine wpAny_isTrue_Compare1 (bW (h e s n H _ I k) λv o g=>bW g λu p i=>bW i λc r ⟨x,H1,m,l,j⟩=> ?_) g
 obtain⟨d,rfl,q⟩:=j
 cases l
 exact wpAny_truthy_bool ⟨H1,m,q⟩
variable{tA tB':TT}{rest:List Expr}
def N3(t u:TT):TT:=λd H Q=>t d H λc H1=>if c=true then u d H1 Q else Q false H1
def Pb(t u:TT):TT:=λd H Q=>t d H λc H1=>if c=true then Q true H1 else u d H1 Q
def Nn(t:TT):TT:=λd H Q=>t d H λc H1=>Q (!c) H1
def FM(g:PT X a tA):PW X (.BoolOp .And [a] pos) tA:=by
 intro j d s f H Q I h
 refine isTrue_and (bW (g d s f H Q I h) λc i e=> ?_)
 cases c with
 |true=>exact isTrue_and_nil e
 |false=>exact e
def Iq(g:PT X a tA):PW X (.BoolOp .Or [a] pos) tA:=by
 intro j d s f H Q I h
 refine isTrue_or (bW (g d s f H Q I h) λc i e=> ?_)
 cases c with
 |false=>exact isTrue_or_nil e
 |true=>exact e
def Ks(m:PT X a tA)(l:PW X (.BoolOp .And (b::rest) pos) tB'):PW X (.BoolOp .And (a::b::rest) pos) (N3 tA tB'):=by
 intro k d s e H Q I h
 refine isTrue_and (bW (m d s e H _ I h) λc i j=> ?_)
 obtain⟨H1,g,f⟩:=j
 cases c with
 |true=>exact l k d i e H1 Q g f
 |false=>exact⟨H1,g,f⟩
def Lg(m:PT X a tA)(l:PW X (.BoolOp .Or (b::rest) pos) tB'):PW X (.BoolOp .Or (a::b::rest) pos) (Pb tA tB'):=by
 intro k d s e H Q I h
 refine isTrue_or (bW (m d s e H _ I h) λc i j=> ?_)
 obtain⟨H1,g,f⟩:=j
 cases c with
 |true=>exact⟨H1,g,f⟩
 |false=>exact l k d i e H1 Q g f
def JX(f:PT X a tA):PT X (.UnaryOp .Not a pos) (Nn tA):=by
 intro d s e H Q I h
 exact isTrue_not (f d s e H (λc H1=>Q (!c) H1) I h)
def Ly(ta tb:TE):TE:=λd H Q=>ta d H λx H1=>∃c,x=.bl c/\if c=true then tb d H1 Q else Q (.bl false) H1
def K7(ta:TE):TE:=λd H Q=>ta d H λx H1=>∃c,x=.bl c/\Q (.bl (!c)) H1
def JJ{op}{t:TE}(h:PE X a t):PE X (.BoolOp op [a] pos) t:=λc s e H Q I d=>BoolOp_one (h c s e H Q I d)
def Jo(m:PE X a ta)(j:PE X (.BoolOp .And (b::rest) pos) tb):PE X (.BoolOp .And (a::b::rest) pos) (Ly ta tb):=by
 intro d s g H Q I h
 refine BoolOp_and (bW (m d s g H _ I h) λv l i=> ?_)
 obtain⟨x,H1,f,k,e⟩:=i
 obtain⟨c,rfl,e⟩:=e
 cases k
 refine wpAny_truthy_bool ?_
 cases c with
 |true=>exact j d l g H1 Q f e
 |false=>exact⟨.bl false,H1,f,rfl,e⟩
def Kg(k:PE X a ta):PE X (.UnaryOp .Not a pos) (K7 ta):=by
 intro d s g H Q I h
 refine UnaryOp_ (bW (k d s g H _ I h) λv l f=> ?_)
 obtain⟨x,H1,j,i,e⟩:=f
 obtain⟨c,rfl,e⟩:=e
 cases i
 exact not_of (wpAny_truthy_bool ⟨.bl (!c),H1,j,rfl,e⟩)
def Pe(t:TT)(ta tb:TE):TE:=λd H Q=>t d H λc H1=>if c=true then ta d H1 Q else tb d H1 Q
def Fy{c:Expr}(l:PT X c tA)(n:PE X a ta)(m:PE X b tb):PE X (.IfExp c a b pos) (Pe tA ta tb):=by
 intro e s f H Q I h
 refine wpAny_IfExp (bW (l e s f H _ I h) λd g k=> ?_)
 obtain⟨H1,j,i⟩:=k
 cases d with
 |true=>exact n e g f H1 Q j i
 |false=>exact m e g f H1 Q j i
end
def jC(K:PySem.W.Frag)(H:Hp)(a:Addr)(xs:List V):Prop:=
 Rd H a (.lst xs)∨
  ∃(o:Obj) (b:Array Value) (n:Nat),K.lookup a=some o/\o.cls=.type "list" /\o.dict=none/\o.data=.seq b n/\b.size<=sizeLine/\bp xs b.toList
def gr(K:PySem.W.Frag)(H:Hp)(a:Addr)(xs:List V):Prop:=
 Rd H a (.tup xs)∨
  ∃(o:Obj) (b:Array Value) (n:Nat),K.lookup a=some o/\o.cls=.type "tuple" /\o.data=.seq b n/\b.size<=sizeLine/\bp xs b.toList
def NK:Value->Option V
 |.none=>some .non
 |.bool b=>some (.bl b)
 |.int i _=>some (.int i)
 |.str x _=>some (.str x)
 |.bytes b _=>some (.byt b)
 |.float b _=>some (.flt b)
 |.ref a=>some (.ref a)
 |.type n=>some (.ty n)
 |_=>none
def RelV.abs{x:V}{u:Value}(r:RelV x u):NK u=some x:=by
 cases x with
 |non=>cases r;rfl
 |bl _=>cases r;rfl
 |int _=>obtain⟨t,rfl⟩:=r;rfl
 |str _=>obtain⟨t,rfl⟩:=r;rfl
 |byt _=>obtain⟨t,rfl⟩:=r;rfl
 |flt _=>obtain⟨t,rfl⟩:=r;rfl
 |ref _=>cases r;rfl
 |ty _=>cases r;rfl
def RelV.inj{x y:V}{u:Value}(r:RelV x u)(q:RelV y u):x=y:=QdQ (r.abs.symm.trans q.abs)
theorem bp.inj:∀{xs ys:List V} {a:List Value},bp xs a->bp ys a->xs=ys
 |_,_,_,.nil,.nil=>rfl
 |_,_,_,.cons r t,.cons r' t'=>by rw[r.inj r',bp.inj t t']
section
variable{X:Cx}{pins:List (Addr×Obj)}{σ:St}{H:Hp}{s:Shared}{a:Addr}{xs ys:List V}
def jC.of{K:PySem.W.Frag}(h:H a=some (.lst xs)):jC K H a xs:=.inl (.inl h)
def gr.of{K:PySem.W.Frag}(h:H a=some (.tup xs)):gr K H a xs:=.inl (.inl h)
def Inv.list(I:Inv X pins σ H s)(h:jC X.K H a xs):∃b:List Value,bp xs b/\PlainL s.heap a b.toArray/\xs.length<=sizeLine:=by
 rcases h with h|⟨o,b,n,f,g,c,d,i,r⟩
 ·obtain⟨z,b,n,r,e⟩:=h.ok I.hok
  exact⟨b,r,⟨_,n,e,rfl,rfl,rfl⟩,z⟩
 ·refine⟨b.toList,r,⟨o,n,I.kIn a o f,g,c,by simpa using d⟩,?_⟩
  have e:=r.length
  simp only[Array.length_toList] at e
  omega
def Inv.tuple(I:Inv X pins σ H s)(h:gr X.K H a xs):∃b:List Value,bp xs b/\IsTup s.heap a b.toArray/\xs.length<=sizeLine:=by
 rcases h with h|⟨o,b,n,d,f,c,g,r⟩
 ·obtain⟨z,b,r,p⟩:=h.ok I.hok
  exact⟨b,r,p.it,z⟩
 ·refine⟨b.toList,r,⟨o,I.kIn a o d,f,n,by simpa using c⟩,?_⟩
  have e:=r.length
  simp only[Array.length_toList] at e
  omega
def Inv.list_inj(I:Inv X pins σ H s)(h:jC X.K H a xs)(h':jC X.K H a ys):xs=ys:=by
 obtain⟨c,r,⟨o,n,e,_,_,d⟩,_⟩:=I.list h
 obtain⟨b,j,⟨k,l,g,_,_,f⟩,_⟩:=I.list h'
 rw[e] at g;cases g
 rw[d] at f
 injection f with i _
 have:c=b:=by simpa using congrArg Array.toList i
 subst this
 exact r.inj j
def Inv.tuple_inj(I:Inv X pins σ H s)(h:gr X.K H a xs)(h':gr X.K H a ys):xs=ys:=by
 obtain⟨c,r,⟨o,e,_,n,d⟩,_⟩:=I.tuple h
 obtain⟨b,j,⟨k,g,_,l,f⟩,_⟩:=I.tuple h'
 rw[e] at g;cases g
 rw[d] at f
 injection f with i _
 have:c=b:=by simpa using congrArg Array.toList i
 subst this
 exact r.inj j
end
abbrev Cx.wish(X:Cx)(E:Value->Shared->Prop):Cx:={X with xe:=E}
abbrev Cx.nox(X:Cx):Cx:=X.wish λ_ _=>False
def Cx.Ok.wish{X:Cx}(ok:X.Ok)(E:Value->Shared->Prop):(X.wish E).Ok:=
 ⟨ok.mod,ok.kind,ok.glob,ok.blt,ok.above,ok.inj,ok.has,ok.cab,ok.hd,ok.frames,ok.stk,ok.exf,ok.bs,ok.bsz,ok.noex,ok.exfs,ok.funs,ok.frf⟩
def Cx.Ok.unwish{X:Cx}{E:Value->Shared->Prop}(ok:(X.wish E).Ok):X.Ok:=
 ⟨ok.mod,ok.kind,ok.glob,ok.blt,ok.above,ok.inj,ok.has,ok.cab,ok.hd,ok.frames,ok.stk,ok.exf,ok.bs,ok.bsz,ok.noex,ok.exfs,ok.funs,ok.frf⟩
section
variable{X:Cx}{pins:List (Addr×Obj)}{σ:St}{H:Hp}{s:Shared}{E:Value->Shared->Prop}
def Inv.wish(I:Inv X pins σ H s)(E:Value->Shared->Prop):Inv (X.wish E) pins σ H s:=⟨I.ok.wish E,I.os,I.bare,I.base,I.loc,I.cell,I.free,I.freeC,I.pin,I.hok,I.len⟩
def Inv.unwish(I:Inv (X.wish E) pins σ H s):Inv X pins σ H s:=⟨I.ok.unwish,I.os,I.bare,I.base,I.loc,I.cell,I.free,I.freeC,I.pin,I.hok,I.len⟩
theorem SP.unwish{D:Ends}{f:Flow}{s':Shared}(h:SP (X.wish E) pins D f s'):SP X pins D f s':=by
 cases f with
 |next=>obtain⟨a,b,I,q⟩:=h;exact⟨a,b,I.unwish,q⟩
 |brk=>obtain⟨a,b,I,q⟩:=h;exact⟨a,b,I.unwish,q⟩
 |cont=>obtain⟨a,b,I,q⟩:=h;exact⟨a,b,I.unwish,q⟩
 |ret u=>obtain⟨v,a,b,I,r,q⟩:=h;exact⟨v,a,b,I.unwish,r,q⟩
def pH.nox{st:List Stmt}{t:TS}(h:pH X.nox st t):pH X st t:=λpins s σ H D I a=>
 QRq (h pins s σ H D (I.wish _) a) (λ_ _ q=>q.unwish) λ_ _ z=>False.elim z
end
section
variable{X:Cx}{st:Stmt}{rest:List Stmt}{t u:TS}{e:Expr}{te:TE}{pos:Pos}
def Mj:TS:=λD a H=>D.nx a H
def Nm(t u:TS):TS:=λD a H=>t {D with nx:=u D} a H
def G3:pH X [] Mj:=λ_ _ a H _ I h=>wpAny_execs_nil ⟨a,H,I,h⟩
def ET(i:PS X st t)(c:pH X rest u):pH X (st::rest) (Nm t u):=by
 intro a s g H D I h
 refine wpAny_execs_cons (bW (i a s g H {D with nx:=u D} I h) λf d q=> ?_)
 cases f with
 | next=>
   obtain⟨b,j,k,q⟩:=q
   exact c a d b j D k q
 |ret v=>exact q
 |brk=>exact q
 |cont=>exact q
def Hv(c:PS X st t):pH X [st] t:=by
 intro a s b H D I h
 refine wpAny_execs_cons (bW (c a s b H D I h) λf d q=> ?_)
 cases f with
 |next=>exact wpAny_execs_nil q
 |ret v=>exact q
 |brk=>exact q
 |cont=>exact q
def Inv.quiet{a:List (Addr×Obj)}{b:St}{H:Hp}{s:Shared}(I:Inv X a b H s):interactive X.env=false:=by simp[interactive,I.ok.kind]
def KW(te:TE):TS:=λD a H=>te a H λ_ H1=>D.nx a H1
def G5(he:PE X e te)(c:swapsWith e none pos.line X.env=pure false:=by rfl):PS X (.Expr e pos) (KW te):=by
 intro a s b H D I h
 exact wpAny_Expr_any (bW (he a s b H _ I h) λv g ⟨x,H1,f,i,d⟩=>⟨b,H1,f,d⟩) I.quiet c
def MZ(te:TE):TS:=λD a H=>te a H D.rt
def EK(he:PE X e te):PS X (.Return (some e) pos) (MZ te):=by
 intro a s b H D I h
 exact wpAny_Return_some (bW (he a s b H _ I h) λv g ⟨x,H1,f,c,d⟩=>⟨x,b,H1,f,c,d⟩)
def NJ(c:TT)(t u:TS):TS:=λD a H=>c a H λb H1=>if b=true then t D a H1 else u D a H1
def Mf{c:Expr}{a b:List Stmt}{i:TT}(o:PT X c i)(p:pH X a t)(n:pH X b u):PS X (.If c a b pos) (NJ i t u):=by
 intro f s g H D I h
 refine wpAny_If (bW (o f s g H _ I h) λd l m=> ?_)
 obtain⟨H1,k,j⟩:=m
 cases d with
 |true=>exact p f l g H1 D k j
 |false=>exact n f l g H1 D k j
def IB:TS:=λ_ _ _=>False
def D6:PS X st IB:=λ_ _ _ _ _ _ h=>h.elim
end
abbrev TG:=V->St->Hp->(St->Hp->Prop)->Prop
abbrev F6:=List V->St->Hp->(St->Hp->Prop)->Prop
def PG(X:Cx)(a:Expr)(t:TG):Prop:=
 ∀ (b:List (Addr×Obj)) (s:Shared) (d:St) (H:Hp) (v:V) (u:Value) (Q:St->Hp->Prop),Inv X b d H s->RelV v u->t v d H Q→
   wpAny (model X.prog X.w) X.A (assign a X.env u) (λ_ f=>∃c e,Inv X b c e f/\Q c e) X.xe s
def FG(X:Cx)(ts:List Expr)(t:F6):Prop:=
 ∀ (a:List (Addr×Obj)) (s:Shared) (c:St) (H:Hp) (e:List V) (d:List Value) (Q:St->Hp->Prop),Inv X a c H s->bp e d->t e c H Q→
   wpAny (model X.prog X.w) X.A (assignInOrder ((assignEach ts X.env).map (·.2)) d) (λ_ g=>∃b f,Inv X a b f g/\Q b f) X.xe s
abbrev J7:=V->V->V->Hp->(Hp->Prop)->Prop
def Mb(X:Cx)(t:J7):Prop:=
 ∀ (a:List (Addr×Obj)) (s:Shared) (c:St) (H:Hp) (o i v:V) (b e u:Value) (Q:Hp->Prop),Inv X a c H s->RelV o b->RelV i e->RelV v u->t o i v H Q→
   wpAny (model X.prog X.w) X.A (setItem b e u) (λ_ f=>∃d,Inv X a c d f/\Q d) X.xe s
abbrev MK:=V->V->Hp->VK->Prop
def OO(X:Cx)(c:Operator)(t:MK):Prop:=
 ∀ (a:List (Addr×Obj)) (s:Shared) (b:St) (H:Hp) (x y:V) (v u:Value) (Q:VK),Inv X a b H s->RelV x v->RelV y u->t x y H Q→
   wpAny (model X.prog X.w) X.A (inplaceOp c v u) (EP X a b Q) X.xe s
section
variable{X:Cx}{pos:Pos}
def my(i:Nat):TG:=λv a H Q=>Q (a.set i (some v)) H
def we{i:Nat}{x:Str}(b:X.N.Nodup)(hi:X.N[i]?=some x)(c:Loc X.env.scope x)(d:X.fn x=true\/X.env.scope.names.lookup x=some .local:=by first|exact .inl rfl|exact .inr rfl|assumption):PG X (.Name x pos) (my i):=by
 intro a s f H v u Q I r h
 exact wpAny_assign_Name (jK I b hi c r (λg e=>⟨_,H,e,h⟩) d)
def Ni:F6:=λb a H Q=>b= []/\Q a H
def K9(t:TG)(u:F6):F6:=λd b H Q=>∃v r,d=v::r/\t v b H λa c=>u r a c Q
def HB:FG X [] Ni:=by
 intro a s b H d c Q I r h
 obtain⟨e,h⟩:=h
 subst e
 cases r
 exact assignInOrder_nil ⟨b,H,I,h⟩
def Fp{e:Expr}{es:List Expr}{t:TG}{u:F6}(m:PG X e t)(c:FG X es u)
  (g:(assignEach (e::es) X.env).map (·.2)=assign e X.env::(assignEach es X.env).map (·.2):=by rfl):FG X (e::es) (K9 t u):=by
 intro a s l H p q Q I r h
 obtain⟨v,o,i,h⟩:=h
 subst i
 cases r with
 | cons r n=>
   rw[g]
   refine assignInOrder_cons (bW (m a s l H _ _ _ I r h) λ_ k d=> ?_)
   obtain⟨b,H1,j,f⟩:=d
   exact c a k b H1 _ _ Q j n f
def Nh(K:PySem.W.Frag)(n:Nat)(t:F6):TG:=λv c H Q=>∃a b,v=.ref a/\gr K H a b/\b.length=n/\t b c H Q
def Kd{es:List Expr}{k:Nat}{t:F6}{n:Nat}(l:X.calm=true)(h:FG X es t)
  (x:(assignEach es X.env).length=n:=by rfl) (f:(assignEach es X.env).findIdx? (·.1)=none:=by rfl):PG X (.Tuple es k pos) (Nh X.K n t):=by
 intro c s i H v u Q I r d
 obtain⟨a,j,p,y,hl,d⟩:=d
 subst p
 cases r
 obtain⟨w,g,A,B⟩:=I.tuple y
 refine assign_Tuple_tuple (I.ok.hd l) A (by simp[x,←hl,g.length]) f λz m=> ?_
 have q:Inv X c i H {s with heap:=z}:=I.kept (t':=s.toks) λb o e=>m b o (Qwq (Qiq e)) e
 exact h c _ i H j _ Q q (by simpa using g) d
def Lc(c b:TE)(t:J7):TG:=λv a H Q=>c a H λo H1=>b a H1 λi H2=>t o i v H2 λH3=>Q a H3
def Jn{o i:Expr}{f g:TE}{t:J7}(B:PE X o f)(hi:PE X i g)(k:Mb X t)
  (F:∀v,assign (.Subscript o i pos) X.env v=(do
   let b←holding [v] (eval o X.env)
   let d←holding [v,b] (eval i X.env)
   standAt pos
   holding [v,b,d] (setItem b d v)
   release [v,b,d] []):=by intro _;rfl):PG X (.Subscript o i pos) (Lc f g t):=by
 intro a s e H v u Q I r h
 rw[F]
 refine Qaq (QLq (bW (B a s e H _ I h) λb p c=> ?_))
 obtain⟨x,H1,n,m,j⟩:=c
 refine Qaq (QLq (bW (hi a p e H1 _ n j) λd A c=> ?_))
 obtain⟨y,H2,l,q,C⟩:=c
 refine Qaq (wpAny_standAt (Qaq (QLq (bW (k a A e H2 x y v b d u _ l m q r C) λ_ G c=> ?_))))
 obtain⟨H3,z,w⟩:=c
 exact wpAny_release ⟨e,H3,z,w⟩
def CF(b:TE)(g:TG):TS:=λD a H=>b a H λx H1=>g x a H1 D.nx
def Ki{b e:Expr}{c:TE}{g:TG}(he:PE X e c)(n:PG X b g)(i:swapsWithSole [b] e pos.line X.env=pure false:=by rfl)(j:swappedStores [b] e X.env=pure none:=by rfl)
  (o:(assignEach [b] X.env).map (·.2)= [assign b X.env]:=by rfl):PS X (.Assign [b] e pos) (CF c g):=by
 intro a s d H D I h
 refine wpAny_Assign_stores (bW (he a s d H _ I h) λv m ⟨x,H1,l,k,f⟩=> ?_) i j
 rw[o]
 exact bW (n a m d H1 x v _ l k f) λ_ p q=>q
def JM{i:Nat}{x:Str}{e:Expr}{c:TE}{a:Pos}(m:X.N.Nodup)(hi:X.N[i]?=some x)(j:Loc X.env.scope x)(he:PE X e c)(f:swapsWith e (some (.Name x a)) pos.line X.env=pure false:=by rfl)(o:X.fn x=true\/X.env.scope.names.lookup x=some .local:=by first|exact .inl rfl|exact .inr rfl|assumption):
  PS X (.Assign [.Name x a] e pos) (CF c (my i)):=by
 intro b s n H D I h
 refine wpAny_Assign_Name (bW (he b s n H _ I h) λv p ⟨y,H1,l,k,d⟩=> ?_) f
 exact jK l m hi j k (λq g=>⟨_,H1,g,d⟩) o
def LP(i j:Nat)(b:TA):TS:=λD a H=>b a H λc H1=>∃v w,c= [v,w]/\D.nx ((a.set i (some v)).set j (some w)) H1
def EV{i j:Nat}{x y:Str}{a b:Expr}{C:TA}{n t l:Pos}{kt k2 pt2}(K:X.calm=true)(B:X.N.Nodup)(hi:X.N[i]?=some x)(hj:X.N[j]?=some y)(m:i≠j)
  (z:X.env.scope.names.lookup x=some .local) (G:X.env.scope.names.lookup y=some .local) (ha:PA X [a,b] C)
  (Q:swappedStores [.Tuple [.Name x n,.Name y t] kt l] (.Tuple [a,b] k2 pt2) X.env=pure (some [x,y]))
  (M:swapsWithSole [.Tuple [.Name x n,.Name y t] kt l] (.Tuple [a,b] k2 pt2) pos.line X.env=pure false:=by rfl):
  PS X (.Assign [.Tuple [.Name x n,.Name y t] kt l] (.Tuple [a,b] k2 pt2) pos) (LP i j C):=by
 intro c s F H D I h
 rw[exec_Assign_arm]
 refine Qaq (wpAny_standAt ?_)
 rw[M]
 refine Qaq (Qgq ?_)
 rw[Quq (by decide)]
 refine Qaq (Tuple_ (bW (ha _ c s F H _ I h) λus f J=> ?_))
 obtain⟨vs,H1,Y,U,k⟩:=J
 obtain⟨v,w,S,k⟩:=k
 subst S
 obtain⟨d,g,rfl,rv,rw'⟩:∃d g,us= [d,g]/\RelV v d/\RelV w g:=by
  cases U with
  | cons p q=>
    cases q with
    | cons W R=>
      cases R
      exact⟨_,_,rfl,p,W⟩
 refine QhQ ?_ (by show 2<=_;decide)
 have P:Inv X c F H1 {f with heap:=f.heap.push {cls:=.type "tuple",data:=.seq [d,g].toArray}}:=Y.kept (t':=f.toks) λb o e=>Qcq _ e
 rw[Q]
 refine Qaq (Qgq ?_)
 show wpAny (model X.prog X.w) X.A (do rule "assign.swapped-stores";let items←unpackItems (.ref f.heap.objs.size) 2 none;assignInOrder [λv=>bindName X.env y v,λv=>bindName X.env x v] items.reverse;pure Flow.next) _ _ _
 refine Qaq (wpAny_rule (Qaq (unpackItems_tuple (items:= #[d,g]) (I.ok.hd K) (IsTup.new f.heap _) λh' r=> ?_)))
 have Z:=P.kept (h':=h') (t':=f.toks) λb o e=>r b o (Qwq (Qiq e)) e
 show wpAny _ _ (assignInOrder [λv=>bindName X.env y v,λv=>bindName X.env x v] [g,d] >>= λ_=>pure Flow.next) _ _ _
 refine Qaq (assignInOrder_cons (wpAny_bindName (jK Z B hj (.inl G) rw' (λs2 I4=> ?_) (.inr G))))
 refine assignInOrder_cons (wpAny_bindName (jK I4 B hi (.inl z) rv (λs3 u=>assignInOrder_nil (Qgq ?_)) (.inr z)))
 rw[List.set_comm _ _ (Ne.symm m)] at u
 exact⟨_,H1,u,k⟩
def NH(i:Nat)(b:TE)(c:MK):TS:=λD a H=>∃x,a[i]?=some (some x)/\b a H λy H1=>c x y H1 λz H2=>D.nx (a.set i (some z)) H2
def Iy{i:Nat}{x:Str}{e:Expr}{C:TE}{o:Operator}{t:MK}{f:Pos}(Y:X.N.Nodup)(hi:X.N[i]?=some x)(p:Loc X.env.scope x)(he:PE X e C)(ho:OO X o t)(hf:X.fn x=true\/X.env.scope.names.lookup x=some .local:=by first|exact .inl rfl|exact .inr rfl|assumption):
  PS X (.AugAssign (.Name x f) o e pos) (NH i C t):=by
 intro a s F H D I h
 obtain⟨v,P,h⟩:=h
 obtain⟨m,Z,hl⟩:=I.loc
 have q:GB X.env.scope x:=by rcases p with k|k;exact .inl k;exact .inr (.inl k)
 obtain⟨u,r,l⟩:=hl i x v hi P q
 refine wpAny_AugAssign_Name ?_
 have B:wpAny (model X.prog X.w) X.A (eval e X.env) (λw j=>wpAny (model X.prog X.w) X.A (inplaceOp o u w) (λr g=>wpAny (model X.prog X.w) X.A (storeName X.env x r) (λ_=>SP X a D .next) X.xe g) X.xe j) X.xe s:=by
  refine bW (he a s F H _ I h) λw S n=> ?_
  obtain⟨y,H1,R,Q,J⟩:=n
  refine bW (ho a S F H1 v y u w _ R r Q J) λz s2 n=> ?_
  obtain⟨zv,H2,M,U,q2⟩:=n
  exact jK M Y hi p U (λs3 W=>⟨_,H2,W,q2⟩) hf
 rcases l with⟨b,G⟩|⟨b,c,K,d⟩
 ·exact wpAny_loadName_local I.ok.kind b Z G B
 ·rcases b with b|b
  ·exact wpAny_loadName_cell I.ok.kind b K d B
  ·rcases p with k|k
   ·have:X.env.scope.names.lookup x=some .free:=b
    rw[k] at this;cases this
   ·have:X.env.scope.names.lookup x=some .free:=b
    rw[k] at this;cases this
def OX(f:Int->Int->Int):MK:=λx y H Q=>∃i j,x=.int i/\y=.int j/\Q (.int (f i j)) H
def Ka:OO X .Add (OX λi j=>i+j):=by
 intro a s g H x y v u Q I d e h
 obtain⟨i,j,c,b,q⟩:=h
 subst c;subst b
 obtain⟨t,rfl⟩:=d
 obtain⟨f,rfl⟩:=e
 exact iadd_int ⟨.int _,H,I.tok _,⟨_,rfl⟩,q⟩
end
section
variable{X:Cx}{pos:Pos}
def IZ(c:TT)(g:TS):TS:=λD a H=>∃W:Nat->St->Hp->Prop,(∃m,W m a H)/\∀m a H,W m a H→
 c a H λb H1=>if b=true then∃N:St->Hp->Prop,(∀d f,N d f->∃e,e<m/\W e d f)/\g {D with nx:=N,ct:=N,bk:=D.nx} a H1 else D.nx a H1
def Fe{c:Expr}{g:List Stmt}{t:TT}{z:TS}(u:PassesOwn (model X.prog X.w) X.A X.env X.xe)(J:PT X c t)(G:pH X g z):PS X (.While c g [] pos) (IZ t z):=by
 intro d s S H D I h
 obtain⟨W,⟨F,U⟩,j⟩:=h
 refine wpAny_While (codeAny_whileLoop (λn Q=>∃i x,Inv X d i x Q/\W n i x) ?_ F ⟨S,H,I,U⟩)
 rintro n P ⟨e,H1,M,K⟩
 refine wpAny_passesOwn u (bW (J d P e H1 _ M (j n e H1 K)) λb R C=> ?_)
 obtain⟨H2,y,k⟩:=C
 cases b with
 | true=>
   obtain⟨N,B,k⟩:=k
   rw[Qhq rfl]
   refine wpAny_passesOwn u (bW (G d R e H2 _ y k) λf Y l=> ?_)
   cases f with
   | next=>
     obtain⟨a,H3,o,r⟩:=l
     obtain⟨p,m,q⟩:=B a H3 r
     exact⟨p,m,a,H3,o,q⟩
   | cont=>
     obtain⟨a,H3,o,r⟩:=l
     obtain⟨p,m,q⟩:=B a H3 r
     exact⟨p,m,a,H3,o,q⟩
   |brk=>exact l
   |ret v=>exact l
 | false=>
   rw[Quq Qtq]
   exact wpAny_execs_nil ⟨e,H2,y,k⟩
end
structure It where
 go:Nat->Hp->Prop
 yld:Nat->Hp->V->Hp->Prop
 stop:Nat->Hp->Prop
def ou(X:Cx)(a:List (Addr×Obj))(H:Hp)(b:Addr):Prop:=
 H b=none/\b≠X.env.locals/\b∉X.fs/\(b∈X.ex\/X.s₀.heap.objs.size<=b)/\(∀x c,X.env.cells.lookup x=some c->c≠b)/\∀p∈X.pn++a,p.1≠b
def Inv.fpOk{X:Cx}{a:List (Addr×Obj)}{h:St}{H f:Hp}{s:Shared}{b:Addr}(I:Inv X a h H s)(d:s.heap.objs.size<=b)(g:f b=none):ou X a f b:=by
 refine⟨g,Nat.ne_of_gt (Qqq I.lt d),I.nofs d,.inr (QAq I.sz d),λx c e z=> ?_,λp i z=> ?_⟩
 ·obtain⟨v,q⟩:=I.cell x c e
  exact absurd (Qqq q.lt (by rw[z];exact d)) (Nat.lt_irrefl _)
 ·exact absurd (Qqq (Qiq (I.pin p i).1) (by rw[z];exact d)) (Nat.lt_irrefl _)
structure Turn(P:Program)(w:World)(K:PySem.W.Frag)(tg:Expr)(J:It)(fp:List Addr)(it:Addr)(tn:Nat->Heap->Prop):Prop where
 mem:it∈fp
 obj:∀i h,tn i h->∀b∈fp,∃o,h.get? b=some o/\∀v,o.data≠.cell v
 keep:∀i h h',tn i h->(∀b∈fp,∀o,h.get? b=some o->h'.get? b=some o)->tn i h'
 item:∀(X:Cx),X.prog=P->X.w=w->X.K=K->X.calm=true->∀(i:Nat) (pins:List (Addr×Obj)) (s:Shared) (σ:St) (H:Hp) (E:Value->Shared->Prop),Inv X pins σ H s->(∀b∈fp,ou X pins H b)->tn i s.heap->J.go i H→
  wpAny (model P w) X.A (pyNext (.ref it)) (λr s1=>∃u,r=some u∧
   wpAny (model P w) X.A (letOwnedTupleGo tg (.ref it) u) (λ_ s2=>∃x H',Inv X pins σ H' s2/\RelV x u/\J.yld i H x H'/\tn (i+1) s2.heap/\∀b∈fp,H' b=none) E s1) E s
 done:∀(X:Cx),X.prog=P->X.w=w->X.K=K->X.calm=true->∀(i:Nat) (pins:List (Addr×Obj)) (s:Shared) (σ:St) (H:Hp) (E:Value->Shared->Prop),Inv X pins σ H s->(∀b∈fp,ou X pins H b)->tn i s.heap->J.stop i H→
  wpAny (model P w) X.A (pyNext (.ref it)) (λr s1=>r=none/\Inv X pins σ H s1) E s
 self:∀(A:Around) (i:Nat) (s:Shared) (Q:Value->Shared->Prop) (E:Value->Shared->Prop),tn i s.heap->Q (.ref it) s->wpAny (model P w) A (pyIter (.ref it)) Q E s
abbrev TI:=St->Hp->(It->Hp->Prop)->Prop
def OJ(X:Cx)(a:List (Addr×Obj))(i:St)(j:Expr)(R:It->Hp->Prop)(c:Value)(g:Shared):Prop:=
 ∃(h:Addr) (e:List Addr) (f:Nat->Heap->Prop) (J:It) (d:Hp),c=.ref h/\Inv X a i d g/\Turn X.prog X.w X.K j J e h f/\f 0 g.heap/\(∀b∈e,ou X a d b)/\R J d
def PI(X:Cx)(e b:Expr)(f:TI):Prop:=
 ∀ (a:List (Addr×Obj)) (s:Shared) (c:St) (H:Hp) (R:It->Hp->Prop),Inv X a c H s->f c H R→
   wpAny (model X.prog X.w) X.A (eval b X.env) (λv d=>wpAny (model X.prog X.w) X.A (pyIter v) (OJ X a c e R) X.xe d) X.xe s
def Ej{M:Model}{A:Around}{E:Value->Shared->Prop}{s:Shared}{b:Expr}{it:Addr}{u:Value}{o:Obj}{n:String}{vs:Array Value}{Q:Unit->Shared->Prop}(d:s.heap.get? it=some o)(e:o.cls=.type n)(hd:o.data=.fields vs)
    (c: ["enumerate","zip","dict_itemiterator","dict_reverseitemiterator","odict_iterator","itertools.zip_longest","itertools.pairwise"].contains n=false) (a:Q () s):wpAny M A (letOwnedTupleGo b (.ref it) u) Q E s:=by
  unfold letOwnedTupleGo
  cases b <;>first
    |exact Qgq a
    |(cases u <;>first
        |exact Qgq a
        |(refine Qaq (wpAny_load d ?_)
          rw[e,hd]
          show wpAny M A (if (["enumerate","zip","dict_itemiterator","dict_reverseitemiterator","odict_iterator","itertools.zip_longest","itertools.pairwise"].contains n&&vs[0]? ==some (rawInt _))=true then _ else _) Q E s
          rw[Quq (by intro h;rw[c,Bool.false_and] at h;cases h)]
          exact Qgq a))
def Ow(K:PySem.W.Frag)(a:Addr):It:=
 ⟨λi H=>∃b x,jC K H a b/\b[i]?=some x,λi H x c=>c=H/\∀b,jC K H a b->b[i]?=some x,λi H=>∃b,jC K H a b/\b.length<=i⟩
def Oq(K:PySem.W.Frag)(a:Addr):It:=
 ⟨λi H=>∃b x,gr K H a b/\b[i]?=some x,λi H x c=>c=H/\∀b,gr K H a b->b[i]?=some x,λi H=>∃b,gr K H a b/\b.length<=i⟩
def MP(lo:Int)(n:Nat):It:=⟨λi _=>i<n,λi H x a=>a=H/\x=.int (lo+i),λi _=>n<=i⟩
def BR{P:Program}{w:World}{K:PySem.W.Frag}{tg:Expr}(a it:Addr):Turn P w K tg (Ow K a) [it] it (λi h=>h.IsListIter it a i) where
 mem:=by simp
 obj:=λi h f b j=>by
  have e:b=it:=by simpa using j
  subst e
  obtain⟨o,e,c,d⟩:=f
  exact⟨o,e,λv z=>by rw[d] at z;cases z⟩
 keep:=λi h q f k=>f.at λo e=>k it (by simp) o e
 item:=by
  intro X B C t R i g s S H E I n f J
  subst B C t
  obtain⟨Y,x,m,A⟩:=J
  obtain⟨G,N,p,hz⟩:=I.list m
  obtain⟨u,U,ru⟩:=N.get A
  obtain⟨r,y,f2,F,M,Q⟩:=n it (by simp)
  refine wpAny_pyNext_list_item f p.isList (x:=u) (by simpa using U) λq l Z=> ?_
  have I1:Inv X g S H {s with heap:=q}:=I.turned (t':=s.toks) (λb o j e=>(Z.2 b j).trans e) r y F M Q
  obtain⟨o,e,c,d⟩:=id l
  exact⟨u,rfl,Ej (s:={s with heap:=q}) e c d (by decide) ⟨x,H,I1,ru,⟨rfl,λys hy=>by rw[I.list_inj hy m];exact A⟩,l,λb j=>(n b j).1⟩⟩
 done:=by
  intro X B C t R i g s S H E I n f J
  subst B C t
  obtain⟨Y,m,A⟩:=J
  obtain⟨G,N,p,hz⟩:=I.list m
  obtain⟨r,y,f2,F,M,Q⟩:=n it (by simp)
  have hl:=N.length
  exact wpAny_pyNext_list_end (I.ok.hd R) f p.isList (by simp;omega) λq eb=>⟨rfl,I.turned (t':=s.toks) (λb o j e=>eb b o j e) r y F M Q⟩
 self:=λ_ _ _ _ _ f h=>wpAny_pyIter_listiter f h
def zV{P:Program}{w:World}{K:PySem.W.Frag}{tg:Expr}(a it:Addr):Turn P w K tg (Oq K a) [it] it (λi h=>h.IsTupleIter it a i) where
 mem:=by simp
 obj:=λi h f b j=>by
  have e:b=it:=by simpa using j
  subst e
  obtain⟨o,e,c,d⟩:=f
  exact⟨o,e,λv z=>by rw[d] at z;cases z⟩
 keep:=λi h r f k=>f.at λo e=>k it (by simp) o e
 item:=by
  intro X C F y R i g s S H E I q f J
  subst C F y
  obtain⟨Y,x,n,B⟩:=J
  obtain⟨l,N,p,hz⟩:=I.tuple n
  obtain⟨u,U,ru⟩:=N.get B
  obtain⟨t,A,f2,G,M,Q⟩:=q it (by simp)
  refine wpAny_pyNext_tuple_item f (show s.heap.IsTuple a l.toArray from p) (x:=u) (by simpa using U) λr m Z=> ?_
  have I1:Inv X g S H {s with heap:=r}:=I.turned (t':=s.toks) (λb o j e=>(Z.2 b j).trans e) t A G M Q
  obtain⟨o,e,c,d⟩:=id m
  exact⟨u,rfl,Ej (s:={s with heap:=r}) e c d (by decide) ⟨x,H,I1,ru,⟨rfl,λys hy=>by rw[I.tuple_inj hy n];exact B⟩,m,λb j=>(q b j).1⟩⟩
 done:=by
  intro X C F y R i g s S H E I q f J
  subst C F y
  obtain⟨Y,n,B⟩:=J
  obtain⟨l,N,p,hz⟩:=I.tuple n
  obtain⟨t,A,f2,G,M,Q⟩:=q it (by simp)
  have hl:=N.length
  exact wpAny_pyNext_tuple_end (I.ok.hd R) f (show s.heap.IsTuple a l.toArray from p) (by simp;omega) λr eb=>⟨rfl,I.turned (t':=s.toks) (λb o j e=>eb b o j e) t A G M Q⟩
 self:=λ_ _ _ _ _ f h=>wpAny_pyIter_tupleiter f h
def zE{P:Program}{w:World}{K:PySem.W.Frag}{Q:Expr}(it:Addr)(lo:Int)(n:Nat):Turn P w K Q (MP lo n) [it] it (λi h=>IsRangeIter h it (lo+(i:Nat)*1) ((n:Int)-(i:Nat)) 1) where
 mem:=by simp
 obj:=λi h a b d=>by
  have e:b=it:=by simpa using d
  subst e
  exact⟨_,a,λv z=>by
   have J:Data.fields _=Data.cell v:=z
   cases J⟩
 keep:=λi h j a k=>k it (by simp) _ a
 item:=by
  intro X r u m q i c s F H E I g a y
  subst r u m
  obtain⟨l,p,S,x,A,B⟩:=g it (by simp)
  have W:=Walks.range (prog:=X.prog) (w:=X.w) (I.ok.hd q) it lo 1 n
  refine W.item i s _ _ y a λv j C N f G=> ?_
  obtain⟨t,rfl⟩:=N
  have R:Inv X c F H {s with heap:=j,toks:=C}:=I.turned (λb o d e=>G b o (by simpa using d) e) l p x A B
  refine⟨_,rfl,Ej (s:={s with heap:=j,toks:=C}) (n:="range_iterator") f rfl rfl (by decide) ⟨.int (lo+i),H,R,⟨t,?_⟩,⟨rfl,rfl⟩,f,λb d=>(g b d).1⟩⟩
  rw[Int.mul_one]
 done:=by
  intro X r u m q i c s F H E I g a y
  subst r u m
  obtain⟨l,p,S,x,A,B⟩:=g it (by simp)
  exact wpAny_pyNext_range_end (I.ok.hd q) a (by have:n<=i:=y;omega) λj M=>⟨rfl,I.turned (t':=s.toks) (λb o d e=>M b o d e) l p x A B⟩
 self:=λ_ _ _ _ _ a h=>wpAny_pyIter_rangeiter a h
section
variable{X:Cx}{tg:Expr}
def D3{a:List (Addr×Obj)}{f:St}{H:Hp}{s:Shared}{R:It->Hp->Prop}{E:Value->Shared->Prop}{lo hi:Int}{t u v:Tok}{d:Nat}(I:Inv X a f H s)(l: -(2^62)<=lo)(g:lo<2^62)(m: -(2^62)<=hi)(j:hi<2^62)
  (q:R (MP lo (hi-lo).toNat) H):wpAny (model X.prog X.w) X.A (pyIter (.ref s.heap.objs.size)) (OJ X a f tg R) E {s with heap:=s.heap.push {cls:=.type "range",data:=.fields #[.int lo t,.int hi u,.int 1 v]},toks:=d}:=by
 refine wpAny_pyIter_range (IsRange.new ..) (small_one l g m j) ?_
 have c:Inv X a f H {s with heap:=s.heap.push {cls:=.type "range",data:=.fields #[.int lo t,.int hi u,.int 1 v]},toks:=d}:=I.kept λb o e=>Qcq _ e
 refine⟨(s.heap.push {cls:=.type "range",data:=.fields #[.int lo t,.int hi u,.int 1 v]}).objs.size,[(s.heap.push {cls:=.type "range",data:=.fields #[.int lo t,.int hi u,.int 1 v]}).objs.size],_,_,H,rfl,
  c.kept (t':=d) λb o e=>Qcq _ e,zE _ lo (hi-lo).toNat,?_,λb i=> ?_,q⟩
 ·have k:lo+((0:Nat):Int)*1=lo:=by simp
  have h:(((hi-lo).toNat:Nat):Int)-((0:Nat):Int)=Builtin.Range.rangeSize lo hi 1:=by rw[rangeSize_one];split <;>omega
  show IsRangeIter _ _ (lo+((0:Nat):Int)*1) ((((hi-lo).toNat:Nat):Int)-((0:Nat):Int)) 1
  rw[k,h]
  exact Qrq _ rfl
 ·have e:b=(s.heap.push {cls:=.type "range",data:=.fields #[.int lo t,.int hi u,.int 1 v]}).objs.size:=by simpa using i
  subst e
  exact c.fpOk (Qmq _) (c.hok.fresh (Qmq _))
def K6(a:TA):TI:=λb H R=>a b H λc H1=>∃j:Int,c= [.int j]/\ -(2^62)<=j/\j<2^62/\R (MP 0 j.toNat) H1
def Ca{a:Expr}{d:TA}{p pos:Pos}(l:Gl X "range")(f:X.mg "range"=none)(u:PA X [a] d)(g:starEach [a] X.env= [(false,eval a X.env)]:=by rfl):PI X tg (.Call (.Name "range" p) [a] [] pos) (K6 d):=by
 intro b s m H R I h
 refine Call_ (i4 I l f boot_range (PyProof.Rows.callWith_type1 (bW (u pos b s m H _ I h) λx v ⟨w,H1,k,i,c⟩=> ?_) g rfl))
 obtain⟨j,e,c,o,q⟩:=c
 subst e
 cases i with
 | cons r n=>
   cases n
   obtain⟨t,rfl⟩:=r
   exact call_range_1 (D3 k (by omega) (by omega) c o (by simpa using q))
def MY(f:TI)(g:TG)(h:TS):TS:=λD a H=>f a H λJ H1=>∃W:Nat->Nat->St->Hp->Prop,(∃m,W 0 m a H1)/\∀i m a H,W i m a H→
 (J.stop i H/\D.nx a H)\/(J.go i H/\∃N:St->Hp->Prop,(∀c b,N c b->∃e,e<m/\W (i+1) e c b)/\∀x b,J.yld i H x b->g x a b λd H2=>h {D with nx:=N,ct:=N,bk:=D.nx} d H2)
def lT(fp:List Addr)(h:Heap):List (Addr×Obj):=fp.filterMap λb=>(h.get? b).map λo=>(b,o)
def cP{fp:List Addr}{h:Heap}{b:Addr}{o:Obj}(a:b∈fp)(e:h.get? b=some o):(b,o)∈lT fp h:=List.mem_filterMap.mpr ⟨b,a,by rw[e];rfl⟩
def Cf{fp:List Addr}{h:Heap}{p:Addr×Obj}(a:p∈lT fp h):p.1∈fp/\h.get? p.1=some p.2:=by
 obtain⟨b,c,e⟩:=List.mem_filterMap.mp a
 cases q:h.get? b with
 |none=>rw[q] at e;cases e
 | some o=>
   rw[q] at e
   have d:(b,o)=p:=QdQ e
   subst d
   exact⟨c,q⟩
def Inv.pinned{a:List (Addr×Obj)}{g:St}{H:Hp}{s:Shared}{fp:List Addr}(I:Inv X a g H s)(m:∀b∈fp,ou X a H b)(l:∀b∈fp,∃o,s.heap.get? b=some o/\∀v,o.data≠.cell v):Inv X (a++lT fp s.heap) g H s:=
 I.pins_of λp i=>(mQa.mp i).elim (λz=>I.pin p (Qoq _ z)) λz=>by
  obtain⟨c,e⟩:=Cf z
  obtain⟨h,j,k,_⟩:=m p.1 c
  obtain⟨o,f,d⟩:=l p.1 c
  rw[e] at f;cases f
  exact⟨e,h,j,k,d⟩
def Inv.unpinned{a c:List (Addr×Obj)}{b:St}{H:Hp}{s:Shared}(I:Inv X (a++c) b H s):Inv X a b H s:=I.pins_of λp d=>I.pin p (Qoq _ (List.mem_append_left _ d))
def JG{y:Expr}{B:List Stmt}{wi:TI}{g:TG}{tb:TS}{pos:Pos}(K:PassesOwn (model X.prog X.w) X.A X.env X.xe)(hc:X.calm=true)(hi:PI X tg y wi)(hg:PG X tg g)(j:pH X B tb)
  (hs:∀x,foldedSetIterable y X.env x=pure x:=by intro _;rfl):PS X (.For tg y B [] pos) (MY wi g tb):=by
 intro c s σ H D I h
 refine wpAny_For (bW (hi c s σ H _ I h) λv s1 h1=>bW h1 λa3 s2 h2=> ?_) hs
 obtain⟨it,M,tn,J,H2,e,I2,T,Y,f2,W,⟨m0,w0⟩,P⟩:=h2
 subst e
 have l:∀{z:Hp},(∀b∈M,z b=none)->∀b∈M,ou X c z b:=λhn b j=>⟨hn b j,(f2 b j).2⟩
 refine codeAny_forLoop_any (λn s'=>∃i t z,Inv X c t z s'/\tn i s'.heap/\(∀b∈M,z b=none)/\W i n t z) ?_ m0 ⟨0,σ,H2,I2,Y,λb j=>(f2 b j).1,w0⟩
 rintro n s3 ⟨i,p,H3,I3,S,R,w3⟩
 rcases P i n p H3 w3 with⟨stop,qn⟩|⟨go,N,hN,U⟩
 ·refine wpAny_passesOwn K (bW (T.done X rfl rfl rfl hc i c s3 p H3 X.xe I3 (l R) S stop) λr s4 G=> ?_)
  obtain⟨hr,I4⟩:=G
  subst hr
  exact wpAny_execs_nil ⟨p,H3,I4,qn⟩
 ·refine wpAny_passesOwn K (bW (T.item X rfl rfl rfl hc i c s3 p H3 X.xe I3 (l R) S go) λr s4 G=> ?_)
  obtain⟨u,hr,h4⟩:=G
  subst hr
  refine wpAny_passesOwn K (bW h4 λ_ s5 G=> ?_)
  obtain⟨x,H5,I5,r5,y5,F,a2⟩:=G
  have a0:=I5.pinned (l a2) (T.obj _ _ F)
  refine wpAny_passesOwn K (bW (hg _ s5 p H5 x u _ a0 r5 (U x H5 y5)) λ_ s6 G=> ?_)
  obtain⟨a1,H6,I6,q6⟩:=G
  refine wpAny_passesOwn K (bW (j _ s6 a1 H6 _ I6 q6) λf Z C=> ?_)
  have again:∀{a:St} {k:Hp},Inv X (c++lT M s5.heap) a k Z->N a k->∃m,m<n/\∃i t z,Inv X c t z Z/\tn i Z.heap/\(∀b∈M,z b=none)/\W i m t z:=λ{a k} q Q=>by
   obtain⟨m',hm,w7⟩:=hN a k Q
   refine⟨m',hm,i+1,a,k,q.unpinned,T.keep _ _ _ F λb j o e=>(q.pin (b,o) (Qoq _ (Qoq _ (cP j e)))).1,λb j=> ?_,w7⟩
   obtain⟨o,e,d⟩:=T.obj _ _ F b j
   exact(q.pin (b,o) (Qoq _ (Qoq _ (cP j e)))).2.1
  cases f with
  |next=>obtain⟨a,k,q,Q⟩:=C;exact again q Q
  |cont=>obtain⟨a,k,q,Q⟩:=C;exact again q Q
  |brk=>obtain⟨a,k,q,C⟩:=C;exact⟨a,k,q.unpinned,C⟩
  |ret v=>obtain⟨x7,a,k,q,r7,C⟩:=C;exact⟨x7,a,k,q.unpinned,r7,C⟩
end
abbrev R2:=V->V->Hp->VK->Prop
def kg(X:Cx)(f:Value->Value->Sem Value)(r:R2):Prop:=
 ∀ (a:List (Addr×Obj)) (s:Shared) (b:St) (H:Hp) (x y:V) (v u:Value) (Q:VK),Inv X a b H s->RelV x v->RelV y u->r x y H Q→
   wpAny (model X.prog X.w) X.A (f v u) (EP X a b Q) X.xe s
def MW(X:Cx)(f:Value->Sem Value)(r:V->Hp->VK->Prop):Prop:=
 ∀ (a:List (Addr×Obj)) (s:Shared) (b:St) (H:Hp) (x:V) (v:Value) (Q:VK),Inv X a b H s->RelV x v->r x H Q→
   wpAny (model X.prog X.w) X.A (f v) (EP X a b Q) X.xe s
def gE(X:Cx)(f:Value)(r:List V->Hp->VK->Prop):Prop:=
 ∀ (a:List (Addr×Obj)) (s:Shared) (b:St) (H:Hp) (c:List V) (d:List Value) (Q:VK),Inv X a b H s->bp c d->r c H Q→
   wpAny (model X.prog X.w) X.A (call f d) (EP X a b Q) X.xe s
def N2(X:Cx)(r:V->Hp->(Bool->Hp->Prop)->Prop):Prop:=
 ∀ (a:List (Addr×Obj)) (s:Shared) (b:St) (H:Hp) (x:V) (v:Value) (Q:Bool->Hp->Prop),Inv X a b H s->RelV x v->r x H Q→
   wpAny (model X.prog X.w) X.A (truthy v) (TP X a b Q) X.xe s
def Kq(r:R2)(b c:TE):TE:=λa H Q=>b a H λx H1=>c a H1 λy H2=>r x y H2 Q
def OZ(r:V->Hp->VK->Prop)(a:TE):TE:=λb H Q=>a b H λx H1=>r x H1 Q
def rI(C:Int->Int->Prop)(g:Int->Int->V):R2:=λx y H Q=>∃i j,x=.int i/\y=.int j/\C i j/\Q (g i j) H
def B8(g:Int->Int->V):R2:=λx y H Q=>∃i j,x=.int i/\y=.int j/\Q (g i j) H
def rU(g:Int->V):V->Hp->VK->Prop:=λx H Q=>∃i,x=.int i/\Q (g i) H
section
variable{X:Cx}{a b c:Expr}{ta tb tc:TE}{pos:Pos}
def Ke(B:PE X a ta)(l:PE X b tb){d:List (Addr×Obj)}{s:Shared}{e:St}{H:Hp}{R:V->V->Hp->Prop}(I:Inv X d e H s)
  (h:ta e H λx H1=>tb e H1 λy H2=>R x y H2) {Q:Value->Shared->Prop} {f:Value->Value->Sem Value}
  (z:∀v u j x y H2,Inv X d e H2 j->RelV x v->RelV y u->R x y H2->wpAny (model X.prog X.w) X.A (f v u) Q X.xe j):
  wpAny (model X.prog X.w) X.A (eval a X.env) (λv g=>wpAny (model X.prog X.w) X.A (eval b X.env) (λu i=>wpAny (model X.prog X.w) X.A (f v u) Q X.xe i) X.xe g) X.xe s:=by
 refine bW (B d s e H _ I h) λv q k=> ?_
 obtain⟨x,H1,p,o,m⟩:=k
 refine bW (l d q e H1 _ p m) λu j k=> ?_
 obtain⟨y,H2,n,r,t⟩:=k
 exact z v u j x y H2 n o r t
def o9{e:Operator}{r:R2}(m:kg X (binaryOp e) r)(n:PE X a ta)(f:PE X b tb):PE X (.BinOp a e b pos) (Kq r ta tb):=by
 intro d s l H Q I h
 exact wpAny_BinOp (Ke n f I h λv u j x y H2 i k g q=>m d j l H2 x y v u Q i k g q)
def LR{f:UnaryOp}{r:V->Hp->VK->Prop}(i:MW X (unaryOp f) r)(m:PE X a ta):PE X (.UnaryOp f a pos) (OZ r ta):=by
 intro d s e H Q I h
 exact UnaryOp_ (bW (m d s e H _ I h) λv g ⟨x,H1,l,j,k⟩=>i d g e H1 x v Q l j k)
def Mx{f:Value->Value->Sem Value}{C:Int->Int->Prop}{g:Int->Int->Int}
  (d:∀(i j:Int) (t u:Tok) (s:Shared) (Q:Value->Shared->Prop) (E:Value->Shared->Prop),C i j->Q (.int (g i j) s.toks) {s with toks:=s.toks+1}->wpAny (model X.prog X.w) X.A (f (.int i t) (.int j u)) Q E s):
  kg X f (rI C λi j=>.int (g i j)):=by
 intro e s n H x y v u Q I l k h
 obtain⟨i,j,rfl,rfl,hc,q⟩:=h
 obtain⟨t,rfl⟩:=l
 obtain⟨m,rfl⟩:=k
 exact d i j t m s _ _ hc ⟨.int (g i j),H,I.tok _,⟨_,rfl⟩,q⟩
def Li{f:Value->Value->Sem Value}{g:Int->Int->Int}
  (d:∀(i j:Int) (t u:Tok) (s:Shared) (Q:Value->Shared->Prop) (E:Value->Shared->Prop),Q (.int (g i j) s.toks) {s with toks:=s.toks+1}->wpAny (model X.prog X.w) X.A (f (.int i t) (.int j u)) Q E s):
  kg X f (B8 λi j=>.int (g i j)):=by
 intro e s n H x y v u Q I l k h
 obtain⟨i,j,rfl,rfl,q⟩:=h
 obtain⟨t,rfl⟩:=l
 obtain⟨m,rfl⟩:=k
 exact d i j t m s _ _ ⟨.int (g i j),H,I.tok _,⟨_,rfl⟩,q⟩
def GX{f:Value->Value->Sem Value}{g:Int->Int->Bool}
  (d:∀(i j:Int) (t u:Tok) (s:Shared) (Q:Value->Shared->Prop) (E:Value->Shared->Prop),Q (.bool (g i j)) s->wpAny (model X.prog X.w) X.A (f (.int i t) (.int j u)) Q E s):
  kg X f (B8 λi j=>.bl (g i j)):=by
 intro e s n H x y v u Q I l k h
 obtain⟨i,j,rfl,rfl,q⟩:=h
 obtain⟨t,rfl⟩:=l
 obtain⟨m,rfl⟩:=k
 exact d i j t m s _ _ ⟨.bl (g i j),H,I,rfl,q⟩
def EB(i j:Int):Prop:=0<j/\j<1073741824
def Di(i j:Int):Prop:=0<=j/\j<=1000000/\i.natAbs<2^64
def Gz(i j:Int):Prop:=(-(2^64)<i/\i<2^64)\/(-(2^64)<j/\j<2^64)
def Gz.ok{i j:Int}(h:Gz i j):IntMulOk i j:=by
 rcases h with⟨e,d⟩|⟨e,d⟩
 ·exact .of_left (intBits_le_64 e d)
 ·exact .of_right (intBits_le_64 e d)
def J9:kg X (binaryOp .Add) (B8 λi j=>.int (i+j)):=Li λ_ _ _ _ _ _ _ q=>add_int q
def Kb:kg X (binaryOp .Sub) (B8 λi j=>.int (i-j)):=Li λ_ _ _ _ _ _ _ q=>sub_int q
def Hx:kg X (binaryOp .FloorDiv) (rI EB λi j=>.int (i/j)):=Mx λi j _ _ _ _ _ d q=>by
 have f:(0:Int)<j:=d.1
 have e:j<1073741824:=d.2
 exact floordiv_int (by omega) (by rw[Int.fdiv_eq_ediv_of_nonneg i (by omega)];exact q) (.inl (PyProof.noPylong_small (by omega)))
def J0:kg X (binaryOp .Mod) (rI (λ_ j=>0<j) λi j=>.int (i%j)):=Mx λi j _ _ _ _ _ d q=>by
 have e:(0:Int)<j:=d
 exact mod_int' (by omega) (by rw[Int.fmod_eq_emod_of_nonneg i (by omega)];exact q)
def JN:kg X (binaryOp .Pow) (rI Di λi j=>.int (i^j.toNat)):=Mx λ_ _ _ _ _ _ _ d q=>pow_int_small d.1 d.2.1 d.2.2 q
def Pd{f:Value->Sem Value}{g:Int->Int}
  (d:∀(i:Int) (t:Tok) (s:Shared) (Q:Value->Shared->Prop) (E:Value->Shared->Prop),Q (.int (g i) s.toks) {s with toks:=s.toks+1}->wpAny (model X.prog X.w) X.A (f (.int i t)) Q E s):
  MW X f (rU λi=>.int (g i)):=by
 intro e s k H x v Q I j h
 obtain⟨i,rfl,q⟩:=h
 obtain⟨t,rfl⟩:=j
 exact d i t s _ _ ⟨.int (g i),H,I.tok _,⟨_,rfl⟩,q⟩
def Jz:MW X (unaryOp .USub) (rU λi=>.int (-i)):=Pd λ_ _ _ _ _ q=>neg_int q
end
def zj:V->V->Bool
 |.non,.non=>true|.non,.int _=>true|.int _,.non=>true|.non,.bl _=>true|.bl _,.non=>true|.non,.str _=>true|.str _,.non=>true
 |.int _,.int _=>true|.bl _,.bl _=>true|.str _,.str _=>true|.byt _,.byt _=>true
 |.int _,.str _=>true|.str _,.int _=>true|.bl _,.str _=>true|.str _,.bl _=>true
 |_,_=>false
def Og:R2:=λx y H Q=>zj x y=true/\Q (.bl (decide (x=y))) H
def On:R2:=λx y H Q=>zj x y=true/\Q (.bl (!decide (x=y))) H
def BA{i j:Int}:decide (V.int i=V.int j)=(i==j):=by
 rw[Bool.eq_iff_iff]
 simp
def E_{i j:Bool}:decide (V.bl i=V.bl j)=(i==j):=by
 rw[Bool.eq_iff_iff]
 simp
def BL{i j:Str}:decide (V.str i=V.str j)=(i==j):=by
 rw[Bool.eq_iff_iff]
 simp
def Ba{i j:Array UInt8}:decide (V.byt i=V.byt j)=(i.toList==j.toList):=by
 rw[Bool.eq_iff_iff]
 cases i
 cases j
 simp
section
variable{X:Cx}{a b c:Expr}{ta tb tc:TE}{pos:Pos}
def bz{d:List (Addr×Obj)}{g:St}{H:Hp}{s:Shared}{Q:VK}{k f:Bool}(I:Inv X d g H s)(q:Q (.bl k) H)(e:k=f):EP X d g Q (.bool f) s:=by
 subst e
 exact⟨.bl k,H,I,rfl,q⟩
def Ou:kg X (compareOp .Eq) Og:=by
 intro k s l H x y v u Q I g d h
 obtain⟨f,q⟩:=h
 cases x with
 | non=>
   cases g
   cases y with
   |non=>cases d;exact PySem.EqNone.eq_none_none (bz I q (by simp))
   |bl j=>cases d;exact PySem.EqNone.eq_none_bool (bz I q (by simp))
   |int j=>obtain⟨e,rfl⟩:=d;exact PySem.EqNone.eq_none_int (bz I q (by simp))
   |str j=>obtain⟨e,rfl⟩:=d;exact PySem.EqNone.eq_none_str (bz I q (by simp))
   |_=>exact absurd (show false=true from f) Qtq
 | bl i=>
   cases g
   cases y with
   |non=>cases d;exact PySem.EqNone.eq_bool_none (bz I q (by simp))
   |bl j=>cases d;exact eq_bool (bz I q E_)
   |str j=>obtain⟨e,rfl⟩:=d;exact PySem.EqMixed.eq_bool_str (bz I q (by simp))
   |_=>exact absurd (show false=true from f) Qtq
 | int i=>
   obtain⟨t,rfl⟩:=g
   cases y with
   |non=>cases d;exact PySem.EqNone.eq_int_none (bz I q (by simp))
   |int j=>obtain⟨e,rfl⟩:=d;exact eq_int (bz I q BA)
   |str j=>obtain⟨e,rfl⟩:=d;exact PySem.EqMixed.eq_int_str (bz I q (by simp))
   |_=>exact absurd (show false=true from f) Qtq
 | str i=>
   obtain⟨t,rfl⟩:=g
   cases y with
   |non=>cases d;exact PySem.EqNone.eq_str_none (bz I q (by simp))
   |bl j=>cases d;exact PySem.EqMixed.eq_str_bool (bz I q (by simp))
   |int j=>obtain⟨e,rfl⟩:=d;exact PySem.EqMixed.eq_str_int (bz I q (by simp))
   |str j=>obtain⟨e,rfl⟩:=d;exact eq_str (bz I q BL)
   |_=>exact absurd (show false=true from f) Qtq
 | byt i=>
   obtain⟨t,rfl⟩:=g
   cases y with
   |byt j=>obtain⟨e,rfl⟩:=d;exact PySem.W.eq_bytes (bz I q Ba)
   |_=>exact absurd (show false=true from f) Qtq
 |_=>cases y <;>exact absurd (show false=true from f) Qtq
def Oj:kg X (compareOp .NotEq) On:=by
 intro k s l H x y v u Q I g d h
 obtain⟨f,q⟩:=h
 cases x with
 | non=>
   cases g
   cases y with
   |non=>cases d;exact PySem.EqNone.ne_none_none (bz I q (by simp))
   |bl j=>cases d;exact PySem.EqNone.ne_none_bool (bz I q (by simp))
   |int j=>obtain⟨e,rfl⟩:=d;exact PySem.EqNone.ne_none_int (bz I q (by simp))
   |str j=>obtain⟨e,rfl⟩:=d;exact PySem.EqNone.ne_none_str (bz I q (by simp))
   |_=>exact absurd (show false=true from f) Qtq
 | bl i=>
   cases g
   cases y with
   |non=>cases d;exact PySem.EqNone.ne_bool_none (bz I q (by simp))
   |bl j=>cases d;exact ne_bool (bz I q (congrArg not E_))
   |str j=>obtain⟨e,rfl⟩:=d;exact PySem.EqMixed.ne_bool_str (bz I q (by simp))
   |_=>exact absurd (show false=true from f) Qtq
 | int i=>
   obtain⟨t,rfl⟩:=g
   cases y with
   |non=>cases d;exact PySem.EqNone.ne_int_none (bz I q (by simp))
   |int j=>obtain⟨e,rfl⟩:=d;exact ne_int (bz I q (congrArg not BA))
   |str j=>obtain⟨e,rfl⟩:=d;exact PySem.EqMixed.ne_int_str (bz I q (by simp))
   |_=>exact absurd (show false=true from f) Qtq
 | str i=>
   obtain⟨t,rfl⟩:=g
   cases y with
   |non=>cases d;exact PySem.EqNone.ne_str_none (bz I q (by simp))
   |bl j=>cases d;exact PySem.EqMixed.ne_str_bool (bz I q (by simp))
   |int j=>obtain⟨e,rfl⟩:=d;exact PySem.EqMixed.ne_str_int (bz I q (by simp))
   |str j=>obtain⟨e,rfl⟩:=d;exact ne_str (bz I q (congrArg not BL))
   |_=>exact absurd (show false=true from f) Qtq
 | byt i=>
   obtain⟨t,rfl⟩:=g
   cases y with
   |byt j=>obtain⟨e,rfl⟩:=d;exact PySem.W.ne_bytes (bz I q (congrArg not Ba))
   |_=>exact absurd (show false=true from f) Qtq
 |_=>cases y <;>exact absurd (show false=true from f) Qtq
def LK:kg X (compareOp .Lt) (B8 λi j=>.bl (decide (i<j))):=GX λ_ _ _ _ _ _ _ q=>lt_int q
def Ii:kg X (compareOp .LtE) (B8 λi j=>.bl (decide (i<=j))):=GX λ_ _ _ _ _ _ _ q=>le_int q
def OG:kg X (compareOp .Gt) (B8 λi j=>.bl (decide (j<i))):=GX λ_ _ _ _ _ _ _ q=>gt_int q
def Oy:kg X (compareOp .GtE) (B8 λi j=>.bl (decide (j<=i))):=GX λ_ _ _ _ _ _ _ q=>ge_int q
def NU:kg X (compareOp .Is) (λx y H Q=>y=.non/\Q (.bl (decide (x=.non))) H):=by
 intro d s g H x y v u Q I e f h
 obtain⟨rfl,q⟩:=h
 cases f
 refine is_none_gen (bz I q ?_)
 cases x <;>first
  |(cases e;rfl)
  |(obtain⟨t,rfl⟩:=e;rfl)
def ME:kg X (compareOp .IsNot) (λx y H Q=>y=.non/\Q (.bl (!decide (x=.non))) H):=by
 intro d s g H x y v u Q I e f h
 obtain⟨rfl,q⟩:=h
 cases f
 refine isnot_none_gen (bz I q ?_)
 cases x <;>first
  |(cases e;rfl)
  |(obtain⟨t,rfl⟩:=e;rfl)
def kg.or{f:Value->Value->Sem Value}{r g:R2}(h:kg X f r)(h':kg X f g):kg X f (λx y H Q=>r x y H Q\/g x y H Q):=by
 intro d s e H x y v u Q I j i q
 rcases q with q|q
 ·exact h d s e H x y v u Q I j i q
 ·exact h' d s e H x y v u Q I j i q
def zG(b:Expr){d:CmpOp}(h:d≠.In:=by decide)(e:d≠.NotIn:=by decide):behindInMarks d b=false:=by
 have g:(d==CmpOp.In)=false:=by cases d <;>first|rfl|exact absurd rfl h
 have f:(d==CmpOp.NotIn)=false:=by cases d <;>first|rfl|exact absurd rfl e
 cases b <;>simp[behindInMarks,g,f]
def Hq{e:CmpOp}{r:R2}(n:kg X (compareOp e) r)(o:PE X a ta)(f:PE X b tb)(g:behindInMarks e b=false):PE X (.Compare a [e] [b] pos) (Kq r ta tb):=by
 intro d s m H Q I h
 exact wpAny_Compare1 (Ke o f I h λv u k x y H2 j l i q=>n d k m H2 x y v u Q j l i q) g
def DB(t:TE):TT:=λd H Q=>t d H λx e=>∃k,x=.bl k/\Q k e
def u4{f:CmpOp}{r:R2}(C:kg X (compareOp f) r)(G:PE X a ta)(i:PE X b tb)(j:behindInMarks f b=false):PT X (.Compare a [f] [b] pos) (DB (Kq r ta tb)):=by
 intro d s g H Q I h
 refine wpAny_isTrue_Compare1 (bW (G d s g H _ I h) λv q ⟨x,H1,p,o,l⟩=>bW (i d q g H1 _ p l) λu B ⟨y,H2,n,t,F⟩=>
  bW (C d B g H2 x y v u _ n o t F) λc J ⟨z,H3,A,m,k,e,w⟩=> ?_) j
 subst e
 cases m
 exact wpAny_truthy_bool ⟨H3,A,w⟩
def Iu(K:PySem.W.Frag)(x:V)(H:Hp)(k:Bool):Prop:=
 match x with
 |.non=>k=false
 |.bl b=>k=b
 |.int i=>k=(i !=0)
 |.str y=>y.length<=sizeLine/\k=((y.length:Int) !=0)
 |.byt y=>y.size<=sizeLine/\k=((y.size:Int) !=0)
 |.ref p=>(∃e,jC K H p e/\k= !e.isEmpty)\/(∃e,gr K H p e/\k= !e.isEmpty)\/∃d,H p=some (.dK d)/\k= !d.isEmpty
 |_=>False
def ze{d:Type}{kvs:List (d×V)}{vs:List (d×Value)}(r:KV kvs vs):(!vs.isEmpty)= !kvs.isEmpty:=by
 cases r <;>rfl
def r8{xs:List V}{d:List Value}(r:bp xs d):(!d.toArray.isEmpty)= !xs.isEmpty:=by
 cases r <;>simp
def lq:(sizeLine:Nat)<2^63:=by rw[sizeLine_eq];decide
def Jy:N2 X (λx H Q=>∃k,Iu X.K x H k/\Q k H):=by
 intro A s J H x v Q I l h
 obtain⟨k,e,q⟩:=h
 have hl:=lq
 have G:sizeLine=16777216:=sizeLine_eq
 cases x with
 | non=>
   cases l
   have d:k=false:=e
   subst d
   exact truthy_none ⟨H,I,q⟩
 | bl b=>
   cases l
   have d:k=b:=e
   subst d
   exact wpAny_truthy_bool ⟨H,I,q⟩
 | int i=>
   obtain⟨t,rfl⟩:=l
   have d:k=(i !=0):=e
   subst d
   exact PySem.P.truthy_int ⟨H,I,q⟩
 | str y=>
   obtain⟨t,rfl⟩:=l
   obtain⟨F,d⟩:y.length<=sizeLine/\k=((y.length:Int) !=0):=e
   subst d
   exact PySem.P.truthy_str (by omega) ⟨H,I.tok _,q⟩
 | byt y=>
   obtain⟨t,rfl⟩:=l
   obtain⟨F,d⟩:y.size<=sizeLine/\k=((y.size:Int) !=0):=e
   subst d
   exact PySem.W.truthy_bytes (by omega) ⟨H,I.tok _,q⟩
 | ref p=>
   cases l
   have d:(∃j,jC X.K H p j/\k= !j.isEmpty)\/(∃j,gr X.K H p j/\k= !j.isEmpty)\/∃f,H p=some (.dK f)/\k= !f.isEmpty:=e
   rcases d with⟨j,n,d⟩|⟨j,n,d⟩|⟨f,n,d⟩
   · subst d
     obtain⟨u,r,z,B⟩:=I.list n
     have g:=r.length
     exact wpAny_truthy_list z.isList (by simp only[Qjq];omega) ⟨H,I.tok _,by rw[r8 r];exact q⟩
   · subst d
     obtain⟨u,r,z,B⟩:=I.tuple n
     have g:=r.length
     exact truthy_tuple z (by simp only[Qjq];omega) ⟨H,I.tok _,by rw[r8 r];exact q⟩
   · subst d
     obtain⟨B,C,o,r,m⟩:f.length<=sizeLine/\(p==sysModules)=false/\∃o,KV f o/\s.heap.DictOf (bt X.prog X.w) p o:=I.hok p _ n
     have g:f.length=o.length:=Paired.length r
     exact wpAny_truthy_dict C m (by omega) ⟨H,I.tok _,by rw[ze r];exact q⟩
 |_=>exact(show False from e).elim
def Eo(n:PE X a ta)(he:∀d,isTrue a X.env d=(do let v←d;standAt a.pos;holding [v] (truthy v))):
  PT X a (λf H Q=>ta f H λx g=>∃k,Iu X.K x g k/\Q k g):=by
 intro e s f H Q I h
 exact isTrue_plain (bW (n e s f H _ I h) λv m ⟨x,H1,l,j,i⟩=>Jy e m f H1 x v Q l j i) (he _)
def zJ:kg X (binaryOp .Add) (λx y H Q=>∃i j,x=.str i/\y=.str j/\i.length+j.length<=sizeLine/\Q (.str (i++j)) H):=by
 intro d s l H x y v u Q I g f h
 obtain⟨i,j,rfl,rfl,hz,q⟩:=h
 obtain⟨t,rfl⟩:=g
 obtain⟨e,rfl⟩:=f
 exact add_str (λe k=>⟨.str (i++j),H,I.tok _,⟨_,rfl⟩,q⟩) hz
def vals1{x:V}{d:List Value}(r:bp [x] d):∃u,d= [u]/\RelV x u:=by
 cases r with
 |cons f e=>cases e;exact⟨_,rfl,f⟩
def vals2{x y:V}{d:List Value}(r:bp [x,y] d):∃u e,d= [u,e]/\RelV x u/\RelV y e:=by
 cases r with
 | cons i f=>
   cases f with
   |cons h g=>cases g;exact⟨_,_,rfl,i,h⟩
def Lj:gE X (.builtin "abs") (λxs H Q=>∃i,xs= [.int i]/\Q (.int (if i<0 then -i else i)) H):=by
 intro d s f H xs g Q I r h
 obtain⟨i,rfl,q⟩:=h
 obtain⟨u,rfl,t,rfl⟩:=vals1 r
 exact call_abs_int λu e=>⟨.int (if i<0 then -i else i),H,I.tok _,⟨_,rfl⟩,q⟩
def KE(f:X.calm=true):gE X (.builtin "max") (λxs H Q=>∃i j,xs= [.int i,.int j]/\Q (.int (if j>i then j else i)) H):=by
 intro e s l H xs m Q I r h
 obtain⟨i,j,rfl,q⟩:=h
 obtain⟨u,n,rfl,⟨t,rfl⟩,⟨t',rfl⟩⟩:=vals2 r
 refine max_two_ints (I.ok.hd f) λo g k=>⟨_,H,I.kept k,?_,q⟩
 by_cases d:j>i
 ·rw[Qhq d,Qhq d];exact⟨_,rfl⟩
 ·rw[Quq d,Quq d];exact⟨_,rfl⟩
def Kw(f:X.calm=true):gE X (.builtin "min") (λxs H Q=>∃i j,xs= [.int i,.int j]/\Q (.int (if j<i then j else i)) H):=by
 intro e s l H xs m Q I r h
 obtain⟨i,j,rfl,q⟩:=h
 obtain⟨u,n,rfl,⟨t,rfl⟩,⟨t',rfl⟩⟩:=vals2 r
 refine min_two_ints (I.ok.hd f) λo g k=>⟨_,H,I.kept k,?_,q⟩
 by_cases d:j<i
 ·rw[Qhq d,Qhq d];exact⟨_,rfl⟩
 ·rw[Quq d,Quq d];exact⟨_,rfl⟩
def Kz:gE X (.type "int") (λxs H Q=>(∃i,xs= [.int i]/\Q (.int i) H)\/∃k,xs= [.bl k]/\Q (.int (if k then 1 else 0)) H):=by
 intro d s e H xs f Q I r h
 rcases h with⟨i,rfl,q⟩|⟨k,rfl,q⟩
 ·obtain⟨u,rfl,t,rfl⟩:=vals1 r
  exact call_int_int ⟨.int i,H,I,⟨_,rfl⟩,q⟩
 ·obtain⟨u,rfl,r1⟩:=vals1 r
  cases r1
  exact call_int_bool ⟨.int (if k then 1 else 0),H,I.tok _,⟨_,rfl⟩,q⟩
end
structure Kr(h:Heap)(x dx C:Addr)(mA:Str->Option Value):Prop where
 obj:h.get? x=some (PySem.W.instObj C dx)
 ns:h.Ns1 dx mA
 ne:dx≠x
def Cv{h:Heap}{g:Addr}{f:Str->Option Value}(n:h.Ns1 g f):∃d,h.get? g=some d/\∀name,PySem.W.lookIn name d=some (f name):=by
 obtain⟨o,c,r,m,k,l,_,i⟩:=n
 refine⟨o,m,λname=> ?_⟩
 have e:=i name
 unfold nsFind findBy at e
 rw[←Array.find?_toList] at e
 unfold PySem.W.lookIn
 rw[k]
 dsimp only
 split
 ·rename_i y q
  rw[q] at e
  exact congrArg some e
 ·rename_i q
  rw[q] at e
  have a:c.toList.any (·.refKey)=false:=by
   rw[List.any_eq_false]
   intro y p
   obtain⟨z,t,b⟩:=l y (Array.mem_toList_iff.mp p)
   simp[DictEntry.refKey,b]
  have j:¬c.toList.any (·.refKey)=true:=by rw[a];exact Qtq
  rw[Quq j]
  exact congrArg some e
def Kr.look{h:Heap}{x c C:Addr}{b:Str->Option Value}(I:Kr h x c C b):∃a,PySem.W.InstAt h x (PySem.W.instObj C c) C (some a)/\∀name,PySem.W.lookIn name a=some (b name):=
 let ⟨a,ho,hl⟩:=Cv I.ns
 ⟨a,⟨I.obj,rfl,rfl,ho⟩,hl⟩
def sI.some_of{v:V}{o:Option Value}(r:sI (some v) o):∃u,o=some u/\RelV v u:=by
 cases o with
 |none=>exact(show False from r).elim
 |some u=>exact⟨u,rfl,r⟩
section
variable{P:Program}{w:World}{H H':Hp}{h h':Heap}{a C dx:Addr}{fs fs':List (Str×V)}
def p0(c:l9 P w H h)(e:H a=some (.ins C dx fs)):∃b,Kr h a dx C b/\(∀f,sI (fs.lookup f) (b f))/\PySem.Within b (fs.map (·.1))/\fs.length<=1000/\H dx=some (.own a):=by
 obtain⟨d,z,g,i,b,n,r,q⟩:=(show bI P w H h a (.ins C dx fs) from c a _ e)
 exact⟨b,⟨i,n,g⟩,r,q,z,d⟩
end
structure N4(K:PySem.W.Frag)(C:Addr):Prop where
 pg:PySem.W.plainGet K C Str.empty=true
 hd:PySem.W.hasDictIn K C=true
 po:PySem.W.plainOver K C=true
 sa:PySem.W.findIn K (.ref C) "__setattr__"=some (some (.builtin "object.__setattr__"))
def N4.get{K:PySem.W.Frag}{C:Addr}(c:N4 K C)(f:Str):PySem.W.plainGet K C f=true:=c.pg
section
variable{X:Cx}{pins:List (Addr×Obj)}{σ:St}{H:Hp}{s:Shared}{A:Around}{E:Value->Shared->Prop}{Q:Value->Shared->Prop}{c:Value}{b:Bool}
inductive nT(K:PySem.W.Frag)(H:Hp):V->Value->Prop where
 |non:nT K H .non (.type "NoneType")
 |bl (x:Bool):nT K H (.bl x) (.type "bool")
 |int (i:Int):nT K H (.int i) (.type "int")
 |str (x:Str):nT K H (.str x) (.type "str")
 |flt (x:UInt64):nT K H (.flt x) (.type "float")
 |lst {a:Addr} {xs:List V} (e:H a=some (.lst xs)):nT K H (.ref a) (.type "list")
 |frz {a:Addr} {o:Obj} {xs:List V} (e:H a=some (.frz o (.lst xs))):nT K H (.ref a) (.type "list")
 |tup {a:Addr} {xs:List V} (e:H a=some (.tup xs)):nT K H (.ref a) (.type "tuple")
 |dK {a:Addr} {kvs:List (Key×V)} (e:H a=some (.dK kvs)):nT K H (.ref a) (.type "dict")
 |dT {a:Addr} {kvs:List (List Key×V)} (e:H a=some (.dT kvs)):nT K H (.ref a) (.type "dict")
 |ins {a C dx:Addr} {fs:List (Str×V)} (e:H a=some (.ins C dx fs)) (cl:N4 K C) (ha:PySem.W.findIn K (.ref C) "__class__"=some (some (.builtin "object.__class__")))
   (hn:PySem.W.specialIn K (.builtin "object.__class__") "__get__"=some (some (.builtin "getset_descriptor.__get__"))) (htk:PySem.W.takesIn K (.builtin "object.__class__")=some true)
   (hm:PySem.W.mroIn K C (.type "object")=some true):nT K H (.ref a) (.ref C)
def B3{x:V}{u t:Value}(I:Inv X pins σ H s)(d:RelV x u)(k:nT X.K H x t)(e:PySem.W.kitOne X.K t c=some b)(h:∀r,Q (.bool b) {s with toks:=r}):
  wpAny (model X.prog X.w) A (call (.builtin "isinstance") [u,c]) Q E s:=by
 cases k with
 |non=>cases (show u=Value.none from d);exact PySem.W.kia_one PySem.W.kitx_none I.kIn True.intro e (λz=>nomatch z) h
 |bl y=>cases (show u=Value.bool y from d);exact PySem.W.kia_one PySem.W.kitx_bool I.kIn True.intro e (λz=>nomatch z) h
 |int i=>obtain⟨t,q⟩:=(show∃t,u=Value.int i t from d);cases q;exact PySem.W.kia_one PySem.W.kitx_int I.kIn True.intro e (λz=>nomatch z) h
 |str y=>obtain⟨t,q⟩:=(show∃t,u=Value.str y t from d);cases q;exact PySem.W.kia_one PySem.W.kitx_str I.kIn True.intro e (λz=>nomatch z) h
 |flt y=>obtain⟨t,q⟩:=(show∃t,u=Value.float y t from d);cases q;exact PySem.W.kia_one PySem.W.kitx_float I.kIn True.intro e (λz=>nomatch z) h
 | @lst a g ea=>
   cases (show u=Value.ref a from d)
   obtain⟨_,_,n,_,f⟩:=(show bI X.prog X.w H s.heap a (.lst g) from I.hok a _ ea)
   exact PySem.W.kia_one PySem.W.kitx_list I.kIn ⟨_,f,rfl⟩ e (λz=>nomatch z) h
 | @frz a ob g ea=>
   cases (show u=Value.ref a from d)
   obtain⟨_,_,_,n,_,f⟩:=(show bI X.prog X.w H s.heap a (.frz ob (.lst g)) from I.hok a _ ea)
   exact PySem.W.kia_one PySem.W.kitx_list I.kIn ⟨_,f,rfl⟩ e (λz=>nomatch z) h
 | @tup a g ea=>
   cases (show u=Value.ref a from d)
   obtain⟨_,_,_,p⟩:=(show bI X.prog X.w H s.heap a (.tup g) from I.hok a _ ea)
   obtain⟨o,f,j,_⟩:=p
   exact PySem.W.kia_one PySem.W.kitx_tuple I.kIn ⟨o,f,j⟩ e (λz=>nomatch z) h
 | @dK a kvs ea=>
   cases (show u=Value.ref a from d)
   obtain⟨_,_,B,_,p⟩:=(show bI X.prog X.w H s.heap a (.dK kvs) from I.hok a _ ea)
   obtain⟨o,l,m,f,j,_⟩:=p
   exact PySem.W.kia_one PySem.W.kitx_dict I.kIn ⟨o,f,j.1⟩ e (λz=>nomatch z) h
 | @dT a kvs ea=>
   cases (show u=Value.ref a from d)
   obtain⟨_,_,g,_,o,l,m,f,j,_⟩:=(show bI X.prog X.w H s.heap a (.dT kvs) from I.hok a _ ea)
   exact PySem.W.kia_one PySem.W.kitx_dict I.kIn ⟨o,f,j.1⟩ e (λz=>nomatch z) h
 | @ins a C dx fs ea cl ha hn htk hm=>
   cases (show u=Value.ref a from d)
   obtain⟨F,O,_⟩:=p0 I.hok ea
   obtain⟨v,J,_⟩:=O.look
   exact PySem.W.kia_one (PySem.W.kitx_own (cl.get _) cl.hd ha hn htk hm) I.kIn J e (λz=>nomatch z) h
end
structure eE(k:Nat)(A:Around):Prop where
 hd:A.handled=none
 dp:A.depth+3*k+5<recursionLimit
 un:A.units+16*k+200<cLine
def eE.mono{j k:Nat}{A:Around}(r:eE k A)(h:j<=k):eE j A:=⟨r.hd,by have:=r.dp;omega,by have:=r.un;omega⟩
def eE.deeper{k:Nat}{A:Around}(r:eE (k+1) A)(env:Env):eE k (A.deeper env):=
 ⟨r.hd,by have:=r.dp;show A.depth+1+3*k+5<_;omega,by have:=r.un;show A.units+3+16*k+200<_;omega⟩
def eE.depth{k:Nat}{A:Around}(r:eE k A):A.depth<recursionLimit:=by have:=r.dp;omega
def eE.units{k:Nat}{A:Around}(r:eE k A):A.units+64<cLine:=by have:=r.un;omega
def Gi:TA:=λ_ H Q=>Q [] H
def DU(b:TE)(tr:TA):TA:=λa H Q=>b a H λx H1=>tr a H1 λc H2=>Q (x::c) H2
section
variable{X:Cx}{e:Expr}{es:List Expr}{te:TE}{t:TA}{pos:Pos}
def dX:PA X [] Gi:=λ_ _ _ _ H Q I h=>Calls.spliced_nil ⟨[],H,I,.nil,h⟩
def bQ(p:PE X e te)(n:PA X es t)(g:starEach (e::es) X.env=(false,eval e X.env)::starEach es X.env:=by rfl):PA X (e::es) (DU te t):=by
 intro pos a s b H Q I h
 rw[g]
 show wpAny _ _ (spliced ((false,eval e X.env)::backTo pos (starEach es X.env))) _ _ s
 refine Calls.spliced_cons (bW (p a s b H _ I h) λu l c=> ?_)
 obtain⟨x,H1,k,j,f⟩:=c
 exact bW (n pos a l b H1 _ k f) λr q ⟨d,H2,i,m,o⟩=>⟨x::d,H2,i,.cons j m,o⟩
def M4(t:TA):TE:=λb H Q=>t b H λa H1=>a.length<=sizeLine/\∀p,H1 p=none->Q (.ref p) (upd H1 p (.tup a))
def NC(t:TA):TE:=λb H Q=>t b H λa H1=>a.length<=sizeLine/\∀p,H1 p=none->Q (.ref p) (upd H1 p (.lst a))
def Fq{x1}(h:PA X es t):PE X (.Tuple es x1 pos) (M4 t):=by
 intro a s i H Q I g
 refine wpAny_Tuple_spliced (bW (h pos a s i H _ I g) λj c ⟨f,H1,d,r,z,q⟩=>⟨by rw[←r.length];exact z,?_⟩)
 have k:H1 c.heap.objs.size=none:=d.hok.fresh (Qmq _)
 refine⟨.ref c.heap.objs.size,upd H1 c.heap.objs.size (.tup f),d.laid (t':=c.toks) (λb u e=>Qcq _ e) (Qmq _) ?_,rfl,q _ k⟩
 exact⟨z,j,r,⟨_,Qrq _ rfl,rfl,rfl,_,rfl⟩⟩
def JA(h:PA X es t):PE X (.List es pos) (NC t):=by
 intro a s i H Q I g
 refine wpAny_List_spliced (bW (h pos a s i H _ I g) λj c ⟨f,H1,d,r,z,q⟩=>⟨by rw[←r.length];exact z,?_⟩)
 have k:H1 c.heap.objs.size=none:=d.hok.fresh (Qmq _)
 refine⟨.ref c.heap.objs.size,upd H1 c.heap.objs.size (.lst f),d.laid (t':=c.toks) (λb u e=>Qcq _ e) (Qmq _) ?_,rfl,q _ k⟩
 exact⟨z,j,0,r,Qrq _ rfl⟩
end
abbrev Sp:=List V->Hp->VK->XK->Prop
abbrev C7:=List Env->Hp->Shared->XK->Value->Shared->Prop
structure G4(P:Program)(w:World)(K:PySem.W.Frag)(mg:Str->Option Value)(base:Heap)(A:Around)(outer:List Env)(s:Shared)(H:Hp):Prop where
 frames:A.frames=some outer
 mod:Mod K mg base
 bs:∀b o,base.get? b=some o->s.heap.get? b=some o/\H b=none
 bsz:base.objs.size<=s.heap.objs.size
 funs:s.heap.FunFrames base outer
 frf:∀b∈DP outer,H b=none
 hok:l9 P w H s.heap
 bare:AllBare s.gens
def CE(outer:List Env)(P:Program)(w:World)(H:Hp)(s:Shared)(Q:VK)(u:Value)(s':Shared):Prop:=
 ∃v a,s'.os=s.os/\AllBare s'.gens/\Un (DP outer) [] H a s.heap s'.heap/\l9 P w a s'.heap/\RelV v u/\Q v a
def CR(CX:C7)(outer:List Env)(P:Program)(w:World)(H:Hp)(s:Shared)(Q:VK)(E:XK)(r:Result)(s':Shared):Prop:=
 match r with
 |.ok (.ret u)=>CE outer P w H s Q u s'
 |.ok _=>False
 |.error e=>CX outer H s E e s'
structure a_(P:Program)(w:World)(K:PySem.W.Frag)(mg:Str->Option Value)(base:Heap)(CX:C7)(k:Nat)(f:Addr)(fd:FuncData)(ps:List Str)(sp:Sp):Prop where
 len:∀vs H Q E,sp vs H Q E->vs.length=ps.length
 run:∀(A:Around) (outer:List Env) (s:Shared) (H:Hp) (args:Args) (us:List Value) (vs:List V) (Q:VK) (E:XK),eE k A->G4 P w K mg base A outer s H->BindsTo s fd args (ps.zip us)->bp vs us->sp vs H Q E→
  codeAny (model P w) A (.call (.ref f) args) (CR CX outer P w H s Q E) s
def a_.mono{P:Program}{w:World}{K:PySem.W.Frag}{mg:Str->Option Value}{base:Heap}{CX:C7}{j k:Nat}{f:Addr}{c:FuncData}{ps:List Str}{sp:Sp}(F:a_ P w K mg base CX j f c ps sp)(h:j<=k):
  a_ P w K mg base CX k f c ps sp:=⟨F.len,λA a s H b g e Q E d=>F.run A a s H b g e Q E (d.mono h)⟩
def a_.imp{P:Program}{w:World}{K:PySem.W.Frag}{mg:Str->Option Value}{base:Heap}{CX:C7}{k:Nat}{f:Addr}{d:FuncData}{ps:List Str}{sp c:Sp}(F:a_ P w K mg base CX k f d ps sp)
  (h:∀vs H Q E,c vs H Q E->sp vs H Q E):a_ P w K mg base CX k f d ps c:=
 ⟨λvs H Q E q=>F.len vs H Q E (h _ _ _ _ q),λA a s H b m vs Q E j l e i g=>F.run A a s H b m vs Q E j l e i (h _ _ _ _ g)⟩
section
variable{X:Cx}{pins:List (Addr×Obj)}{σ:St}{H:Hp}{s s':Shared}
def Inv.env0(I:Inv X pins σ H s):G4 X.prog X.w X.K X.mg X.base X.A X.stack s H:=
 ⟨I.ok.frames,I.ok.mod,I.bs,QAq I.ok.bsz I.sz,I.stack,I.stkFree,I.hok,I.bare⟩
def Inv.after{Q:VK}{u:Value}(I:Inv X pins σ H s)(h:CE X.stack X.prog X.w H s Q u s'):EP X pins σ Q u s':=by
 obtain⟨v,f,j,a,i,e,r,q⟩:=h
 obtain⟨k,g,d,t,c⟩:=s'
 obtain rfl:c=s.os:=j
 exact⟨v,f,I.call (h':=k) (g':=g) (d':=d) (t':=t) (ch:= []) i e a (λb z=>absurd z (by simp)),r,q⟩
end
def Et(sp:Sp)(a:List V)(E:XK)(t:TA):TE:=λb H Q=>t b H λc H1=>sp (c++a) H1 Q E
def Binds(K:PySem.W.Frag)(b:FuncData)(ps:List Str)(ds:List Value):Prop:=
 ∀(s:Shared) (a:List Value),K.In s.heap->(a++ds).length=ps.length->BindsTo s b ⟨a,[]⟩ (ps.zip (a++ds))
def Binds.all{K:PySem.W.Frag}{b:FuncData}{ps:List Str}(h:∀a:List Value,a.length=ps.length->bindArgs b ⟨a,[]⟩=pure (ps.zip a)):Binds K b ps []:=λs a _ hl=>by
 rw[List.append_nil] at hl⊢
 exact .of_eq (h a hl)
def Ad(CX:C7)(X:Cx)(E:XK):Prop:=∀(a:List (Addr×Obj)) (c:St) (H:Hp) (s:Shared) (e:Value) (b:Shared),Inv X a c H s->CX X.stack H s E e b->X.xe e b
section
variable{X:Cx}{CX:C7}{k:Nat}{f C:Addr}{fd:FuncData}{ps:List Str}{sp:Sp}{dvs:List V}{ds:List Value}{E:XK}{x m:Str}{p pos apos:Pos}{e o:Expr}{es:List Expr}{ta:TE}{t:TA}
def Fu{a:List (Addr×Obj)}{d:St}{H:Hp}{s:Shared}{Q:VK}{b:List Value}{vs:List V}(F:a_ X.prog X.w X.K X.mg X.base CX k f fd ps sp)(n:eE k X.A)(i:Binds X.K fd ps ds)(hd:bp dvs ds)(j:Ad CX X E)
  (I:Inv X a d H s) (r:bp vs b) (h:sp (vs++dvs) H Q E):wpAny (model X.prog X.w) X.A (call (.ref f) b) (EP X a d Q) X.xe s:=by
 have g:bp (vs++dvs) (b++ds):=r.append hd
 have hl:(b++ds).length=ps.length:=by rw[←g.length];exact F.len _ _ _ _ h
 refine wpAny_call (codeAny_mono (F.run X.A X.stack s H ⟨b,[]⟩ (b++ds) (vs++dvs) Q E n I.env0 (i s b I.kIn hl) g h) λr q c=> ?_)
 cases r with
 |error e=>exact j a d H s e q I c
 | ok l=>
   cases l with
   |ret u=>exact I.after c
   |next=>exact False.elim c
   |brk=>exact False.elim c
   |cont=>exact False.elim c
def A7(F:a_ X.prog X.w X.K X.mg X.base CX k f fd ps sp)(l:eE k X.A)(n:Gl X x)(d:X.mg x=some (.ref f))(j:PySem.W.keepIn X.K (.ref f)=true)(g:Binds X.K fd ps ds)(hd:bp dvs ds)(i:Ad CX X E)
  (v:PA X (e::es) t) (b:(x==("__debug__":Str))=false:=by decide) (he:starEach (e::es) X.env=(false,eval e X.env)::starEach es X.env:=by rfl) (hpl:(backTo pos (starEach es X.env)).any (·.1)=false:=by rfl):
  PE X (.Call (.Name x p) (e::es) [] pos) (Et sp dvs E t):=by
 intro a s u H Q I h
 refine wpAny_Call_Name_kw (vS I n d ?_ b)
 refine PySem.W.callWith_K (h₀:=X.base) I.ok.mod.kin j (bW (v pos a s u H _ I h) λB y ⟨z,H1,c,r,q⟩=>⟨c.kIn,?_⟩) he hpl
 exact Fu F l g hd i c r q
end
structure aD(N P:List Str)(sc:Scope):Prop where
 kind:sc.kind=.function
 co:sc.isCoroutine=false
 gen:sc.isGenerator=false
 nd:N.Nodup
 pre:N.take P.length=P
 par:∀x∈P,sc.names.lookup x=some .local\/sc.names.lookup x=some .cell
 nofree:∀y∈sc.names,y.2≠.free
theorem uq{b:Str->Option NameKind}{x:Str}:∀{a:List (Str×Value)} {m:Str->Option Value},(∀v,(x,v)∉a)->bindL b a m x=m x
 | [],_,_=>rfl
 | (n,v)::r,m,h=>by
   unfold bindL
   rw[uq λw c=>h w (Qpq _ c)]
   split
   · have:x≠n:=by rintro rfl;exact h v QBq
     simp[this]
   · rfl
theorem uB{b:Str->Option NameKind}{x:Str}:∀{a:List (Str×Value)} {m:Str->Option Value},(∀v,(x,v)∉a)->bindC b a m x=m x
 | [],_,_=>rfl
 | (n,v)::r,m,h=>by
   unfold bindC
   rw[uB λw c=>h w (Qpq _ c)]
   split
   · rfl
   · have:x≠n:=by rintro rfl;exact h v QBq
     simp[this]
theorem t_{a:Str->Option NameKind}{x:Str}{v:Value}:∀{P:List Str} {vs:List Value} {i:Nat} {m:Str->Option Value},P.Nodup->P[i]?=some x->vs[i]?=some v->a x=some .local→
  bindL a (P.zip vs) m x=some v
 | [],_,_,_,_,h,_,_=>by simp at h
 |_::_,[],_,_,_,_,h,_=>by simp at h
 | p::P,w::vs,0,m,nd,h1,h2,hk=>by
   simp at h1 h2;subst h1;subst h2
   show bindL a ((p,w)::P.zip vs) m p=_
   unfold bindL
   rw[uq λv b=>(List.nodup_cons.mp nd).1 (QeQ b).1,Qhq hk]
   simp
 | p::P,w::vs,i+1,m,nd,h1,h2,hk=>by
   show bindL a ((p,w)::P.zip vs) m x=_
   unfold bindL
   exact t_ (i:=i) (List.nodup_cons.mp nd).2 (by simpa using h1) (by simpa using h2) hk
theorem uc{a:Str->Option NameKind}{x:Str}{v:Value}:∀{P:List Str} {vs:List Value} {i:Nat} {m:Str->Option Value},P.Nodup->P[i]?=some x->vs[i]?=some v->a x≠some .local→
  bindC a (P.zip vs) m x=some v
 | [],_,_,_,_,h,_,_=>by simp at h
 |_::_,[],_,_,_,_,h,_=>by simp at h
 | p::P,w::vs,0,m,nd,h1,h2,hk=>by
   simp at h1 h2;subst h1;subst h2
   show bindC a ((p,w)::P.zip vs) m p=_
   unfold bindC
   rw[uB λv b=>(List.nodup_cons.mp nd).1 (QeQ b).1,Quq hk]
   simp
 | p::P,w::vs,i+1,m,nd,h1,h2,hk=>by
   show bindC a ((p,w)::P.zip vs) m x=_
   unfold bindC
   exact uc (i:=i) (List.nodup_cons.mp nd).2 (by simpa using h1) (by simpa using h2) hk
def start(N:List Str)(vs:List V):St:=vs.map some++List.replicate (N.length-vs.length) none
def xH(CX:C7)(P:Program)(w:World)(K:PySem.W.Frag)(mg:Str->Option Value)(base:Heap)(N:List Str)(b:Str)(a:Scope)(f:Addr)(d:Value)(A:Around)(outer:List Env)(s:Shared)(H:Hp)(E:XK):Cx where
 prog:=P
 w:=w
 K:=K
 mg:=mg
 base:=base
 A:=A.deeper (envOfC b a s.heap.objs.size f d)
 N:=N
 s₀:=s
 H₀:=H
 env:=envOfC b a s.heap.objs.size f d
 outer:=outer
 stack:=envOfC b a s.heap.objs.size f d::outer
 ex:= []
 calm:=true
 fn:=λ_=>true
 pn:= []
 xe:=λe h=>wpAny (model P w) (A.deeper (envOfC b a s.heap.objs.size f d)) (leaving (envOfC b a s.heap.objs.size f d) e) (λ_ c=>CX outer H s E e c) (λg c=>CX outer H s E g c) h
def wN{a:Scope}{n:Nat}{x:Str}(h:a.names.lookup x=some .cell):∃c,(cellsFrom n a.names []).lookup x=some c:=by
 have q:=PySem.W.cellsFrom_some a.names n [] (.inl h)
 exact Option.isSome_iff_exists.mp q
def Cq{CX:C7}{P:Program}{w:World}{K:PySem.W.Frag}{mg:Str->Option Value}{base:Heap}{N ps:List Str}{g:Str}{d:Scope}{f:Addr}{C:Value}{A:Around}{outer:List Env}{s M:Shared}{H:Hp}{E:XK}{I:List Value}{vs:List V}
  (S:aD N ps d) (hd:A.handled=none) (l:G4 P w K mg base A outer s H) (hl:vs.length=ps.length) (r:bp vs I)
  (x:InCallC s s.heap.objs.size (bindL (envOfC g d s.heap.objs.size f C).kindOf (ps.zip I) λ_=>none) (cellsFrom (s.heap.objs.size+1) d.names []) (bindC (envOfC g d s.heap.objs.size f C).kindOf (ps.zip I) λ_=>none) M):
  Inv (xH CX P w K mg base N g d f C A outer s H E) [] (start N vs) H M:=by
 have R:ps.length<=N.length:=by have:=congrArg List.length S.pre;rw[Qxq] at this;omega
 obtain⟨F,X,rfl,hk⟩:=x.done
 have m:∀b:Addr,b∉(xH CX P w K mg base N g d f C A outer s H E).ex:=λb z=>absurd (show b∈([]:List Addr) from z) (by simp)
 refine⟨⟨l.mod,S.kind,rfl,rfl,Qmq _,λy z c F j=> ?_,λy o=> ?_,λy c _ h=> ?_,λ_=>hd,Around.frames_deeper l.frames,.inr ⟨rfl,rfl⟩,λb z=>absurd z (m b),l.bs,l.bsz,λb _ _=>m b,λb z=>absurd z (m b),l.funs,l.frf⟩,
  rfl,l.bare,Un.kept hk,⟨_,x.toInCall.ns,λi y v F j Y=> ?_⟩,λy c h=>⟨_,x.cell y c h⟩,l.hok.fresh (Qmq _),λy c h=> ?_,λp t=>absurd (show p∈([]:List (Addr×Obj)) from t) (by simp),l.hok.kept hk,?_⟩
 ·exact name_of_addr x.apart (PySem.mem_of_lookup F) (PySem.mem_of_lookup j)
 ·have o:d.names.lookup y=some .cell\/d.names.lookup y=some .free:=o
  rcases o with o|o
  ·exact wN o
  ·exact absurd rfl (S.nofree _ (PySem.mem_of_lookup o))
 ·exact nQl (x.above y c (PySem.mem_of_lookup h))
 ·have G:i<vs.length:=by
   unfold start at j
   by_cases G:i<vs.length
   ·exact G
   ·rw[QQq (by simpa using G)] at j
    rw[List.getElem?_replicate] at j
    split at j <;>cases j
  have U:vs[i]?=some v:=by
   unfold start at j
   rw[QHq (by simpa using G),gQm] at j
   cases e:vs[i]? with
   |none=>rw[e] at j;cases j
   |some a=>rw[e] at j;cases j;rfl
  obtain⟨u,J,Q⟩:=r.get U
  have t:ps[i]?=some y:=by
   rw[←S.pre,List.getElem?_take_of_lt (by omega)];exact F
  have B:ps.Nodup:=by rw[←S.pre];exact S.nd.sublist (List.take_sublist _ _)
  refine⟨u,Q,?_⟩
  rcases S.par y (mQg t) with k|k
  ·exact .inl ⟨k,t_ B t J k⟩
  ·obtain⟨c,e⟩:=wN (n:=s.heap.objs.size+1) k
   refine .inr ⟨.inl k,c,e,?_⟩
   have q:=x.cell y c e
   rw[uc B t J (by show d.names.lookup y≠_;rw[k];decide)] at q
   exact q
 ·exact l.hok.fresh (nQl (x.above y c (PySem.mem_of_lookup h)))
 ·unfold start
  show _=N.length
  rw[lQa,lQm,QIq]
  omega
def KN{CX:C7}{P:Program}{w:World}{K:PySem.W.Frag}{mg:Str->Option Value}{base:Heap}{k:Nat}{f:Addr}{name c:Str}{g:Arguments}{h:List Stmt}{a:Scope}{dV kV F pm d ct oc:Value}{an od:Option Addr}
  {R:Array (Option Value)} {N ps:List Str} {sp:Sp} (lk:K.lookup f=some ⟨oc,od,.func (PySem.W.fnOf name c g h a dV kV F pm an d ct),R⟩) (X:PySem.W.codeIn K d c=true) (S:aD N ps a)
  (len:∀vs H Q E,sp vs H Q E->vs.length=ps.length)
  (m:∀(A:Around) (outer:List Env) (s:Shared) (H:Hp) (vs:List V) (Q:VK) (E:XK),eE k (A.deeper (envOfC c a s.heap.objs.size f d))->sp vs H Q E→
   ∃t,pH (xH CX P w K mg base N c a f d A outer s H E) h t/\t {nx:=λ_ j=>Q .non j,rt:=Q} (start N vs) H):
  a_ P w K mg base CX (k+1) f (PySem.W.fnOf name c g h a dV kV F pm an d ct) ps sp:=by
 refine⟨len,λA outer s H Z us vs Q E M C hb r z=> ?_⟩
 have hl:=len _ _ _ _ z
 have KX:K.In s.heap:=C.mod.kin.keeps λb o e=>(C.bs b o e).1
 have G:s.heap.NoLimit:=C.mod.nolimit.keeps λb o e=>(C.bs b o e).1
 have l:∀y∈ps.zip us,a.names.lookup y.1=some .local\/(a.names.lookup y.1=some .cell/\((cellsFrom (s.heap.objs.size+1) a.names []).lookup y.1).isSome=true):=λ⟨n,v⟩ hy=>by
  rcases S.par n (QeQ hy).1 with q|q
  ·exact .inl q
  ·exact .inr ⟨q,PySem.W.cellsFrom_some _ _ _ (.inl q)⟩
 refine codeAny_call_function M.depth (KX _ _ lk) rfl S.co S.gen rfl (PySem.W.codeRec_of KX X) (hb _ _ _ _ ?_)
 refine wpAny_newFunctionEnv_cells S.kind l λa0 he s1 x=> ?_
 subst he
 refine⟨G.keeps x.toInCall.keep,codeAny_func ?_⟩
 obtain⟨t,ht,hq⟩:=m A outer s H vs Q E (M.deeper _) z
 have I:Inv (xH CX P w K mg base N c a f d A outer s H E) [] (start N vs) H s1:=Cq S M.hd C hl r x
 refine QRq (ht [] s1 (start N vs) H _ I hq) (λfl U p=> ?_) λe U p=>p
 have B:∀{i:St} {j:Hp} {v:V} {u:Value},Inv (xH CX P w K mg base N c a f d A outer s H E) [] i j U->RelV v u->Q v j->CE outer P w H s Q u U:=
  λ{i j v u} J Y q=>⟨v,j,J.os,J.bare,J.base,J.hok,Y,q⟩
 cases fl with
 | ret u=>
   obtain⟨v,i,j,J,Y,q⟩:=p
   exact B J Y q
 | next=>
   obtain⟨i,j,J,q⟩:=p
   exact B (v:=V.non) (u:=Value.none) J rfl q
 | brk=>
   obtain⟨_,_,_,q⟩:=p
   exact False.elim q
 | cont=>
   obtain⟨_,_,_,q⟩:=p
   exact False.elim q
section
variable{X:Cx}{x:Str}{p pos:Pos}{e:Expr}{es:List Expr}{t:TA}{id T:String}{r:List V->Hp->VK->Prop}
def LB(r:List V->Hp->VK->Prop)(t:TA):TE:=λa H Q=>t a H λb H1=>r b H1 Q
def iQ(g:gE X (.builtin id) r)(m:Gl X x)(d:X.mg x=none)(i:bootBuiltins x=some (.builtin id))(u:PA X (e::es) t)(o:x≠"__name__":=by decide)(b:(x==("__debug__":Str))=false:=by decide)
  (he:starEach (e::es) X.env=(false,eval e X.env)::starEach es X.env:=by rfl) (hpl:(backTo pos (starEach es X.env)).any (·.1)=false:=by rfl):PE X (.Call (.Name x p) (e::es) [] pos) (LB r t):=by
 intro a s c H Q I h
 refine wpAny_Call_Name_kw (i4 I m d i ?_ o b)
 exact PyProof.Rows.callWith_builtin1 (bW (u pos a s c H _ I h) λq l ⟨n,H1,k,j,f⟩=>g a l c H1 n q Q k j f) he hpl
def CI(g:gE X (.type T) r)(m:Gl X x)(d:X.mg x=none)(i:bootBuiltins x=some (.type T))(u:PA X (e::es) t)(o:x≠"__name__":=by decide)(b:(x==("__debug__":Str))=false:=by decide)
  (he:starEach (e::es) X.env=(false,eval e X.env)::starEach es X.env:=by rfl) (hpl:(backTo pos (starEach es X.env)).any (·.1)=false:=by rfl):PE X (.Call (.Name x p) (e::es) [] pos) (LB r t):=by
 intro a s c H Q I h
 refine wpAny_Call_Name_kw (i4 I m d i ?_ o b)
 exact PyProof.Rows.callWith_type1 (bW (u pos a s c H _ I h) λq l ⟨n,H1,k,j,f⟩=>g a l c H1 n q Q k j f) he hpl
def zd(j:gE X (.type T) r)(i:Gl X x)(g:X.mg x=none)(f:bootBuiltins x=some (.type T))(c:x≠"__name__":=by decide)(b:(x==("__debug__":Str))=false:=by decide):
  PE X (.Call (.Name x p) [] [] pos) (LB r Gi):=by
 intro a s d H Q I h
 refine wpAny_Call_Name_kw (i4 I i g f ?_ c b)
 exact PyProof.Rows.callWith_type0 (j a s d H [] [] Q I .nil h)
end
section
variable{κ:Type}[DecidableEq κ]
def nq(kvs:List (κ×V))(k:κ):Option V:=(kvs.find? λa=>decide (a.1=k)).map (·.2)
def putK(kvs:List (κ×V))(k:κ)(v:V):List (κ×V):=
 if (kvs.any λa=>decide (a.1=k))=true then kvs.map (λa=>if a.1=k then(a.1,v) else a) else kvs++ [(k,v)]
def rQ{p:κ×V}{r:List (κ×V)}{k:κ}(e:p.1=k):nq (p::r) k=some p.2:=by simp[nq,List.find?_cons,e]
def su{p:κ×V}{r:List (κ×V)}{k:κ}(e:¬p.1=k):nq (p::r) k=nq r k:=by simp[nq,List.find?_cons,e]
theorem xA(k:κ):∀kvs:List (κ×V),(kvs.any λkv=>decide (kv.1=k))=(nq kvs k).isSome
 | []=>rfl
 | p::r=>by
   rw[List.any_cons]
   by_cases e:p.1=k
   · simp only[rQ e,Qeq e,Bool.true_or,Option.isSome_some]
   · rw[su e,Qdq e,Bool.false_or];exact xA k r
def gZ(kvs:List (κ×V))(k:κ)(v:V):(putK kvs k v).length<=kvs.length+1:=by
 unfold putK
 split
 ·rw[lQm];omega
 ·rw[lQa,Qnq,QGq];omega
def sI.isSome_eq{o:Option V}{u:Option Value}(r:sI o u):o.isSome=u.isSome:=by
 cases o with
 | none=>cases u with
   |none=>rfl
   |some _=>exact(show False from r).elim
 | some _=>cases u with
   |none=>exact(show False from r).elim
   |some _=>rfl
def KV.val{kvs:List (κ×V)}{vs:List (κ×Value)}(r:KV kvs vs)(k:κ):sI (nq kvs k) (valueAt vs k):=by
 unfold KV at r
 induction r with
 |nil=>exact True.intro
 | @cons p q ps qs h t ih=>
   obtain⟨c,d⟩:=h
   by_cases e:p.1=k
   · have a:q.1=k:=c.symm.trans e
     have b:valueAt (q::qs) k=some q.2:=by simp[valueAt,List.find?_cons,a]
     rw[rQ e,b];exact d
   · have a:¬q.1=k:=λz=>e (c.trans z)
     have b:valueAt (q::qs) k=valueAt qs k:=by simp[valueAt,List.find?_cons,a]
     rw[su e,b];exact ih
theorem KV.any{kvs:List (κ×V)}{vs:List (κ×Value)}(r:KV kvs vs)(k:κ):(kvs.any λkv=>decide (kv.1=k))=vs.any λkv=>decide (kv.1=k):=by
 unfold KV at r
 induction r with
 |nil=>rfl
 |cons h t a=>rw[List.any_cons,List.any_cons,a,h.1]
def KV.repl{kvs:List (κ×V)}{vs:List (κ×Value)}(r:KV kvs vs)(k:κ){y:V}{u:Value}(c:RelV y u):
  KV (kvs.map λkv=>if kv.1=k then(kv.1,y) else kv) (vs.map λkv=>if kv.1=k then(kv.1,u) else kv):=by
 unfold KV at r⊢
 induction r with
 |nil=>exact .nil
 | @cons p q ps qs h t ih=>
   rw[QDq,QDq]
   refine .cons ?_ ih
   obtain⟨a,b⟩:=h
   by_cases e:p.1=k
   · rw[Qhq e,Qhq (a.symm.trans e)];exact⟨a,c⟩
   · rw[Quq e,Quq (λz=>e (a.trans z))];exact⟨a,b⟩
def KV.put{kvs:List (κ×V)}{vs:List (κ×Value)}(r:KV kvs vs)(k:κ){y:V}{u:Value}(a:RelV y u):KV (putK kvs k y) (stored vs k u):=by
 unfold putK stored
 rw[r.any k]
 by_cases e:(vs.any λb=>decide (b.1=k))=true
 ·rw[Qhq e,Qhq e];exact r.repl k a
 ·rw[Quq e,Quq e];exact Paired.snoc r ⟨rfl,a⟩
def KV.length{kvs:List (κ×V)}{vs:List (κ×Value)}(r:KV kvs vs):kvs.length=vs.length:=Paired.length r
end
def xr{P:Program}{w:World}{k:Key}{u:Value}(r:RelV (kV k) u):(bt P w).is k u=true:=by
 cases k with
 |inl i=>obtain⟨t,e⟩:=(show∃t,u=Value.int i t from r);subst e;exact yC P w i t
 |inr x=>obtain⟨t,e⟩:=(show∃t,u=Value.str x t from r);subst e;exact w4 P w x t
theorem ue{P:Program}{w:World}:∀{a:List Key} {b:List Value},bp (a.map kV) b->ItemsAre (bt P w) a b
 | [],_,r=>by rw[List.map_nil] at r;cases r;exact .nil
 | k::a,_,r=>by
   rw[QDq] at r
   cases r with
   |cons h t=>exact .cons (xr h) (ue t)
abbrev KT(H:Hp):List (List Key×V)->List (List Key×Addr×Value)->Prop:=Paired λp q=>p.1=q.1/\H q.2.1=some (.tup (p.1.map kV))/\RelV p.2 q.2.2
def KT.val{H:Hp}{kvs:List (List Key×V)}{xs:List (List Key×Addr×Value)}(r:KT H kvs xs)(k:List Key):sI (nq kvs k) ((atKey xs k).map (·.2)):=by
 induction r with
 |nil=>exact True.intro
 | @cons p q ps qs h t ih=>
   obtain⟨c,_,d⟩:=h
   by_cases e:p.1=k
   · have a:q.1=k:=c.symm.trans e
     have b:atKey (q::qs) k=some q.2:=by simp[atKey,List.find?_cons,a]
     rw[rQ e,b];exact d
   · have a:¬q.1=k:=λz=>e (c.trans z)
     have b:atKey (q::qs) k=atKey qs k:=by simp[atKey,List.find?_cons,a]
     rw[su e,b];exact ih
def KT.repl{H:Hp}{kvs:List (List Key×V)}{xs:List (List Key×Addr×Value)}(r:KT H kvs xs)(k:List Key){y:V}{u:Value}(d:RelV y u):
  KT H (kvs.map λkv=>if kv.1=k then(kv.1,y) else kv) (xs.map (putAt k u)):=by
 induction r with
 |nil=>exact .nil
 | @cons p q ps qs h t ih=>
   rw[QDq,QDq]
   refine .cons ?_ ih
   obtain⟨a,b,c⟩:=h
   unfold putAt
   by_cases e:p.1=k
   · rw[Qhq e,Qhq (a.symm.trans e)];exact⟨a,b,d⟩
   · rw[Quq e,Quq (λz=>e (a.trans z))];exact⟨a,b,c⟩
def KT.put{H:Hp}{kvs:List (List Key×V)}{xs:List (List Key×Addr×Value)}(r:KT H kvs xs)(k:List Key){b:Addr}{y:V}{u:Value}(d:H b=some (.tup (k.map kV)))(a:RelV y u):
  KT H (putK kvs k y) (storedH xs k b u):=by
 have e:(kvs.any λc=>decide (c.1=k))=(atKey xs k).isSome:=by
  rw[xA,(r.val k).isSome_eq,Option.isSome_map]
 unfold putK storedH
 rw[e]
 by_cases q:(atKey xs k).isSome=true
 ·rw[Qhq q,Qhq q];exact r.repl k a
 ·rw[Quq q,Quq q];exact Paired.snoc r ⟨rfl,d,a⟩
def KT.keeps{H a:Hp}{kvs:List (List Key×V)}{xs:List (List Key×Addr×Value)}(r:KT H kvs xs)(c:∀b ys,H b=some (.tup ys)->a b=some (.tup ys)):KT a kvs xs:=
 Paired.mapP r λ_ _ z=>⟨z.1,c _ _ z.2.1,z.2.2⟩
section
variable{P:Program}{w:World}{H:Hp}{h:Heap}{a:Addr}
def HS{u:HO}(ok:l9 P w H h)(e:Rd H a u):bI P w H h a u:=e.ok ok
def DS{kvs:List (Key×V)}(ok:l9 P w H h)(e:Rd H a (.dK kvs)):kvs.length<=sizeLine/\(a==sysModules)=false/\∃vs,KV kvs vs/\h.DictOf (bt P w) a vs:=
 show bI P w H h a (.dK kvs) from HS ok e
def yf{kvs:List (Key×V)}(ok:l9 P w H h)(e:H a=some (.dK kvs)):kvs.length<=sizeLine/\(a==sysModules)=false/\∃vs,KV kvs vs/\h.DictOf (bt P w) a vs:=DS ok (.inl e)
def zW{b:List Key}(ok:l9 P w H h)(e:H a=some (.tup (b.map kV))):(tupleKind (bt P w)).is h b a:=by
 obtain⟨_,c,r,o,g,d,_,n,f⟩:=(show bI P w H h a (.tup (b.map kV)) from ok a _ e)
 exact⟨o,c.toArray,n,g,d,f,by simpa using ue r⟩
def D8{kvs:List (List Key×V)}(ok:l9 P w H h)(e:Rd H a (.dT kvs)):kvs.length<=sizeLine/\(a==sysModules)=false∧
  ∃xs,KT H kvs xs/\h.DictOfH (tupleKind (bt P w)) a xs:=by
 obtain⟨z,y,xs,r,o,f,g,n,d,k,i,j⟩:=(show bI P w H h a (.dT kvs) from HS ok e)
 refine⟨z,y,xs,r,o,f,g,n,d,k,i,λx b=> ?_,j⟩
 have c:∀{l:List (List Key×V)} {m:List (List Key×Addr×Value)},KT H l m->∀x∈m,(tupleKind (bt P w)).is h x.1 x.2.1:=by
  intro l m q
  induction q with
  |nil=>intro x b;exact nomatch b
  | @cons p q ps qs hq t ih=>
    intro x b
    rcases Qsq.mp b with e|b
    · subst e
      exact zW ok (by rw[←hq.1];exact hq.2.1)
    · exact ih x b
 exact c r x b
def K8{kvs:List (List Key×V)}(ok:l9 P w H h)(e:H a=some (.dT kvs)):kvs.length<=sizeLine/\(a==sysModules)=false∧
  ∃xs,KT H kvs xs/\h.DictOfH (tupleKind (bt P w)) a xs:=D8 ok (.inl e)
end
def BO(H:Hp)(a:Addr)(y:V)(r:Option V):Prop:=
 (∃c k,Rd H a (.dK c)/\y=kV k/\r=nq c k)\/∃c k b,Rd H a (.dT c)/\y=.ref b/\H b=some (.tup (k.map kV))/\r=nq c k
def Du(H:Hp)(a:Addr)(y v:V)(d:Hp):Prop:=
 (∃c k,H a=some (.dK c)/\y=kV k/\c.length<sizeLine/\d=upd H a (.dK (putK c k v)))∨
 ∃c k b,H a=some (.dT c)/\y=.ref b/\H b=some (.tup (k.map kV))/\c.length<sizeLine/\d=upd H a (.dT (putK c k v))
def BO.k{H:Hp}{a:Addr}{kvs:List (Key×V)}{k:Key}(e:H a=some (.dK kvs)):BO H a (kV k) (nq kvs k):=.inl ⟨kvs,k,.inl e,rfl,rfl⟩
def Du.k{H:Hp}{a:Addr}{kvs:List (Key×V)}{k:Key}{v:V}(e:H a=some (.dK kvs))(hl:kvs.length<sizeLine):Du H a (kV k) v (upd H a (.dK (putK kvs k v))):=.inl ⟨kvs,k,e,rfl,hl,rfl⟩
section
variable{X:Cx}{pins:List (Addr×Obj)}{σ:St}{H:Hp}{s:Shared}{a:Addr}{y v:V}{u r:Value}{o:Option V}{A:Around}{E:Value->Shared->Prop}
def Inv.big(I:Inv X pins σ H s):sysModules<s.heap.objs.size:=by
 have h:mainGlobals<s.heap.objs.size:=(I.mod.glob.keeps I.bk).lt
 exact Nat.lt_trans (by decide) h
def B0{Q:Value->Shared->Prop}(x:A.units+1<cLine)(I:Inv X pins σ H s)(g:BO H a y (some v))(t:RelV y u)(h:∀f s',Inv X pins σ H s'->RelV v f->Q f s'):
  wpAny (model X.prog X.w) A (getItem (.ref a) u) Q E s:=by
 rcases g with⟨j,k,e,m,l⟩|⟨j,k,b,e,m,G,l⟩
 ·subst m
  obtain⟨z,F,J,d,q⟩:=DS I.hok e
  obtain⟨f,n,c⟩:=sI.some_of (v:=v) (o:=valueAt J k) (by rw[l];exact d.val k)
  exact wpAny_getItem_of (xr t) q.mapOf n (h f _ (I.tok _) c)
 ·subst m
  cases (show u=Value.ref b from t)
  obtain⟨z,F,C,d,q⟩:=D8 I.hok e
  obtain⟨f,n,c⟩:=sI.some_of (v:=v) (o:=(atKey C k).map (·.2)) (by rw[l];exact d.val k)
  obtain⟨p,B,i⟩:=oQm.mp n
  refine wpAny_getItem_heap (tupleKind_room_in1 x) (zW I.hok G) q B ?_
  rw[i]
  exact h f _ (I.tok _) c
def p8{h':Heap}{t':Nat}{c:HO}(I:Inv X pins σ H s)(f:LA (H a))(d:Heap.SameBut a s.heap h')(he:∃q,h'.get? a=some q)(new:bI X.prog X.w (upd H a c) h' a c):
  Inv X pins σ (upd H a c) {s with heap:=h',toks:=t'}:=
 I.write (x:=a) (e:=a) f (.inl rfl) (λb q g z=>(d.2 b g).trans z) he new
def sN{P:Program}{w:World}{d:Hp}{h':Heap}{kvs:List (Key×V)}{vs:List (Key×Value)}(z:kvs.length<=sizeLine)(hd:(a==sysModules)=false)(b:KV kvs vs)(c:h'.DictOf (bt P w) a vs):
  bI P w d h' a (.dK kvs):=⟨z,hd,vs,b,c⟩
def BZ{C:Hp}{Q:Unit->Shared->Prop}(P:A.units+1<cLine)(I:Inv X pins σ H s)(g:Du H a y v C)(F:RelV y u)(K:RelV v r)(h:∀s',Inv X pins σ C s'->Q () s'):
  wpAny (model X.prog X.w) A (setItem (.ref a) u r) Q E s:=by
 rcases g with⟨d,k,e,p,l,t⟩|⟨d,k,b,e,p,G,l,t⟩
 ·subst p t
  obtain⟨z,m,Y,f,x⟩:=yf I.hok e
  have B:Y.length<=sizeLine:=by rw[←f.length];exact z
  have hl:(putK d k v).length<=sizeLine:=by have:=gZ d k v;omega
  refine wpAny_setItem_pairs (hsz:=B) (xr F) x λM i n=>h _ ?_
  have he:∃q,M.get? a=some q:=let ⟨q,_,_,j,_⟩:=i;⟨q,j⟩
  exact p8 I (by rw[e];exact True.intro) n he (sN hl m (f.put k K) i)
 ·subst p t
  cases (show u=Value.ref b from F)
  obtain⟨z,m,S,f,x⟩:=K8 I.hok e
  have B:S.length<=sizeLine:=by rw[←Paired.length f];exact z
  have hl:(putK d k v).length<=sizeLine:=by have:=gZ d k v;omega
  refine wpAny_setItem_heap (hsz:=B) (tupleKind_room_in1 P) (zW I.hok G) x λM i n=>h _ ?_
  obtain⟨q,R,U,j,N,h3,W,_,Z⟩:=i
  refine p8 I (by rw[e];exact True.intro) n ⟨q,j⟩ ⟨hl,m,_,(f.put k G K).keeps λc ys J=> ?_,q,R,U,j,N,h3,W,Z⟩
  rw[aN (Ec J e (λz=>nomatch z))]
  exact J
end
def FU(i:Expr):Prop:=∀b a,subscripted i false b a=operate [b,a] (getItem b a)
def AA{prog:Program}{w:World}{A:Around}{E:Value->Shared->Prop}{s:Shared}{env:Env}{b a:Expr}{pos:Pos}{T id:String}{Q:Value->Shared->Prop}
  (hl:typeLookup (.type T) "__getitem__"=pure (some (.builtin id))) (m:FU a)
  (h:wpAny (model prog w) A (eval b env) (λo e=>wpAny (model prog w) A (eval a env) (λi c=>c.TypeIs o T/\wpAny (model prog w) A (getItem o i) Q E c) E e) E s):
  wpAny (model prog w) A (eval (.Subscript b a pos) env) Q E s:=by
 refine Subscript_ (QRq h (λo e j=>QRq j (λi c d=> ?_) λ_ _ x=>x) λ_ _ x=>x)
 obtain⟨l,d⟩:=d
 unfold subscriptTail
 refine Qaq ?_
 rw[getitemInPython_of_ne l.not_modules]
 refine Qaq (wpAny_specialOf l hl ?_)
 have g:wpAny (model prog w) A (subscripted a false o i) (λr f=>wpAny (model prog w) A (letTemporaryGo b o r >>= λ_=>pure r) Q E f) E c:=by
  rw[m o i]
  exact wpAny_operating (QRq d (λr f k=>Qaq (wpAny_letTemporaryGo (Qgq k))) λ_ _ x=>x)
 first
  |exact Qgq (Qaq g)
  |exact Qaq (Qgq (Qaq g))
  |exact Qaq g
def yO{X:Cx}{c:List (Addr×Obj)}{h:St}{H:Hp}{s:Shared}{a:Addr}{y:V}{o:Option V}(I:Inv X c h H s)(g:BO H a y o):s.TypeIs (.ref a) "dict":=by
 rcases g with⟨f,k,e,_,_⟩|⟨f,k,b,e,_,_,_⟩
 ·obtain⟨_,_,i,_,d⟩:=DS I.hok e
  exact d.typeIs
 ·obtain⟨_,_,j,_,d⟩:=D8 I.hok e
  exact d.typeIs
def Lk(c d:TE):TE:=λb H Q=>c b H λx H1=>d b H1 λy H2=>∃a v,x=.ref a/\BO H2 a y (some v)/\Q v H2
def KJ(c d e:TE):TS:=λD b H=>e b H λv H1=>c b H1 λx H2=>d b H2 λy H3=>∃a H4,x=.ref a/\Du H3 a y v H4/\D.nx b H4
section
variable{X:Cx}{o i e value:Expr}{pos pos' tpos:Pos}{td ty tv:TE}
def F0(k:X.A.units+1<cLine)(z:PE X o td)(hi:PE X i ty)(p:FU i):PE X (.Subscript o i pos) (Lk td ty):=by
 intro b s f H Q I h
 refine AA PySem.F.slot_dict_getitem.lookup p (bW (z b s f H _ I h) λu r ⟨x,H1,q,w,n⟩=>bW (hi b r f H1 _ q n) λG C j=> ?_)
 obtain⟨y,H2,d,m,a,v,l,g,B⟩:=j
 subst l
 obtain rfl:u=Value.ref a:=w
 exact⟨yO d g,B0 k d g m λK J t c=>⟨v,H2,t,c,B⟩⟩
def FW(d:X.A.units+1<cLine)(G:PE X o td)(hi:PE X i ty)(n:PE X value tv)(l:swapsWith value (some (.Subscript o i pos')) pos.line X.env=pure false):
  PS X (.Assign [.Subscript o i pos'] value pos) (KJ td ty tv):=by
 intro b s c H D I h
 refine wpAny_Assign_Subscript (bW (n b s c H _ I h) λr q ⟨v,H1,p,F,j⟩=>bW (G b q c H1 _ p j) λu z ⟨x,H2,m,B,J⟩=>bW (hi b z c H2 _ m J) λM N ⟨y,H3,w,k,a,H4,f,g,t⟩=> ?_) l
 subst f
 obtain rfl:u=Value.ref a:=B
 exact BZ d w g k F λK C=>⟨c,H4,C,t⟩
end
def EG{P:Program}{w:World}{H:Hp}(h:Heap)(a:sysModules<h.objs.size):bI P w H (h.push {cls:=.type "dict",data:=.dict #[]}) h.objs.size (.dK []):=
 ⟨Nat.zero_le _,beq_eq_false_iff_ne.mpr (Ne.symm (Qwq a)),[],.nil,Heap.DictOf.new h⟩
def Jh:TE:=λ_ H Q=>∀p,H p=none->Q (.ref p) (upd H p (.dK []))
section
variable{X:Cx}{pos:Pos}
def Dc:PE X (.Dict [] [] pos) Jh:=λb s c H Q I h=>
 wpAny_Dict_empty ⟨.ref s.heap.objs.size,_,I.laid (a:=s.heap.objs.size) (o:=.dK []) (t':=s.toks) (λ_ _ q=>Qcq _ q) (Qmq _) (EG s.heap I.big),rfl,h _ (I.hok.fresh (Qmq _))⟩
end
def je(kvs more:List (Key×V)):List (Key×V):=more.foldl (λa b=>putK a b.1 b.2) kvs
def KV.merge:∀{more:List (Key×V)} {rs:List (Key×Value)} {kvs:List (Key×V)} {vs:List (Key×Value)},KV more rs->KV kvs vs->KV (je kvs more) (merged vs rs):=by
 intro more rs kvs vs r
 unfold KV at r
 induction r generalizing kvs vs with
 |nil=>intro q;exact q
 | @cons p q ps qs h t ih=>
   intro a
   have e:KV (putK kvs p.1 p.2) (stored vs q.1 q.2):=by
     have:=a.put p.1 h.2
     rw[←h.1];exact this
   exact ih e
theorem ia:∀(more kvs:List (Key×V)),(je kvs more).length<=kvs.length+more.length
 | [],kvs=>by show kvs.length<=kvs.length+0;omega
 | p::r,kvs=>by
   have b:=ia r (putK kvs p.1 p.2)
   have a:=gZ kvs p.1 p.2
   show(je (putK kvs p.1 p.2) r).length<=_
   rw[Qnq];omega
end L2
namespace HT
open PySem PyProof.Rows
section
open PySem.SeqAt
open PySem.AutoSeq1 (wpAny_loadPart')
open PySem.MeetsSeq PySem.MeetsSeq2 PySem.MeetsSeq3
end
section
variable{prog:Program}{w:World}{A:Around}{E:Value->Shared->Prop}{s:Shared}
def Hl{t b:Addr}{vs ws:List Value}{Q:Value->Shared->Prop}(x:IsTup s.heap t vs.toArray)(u:IsTup s.heap b ws.toArray)(o:vs≠[])
  (v:ws= []->Q (.ref t) s) (r:ws≠[]->Q (.ref s.heap.objs.size) {s with heap:=s.heap.push {cls:=.type "tuple",data:=.seq (vs++ws).toArray}})
  (hsz:vs.length+ws.length<=sizeLine):wpAny (model prog w) A (binaryOp .Add (.ref t) (.ref b)) Q E s:=by
 obtain⟨⟨cls,q,data,sl⟩,i,l,n,m⟩:=id x
 obtain⟨⟨p,g,j,f⟩,a,d,k,c⟩:=id u
 simp only at l m d c
 subst l m d c
 have e:vs.toArray++ws.toArray=(vs++ws).toArray:=by simp
 by_cases h:ws= []
 ·exact concat_meets ⟨_,i,rfl⟩ ⟨_,a,rfl⟩ noFill_tuple_add seq_tuple_add PySem.F.slot_tuple_add PySem.F.entry_tuple_add (PySem.F.args_tuple_add_2 _ _)
   (tuple_addW1 t b vs.toArray ws.toArray n k q g sl f (by simpa using o) (by simp[h])) ⟨i,a,v h⟩
 ·refine concat_meets ⟨_,i,rfl⟩ ⟨_,a,rfl⟩ noFill_tuple_add seq_tuple_add PySem.F.slot_tuple_add PySem.F.entry_tuple_add (PySem.F.args_tuple_add_2 _ _)
   (tuple_addW2 t b vs.toArray ws.toArray n k q g sl f (by simpa using o) (by simpa using h) (by rw[Qjq,Qjq];exact hsz)) ⟨i,a,?_⟩
  rw[e]
  exact r h
def dW(n d:Nat):Option Int->Nat
 |none=>d
 |some v=>if v<0 then(v+(n:Int)).toNat else min v.toNat n
def se(n d:Nat):dW n d none=d:=rfl
def Ak(n d k:Nat):dW n d (some (k:Int))=min k n:=by
 show(if (k:Int)<0 then((k:Int)+(n:Int)).toNat else min (k:Int).toNat n)=min k n
 rw[Quq (by omega),Int.toNat_natCast]
def IY(n d:Nat)(hd:d<=n)(o:Option Int):dW n d o<=n:=by
 cases o with
 |none=>exact hd
 | some v=>
   show(if v<0 then(v+(n:Int)).toNat else min v.toNat n)<=n
   by_cases a:v<0
   · rw[Qhq a];omega
   · rw[Quq a];exact Nat.min_le_right _ _
def AK(v:Int)(n d:Nat):(if v<0 then max (v+(n:Int)) 0 else min v (n:Int))=((dW n d (some v):Nat):Int):=by
 show(if v<0 then max (v+(n:Int)) 0 else min v (n:Int))=(((if v<0 then(v+(n:Int)).toNat else min v.toNat n):Nat):Int)
 by_cases a:v<0
 ·simp only[Qhq a];omega
 ·simp only[Quq a];omega
def zp(lo hi:Option Int)(n:Nat):Builtin.Slice.sliceAdjust lo hi 1 (n:Int)=(((dW n 0 lo:Nat):Int),((dW n n hi:Nat):Int)):=by
 have a:¬((1:Int)<0):=by omega
 unfold Builtin.Slice.sliceAdjust
 simp only[a,if_false]
 refine Prod.ext ?_ ?_
 ·cases lo with
  |none=>rfl
  |some v=>exact AK v n 0
 ·cases hi with
  |none=>rfl
  |some v=>exact AK v n n
def zK(i j:Nat):Builtin.Slice.slicePlaces (i:Int) (j:Int) 1=j-i:=by
 unfold Builtin.Slice.slicePlaces
 have a:(1:Int)>0:=by omega
 simp only[a,if_true,Int.ediv_one]
 split <;>omega
def qd{v:Value}{o:Option Int}{Q:Option Int->Shared->Prop}(p:IsPart v o)(h:Q o s):wpAny (model prog w) A (Builtin.Slice.slicePartIndex v) Q E s:=by
 cases p with
 |none=>exact slicePart_none h
 |int i t=>exact slicePart_int h
def iz{sl:Addr}{c d:Value}{lo hi:Option Int}{n:Nat}{Q:Int×Int×Nat->Shared->Prop}(e:s.heap.IsSliceOf sl c d .none)(f:IsPart c lo)(g:IsPart d hi)
  (h:Q (((dW n 0 lo:Nat):Int),1,dW n n hi-dW n 0 lo) s):wpAny (model prog w) A (Builtin.Slice.sliceApplied (.ref sl) (pure (n:Int))) Q E s:=by
 obtain⟨j,a,i,b⟩:=id e
 unfold Builtin.Slice.sliceApplied Builtin.Slice.sliceFields
 refine Qaq (Qaq (QMq a b (x:=c) rfl (Qaq (QMq a b (x:=d) rfl (Qaq (QMq a b (x:=.none) rfl (Qgq ?_)))))))
 refine Qaq (slicePart_none ?_)
 show wpAny _ _ (if ((1:Int)==0)=true then _ else _) _ _ s
 rw[Quq (by decide)]
 refine Qaq (qd f (Qaq (qd g (Qaq (Qgq ?_)))))
 show wpAny _ _ (match Builtin.Slice.sliceAdjust lo hi 1 (n:Int) with|(lo,hi)=>pure (lo,(1:Int),Builtin.Slice.slicePlaces lo hi 1)) _ _ s
 rw[zp lo hi n]
 show wpAny _ _ (pure (((dW n 0 lo:Nat):Int),(1:Int),Builtin.Slice.slicePlaces ((dW n 0 lo:Nat):Int) ((dW n n hi:Nat):Int) 1)) _ _ s
 rw[zK]
 exact Qgq h
def Dx(xs:Array Value)(i k:Nat):((List.range k).filterMap λ(m:Nat)=>xs[((i:Int)+(m:Int)*1).toNat]?).toArray=((xs.toList.drop i).take k).toArray:=by
 have e:(λ(m:Nat)=>xs[((i:Int)+(m:Int)*1).toNat]?)=λm=>xs[i+m]? :=by
  funext m
  have:((i:Int)+(m:Int)*1).toNat=i+m:=by omega
  rw[this]
 rw[e]
 have:=pick_run xs i k
 rw[List.filterMap_map] at this
 have a:((λx=>xs[x]?)∘λx=>i+x)=λm=>xs[i+m]? :=rfl
 rw[a] at this
 rw[this]
def mF{t sl:Addr}{items:Array Value}{g i:Value}{lo hi:Option Int}{Q:Value->Shared->Prop}(b:IsTup s.heap t items)(j:s.heap.IsSliceOf sl g i .none)(p:IsPart g lo)(l:IsPart i hi)
  (k:¬(dW items.size 0 lo=0/\dW items.size items.size hi=items.size))
  (h:Q (.ref s.heap.objs.size) {s with heap:=s.heap.push {cls:=.type "tuple",data:=.seq ((items.toList.drop (dW items.size 0 lo)).take (dW items.size items.size hi-dW items.size 0 lo)).toArray}})
  (hsz:items.size<=sizeLine):wpAny (model prog w) A (getItem (.ref t) (.ref sl)) Q E s:=by
 have a:sizeOk (.seq ((items.toList.drop (dW items.size 0 lo)).take (dW items.size items.size hi-dW items.size 0 lo)).toArray):=by
  show((items.toList.drop (dW items.size 0 lo)).take (dW items.size items.size hi-dW items.size 0 lo)).toArray.size<=sizeLine
  rw[Qjq,Qxq,List.length_drop,Array.length_toList]
  omega
 have v:dW items.size items.size hi<=items.size:=IY _ _ (Qmq _) hi
 obtain⟨n,e,c,o⟩:=id j
 have d:s.TypeIs (.ref sl) "slice":=⟨n,e,c⟩
 unfold getItem
 try with_reducible refine QLq ?_
 first|refine Qaq (Qgq ?_)|skip
 refine Qaq (wpAny_sequenceKey b.typeIs (by decide) ?_)
 refine Qaq (QiQ (name:=Str.ofString "__getitem__") b.typeIs PyProof.Rows.slot_tuple_getitem
  (wpAny_call_entry PyProof.Rows.slot_tuple_getitem b.typeIs entry_tuple_getitem ?_ (args_tuple_getitem _ _)))
 show wpAny _ _ (Builtin.Tuple.tupleItemsOf (.ref t) >>= _) _ _ s
 refine Qaq (tupleItemsOf_ b ?_)
 refine Qaq (wpAny_typeOf d ?_)
 rw[Qhq (by decide)]
 refine Qaq (iz j p l ?_)
 have f:¬((((dW items.size 0 lo:Nat):Int)==0&&(1:Int)==1&&(dW items.size items.size hi-dW items.size 0 lo)==items.size)=true):=by
  intro q
  rw[QCq,QCq] at q
  have r:((dW items.size 0 lo:Nat):Int)=0:=eq_of_beq q.1.1
  have u:dW items.size items.size hi-dW items.size 0 lo=items.size:=eq_of_beq q.2
  exact k ⟨by omega,by omega⟩
 show wpAny _ _ (if (((dW items.size 0 lo:Nat):Int)==0&&(1:Int)==1&&(dW items.size items.size hi-dW items.size 0 lo)==items.size)=true then _ else _) _ _ s
 rw[Quq f,Dx]
 first
  |exact Qaq (m:=Builtin.Tuple.tupleExact _) (QhQ (Qgq ⟨_,rfl,Qgq h⟩) a)
  |exact Qaq (m:=Builtin.Tuple.tupleExact _) (QhQ (Qaq (Qgq (Qgq ⟨_,rfl,Qgq h⟩))) a)
  |exact Qaq (Qaq (m:=Builtin.Tuple.tupleExact _) (QhQ (Qgq (Qgq ⟨_,rfl,Qgq h⟩)) a))
  |exact Qaq (Qaq (m:=Builtin.Tuple.tupleExact _) (QhQ (Qgq ⟨_,rfl,Qgq h⟩) a))
end
end HT
namespace L2
open PySem PySem.Spec PyProof.Rows
abbrev TO:=St->Hp->(Option Int->Hp->Prop)->Prop
def PO(X:Cx)(e:Option Expr)(t:TO):Prop:=
 ∀ (a:List (Addr×Obj)) (s:Shared) (b:St) (H:Hp) (Q:Option Int->Hp->Prop),Inv X a b H s->t b H Q→
   wpAny (model X.prog X.w) X.A (evalPart e X.env) (λu d=>∃o c,Inv X a b c d/\IsPart u o/\Q o c) X.xe s
def FY:TO:=λ_ H Q=>Q none H
def KM(t:TE):TO:=λa H Q=>t a H λx H1=>∃i,x=.int i/\Q (some i) H1
def intsAre_of{ns:List Int}:∀{a:List Value},bp (ns.map V.int) a->IntsAre a ns:=by
 induction ns with
 |nil=>intro a r;rw[List.map_nil] at r;cases r;exact .nil
 | cons n ns c=>
   intro a r
   rw[QDq] at r
   cases r with
   | cons d b=>
     obtain⟨t,e⟩:=d
     subst e
     exact .cons n t (c b)
section
variable{X:Cx}{e:Expr}{te:TE}{lo hi:Option Expr}{tl th:TO}{pos p2:Pos}
def G0:PO X none FY:=by
 intro a s b H Q I h
 rw[evalPart_none]
 exact Qgq ⟨none,H,I,.none,h⟩
def Gx(h:PE X e te):PO X (some e) (KM te):=by
 intro a s d H Q I c
 rw[evalPart_some]
 refine bW (h a s d H _ I c) λu k b=> ?_
 obtain⟨x,H1,j,f,g⟩:=b
 obtain⟨i,rfl,q⟩:=g
 obtain⟨t,rfl⟩:=f
 exact⟨some i,H1,j,.int i t,q⟩
def NN(X:Cx)(r:V->Option Int->Option Int->Hp->VK->Prop):Prop:=
 ∀ (a:List (Addr×Obj)) (s:Shared) (c:St) (H:Hp) (x:V) (v b d:Value) (lo hi:Option Int) (sl:Addr) (Q:VK),Inv X a c H s->RelV x v->s.heap.IsSliceOf sl b d .none->IsPart b lo->IsPart d hi->r x lo hi H Q→
   ∃T id,typeLookup (.type T) "__getitem__"=pure (some (.builtin id))/\s.TypeIs v T/\wpAny (model X.prog X.w) X.A (getItem v (.ref sl)) (EP X a c Q) X.xe s
def OU(r:V->Option Int->Option Int->Hp->VK->Prop)(te:TE)(tl th:TO):TE:=λa H Q=>te a H λx H1=>tl a H1 λl H2=>th a H2 λu H3=>r x l u H3 Q
def EU{r:V->Option Int->Option Int->Hp->VK->Prop}(y:NN X r)(he:PE X e te)(hl:PO X lo tl)(j:PO X hi th):PE X (.Subscript e (.Slice lo hi none p2) pos) (OU r te tl th):=by
 intro a s d H Q I h
 refine Subscript_ (bW (he a s d H _ I h) λv t i=> ?_)
 obtain⟨x,H1,p,o,k⟩:=i
 refine wpAny_Slice (bW (hl a t d H1 _ p k) λf C ⟨l,H2,m,G,J⟩=>bW (j a C d H2 _ m J) λg c i=> ?_)
 obtain⟨u,H3,B,n,z⟩:=i
 rw[evalPart_none]
 refine Qgq ?_
 have F:Inv X a d H3 {c with heap:=c.heap.push {cls:=.type "slice",data:=.fields #[f,g,.none]}}:=B.kept (t':=c.toks) λb K q=>Qcq _ q
 obtain⟨T,id,hT,ht,hg⟩:=y a {c with heap:=c.heap.push {cls:=.type "slice",data:=.fields #[f,g,.none]}} d H3 x v f g l u c.heap.objs.size Q F o (Heap.IsSliceOf.new ..) G n z
 show wpAny (model X.prog X.w) X.A (subscriptTail e (.Slice lo hi none p2) v (.ref c.heap.objs.size)) (EP X a d Q) X.xe {c with heap:=c.heap.push {cls:=.type "slice",data:=.fields #[f,g,.none]}}
 exact tail_any (ops:= [.ref c.heap.objs.size,v]) ht hT hg (by with_unfolding_all rfl)
def zy(xs:List V)(lo hi:Option Int):List V:=(xs.drop (HT.dW xs.length 0 lo)).take (HT.dW xs.length xs.length hi-HT.dW xs.length 0 lo)
def xa(xs:List V)(lo hi:Option Int):(zy xs lo hi).length<=xs.length:=by
 unfold zy
 rw[Qxq,List.length_drop]
 omega
def NV(K:PySem.W.Frag):V->Option Int->Option Int->Hp->VK->Prop:=λx lo hi H Q=>∃a b,x=.ref a/\gr K H a b∧
 ¬(HT.dW b.length 0 lo=0/\HT.dW b.length b.length hi=b.length)/\∀p,H p=none->Q (.ref p) (upd H p (.tup (zy b lo hi)))
def Ja:NN X (NV X.K):=by
 intro g s w H x v p t lo hi sl Q I m k n l h
 obtain⟨a,d,rfl,hx,hw,q⟩:=h
 cases m
 obtain⟨f,r,j,i⟩:=I.tuple hx
 have c:f.toArray.size=d.length:=by rw[Qjq];exact r.length.symm
 refine⟨"tuple",_,PyProof.Rows.slot_tuple_getitem.lookup,j.typeIs,?_⟩
 refine HT.mF j k n l (by rw[c];exact hw) ?_ (by rw[c];exact i)
 rw[c]
 refine⟨.ref s.heap.objs.size,_,I.laid (t':=s.toks) (o:=.tup (zy d lo hi)) (λb u q=>Qcq _ q) (Qmq _) ?_,rfl,q _ (I.hok.fresh (Qmq _))⟩
 exact⟨QAq (xa d lo hi) i,_,(r.drop (HT.dW d.length 0 lo)).take (HT.dW d.length d.length hi-HT.dW d.length 0 lo),tN.new _ _⟩
def HU(K:PySem.W.Frag):R2:=λx y H Q=>∃a b d c,x=.ref a/\y=.ref b/\gr K H a d/\gr K H b c/\d≠[]/\d.length+c.length<=sizeLine∧
 (c= []->Q (.ref a) H)/\(c≠[]->∀p,H p=none->Q (.ref p) (upd H p (.tup (d++c))))
def bp.nil_iff{xs:List V}{a:List Value}(r:bp xs a):a= []↔xs= []:=by
 cases r with
 |nil=>simp
 |cons _ _=>simp
def Gs:kg X (binaryOp .Add) (HU X.K):=by
 intro g s r H x y v u Q I m k h
 obtain⟨a,b,j,n,rfl,rfl,ha,hb,hx,hz,q1,q2⟩:=h
 cases m
 cases k
 obtain⟨l,d,i,_⟩:=I.tuple ha
 obtain⟨f,c,p2,_⟩:=I.tuple hb
 refine HT.Hl i p2 (λz=>hx (d.nil_iff.mp z)) (λz=>⟨.ref a,H,I,rfl,q1 (c.nil_iff.mp z)⟩) (λz=> ?_) (by rw[←d.length,←c.length];exact hz)
 refine⟨.ref s.heap.objs.size,_,I.laid (t':=s.toks) (o:=.tup (j++n)) (λb p q=>Qcq _ q) (Qmq _) ?_,rfl,q2 (λw=>z (c.nil_iff.mpr w)) _ (I.hok.fresh (Qmq _))⟩
 exact⟨by rw[lQa];exact hz,_,d.append c,tN.new _ _⟩
end
def FF(n:Nat)(i:Int):Option Nat:=if 0<=i then(if i<n then some i.toNat else none) else if -(n:Int)<=i then some (i+n).toNat else none
def mY{α:Type}(xs:List α)(i:Int):Option α:=(FF xs.length i).bind λj=>xs[j]?
def Bb{n:Nat}{i:Int}{j:Nat}(h:FF n i=some j):seqIndex? i n=some j/\j<n/\ -(n:Int)<=i/\i<n:=by
 unfold FF at h
 by_cases b:0<=i
 ·rw[Qhq b] at h
  by_cases a:i<n
  ·rw[Qhq a] at h
   have e:i.toNat=j:=QdQ h
   exact⟨by rw[seqIndex_of b a,e],by omega,by omega,a⟩
  ·rw[Quq a] at h;cases h
 ·rw[Quq b] at h
  by_cases a: -(n:Int)<=i
  ·rw[Qhq a] at h
   have e:(i+n).toNat=j:=QdQ h
   exact⟨by rw[seqIndex_neg (by omega) a,e],by omega,a,by omega⟩
  ·rw[Quq a] at h;cases h
def v7{α:Type}{xs:List α}{i:Int}{v:α}(h:mY xs i=some v):∃j,seqIndex? i xs.length=some j/\xs[j]?=some v/\j<xs.length/\ -(xs.length:Int)<=i/\i<xs.length:=by
 unfold mY at h
 cases e:FF xs.length i with
 |none=>rw[e] at h;cases h
 | some j=>
   rw[e] at h
   obtain⟨d,a,c,b⟩:=Bb e
   exact⟨j,d,h,a,c,b⟩
def AS(b:Expr):Prop:=∀o i,subscripted b false o i=operate [o,i] (getItem o i)
def GZ(X:Cx)(r:R2):Prop:=
 ∀ (c a:Expr) (b:List (Addr×Obj)) (s:Shared) (d:St) (H:Hp) (x y:V) (v u:Value) (Q:VK),Inv X b d H s->RelV x v->RelV y u->r x y H Q→
   subscripted a false v u=operate [v,u] (getItem v u)->wpAny (model X.prog X.w) X.A (subscriptTail c a v u) (EP X b d Q) X.xe s
def K4(X:Cx)(id:String)(r:V->List V->Hp->VK->Prop):Prop:=
 ∀ (a:List (Addr×Obj)) (s:Shared) (b:St) (H:Hp) (x:V) (c:List V) (v:Value) (d:List Value) (Q:VK),Inv X a b H s->RelV x v->bp c d->r x c H Q→
   wpAny (model X.prog X.w) X.A (call (.builtin id) (v::d)) (EP X a b Q) X.xe s
section
variable{X:Cx}{a b:Expr}{ta tb:TE}{pos:Pos}
def GZ.or{r k:R2}(h:GZ X r)(h':GZ X k):GZ X (λx y H Q=>r x y H Q\/k x y H Q):=by
 intro d c e s j H x y v u Q I i f q g
 rcases q with q|q
 ·exact h d c e s j H x y v u Q I i f q g
 ·exact h' d c e s j H x y v u Q I i f q g
def LX{r:R2}(i:GZ X r)(m:PE X a ta)(d:PE X b tb)(f:AS b):PE X (.Subscript a b pos) (Kq r ta tb):=by
 intro c s l H Q I h
 exact Subscript_ (Ke m d I h λv u j x y H2 g k e q=>i a b c j l H2 x y v u Q g k e q (f _ _))
def LW(K:PySem.W.Frag):R2:=λx y H Q=>∃p c i v,x=.ref p/\y=.int i/\jC K H p c/\mY c i=some v/\Q v H
def La(K:PySem.W.Frag):R2:=λx y H Q=>∃p c i v,x=.ref p/\y=.int i/\gr K H p c/\mY c i=some v/\Q v H
def Lw:R2:=λx y H Q=>∃z i c,x=.str z/\y=.int i/\z.length<=sizeLine/\mY z.cps.toList i=some c/\Q (.str ⟨#[c]⟩) H
def F8:GZ X (LW X.K):=by
 intro g f c s C H x y v u Q I P G h o
 obtain⟨p,R,i,z,rfl,rfl,hq,he,q⟩:=h
 cases P
 obtain⟨t,rfl⟩:=G
 obtain⟨l,r,m,U⟩:=I.list hq
 obtain⟨j,e,F,W,J,N⟩:=v7 he
 obtain⟨w,B,k⟩:=r.get F
 have hl:=r.length
 have S:=lq
 have d:EP X c C Q w s:=⟨z,H,I,k,q⟩
 by_cases A:0<=i
 ·have n:i.toNat=j:=by
   rw[seqIndex_of A N] at e
   exact QdQ e
  exact item_listR m.isList A (by omega) (by rw[n];simpa using B) d o
 ·have n:(i+(l.toArray.size:Int)).toNat=j:=by
   rw[seqIndex_neg (by omega) J] at e
   rw[Qjq,←hl]
   exact QdQ e
  exact subscriptTail_builtinR (x:=w) m.isList.typeIs slot_list_getitem.lookup
   (wpAny_getItem_list_neg (Q:=λr M=>r=w/\EP X c C Q r M) m.isList (by omega) (by rw[Qjq] <;>omega) (by omega) (by rw[n];simpa using B) ⟨rfl,d⟩) o
def Ju:GZ X (La X.K):=by
 intro f d c s l H x y v u Q I C n h o
 obtain⟨p,J,i,z,rfl,rfl,hq,he,q⟩:=h
 cases C
 obtain⟨t,rfl⟩:=n
 obtain⟨A,r,k,R⟩:=I.tuple hq
 obtain⟨j,G,m,S,M,N⟩:=v7 he
 obtain⟨w,F,g⟩:=r.get m
 have hl:=r.length
 have P:=lq
 have e:EP X c l Q w s:=⟨z,H,I,g,q⟩
 exact subscriptTail_builtinR (x:=w) k.typeIs slot_tuple_getitem.lookup
  (getItem_tuple (j:=j) (Q:=λr B=>r=w/\EP X c l Q r B) k (by omega) (by omega) (by rw[Qjq,←hl];exact G) (by simpa using F) ⟨rfl,e⟩) o
def JS:GZ X Lw:=by
 intro e d f s C H x y v u Q I w m h n
 obtain⟨z,i,c,rfl,rfl,hz,he,q⟩:=h
 obtain⟨t,rfl⟩:=w
 obtain⟨B,rfl⟩:=m
 obtain⟨j,g,k,F,o,r⟩:=v7 he
 have hl:z.cps.toList.length=z.length:=by simp[Str.length]
 rw[hl] at g o r
 have A:=lq
 exact tail_any (typeIs_str s z t) slot_str_getitem.lookup (getItem_str (c:=c) (by
  have p:decide (i< -(2^63:Int))=false:=Qdq (by omega)
  have l:decide (i>=2^63)=false:=Qdq (by omega)
  rw[p,l,Bool.or_false]) (by rw[g];simpa using k) ⟨.str ⟨#[c]⟩,H,I.tok _,⟨_,rfl⟩,q⟩) n
def OM(K:PySem.W.Frag):R2:=λx y H Q=>LW K x y H Q\/La K x y H Q\/Lw x y H Q
def JH:GZ X (OM X.K):=F8.or (Ju.or JS)
def zr(c:List Value)(n j:Nat)(u:Value):Obj.mapSeq (·.setIfInBounds j u) {cls:=.type "list",data:=.seq c.toArray n}={cls:=.type "list",data:=.seq (c.set j u).toArray n}:=by
 simp[Obj.mapSeq]
def Inv.lst{d:List (Addr×Obj)}{f:St}{H:Hp}{s:Shared}{p:Addr}{xs:List V}(I:Inv X d f H s)(h:H p=some (.lst xs)):
  ∃(c:List Value) (n:Nat),bp xs c/\s.heap.get? p=some {cls:=.type "list",data:=.seq c.toArray n}/\xs.length<=sizeLine:=by
 obtain⟨z,c,n,r,e⟩:=I.hok p _ h
 exact⟨c,n,r,e,z⟩
def Inv.lstUpd{c:List (Addr×Obj)}{i:St}{H:Hp}{s:Shared}{p:Addr}{xs ys:List V}{d its':List Value}{n g:Nat}{f:Obj->Obj}(I:Inv X c i H s)(h:H p=some (.lst xs))
  (l:s.heap.get? p=some {cls:=.type "list",data:=.seq d.toArray n}) (j:f {cls:=.type "list",data:=.seq d.toArray n}={cls:=.type "list",data:=.seq its'.toArray g}) (r:bp ys its') (hz:ys.length<=sizeLine) (t:Nat):
  Inv X c i (upd H p (.lst ys)) {s with heap:=s.heap.update p f,toks:=t}:=by
 have e:(s.heap.update p f).get? p=some {cls:=.type "list",data:=.seq its'.toArray g}:=by
  rw[Heap.get?_update_self f l (by rw[j] <;>rfl),j]
 refine I.write (x:=p) (e:=p) (by rw[h];trivial) (.inl rfl) (λb u k q=>(Heap.get?_update_other _ _ (Ne.symm k)).trans q) ⟨_,e⟩ ?_
 exact⟨hz,its',g,r,e⟩
def HF:V->V->V->Hp->(Hp->Prop)->Prop:=λo i v H Q=>∃p c k j,o=.ref p/\i=.int k/\H p=some (.lst c)/\FF c.length k=some j/\Q (upd H p (.lst (c.set j v)))
def set_list:Mb X HF:=by
 intro d s F H o i v J K u Q I A z B h
 obtain⟨p,y,k,j,rfl,rfl,hp,hj,q⟩:=h
 cases A
 obtain⟨t,rfl⟩:=z
 obtain⟨c,n,r,g,C⟩:=I.lst hp
 obtain⟨e,G,x,l⟩:=Bb hj
 have hl:=r.length
 have M:=lq
 have w:Inv X d F (upd H p (.lst (y.set j v))) {s with heap:=s.heap.update p (Obj.mapSeq (·.setIfInBounds j u))}:=
  I.lstUpd hp g (zr c n j u) (r.set B j) (by rw[List.length_set];exact C) s.toks
 by_cases m:0<=k
 ·have f:k.toNat=j:=by
   rw[seqIndex_of m l] at e
   exact QdQ e
  exact PySem.W.ki_setAt g m (by omega) (by rw[Qjq,←hl];exact l) (by rw[f];exact⟨_,w,q⟩)
 ·have f:(k+(c.toArray.size:Int)).toNat=j:=by
   rw[seqIndex_neg (by omega) x] at e
   rw[Qjq,←hl]
   exact QdQ e
  exact PySem.W.ki_setBack g (by omega) (by rw[Qjq,←hl];exact x) (by omega) (by rw[f];exact⟨_,w,q⟩)
def jr:V->Bool
 |.non=>true
 |.bl _=>true
 |.int _=>true
 |.str _=>true
 |_=>false
def vW:V->V->Bool
 |.non,.non=>true
 |.bl a,.bl b=>a==b
 |.bl a,.int b=>(if a then 1 else 0)==b
 |.int a,.bl b=>a==(if b then 1 else 0)
 |.int a,.int b=>a==b
 |.str a,.str b=>a==b
 |_,_=>false
def JC{A:Around}{s:Shared}{y x:V}{u v:Value}(f:RelV y u)(c:RelV x v)(g:jr y=true)(e:jr x=true):SeqAt.EqAt A s u v (vW y x):=by
 cases y with
 | non=>
   cases f
   cases x with
   |non=>cases c;exact SeqAt.EqAt.same _
   |bl b=>cases c;exact SeqAt.EqAt.none_bool b
   |int b=>obtain⟨t,rfl⟩:=c;exact SeqAt.EqAt.none_int b t
   |str b=>obtain⟨t,rfl⟩:=c;exact SeqAt.EqAt.none_str b t
   |_=>exact absurd (show false=true from e) Qtq
 | bl a=>
   cases f
   cases x with
   |non=>cases c;exact SeqAt.EqAt.bool_none a
   |bl b=>cases c;exact SeqAt.EqAt.bool_bool a b
   |int b=>obtain⟨t,rfl⟩:=c;exact SeqAt.EqAt.bool_int a b t
   |str b=>obtain⟨t,rfl⟩:=c;exact SeqAt.EqAt.bool_str a b t
   |_=>exact absurd (show false=true from e) Qtq
 | int a=>
   obtain⟨d,rfl⟩:=f
   cases x with
   |non=>cases c;exact SeqAt.EqAt.int_none a d
   |bl b=>cases c;exact SeqAt.EqAt.int_bool a d b
   |int b=>obtain⟨t,rfl⟩:=c;exact SeqAt.EqAt.int_int a d b t
   |str b=>obtain⟨t,rfl⟩:=c;exact SeqAt.EqAt.int_str a d b t
   |_=>exact absurd (show false=true from e) Qtq
 | str a=>
   obtain⟨d,rfl⟩:=f
   cases x with
   |non=>cases c;exact SeqAt.EqAt.str_none a d
   |bl b=>cases c;exact SeqAt.EqAt.str_bool a d b
   |int b=>obtain⟨t,rfl⟩:=c;exact SeqAt.EqAt.str_int a d b t
   |str b=>obtain⟨t,rfl⟩:=c;exact SeqAt.EqAt.str_str a d b t
   |_=>exact absurd (show false=true from e) Qtq
 |_=>exact absurd (show false=true from g) Qtq
def yQ(x:V)(u:Value):Bool:=match u with
 |.none=>vW .non x
 |.bool b=>vW (.bl b) x
 |.int i _=>vW (.int i) x
 |.str z _=>vW (.str z) x
 |_=>false
def vf{x y:V}{u:Value}(r:RelV y u)(f:jr y=true):yQ x u=vW y x:=by
 cases y with
 |non=>cases r;rfl
 |bl b=>cases r;rfl
 |int i=>obtain⟨t,rfl⟩:=r;rfl
 |str z=>obtain⟨t,rfl⟩:=r;rfl
 |_=>exact absurd (show false=true from f) Qtq
theorem mv{x:V}:∀{xs:List V} {c:List Value},bp xs c->xs.all jr=true->c.any (yQ x)=xs.any λy=>vW y x
 |_,_,.nil,_=>rfl
 | y::xs,u::c,.cons r t,f=>by
   rw[List.all_cons,QCq] at f
   rw[List.any_cons,List.any_cons,vf r f.1,mv t f.2]
theorem iA{A:Around}{s:Shared}{x:V}{v:Value}(g:RelV x v)(e:jr x=true):∀{xs:List V} {d:List Value},bp xs d->xs.all jr=true->∀u∈d,SeqAt.EqAt A s u v (yQ x u)
 |_,_,.nil,_=>λu c=>by cases c
 | y::xs,u::d,.cons r t,f=>λh c=>by
   rw[List.all_cons,QCq] at f
   rcases Qsq.mp c with rfl|c
   · rw[vf r f.1];exact JC r g f.1 e
   · exact iA g e t f.2 h c
def C9(x:V)(xs:List V):Bool:=xs.any λy=>vW y x
def NG(K:PySem.W.Frag)(d:Bool):R2:=λx y H Q=>∃p c,y=.ref p/\(jC K H p c\/gr K H p c)/\jr x=true/\c.all jr=true/\Q (.bl (if d then !C9 x c else C9 x c)) H
def Cc:kg X (compareOp .In) (NG X.K false):=by
 intro i s m H x y v u Q I g j h
 obtain⟨p,l,rfl,d,fx,fs,q⟩:=h
 cases j
 rcases d with d|d
 ·obtain⟨c,r,f,k⟩:=I.list d
  refine SeqAt.in_listAt (yQ x) f.isList (λw e=>iA g fx r fs w (by simpa using e)) ⟨.bl _,H,I,rfl,?_⟩
  rw[show c.toArray.any (yQ x)=c.any (yQ x) by simp,mv r fs]
  exact q
 ·obtain⟨c,r,f,k⟩:=I.tuple d
  refine SeqAt.in_tupleAt (yQ x) f (λw e=>iA g fx r fs w (by simpa using e)) ⟨.bl _,H,I,rfl,?_⟩
  rw[show c.toArray.any (yQ x)=c.any (yQ x) by simp,mv r fs]
  exact q
def vg:kg X (compareOp .NotIn) (NG X.K true):=by
 intro i s m H x y v u Q I g j h
 obtain⟨p,l,rfl,d,fx,fs,q⟩:=h
 cases j
 rcases d with d|d
 ·obtain⟨c,r,f,k⟩:=I.list d
  refine SeqAt.notIn_listAt (yQ x) f.isList (λw e=>iA g fx r fs w (by simpa using e)) ⟨.bl _,H,I,rfl,?_⟩
  rw[show c.toArray.any (yQ x)=c.any (yQ x) by simp,mv r fs]
  exact q
 ·obtain⟨c,r,f,k⟩:=I.tuple d
  refine SeqAt.notIn_tupleAt (yQ x) f (λw e=>iA g fx r fs w (by simpa using e)) ⟨.bl _,H,I,rfl,?_⟩
  rw[show c.toArray.any (yQ x)=c.any (yQ x) by simp,mv r fs]
  exact q
def uM:gE X (.builtin "len") (λxs H Q=>∃p ys,xs= [.ref p]/\(jC X.K H p ys\/gr X.K H p ys)/\Q (.int ys.length) H):=by
 intro i s l H xs m Q I r h
 obtain⟨p,ys,rfl,d,q⟩:=h
 obtain⟨u,rfl,rx⟩:=vals1 r
 cases rx
 have k:=lq
 rcases d with d|d
 ·obtain⟨e,g,f,j⟩:=I.list d
  have c:=g.length
  exact Calls.call_len_list f.isList (by simp only[Qjq] <;>omega) ⟨.int ys.length,H,I.tok _,⟨s.toks+1,by rw[Qjq,c]⟩,q⟩
 ·obtain⟨e,g,f,j⟩:=I.tuple d
  have c:=g.length
  exact len_tuple f (by simp only[Qjq] <;>omega) ⟨.int ys.length,H,I.tok _,⟨s.toks+1,by rw[Qjq,c]⟩,q⟩
def tj:gE X (.type "tuple") (λxs H Q=>∃p ys,xs= [.ref p]/\((jC X.K H p ys/\∀l,H l=none->Q (.ref l) (upd H l (.tup ys)))\/(gr X.K H p ys/\Q (.ref p) H))):=by
 intro c s t H xs y Q I r h
 obtain⟨p,ys,rfl,h⟩:=h
 obtain⟨u,rfl,rx⟩:=vals1 r
 cases rx
 rcases h with⟨g,q⟩|⟨g,q⟩
 ·obtain⟨d,j,i,n⟩:=I.list g
  have m:=j.length
  refine call_tuple_list i.isList (λf x=> ?_) (by simp only[Qjq] <;>omega)
  have k:Inv X c t H {s with heap:=f}:=I.kept (t':=s.toks) x
  have v:Inv X c t (upd H f.objs.size (.tup ys)) {s with heap:=f.push {cls:=.type "tuple",data:=.seq d.toArray}}:=
   k.laid (t':=s.toks) (λb o e=>Qcq _ e) (Qmq _) (show bI X.prog X.w _ _ _ (.tup ys) from⟨n,d,j,tN.new _ _⟩)
  exact⟨.ref f.objs.size,_,v,rfl,q _ (k.hok.fresh (Qmq _))⟩
 ·obtain⟨d,j,i,n⟩:=I.tuple g
  exact call_tuple_same i ⟨.ref p,H,I,rfl,q⟩
def N7(K:PySem.W.Frag)(T:String)(x:V)(H:Hp):Prop:=match x with
 |.str _=>T="str"
 |.int _=>T="int"
 |.ref p=>(T="list" /\∃d,jC K H p d)\/(T="tuple" /\∃o,K.lookup p=some o/\o.cls=.type "tuple" /\o.dict=none)∨
   (T="dict" /\((∃c,H p=some (.dK c))\/∃c,H p=some (.dT c)))\/(T="set" /\∃S n,H p=some (.set S n))
 |_=>False
def Kf{g:List (Addr×Obj)}{w:St}{H:Hp}{s:Shared}{T:String}{x:V}{v:Value}(I:Inv X g w H s)(r:RelV x v)(h:N7 X.K T x H):
  s.TypeIs v T/\∀a,v=.ref a->∃m,s.heap.get? a=some m/\m.dict=none:=by
 cases x with
 | str z=>
   obtain⟨t,rfl⟩:=r
   cases (show T="str" from h)
   exact⟨typeIs_str s z t,λ_ e=>nomatch e⟩
 | int i=>
   obtain⟨t,rfl⟩:=r
   cases (show T="int" from h)
   exact⟨typeIs_int s i t,λ_ e=>nomatch e⟩
 | ref p=>
   cases r
   rcases h with⟨rfl,xs,hq⟩|⟨rfl,o,d,hc,l⟩|⟨rfl,d⟩|⟨rfl,S,n,d⟩
   · obtain⟨u,_,q,_⟩:=I.list hq
     refine⟨q.isList.typeIs,λa e=> ?_⟩
     cases e
     obtain⟨o,n,e,c,l,_⟩:=q
     exact⟨o,e,l⟩
   · refine⟨⟨o,I.kIn p o d,hc⟩,λa e=> ?_⟩
     cases e
     exact⟨o,I.kIn _ o d,l⟩
   · have z:∃o,s.heap.get? p=some o/\o.ExactDict:=by
       rcases d with⟨k,d⟩|⟨k,d⟩
       · obtain⟨_,_,_,_,o,_,_,e,f,_⟩:=I.hok p _ d
         exact⟨o,e,f⟩
       · obtain⟨_,_,_,_,o,_,_,e,f,_⟩:=I.hok p _ d
         exact⟨o,e,f⟩
     obtain⟨o,e,f⟩:=z
     refine⟨⟨o,e,f.1⟩,λa j=> ?_⟩
     cases j
     exact⟨o,e,f.2.1⟩
   · obtain⟨o,_,_,_,e,f,_⟩:=I.hok p _ d
     refine⟨⟨o,e,f.1⟩,λa j=> ?_⟩
     cases j
     exact⟨o,e,f.2.1⟩
 |_=>exact False.elim h
def MB(K:PySem.W.Frag)(T:String)(r:V->List V->Hp->VK->Prop)(e:TE)(t:TA):TE:=λc H Q=>e c H λx H1=>N7 K T x H1/\t c H1 λd H2=>r x d H2 Q
variable{o e:Expr}{es:List Expr}{to:TE}{t:TA}{name:Str}{apos cpos:Pos}{T id:String}{r:V->List V->Hp->VK->Prop}
def yi(z:PlainAttrs T)(slot:Slot T name id)(j:typeOf (.builtin id)=pure (.type "method_descriptor"))(w:K4 X id r)(N:PE X o to)(S:PA X (e::es) t)
  (f:attributeBase o name X.env (eval o X.env)=eval o X.env:=by rfl)
  (i:((backTo cpos (starEach (e::es) X.env)).all (λx=> !x.1)&&(backToKw cpos (keywordEach [] X.env)).all (λx=>x.1.isSome)
   &&decide ((e::es).length+([]:List Keyword).length+(if ([]:List Keyword).isEmpty then 0 else 1)<30))=true:=by rfl)
  (g:(apos.endLine==cpos.line)=true:=by rfl) (A:starEach (e::es) X.env=(false,eval e X.env)::starEach es X.env:=by rfl) (d:(backTo cpos (starEach es X.env)).any (·.1)=false:=by rfl):
  PE X (.Call (.Attribute o name apos) (e::es) [] cpos) (MB X.K T r to t):=by
 intro c s k H Q I h
 refine wpAny_Call_method_late f i g rfl (bW (N c s k H _ I h) λv C q=> ?_)
 obtain⟨x,H1,n,m,u,y⟩:=q
 obtain⟨M,p⟩:=Kf n m u
 refine⟨T,id,z,slot,j,M,p,?_⟩
 have l:=S cpos c C k H1 _ n y
 rw[A] at l⊢
 refine Calls.callWith_builtin (by show(false||(backTo cpos (starEach es X.env)).any (·.1))=false;rw[d] <;>rfl) (Calls.evalArgs_plain ?_)
 exact bW l λP G ⟨J,H2,B,F,R⟩=>w c G k H2 x J v P Q B m F R
end
def Na(X:Cx)(id:String)(r:V->List V->Hp->VK->Prop):Prop:=
 ∀ (a:List (Addr×Obj)) (s:Shared) (b:St) (H:Hp) (x:V) (c:List V) (v:Value) (d:List Value) (Q:VK),Inv X a b H s->RelV x v->bp c d->r x c H Q→
   wpAny (model X.prog X.w) X.A (call (.builtin id) (v::d)) (EP X a b Q) X.xe s
def bp.one:∀{x:V} {a:List Value},bp [x] a->∃u,a= [u]/\RelV x u
 |_,_,.cons r .nil=>⟨_,rfl,r⟩
theorem bp.rep{xs:List V}{a:List Value}(h:bp xs a):∀k:Nat,bp (List.replicate k xs).flatten (List.replicate k a).flatten
 |0=>.nil
 | k+1=>by
   rw[QNq,QNq,List.flatten_cons,List.flatten_cons]
   exact bp.append h (bp.rep h k)
theorem foldl_rep(a:List Value):∀(k:Nat) (b:List Value),
  List.foldl (λf c=>f++c) b.toArray (List.replicate k a.toArray)=(b++(List.replicate k a).flatten).toArray
 |0,b=>by simp
 | k+1,b=>by
   have e:b.toArray++a.toArray=(b++a).toArray:=by simp
   have d:(b++a)++(List.replicate k a).flatten=b++(List.replicate (k+1) a).flatten:=by
     rw[QNq,List.flatten_cons,Qvq]
   rw[←d,←foldl_rep a k (b++a),←e,QNq,List.foldl_cons]
section
variable{X:Cx}{pins:List (Addr×Obj)}{σ:St}{H:Hp}{s:Shared}{l b:Addr}{xs ys zs:List V}
def Inv.lset{a its':List Value}{n:Nat}{f:Array Value->Array Value}{t':Nat}(I:Inv X pins σ H s)(c:H l=some (.lst xs))
  (e:s.heap.get? l=some {cls:=.type "list",data:=.seq a.toArray n}) (i:f a.toArray=its'.toArray) (g:bp ys its') (hz:ys.length<=sizeLine):
  Inv X pins σ (upd H l (.lst ys)) {s with heap:=s.heap.update l (Obj.mapSeq f),toks:=t'}:=by
 have q:=PySem.IsL.update e f
 rw[i] at q
 refine I.write (x:=l) (e:=l) (by rw[c];exact trivial) (.inl rfl) (λj u h d=>(Heap.get?_update_other s.heap (Obj.mapSeq f) (Ne.symm h)).trans d) ⟨_,q⟩ ?_
 exact⟨hz,its',_,g,q⟩
def Inv.lnew{a:List Value}{t':Nat}(I:Inv X pins σ H s)(c:bp ys a)(hz:ys.length<=sizeLine):
  Inv X pins σ (upd H s.heap.objs.size (.lst ys)) {s with heap:=s.heap.push {cls:=.type "list",data:=.seq a.toArray},toks:=t'}:=
 I.laid (λ_ _ q=>Qcq _ q) (Qmq _) ⟨hz,a,0,c,Qrq _ rfl⟩
def Inv.fresh(I:Inv X pins σ H s):H s.heap.objs.size=none:=I.hok.fresh (Qmq _)
def Inv.lstM(I:Inv X pins σ H s)(c:H l=some (.lst xs)):xs.length<=sizeLine/\∃(a:List Value) (n:Nat),bp xs a/\xs.length=a.length/\s.heap.get? l=some {cls:=.type "list",data:=.seq a.toArray n}:=by
 obtain⟨z,a,n,r,e⟩:=I.hok l _ c
 exact⟨z,a,n,r,r.length,e⟩
def wZ{n:Nat}(h:n<=sizeLine):Builtin.List.listTooLong n=false:=by
 unfold Builtin.List.listTooLong
 exact Qdq (by omega)
end
section
variable{X:Cx}
def BJ:V->List V->Hp->VK->Prop:=λx b H Q=>∃l a y,x=.ref l/\b= [y]/\H l=some (.lst a)/\a.length<sizeLine/\Q .non (upd H l (.lst (a++ [y])))
def nR:Na X "list.append" BJ:=by
 intro b s i H x g v j Q I c d h
 obtain⟨l,f,y,rfl,rfl,hH,hz,q⟩:=h
 cases c
 obtain⟨u,rfl,ru⟩:=d.one
 obtain⟨z,a,n,r,hl,e⟩:=I.lstM hH
 refine call_meets F.slot_list_append ⟨_,e,rfl⟩ F.entry_list_append (F.args_list_append_2 _ _) (PySem.list_append l a.toArray n u (by rw[Qjq];omega)) ⟨e,?_⟩
 refine⟨.non,_,I.lset (its':=a++ [u]) hH e (by simp) (r.append (.cons ru .nil)) ?_,rfl,q⟩
 rw[lQa,List.length_singleton]
 omega
def BI:V->List V->Hp->VK->Prop:=λx d H Q=>∃l b a c,x=.ref l/\d= [.ref b]/\H l=some (.lst a)/\H b=some (.lst c)/\a.length+c.length<=sizeLine/\Q .non (upd H l (.lst (a++c)))
def BP:Na X "list.extend" BI:=by
 intro g s B H x A v C Q I o p h
 obtain⟨l,b,t,w,rfl,rfl,hH,hB,hz,q⟩:=h
 cases o
 obtain⟨u,rfl,ru⟩:=p.one
 cases ru
 obtain⟨z,c,n,r,hl,e⟩:=I.lstM hH
 obtain⟨y,a,j,m,k,i⟩:=I.lstM hB
 have f:c.toArray.size+a.toArray.size<=sizeLine:=by rw[Qjq,Qjq];omega
 have d:¬(!c.toArray.isEmpty&&Builtin.List.listTooLong (c.toArray.size+a.toArray.size))=true:=by
  rw[wZ f,Bool.and_false]
  exact Qtq
 refine call_meets F.slot_list_extend ⟨_,e,rfl⟩ F.entry_list_extend (F.args_list_extend_2 _ _)
  (AutoSeq1.list_extend_list_list_0 l c.toArray n b a.toArray j d (by rw[Qjq];omega) (by omega)) ⟨e,i,?_⟩
 refine⟨.non,_,I.lset (its':=c++a) hH e (by simp) (r.append m) ?_,rfl,q⟩
 rw[lQa]
 omega
def NL:R2:=λx y H Q=>∃l b a c,x=.ref l/\y=.ref b/\H l=some (.lst a)/\H b=some (.lst c)/\a.length+c.length<=sizeLine/\∀p,H p=none->Q (.ref p) (upd H p (.lst (a++c)))
def IW:kg X (binaryOp .Add) NL:=by
 intro d s A H x y v u Q I m g h
 obtain⟨l,b,p,t,rfl,rfl,hH,hB,hz,q⟩:=h
 cases m
 cases g
 obtain⟨z,c,n,r,hl,e⟩:=I.lstM hH
 obtain⟨w,a,o,j,i,f⟩:=I.lstM hB
 refine PySem.P.add_list e f ?_ (by rw[Qjq,Qjq];omega)
 have k:c.toArray++a.toArray=(c++a).toArray:=by simp
 rw[k]
 exact⟨.ref _,_,I.lnew (t':=s.toks) (r.append j) (by rw[lQa];omega),rfl,q _ I.fresh⟩
def len_rep{α:Type}(xs:List α)(k:Nat):(List.replicate k xs).flatten.length=k*xs.length:=by
 induction k with
 |zero=>simp
 |succ k a=>rw[QNq,List.flatten_cons,lQa,a,Nat.succ_mul,Nat.add_comm]
end
end L2
namespace Att
open PySem PySem.W PySem.Calls PyProof.Rows
def pF{P:Params}{h:Heap}:∀(ns:List Int) (vs:List Value),WellAll P h vs (ns.map WData.int)->IntsAre vs ns:=by
 intro ns
 induction ns with
 | nil=>
   intro vs w
   rw[List.map_nil] at w
   cases w
   exact .nil
 | cons n ns c=>
   intro vs w
   rw[QDq] at w
   cases w with
   | cons a b=>
     cases a
     exact .cons _ _ (c _ b)
def C0{l:OpenLaw}{n:Nat}(p:l.most=some n){P:Params}{h:Heap}{args:List WData}{vals:List Value}
  (b:l.row.toRowW.claim.pre args=true) (i:WellAll P h vals args):
  ∃a vs ns,vals= [Value.ref a]/\args= [WData.list (ns.map WData.int)]/\h.get? a=some {cls:=.type "list",data:=.seq vs.toArray}/\IntsAre vs ns/\ns.length<=n:=by
 have wz:WShape.hasAll [] args [.list .int]=true:=(pre_splitW b).1
 have j:l.pre.holds [] {args:=args}=true:=(pre_splitW b).2
 obtain⟨d,r,rfl,h1,h2⟩:=hasAllW_cons wz
 obtain rfl:=hasAllW_nil h2
 obtain⟨t,rfl,h3⟩:=hasW_list h1
 obtain⟨ns,rfl⟩:=items_int h3
 have e:ns.length<=n:=by
  unfold OpenLaw.pre at j
  have f:(WTm.not (.lt (.lit (.int (n:Int))) (.len (.arg 0)))).holds [] {args:= [.list (ns.map .int)]}=true:=by
   have f:=(holds_andW j).1
   rw[p] at f
   exact f
  have g:=condW_of f (w_not (w_lt w_lit (w_len_list (w_arg rfl))))
  rw[lQm] at g
  refine Nat.le_of_not_lt λq=> ?_
  have m:(n:Int)<((ns.length:Nat):Int):=by omega
  first
   |(rw[Qeq m] at g;exact absurd g (by decide))
   |(simp at g;omega)
 cases i with
 | cons o k=>
   cases k
   cases o with
   |list s c=>exact⟨_,_,ns,rfl,rfl,s,pF ns _ c,e⟩
def CD(l:OpenLaw)(args:List WData):l.row.toRowW.claim.post args (.bool true) args=true:=
 postW_of (r:=l.row.toRowW) (X:=(true==true))
  (show WShape.has [] (.bool true) .bool=true by first|rfl|decide|simp[WShape.has,WShape.arms,WShape.armsAll])
  (show(WTm.eq .res (.lit (.bool true))).value [] {args:=args,res:=some (.bool true),after:=args}=some (.bool (true==true)) from w_eq_bool (w_res rfl) w_lit) rfl
def xt{l:OpenLaw}{n:Nat}{q:Program}{c:List Str}{y:(Str->Option Value)->Heap->Prop}{z:World->Heap->Prop}{d:DefRec}
  (K:l.most=some n) (k:d.params.defaults= [])
  (i:∀(w:World) (s₀ b:Shared) (mg p:Str->Option Value) (g:Addr) (o:Obj) (m j e:Value) (a:Addr) (vs:List Value) (ns:List Int),
   Ground q c [] y w s₀ mg p b.heap->z w b.heap→
   b.heap.get? g=some o->o.data=.func (docDef d.name d.params d.body d.scope m j e)->b.heap.CodeRec j d.name->mg d.name=some (.ref g)→
   b.heap.get? a=some {cls:=.type "list",data:=.seq vs.toArray}->IntsAre vs ns->ns.length<=n->b.gens= #[]→
   codeAny (model l.prog w) callerA (.call (.ref g) ⟨[.ref a],[]⟩) (λr s'=>r=.ok (.ret (.bool true))/\OldK b.heap s'.heap/\s'.os=b.os/\AllBare s'.gens) b):
  WalkO q c y z l.row.toRowW d [] (λf vs=>PySem.call f vs):=by
 intro w s₀ b mg p G Y g o m j e H kV N F t v s J x B Q h A P u I
 obtain rfl:H=.none:=Dflts.none v k
 obtain rfl:kV=.none:=Dflts.noKw v
 obtain⟨a,vs,ns,rfl,rfl,hobj,hints,hlen⟩:=C0 K h u
 refine enter_call (codeAny_mono (i w s₀ b mg p g o m j e a vs ns G Y N (fd_plain F) t s hobj hints hlen J) λr s' M=> ?_)
 obtain⟨rfl,h2,h3,h4⟩:=M
 exact⟨.inl ⟨.bool true,.bool true,[],rfl,λ_=>rfl,.bool true,CD l _,λ_=>⟨List.Pairwise.nil,λ_ C=>(nomatch C)⟩⟩,h2,h3,h4⟩
end Att
namespace L2
open PySem PySem.Spec PyProof.Rows
theorem uF:∀{vs:List Value} {ns:List Int},IntsAre vs ns->bp (ns.map V.int) vs
 |_,_,.nil=>.nil
 |_,_,.cons n t h=>.cons ⟨t,rfl⟩ (uF h)
def GE(H:Hp):Prop:=∀b,H b=none\/∃o a,H b=some (.frz o (.lst a))
def D4{P:Program}{w:World}{K:PySem.W.Frag}{mg U:Str->Option Value}{CX:C7}{k:Nat}{S a:Addr}{fd:FuncData}{x:Str}{sp:Sp}{c:Shared}{vs:List Value}{ns:List Int}
  (KX:K.In c.heap) (B:c.heap.Ns mainGlobals mg) (g:c.heap.Ns builtinsNs U) (a0:∀x:Str,x≠"__name__" ->U x=bootBuiltins x) (I:c.heap.NoLimit) (hg:c.gens= #[])
  (N:c.heap.get? a=some {cls:=.type "list",data:=.seq vs.toArray}) (hi:IntsAre vs ns) (hl:ns.length<=sizeLine) (hr:eE k callerA)
  (F:∀base:Heap,K.In base->base.Ns mainGlobals mg->a_ P w K mg base CX k S fd [x] sp) (l:∀(s:Shared) (u:Value),BindsTo s fd ⟨[u],[]⟩ [(x,u)])
  (Q:∀H:Hp,GE H->jC K H a (ns.map V.int)->sp [.ref a] H (λv _=>v=.bl true) λ_ _ _=>False)
  (Y:∀H e s',CX [] H c (λ_ _ _=>False) e s'->False):
  codeAny (model P w) callerA (.call (.ref S) ⟨[.ref a],[]⟩) (λr s'=>r=.ok (.ret (.bool true))/\OldK c.heap s'.heap/\s'.os=c.os/\AllBare s'.gens) c:=by
 have rv:=uF hi
 have C:=hi.length
 have j:∀H:Hp,GE H->jC K H a (ns.map V.int)->l9 P w H c.heap->(∀b,H b≠none->b=a)->(H a≠none->K.lookup a=none)→
   codeAny (model P w) callerA (.call (.ref S) ⟨[.ref a],[]⟩) (λr s'=>r=.ok (.ret (.bool true))/\OldK c.heap s'.heap/\s'.os=c.os/\AllBare s'.gens) c:=by
  intro H hO hS M hA hK
  have f:∀{b:Addr} {o:Obj},c.heap.get? b=some o->H b=none->(vy c.heap H).get? b=some o:=λe n=>Dv e n
  have X:∀{b:Addr} {o:Obj} {G:Array DictEntry} {t:Nat},c.heap.get? b=some o->o.data=.dict G t->H b=none:=λ{b o G t} e d=>by
   cases q:H b with
   |none=>rfl
   | some u=>
     have Z:b=a:=hA b (by rw[q];simp)
     subst Z
     rw[N] at e;cases e
     have d':Data.seq vs.toArray _=Data.dict G t:=d
     cases d'
  have i:∀{b:Addr} {m:Str->Option Value},c.heap.Ns b m->(vy c.heap H).Ns b m:=λ{b m} ⟨o,G,t,e,d,r⟩=>⟨o,G,t,f e (X e d),d,r⟩
  have y:K.In (vy c.heap H):=λb o e=>f (KX b o e) (by
   cases q:H b with
   |none=>rfl
   | some u=>
     have Z:b=a:=hA b (by rw[q];simp)
     subst Z
     rw[hK (by rw[q];simp)] at e;cases e)
  have hM:Mod K mg (vy c.heap H):=⟨y,i B,⟨U,i g,a0⟩,let ⟨mc,h1,h2⟩:=I;⟨mc,i h1,h2⟩⟩
  have e0:G4 P w K mg (vy c.heap H) callerA [] c H:=⟨rfl,hM,λb o e=>Hf e,Nat.le_of_eq (BQ _ _),trivial,λb g=>absurd (show b∈([]:List Addr) from g) (by simp),M,.of_eq hg⟩
  refine codeAny_mono ((F _ y (i B)).run callerA [] c H ⟨[.ref a],[]⟩ [.ref a] [.ref a] _ _ hr e0 (l c (.ref a)) (.cons rfl .nil) (Q H hO hS)) λr s' h=> ?_
  cases r with
  |error e=>exact(Y H e s' h).elim
  | ok fl=>
    cases fl with
    |next=>exact False.elim h
    |brk=>exact False.elim h
    |cont=>exact False.elim h
    | ret u=>
      obtain⟨v,H',os,A,un,p,r',q⟩:=h
      have q':v=.bl true:=q
      subst q'
      obtain rfl:u=Value.bool true:=r'
      refine⟨rfl,OldK.of_keep λb o e=> ?_,os,A⟩
      cases q:H b with
      |none=>exact un.keep b o e q (by intro z;exact absurd (show b∈([]:List Addr) from z) (by simp)) (by simp)
      | some u=>
        rcases hO b with z|⟨ob,xs,z⟩
        · rw[q] at z;cases z
        · have z2:=un.frzs b ob _ z
          obtain⟨e1,_⟩:=M b _ z
          obtain⟨e2,_⟩:=p b _ z2
          rw[e] at e1;cases e1
          exact e2
 cases R:K.lookup a with
 | some o=>
   have e:=KX a o R
   rw[N] at e
   cases e
   refine j (λ_=>none) (λ_=>.inl rfl) (.inr ⟨_,vs.toArray,_,R,rfl,rfl,rfl,by rw[Qjq,C];exact hl,by simpa using rv⟩) (λb u z=>by have J:(none:Option HO)=some u:=z;cases J) (λb z=>absurd rfl z) λz=>absurd rfl z
 | none=>
   refine j (λb=>if b=a then some (.frz {cls:=.type "list",data:=.seq vs.toArray} (.lst (ns.map V.int))) else none) (λb=> ?_) (.inl (.inr ⟨{cls:=.type "list",data:=.seq vs.toArray},Qhq rfl⟩)) (λb u z=> ?_) (λb z=> ?_) λ_=>R
   · by_cases g:b=a
     · exact .inr ⟨_,_,Qhq g⟩
     · exact .inl (Quq g)
   · by_cases g:b=a
     · have J:=(Qhq g).symm.trans z
       cases J
       subst g
       exact⟨N,by rw[lQm];exact hl,vs,_,rv,N⟩
     · have J:=(Quq g).symm.trans z
       cases J
   · by_cases g:b=a
     · exact g
     · exact absurd (Quq g) z
def Gf{l:PySem.W.OpenLaw}{n k:Nat}{q:Program}{i:List Str}{Q:(Str->Option Value)->Heap->Prop}{J:World->Heap->Prop}{d:DefRec}{K:Params->PySem.W.Frag}{CX:World->C7}{sp:World->Sp}{x:Str}
  (hn:l.most=some n) (A:n<=sizeLine) (t:d.params.defaults= []) (U:eE k callerA)
  (X:∀(w:World) (h:Heap),J w h->(K w.params).In h)
  (F:∀(w:World) (mg:Str->Option Value) (r:Addr) (h:Heap),(K w.params).In h->h.Ns mainGlobals mg->mg d.name=some (.ref r)→
   ∃ C:FuncData,(∀(s:Shared) (u:Value),BindsTo s C ⟨[u],[]⟩ [(x,u)])∧
     ∀base:Heap,(K w.params).In base->base.Ns mainGlobals mg->a_ l.prog w (K w.params) mg base (CX w) k r C [x] (sp w))
  (y:∀(w:World) (H:Hp) (a:Addr) (ns:List Int),ns.length<=n->GE H->jC (K w.params) H a (ns.map V.int)->sp w [.ref a] H (λv _=>v=.bl true) λ_ _ _=>False)
  (z:∀(w:World) (H:Hp) (s:Shared) (e:Value) (s':Shared),CX w [] H s (λ_ _ _=>False) e s'->False):
  PySem.W.WalkO q i Q J l.row.toRowW d [] (λf vs=>PySem.call f vs):=by
 refine Att.xt hn t λw M p mg mb r o pm cd a1 a vs ns G Y ho hd a0 B m j c Z=> ?_
 have I:=X w _ Y
 obtain⟨C,P,S⟩:=F w mg r _ I G.T.g B
 exact D4 I G.T.g G.T.b G.T.builtins G.T.nolimit Z m j (QAq c A) U S P (λH R N=>y w H a ns c R N) λH e s'=>z w H p e s'
def gh(s:Stmt):Arguments:=match s with
 |.FunctionDef _ a _ _ _ _ _ _ _ _=>a
 |_=>{posonlyargs:= [],args:= [],vararg:=none,kwonlyargs:= [],kw_defaults:= [],kwarg:=none,defaults:= []}
def dN(s:Stmt):List Stmt:=match s with
 |.FunctionDef _ _ b _ _ _ _ _ _ _=>b
 |_=> []
def ay(s:Stmt):Scope:=match s with
 |.FunctionDef _ _ _ _ _ _ a _ _ _=>a
 |_=>{kind:=.function,names:= [],isGenerator:=false,isCoroutine:=false}
abbrev dA:C7:=λ_ _ _ _ _ _=>False
abbrev E0:XK:=λ_ _ _=>False
def E1{X:Cx}:Ad dA X E0:=λ_ _ _ _ _ _ _ h=>h.elim
structure dZ(K:PySem.W.Frag)(x qual:Str)(st:Stmt)(f:Addr)(fd:FuncData):Prop where
 ex:∃(oc:Value) (od:Option Addr) (kV doc pm:Value) (an:Option Addr) (cdv ct:Value) (osl:Array (Option Value)),
  fd=PySem.W.fnOf x qual (gh st) (dN st) (ay st) .none kV doc pm an cdv ct/\K.lookup f=some ⟨oc,od,.func fd,osl⟩/\PySem.W.codeIn K cdv qual=true
 kp:PySem.W.keepIn K (.ref f)=true
section
variable{P:Program}{w:World}{K:PySem.W.Frag}{mg:Str->Option Value}{base:Heap}
def dZ.ok{x a:Str}{st:Stmt}{f:Addr}{e:FuncData}{N ps:List Str}{k:Nat}{sp:Sp}(F:dZ K x a st f e)(S:aD N ps (ay st))(len:∀vs H Q E,sp vs H Q E->vs.length=ps.length)
  (c:∀(b:Value) (A:Around) (outer:List Env) (s:Shared) (H:Hp) (vs:List V) (Q:VK) (E:XK),eE k (A.deeper (envOfC a (ay st) s.heap.objs.size f b))->sp vs H Q E→
   ∃t,pH (xH dA P w K mg base N a (ay st) f b A outer s H E).nox (dN st) t/\t {nx:=λ_ g=>Q .non g,rt:=Q} (start N vs) H):a_ P w K mg base dA (k+1) f e ps sp:=by
 obtain⟨p,o,kV,l,n,m,b,r,j,rfl,lk,hcd⟩:=F.ex
 refine KN lk hcd S len λA outer s H vs Q E i d=> ?_
 obtain⟨t,h,q⟩:=c b A outer s H vs Q E i d
 exact⟨t,h.nox,q⟩
def dZ.binds{x a:Str}{st:Stmt}{f:Addr}{i:FuncData}{ps:List Str}(F:dZ K x a st f i)
  (h:∀(kV b d:Value) (g:Option Addr) (c ct:Value) (e:List Value),e.length=ps.length->bindArgs (PySem.W.fnOf x a (gh st) (dN st) (ay st) .none kV b d g c ct) ⟨e,[]⟩=pure (ps.zip e)):Binds K i ps []:=by
 obtain⟨l,k,kV,b,d,g,c,ct,j,rfl,lk,hcd⟩:=F.ex
 exact .all (h kV b d g c ct)
def zt{x a:Str}{st:Stmt}{f:Addr}{j:Value}{i h:Option Addr}{e:Array (Option Value)}{kV d g b ct:Value}(l:K.lookup f=some ⟨j,i,.func (PySem.W.fnOf x a (gh st) (dN st) (ay st) .none kV d g h b ct),e⟩)
  (c:PySem.W.codeIn K b a=true) (k:PySem.W.keepIn K (.ref f)=true):dZ K x a st f (PySem.W.fnOf x a (gh st) (dN st) (ay st) .none kV d g h b ct):=⟨⟨j,i,kV,d,g,h,b,ct,e,rfl,l,c⟩,k⟩
end
def HL{A:Around}{k:Nat}(a:eE k A):A.units+1<cLine:=Nat.lt_of_le_of_lt (Nat.add_le_add_left (by decide:1<=64) _) a.units
def bq{n:Nat}(h:n<=1000):n<sizeLine:=Nat.lt_of_le_of_lt h (by decide)
section
variable{X:Cx}
def pv(i:Nat){x:Str}{pos:Pos}(b:X.N[i]?=some x:=by rfl)(c:GB X.env.scope x:=by first|exact Or.inl rfl|exact Or.inr (Or.inl rfl)|exact Or.inr (Or.inr rfl))(hd:(x==("__debug__":Str))=false:=by decide)
  (a:(x==("__classdict__":Str))=false:=by decide):PE X (.Name x pos) (ID i):=DJ b c hd a
end
section
variable{prog:Program}{w:World}{A:Around}{s:Shared}
def mw{t a j:Expr}{p:List Expr}{d:Scope}{pos:Pos}{it o:Value}{env:Env}{R:Result->Shared->Prop}(I:Nat->Shared->Prop)
  (z:∀n s,I n s->wpAny (model prog w) A (pyNext it) (λr e=>match r with
   |none=>R (.ok .next) e
   |some v=>wpAny (model prog w) A (letOwnedTupleGo a it v) (λ_ b=>wpAny (model prog w) A (assign a env v) (λ_ l=>
     wpAny (model prog w) A (forIn p true λc r=>if r=true then do let ok←isTrue c env (eval c env);pure (ForInStep.yield ok) else pure (ForInStep.yield r)) (λok s₃=>
      if ok=true then wpAny (model prog w) A (eval t env) (λx k=>
       wpAny (model prog w) A (call (.builtin "list.append") [o,x]) (λ_ i=>∃m,m<n/\I m i) (λ_ _=>False) k) (λ_ _=>False) s₃
      else∃m,m<n/\I m s₃) (λ_ _=>False) l) (λ_ _=>False) b) (λ_ _=>False) e) (λ_ _=>False) s)
  (n:Nat) (h:I n s):codeAny (model prog w) A (.compLoop (.ListComp t [⟨a,j,p,0⟩] d pos) 0 it o env) R s:=by
 refine codeAny_loop rfl I (λn s C=> ?_) n h
 show wpAny _ A ((compTurn (.ListComp t [⟨a,j,p,0⟩] d pos) 0 it o env).onRaise (λx=>do noteFrame x env;theTreesLotGoes x)) _ _ s
 refine wpAny_noted ?_
 rw[compTurn_list]
 refine Qaq (wpAny_standAt (Qaq (QRq (z n s C) (λr e g=> ?_) λ_ _ f=>f.elim)))
 cases r with
 |none=>exact Qgq g
 | some v=>
   refine Qaq (QRq g (λ_ b q=> ?_) λ_ _ f=>f.elim)
   refine Qaq (QRq q (λ_ l y=>Qaq (QRq y (λok s₃ h₃=> ?_) λ_ _ f=>f.elim)) λ_ _ f=>f.elim)
   cases ok with
   |false=>exact Qgq ⟨rfl,h₃⟩
   | true=>
     exact Qaq (Qaq (QRq h₃ (λx k u=>Qaq (QRq u (λ_ i B=>Qgq (Qgq ⟨rfl,B⟩)) λ_ _ f=>f.elim)) λ_ _ f=>f.elim))
end
def aF(X:Cx)(N:List Str)(a:Scope)(b:List (Str×Addr))(C:Addr)(s:Shared)(H:Hp)(fp:List Addr):Cx where
 prog:=X.prog
 w:=X.w
 K:=X.K
 mg:=X.mg
 base:=X.base
 A:=X.A
 N:=N
 s₀:=s
 H₀:=H
 env:=compEnvC a b C X.env
 outer:=X.stack
 stack:=X.stack
 ex:=fp
 fn:=λ_=>false
 calm:=X.calm
 pn:= []
 xe:=λ_ _=>False
def jj(js:List (Option Nat))(a:St):St:=js.map λo=>o.bind λj=>a.getD j none
structure aS(X:Cx)(N:List Str)(js:List (Option Nat))(scope:Scope)(cl:List (Str×Addr)):Prop where
 kind:scope.kind=.function
 nocell:∀y∈scope.names,y.2≠.cell
 names:∀y∈scope.names,y.2=.local->scope.names.lookup y.1=some .local
 clos:closureFor scope X.env=pure cl
 sub:∀x c,cl.lookup x=some c->X.env.cells.lookup x=some c
 has:∀x,((relabel scope X.env).names.lookup x=some .cell\/(relabel scope X.env).names.lookup x=some .free)->∃c,cl.lookup x=some c
 cap:∀(k j:Nat) (x:Str),js[k]?=some (some j)->N[k]?=some x->X.N[j]?=some x/\(X.env.kindOf x=some .cell\/X.env.kindOf x=some .free)/\((relabel scope X.env).names.lookup x=some .cell\/(relabel scope X.env).names.lookup x=some .free)
 len:js.length=N.length
def lg(X:Cx)(b:List Expr)(t:TT):Prop:=
 ∀ (a:List (Addr×Obj)) (s:Shared) (d:St) (H:Hp) (Q:Bool->Hp->Prop),Inv X a d H s->t d H Q→
   wpAny (model X.prog X.w) X.A (forIn b true λc r=>if r=true then do let ok←isTrue c X.env (eval c X.env);pure (ForInStep.yield ok) else pure (ForInStep.yield r)) (TP X a d Q) X.xe s
def JQ{X:Cx}:lg X [] (λ_ H Q=>Q true H):=λ_ _ _ H _ I h=>wpAny_tests_nil ⟨H,I,h⟩
def IE{X:Cx}{c:Expr}{t:TT}(d:PT X c t):lg X [c] t:=λa s b H Q I h=>
 wpAny_tests_one (bW (d a s b H Q I h) λok s' h'=>h')
def KH(J:It)(g:TG)(j:TT)(k:TE)(Q:VK)(D:Addr)(l:St)(H:Hp):Prop:=
 ∃ W:Nat->Nat->St->Hp->Prop,(∃m,W 0 m l H)/\∀i m c d,W i m c d→
   (J.stop i d/\Q (.ref D) d)\/(J.go i d/\∃Nx:St->Hp->Prop,(∀b e,Nx b e->∃h,h<m/\W (i+1) h b e)∧
     ∀ x H2,J.yld i d x H2->g x c H2 λa H3=>j a H3 λok H4=>
       if ok=true then k a H4 λy H5=>∃f,H5 D=some (.lst f)/\f.length<sizeLine/\Nx a (upd H5 D (.lst (f++ [y]))) else Nx a H4)
def DZ(js:List (Option Nat))(d:TI)(g:TG)(c:TT)(b:TE):TE:=λa H Q=>d a H λJ H1=>∀D,H1 D=none->KH J g c b Q D (jj js a) (upd H1 D (.lst []))
def Gy{X:Cx}{N:List Str}{js:List (Option Nat)}{a:Scope}{R:List (Str×Addr)}{tg U b0:Expr}{b2:List Expr}{pos:Pos}{wi:TI}{g:TG}{tt:TT}{te:TE}
  (S:aS X N js a R) (hc:X.calm=true) (hi:PI X tg U wi)
  (hg:∀C s H fp,PG (aF X N a R C s H fp) tg g) (ht:∀C s H fp,lg (aF X N a R C s H fp) b2 tt) (he:∀C s H fp,PE (aF X N a R C s H fp) b0 te)
  (hs:∀x,foldedSetIterable U X.env x=pure x:=by intro _;rfl):PE X (.ListComp b0 [⟨tg,U,b2,0⟩] a pos) (DZ js wi g tt te):=by
 intro a7 s σ H Q I h
 rw[eval_ListComp]
 refine wpAny_comprehension_free (use:=none) rfl hs S.clos S.kind S.names (bW (hi a7 s σ H _ I h) λv s1 h1=>bW h1 λd1 f h2=> ?_)
 obtain⟨it,fp,tn,J,H2,e,B,T,a8,f2,hD⟩:=h2
 subst e
 refine QhQ (wpAny_newFunctionEnv S.nocell (by intro y hy;simp at hy) (λK G t=> ?_) S.kind)
 dsimp only at G t⊢
 generalize b3:f.heap.push {cls:=.type "list",dict:=none,data:=.seq ([]:List Value).toArray}=P2 at G t⊢
 have hC:P2.objs.size=f.heap.objs.size+1:=by rw[←b3,Heap.size_push]
 have c4:f.heap.objs.size≠P2.objs.size:=by rw[hC];exact Qwq (Nat.lt_succ_self _)
 have a6:f.heap.objs.size<=P2.objs.size:=by rw[hC];exact Nat.le_succ _
 have F:∀b,b<f.heap.objs.size->b≠P2.objs.size:=λb k=>by rw[hC];exact Qwq (Nat.lt_succ_of_lt k)
 have Z:∀b o,f.heap.get? b=some o->K.get? b=some o:=λb o e=>t.extBut b o (F b (Qiq e)) (Qcq _ (b3▸Qcq _ e))
 have b5:K.get? f.heap.objs.size=some {cls:=.type "list",dict:=none,data:=.seq ([]:List Value).toArray}:=t.extBut _ _ c4 (Qcq _ (b3▸Qrq _ rfl))
 have nD:H2 f.heap.objs.size=none:=B.fresh
 have nC:H2 P2.objs.size=none:=B.hok.fresh a6
 have a9:∀b∈fp,b<f.heap.objs.size:=λb k=>by
  obtain⟨o,e,_⟩:=T.obj _ _ a8 b k
  exact Qiq e
 obtain⟨W,⟨m0,w0⟩,b4⟩:=hD f.heap.objs.size nD
 have b9:(aF X N a R P2.objs.size f H2 fp).Ok:=by
  refine⟨B.ok.mod,S.kind,B.ok.glob,B.ok.blt,a6,λx y c h1 h2=>B.ok.inj x y c (S.sub x c h1) (S.sub y c h2),S.has,(λx c h=>by cases h),B.ok.hd,B.ok.frames,.inl rfl,
   λb k=>⟨F b (a9 b k),λx c h=>(f2 b k).2.2.2.2.1 x c (S.sub x c h)⟩,B.bs,QAq B.ok.bsz B.sz,λb o e k=> ?_,λb k z=> ?_,B.stack,B.stkFree⟩
  ·rcases(f2 b k).2.2.2.1 with z|z
   ·exact B.ok.noex b o e z
   ·exact absurd (Qqq (Qqq (Qiq e) B.ok.bsz) z) (Nat.lt_irrefl _)
  ·rcases Qsq.mp (B.stkSub b z) with q|q
   ·exact(f2 b k).2.1 q
   ·exact(f2 b k).2.2.1 q
 have b7:bI X.prog X.w (upd H2 f.heap.objs.size (.lst [])) K f.heap.objs.size (.lst []):=⟨Nat.zero_le _,[],0,.nil,b5⟩
 have I4:Inv (aF X N a R P2.objs.size f H2 fp) [] (jj js σ) (upd H2 f.heap.objs.size (.lst [])) {f with heap:=K,toks:=f.toks+([]:List (Str×Value)).length}:=by
  refine⟨b9,rfl,B.bare,Un.laid Z (Qmq _) nD,⟨_,G,λi x v h1 h2 h3=> ?_⟩,λx c h=> ?_,by show upd H2 _ _ P2.objs.size=none;rw[aN c4.symm];exact nC,λx c h=> ?_,λp hp=>absurd (show p∈([]:List (Addr×Obj)) from hp) (by simp),B.hok.laid Z (Qmq _) b7,by show(jj js σ).length=N.length;unfold jj;rw[lQm];exact S.len⟩
  ·unfold jj at h2
   rw[gQm] at h2
   cases e:js[i]? with
   |none=>rw[e] at h2;cases h2
   | some o=>
     rw[e] at h2
     cases o with
     |none=>cases h2
     | some j=>
       have a0:σ.getD j none=some v:=QdQ h2
       have hj:σ[j]?=some (some v):=by
         rw[Qlq] at a0
         cases q:σ[j]? with
         |none=>rw[q] at a0;cases a0
         |some y=>rw[q] at a0;exact congrArg some a0
       obtain⟨c1,c2,c3⟩:=S.cap i j x e h1
       obtain⟨m,hn,hl⟩:=B.loc
       have c9:GB X.env.scope x:=by
         rcases c2 with z|z
         · exact .inr (.inl z)
         · exact .inr (.inr z)
       obtain⟨u,r,l⟩:=hl j x v c1 hj c9
       refine⟨u,r,.inr ⟨c3,?_⟩⟩
       obtain⟨c,c5⟩:=S.has x c3
       refine⟨c,c5,?_⟩
       rcases l with⟨z,_⟩|⟨_,c',e',z⟩
       · rcases c2 with y|y <;>rw[y] at z <;>cases z
       · rw[S.sub x c c5] at e'
         cases e'
         obtain⟨o,ho,hd⟩:=z
         exact⟨o,Z _ _ ho,hd⟩
  ·obtain⟨v,o,ho,hd⟩:=B.cell x c (S.sub x c h)
   exact⟨v,o,Z _ _ ho,hd⟩
  ·obtain⟨v,o,ho,hd⟩:=B.cell x c (S.sub x c h)
   rw[aN (Qwq (Qiq ho))]
   exact B.freeC x c (S.sub x c h)
 have a1:∀{P:List (Addr×Obj)} {Y:Hp},P= []->(∀b∈fp,Y b=none)->∀b∈fp,ou (aF X N a R P2.objs.size f H2 fp) P Y b:=λ{P Y} ep hn b k=>by
  subst ep
  refine⟨hn b k,F b (a9 b k),λz=>b9.exfs b k z,.inl k,λx c h=>(f2 b k).2.2.2.2.1 x c (S.sub x c h),λp hp=>absurd (show p∈([]:List (Addr×Obj)) from hp) (by simp)⟩
 have a5:codeAny (model X.prog X.w) X.A (.compLoop (.ListComp b0 [⟨tg,U,b2,0⟩] a pos) 0 (.ref it) (.ref f.heap.objs.size) (compEnvC a R P2.objs.size X.env))
   (compPost (model X.prog X.w) X.A X.xe none (EP X a7 σ Q) (.ref f.heap.objs.size) P2.objs.size) {f with heap:=K,toks:=f.toks+([]:List (Str×Value)).length}:=by
  refine mw (λn s'=>∃i a2 Y,Inv (aF X N a R P2.objs.size f H2 fp) [] a2 Y s'/\tn i s'.heap/\(∀b∈fp,Y b=none)/\W i n a2 Y) ?_ m0
   ⟨0,_,_,I4,T.keep _ _ _ a8 λb _ o e=>Z b o e,λb k=>by rw[aN (Qwq (a9 b k))];exact(f2 b k).1,w0⟩
  rintro n s3 ⟨i,a4,H3,I3,b8,b6,w3⟩
  rcases b4 i n a4 H3 w3 with⟨stop,q⟩|⟨go,Nx,hN,c0⟩
  ·refine bW (T.done (aF X N a R P2.objs.size f H2 fp) rfl rfl rfl hc i [] s3 a4 H3 _ I3 (a1 rfl b6) b8 stop) λr s4 qr=> ?_
   obtain⟨hr,I5⟩:=qr
   subst hr
   obtain⟨m,hn,_⟩:=id I5.loc
   refine⟨m,hn,λh' a3=>⟨.ref f.heap.objs.size,H3,?_,rfl,q⟩⟩
   have u:=I5.base
   have ne:∀b o,f.heap.get? b=some o->b≠P2.objs.size:=λb o e=>F b (Qiq e)
   refine B.call' (ch:=fp) I5.os ⟨λb o e n k hx=>(a3.2 b (ne b o e)).trans (u.keep b o e n k hx),λb o e n k hx=> ?_,u.free,λb o e hx=> ?_,u.tups,u.frzs,u.tbls⟩ (λb ob e=> ?_) I5.bare λb k=>⟨(f2 b k).2.2.2.1,(f2 b k).2.1,(f2 b k).2.2.2.2.1,(f2 b k).2.2.2.2.2⟩
   ·obtain⟨sl,e1⟩:=u.slot b o e n k hx
    exact⟨sl,(a3.2 b (ne b o e)).trans e1⟩
   ·obtain⟨o',e1⟩:=u.there b o e hx
    exact⟨o',(a3.2 b (ne b o e)).trans e1⟩
   ·refine(I5.hok b ob e).stay (λc w' hc q=>(a3.2 c ?_).trans q) (λ_ q=>q) λ_ _ q=>q
    have fC:H3 P2.objs.size=none:=I5.free
    rintro rfl
    rcases hc with z|z
    ·rw[←z,fC] at e;cases e
    ·rw[fC] at z;cases z
  ·refine bW (T.item (aF X N a R P2.objs.size f H2 fp) rfl rfl rfl hc i [] s3 a4 H3 _ I3 (a1 rfl b6) b8 go) λr s4 qr=> ?_
   obtain⟨u,hr,h4⟩:=qr
   subst hr
   refine bW h4 λ_ s5 qr=> ?_
   obtain⟨x,H5,I5,r5,y5,b1,c7⟩:=qr
   have c6:=I5.pinned (a1 rfl c7) (T.obj _ _ b1)
   refine bW (hg P2.objs.size f H2 fp _ s5 a4 H5 x u _ c6 r5 (c0 x H5 y5)) λ_ s6 qr=> ?_
   obtain⟨M,H6,I6,q6⟩:=qr
   refine bW (ht P2.objs.size f H2 fp _ s6 M H6 _ I6 q6) λok s7 qr=> ?_
   obtain⟨H7,I7,q7⟩:=qr
   have again:∀{s8:Shared} {H8:Hp},Inv (aF X N a R P2.objs.size f H2 fp) ([]++lT fp s5.heap) M H8 s8->Nx M H8->∃m,m<n/\∃i a2 Y,Inv (aF X N a R P2.objs.size f H2 fp) [] a2 Y s8/\tn i s8.heap/\(∀b∈fp,Y b=none)/\W i m a2 Y:=λ{s8 H8} I8 n8=>by
    obtain⟨m',hm,w8⟩:=hN M H8 n8
    refine⟨m',hm,i+1,M,H8,I8.unpinned,T.keep _ _ _ b1 λb k o e=>(I8.pin (b,o) (Qoq _ (Qoq _ (cP k e)))).1,λb k=> ?_,w8⟩
    obtain⟨o,e,d⟩:=T.obj _ _ b1 b k
    exact(I8.pin (b,o) (Qoq _ (Qoq _ (cP k e)))).2.1
   cases ok with
   |false=>exact again I7 q7
   | true=>
     refine bW (he P2.objs.size f H2 fp _ s7 M H7 _ I7 q7) λyv s8 qr=> ?_
     obtain⟨y,H8,I8,ry,xs,hx,hl,n8⟩:=qr
     refine bW (nR (X:=aF X N a R P2.objs.size f H2 fp) _ s8 M H8 (.ref f.heap.objs.size) [y] (.ref f.heap.objs.size) [yv] (λ_ Y=>Nx M Y) I8 rfl (.cons ry .nil) ⟨_,xs,y,rfl,rfl,hx,hl,n8⟩) λ_ s9 qr=> ?_
     obtain⟨z,H9,I9,_,q9⟩:=qr
     exact again I9 q9
 exact codeAny_compStart_list a5 (T.self _ 0 _ _ _ (T.keep _ _ _ a8 λb _ o e=>Z b o e) a5)
section
variable{X:Cx}
def E6:gE X (.builtin "isinstance") (λxs H Q=>∃x T t b,xs= [x,.ty T]/\nT X.K H x t/\PySem.W.kitOne X.K t (.type T)=some b/\Q (.bl b) H):=by
 intro a s f H xs g Q I r h
 obtain⟨x,T,t,b,rfl,ty,e,q⟩:=h
 obtain⟨u,d,rfl,rx,rt⟩:=vals2 r
 cases (show d=Value.type T from rt)
 exact B3 I rx ty e λc=>⟨.bl b,H,I.tok c,rfl,q⟩
end
section
variable{X:Cx}
def Dp{bs:List Bool}{a:List Value}(r:bp (bs.map V.bl) a){i:Nat}{v:Value}(h:a.toArray[i]?=some v):v=.bool (bs.getD i false):=by
 have f:i<a.length:=by
  have:=(Array.getElem?_eq_some_iff.mp h).1
  simpa using this
 have l:=r.length
 rw[lQm] at l
 have b:i<bs.length:=by omega
 obtain⟨u,e,q⟩:=r.get (i:=i) (x:=V.bl bs[i]) (by rw[gQm,gQe b];rfl)
 have c:a[i]?=some v:=by simpa using h
 rw[e] at c
 cases c
 have d:bs.getD i false=bs[i]:=by rw[Qlq,gQe b];rfl
 rw[d]
 exact q
theorem xo:∀bs:List Bool,(List.range bs.length).all (λi=>bs.getD i false)=bs.all id
 | []=>rfl
 | b::bs=>by
   rw[Qnq,List.range_succ_eq_map,List.all_cons,List.all_map,List.all_cons,←xo bs]
   rfl
def LV(K:PySem.W.Frag)(f:List Bool->Bool):List V->Hp->VK->Prop:=λc H Q=>∃a b,c= [.ref a]/\jC K H a (b.map V.bl)/\Q (.bl (f b)) H
def Cu(k:X.calm=true):gE X (.builtin "all") (LV X.K λbs=>bs.all id):=by
 intro g s B H p C Q I r h
 obtain⟨a,bs,rfl,ha,q⟩:=h
 obtain⟨u,rfl,rx⟩:=vals1 r
 cases (show u=Value.ref a from rx)
 obtain⟨c,j,f,z⟩:=I.list ha
 have hl:c.toArray.size=bs.length:=by have:=j.length;simp at this;simp[this]
 have d:a<s.heap.objs.size:=by obtain⟨o,e,_⟩:=f.isList;exact Qiq e
 refine call_all_walk (wpAny_pyIter_list f.isList ⟨s.heap.objs.size,_,_,_,_,_,λi=>bs.getD i false,rfl,Walks.list (A:=X.A.in1) (show X.A.in1.handled=none from I.ok.hd k) s.heap.objs.size a (Qwq d) c.toArray,⟨⟨_,Qrq _ rfl,rfl,rfl⟩,f.isList.at λo e=>Qcq _ e⟩,?_,λh' x l=> ?_⟩)
 ·intro i v y w t m n
  rw[Dp j m]
  exact wpAny_truthy_bool n
 ·rw[hl,xo]
  refine⟨.bl _,H,I.kept (h':=h') λb o e=>l b o ?_ (Qcq _ e),rfl,q⟩
  have:=Qiq e
  simp
  exact Qwq this
end
end L2
namespace Dk
open PySem
def qu:mroOf (Value.type "dict")=pure [Value.type "dict",Value.type "object"]:=by
 rw[mroOf_type]
 rfl
def pP:typeLookup (Value.type "dict") (Str.ofString "__new__")=pure (some (Value.builtin "dict.__new__")):=by
 rw[typeLookup_type,builtinLookup_eq_fast]
 rfl
def yK:isSubtype (Value.type "dict") (Value.type "dict")=pure true:=by
 rw[isSubtype_type]
 rfl
def gF:plainId "dict.__new__"=true:=by decide +kernel
def cM:TypeCalled "dict" "dict.__new__" "dict.__init__" where
 notType:=by decide +kernel
 canCreate:=by decide +kernel
 mro:=⟨_,_,qu⟩
 made:=madeBy_type qu pP (by decide +kernel)
 plain:=gF
 sub:=yK
 init:=F.slot_dict_init
def pM(a:Value):checkTypeCall "dict" {pos:= [a]}=pure ():=by rfl
def qJ(a:Value):checkBuiltinCall "dict.__new__" {pos:= [Value.type "dict",a]}=pure ():=by with_unfolding_all rfl
def qp:entryFor table "dict.__new__"=some Builtin.«dict.__new__»:=by rfl
def pE{prog:Program}{w:World}{A:Around}{E:Value->Shared->Prop}{s:Shared}(a:Value){Q₁:Value->Shared->Prop}
  (h:Q₁ (.ref s.heap.objs.size) {s with heap:=s.heap.push {cls:=.type "dict",data:=.dict #[]}}):
  codeAny (model prog w) A (.call (.builtin "dict.__new__") {pos:= [.type "dict",a]}) (wants Q₁ E) s:=by
 refine codeAny_of_tree ?_
 show wpAny _ _ (do checkBuiltinCall "dict.__new__" _;_) _ _ _
 refine Qaq (wpAny_of_eq (qJ a) (Qgq ⟨plainId_quiet gF _,codeAny_builtin qp ?_⟩))
 rw[Around.under_plainId gF]
 refine Qaq (Qgq (QgQ rfl (Qaq (wpAny_of_eq yK (QgQ rfl (Qaq (wpAny_of_eq qu (QgQ ?_ ?_))))))))
 ·rfl
 ·refine Qaq ?_
  have e:newObj (.type "dict") (.dict #[])=newObjAsIs (.type "dict") (.dict #[]):=by
   unfold newObj
   simp
  rw[e]
  exact Qaq (wpAny_alloc (Qgq (Qgq h)))
def xC{prog:Program}{w:World}{A:Around}{E:Value->Shared->Prop}{s:Shared}{a:Value}{Q:Value->Shared->Prop}
  (h:wpAny (model prog w) A.in1.in1 (Builtin.«dict.__init__» {pos:= [.ref s.heap.objs.size,a]})
   (λm s'=>match m with|.done f=>wants (λr b=>r=.none/\Q (.ref s.heap.objs.size) b) E (.ok f) s'|.again u=>u.quiet=true/\codeAny (model prog w) A.in1 u (wants (λr b=>r=.none/\Q (.ref s.heap.objs.size) b) E) s')
   (λe s'=>wants (λr b=>r=.none/\Q (.ref s.heap.objs.size) b) E (.error e) s') {s with heap:=s.heap.push {cls:=.type "dict",data:=.dict #[]}}):
  wpAny (model prog w) A (call (.type "dict") [a]) Q E s:=by
 obtain⟨c,B,j⟩:=cM.mro
 have g:=cM.made
 have k:=cM.sub
 refine wpAny_call (codeAny_of_tree ?_)
 refine Qgq ⟨Code.quiet_builtin _ (by decide +kernel),codeAny_builtin F.entry_type_call ?_⟩
 rw[Around.under_plain (weight_type_call_type "dict" [a] []) rfl]
 have C:=cM.notType
 have x:=cM.canCreate
 have t:=pM a
 unfold Builtin.«type.__call__»
 dsimp only
 refine QgQ rfl ?_
 refine QgQ (by rw[x];rfl) ?_
 refine Qaq (wpAny_of_eq t (Qaq (wpAny_of_eq j (QgQ rfl (Qaq (wpAny_of_eq g (Qaq (Qgq (Qaq (QLq (wpAny_call (codeAny_mono (pE (E:=E) (Q₁:=λv d=>v=.ref s.heap.objs.size/\d={s with heap:=s.heap.push {cls:=.type "dict",data:=.dict #[]}}) a ⟨rfl,rfl⟩) λr d i=> ?_))))))))))))
 cases r with
 |error e=>exact i
 | ok n=>
   cases n with
   | ret z=>
     obtain⟨rfl,rfl⟩:=i
     have y:=Qrq s.heap (o:={cls:=.type "dict",data:=.dict #[]}) rfl
     have l:Shared.TypeIs {s with heap:=s.heap.push {cls:=.type "dict",data:=.dict #[]}} (.ref s.heap.objs.size) "dict":=⟨_,y,rfl⟩
     have p:=cM.init.lookup
     have q:=cM.init.bind (.ref s.heap.objs.size)
     refine Qaq (wpAny_isInstance l k (QgQ rfl (Qaq (QLq ?_))))
     unfold callSpecial?
     refine Qaq (wpAny_specialOf l p (QLq (Qaq (wpAny_of_eq q (Qaq (wpAny_call (codeAny_mono (codeAny_call_builtin cM.init.plain F.entry_dict_init (cM.init.check _ _ _ _ _ [a] [] _ l (F.args_dict_init_2 _ _) h)) λr b i=> ?_)))))))
     cases r with
     |error e=>exact i
     | ok n=>
       cases n with
       | ret v=>
         obtain⟨rfl,hq⟩:=i
         exact Qgq (QgQ rfl (Qgq hq))
       |_=>exact i.elim
   |_=>exact i.elim
def jt:entryFor table "dict.update.loop"=some Builtin.«dict.update.loop»:=by rfl
def fU:plainId "dict.update.loop"=true:=by decide +kernel
section
variable{prog:Program}{w:World}{K:Type}[DecidableEq K]{knd:KeyKind prog w K}
def zo(kvs:List (K×Value))(k:K)(v:Value):(stored kvs k v).length<=kvs.length+1:=by
 unfold stored
 split
 ·rw[lQm];omega
 ·rw[lQa];simp
def Jv(b:Nat->K)(a:Nat->Value):Nat->List (K×Value)
 |0=> []
 |i+1=>stored (Jv b a i) (b i) (a i)
theorem Bm(b:Nat->K)(a:Nat->Value):∀i,(Jv b a i).length<=i
 |0=>Qmq _
 |i+1=>QAq (zo _ _ _) (Nat.succ_le_succ (Bm b a i))
end
end Dk
namespace L2
open PySem PySem.Spec PyProof.Rows
section
variable{X:Cx}
def key_is{k:Key}{u:Value}(r:RelV (kV k) u)(P:Program)(w:World):(bt P w).is k u=true:=by
 cases k with
 |inl i=>obtain⟨t,rfl⟩:=(show∃t,u=Value.int i t from r);simp[bt,oU,Value.isInt]
 |inr x=>obtain⟨t,rfl⟩:=(show∃t,u=Value.str x t from r);simp[bt,oU,Value.isStrOf]
end
end L2
namespace Dk
open PySem
end Dk
namespace L2
open PySem PySem.Spec PyProof.Rows
def F7{X:Cx}{N:List Str}{js:List (Option Nat)}{a:Scope}{Y:List (Str×Addr)}{tg Q a6 M:Expr}{a9:List Expr}{pos b1:Pos}{wi:TI}{g gt:TG}{tt:TT}{te:TE}
  (S:aS X N js a Y) (hc:X.calm=true) (hi:PI X tg Q wi)
  (hg:∀C s H fp,PG (aF X N a Y C s H fp) tg g) (ht:∀C s H fp,lg (aF X N a Y C s H fp) a9 tt) (he:∀C s H fp,PE (aF X N a Y C s H fp) a6 te) (d9:PG X M gt)
  (hs:∀x,foldedSetIterable Q X.env x=pure x:=by intro _;rfl) (d3:swapsWithSole [M] (.ListComp a6 [⟨tg,Q,a9,0⟩] a pos) b1.line X.env=pure true:=by rfl)
  (h1:(assignEach [M] X.env).map (·.2)= [assign M X.env]:=by rfl):PS X (.Assign [M] (.ListComp a6 [⟨tg,Q,a9,0⟩] a pos) b1) (CF (DZ js wi g tt te) gt):=by
 intro Z s σ H Dn I h
 rw[exec_Assign_arm]
 refine Qaq (wpAny_standAt (Qaq (wpAny_of_eq d3 (wpAny_ite_true rfl (Qaq ?_)))))
 rw[h1]
 show wpAny _ _ (do let _←comprehension _ _ _ _ _ _ _ (some λv=>assignAll v [assign M X.env]);pure ()) _ _ _
 refine Qaq ?_
 refine wpAny_comprehension_free (use:=some λv=>assignAll v [assign M X.env]) rfl hs S.clos S.kind S.names (bW (hi Z s σ H _ I h) λv s1 h1=>bW h1 λe0 k h2=> ?_)
 obtain⟨it,fp,tn,J,H2,e,B,T,b2,f2,hD⟩:=h2
 subst e
 refine QhQ (wpAny_newFunctionEnv S.nocell (by intro y hy;simp at hy) (λP K t=> ?_) S.kind)
 dsimp only at K t⊢
 generalize b5:k.heap.push {cls:=.type "list",dict:=none,data:=.seq ([]:List Value).toArray}=P2 at K t⊢
 have hC:P2.objs.size=k.heap.objs.size+1:=by rw[←b5,Heap.size_push]
 have c9:k.heap.objs.size≠P2.objs.size:=by rw[hC];exact Qwq (Nat.lt_succ_self _)
 have a4:k.heap.objs.size<=P2.objs.size:=by rw[hC];exact Nat.le_succ _
 have G:∀b,b<k.heap.objs.size->b≠P2.objs.size:=λb f=>by rw[hC];exact Qwq (Nat.lt_succ_of_lt f)
 have a0:∀b o,k.heap.get? b=some o->P.get? b=some o:=λb o e=>t.extBut b o (G b (Qiq e)) (Qcq _ (b5▸Qcq _ e))
 have b9:P.get? k.heap.objs.size=some {cls:=.type "list",dict:=none,data:=.seq ([]:List Value).toArray}:=t.extBut _ _ c9 (Qcq _ (b5▸Qrq _ rfl))
 have nD:H2 k.heap.objs.size=none:=B.fresh
 have nC:H2 P2.objs.size=none:=B.hok.fresh a4
 have b3:∀b∈fp,b<k.heap.objs.size:=λb f=>by
  obtain⟨o,e,_⟩:=T.obj _ _ b2 b f
  exact Qiq e
 obtain⟨W,⟨m0,w0⟩,b7⟩:=hD k.heap.objs.size nD
 have c6:(aF X N a Y P2.objs.size k H2 fp).Ok:=by
  refine⟨B.ok.mod,S.kind,B.ok.glob,B.ok.blt,a4,λx y c h1 h2=>B.ok.inj x y c (S.sub x c h1) (S.sub y c h2),S.has,(λx c h=>by cases h),B.ok.hd,B.ok.frames,.inl rfl,
   λb f=>⟨G b (b3 b f),λx c h=>(f2 b f).2.2.2.2.1 x c (S.sub x c h)⟩,B.bs,QAq B.ok.bsz B.sz,λb o e f=> ?_,λb f z=> ?_,B.stack,B.stkFree⟩
  ·rcases(f2 b f).2.2.2.1 with z|z
   ·exact B.ok.noex b o e z
   ·exact absurd (Qqq (Qqq (Qiq e) B.ok.bsz) z) (Nat.lt_irrefl _)
  ·rcases Qsq.mp (B.stkSub b z) with q|q
   ·exact(f2 b f).2.1 q
   ·exact(f2 b f).2.2.1 q
 have c4:bI X.prog X.w (upd H2 k.heap.objs.size (.lst [])) P k.heap.objs.size (.lst []):=⟨Nat.zero_le _,[],0,.nil,b9⟩
 have I4:Inv (aF X N a Y P2.objs.size k H2 fp) [] (jj js σ) (upd H2 k.heap.objs.size (.lst [])) {k with heap:=P,toks:=k.toks+([]:List (Str×Value)).length}:=by
  refine⟨c6,rfl,B.bare,Un.laid a0 (Qmq _) nD,⟨_,K,λi x v h1 h2 h3=> ?_⟩,λx c h=> ?_,by show upd H2 _ _ P2.objs.size=none;rw[aN c9.symm];exact nC,λx c h=> ?_,λp hp=>absurd (show p∈([]:List (Addr×Obj)) from hp) (by simp),B.hok.laid a0 (Qmq _) c4,by show(jj js σ).length=N.length;unfold jj;rw[lQm];exact S.len⟩
  ·unfold jj at h2
   rw[gQm] at h2
   cases e:js[i]? with
   |none=>rw[e] at h2;cases h2
   | some o=>
     rw[e] at h2
     cases o with
     |none=>cases h2
     | some j=>
       have a2:σ.getD j none=some v:=QdQ h2
       have hj:σ[j]?=some (some v):=by
         rw[Qlq] at a2
         cases q:σ[j]? with
         |none=>rw[q] at a2;cases a2
         |some y=>rw[q] at a2;exact congrArg some a2
       obtain⟨c1,c2,c3⟩:=S.cap i j x e h1
       obtain⟨m,hn,hl⟩:=B.loc
       have d8:GB X.env.scope x:=by
         rcases c2 with z|z
         · exact .inr (.inl z)
         · exact .inr (.inr z)
       obtain⟨u,r,l⟩:=hl j x v c1 hj d8
       refine⟨u,r,.inr ⟨c3,?_⟩⟩
       obtain⟨c,d1⟩:=S.has x c3
       refine⟨c,d1,?_⟩
       rcases l with⟨z,_⟩|⟨_,c',e',z⟩
       · rcases c2 with y|y <;>rw[y] at z <;>cases z
       · rw[S.sub x c d1] at e'
         cases e'
         obtain⟨o,ho,hd⟩:=z
         exact⟨o,a0 _ _ ho,hd⟩
  ·obtain⟨v,o,ho,hd⟩:=B.cell x c (S.sub x c h)
   exact⟨v,o,a0 _ _ ho,hd⟩
  ·obtain⟨v,o,ho,hd⟩:=B.cell x c (S.sub x c h)
   rw[aN (Qwq (Qiq ho))]
   exact B.freeC x c (S.sub x c h)
 have a3:∀{R:List (Addr×Obj)} {H':Hp},R= []->(∀b∈fp,H' b=none)->∀b∈fp,ou (aF X N a Y P2.objs.size k H2 fp) R H' b:=λ{R H'} ep hn b f=>by
  subst ep
  refine⟨hn b f,G b (b3 b f),λz=>c6.exfs b f z,.inl f,λx c h=>(f2 b f).2.2.2.2.1 x c (S.sub x c h),λp hp=>absurd (show p∈([]:List (Addr×Obj)) from hp) (by simp)⟩
 have b0:codeAny (model X.prog X.w) X.A (.compLoop (.ListComp a6 [⟨tg,Q,a9,0⟩] a pos) 0 (.ref it) (.ref k.heap.objs.size) (compEnvC a Y P2.objs.size X.env))
   (compPost (model X.prog X.w) X.A X.xe (some λv=>assignAll v [assign M X.env]) (λ_ s9=>wpAny (model X.prog X.w) X.A (pure ()) (λ_ d4=>wpAny (model X.prog X.w) X.A (pure Flow.next) (SP X Z Dn) X.xe d4) X.xe s9) (.ref k.heap.objs.size) P2.objs.size) {k with heap:=P,toks:=k.toks+([]:List (Str×Value)).length}:=by
  refine mw (λn s'=>∃i a5 H',Inv (aF X N a Y P2.objs.size k H2 fp) [] a5 H' s'/\tn i s'.heap/\(∀b∈fp,H' b=none)/\W i n a5 H') ?_ m0
   ⟨0,_,_,I4,T.keep _ _ _ b2 λb _ o e=>a0 b o e,λb f=>by rw[aN (Qwq (b3 b f))];exact(f2 b f).1,w0⟩
  rintro n s3 ⟨i,a7,H3,I3,c5,c0,w3⟩
  rcases b7 i n a7 H3 w3 with⟨stop,q⟩|⟨go,Nx,hN,c7⟩
  ·refine bW (T.done (aF X N a Y P2.objs.size k H2 fp) rfl rfl rfl hc i [] s3 a7 H3 _ I3 (a3 rfl c0) c5 stop) λr s4 U=> ?_
   obtain⟨hr,I5⟩:=U
   subst hr
   obtain⟨m,hn,_⟩:=id I5.loc
   have d5:∀h',Heap.SameBut P2.objs.size s4.heap h'->Inv X Z σ H3 {s4 with heap:=h'}:=by
    intro h' a1
    have u:=I5.base
    have ne:∀b o,k.heap.get? b=some o->b≠P2.objs.size:=λb o e=>G b (Qiq e)
    refine B.call' (ch:=fp) I5.os ⟨λb o e n f hx=>(a1.2 b (ne b o e)).trans (u.keep b o e n f hx),λb o e n f hx=> ?_,u.free,λb o e hx=> ?_,u.tups,u.frzs,u.tbls⟩ (λb ob e=> ?_) I5.bare λb f=>⟨(f2 b f).2.2.2.1,(f2 b f).2.1,(f2 b f).2.2.2.2.1,(f2 b f).2.2.2.2.2⟩
    ·obtain⟨sl,e1⟩:=u.slot b o e n f hx
     exact⟨sl,(a1.2 b (ne b o e)).trans e1⟩
    ·obtain⟨o',e1⟩:=u.there b o e hx
     exact⟨o',(a1.2 b (ne b o e)).trans e1⟩
    ·refine(I5.hok b ob e).stay (λc w' hc q=>(a1.2 c ?_).trans q) (λ_ q=>q) λ_ _ q=>q
     have fC:H3 P2.objs.size=none:=I5.free
     rintro rfl
     rcases hc with z|z
     ·rw[←z,fC] at e;cases e
     ·rw[fC] at z;cases z
   have IX:=d5 s4.heap ⟨rfl,λ_ _=>rfl⟩
   have a8:ou X Z H3 P2.objs.size:=B.fpOk a4 I5.free
   obtain⟨oC,es,ep,b8,b6,d6⟩:=hn
   have IP:=IX.pinned (fp:= [P2.objs.size]) (λb f=>by rw[Qfq] at f;rw[f];exact a8) (λb f=>by rw[Qfq] at f;rw[f];exact⟨oC,b8,λv=>by rw[b6];simp⟩)
   show wpAny _ _ (assignAll (.ref k.heap.objs.size) [assign M X.env]) _ _ _
   rw[assignAll.eq_2]
   refine bW (d9 _ s4 σ H3 (.ref k.heap.objs.size) (.ref k.heap.objs.size) _ IP rfl q) λ_ s6 U=> ?_
   obtain⟨F,H6,I6,q6⟩:=U
   have pC:=I6.pin (P2.objs.size,oC) (Qoq _ (Qoq _ (cP (Qfq.mpr rfl) b8)))
   refine⟨m,⟨oC,es,ep,pC.1,b6,d6⟩,λh' a1=>Qgq (Qgq ⟨F,H6,?_,q6⟩)⟩
   exact I6.unpinned.turned (it:=P2.objs.size) (t':=s6.toks) (λb o' f e=>(a1.2 b f).trans e) pC.2.1 pC.2.2.1 a8.2.2.2.1 a8.2.2.2.2.1 a8.2.2.2.2.2
  ·refine bW (T.item (aF X N a Y P2.objs.size k H2 fp) rfl rfl rfl hc i [] s3 a7 H3 _ I3 (a3 rfl c0) c5 go) λr s4 U=> ?_
   obtain⟨u,hr,h4⟩:=U
   subst hr
   refine bW h4 λ_ s5 U=> ?_
   obtain⟨x,H5,I5,r5,y5,b4,d7⟩:=U
   have d2:=I5.pinned (a3 rfl d7) (T.obj _ _ b4)
   refine bW (hg P2.objs.size k H2 fp _ s5 a7 H5 x u _ d2 r5 (c7 x H5 y5)) λ_ s6 U=> ?_
   obtain⟨F,H6,I6,q6⟩:=U
   refine bW (ht P2.objs.size k H2 fp _ s6 F H6 _ I6 q6) λok s7 U=> ?_
   obtain⟨H7,I7,q7⟩:=U
   have again:∀{s8:Shared} {H8:Hp},Inv (aF X N a Y P2.objs.size k H2 fp) ([]++lT fp s5.heap) F H8 s8->Nx F H8->∃m,m<n/\∃i a5 H',Inv (aF X N a Y P2.objs.size k H2 fp) [] a5 H' s8/\tn i s8.heap/\(∀b∈fp,H' b=none)/\W i m a5 H':=λ{s8 H8} I8 n8=>by
    obtain⟨m',hm,w8⟩:=hN F H8 n8
    refine⟨m',hm,i+1,F,H8,I8.unpinned,T.keep _ _ _ b4 λb f o e=>(I8.pin (b,o) (Qoq _ (Qoq _ (cP f e)))).1,λb f=> ?_,w8⟩
    obtain⟨o,e,d⟩:=T.obj _ _ b4 b f
    exact(I8.pin (b,o) (Qoq _ (Qoq _ (cP f e)))).2.1
   cases ok with
   |false=>exact again I7 q7
   | true=>
     refine bW (he P2.objs.size k H2 fp _ s7 F H7 _ I7 q7) λyv s8 U=> ?_
     obtain⟨y,H8,I8,ry,xs,hx,hl,n8⟩:=U
     refine bW (nR (X:=aF X N a Y P2.objs.size k H2 fp) _ s8 F H8 (.ref k.heap.objs.size) [y] (.ref k.heap.objs.size) [yv] (λ_ H'=>Nx F H') I8 rfl (.cons ry .nil) ⟨_,xs,y,rfl,rfl,hx,hl,n8⟩) λ_ s9 U=> ?_
     obtain⟨z,H9,I9,_,q9⟩:=U
     exact again I9 q9
 exact codeAny_compStart_list b0 (T.self _ 0 _ _ _ (T.keep _ _ _ b2 λb _ o e=>a0 b o e) b0)
end L2
namespace Dk
open PySem
end Dk
namespace L2
open PySem PySem.Spec PyProof.Rows
section
variable{X:Cx}
def Hz(K:PySem.W.Frag):List V->Hp->VK->Prop:=λd H Q=>∃(a:Addr) (c:List Str),d= [.ref a]/\jC K H a (c.map V.str)/\c.length<64/\∀(l:Addr) (b:List Str),H l=none->sortedS b=true->b.Perm c->Q (.ref l) (upd H l (.lst (b.map V.str)))
theorem tV:∀{ys:List Str} {a:List Value},bp (ys.map V.str) a->StrsAre a ys
 | [],_,r=>by cases r;exact .nil
 | y::ys,_,r=>by
   cases r with
   | cons h t=>
     obtain⟨b,rfl⟩:=h
     exact .cons y b (tV t)
def vO{a:List Str}{vs:List Value}(h:StrsAre vs a):bp (a.map V.str) vs:=by
 induction h with
 |nil=>exact .nil
 |cons y t _ b=>exact .cons ⟨t,rfl⟩ b
def vY:gE X (.builtin "sorted") (Hz X.K):=by
 intro l s A H y B Q I r h
 obtain⟨a,k,rfl,ha,h64,q⟩:=h
 obtain⟨u,rfl,rx⟩:=vals1 r
 cases (show u=Value.ref a from rx)
 obtain⟨f,m,x,z⟩:=I.list ha
 have n:f.length=k.length:=by have:=m.length;simpa using this.symm
 have g:s.heap.objs.size<=s.heap.objs.size+1:=Nat.le_succ _
 refine sorted_strs x.isList (tV m) (by omega) λd c p j v=> ?_
 obtain⟨e,w⟩:=sortedAll_at s.heap f d
 have i:c.length=k.length:=j.length_eq
 refine⟨.ref (s.heap.objs.size+1),_,I.laid (a:=s.heap.objs.size+1) (o:=.lst (c.map V.str)) (h':=sortedAll s.heap f d) (t':=s.toks) (λb o t=> ?_) g ⟨?_,d.toList,e,vO p,?_⟩,rfl,q _ c (I.hok.fresh g) v j⟩
 ·exact sortedAll_old t
 ·rw[lQm,i]
  exact QAq (nQl h64) (by decide)
 ·simpa using w
end
end L2
namespace Zp
open PySem
section
variable{prog:Program}{w:World}{A:Around}{E:Value->Shared->Prop}{s:Shared}
def Mh{i t:Addr}{k:Nat}{vs:Array Value}{v:Value}{Q:Value->Shared->Prop}(c:s.heap.IsTupleIter i t k)(g:s.heap.IsTuple t vs)(f:vs[k]?=some v)
  (q:∀h',h'.IsTupleIter i t (k+1)->Heap.SameBut i s.heap h'->Q v {s with heap:=h'}):wpAny (model prog w) A (Builtin.SmallTypes.nextOf (.ref i)) Q E s:=by
 obtain⟨m,b,d,a⟩:=id c
 obtain⟨j,e,_,l,h⟩:=g
 unfold Builtin.SmallTypes.nextOf
 refine Qaq (QiQ (name:=Str.ofString "__next__") c.typeIs F.slot_tuple_iterator_next (wpAny_call_entry F.slot_tuple_iterator_next c.typeIs F.entry_tuple_iterator_next ?_ (F.args_tuple_iterator_next_1 _)))
 refine(?_:wpAny _ _ (field (.ref i) 0 >>= _) _ _ s)
 refine Qaq (QMq b a (x:=.ref t) rfl ?_)
 refine(?_:wpAny _ _ (if (Value.ref t==Value.none)=true then _ else _) _ _ s)
 rw[Quq (λz=>by cases (show false=true from z))]
 refine(?_:wpAny _ _ (field (.ref i) 1 >>= _) _ _ s)
 refine Qaq (QMq b a (x:=.int k 0) rfl ?_)
 refine(?_:wpAny _ _ (seqItems? (.ref t) >>= _) _ _ s)
 refine Qaq (wpAny_seqItems e h ?_)
 simp only[Int.toNat_natCast,f]
 refine Qaq (wpAny_setField b a (by simp) (Qgq ⟨v,rfl,Qgq (q _ ⟨_,Heap.get?_update_self _ b (Obj.isFreed_of_fields (Obj.data_mapFields a _)),(Obj.cls_mapFields ..).trans d,?_⟩ (Heap.SameBut.update ..))⟩))
 rw[Obj.data_mapFields a]
 simp[rawInt]
def Ma{i t:Addr}{k:Nat}{vs:Array Value}{Q:Value->Shared->Prop}(f:A.handled=none)(b:s.heap.IsTupleIter i t k)(j:s.heap.IsTuple t vs)(h:vs[k]?=none)
  (q:∀h' e,Heap.ExtBut i s.heap h'->(∃o,h'.get? e=some o/\o.cls=.type "StopIteration")->E (.ref e) {s with heap:=h'}):wpAny (model prog w) A (Builtin.SmallTypes.nextOf (.ref i)) Q E s:=by
 obtain⟨u,d,n,c⟩:=id b
 obtain⟨p,g,_,r,l⟩:=j
 unfold Builtin.SmallTypes.nextOf
 refine Qaq (QiQ (name:=Str.ofString "__next__") b.typeIs F.slot_tuple_iterator_next (wpAny_call_entry F.slot_tuple_iterator_next b.typeIs F.entry_tuple_iterator_next ?_ (F.args_tuple_iterator_next_1 _)))
 refine(?_:wpAny _ _ (field (.ref i) 0 >>= _) _ _ s)
 refine Qaq (QMq d c (x:=.ref t) rfl ?_)
 refine(?_:wpAny _ _ (if (Value.ref t==Value.none)=true then _ else _) _ _ s)
 rw[Quq (λz=>by cases (show false=true from z))]
 refine(?_:wpAny _ _ (field (.ref i) 1 >>= _) _ _ s)
 refine Qaq (QMq d c (x:=.int k 0) rfl ?_)
 refine(?_:wpAny _ _ (seqItems? (.ref t) >>= _) _ _ s)
 refine Qaq (wpAny_seqItems g l ?_)
 simp only[Int.toNat_natCast,h]
 refine Qaq (wpAny_rule (Qaq (wpAny_setField d c (by simp) ?_)))
 refine(?_:wpAny _ _ (newExc (.type "StopIteration") [] >>= _) _ _ _)
 refine Qaq ?_
 simp only[newExc,newTuple]
 refine Qaq (QhQ ?_ (by size_fits))
 refine Qaq (m:=firstArgMember _ _) (wpAny_of_eq (a:=Value.none) (by first|rfl|(simp only[firstArgMember];rfl)) (QhQ ?_ (by size_fits)))
 simp only[raiseNew]
 refine Qaq (wpAny_handled ?_)
 first|rw[show A.in1.handled=none from f]|rw[f]
 exact Qaq (Qgq (wpAny_throw (q _ _ (((Heap.SameBut.update ..).extBut.push _).push _) ⟨_,Qrq _ rfl,rfl⟩)))
end
def Rest(z O i j:Addr)(h h':Heap):Prop:=∀c o,c≠z->c≠O->c≠i->c≠j->h.get? c=some o->h'.get? c=some o
end Zp
namespace L2
open PySem PySem.Spec PyProof.Rows
section
variable{X:Cx}{pins:List (Addr×Obj)}{σ:St}{H:Hp}{s:Shared}{h':Heap}
def Inv.turnedL{t':Nat}{fp:List Addr}(I:Inv X pins σ H s)(d:∀b∈fp,ou X pins H b)(k:∀b o,b∉fp->s.heap.get? b=some o->h'.get? b=some o):Inv X pins σ H {s with heap:=h',toks:=t'}:=by
 have f:∀b u,H b=some u->b∉fp:=λb u e z=>by rw[(d b z).1] at e;cases e
 refine I.step (g':=s.gens) (d':=s.drawn) (ch:=fp) (λb g=>⟨(d b g).2.2.2.1,(d b g).2.1,(d b g).2.2.2.2.1,(d b g).2.2.2.2.2⟩) (λb o _ _ a e _=>k b o a e) (λb o _ _ a e _=>⟨o.slots,k b o a e⟩) (λ_ _ _ _ n=>n)
  (λb o a e=>⟨o,k b o a e⟩) (λ_ _ e=>e) (λ_ _ _ e=>e) (λb p e=>⟨#[],by rw[e];simp⟩) (λm i=> ?_) (λb u e=> ?_) I.bare
 ·obtain⟨o,h,j,l,r⟩:=i
  exact⟨o,h,j,k _ o (λz=>(d _ z).2.1 rfl) l,r⟩
 ·refine(I.hok b u e).stay (λc v a q=>k c v ?_ q) (λ_ q=>q) λ_ _ q=>q
  rcases a with z|z
  ·rw[z];exact f b u e
  ·exact f c _ z
def Inv.turnedNew{t':Nat}{fp:List Addr}{p:Addr}{o:HO}(I:Inv X pins σ H s)(f:∀b∈fp,ou X pins H b)(k:∀b u,b∉fp->s.heap.get? b=some u->h'.get? b=some u)(i:s.heap.objs.size<=p)
  (new:bI X.prog X.w (upd H p o) h' p o):Inv X pins σ (upd H p o) {s with heap:=h',toks:=t'}:=by
 have x:=I.hok.fresh i
 have h:∀b u,H b=some u->b∉fp:=λb u e z=>by rw[(f b z).1] at e;cases e
 have g:∀b u,H b=some u->upd H p o b=some u:=λb u e=>by rw[aN (dS e x)];exact e
 refine I.step (g':=s.gens) (d':=s.drawn) (ch:=fp) (λb a=>⟨(f b a).2.2.2.1,(f b a).2.1,(f b a).2.2.2.2.1,(f b a).2.2.2.2.2⟩) (λb o _ _ d e _=>k b o d e) (λb o _ _ d e _=>⟨o.slots,k b o d e⟩)
  (λb u _ e n=>by rw[aN (λz=>Nat.lt_irrefl _ (Qqq (Qiq e) (by rw[z];exact i)))];exact n)
  (λb o d e=>⟨o,k b o d e⟩) (λb A e=>g b _ e) (λb u v e=>g b _ e) (λb B e=>⟨#[],by rw[g b _ e];simp⟩) (λm l=> ?_) (λb u e=> ?_) I.bare
 ·obtain⟨o,j,t,y,r⟩:=l
  exact⟨o,j,t,k _ o (λz=>(f _ z).2.1 rfl) y,r⟩
 ·by_cases a:b=p
  ·subst a
   rw[aU] at e
   cases e
   exact new
  ·rw[aN a] at e
   refine(I.hok b u e).stay (λc v d q=>k c v ?_ q) (λc q=>g c _ q) λc _ q=>g c _ q
   rcases d with z|z
   ·rw[z];exact h b u e
   ·exact h c _ z
end
end L2
namespace Zp
open PySem PySem.W PyProof.Rows
end Zp
namespace L2
open PySem PySem.Spec PyProof.Rows
mutual
inductive nJ(N:Addr->Prop)(H:Hp):PyData->V->Prop
 |non:nJ N H .none .non
 |bl (b:Bool):nJ N H (.bool b) (.bl b)
 |int (i:Int):nJ N H (.int i) (.int i)
 |str (x:Str):nJ N H (.str x) (.str x)
 |tup {a:Addr} {us:List V} {xs:List PyData}:H a=some (.tup us)->qI N H xs us->nJ N H (.tuple xs) (.ref a)
 |lst {a:Addr} {us:List V} {xs:List PyData}:H a=some (.lst us)->N a->qI N H xs us->nJ N H (.list xs) (.ref a)
 |dct {a:Addr}:H a=some (.dK [])->nJ N H (.dict []) (.ref a)
inductive qI(N:Addr->Prop)(H:Hp):List PyData->List V->Prop
 |nil:qI N H [] []
 |cons {x:PyData} {u:V} {xs:List PyData} {us:List V}:nJ N H x u->qI N H xs us->qI N H (x::xs) (u::us)
end
section
variable{X:Cx}
mutual
theorem mW{f:List (Addr×Obj)}{K:St}{H:Hp}{s:Shared}{N:Addr->Prop}(I:Inv X f K H s)(m:∀a,N a->a≠sysModules):∀{d:PyData} {v:V} {u:Value},nJ N H d v->RelV v u->∃as,Reads s.heap u d as/\sysModules∉as
 |_,_,_,.non,r=>by cases r;exact⟨_,.none,by simp⟩
 |_,_,_,.bl b,r=>by cases r;exact⟨_,.bool b,by simp⟩
 |_,_,_,.int i,r=>by obtain⟨t,rfl⟩:=r;exact⟨_,.int i t,by simp⟩
 |_,_,_,.str x,r=>by obtain⟨t,rfl⟩:=r;exact⟨_,.str x t,by simp⟩
 | _,_,_,.tup (a:=a) h hs,r=>by
   cases r
   obtain⟨l,p,⟨o,g,c,n,q⟩,J⟩:=I.tuple (gr.of h)
   obtain⟨as,k,j⟩:=oF I m hs p
   exact⟨as,.tuple g c q (by simpa using k),j⟩
 | _,_,_,.lst (a:=a) h n hs,r=>by
   cases r
   obtain⟨l,p,G,J⟩:=I.list (jC.of h)
   obtain⟨o,g,c,P,q⟩:=G.isList
   obtain⟨as,k,j⟩:=oF I m hs p
   exact⟨_,.list g c q (by simpa using k),by rw[Qsq];exact λe=>e.elim (λe=>m _ n e.symm) j⟩
 | _,_,_,.dct (a:=a) h,r=>by
   cases r
   obtain⟨_,w,Q,F,B⟩:=yf I.hok h
   cases F
   obtain⟨o,z,M,g,C,c,_,A,_⟩:=B
   have y:z.toList= []:=List.eq_nil_of_length_eq_zero A.length
   exact⟨_,.dict (as:= []) (bs:= []) (kvs:= []) g C.1 c (by rw[y];exact .nil) (by rw[y];exact .nil),by
     simp
     intro e
     rw[e] at w
     simp at w⟩
theorem oF{b:List (Addr×Obj)}{k:St}{H:Hp}{s:Shared}{N:Addr->Prop}(I:Inv X b k H s)(c:∀a,N a->a≠sysModules):∀{xs:List PyData} {d:List V} {vs:List Value},qI N H xs d->bp d vs->∃as,ReadsAll s.heap vs xs as/\sysModules∉as
 |_,_,_,.nil,r=>by cases r;exact⟨_,.nil,by simp⟩
 | _,_,_,.cons h hs,r=>by
   cases r with
   | cons r l=>
     obtain⟨as,j,f⟩:=mW I c h r
     obtain⟨m,i,g⟩:=oF I c hs l
     exact⟨_,.cons j i,by rw[mQa];exact λe=>e.elim f g⟩
end
end
section
variable{X:Cx}
def Ga:kg X (binaryOp .Mult) (rI IntMulOk λi j=>.int (i*j)):=Mx λ_ _ _ _ _ _ _ a q=>mul_int q a
end
end L2
namespace HT
open PySem PySem.Spec PyProof.Rows
section
variable{prog:Program}{w:World}{A:Around}{E:Value->Shared->Prop}{s:Shared}
def kL{t sl:Addr}{items:Array Value}{f g:Value}{lo hi:Option Int}{Q:Value->Shared->Prop}(b:IsTup s.heap t items)(i:s.heap.IsSliceOf sl f g .none)(p:IsPart f lo)(l:IsPart g hi)
  (j:dW items.size 0 lo=0/\dW items.size items.size hi=items.size) (h:Q (.ref t) s):wpAny (model prog w) A (getItem (.ref t) (.ref sl)) Q E s:=by
 obtain⟨n,e,c,o⟩:=id i
 have d:s.TypeIs (.ref sl) "slice":=⟨n,e,c⟩
 unfold getItem
 try with_reducible refine QLq ?_
 first|refine Qaq (Qgq ?_)|skip
 refine Qaq (wpAny_sequenceKey b.typeIs (by decide) ?_)
 refine Qaq (QiQ (name:=Str.ofString "__getitem__") b.typeIs PyProof.Rows.slot_tuple_getitem
  (wpAny_call_entry PyProof.Rows.slot_tuple_getitem b.typeIs entry_tuple_getitem ?_ (args_tuple_getitem _ _)))
 show wpAny _ _ (Builtin.Tuple.tupleItemsOf (.ref t) >>= _) _ _ s
 refine Qaq (tupleItemsOf_ b ?_)
 refine Qaq (wpAny_typeOf d ?_)
 rw[Qhq (by decide)]
 refine Qaq (iz i p l ?_)
 have a:(((dW items.size 0 lo:Nat):Int)==0&&(1:Int)==1&&(dW items.size items.size hi-dW items.size 0 lo)==items.size)=true:=by
  rw[j.1,j.2]
  simp
 show wpAny _ _ (if (((dW items.size 0 lo:Nat):Int)==0&&(1:Int)==1&&(dW items.size items.size hi-dW items.size 0 lo)==items.size)=true then _ else _) _ _ s
 rw[Qhq a]
 have k:∀{A:Around} {E:Value->Shared->Prop} {R:Bool->Shared->Prop},R true s->wpAny (model prog w) A (Builtin.Tuple.tupleIsExact (.ref t)) R E s:=λ{A E R} h=>by
  unfold Builtin.Tuple.tupleIsExact
  exact Qaq (wpAny_typeOf b.typeIs (Qgq h))
 refine Qaq (m:=Builtin.Tuple.tupleIsExact _) (k ?_)
 rw[Qhq rfl]
 refine Qaq (wpAny_rule ?_)
 exact Qgq ⟨_,rfl,Qgq h⟩
end
end HT
namespace L2
open PySem PySem.Spec PyProof.Rows
def NW(K:PySem.W.Frag):V->Option Int->Option Int->Hp->VK->Prop:=λx c d H Q=>∃a b,x=.ref a/\gr K H a b∧
 (HT.dW b.length 0 c=0/\HT.dW b.length b.length d=b.length->Q (.ref a) H)/\(¬(HT.dW b.length 0 c=0/\HT.dW b.length b.length d=b.length)->∀p,H p=none->Q (.ref p) (upd H p (.tup (zy b c d))))
def GG{X:Cx}:NN X (NW X.K):=by
 intro d s q H x v o p k m sl Q I j g l i h
 obtain⟨a,b,rfl,hx,q1,q2⟩:=h
 by_cases e:HT.dW b.length 0 k=0/\HT.dW b.length b.length m=b.length
 ·cases j
  obtain⟨f,r,n,t⟩:=I.tuple hx
  have c:f.toArray.size=b.length:=by rw[Qjq];exact r.length.symm
  refine⟨"tuple",_,PyProof.Rows.slot_tuple_getitem.lookup,n.typeIs,?_⟩
  exact HT.kL n g l i (by rw[c];exact e) ⟨.ref a,H,I,rfl,q1 e⟩
 ·exact Ja d s q H _ v o p k m sl Q I j g l i ⟨a,b,rfl,hx,e,q2 e⟩
end L2
namespace ST
open PySem
def sm:Nat->Nat
 |0=>0
 |n+1=>5*sm n+1
theorem I_:∀n,5^n=4*sm n+1
 |0=>rfl
 |n+1=>by rw[Nat.pow_succ,I_ n,sm];omega
theorem Fk(a:Nat):∀b,sm (a+b)=5^b*sm a+sm b
 |0=>by simp[sm]
 |b+1=>by rw[←Nat.add_assoc,sm,Fk a b,sm,Nat.pow_succ,Nat.mul_add,Nat.mul_comm (5^b) 5,Nat.mul_assoc];omega
theorem ED:∀n,sm n%2=n%2
 |0=>rfl
 |n+1=>by have:=ED n;rw[sm];omega
def Bx{k a c:Nat}(h:2^k ∣ a*(2*c+1)):2^k ∣ a:=by
 have:Nat.Coprime (2^k) (2*c+1):=Nat.Coprime.pow_left k (by rw[Nat.coprime_iff_gcd_eq_one,Nat.gcd_rec];simp[Nat.add_mod])
 exact this.dvd_of_dvd_mul_right h
theorem EX:∀(k d:Nat),2^k ∣ sm d->2^k ∣ d
 |0,d,_=>by simp
 | k+1,d,h=>by
   have b:2 ∣ sm d:=Nat.dvd_trans ⟨2^k,by rw[Nat.pow_succ,Nat.mul_comm]⟩ h
   have:=ED d
   obtain⟨e,rfl⟩:∃e,d=e+e:=⟨d/2,by omega⟩
   have a:sm (e+e)=2*(sm e*(2*sm e+1)):=by
     rw[Fk,I_,Nat.add_mul,Nat.mul_add]
     have:sm e*(2*sm e)=2*(sm e*sm e):=by rw[←Nat.mul_assoc,Nat.mul_comm (sm e) 2,Nat.mul_assoc]
     rw[this,Nat.mul_assoc]
     omega
   rw[a,Nat.pow_succ,Nat.mul_comm] at h
   have:=EX k e (Bx (Nat.dvd_of_mul_dvd_mul_left (by decide) h))
   rw[Nat.pow_succ,←Nat.two_mul,Nat.mul_comm]
   exact Nat.mul_dvd_mul_left 2 this
def wH(N x:Nat):Nat->Nat
 |0=>x
 |n+1=>(wH N x n*5+1)%N
theorem A5{N x:Nat}(a:x<N):∀n,wH N x n=(5^n*x+sm n)%N
 |0=>by simp[wH,sm,Nat.mod_eq_of_lt a]
 | n+1=>by
   rw[wH,A5 a n,Nat.add_mod,Nat.mod_mul_mod,←Nat.add_mod,sm,Nat.pow_succ,Nat.add_mul]
   congr 1
   rw[Nat.mul_right_comm]
   omega
def J4{N x:Nat}(a:0<N)(b:x<N):∀n,wH N x n<N
 |0=>b
 |n+1=>Nat.mod_lt _ a
theorem As{N x:Nat}(a:Nat):∀b,wH N x (a+b)=wH N (wH N x a) b
 |0=>rfl
 |b+1=>by rw[←Nat.add_assoc,wH,As a b,wH]
def Hu{k x d:Nat}(b:x<2^k)(h:wH (2^k) x d=x):2^k ∣ d:=by
 rw[A5 b,I_] at h
 refine EX k d (Bx (c:=2*x) ?_)
 have e:(4*sm d+1)*x+sm d=x+sm d*(2*(2*x)+1):=by
  rw[Nat.add_mul,Nat.mul_add]
  have:4*sm d*x=sm d*(2*(2*x)):=by rw[←Nat.mul_assoc 2 2 x,←Nat.mul_assoc (sm d),Nat.mul_comm (sm d) (2*2)]
  omega
 rw[e] at h
 have f:(x+sm d*(2*(2*x)+1))%2^k=x%2^k:=by rw[h,Nat.mod_eq_of_lt b]
 have a:=Nat.sub_mod_eq_zero_of_mod_eq f
 rw[Nat.add_sub_cancel_left] at a
 exact Nat.dvd_of_mod_eq_zero a
def F9{k x a b:Nat}(c:x<2^k)(d:a<b)(f:b-a<2^k):wH (2^k) x a≠wH (2^k) x b:=by
 intro h
 have e:b=a+(b-a):=by omega
 rw[e,As] at h
 have:=Hu (J4 (Nat.two_pow_pos k) c a) h.symm
 exact absurd (Nat.le_of_dvd (by omega) this) (by omega)
theorem m_{α:Type}[DecidableEq α]:∀{l m:List α},l.Nodup->(∀x∈l,x∈m)->l.length<=m.length
 | [],_,_,_=>Nat.zero_le _
 | x::l,m,n,h=>by
   rw[List.nodup_cons] at n
   have a:=h x QBq
   have:=m_ (l:=l) (m:=m.erase x) n.2 λy b=>(List.mem_erase_of_ne (λz=>n.1 (by rw[←z];exact b))).mpr (h y (Qpq _ b))
   rw[List.length_erase_of_mem a] at this
   have:=List.length_pos_of_mem a
   simp
   omega
def Ek{k x:Nat}{occ:List Nat}(f:x<2^k)(h:occ.length<2^k):∃n,n<=occ.length/\wH (2^k) x n∉occ:=by
 refine Classical.byContradiction λc=> ?_
 have e:∀n,n<=occ.length->wH (2^k) x n∈occ:=λn d=>Classical.byContradiction λi=>c ⟨n,d,i⟩
 have j:((List.range (occ.length+1)).map (wH (2^k) x)).Nodup:=by
  rw[List.nodup_iff_pairwise_ne,List.pairwise_map]
  refine List.Pairwise.imp_of_mem (R:=(·<·)) ?_ List.pairwise_lt_range
  intro a b p l g
  have:=List.mem_range.mp l
  exact F9 f g (by omega)
 have:=m_ j (m:=occ) λy o=>by
  obtain⟨n,d,rfl⟩:=Qkq.mp o
  exact e n (by have:=List.mem_range.mp d;omega)
 simp at this
 omega
end ST
namespace ST
open PySem PySem.SetTable
def rn(m:Nat)(h:Int):Nat->Nat×Nat
 |0=>(bits h%(m+1),bits h)
 |n+1=>leap m (rn m h n).1 (rn m h n).2
def L(m i:Nat):Nat:=runEnd m i-i
def Ge(m i:Nat):L m i<=9:=by unfold L runEnd;split <;>omega
def Mm{m i r:Nat}(hi:i<=m)(a:r<=L m i):i+r<=m:=by
 unfold L runEnd at a
 split at a <;>omega
def HY(m:Nat)(h:Int):∀n,(rn m h n).1<=m
 |0=>Nat.le_of_lt_succ (Nat.mod_lt _ (Nat.succ_pos m))
 | n+1=>by
   show(leap m (rn m h n).1 (rn m h n).2).1<=m
   exact Nat.le_of_lt_succ (Nat.mod_lt _ (Nat.succ_pos m))
def Hk(h:Int):bits h<2^64:=by
 unfold bits
 have b:=Int.emod_nonneg h (show(2^64:Int)≠0 by decide)
 have a:=Int.emod_lt_of_pos h (show(0:Int)<2^64 by decide)
 have:((h%(2^64:Int)).toNat:Int)<2^64:=by omega
 omega
theorem EY(m:Nat)(h:Int):∀n,(rn m h n).2=bits h/32^n
 |0=>by simp[rn]
 | n+1=>by
   show(rn m h n).2/32=_
   rw[EY m h n,Nat.div_div_eq_div_mul,Nat.pow_succ]
def M9(m:Nat)(h:Int){n:Nat}(a:13<=n):(rn m h n).2=0:=by
 rw[EY]
 refine Nat.div_eq_of_lt (Qqq (Hk h) ?_)
 refine QAq (show 2^64<=32^13 by decide) (Nat.pow_le_pow_right (by decide) a)
theorem HI{k m:Nat}(h:Int)(a:m+1=2^k):∀n,(rn m h (13+n)).1=wH (2^k) (rn m h 13).1 n
 |0=>rfl
 | n+1=>by
   show((rn m h (13+n)).1*5+1+(rn m h (13+n)).2/32)%(m+1)=_
   rw[M9 m h (by omega),HI h a n,a]
   rfl
def AX{k m:Nat}(h:Int)(b:m+1=2^k){occ:List Nat}(d:occ.length<=m):∃n,n<=13+occ.length/\(rn m h n).1∉occ:=by
 obtain⟨n,c,a⟩:=Ek (k:=k) (x:=(rn m h 13).1) (occ:=occ) (by have:=HY m h 13;omega) (by omega)
 exact⟨13+n,by omega,by rw[HI h b];exact a⟩
def sl(m:Nat)(h:Int)(n r:Nat):Nat:=(rn m h n).1+r
def pb(m:Nat)(h:Int)(n r:Nat):Probe:={j:=sl m h n r,more:=L m (rn m h n).1-r,i:=(rn m h n).1,perturb:=(rn m h n).2,dummy:=none}
def D7{t:SetTable}{h:Int}{n r:Nat}(a:r<L t.mask (rn t.mask h n).1):t.advance (pb t.mask h n r)=pb t.mask h n (r+1):=by
 unfold advance
 rw[Qhq (by show 0<L _ _-r;omega)]
 simp only[pb,sl,Probe.mk.injEq]
 exact⟨by omega,by omega,trivial,trivial,trivial⟩
def AQ{t:SetTable}{h:Int}{n:Nat}:t.advance (pb t.mask h n (L t.mask (rn t.mask h n).1))=pb t.mask h (n+1) 0:=by
 unfold advance
 rw[Quq (by show¬0<L _ _-L _ _;omega)]
 rfl
def sV(m:Nat)(h:Int)(n r:Nat)(V:Nat->Prop):Prop:=(∀b a,b<n->a<=L m (rn m h b).1->V (sl m h b a))/\∀a,a<r->V (sl m h n a)
def sV.in{m:Nat}{h:Int}{n r:Nat}{V:Nat->Prop}(b:sV m h n r V)(v:V (sl m h n r)):sV m h n (r+1) V:=
 ⟨b.1,λc a=>(Nat.lt_succ_iff_lt_or_eq.mp a).elim (b.2 c) λe=>e▸v⟩
def sV.out{m:Nat}{h:Int}{n:Nat}{V:Nat->Prop}(b:sV m h n (L m (rn m h n).1) V)(v:V (sl m h n (L m (rn m h n).1))):sV m h (n+1) 0 V:=
 ⟨λg d f a=>(Nat.lt_succ_iff_lt_or_eq.mp f).elim (λc=>b.1 g d c a) λe=>by
  subst e
  exact(Nat.lt_or_eq_of_le a).elim (b.2 d) λe=>e▸v,λd a=>absurd a (Nat.not_lt_zero _)⟩
def sV.zero{m:Nat}{h:Int}{V:Nat->Prop}:sV m h 0 0 V:=⟨λ_ _ c=>absurd c (Nat.not_lt_zero _),λ_ c=>absurd c (Nat.not_lt_zero _)⟩
def sV.imp{m:Nat}{h:Int}{n r:Nat}{V W:Nat->Prop}(b:sV m h n r V)(i:∀j,V j->W j):sV m h n r W:=⟨λe a c d=>i _ (b.1 e a c d),λa c=>i _ (b.2 a c)⟩
def F4(m:Nat)(h:Int)(V:Nat->Prop)(j:Nat):Prop:=∃n r,r<=L m (rn m h n).1/\j=sl m h n r/\sV m h n r V
def F4.imp{m:Nat}{h:Int}{V W:Nat->Prop}{j:Nat}(x:F4 m h V j)(i:∀j,V j->W j):F4 m h W j:=by
 obtain⟨n,r,c,a,b⟩:=x
 exact⟨n,r,c,a,b.imp i⟩
def rC(xs:Array Nat)(j:Nat)(y:xs.toList.Pairwise (·<·)):below xs j<=xs.size/\(∀i x,xs[i]?=some x->i<below xs j->x<j)/\∀i x,xs[i]?=some x->below xs j<=i->j<=x:=by
 have f:∀{i o x r:Nat},xs[i]?=some x->xs[o]?=some r->i<o->x<r:=λ{i o x r} s l c=>by
  obtain⟨w,C⟩:=Array.getElem?_eq_some_iff.mp s
  obtain⟨A,B⟩:=Array.getElem?_eq_some_iff.mp l
  have:=List.pairwise_iff_getElem.mp y i o (by simpa using w) (by simpa using A) c
  simp at this
  omega
 have q:∀a d b,d<=b->b<=xs.size->b-d<=a->(∀i x,xs[i]?=some x->i<d->x<j)->(∀i x,xs[i]?=some x->b<=i->j<=x)→
   below.go xs j a d b<=xs.size/\(∀i x,xs[i]?=some x->i<below.go xs j a d b->x<j)/\∀i x,xs[i]?=some x->below.go xs j a d b<=i->j<=x:=by
  intro a
  induction a with
  | zero=>
    intro d b s l z n p
    have:d=b:=by omega
    subst this
    exact⟨l,n,p⟩
  | succ a v=>
    intro d b s l z n p
    unfold below.go
    by_cases c:d<b
    · rw[Qhq c]
      dsimp only
      have u:(d+b)/2<xs.size:=by omega
      have e:xs.getD ((d+b)/2) j=xs[(d+b)/2]:=by simp[Array.getD,u]
      have g:xs[(d+b)/2]?=some xs[(d+b)/2]:=by simp[u]
      rw[e]
      by_cases m:xs[(d+b)/2]<j
      · rw[Qhq m]
        refine v _ _ (by omega) l (by omega) (λi x k hl=> ?_) p
        by_cases t:i=(d+b)/2
        · subst t;rw[g] at k;cases k;exact m
        · exact Nat.lt_trans (f k g (by omega)) m
      · rw[Quq m]
        refine v _ _ (by omega) (by omega) (by omega) n (λi x k hl=> ?_)
        by_cases t:i=(d+b)/2
        · subst t;rw[g] at k;cases k;omega
        · have:=f g k (by omega);omega
    · rw[Quq c]
      have:d=b:=by omega
      subst this
      exact⟨l,n,p⟩
 exact q xs.size 0 xs.size (Nat.zero_le _) (Qmq _) (by omega) (λi x _ c=>absurd c (Nat.not_lt_zero _)) (λi x h c=>by
  have:=(Array.getElem?_eq_some_iff.mp h).1;omega)
def yA{xs:Array Nat}(b:xs.toList.Pairwise (·<·)){i a x:Nat}(g:xs[i]?=some x)(f:xs[a]?=some x):i=a:=by
 obtain⟨e,j⟩:=Array.getElem?_eq_some_iff.mp g
 obtain⟨d,h⟩:=Array.getElem?_eq_some_iff.mp f
 rcases Nat.lt_trichotomy i a with c|c|c
 ·have:=List.pairwise_iff_getElem.mp b i a (by simpa using e) (by simpa using d) c
  simp at this;omega
 ·exact c
 ·have:=List.pairwise_iff_getElem.mp b a i (by simpa using d) (by simpa using e) c
  simp at this;omega
def below_at{xs:Array Nat}(d:xs.toList.Pairwise (·<·)){i j:Nat}(h:xs[i]?=some j):below xs j=i:=by
 obtain⟨m,g,k⟩:=rC xs j d
 rcases Nat.lt_trichotomy (below xs j) i with c|c|c
 ·have f:below xs j<xs.size:=Nat.lt_trans c (Array.getElem?_eq_some_iff.mp h).1
  have e:xs[below xs j]?=some xs[below xs j]:=by simp[f]
  have a:=k _ _ e (Qmq _)
  have b:=(Array.getElem?_eq_some_iff.mp h)
  obtain⟨b,l⟩:=b
  have:=List.pairwise_iff_getElem.mp d (below xs j) i (by simpa using f) (by simpa using b) c
  simp at this
  omega
 ·exact c
 ·have:=g i j h c;omega
def ki{t:SetTable}(a:t.place.toList.Pairwise (·<·)){i j:Nat}(h:t.place[i]?=some j):t.slot j=.live i:=by
 unfold slot
 dsimp only
 rw[below_at a h,h]
 simp
def zU{t:SetTable}(hd:t.dummies= #[]){j:Nat}(h:j∉t.place.toList):t.slot j=.empty:=by
 unfold slot
 dsimp only
 rw[Quq,Quq]
 ·rw[hd]
  simp[has,below,below.go]
 ·intro z
  have z:t.place[below t.place j]?=some j:=by simpa using z
  exact h (by have:=Array.mem_of_getElem? z;simpa using this)
structure TI(t:SetTable)(es:Array (Int×Value)):Prop where
 pw:∃k,t.mask+1=2^k/\1<=k
 dm:t.dummies= #[]
 rise:t.place.toList.Pairwise (·<·)
 sz:t.place.size=es.size
 room:es.size<=t.mask
 rch:∀(i:Nat) (h:Int) (v:Value) (j:Nat),es[i]?=some (h,v)->t.place[i]?=some j->F4 t.mask h (·∈t.place.toList) j
def TI.fits{t:SetTable}{es:Array (Int×Value)}(x:TI t es):t.fits es.size=true:=by
 unfold SetTable.fits fill
 rw[x.dm,x.sz]
 simpa using x.room
def TI.odd{t:SetTable}{es:Array (Int×Value)}(x:TI t es):t.gaveWay=false:=by
 obtain⟨k,b,c⟩:=x.pw
 obtain⟨k,rfl⟩:∃a,k=a+1:=⟨k-1,by omega⟩
 rw[Nat.pow_succ] at b
 unfold SetTable.gaveWay
 simp only[beq_eq_false_iff_ne,ne_eq]
 omega
def TI.live{t:SetTable}{es:Array (Int×Value)}(x:TI t es){j:Nat}(h:j∈t.place.toList):∃i,t.place[i]?=some j/\i<es.size:=by
 obtain⟨i,a,e⟩:=QbQ h
 have a:i<t.place.size:=by simpa using a
 exact⟨i,by rw[Array.getElem?_eq_getElem a];simpa using e,by rw[←x.sz];exact a⟩
def TI.free{t:SetTable}{es:Array (Int×Value)}(x:TI t es)(h:Int):∃N,N<=13+es.size/\(rn t.mask h N).1∉t.place.toList:=by
 obtain⟨k,b,_⟩:=x.pw
 have hl:t.place.toList.length=es.size:=by rw[Array.length_toList];exact x.sz
 obtain⟨N,a,c⟩:=AX (m:=t.mask) h b (occ:=t.place.toList) (by rw[hl];exact x.room)
 exact⟨N,by rw[hl] at a;exact a,c⟩
section
variable{t:SetTable}{es:Array (Int×Value)}
def FO(x:TI t es){hashAt:Nat->Int}{h:Int}{N:Nat}(C:(rn t.mask h N).1∉t.place.toList){V:Nat->Prop}(B:∀i j,t.place[i]?=some j->hashAt i≠h->V j):∀a n r,r<=L t.mask (rn t.mask h n).1->(n<N\/n=N/\r=0)->10*(N-n)+1<=a+r->sV t.mask h n r V→
  ∃ b d,d<=L t.mask (rn t.mask h b).1/\(b<N\/b=N/\d=0)/\10*n+r<=10*b+d/\sV t.mask h b d V∧
    ((sl t.mask h b d∉t.place.toList/\probe.go t hashAt h a (pb t.mask h n r)=some (.empty (sl t.mask h b d) none))∨
      ∃i,t.place[i]?=some (sl t.mask h b d)/\hashAt i=h/\probe.go t hashAt h a (pb t.mask h n r)=some (.candidate (sl t.mask h b d) i (t.advance (pb t.mask h b d)))):=by
 intro a
 induction a with
 |zero=>intro n r s f F;have:=Ge t.mask (rn t.mask h n).1;omega
 | succ a y=>
   intro n r s f F k
   by_cases c:sl t.mask h n r∈t.place.toList
   · obtain⟨i,l,_⟩:=x.live c
     by_cases g:hashAt i=h
     · refine⟨n,r,s,f,Qmq _,k,.inr ⟨i,l,g,?_⟩⟩
       unfold probe.go
       rw[show(pb t.mask h n r).j=sl t.mask h n r from rfl,ki x.rise l]
       simp[g]
     · have v:=B i _ l g
       have e:probe.go t hashAt h (a+1) (pb t.mask h n r)=probe.go t hashAt h a (t.advance (pb t.mask h n r)):=by
         conv=>lhs;unfold probe.go
         rw[show(pb t.mask h n r).j=sl t.mask h n r from rfl,ki x.rise l]
         simp[g]
       rw[e]
       have p:n<N:=by
         rcases f with f|⟨rfl,rfl⟩
         · exact f
         · exact absurd c C
       by_cases w:r<L t.mask (rn t.mask h n).1
       · rw[D7 w]
         obtain⟨b,d,m,o,z,q,u⟩:=y n (r+1) w (.inl p) (by omega) (k.in v)
         exact⟨b,d,m,o,by omega,q,u⟩
       · have A:r=L t.mask (rn t.mask h n).1:=by omega
         have:=Ge t.mask (rn t.mask h n).1
         subst A
         rw[AQ]
         obtain⟨b,d,m,o,z,q,u⟩:=y (n+1) 0 (Nat.zero_le _) (by omega) (by omega) (k.out v)
         exact⟨b,d,m,o,by omega,q,u⟩
   · refine⟨n,r,s,f,Qmq _,k,.inl ⟨c,?_⟩⟩
     unfold probe.go
     rw[show(pb t.mask h n r).j=sl t.mask h n r from rfl,zU x.dm c]
     rfl
def yT(x:TI t es){hashAt:Nat->Int}{h:Int}{N:Nat}(g:N<=13+es.size)(c:(rn t.mask h N).1∉t.place.toList){V:Nat->Prop}(f:∀i j,t.place[i]?=some j->hashAt i≠h->V j){n r:Nat}(e:r<=L t.mask (rn t.mask h n).1)(d:n<N\/n=N/\r=0)(k:sV t.mask h n r V):
  ∃ a b,b<=L t.mask (rn t.mask h a).1/\(a<N\/a=N/\b=0)/\10*n+r<=10*a+b/\sV t.mask h a b V∧
    ((sl t.mask h a b∉t.place.toList/\t.probe hashAt h (pb t.mask h n r)=some (.empty (sl t.mask h a b) none))∨
      ∃i,t.place[i]?=some (sl t.mask h a b)/\hashAt i=h/\t.probe hashAt h (pb t.mask h n r)=some (.candidate (sl t.mask h a b) i (t.advance (pb t.mask h a b)))):=by
 unfold SetTable.probe
 refine FO x c f _ n r e d ?_ k
 have:=x.room
 unfold turns
 omega
def yo(x:TI t es){hashAt:Nat->Int}{h:Int}{N:Nat}{m:Option Met}{p:Probe}{n r:Nat}(e:t.probe hashAt h p=m)(w:p=pb t.mask h n r)(q:∀i,hashAt i=(es[i]?.map (·.1)).getD 0){same:Nat->Bool}(k:N<=13+es.size)(G:(rn t.mask h N).1∉t.place.toList)(F:r<=L t.mask (rn t.mask h n).1)(H:n<N\/n=N/\r=0)
  (C:sV t.mask h n r (λj=>∃i,t.place[i]?=some j/\∀v,es[i]?=some (h,v)->same i=false)):
  ∃ a b,b<=L t.mask (rn t.mask h a).1/\(a<N\/a=N/\b=0)/\10*n+r<=10*a+b/\sV t.mask h a b (λj=>∃i,t.place[i]?=some j/\∀v,es[i]?=some (h,v)->same i=false)∧
    ((sl t.mask h a b∉t.place.toList/\m=some (.empty (sl t.mask h a b) none))∨
      ∃i v,t.place[i]?=some (sl t.mask h a b)/\es[i]?=some (h,v)/\m=some (.candidate (sl t.mask h a b) i (t.advance (pb t.mask h a b)))):=by
 subst w
 obtain⟨a,b,u,y,s,A,d⟩:=yT x (hashAt:=hashAt) k G (λi j f g=>⟨i,f,λv B=>absurd (by rw[q,B];rfl) g⟩) F H C
 refine⟨a,b,u,y,s,A,?_⟩
 rw[e] at d
 rcases d with d|⟨i,l,c,I⟩
 ·exact .inl d
 ·obtain⟨j,z,o⟩:=x.live (j:=sl t.mask h a b) (by have:=Array.mem_of_getElem? l;simpa using this)
  have:i=j:=yA x.rise l z
  subst this
  refine .inr ⟨i,es[i].2,l,?_,I⟩
  rw[Array.getElem?_eq_getElem o]
  rw[q,Array.getElem?_eq_getElem o] at c
  have c:es[i].1=h:=c
  rw[←c]
end
section
variable{prog:Program}{w:World}{A:Around}{E:Value->Shared->Prop}{s:Shared}{a:Addr}{o:Obj}{es:Array (Int×Value)}{ep:Nat}{t:SetTable}{h:Int}{x:Value}{adding:Bool}
def M6(es:Array (Int×Value)):Prop:=∀(i:Nat) (h:Int) (v:Value),es[i]?=some (h,v)->∃b,v=.ref b
def xB(T:TI t es)(R:M6 es)(ho:s.heap.get? a=some o)(hd:o.data=.set es ep t){same:Nat->Bool}{N:Nat}(H:N<=13+es.size)(hN:(rn t.mask h N).1∉t.place.toList)
  (I:∀(Q:Bool->Shared->Prop),Q false s->wpAny (model prog w) A (searchCouldBeSeen x ((es.filter (·.1==h)).toList.map (·.2))) Q E s)
  (a0:∀i v,es[i]?=some (h,v)->∀(Q:Bool->Shared->Prop),Q (same i) s->wpAny (model prog w) A (eqBool v x) Q E s)
  {Q:SetFound->Shared->Prop} (q1:(∃i v,es[i]?=some (h,v)/\same i=true)->∀f:Option Nat,(adding=false->f.isSome=true)->Q (.there f) s) (q2:(∀i v,es[i]?=some (h,v)->same i=false)->∀j,j∉t.place.toList->F4 t.mask h (·∈t.place.toList) j->Q (.free j false) s):
  ∀ c n r k,k.getD (t.probeStart h)=pb t.mask h n r->r<=L t.mask (rn t.mask h n).1->(n<N\/n=N/\r=0)->10*(N-n)+1<=c+r->sV t.mask h n r (λj=>∃i,t.place[i]?=some j/\∀v,es[i]?=some (h,v)->same i=false)→
    wpAny (model prog w) A (setSearchFrom a x h adding c k) Q E s:=by
 intro c
 induction c with
 |zero=>intro n r _ _ Z hn hf;have:=Ge t.mask (rn t.mask h n).1;omega
 | succ c ih=>
   intro n r k G Z hn hf hB
   unfold setSearchFrom
   refine Qaq (wpAny_setState_of ho hd T.fits ?_)
   dsimp only
   rw[T.odd]
   simp only[Bool.false_eq_true,if_false]
   split
   · rename_i a6 e
     obtain⟨g,q,S,K,a3,C,a5⟩:=yo T e G (λ_=>rfl) H hN Z hn hB
     rcases a5 with⟨u,p⟩|⟨i,v,u,p,b3⟩
     · cases p
       dsimp only
       refine Qgq (q2 (λi v J=> ?_) _ u ⟨g,q,S,rfl,C.imp λj ⟨i,J,_⟩=>by have:=Array.mem_of_getElem? J;simpa using this⟩)
       cases B:same i with
       |false=>rfl
       | true=>
         exfalso
         have F:i<t.place.size:=by rw[T.sz];exact(Array.getElem?_eq_some_iff.mp J).1
         obtain⟨Y,M,c1,c2,c3⟩:=T.rch i h v _ J (Array.getElem?_eq_getElem F)
         have no:∀{U X:Nat},sl t.mask h Y M=sl t.mask h U X->(∃l,t.place[l]?=some (sl t.mask h U X)/\∀v,es[l]?=some (h,v)->same l=false)->False:=λ{U X} e ⟨l,d1,d2⟩=>by
           have:l=i:=yA T.rise d1 (by rw[Array.getElem?_eq_getElem F,c2,e])
           subst this
           rw[d2 v J] at B
           cases B
         rcases Nat.lt_trichotomy Y g with d|d|d
         · exact no rfl (C.1 Y M d c1)
         · subst d
           rcases Nat.lt_trichotomy M q with d|d|d
           · exact no rfl (C.2 M d)
           · subst d
             exact u (by rw[←c2];simp)
           · exact u (c3.2 q d)
         · exact u (c3.1 g q d S)
     · cases b3
       have W:g<N:=by
         rcases K with K|⟨rfl,rfl⟩
         · exact K
         · exact absurd (by have:=Array.mem_of_getElem? u;simpa [sl] using this) hN
       obtain⟨b,rfl⟩:=R i h v p
       have y:wpAny (model prog w) A (do
           let equal←holding [Value.ref b] (eqBool (Value.ref b) x)
           let __x←setState a
           if (adding&&equal)=true then pure (SetFound.there none)
             else
               match __x.2.snd.sameMemory t.moves t.mask with
               | some same=>
                 match if same=true then __x.2.snd.slot (sl t.mask h g q) else Slot.empty with
                 | Slot.live l=>
                   match __x.fst[l]? with
                   | some (fst,y')=>do
                     let __do_lift←isSame y' (Value.ref b)
                     let still←pure (if __do_lift=true then some l else none)
                     match still with
                       | none=>do
                         rule "set.search.anew"
                         setSearchFrom a x h adding c none
                       | some l=>
                         if equal=true then pure (SetFound.there (some l))
                         else setSearchFrom a x h adding c (some (t.advance (pb t.mask h g q)))
                   | none=>do
                     let still←pure none
                     match still with
                       | none=>do
                         rule "set.search.anew"
                         setSearchFrom a x h adding c none
                       | some l=>
                         if equal=true then pure (SetFound.there (some l))
                         else setSearchFrom a x h adding c (some (t.advance (pb t.mask h g q)))
                 | x_1=>do
                   let still←pure none
                   match still with
                     | none=>do
                       rule "set.search.anew"
                       setSearchFrom a x h adding c none
                     | some l=>
                       if equal=true then pure (SetFound.there (some l))
                       else setSearchFrom a x h adding c (some (t.advance (pb t.mask h g q)))
               |x=>unsupported "set.changed-during-lookup:is-the-new-block-at-the-old-address") Q E s:=by
         refine Qaq (QLq (a0 i _ p _ ?_))
         refine Qaq (wpAny_setState_of ho hd T.fits ?_)
         dsimp only
         have sm:t.sameMemory t.moves t.mask=some true:=by unfold sameMemory;simp
         cases B:same i with
         | true=>
           cases adding with
           | true=>
             simp only[Bool.true_and,if_true]
             exact Qgq (q1 ⟨i,_,p,B⟩ _ λz=>by cases z)
           | false=>
             simp only[Bool.false_and,Bool.false_eq_true,if_false]
             rw[sm]
             dsimp only
             rw[Qhq rfl,ki T.rise u]
             dsimp only
             rw[p]
             dsimp only
             refine Qaq ?_
             unfold isSame
             dsimp only
             rw[Qhq (by simp)]
             refine Qgq (Qaq (Qgq ?_))
             simp only[if_true]
             exact Qgq (q1 ⟨i,_,p,B⟩ _ λ_=>rfl)
         | false=>
           rw[Bool.and_false]
           simp only[Bool.false_eq_true,if_false]
           rw[sm]
           dsimp only
           rw[Qhq rfl,ki T.rise u]
           dsimp only
           rw[p]
           dsimp only
           refine Qaq ?_
           unfold isSame
           dsimp only
           rw[Qhq (by simp)]
           refine Qgq (Qaq (Qgq ?_))
           simp only[if_true]
           have hv:∃P,t.place[P]?=some (sl t.mask h g q)/\∀v,es[P]?=some (h,v)->same P=false:=⟨i,u,λ_ _=>B⟩
           have:=Ge t.mask (rn t.mask h g).1
           by_cases cr:q<L t.mask (rn t.mask h g).1
           · exact ih g (q+1) _ (by rw[←D7 cr];rfl) cr (.inl W) (by omega) (C.in hv)
           · have er:q=L t.mask (rn t.mask h g).1:=by omega
             subst er
             exact ih (g+1) 0 _ (by rw[←AQ];rfl) (Nat.zero_le _) (by omega) (by omega) (C.out hv)
       dsimp only
       split
       · refine Qaq (I _ ?_)
         simp only[Bool.false_eq_true,if_false]
         rw[p]
         exact y
       · rw[p]
         exact y
   · rename_i e
     obtain⟨g,q,S,K,a3,C,a5⟩:=yo T (m:=t.probe _ h _) rfl G (λ_=>rfl) H hN Z hn hB
     rcases a5 with⟨_,p⟩|⟨_,_,_,_,p⟩
     · exact absurd p (e _)
     · exact absurd p (e _)
end
def GW(a:Array (Option Nat))(j:Nat):Prop:=∃k:Nat,a[j]?=some (some k)
structure OI(m:Nat)(hs:List Int)(ow:Array (Option Nat)):Prop where
 sz:ow.size=m+1
 fn:∀(k:Nat) (h:Int),hs[k]?=some h->∃j,ow[j]?=some (some k)/\F4 m h (GW ow) j
 inj:∀(j j' k:Nat),ow[j]?=some (some k)->ow[j']?=some (some k)->j=j'
 lt:∀(j k:Nat),ow[j]?=some (some k)->k<hs.length
section
variable{m:Nat}{hs:List Int}{ow:Array (Option Nat)}
def slots(m:Nat)(ow:Array (Option Nat)):List (Nat×Nat):=(List.range (m+1)).filterMap λj=>(ow.getD j none).map (j,·)
def getD_some{j k:Nat}:ow.getD j none=some k↔ow[j]?=some (some k):=by
 unfold Array.getD
 by_cases h:j<ow.size
 ·simp[h]
 ·simp[h]
def ed(x:OI m hs ow){p:Nat×Nat}:p∈slots m ow↔ow[p.1]?=some (some p.2):=by
 unfold slots
 rw[List.mem_filterMap]
 constructor
 ·rintro⟨j,_,e⟩
  obtain⟨k,a,rfl⟩:=oQm.mp e
  exact getD_some.mp a
 ·intro h
  refine⟨p.1,List.mem_range.mpr ?_,by rw[getD_some.mpr h];rfl⟩
  rw[←x.sz]
  exact(Array.getElem?_eq_some_iff.mp h).1
theorem qK:∀(n a:Nat) (f:Nat->Option Nat),(((List.range' a n).filterMap λj=>(f j).map (j,·)).map (·.1)).Pairwise (·<·)
 |0,a,f=>by simp
 | n+1,a,f=>by
   rw[List.range'_succ]
   have c:=qK n (a+1) f
   cases e:f a with
   |none=>rw[List.filterMap_cons_none (by rw[e];rfl)];exact c
   | some k=>
     rw[List.filterMap_cons_some (by rw[e];rfl),QDq,List.pairwise_cons]
     refine⟨λb g=> ?_,c⟩
     obtain⟨p,d,rfl⟩:=Qkq.mp g
     obtain⟨j,h,e⟩:=List.mem_filterMap.mp d
     obtain⟨i,_,rfl⟩:=oQm.mp e
     have:=(List.mem_range'_1.mp h).1
     show a<j
     omega
def xO(m:Nat)(ow:Array (Option Nat)):((slots m ow).map (·.1)).Pairwise (·<·):=by
 unfold slots
 rw[List.range_eq_range']
 exact qK (m+1) 0 λj=>ow.getD j none
def sD(x:OI m hs ow):((slots m ow).map (·.2)).Perm (List.range hs.length):=by
 refine(List.perm_ext_iff_of_nodup ?_ List.nodup_range).mpr λk=> ?_
 ·rw[List.nodup_iff_pairwise_ne,List.pairwise_map]
  have c:=xO m ow
  rw[List.pairwise_map] at c
  refine List.Pairwise.imp_of_mem (λ{p q} a hq lt e=> ?_) c
  have f:=(ed x).mp a
  have b:=(ed x).mp hq
  rw[←e] at b
  have:=x.inj _ _ _ f b
  omega
 ·rw[Qkq,List.mem_range]
  constructor
  ·rintro⟨p,a,rfl⟩
   exact x.lt _ _ ((ed x).mp a)
  ·intro d
   obtain⟨j,g,_⟩:=x.fn k hs[k] (gQe d)
   exact⟨(j,k),(ed x).mpr g,rfl⟩
def B7(G:ow.size=m+1){h:Int}{N:Nat}(C:¬GW ow (rn m h N).1):∀a n,n<=N->N-n<a->sV m h n 0 (GW ow)->∃j,layClean.free m ow a (rn m h n).1 (rn m h n).2=some j/\ow[j]?=some none/\F4 m h (GW ow) j:=by
 have l:∀{j:Nat},j<=m->¬GW ow j->ow[j]?=some none:=λ{j} q no=>by
  have hl:j<ow.size:=by omega
  rw[Array.getElem?_eq_getElem hl]
  cases e:ow[j] with
  |none=>rfl
  |some k=>exact absurd ⟨k,by rw[Array.getElem?_eq_getElem hl,e]⟩ no
 intro a
 induction a with
 |zero=>intro n F w;omega
 | succ a A=>
   intro n F w s
   have u:=HY m h n
   have y:runEnd m (rn m h n).1+1-(rn m h n).1=L m (rn m h n).1+1:=by unfold L runEnd;split <;>omega
   unfold layClean.free
   rw[y]
   cases e:(List.range (L m (rn m h n).1+1)).find? λk=>(ow.getD ((rn m h n).1+k) (some 0)).isNone with
   | some r=>
     have t:r<=L m (rn m h n).1:=by have:=List.mem_range.mp (List.mem_of_find?_eq_some e);omega
     have v:=List.find?_some e
     have q:(rn m h n).1+r<=m:=Mm u t
     have hl:(rn m h n).1+r<ow.size:=by omega
     refine⟨_,rfl,?_,n,r,t,rfl,s.1,λb i=> ?_⟩
     · rw[Array.getElem?_eq_getElem hl]
       simp only[Array.getD,hl,dif_pos] at v
       simpa using v
     · have f:=List.find?_range_eq_some.mp e
       obtain⟨_,_,f⟩:=f
       have f:=f b i
       have g:(rn m h n).1+b<ow.size:=by omega
       simp only[Array.getD,g,dif_pos,Bool.not_eq_true',Option.isNone_eq_false_iff,Option.isSome_iff_exists] at f
       obtain⟨k,p⟩:=f
       exact⟨k,by show ow[(rn m h n).1+b]?=_;rw[Array.getElem?_eq_getElem g];exact congrArg some p⟩
   | none=>
     have o:∀b,b<=L m (rn m h n).1->GW ow (sl m h n b):=λb i=>by
       have:=List.find?_eq_none.mp e b (List.mem_range.mpr (by omega))
       have q:(rn m h n).1+b<=m:=Mm u i
       have g:(rn m h n).1+b<ow.size:=by omega
       simp only[Array.getD,g,dif_pos,Bool.not_eq_true,Option.isNone_eq_false_iff,Option.isSome_iff_exists] at this
       obtain⟨k,p⟩:=this
       exact⟨k,by show ow[(rn m h n).1+b]?=_;rw[Array.getElem?_eq_getElem g];exact congrArg some p⟩
     have x:n≠N:=λz=>by subst z;exact C (o 0 (Nat.zero_le _))
     exact A (n+1) (by omega) (by omega) ⟨λB b c d=>(Nat.lt_succ_iff_lt_or_eq.mp c).elim (λc=>s.1 B b c d) λe=>by subst e;exact o b d,λb c=>absurd c (Nat.not_lt_zero _)⟩
def OI.step{k:Nat}(p:m+1=2^k)(x:OI m hs ow)(hl:hs.length<=m)(h:Int):∃j,layClean.free m ow (turns m) (bits h%(m+1)) (bits h)=some j/\OI m (hs++ [h]) (ow.setIfInBounds j (some hs.length)):=by
 have g:=(sD x).length_eq
 rw[lQm,QVq] at g
 obtain⟨N,u,n⟩:=AX (m:=m) h p (occ:=(slots m ow).map (·.1)) (by rw[lQm,g];exact hl)
 rw[lQm,g] at u
 have t:¬GW ow (rn m h N).1:=λ⟨k,b⟩=>n (Qkq.mpr ⟨((rn m h N).1,k),(ed x).mpr b,rfl⟩)
 obtain⟨j,r,f,q⟩:=B7 x.sz t (turns m) 0 (Nat.zero_le _) (by unfold turns;omega) sV.zero
 refine⟨j,r,?_⟩
 have v:j<ow.size:=(Array.getElem?_eq_some_iff.mp f).1
 have e:∀i,(ow.setIfInBounds j (some hs.length))[i]?=if j=i then some (some hs.length) else ow[i]? :=λi=>by
  rw[Array.getElem?_setIfInBounds]
  by_cases c:j=i
  ·subst c;simp[v]
  ·simp[c]
 have l:∀i,GW ow i->GW (ow.setIfInBounds j (some hs.length)) i:=λi o=>by
  obtain⟨k,b⟩:=o
  refine⟨k,?_⟩
  rw[e,Quq]
  ·exact b
  ·rintro rfl;rw[f] at b;cases b
 refine⟨by rw[Array.size_setIfInBounds];exact x.sz,λk w b=> ?_,λi y k a d=> ?_,λi k a=> ?_⟩
 ·by_cases c:k<hs.length
  ·rw[QHq c] at b
   obtain⟨i,a,s⟩:=x.fn k w b
   refine⟨i,?_,s.imp l⟩
   rw[e,Quq]
   ·exact a
   ·rintro rfl;rw[f] at a;cases a
  ·rw[QQq (by omega)] at b
   have:k-hs.length=0:=by have:=(gQs.mp b).1;simp at this;omega
   rw[this] at b
   cases b
   have:k=hs.length:=by omega
   subst this
   exact⟨j,by rw[e,Qhq rfl],q.imp l⟩
 ·rw[e] at a d
  split at a <;>split at d
  ·omega
  ·cases a;have:=x.lt _ _ d;omega
  ·cases d;have:=x.lt _ _ a;omega
  ·exact x.inj _ _ _ a d
 ·rw[e] at a
  rw[lQa]
  split at a
  ·cases a;simp
  ·have:=x.lt _ _ a;simp;omega
def OI.nil:OI m [] (Array.replicate (m+1) none):=by
 refine⟨by simp,λk h e=>by simp at e,λj a k h _=> ?_,λj k h=> ?_⟩
 ·rw[Array.getElem?_replicate] at h;split at h <;>cases h
 ·rw[Array.getElem?_replicate] at h;split at h <;>cases h
def MO(m:Nat)(a:Option (Array (Option Nat)×Nat))(h:Int):Option (Array (Option Nat)×Nat):=do
 let (owner,k)←a
 let j←layClean.free m owner (turns m) (bits h%(m+1)) (bits h)
 pure (owner.setIfInBounds j (some k),k+1)
theorem Bz{k:Nat}(c:m+1=2^k):∀(more hs:List Int) (ow:Array (Option Nat)),OI m hs ow->hs.length+more.length<=m+1→
  ∃a,more.foldl (MO m) (some (ow,hs.length))=some (a,hs.length+more.length)/\OI m (hs++more) a
 | [],hs,ow,x,_=>⟨ow,rfl,by rw[List.append_nil];exact x⟩
 | h::more,hs,ow,x,hl=>by
   rw[Qnq] at hl
   obtain⟨j,e,y⟩:=x.step c (by omega) h
   obtain⟨a,b,z⟩:=Bz c more (hs++ [h]) _ y (by rw[lQa];simp;omega)
   refine⟨a,?_,by rw[Qvq] at z;exact z⟩
   have d:MO m (some (ow,hs.length)) h=some (ow.setIfInBounds j (some hs.length),hs.length+1):=by simp[MO,e]
   rw[List.foldl_cons,d]
   rw[lQa] at b
   simp only[Qnq,QGq,Nat.zero_add] at b⊢
   rw[b]
   congr 2
   omega
def E4{k:Nat}(a:m+1=2^k)(hs:Array Int)(hl:hs.size<=m+1):∃ow,layClean m hs=some ow/\OI m hs.toList ow:=by
 obtain⟨ow,e,x⟩:=Bz a hs.toList [] _ OI.nil (by simpa using hl)
 refine⟨ow,?_,by simpa using x⟩
 unfold layClean
 rw[←Array.foldl_toList]
 show Option.map _ (hs.toList.foldl (MO m) (some (Array.replicate (m+1) none,0)))=_
 rw[show(some (Array.replicate (m+1) none,0):Option (Array (Option Nat)×Nat))=some (Array.replicate (m+1) none,([]:List Int).length) from rfl,e]
 rfl
theorem wI:∀(b n a:Nat),(∃k,a=2^k/\3<=k)->n<a*2^b->a<=2*n+8->(∃k,sizeAbove.go n b a=2^k/\3<=k)/\n<sizeAbove.go n b a/\sizeAbove.go n b a<=2*n+8
 |0,n,a,h,lt,le=>⟨h,by simpa [sizeAbove.go] using lt,le⟩
 | b+1,n,a,h,lt,le=>by
   unfold sizeAbove.go
   by_cases c:a<=n
   · rw[Qhq c]
     obtain⟨k,rfl,hk⟩:=h
     refine wI b n _ ⟨k+1,by rw[Nat.pow_succ],by omega⟩ ?_ (by omega)
     rw[Nat.pow_succ] at lt
     rw[Nat.mul_assoc,Nat.mul_comm 2]
     exact lt
   · rw[Quq c]
     exact⟨h,by omega,le⟩
def rM{n:Nat}(a:n<2^64):(∃k,sizeAbove n=2^k/\3<=k)/\n<sizeAbove n/\sizeAbove n<=2*n+8:=by
 unfold sizeAbove
 refine wI 64 n 8 ⟨3,rfl,Qmq _⟩ ?_ (by omega)
 omega
end
def xm{t:SetTable}{es:Array (Int×Value)}{wanted:Nat}(Z:es.size<=wanted)(w:wanted<2^64):∃(t':SetTable) (a:Array Nat),t.relaid (es.map (·.1)) wanted=some (t',a)/\t'.mask+1=sizeAbove wanted∧
  (a.filterMap (es[·]?)).size=es.size/\(a.filterMap (es[·]?)).toList.Perm es.toList/\TI t' (a.filterMap (es[·]?)):=by
 obtain⟨⟨k,Q,P⟩,h1,Y⟩:=rM w
 have B:sizeAbove wanted-1+1=2^k:=by rw[Q];have:=Nat.two_pow_pos k;omega
 generalize F:sizeAbove wanted-1=m at B
 have A:(es.map (·.1)).size=es.size:=by simp
 obtain⟨M,e,x⟩:=E4 B (es.map (·.1)) (by rw[A];omega)
 have hl:((es.map (·.1)).toList).length=es.size:=by simp
 have d:=sD x
 rw[hl] at d
 let c:=slots m M
 let b:=(c.map (·.2)).toArray.filterMap (es[·]?)
 have r:c.length=es.size:=by have:=d.length_eq;simpa using this
 have y:∀i (f:i<c.length),b[i]?=es[(c[i]).2]? :=by
  have H:∀(l:List (Nat×Nat)),(∀p∈l,p.2<es.size)->∀i (f:i<l.length),((l.map (·.2)).filterMap (es[·]?))[i]?=es[(l[i]).2]? :=by
   intro l
   induction l with
   |nil=>intro _ i f;simp at f
   | cons p l U=>
     intro g i f
     have o:=g p (QBq ..)
     rw[QDq,List.filterMap_cons_some (Array.getElem?_eq_getElem o)]
     cases i with
     |zero=>simp[o]
     |succ i=>simpa using U (λq W=>g q (Qpq _ W)) i (by simpa using f)
  intro i f
  have:=H c (λp g=>by have:=x.lt _ _ ((ed x).mp g);rw[hl] at this;exact this) i f
  simpa [b] using this
 have J:b.toList.Perm es.toList:=by
  have:=d.filterMap (es[·]?)
  rw[filterMap_getElem?_range] at this
  simpa [b] using this
 have n:b.size=es.size:=by have:=J.length_eq;simpa using this
 refine⟨{mask:=m,place:=(c.map (·.1)).toArray,dummies:= #[],finger:=t.finger,led:=t.led,moves:=t.movedTo m,plain:=t.plain},(c.map (·.2)).toArray,?_,?_,n,J,?_⟩
 ·unfold relaid laid
  rw[F,e]
  rfl
 ·show m+1=_
  omega
 ·refine⟨⟨k,B,by omega⟩,rfl,?_,?_,?_,?_⟩
  ·show((c.map (·.1)).toArray.toList).Pairwise _
   exact xO m M
  ·show(c.map (·.1)).toArray.size=b.size
   rw[n,Qjq,lQm]
   exact r
  ·show b.size<=m
   omega
  ·intro i h v j s u
   have u:(c.map (·.1))[i]?=some j:=by simpa using u
   rw[gQm] at u
   obtain⟨p,g,rfl⟩:=oQm.mp u
   obtain⟨f,G⟩:=gQs.mp g
   have s:b[i]?=some (h,v):=s
   rw[y i f,G] at s
   obtain⟨R,C,S⟩:=x.fn p.2 h (by
    rw[Array.toList_map,gQm]
    have:es.toList[p.2]?=some (h,v):=by simpa using s
    rw[this]
    rfl)
   have z:=(ed x).mp (mQg g)
   have:R=p.1:=x.inj _ _ _ C z
   subst this
   refine S.imp λK N=> ?_
   obtain⟨X,I⟩:=N
   show K∈((c.map (·.1)).toArray).toList
   exact Qkq.mpr ⟨(K,X),(ed x).mpr I,rfl⟩
mutual
def nu:Nat->PyData->Bool
 |_,.int _=>true
 |n+1,.tuple ps=>kO n ps
 |_,_=>false
def kO:Nat->List PyData->Bool
 |_,[]=>true
 |n,p::ps=>nu n p&&kO n ps
end
mutual
def wz:PyData->Int
 |.int i=>hashInt i
 |.tuple a=>reduceHash (Builtin.Tuple.tupleHashOf (rg a))
 |_=>0
def rg:List PyData->List Int
 | []=> []
 |p::ps=>wz p::rg ps
end
mutual
theorem Da:∀{n:Nat} {p q:PyData} {m:Nat},nu n p=true->nu m q=true->PyData.eqv p q=true->p=q
 |_,.int i,.int j,_,_,_,h=>by simp[PyData.eqv] at h;rw[h]
 | n+1,.tuple ps,.tuple qs,m+1,h1,h2,h=>by
   simp only[nu] at h1 h2
   rw[PyData.eqv] at h
   rw[Fi h1 h2 h]
 |_,.int i,.tuple qs,_,_,_,h=>by simp[PyData.eqv] at h
 |_,.tuple ps,.int j,_,_,_,h=>by simp[PyData.eqv] at h
 |_,.none,_,_,h,_,_=>by simp[nu] at h
 |_,.bool _,_,_,h,_,_=>by simp[nu] at h
 |_,.str _,_,_,h,_,_=>by simp[nu] at h
 |_,.list _,_,_,h,_,_=>by simp[nu] at h
 |_,.dict _,_,_,h,_,_=>by simp[nu] at h
 |_,_,.none,_,_,h,_=>by simp[nu] at h
 |_,_,.bool _,_,_,h,_=>by simp[nu] at h
 |_,_,.str _,_,_,h,_=>by simp[nu] at h
 |_,_,.list _,_,_,h,_=>by simp[nu] at h
 |_,_,.dict _,_,_,h,_=>by simp[nu] at h
 |0,.tuple _,_,_,h,_,_=>by simp[nu] at h
 |_,_,.tuple _,0,_,h,_=>by simp[nu] at h
theorem Fi:∀{n:Nat} {ps a:List PyData} {m:Nat},kO n ps=true->kO m a=true->PyData.eqvAll ps a=true->ps=a
 |_,[],[],_,_,_,_=>rfl
 | _,p::ps,q::a,_,h1,h2,h=>by
   simp only[kO,QCq] at h1 h2
   simp only[PyData.eqvAll,QCq] at h
   rw[Da h1.1 h2.1 h.1,Fi h1.2 h2.2 h.2]
 |_,[],_::_,_,_,_,h=>by simp[PyData.eqvAll] at h
 |_,_::_,[],_,_,_,h=>by simp[PyData.eqvAll] at h
end
section
variable{prog:Program}{w:World}
mutual
theorem vC:∀{n:Nat} {p:PyData} {v:Value} {as:List Addr} {A:Around} {E:Value->Shared->Prop} {s:Shared} {Q:Int->Shared->Prop},Reads s.heap v p as->nu n p=true->A.units+n<cLine->(∀d,Q (wz p) {s with toks:=d})->wpAny (model prog w) A (pyHash v) Q E s
 |_,.int i,_,_,A,E,s,Q,.int _ t,_,_,q=>wpAny_pyHash_int (q _)
 | n+1,.tuple ps,_,_,A,E,s,Q,.tuple (a:=a) (o:=o) (vs:=vs) ho hc hd hi,hn,hu,q=>by
   have b:s.TypeIs (.ref a) "tuple":=⟨o,ho,hc⟩
   unfold pyHash
   first|unfold pyHashByItsType|skip
   refine Qaq (wpAny_cRoomFor_or (.inr (by omega)) (Qaq (wpAny_specialOf b F.slot_tuple_hash.lookup ?_)))
   show wpAny _ _ (if (some (Value.builtin "tuple.__hash__")==some Value.none)=true then _ else _) Q E s
   rw[Quq (by rw[beq_builtin_none];exact Qtq)]
   refine Qaq (wpAny_specialOf b F.slot_tuple_hash.lookup ?_)
   show wpAny _ _ (callSpecialIfBoundUnlessNone? (.ref a) "__hash__" _ >>= _) Q E s
   refine Qaq (wpAny_callSpecialIfBoundUnlessNone?_slot b F.slot_tuple_hash (wpAny_call_entry F.slot_tuple_hash b F.entry_tuple_hash ?_ (F.args_tuple_hash_1 _)))
   show wpAny _ _ (Builtin.Tuple.tupleItemsOf (.ref a) >>= _) _ _ s
   refine Qaq (wpAny_tupleItemsOf ho hd (Qaq ?_))
   rw[←Array.forIn_toList]
   refine sJ (n:=n) #[] hi hn (show A.in1.units+n<cLine from by have:A.in1.units=A.units+1:=rfl;omega) λd=> ?_
   show wpAny _ _ (retInt (Builtin.Tuple.tupleHashOf (#[]++(rg ps).toArray).toList)) _ _ _
   rw[show(#[]++(rg ps).toArray:Array Int).toList=rg ps by simp]
   refine wpAny_ret_mkInt ?_
   have q:=q
   simp only[wz] at q
   generalize Builtin.Tuple.tupleHashOf (rg ps)=z at q
   show wpAny _ _ (if (decide (-(2:Int)^63<=z)&&decide (z<2^63))=true then _ else _) Q E _
   unfold reduceHash at q
   by_cases c:(decide (-(2:Int)^63<=z)&&decide (z<2^63))=true
   · rw[Qhq c]
     rw[Qhq c] at q
     exact Qgq (q _)
   · rw[Quq c]
     rw[Quq c] at q
     exact Qaq (wpAny_rule (Qgq (q _)))
 |_,.none,_,_,_,_,_,_,_,h,_,_=>by simp[nu] at h
 |_,.bool _,_,_,_,_,_,_,_,h,_,_=>by simp[nu] at h
 |_,.str _,_,_,_,_,_,_,_,h,_,_=>by simp[nu] at h
 |_,.list _,_,_,_,_,_,_,_,h,_,_=>by simp[nu] at h
 |_,.dict _,_,_,_,_,_,_,_,h,_,_=>by simp[nu] at h
 |0,.tuple _,_,_,_,_,_,_,_,h,_,_=>by simp[nu] at h
theorem sJ:∀{n:Nat} {ps:List PyData} {vs:List Value} {as:List Addr} {A:Around} {E:Value->Shared->Prop} {s:Shared} {R:Array Int->Shared->Prop} (a:Array Int),ReadsAll s.heap vs ps as->kO n ps=true->A.units+n<cLine->(∀d,R (a++(rg ps).toArray) {s with toks:=d})→
  wpAny (model prog w) A (forIn vs a λx b=>do let h←pyHash x;pure (ForInStep.yield (b.push h))) R E s
 | _,[],_,_,A,E,s,R,a,.nil,_,_,q=>by
   rw[List.forIn_nil]
   have:=q s.toks
   simp[rg] at this
   exact Qgq this
 | n,p::ps,_,_,A,E,s,R,a,.cons h b,hn,hu,q=>by
   simp only[kO,QCq] at hn
   rw[List.forIn_cons]
   refine Qaq (Qaq (vC h hn.1 hu λd=>Qgq ?_))
   refine sJ (s:={s with toks:=d}) (a.push (wz p)) b hn.2 hu λc=> ?_
   have:=q c
   simp only[rg] at this
   rw[show a.push (wz p)++(rg ps).toArray=a++(wz p::rg ps).toArray by apply Array.toList_inj.mp;simp]
   exact this
end
mutual
theorem qG:∀{n:Nat} {p:PyData} {v:Value} {as:List Addr} {A:Around} {E:Value->Shared->Prop} {s:Shared} {Q:Bool->Shared->Prop} {m:Nat},Reads s.heap v p as->nu n p=true->n<=m->Q true s->wpAny (model prog w) A (eqIsQuiet m v) Q E s
 |_,.int i,_,_,A,E,s,Q,m,.int _ t,_,_,q=>by rw[eqIsQuiet_byValue m rfl];exact Qgq q
 | n+1,.tuple ps,_,_,A,E,s,Q,m+1,.tuple (a:=a) (o:=o) (vs:=vs) ho hc hd hi,hn,hm,q=>by
   have b:s.TypeIs (.ref a) "tuple":=⟨o,ho,hc⟩
   unfold eqIsQuiet
   refine Qaq (wpAny_specialOf b F.slot_tuple_eq.lookup ?_)
   show wpAny _ _ (isInstance (.ref a) (.type "tuple") >>= _) _ _ s
   refine Qaq (wpAny_isInstance b isSubtype_tuple_tuple ?_)
   simp only[Bool.not_true,Bool.false_eq_true,if_false]
   refine Qaq (wpAny_seqItems ho hd (Qaq ?_))
   show wpAny _ _ (forIn vs _ _) _ _ s
   rw[←Array.forIn_toList]
   exact q0 (n:=n) hi hn (by omega) (Qgq q)
 |n+1,.tuple _,_,_,_,_,_,_,0,_,_,hm,_=>absurd hm (Nat.not_succ_le_zero n)
 |_,.none,_,_,_,_,_,_,_,_,h,_,_=>by simp[nu] at h
 |_,.bool _,_,_,_,_,_,_,_,_,h,_,_=>by simp[nu] at h
 |_,.str _,_,_,_,_,_,_,_,_,h,_,_=>by simp[nu] at h
 |_,.list _,_,_,_,_,_,_,_,_,h,_,_=>by simp[nu] at h
 |_,.dict _,_,_,_,_,_,_,_,_,h,_,_=>by simp[nu] at h
 |0,.tuple _,_,_,_,_,_,_,_,_,h,_,_=>by simp[nu] at h
theorem q0:∀{n:Nat} {ps:List PyData} {vs:List Value} {as:List Addr} {A:Around} {E:Value->Shared->Prop} {s:Shared} {R:Option Bool×Unit->Shared->Prop} {m:Nat},ReadsAll s.heap vs ps as->kO n ps=true->n<=m->R (none,()) s→
  wpAny (model prog w) A (forIn vs (none,()) λy (r:Option Bool×Unit)=>do let b←eqIsQuiet m y;if (!b)=true then pure (ForInStep.done (some false,())) else pure (ForInStep.yield (none,()))) R E s
 |_,[],_,_,A,E,s,R,_,.nil,_,_,q=>by rw[List.forIn_nil];exact Qgq q
 | n,p::ps,_,_,A,E,s,R,m,.cons h hs,hn,hm,q=>by
   simp only[kO,QCq] at hn
   rw[List.forIn_cons]
   refine Qaq (Qaq (qG h hn.1 hm ?_))
   simp only[Bool.not_true,Bool.false_eq_true,if_false]
   exact Qgq (q0 hs hn.2 hm q)
end
end
section
variable{prog:Program}{w:World}
mutual
theorem nz:∀{n:Nat} {p:PyData} {v:Value} {as:List Addr} {A:Around} {E:Value->Shared->Prop} {s:Shared} {Q:Bool->Shared->Prop} {m:Nat},Reads s.heap v p as->nu n p=true->n<=m->Q false s->wpAny (model prog w) A (ofAClassStatement m v) Q E s
 |_,.int i,_,_,A,E,s,Q,m,.int _ t,_,_,q=>by unfold ofAClassStatement;exact Qgq q
 | n+1,.tuple ps,_,_,A,E,s,Q,m+1,.tuple (a:=a) (o:=o) (vs:=vs) ho hc hd hi,hn,hm,q=>by
   have b:s.TypeIs (.ref a) "tuple":=⟨o,ho,hc⟩
   unfold ofAClassStatement
   refine Qaq (wpAny_typeOf b ?_)
   dsimp only
   rw[Qhq (by decide)]
   refine Qaq (Qgq ?_)
   simp only[Bool.not_true,Bool.false_eq_true,if_false]
   refine Qaq (wpAny_seqItems ho hd ?_)
   dsimp only
   refine Qaq ?_
   rw[←Array.forIn_toList]
   exact o_ (n:=n) hi hn (by omega) (Qgq q)
 |n+1,.tuple _,_,_,_,_,_,_,0,_,_,hm,_=>absurd hm (Nat.not_succ_le_zero n)
 |_,.none,_,_,_,_,_,_,_,_,h,_,_=>by simp[nu] at h
 |_,.bool _,_,_,_,_,_,_,_,_,h,_,_=>by simp[nu] at h
 |_,.str _,_,_,_,_,_,_,_,_,h,_,_=>by simp[nu] at h
 |_,.list _,_,_,_,_,_,_,_,_,h,_,_=>by simp[nu] at h
 |_,.dict _,_,_,_,_,_,_,_,_,h,_,_=>by simp[nu] at h
 |0,.tuple _,_,_,_,_,_,_,_,_,h,_,_=>by simp[nu] at h
theorem o_:∀{n:Nat} {ps:List PyData} {vs:List Value} {as:List Addr} {A:Around} {E:Value->Shared->Prop} {s:Shared} {R:Option Bool×Unit->Shared->Prop} {m:Nat},ReadsAll s.heap vs ps as->kO n ps=true->n<=m->R (none,()) s→
  wpAny (model prog w) A (forIn vs (none,()) λy (r:Option Bool×Unit)=>do let b←ofAClassStatement m y;if b=true then pure (ForInStep.done (some true,())) else pure (ForInStep.yield (none,()))) R E s
 |_,[],_,_,A,E,s,R,_,.nil,_,_,q=>by rw[List.forIn_nil];exact Qgq q
 | n,p::ps,_,_,A,E,s,R,m,.cons h hs,hn,hm,q=>by
   simp only[kO,QCq] at hn
   rw[List.forIn_cons]
   refine Qaq (Qaq (nz h hn.1 hm ?_))
   simp only[Bool.false_eq_true,if_false]
   exact Qgq (o_ hs hn.2 hm q)
end
mutual
theorem xQ:∀{n:Nat} {p:PyData} {v:Value} {as:List Addr} {A:Around} {E:Value->Shared->Prop} {s:Shared} {Q:Bool->Shared->Prop} {m:Nat},Reads s.heap v p as->nu n p=true->n<=m->(∀b,Q b s)->wpAny (model prog w) A (hashByValue m v) Q E s
 |_,.int i,_,_,A,E,s,Q,m,.int _ t,_,_,q=>by unfold hashByValue;exact Qgq (q _)
 | n+1,.tuple ps,_,_,A,E,s,Q,m+1,.tuple (a:=a) (o:=o) (vs:=vs) ho hc hd hi,hn,hm,q=>by
   have c:s.TypeIs (.ref a) "tuple":=⟨o,ho,hc⟩
   unfold hashByValue
   refine Qaq (wpAny_specialOf c F.slot_tuple_hash.lookup ?_)
   dsimp only
   show wpAny _ _ (seqItems? (.ref a) >>= _) _ _ s
   refine Qaq (wpAny_seqItems ho hd (Qaq ?_))
   show wpAny _ _ (forIn vs _ _) _ _ s
   rw[←Array.forIn_toList]
   exact qi (n:=n) hi hn (by omega) (Qgq (q _)) (Qgq (q _))
 |n+1,.tuple _,_,_,_,_,_,_,0,_,_,hm,_=>absurd hm (Nat.not_succ_le_zero n)
 |_,.none,_,_,_,_,_,_,_,_,h,_,_=>by simp[nu] at h
 |_,.bool _,_,_,_,_,_,_,_,_,h,_,_=>by simp[nu] at h
 |_,.str _,_,_,_,_,_,_,_,_,h,_,_=>by simp[nu] at h
 |_,.list _,_,_,_,_,_,_,_,_,h,_,_=>by simp[nu] at h
 |_,.dict _,_,_,_,_,_,_,_,_,h,_,_=>by simp[nu] at h
 |0,.tuple _,_,_,_,_,_,_,_,_,h,_,_=>by simp[nu] at h
theorem qi:∀{n:Nat} {ps:List PyData} {vs:List Value} {as:List Addr} {A:Around} {E:Value->Shared->Prop} {s:Shared} {R:Option Bool×Unit->Shared->Prop} {m:Nat},ReadsAll s.heap vs ps as->kO n ps=true->n<=m->R (none,()) s->R (some false,()) s→
  wpAny (model prog w) A (forIn vs (none,()) λy (r:Option Bool×Unit)=>do let b←hashByValue m y;if (!b)=true then pure (ForInStep.done (some false,())) else pure (ForInStep.yield (none,()))) R E s
 |_,[],_,_,A,E,s,R,_,.nil,_,_,q,_=>by rw[List.forIn_nil];exact Qgq q
 | n,p::ps,_,_,A,E,s,R,m,.cons h hs,hn,hm,q,q'=>by
   simp only[kO,QCq] at hn
   rw[List.forIn_cons]
   refine Qaq (Qaq (xQ h hn.1 hm λb=> ?_))
   cases b with
   | true=>
     simp only[Bool.not_true,Bool.false_eq_true,if_false]
     exact Qgq (qi hs hn.2 hm q q')
   | false=>
     simp only[Bool.not_false,if_true]
     exact Qgq (Qgq q')
end
def Ig{α:Type}{M:Model}{A:Around}{c:Prop}[Decidable c]{a b:Sem α}{Q:α->Shared->Prop}{E:Value->Shared->Prop}{s:Shared}(e:wpAny M A a Q E s)(d:wpAny M A b Q E s):wpAny M A (if c then a else b) Q E s:=by
 split
 ·exact e
 ·exact d
def Jt{x:Value}{p:PyData}{as:List Addr}{A:Around}{E:Value->Shared->Prop}{s:Shared}(f:Reads s.heap x p as)(d:nu 8 p=true):∀(l:List Value) {Q:Bool->Shared->Prop},(∀y∈l,∃q bs,Reads s.heap y q bs/\nu 8 q=true)->Q false s->wpAny (model prog w) A (searchCouldBeSeen x l) Q E s:=by
 intro l Q hl q
 unfold searchCouldBeSeen
 refine Qaq (wpAny_forIn_list _ (λa (r:Option Bool×Unit) c=>r=(none,())/\c=s/\∀y∈a,∃q bs,Reads s.heap y q bs/\nu 8 q=true) _ ?_ ?_ _ _ ⟨rfl,rfl,hl⟩)
 ·rintro y a r c ⟨rfl,rfl,hr⟩
  obtain⟨i,bs,e,g⟩:=hr y (QBq ..)
  have b:∀y∈a,∃q bs,Reads c.heap y q bs/\nu 8 q=true:=λy h=>hr y (Qpq _ h)
  dsimp only
  refine Ig (Qgq ⟨rfl,rfl,b⟩) ?_
  ·refine Qaq (qG f d (Qmq _) ?_)
   simp only[Bool.not_true,Bool.false_eq_true,if_false]
   refine Qaq (qG e g (Qmq _) ?_)
   simp only[Bool.not_true,Bool.false_eq_true,if_false]
   refine Qaq (nz f d (Qmq _) ?_)
   simp only[Bool.false_eq_true,if_false]
   refine Qaq (nz e g (Qmq _) ?_)
   simp only[Bool.false_eq_true,if_false]
   exact Qgq ⟨rfl,rfl,b⟩
 ·rintro r c ⟨rfl,rfl,_⟩
  exact Qgq q
end
def p0{α:Type}{xs:Array α}{p:Nat}{x:α}(d:p<=xs.size)(i:Nat):(insertAt xs p x)[i]?=if i<p then xs[i]? else if i=p then some x else xs[i-1]? :=by
 rw[←Array.getElem?_toList,SetTable.toList_insertAt]
 have hl:(xs.toList.take p).length=p:=by rw[Qxq,Array.length_toList];omega
 by_cases c:i<p
 ·rw[Qhq c,QHq (by omega),List.getElem?_take_of_lt c,Array.getElem?_toList]
 ·rw[Quq c,QQq (by omega),hl]
  by_cases a:i=p
  ·subst a;simp
  ·obtain⟨k,b⟩:∃k,i-p=k+1:=⟨i-p-1,by omega⟩
   rw[Quq a,b,List.getElem?_cons_succ,List.getElem?_drop,Array.getElem?_toList]
   congr 1
   omega
def TI.put{t:SetTable}{es:Array (Int×Value)}(T:TI t es){h:Int}{x:Value}{j:Nat}(N:j∉t.place.toList)(P:F4 t.mask h (·∈t.place.toList) j)(o:es.size+1<=t.mask):
  TI (t.put j).1 (insertAt es (t.put j).2 (h,x))/\(t.put j).1.mask=t.mask/\(insertAt es (t.put j).2 (h,x)).size=es.size+1:=by
 obtain⟨I,R,S⟩:=rC t.place j T.rise
 have J:(t.put j).2=below t.place j:=rfl
 have k:(t.put j).1.place=insertAt t.place (below t.place j) j:=rfl
 have w:(t.put j).1.dummies= #[]:=by
  show(if has t.dummies j then _ else t.dummies)= #[]
  rw[T.dm]
  simp[has,below,below.go]
 have n:(t.put j).1.mask=t.mask:=rfl
 rw[J]
 have s:below t.place j<=es.size:=by rw[←T.sz];exact I
 have g:∀{A:Type} (r:Array A) (p:Nat) (y:A),(insertAt r p y).size=r.size+1:=λr p y=>by
  have:=(SetTable.insertAt_perm r p y).length_eq
  simpa using this
 have f:∀i,i∈t.place.toList->i∈(t.put j).1.place.toList:=λi q=>by
  rw[k]
  refine(SetTable.insertAt_perm t.place _ j).mem_iff.mpr ?_
  rw[Array.toList_push]
  exact mQa.mpr (.inl q)
 refine⟨⟨T.pw,w,?_,?_,?_,?_⟩,n,g ..⟩
 ·rw[k,SetTable.toList_insertAt]
  have v:∀a∈t.place.toList.take (below t.place j),a<j:=λa m=>by
   obtain⟨i,q,e⟩:=QbQ m
   rw[Qxq] at q
   rw[List.getElem_take] at e
   exact R i a (by rw[←Array.getElem?_toList,gQe (by omega),e]) (by omega)
  have z:∀a∈t.place.toList.drop (below t.place j),j<a:=λa m=>by
   obtain⟨i,q,e⟩:=QbQ m
   rw[List.length_drop] at q
   rw[List.getElem_drop] at e
   have:=S (below t.place j+i) a (by rw[←Array.getElem?_toList,gQe (by omega),e]) (by omega)
   rcases Nat.lt_or_eq_of_le this with c|c
   ·exact c
   ·exact absurd (c▸List.mem_of_mem_drop m) N
  have G:=T.rise
  rw[←List.take_append_drop (below t.place j) t.place.toList] at G
  obtain⟨K,Q,M⟩:=List.pairwise_append.mp G
  refine List.pairwise_append.mpr ⟨K,List.pairwise_cons.mpr ⟨z,Q⟩,λa m b u=> ?_⟩
  rcases Qsq.mp u with rfl|u
  ·exact v a m
  ·exact M a m b u
 ·rw[k,g,g,T.sz]
 ·rw[g,n];exact o
 ·intro i H F C l d
  rw[n]
  rw[k,p0 I] at d
  rw[p0 s] at l
  by_cases c:i<below t.place j
  ·rw[Qhq c] at l d
   exact(T.rch i H F C l d).imp f
  ·rw[Quq c] at l d
   by_cases B:i=below t.place j
   ·rw[Qhq B] at l d
    cases l
    cases d
    exact P.imp f
   ·rw[Quq B] at l d
    exact(T.rch _ H F C l d).imp f
def cC(a:Addr)(c:List (PyData×Addr))(h:Heap):Prop:=∃o b d t,h.get? a=some o/\o.ExactSet/\o.data=.set b d t/\TI t b/\b.size*5<t.mask*3/\b.toList.Perm (c.map λe=>(wz e.1,.ref e.2))
def cC.keep{a:Addr}{b:List (PyData×Addr)}{h h':Heap}(x:cC a b h)(k:∀o,h.get? a=some o->h'.get? a=some o):cC a b h':=by
 obtain⟨o,e,c,t,f,d⟩:=x
 exact⟨o,e,c,t,k o f,d⟩
def Jp(h:Heap)(a:List (PyData×Addr)):Prop:=∀e∈a,nu 8 e.1=true/\∃b,Reads h (.ref e.2) e.1 b
mutual
theorem lM:∀{n:Nat} {p:PyData},nu n p=true->p.canLay0=true/\p.depth<=n+1
 |_,.int _,_=>⟨rfl,by simp[PyData.depth]⟩
 | n+1,.tuple ps,h=>by
   obtain⟨a,b⟩:=Be (n:=n) (ps:=ps) h
   exact⟨a,by simp only[PyData.depth];omega⟩
 |_,.none,h=>by simp[nu] at h
 |_,.bool _,h=>by simp[nu] at h
 |_,.str _,h=>by simp[nu] at h
 |_,.list _,h=>by simp[nu] at h
 |_,.dict _,h=>by simp[nu] at h
 |0,.tuple _,h=>by simp[nu] at h
theorem Be:∀{n:Nat} {ps:List PyData},kO n ps=true->PyData.canLayAll0 ps=true/\PyData.depthAll ps<=n+1
 |_,[],_=>⟨rfl,by simp[PyData.depthAll]⟩
 | n,p::ps,h=>by
   simp only[kO,QCq] at h
   obtain⟨b,c⟩:=lM h.1
   obtain⟨a,d⟩:=Be h.2
   refine⟨by simp only[PyData.canLayAll0,QCq];exact⟨b,a⟩,by simp only[PyData.depthAll];omega⟩
end
section
variable{prog:Program}{w:World}{A:Around}{E:Value->Shared->Prop}{s:Shared}{a b:Addr}{els:List (PyData×Addr)}{p:PyData}{as:List Addr}
def tZ{o:Obj}{es:Array (Int×Value)}{M:Nat}{t:SetTable}{adding:Bool}{Q:SetFound->Shared->Prop}(hu:A.units+16<cLine)(ho:s.heap.get? a=some o)(hd:o.data=.set es M t)(T:TI t es)(J:es.toList.Perm (els.map λe=>(wz e.1,.ref e.2)))(he:Jp s.heap els)(hl:els.length<=5000)
  (Y:Reads s.heap (.ref b) p as) (U:nu 8 p=true) (q1:(els.any λe=>PyData.eqv e.1 p)=true->∀f:Option Nat,(adding=false->f.isSome=true)->Q (.there f) s) (q2:(els.any λe=>PyData.eqv e.1 p)=false->∀j,j∉t.place.toList->F4 t.mask (wz p) (·∈t.place.toList) j->Q (.free j false) s):
  wpAny (model prog w) A (setSearch a (.ref b) (wz p) adding) Q E s:=by
 have a0:es.size=els.length:=by have:=J.length_eq;simpa using this
 obtain⟨lp,dp⟩:=lM U
 obtain⟨N,S,P⟩:=T.free (wz p)
 have c:∀{i:Nat} {h:Int} {v:Value},es[i]?=some (h,v)->∃e∈els,h=wz e.1/\v=.ref e.2:=λ{i h v} g=>by
  have m:(h,v)∈es.toList:=by have:=Array.mem_of_getElem? g;simpa using this
  obtain⟨e,he,l⟩:=Qkq.mp (J.mem_iff.mp m)
  cases l
  exact⟨e,he,rfl,rfl⟩
 have x:∀{e:PyData×Addr},e∈els->∃i:Nat,es[i]?=some (wz e.1,.ref e.2):=λ{e} he=>by
  have m:=J.mem_iff.mpr (Qkq.mpr ⟨e,he,rfl⟩)
  obtain⟨i,g,l⟩:=QbQ m
  exact⟨i,by rw[←Array.getElem?_toList,gQe g,l]⟩
 let same:Nat->Bool:=λi=> @decide (∃e∈els,es[i]?=some (wz e.1,.ref e.2)/\PyData.eqv e.1 p=true) (Classical.propDecidable _)
 have d:∀{i:Nat} {h:Int} {e:PyData×Addr},e∈els->es[i]?=some (h,.ref e.2)->same i=PyData.eqv e.1 p:=λ{i h e} k g=>by
  cases l:PyData.eqv e.1 p with
  | true=>
    obtain⟨F,B,C,q⟩:=c g
    refine @Qeq _ (Classical.propDecidable _) ⟨e,k,?_,l⟩
    rw[g,C]
    congr 2
    obtain⟨r,n,u⟩:=he e k
    obtain⟨Z,I,G⟩:=he F B
    have q:e.2=F.2:=by injection q
    rw[←q] at G
    rw[SeqAt.Reads.unique _ _ _ _ _ (lM r).1 u G]
  | false=>
    refine @Qdq _ (Classical.propDecidable _) ?_
    rintro⟨F,B,C,q⟩
    rw[g] at C
    have h3:Value.ref e.2=Value.ref F.2:=by injection C with C;injection C
    obtain⟨r,n,u⟩:=he e k
    obtain⟨Z,I,G⟩:=he F B
    rw[←h3] at G
    rw[SeqAt.Reads.unique _ _ _ _ _ (lM r).1 u G] at l
    rw[l] at q
    cases q
 unfold setSearch
 refine xB T (λi h v g=>by obtain⟨e,_,_,rfl⟩:=c g;exact⟨_,rfl⟩) ho hd (same:=same) S P (λQ' H=> ?_) (λi v g Q' H=> ?_) (λK f hf=> ?_) (λR j hj hr=> ?_) 100000 0 0 none rfl (Nat.zero_le _) (by omega) (by omega) sV.zero
 ·refine Jt Y U _ (λy hy=> ?_) H
  obtain⟨z,l,rfl⟩:=Qkq.mp hy
  have l:z∈es.toList:=by
   rw[Array.toList_filter] at l
   exact(List.mem_filter.mp l).1
  obtain⟨i,g,W⟩:=QbQ l
  obtain⟨e,k,_,q⟩:=c (i:=i) (h:=z.1) (v:=z.2) (by rw[←Array.getElem?_toList,gQe g,W])
  obtain⟨r,n,u⟩:=he e k
  rw[q]
  exact⟨e.1,n,u,r⟩
 ·obtain⟨e,k,_,rfl⟩:=c g
  obtain⟨r,n,u⟩:=he e k
  rw[d k g] at H
  exact SeqAt.eqBoolOverData _ _ _ _ _ _ _ _ _ _ _ _ u Y (lM r).1 lp (by have:=(lM r).2;omega) H
 ·refine q1 ?_ f hf
  obtain⟨i,v,g,X⟩:=K
  obtain⟨e,k,_,rfl⟩:=c g
  rw[d k g] at X
  exact List.any_eq_true.mpr ⟨e,k,X⟩
 ·refine q2 ?_ j hj hr
  rw[List.any_eq_false]
  intro e k l
  have M:=Da (he e k).1 U l
  obtain⟨i,g⟩:=x k
  have:=R i _ (by rw[←M];exact g)
  rw[d k g] at this
  rw[l] at this
  cases this
def yP{Q:Bool->Shared->Prop}(r:A.units+16<cLine)(x:cC a els s.heap)(he:Jp s.heap els)(hl:els.length<=5000)(k:Reads s.heap (.ref b) p as)(l:nu 8 p=true)(q:∀c,Q (els.any λe=>PyData.eqv e.1 p) {s with toks:=c}):
  wpAny (model prog w) A (setContains a (.ref b)) Q E s:=by
 obtain⟨o,u,z,t,m,B,g,T,h,v⟩:=x
 unfold setContains
 refine QLq (Qaq (vC k l (by omega) λc=>Qaq ?_))
 unfold setFind setFindIn
 refine Qaq (wpAny_setState_of (s:={s with toks:=c}) m g T.fits ?_)
 dsimp only
 have y:byScan (Value.ref b) u=false:=by unfold byScan Value.scannable;simp
 rw[y]
 simp only[Bool.false_eq_true,if_false]
 refine Qaq (tZ (s:={s with toks:=c}) r m g T v he hl k l (λd n f=> ?_) λd j F C=> ?_)
 ·cases n with
  |none=>exact absurd (f rfl) (by decide)
  | some i=>
    refine Qgq (Qgq ?_)
    have:=q c
    rw[d] at this
    exact this
 ·refine Qgq (Qgq ?_)
  have:=q c
  rw[d] at this
  exact this
def J1{Q:Bool->Shared->Prop}(hu:A.units+16<cLine)(U:cC a els s.heap)(he:Jp s.heap els)(hl:els.length<=5000)(N:Reads s.heap (.ref b) p as)(P:nu 8 p=true)
  (q:∀g f h',Heap.SameBut a s.heap h'->cC a (if (els.any λe=>PyData.eqv e.1 p)=true then els else els++ [(p,b)]) h'->Q f {s with heap:=h',toks:=g}):
  wpAny (model prog w) A (setAdd a (.ref b)) Q E s:=by
 have F:=U
 obtain⟨o,es,m,t,z,hx,n,T,X,I⟩:=U
 have a0:es.size=els.length:=by have:=I.length_eq;simpa using this
 unfold setAdd
 refine QLq (Qaq (vC N P (by omega) λg=> ?_))
 unfold setAddHashed setAddHashedIn
 refine QLq (Qaq (wpAny_setState_of (s:={s with toks:=g}) z n T.fits ?_))
 dsimp only
 have hb:byScan (Value.ref b) es=false:=by unfold byScan Value.scannable;simp
 rw[hb]
 simp only[Bool.false_eq_true,if_false]
 refine Qaq (tZ (s:={s with toks:=g}) (adding:=true) hu z n T I he hl N P (λR o' _=> ?_) λR j hj hr=> ?_)
 ·refine Qgq ?_
  have:=q g false s.heap (Heap.SameBut.refl a s.heap)
  rw[R,Qhq rfl] at this
  exact this F
 ·dsimp only
  refine Qaq (wpAny_setState_of (s:={s with toks:=g}) z n T.fits ?_)
  dsimp only
  rw[R,Quq (by decide)] at q
  obtain⟨k,a5,a3⟩:=T.pw
  obtain⟨i,Z,S⟩:=T.put (x:=Value.ref b) hj hr (by omega)
  have J:(insertAt es (t.put j).2 (wz p,Value.ref b)).toList.Perm ((els++ [(p,b)]).map λe=>(wz e.1,Value.ref e.2)):=by
   refine(SetTable.insertAt_perm es _ _).trans ?_
   rw[Array.toList_push,Qzq]
   exact I.append_right _
  generalize (insertAt es (t.put j).2 (wz p,Value.ref b))=es1 at i S J⊢
  generalize (t.put j).1=t1 at i Z⊢
  have h:∀(c:SetTable),TI c es1->c.mask=t1.mask->wpAny (model prog w) A (do
    storeSet a es1 c
    if (!false&&c.tooFull)=true then do
     setRelay a (SetTable.grown (es.size+1))
     pure true
    else pure true) Q E {s with toks:=g}:=by
   intro c C m2
   refine Qaq (wpAny_storeSet_of (s:={s with toks:=g}) z n ?_ (by rw[S,sizeLine_eq];omega))
   have B:(s.heap.update a (Obj.putSet es1 c)).get? a=some {o with data:=.set es1 (m+1) c}:=by
    have:=Heap.get?_update_self (Obj.putSet es1 c) z (by rw[putSet_of es1 c n];rfl)
    rw[putSet_of es1 c n] at this
    exact this
   have v:({o with data:=.set es1 (m+1) c}:Obj).ExactSet:=hx
   have u:Heap.SameBut a s.heap (s.heap.update a (Obj.putSet es1 c)):=Heap.SameBut.update _ a _
   have a2:t1.mask=t.mask:=Z
   cases hf:(!false&&c.tooFull) with
   | true=>
     rw[Qhq rfl]
     have K:SetTable.grown (es.size+1)=(es.size+1)*4:=by unfold SetTable.grown;rw[Quq (by omega)]
     have y:(es.size+1)*4<2^64:=by omega
     obtain⟨_,a1,a4⟩:=rM y
     refine Qaq ?_
     rw[K]
     unfold setRelay
     refine Qaq (wpAny_setState_of (s:={s with toks:=g,heap:=s.heap.update a (Obj.putSet es1 c)}) B rfl C.fits ?_)
     dsimp only
     rw[Quq (by rw[sizeLine_eq];omega)]
     obtain⟨l,d,e1,e2,M,W,Y⟩:=xm (t:=c) (es:=es1) (wanted:=(es.size+1)*4) (by omega) y
     refine Qaq ?_
     rw[e1]
     have r:((d.filterMap (es1[·]?)).size !=es1.size)=false:=by rw[M];simp
     refine(?_:wpAny (model prog w) A (do
       if ((d.filterMap (es1[·]?)).size !=es1.size)=true then unsupported "internal:set-table-lost-an-element"
       pure (d.filterMap (es1[·]?),l)) _ E _)
     rw[r]
     simp only[Bool.false_eq_true,if_false]
     refine Qgq ?_
     generalize (d.filterMap (es1[·]?))=es3 at M W Y
     dsimp only
     refine wpAny_storeSet_of (s:={s with toks:=g,heap:=s.heap.update a (Obj.putSet es1 c)}) B rfl ?_ (by rw[M,S,sizeLine_eq];omega)
     have H:((s.heap.update a (Obj.putSet es1 c)).update a (Obj.putSet es3 l)).get? a=some {o with data:=.set es3 (m+1+1) l}:=by
       have:=Heap.get?_update_self (Obj.putSet es3 l) B (by rw[putSet_of (o:={o with data:=.set es1 (m+1) c}) es3 l rfl];rfl)
       rw[putSet_of (o:={o with data:=.set es1 (m+1) c}) es3 l rfl] at this
       exact this
     exact Qgq (q g true _ (u.trans (Heap.SameBut.update _ a _)) ⟨_,es3,m+1+1,l,H,v,rfl,Y,by omega,W.trans J⟩)
   | false=>
     rw[Quq (by decide)]
     refine Qgq (q g true _ u ⟨_,es1,m+1,c,B,v,rfl,C,?_,J⟩)
     have:c.tooFull=false:=by simpa using hf
     unfold SetTable.tooFull SetTable.fill at this
     rw[C.dm] at this
     have h5:=C.sz
     simp at this
     omega
  have G:∀pl:Bool,TI {t1 with plain:=pl} es1:=λpl=>⟨i.pw,i.dm,i.rise,i.sz,i.room,i.rch⟩
  refine Ig ?_ ?_
  ·refine Qaq (xQ (s:={s with toks:=g}) N P (Qmq _) λbv=> ?_)
   cases bv with
   |true=>exact h t1 i rfl
   |false=>exact h _ (G false) rfl
  ·exact Qaq (Qgq (h t1 i rfl))
end
section
variable{prog:Program}{w:World}{A:Around}{E:Value->Shared->Prop}{s:Shared}{a b:Addr}{els:List (PyData×Addr)}{p:PyData}{as:List Addr}
def cC.typeIs(x:cC a els s.heap):s.TypeIs (.ref a) "set":=by
 obtain⟨o,f,e,t,d,c,_⟩:=x
 exact⟨o,d,c.1⟩
def cC.noDict(x:cC a els s.heap):∀b,Value.ref a=.ref b->∃c,s.heap.get? b=some c/\c.dict=none:=λb e=>by
 obtain⟨o,h,g,t,f,d,_⟩:=x
 cases e
 exact⟨o,f,d.2.1⟩
def JI{Q:Bool->Shared->Prop}(h:A.units+32<cLine)(c:cC a els s.heap)(he:Jp s.heap els)(hl:els.length<=5000)(g:Reads s.heap (.ref b) p as)(f:nu 8 p=true)(q:∀d,Q (els.any λe=>PyData.eqv e.1 p) {s with toks:=d}):
  wpAny (model prog w) A (contains (.ref a) (.ref b)) Q E s:=by
 unfold contains
 try with_reducible refine QLq ?_
 refine Qaq (wpAny_specialOf c.typeIs F.slot_set_contains.lookup ?_)
 show wpAny _ _ (if (some (Value.builtin "set.__contains__")==some Value.none)=true then _ else _) _ E s
 rw[Quq (by rw[beq_builtin_none];exact Qtq)]
 refine Qaq (wpAny_callSpecialUnlessNone?_slot (name:=Str.ofString "__contains__") c.typeIs F.slot_set_contains (wpAny_call_entry F.slot_set_contains c.typeIs entry_set_contains ?_ (F.args_set_contains_2 _ _)))
 unfold Builtin.«frozenset.__contains__» Builtin.Frozenset.oneOther
 simp only[List.isEmpty_nil,bind_assoc]
 unfold Builtin.Frozenset.addrOf Builtin.Frozenset.withSetAsKey
 refine Qaq (Qgq ?_)
 try dsimp only
 refine Qaq (Qgq ?_)
 try dsimp only
 refine Qaq (wpAny_tryCatch (yP (show A.in1.units+16<cLine from by have:A.in1.units=A.units+1:=rfl;omega) c he hl g f λd=> ?_))
 show wpAny _ _ (ret (Value.bool _)) _ _ _
 exact Qgq ⟨_,rfl,wpAny_truthy_bool (q d)⟩
def DH{Q:Value->Shared->Prop}(f:A.units+32<cLine)(g:cC a els s.heap)(he:Jp s.heap els)(hl:els.length<=5000)(h:Reads s.heap (.ref b) p as)(d:nu 8 p=true)(q:∀c,Q (.bool (!els.any λe=>PyData.eqv e.1 p)) {s with toks:=c}):
  wpAny (model prog w) A (compareOp .NotIn (.ref b) (.ref a)) Q E s:=by
 show wpAny _ _ (do return .bool (!(←contains (.ref a) (.ref b)))) Q E s
 exact Qaq (JI f g he hl h d λc=>Qgq (q c))
def G7{Q:Value->Shared->Prop}(k:A.units+32<cLine)(g:cC a els s.heap)(he:Jp s.heap els)(hl:els.length<=5000)(j:Reads s.heap (.ref b) p as)(h:nu 8 p=true)
  (q:∀c h',Heap.SameBut a s.heap h'->cC a (if (els.any λe=>PyData.eqv e.1 p)=true then els else els++ [(p,b)]) h'->Q .none {s with heap:=h',toks:=c}):
  wpAny (model prog w) A (call (.builtin "set.add") [.ref a,.ref b]) Q E s:=by
 refine wpAny_call_entry F.slot_set_add g.typeIs F.entry_set_add ?_ (F.args_set_add_2 _ _)
 unfold Builtin.«set.add» Builtin.Frozenset.oneOther
 simp only[List.isEmpty_nil,bind_assoc]
 unfold Builtin.Frozenset.addrOf
 refine Qaq (Qgq ?_)
 try dsimp only
 refine Qaq (Qgq ?_)
 try dsimp only
 refine Qaq (J1 (show A.in1.units+16<cLine from by have:A.in1.units=A.units+1:=rfl;omega) g he hl j h λc f h' i d=> ?_)
 show wpAny _ _ (ret Value.none) _ _ _
 exact Qgq ⟨_,rfl,q c h' i d⟩
def FN{Q:Value->Shared->Prop}(q:∀h':Heap,(∀b o,s.heap.get? b=some o->h'.get? b=some o)->cC s.heap.objs.size [] h'->Q (.ref s.heap.objs.size) {s with heap:=h'}):wpAny (model prog w) A (call (.type "set") []) Q E s:=by
 refine call_set_0 λc=> ?_
 refine q _ (λb o e=>Qcq _ e) ⟨_,#[],0,.fresh 0 0 c,Qrq _ rfl,⟨rfl,rfl,rfl⟩,rfl,⟨⟨3,rfl,by decide⟩,rfl,by simp[SetTable.fresh],rfl,Nat.zero_le _,λi h v j e=>by simp at e⟩,by show 0<7*3;decide,by simp⟩
end
end ST
namespace DL
open PySem PySem.Spec PyProof.Rows L2
inductive D where
 |non|bl (b:Bool)|int (i:Int)|str (x:Str)|tup (xs:List D)|ref (k:Nat)|fn (x:Str)
inductive O where
 |lst (xs:List D)|frz (xs:List D)|dct (kvs:List (Key×D))|sett (xs:List D)
abbrev aA:=List O
mutual
def eW:D->Option PyData
 |.int i=>some (.int i)
 |.tup a=>(dr a).map .tuple
 |_=>none
def dr:List D->Option (List PyData)
 | []=>some []
 |d::ds=>(eW d).bind λp=>(dr ds).map (p::·)
end
abbrev cv:=List (Option D)
structure Md where
 K:PySem.W.Frag
 mg:Str->Option Value
mutual
inductive Rel(M:Md)(ρ:List Addr)(H:Hp):D->V->Prop
 |non:Rel M ρ H .non .non
 |bl (b:Bool):Rel M ρ H (.bl b) (.bl b)
 |int (i:Int):Rel M ρ H (.int i) (.int i)
 |str (x:Str):Rel M ρ H (.str x) (.str x)
 |tup {a:Addr} {vs:List V} {ds:List D}:H a=some (.tup vs)->aO M ρ H ds vs->Rel M ρ H (.tup ds) (.ref a)
 |ref {k:Nat} {a:Addr}:ρ[k]?=some a->Rel M ρ H (.ref k) (.ref a)
 |fn {x:Str} {a:Addr}:M.mg x=some (.ref a)->Rel M ρ H (.fn x) (.ref a)
inductive aO(M:Md)(ρ:List Addr)(H:Hp):List D->List V->Prop
 |nil:aO M ρ H [] []
 |cons {d:D} {v:V} {ds:List D} {vs:List V}:Rel M ρ H d v->aO M ρ H ds vs->aO M ρ H (d::ds) (v::vs)
end
section
variable{M:Md}{ρ ρ':List Addr}{H H':Hp}
def NI:HO->Prop
 |.tup _=>True
 |.frz _ _=>True
 |_=>False
structure bC(ρ:List Addr)(H:Hp)(ρ':List Addr)(H':Hp):Prop where
 pre:ρ <+: ρ'
 new:∀a∈ρ',a∈ρ\/H a=none
 keep:∀a o,H a=some o->a∉ρ\/NI o->H' a=some o
 grow:∀a,H' a=none->H a=none
def bC.refl:bC ρ H ρ H:=⟨List.prefix_refl _,λ_ h=>.inl h,λ_ _ h _=>h,λ_ h=>h⟩
def bC.trans{b d:List Addr}{H1 H2:Hp}(e:bC ρ H b H1)(f:bC b H1 d H2):bC ρ H d H2 where
 pre:=e.pre.trans f.pre
 new:=λa h=>(f.new a h).elim (λh=>e.new a h) λh=>.inr (e.grow a h)
 keep:=λa o h c=>f.keep a o (e.keep a o h c) (c.imp (λn m=>(e.new a m).elim n λz=>by rw[z] at h;cases h) id)
 grow:=λa h=>e.grow a (f.grow a h)
def bC.laid{a:Addr}{o:HO}(h:H a=none):bC ρ H ρ (upd H a o) where
 pre:=List.prefix_refl _
 new:=λ_ h=>.inl h
 keep:=λb c e _=>by rw[aN];exact e;intro z;subst z;rw[h] at e;cases e
 grow:=λb e=>by
  by_cases z:b=a
  ·subst z;exact h
  ·rw[aN z] at e;exact e
theorem j2{α:Type}:∀{l:List α},l.Nodup->∀{i j:Nat} {a:α},l[i]?=some a->l[j]?=some a->i=j
 | [],_,_,_,_,h,_=>by simp at h
 |x::l,n,0,0,_,_,_=>rfl
 | x::l,n,0,j+1,a,h1,h2=>by
   rw[List.nodup_cons] at n
   simp at h1 h2
   subst h1
   exact absurd (mQg h2) n.1
 | x::l,n,i+1,0,a,h1,h2=>by
   rw[List.nodup_cons] at n
   simp at h1 h2
   subst h2
   exact absurd (mQg h1) n.1
 | x::l,n,i+1,j+1,a,h1,h2=>by
   rw[List.nodup_cons] at n
   simp at h1 h2
   exact congrArg (·+1) (j2 n.2 h1 h2)
def bN{α e:Type}{a c:α}{b d:e}(h:some (a,b)=some (c,d)):a=c/\b=d:=by cases h;exact⟨rfl,rfl⟩
def bU{α:Type}{l b:List α}(h:l <+: b){k:Nat}{a:α}(e:l[k]?=some a):b[k]?=some a:=by
 obtain⟨t,rfl⟩:=h
 rw[QHq (gQs.mp e).1]
 exact e
mutual
theorem Rel.ext(e:bC ρ H ρ' H'):∀{d:D} {v:V},Rel M ρ H d v->Rel M ρ' H' d v
 |_,_,.non=>.non
 |_,_,.bl b=>.bl b
 |_,_,.int i=>.int i
 |_,_,.str x=>.str x
 |_,_,.tup h hs=>.tup (e.keep _ _ h (.inr trivial)) (aO.ext e hs)
 |_,_,.ref h=>.ref (bU e.pre h)
 |_,_,.fn h=>.fn h
theorem aO.ext(e:bC ρ H ρ' H'):∀{ds:List D} {vs:List V},aO M ρ H ds vs->aO M ρ' H' ds vs
 |_,_,.nil=>.nil
 |_,_,.cons h hs=>.cons (Rel.ext e h) (aO.ext e hs)
end
mutual
theorem Rel.pre(e:ρ <+: ρ'):∀{d:D} {v:V},Rel M ρ H d v->Rel M ρ' H d v
 |_,_,.non=>.non
 |_,_,.bl b=>.bl b
 |_,_,.int i=>.int i
 |_,_,.str x=>.str x
 |_,_,.tup h hs=>.tup h (aO.pre e hs)
 |_,_,.ref h=>.ref (bU e h)
 |_,_,.fn h=>.fn h
theorem aO.pre(e:ρ <+: ρ'):∀{ds:List D} {vs:List V},aO M ρ H ds vs->aO M ρ' H ds vs
 |_,_,.nil=>.nil
 |_,_,.cons h hs=>.cons (Rel.pre e h) (aO.pre e hs)
end
theorem aO.length:∀{ds:List D} {vs:List V},aO M ρ H ds vs->ds.length=vs.length
 |_,_,.nil=>rfl
 |_,_,.cons _ h=>congrArg (·+1) h.length
theorem aO.append:∀{ds es:List D} {vs ws:List V},aO M ρ H ds vs->aO M ρ H es ws->aO M ρ H (ds++es) (vs++ws)
 |_,_,_,_,.nil,h=>h
 |_,_,_,_,.cons h hs,h'=>.cons h (hs.append h')
theorem aO.get:∀{ds:List D} {vs:List V} {i:Nat} {d:D},aO M ρ H ds vs->ds[i]?=some d->∃v,vs[i]?=some v/\Rel M ρ H d v
 |_,_,0,_,.cons h _,e=>by cases e;exact⟨_,rfl,h⟩
 |_,_,i+1,_,.cons _ hs,e=>hs.get (i:=i) (by simpa using e)
 |_,_,_,_,.nil,e=>by simp at e
theorem aO.set{d:D}{v:V}(h:Rel M ρ H d v):∀{ds:List D} {vs:List V} (i:Nat),aO M ρ H ds vs->aO M ρ H (ds.set i d) (vs.set i v)
 |_,_,_,.nil=>.nil
 |_,_,0,.cons _ t=>.cons h t
 |_,_,i+1,.cons q t=>.cons q (aO.set h i t)
theorem aO.take:∀{ds:List D} {vs:List V} (n:Nat),aO M ρ H ds vs->aO M ρ H (ds.take n) (vs.take n)
 |_,_,0,_=>.nil
 |_,_,_+1,.nil=>.nil
 |_,_,n+1,.cons h hs=>.cons h (hs.take n)
theorem aO.drop:∀{ds:List D} {vs:List V} (n:Nat),aO M ρ H ds vs->aO M ρ H (ds.drop n) (vs.drop n)
 |_,_,0,h=>h
 |_,_,_+1,.nil=>.nil
 |_,_,n+1,.cons _ hs=>hs.drop n
theorem aO.rep{ds:List D}{vs:List V}(h:aO M ρ H ds vs):∀k:Nat,aO M ρ H (List.replicate k ds).flatten (List.replicate k vs).flatten
 |0=>.nil
 |k+1=>by rw[QNq,QNq,List.flatten_cons,List.flatten_cons];exact h.append (h.rep k)
def bG(M:Md)(ρ:List Addr)(H:Hp):List (Key×D)->List (Key×V)->Prop
 | [],kv=>kv= []
 |(k,d)::r,kv=>∃v t,kv=(k,v)::t/\Rel M ρ H d v/\bG M ρ H r t
theorem bG.imp{ρ':List Addr}{H':Hp}(f:∀d v,Rel M ρ H d v->Rel M ρ' H' d v):∀{l:List (Key×D)} {kv:List (Key×V)},bG M ρ H l kv->bG M ρ' H' l kv
 | [],_,h=>h
 |(_,_)::_,_,⟨v,t,e,h,hs⟩=>⟨v,t,e,f _ _ h,bG.imp f hs⟩
theorem bG.length:∀{l:List (Key×D)} {kv:List (Key×V)},bG M ρ H l kv->l.length=kv.length
 | [],_,h=>by cases h;rfl
 |(_,_)::_,_,⟨v,t,e,h,hs⟩=>by subst e;exact congrArg (·+1) hs.length
def mq(M:Md)(ρ:List Addr)(H:Hp)(a:Addr):O->Prop
 |.lst b=>∃c,H a=some (.lst c)/\aO M ρ H b c
 |.frz b=>∃c o,H a=some (.frz o (.lst c))/\aO M ρ H b c
 |.dct d=>∃f,H a=some (.dK f)/\bG M ρ H d f
 |.sett b=>∃(g:List Addr) (e:List PyData),H a=some (.ext (ST.cC a (List.zip e g)))/\aO M ρ H b (g.map V.ref)/\dr b=some e/\ST.kO 8 e=true
structure eV(M:Md)(ρ:List Addr)(S:aA)(H:Hp):Prop where
 len:ρ.length=S.length
 nd:ρ.Nodup
 obj:∀(k:Nat) (a:Addr) (o:O),ρ[k]?=some a->S[k]?=some o->mq M ρ H a o
def mq.lay{a b:Addr}{o:O}{u:HO}(h:mq M ρ H a o)(i:H b=none):mq M ρ (upd H b u) a o:=by
 have e:bC ρ H ρ (upd H b u):=bC.laid i
 have f:∀{x},H a=some x->upd H b u a=some x:=λ{x} h=>by rw[aN];exact h;intro z;subst z;rw[i] at h;cases h
 cases o with
 |lst j=>obtain⟨g,d,c⟩:=h;exact⟨g,f d,c.ext e⟩
 |frz j=>obtain⟨g,o,d,c⟩:=h;exact⟨g,o,f d,c.ext e⟩
 |dct k=>obtain⟨m,d,c⟩:=h;exact⟨m,f d,c.imp λ_ _ r=>r.ext e⟩
 |sett j=>obtain⟨n,l,d,c,p⟩:=h;exact⟨n,l,f d,c.ext e,p⟩
def eV.lay{S:aA}{b:Addr}{u:HO}(h:eV M ρ S H)(e:H b=none):eV M ρ S (upd H b u):=⟨h.len,h.nd,λk a o d c=>(h.obj k a o d c).lay e⟩
theorem mq.pre{a:Addr}{o:O}(e:ρ <+: ρ')(h:mq M ρ H a o):mq M ρ' H a o:=by
 cases o with
 |lst f=>obtain⟨d,c,b⟩:=h;exact⟨d,c,b.pre e⟩
 |frz f=>obtain⟨d,o,c,b⟩:=h;exact⟨d,o,c,b.pre e⟩
 |dct j=>obtain⟨g,c,b⟩:=h;exact⟨g,c,b.imp λ_ _ r=>r.pre e⟩
 |sett f=>obtain⟨i,l,c,b,k⟩:=h;exact⟨i,l,c,b.pre e,k⟩
def eV.box{S:aA}{a:Addr}{o:O}(h:eV M ρ S H)(g:a∉ρ)(j:mq M (ρ++ [a]) H a o):eV M (ρ++ [a]) (S++ [o]) H where
 len:=by rw[lQa,lQa,h.len];rfl
 nd:=by rw[List.nodup_append];exact⟨h.nd,by simp,λx i y f=>by rw[Qfq] at f;subst f;exact λz=>g (z▸i)⟩
 obj:=λk b u d e=>by
  by_cases c:k<ρ.length
  ·rw[QHq c] at d
   rw[QHq (h.len▸c)] at e
   exact(h.obj k b u d e).pre (List.prefix_append _ _)
  ·have c:ρ.length<=k:=Nat.le_of_not_lt c
   rw[QQq c] at d
   rw[QQq (h.len▸c)] at e
   have z:k-ρ.length=0:=by
    have:=(gQs.mp d).1
    simp at this
    omega
   have l:k-S.length=0:=by rw[←h.len];exact z
   rw[z] at d
   rw[l] at e
   cases d
   cases e
   exact j
def eV.put{S:aA}{k:Nat}{a:Addr}{o o':O}{u:HO}(h:eV M ρ S H)(m:ρ[k]?=some a)(Q:S[k]?=some o)(C:mq M ρ (upd H a u) a o')(P:∀x,H a=some x->¬NI x):eV M ρ (S.set k o') (upd H a u)/\bC ρ H ρ (upd H a u):=by
 have F:a∈ρ:=mQg m
 have e:bC ρ H ρ (upd H a u):=by
  refine⟨List.prefix_refl _,λ_ h=>.inl h,λb x y c=> ?_,λb l=> ?_⟩
  ·rw[aN]
   ·exact y
   ·intro z
    subst z
    exact c.elim (λn=>n F) λI=>P _ y I
  ·by_cases z:b=a
   ·subst z;rw[aU] at l;cases l
   ·rw[aN z] at l;exact l
 refine⟨⟨by rw[List.length_set];exact h.len,h.nd,λj b p g i=> ?_⟩,e⟩
 by_cases c:j=k
 ·subst c
  rw[m] at g
  cases g
  rw[Qyq (gQs.mp Q).1] at i
  cases i
  exact C
 ·rw[QKq (Ne.symm c)] at i
  have s:b≠a:=by
   intro z
   subst z
   have v:=(gQs.mp g)
   have A:=(gQs.mp m)
   obtain⟨v,U⟩:=v
   obtain⟨A,R⟩:=A
   exact c (j2 h.nd g m)
  have q:=h.obj j b p g i
  cases p with
  |lst w=>obtain⟨t,d,f⟩:=q;exact⟨t,by rw[aN s];exact d,f.ext e⟩
  |frz w=>obtain⟨t,o,d,f⟩:=q;exact⟨t,o,by rw[aN s];exact d,f.ext e⟩
  |dct B=>obtain⟨J,d,f⟩:=q;exact⟨J,by rw[aN s];exact d,f.imp λ_ _ r=>r.ext e⟩
  |sett w=>obtain⟨K,G,d,f,N⟩:=q;exact⟨K,G,by rw[aN s];exact d,f.ext e,N⟩
end
structure En(M:Md)(ρ:List Addr)(H:Hp)(Γ:cv)(σ:L2.St):Prop where
 len:σ.length=Γ.length
 get:∀(i:Nat) (d:D),Γ[i]?=some (some d)->∃v,σ[i]?=some (some v)/\Rel M ρ H d v
def En.ext{M:Md}{ρ a:List Addr}{H f:Hp}{b:cv}{c:L2.St}(h:En M ρ H b c)(e:bC ρ H a f):En M a f b c:=⟨h.len,λi d q=>by obtain⟨v,j,g⟩:=h.get i d q;exact⟨v,j,g.ext e⟩⟩
def En.set{M:Md}{ρ:List Addr}{H:Hp}{a:cv}{b:L2.St}{i:Nat}{d:D}{v:V}(h:En M ρ H a b)(r:Rel M ρ H d v):En M ρ H (a.set i (some d)) (b.set i (some v)) where
 len:=by rw[List.length_set,List.length_set];exact h.len
 get:=λj e q=>by
  by_cases c:i=j
  ·subst c
   have l:i<a.length:=by
    have:=(gQs.mp q).1
    rwa [List.length_set] at this
   rw[Qyq l] at q
   cases q
   exact⟨v,Qyq (h.len▸l),r⟩
  ·rw[QKq c] at q⊢
   exact h.get j e q
structure Ok(M:Md)(ρ:List Addr)(Γ:cv)(S:aA)(σ:L2.St)(H:Hp):Prop where
 en:En M ρ H Γ σ
 st:eV M ρ S H
def Ok.to{M:Md}{ρ a:List Addr}{c:cv}{S d:aA}{f:L2.St}{H b:Hp}(h:Ok M ρ c S f H)(e:bC ρ H a b)(s:eV M a d b):Ok M a c d f b:=⟨h.en.ext e,s⟩
abbrev aV:=cv->aA->Option (D×aA)
abbrev fN:=cv->aA->Option (List D×aA)
abbrev ie:=cv->aA->Option (Bool×aA)
def tD(M:Md)(f:aV):TE:=λh H Q=>∃g c S d e,Ok M g c S h H/\f c S=some (d,e)/\∀a v b,bC g H a b->eV M a e b->Rel M a b d v->Q v b
def tL(M:Md)(f:fN):TE:=λj H Q=>∃h d S i e,Ok M h d S j H/\f d S=some (i,e)∧
 ∀b a g c,bC h H b c->eV M b e c->H a=none->a∉b->c a=some (.lst g)->aO M b c i g->Q (.ref a) c
def yu(M:Md)(f:fN):TA:=λi H Q=>∃g c S h d,Ok M g c S i H/\f c S=some (h,d)/\∀a e b,bC g H a b->eV M a d b->aO M a b h e->Q e b
def tB(M:Md)(f:ie):TT:=λh H Q=>∃g d S b e,Ok M g d S h H/\f d S=some (b,e)/\∀a c,bC g H a c->eV M a e c->Q b c
section
variable{X:Cx}
abbrev md(X:Cx):Md:=⟨X.K,X.mg⟩
def jD{e:Expr}{t t':TE}(h:PE X e t)(w:∀b H Q,t' b H Q->t b H Q):PE X e t':=λa s b H Q I q=>h a s b H Q I (w _ _ _ q)
def Mv{e:Expr}{t t':TT}(h:PT X e t)(w:∀b H Q,t' b H Q->t b H Q):PT X e t':=λa s b H Q I q=>h a s b H Q I (w _ _ _ q)
def Ob{e:Expr}{t t':TT}(h:PW X e t)(w:∀b H Q,t' b H Q->t b H Q):PW X e t':=λc a s b H Q I q=>h c a s b H Q I (w _ _ _ q)
def Os{es:List Expr}{t t':TA}(h:PA X es t)(w:∀b H Q,t' b H Q->t b H Q):PA X es t':=λc a s b H Q I q=>h c a s b H Q I (w _ _ _ q)
def BF{e:Stmt}{t t':TS}(h:PS X e t)(w:∀D b H,t' D b H->t D b H):PS X e t':=λa s b H D I q=>h a s b H D I (w _ _ _ q)
def Mi{e:List Stmt}{t t':TS}(h:pH X e t)(w:∀D b H,t' D b H->t D b H):pH X e t':=λa s b H D I q=>h a s b H D I (w _ _ _ q)
noncomputable def av(i:Nat):aV:=λa S=>match a[i]? with
 |some (some d)=>some (d,S)
 |_=>none
def B5{i:Nat}{a:cv}{S:aA}{d:D}{b:aA}(h:av i a S=some (d,b)):a[i]?=some (some d)/\b=S:=by
 unfold av at h
 split at h
 ·cases h;exact⟨by assumption,rfl⟩
 ·cases h
def KS{e:Expr}{i:Nat}(h:PE X e (ID i)):PE X e (tD (md X) (av i)):=jD h λk H Q b=>by
 obtain⟨g,j,S,d,l,ok,e,q⟩:=b
 obtain⟨c,rfl⟩:=B5 e
 obtain⟨v,f,a⟩:=ok.en.get i d c
 exact⟨v,f,q g v H bC.refl ok.st a⟩
noncomputable def cF(d:D):aV:=λ_ S=>some (d,S)
def kj{e:Expr}{v:V}{d:D}(h:PE X e (tC v))(r:∀ρ H,Rel (md X) ρ H d v):PE X e (tD (md X) (cF d)):=jD h λf H Q a=>by
 obtain⟨ρ,c,S,b,g,ok,e,q⟩:=a
 cases e
 exact q ρ v H bC.refl ok.st (r _ _)
def ui{i:Int}{j pos}:PE X (.Constant (.int i) j pos) (tD (md X) (cF (.int i))):=kj JT λ_ _=>.int i
def Pa{b:Bool}{j pos}:PE X (.Constant (.bool b) j pos) (tD (md X) (cF (.bl b))):=kj Lv λ_ _=>.bl b
def K3{j pos}:PE X (.Constant .none j pos) (tD (md X) (cF .non)):=kj Jw λ_ _=>.non
def Oh{x:Str}{j pos}:PE X (.Constant (.str x) j pos) (tD (md X) (cF (.str x))):=kj IK λ_ _=>.str x
def dv(f:fN):aV:=λb S=>(f b S).bind λ(c,a)=>some (.ref a.length,a++ [.lst c])
def KZ{e:Expr}{f:fN}(h:PE X e (tL (md X) f)):PE X e (tD (md X) (dv f)):=jD h λA H Q m=>by
 obtain⟨v,k,S,d,z,ok,e,q⟩:=m
 unfold dv at e
 cases j:f k S with
 |none=>rw[j] at e;cases e
 | some p=>
   obtain⟨r,t⟩:=p
   rw[j] at e
   obtain⟨rfl,rfl⟩:=bN e
   refine⟨v,k,S,r,t,ok,j,λg a u o x l s n y w=> ?_⟩
   have i:=w.pre (List.prefix_append g [a])
   refine q (g++ [a]) (.ref a) o ⟨x.pre.trans (List.prefix_append _ _),λb c=> ?_,x.keep,x.grow⟩ (l.box n ⟨u,y,i⟩) (.ref ?_)
   · rcases mQa.mp c with c|c
     · exact x.new b c
     · rw[Qfq] at c;subst c;exact .inr s
   · rw[←l.len,QQq (Qmq _)]
     simp
noncomputable def au:fN:=λ_ S=>some ([],S)
noncomputable def ar(f:aV)(g:fN):fN:=λa S=>(f a S).bind λ(d,c)=>(g a c).bind λ(e,b)=>some (d::e,b)
def aq{α c:Type}{o:Option α}{f:α->Option c}{b:c}(h:o.bind f=some b):∃a,o=some a/\f a=some b:=by
 cases o with
 |none=>cases h
 |some a=>exact⟨a,rfl,h⟩
def kW:PA X [] (yu (md X) au):=Os dX λf H Q a=>by
 obtain⟨b,c,S,d,g,ok,e,q⟩:=a
 cases e
 exact q b [] H bC.refl ok.st .nil
def cY{e:Expr}{es:List Expr}{f:aV}{g:fN}(A:PE X e (tD (md X) f))(u:PA X es (yu (md X) g))(p:starEach (e::es) X.env=(false,eval e X.env)::starEach es X.env:=by rfl):PA X (e::es) (yu (md X) (ar f g)):=
 Os (bQ A u p) λC H Q n=>by
  obtain⟨y,j,S,d,B,ok,e,q⟩:=n
  obtain⟨⟨x,k⟩,r,e⟩:=aq e
  obtain⟨⟨o,z⟩,m,e⟩:=aq e
  obtain⟨rfl,rfl⟩:=bN e
  refine⟨y,j,S,x,k,ok,r,λb v H1 l c s=>⟨b,j,k,o,z,ok.to l c,m,λh w H2 i a t=> ?_⟩⟩
  exact q h (v::w) H2 (l.trans i) a (.cons (s.ext i) t)
def az(f:fN):aV:=λb S=>(f b S).bind λ(a,c)=>if a.length<=sizeLine then some (.tup a,c) else none
def HR{es:List Expr}{f:fN}{k pos}(h:PA X es (yu (md X) f)):PE X (.Tuple es k pos) (tD (md X) (az f)):=jD (Fq h) λv H Q j=>by
 obtain⟨r,n,S,d,t,ok,e,q⟩:=j
 obtain⟨⟨l,o⟩,m,e⟩:=aq e
 dsimp only at e
 split at e
 ·rename_i c
  obtain⟨rfl,rfl⟩:=bN e
  refine⟨r,n,S,l,o,ok,m,λb u H1 s g i=>⟨i.length▸c,λp a=> ?_⟩⟩
  exact q b (.ref p) _ (s.trans (bC.laid a)) (g.lay a) (.tup aU (i.ext (bC.laid a)))
 ·cases e
def cT(f:fN):fN:=λb S=>(f b S).bind λ(a,c)=>if a.length<=sizeLine then some (a,c) else none
def c8{M:Md}{ρ a:List Addr}{S:aA}{H c:Hp}{p:Addr}(x:bC ρ H a c)(st:eV M a S c)(b:c p=none):p∉a:=λm=>by
 obtain⟨k,f⟩:=List.getElem?_of_mem m
 have l:k<S.length:=st.len▸(gQs.mp f).1
 have:=st.obj k p _ f (gQe l)
 cases e:S[k] with
 |lst d=>rw[e] at this;obtain⟨g,h,_⟩:=this;rw[b] at h;cases h
 |frz d=>rw[e] at this;obtain⟨g,o,h,_⟩:=this;rw[b] at h;cases h
 |dct d=>rw[e] at this;obtain⟨g,h,_⟩:=this;rw[b] at h;cases h
 |sett d=>rw[e] at this;obtain⟨_,_,h,_⟩:=this;rw[b] at h;cases h
def LD{es:List Expr}{f:fN}{pos}(h:PA X es (yu (md X) f)):PE X (.List es pos) (tL (md X) (cT f)):=jD (JA h) λu H Q k=>by
 obtain⟨s,n,S,d,t,ok,e,q⟩:=k
 obtain⟨⟨l,o⟩,m,e⟩:=aq e
 dsimp only at e
 split at e
 ·rename_i c
  obtain⟨rfl,rfl⟩:=bN e
  refine⟨s,n,S,l,o,ok,m,λg r H1 i b j=>⟨j.length▸c,λp a=> ?_⟩⟩
  exact q g p r _ (i.trans (bC.laid a)) (b.lay a) (i.grow p a) (c8 i b a) aU (j.ext (bC.laid a))
 ·cases e
end
section
variable{X:Cx}{a b c e:Expr}{pos:Pos}
def FB:kg X (binaryOp .Add) (λx y H Q=>∃a b ys,x=.ref a/\y=.ref b/\gr X.K H a []/\gr X.K H b ys/\Q (.ref b) H):=by
 intro w s S H x y v u Q I M B h
 obtain⟨a,b,ys,rfl,rfl,ha,j,q⟩:=h
 cases M
 cases B
 obtain⟨J,G,P,_⟩:=I.tuple ha
 obtain⟨g,R,j,_⟩:=I.tuple j
 cases G
 obtain⟨⟨C,N,t,sl⟩,z,o,n,p⟩:=id P
 obtain⟨⟨r,m,k,l⟩,i,f,A,d⟩:=id j
 simp only at o p f d
 subst o p f d
 exact concat_meets ⟨_,z,rfl⟩ ⟨_,i,rfl⟩ noFill_tuple_add seq_tuple_add PySem.F.slot_tuple_add PySem.F.entry_tuple_add (PySem.F.args_tuple_add_2 _ _)
   (tuple_addW0 a b _ g.toArray n A N m sl l (by simp)) ⟨z,i,.ref b,H,I,rfl,q⟩
abbrev sU:=aA->D->D->Option D
def jL(M:Md)(r:R2)(o:sU):Prop:=∀{f:List Addr} {S:aA} {H:Hp} {x y d:D} {u v:V} {Q:VK},eV M f S H->Rel M f H x u->Rel M f H y v->o S x y=some d->(∀w g,bC f H f g->eV M f S g->Rel M f g d w->Q w g)->r u v H Q
noncomputable def bu(o:sU)(f g:aV):aV:=λh S=>(f h S).bind λ(x,j)=>(g h j).bind λ(y,i)=>(o i x y).bind λd=>some (d,i)
def mM{r:R2}{o:sU}{f g:aV}(M:jL (md X) r o)(h:PE X e (Kq r (tD (md X) f) (tD (md X) g))):PE X e (tD (md X) (bu o f g)):=jD h λU H Q z=>by
 obtain⟨J,p,S,d,R,ok,e,q⟩:=z
 obtain⟨⟨x,s⟩,F,e⟩:=aq e
 obtain⟨⟨y,K⟩,u,e⟩:=aq e
 obtain⟨P,C,e⟩:=aq e
 obtain⟨rfl,rfl⟩:=bN e
 refine⟨J,p,S,x,s,ok,F,λj v H1 t k G=>⟨j,p,s,y,K,ok.to t k,u,λm w H2 n i I=> ?_⟩⟩
 exact M i (G.ext n) I C λN H3 B l A=>q m N H3 ((t.trans n).trans B) l A
def cu:sU:=λ_ x y=>match x,y with
 |.int i,.int j=>some (.int (i+j))
 |.str i,.str j=>if i.length+j.length<=sizeLine then some (.str (i++j)) else none
 |.tup i,.tup j=>if i.length+j.length<=sizeLine then some (.tup (i++j)) else none
 |_,_=>none
abbrev LU(K:PySem.W.Frag):R2:=λx y H Q=>(∃i j,x=.int i/\y=.int j/\Q (.int (i+j)) H)\/(∃i j,x=.str i/\y=.str j/\i.length+j.length<=sizeLine/\Q (.str (i++j)) H)∨
 (∃a b d,x=.ref a/\y=.ref b/\gr K H a []/\gr K H b d/\Q (.ref b) H)\/HU K x y H Q
def HD:kg X (binaryOp .Add) (LU X.K):=J9.or (zJ.or (FB.or Gs))
def Km{M:Md}:jL M (LU M.K) cu:=by
 intro t S H x y d u v Q h r l e q
 cases r with
 |int i=>cases l <;>simp only[cu,reduceCtorEq] at e;cases e;exact .inl ⟨_,_,rfl,rfl,q _ _ bC.refl h (.int _)⟩
 | str i=>
   cases l <;>simp only[cu,reduceCtorEq] at e
   split at e <;>cases e
   exact .inr (.inl ⟨_,_,rfl,rfl,by assumption,q _ _ bC.refl h (.str _)⟩)
 | tup n f=>
   cases l with
   | tup m j=>
     simp only[cu] at e
     split at e <;>cases e
     rename_i hl
     have o:=f.length
     have s:=j.length
     cases f with
     |nil=>exact .inr (.inr (.inl ⟨_,_,_,rfl,rfl,gr.of n,gr.of m,q _ _ bC.refl h (.tup m j)⟩))
     | cons f g=>
       refine .inr (.inr (.inr ⟨_,_,_,_,rfl,rfl,gr.of n,gr.of m,by simp,by rw[←o,←s];exact hl,λz=> ?_,λz p k=> ?_⟩))
       · subst z
         cases j
         rw[List.append_nil] at q
         exact q _ _ bC.refl h (.tup n (.cons f g))
       · exact q _ _ (bC.laid k) (h.lay k) (.tup aU ((aO.append (.cons f g) j).ext (bC.laid k)))
   |_=>simp only[cu,reduceCtorEq] at e
 |_=>simp only[cu,reduceCtorEq] at e
def OP{f g:aV}(d:PE X a (tD (md X) f))(h:PE X b (tD (md X) g)):PE X (.BinOp a .Add b pos) (tD (md X) (bu cu f g)):=mM Km (o9 HD d h)
def intD(C:Int->Int->Prop)[∀i j,Decidable (C i j)](k:Int->Int->D):sU:=λ_ x y=>match x,y with
 |.int i,.int j=>if C i j then some (k i j) else none
 |_,_=>none
def u7{M:Md}{C:Int->Int->Prop}[∀i j,Decidable (C i j)]{k:Int->Int->D}{g:Int->Int->V}(f:∀i j ρ H,Rel M ρ H (k i j) (g i j)):jL M (rI C g) (intD C k):=by
 intro ρ S H x y d u v Q m h l e q
 cases h <;>cases l <;>simp only[intD,reduceCtorEq] at e
 split at e <;>cases e
 exact⟨_,_,rfl,rfl,by assumption,q _ _ bC.refl m (f _ _ _ _)⟩
def mB{M:Md}{k:Int->Int->D}{g:Int->Int->V}(f:∀i j ρ H,Rel M ρ H (k i j) (g i j)):jL M (B8 g) (intD (λ_ _=>True) k):=by
 intro ρ S H x y d u v Q m h l e q
 cases h <;>cases l <;>simp only[intD,reduceCtorEq] at e
 rw[Qhq trivial] at e
 cases e
 exact⟨_,_,rfl,rfl,q _ _ bC.refl m (f _ _ _ _)⟩
instance{i j:Int}:Decidable (EB i j):=by unfold EB;infer_instance
instance{i j:Int}:Decidable (Di i j):=by unfold Di;infer_instance
open Classical in
noncomputable instance{i j:Int}:Decidable (IntMulOk i j):=Classical.propDecidable _
abbrev GU:sU:=intD (λ_ _=>True) λi j=>.int (i-j)
noncomputable abbrev rR:sU:=intD IntMulOk λi j=>.int (i*j)
abbrev pG:sU:=intD (λ_ j=>0<j) λi j=>.int (i%j)
abbrev xU:sU:=intD EB λi j=>.int (i/j)
abbrev Hy:sU:=intD Di λi j=>.int (i^j.toNat)
def Ot{f g:aV}(h:PE X a (tD (md X) f))(d:PE X b (tD (md X) g)):PE X (.BinOp a .Sub b pos) (tD (md X) (bu GU f g)):=mM (mB λi j _ _=>.int _) (o9 Kb h d)
def OA{f g:aV}(h:PE X a (tD (md X) f))(d:PE X b (tD (md X) g)):PE X (.BinOp a .Mult b pos) (tD (md X) (bu rR f g)):=mM (u7 λi j _ _=>.int _) (o9 Ga h d)
def N6{f g:aV}(h:PE X a (tD (md X) f))(d:PE X b (tD (md X) g)):PE X (.BinOp a .Mod b pos) (tD (md X) (bu pG f g)):=mM (u7 λi j _ _=>.int _) (o9 J0 h d)
def Ng{f g:aV}(h:PE X a (tD (md X) f))(d:PE X b (tD (md X) g)):PE X (.BinOp a .FloorDiv b pos) (tD (md X) (bu xU f g)):=mM (u7 λi j _ _=>.int _) (o9 Hx h d)
def Of{f g:aV}(h:PE X a (tD (md X) f))(d:PE X b (tD (md X) g)):PE X (.BinOp a .Pow b pos) (tD (md X) (bu Hy f g)):=mM (u7 λi j _ _=>.int _) (o9 JN h d)
def qY(f:aV):aV:=λg S=>(f g S).bind λ(d,h)=>match d with
 |.int i=>some (.int (-i),h)
 |_=>none
def Ic{f:aV}(p:PE X a (tD (md X) f)):PE X (.UnaryOp .USub a pos) (tD (md X) (qY f)):=jD (LR Jz p) λs H Q h=>by
 obtain⟨n,l,S,d,r,ok,e,q⟩:=h
 obtain⟨⟨x,m⟩,j,e⟩:=aq e
 dsimp only at e
 split at e
 ·obtain⟨rfl,rfl⟩:=bN e
  refine⟨n,l,S,_,m,ok,j,λi v H1 o g k=> ?_⟩
  cases k
  exact⟨_,rfl,q _ _ _ o g (.int _)⟩
 ·cases e
def u0:D->Option V
 |.non=>some .non
 |.bl b=>some (.bl b)
 |.int i=>some (.int i)
 |.str x=>some (.str x)
 |_=>none
def k_{M:Md}{ρ:List Addr}{H:Hp}{d:D}{u v:V}(r:Rel M ρ H d u)(e:u0 d=some v):u=v:=by
 cases r <;>simp[u0] at e <;>exact e
def iG(d:Bool):sU:=λ_ x y=>match u0 x,u0 y with
 |some u,some v=>if zj u v=true then some (.bl (if d then !decide (u=v) else decide (u=v))) else none
 |_,_=>none
def xj{f:Bool}{S:aA}{x y d:D}(e:iG f S x y=some d):∃u v,u0 x=some u/\u0 y=some v/\zj u v=true/\d=.bl (if f then !decide (u=v) else decide (u=v)):=by
 unfold iG at e
 split at e
 ·split at e <;>cases e
  exact⟨_,_,by assumption,by assumption,by assumption,rfl⟩
 ·cases e
def Oo{M:Md}:jL M Og (iG false):=by
 intro n S H x y d u v Q k g h e q
 obtain⟨l,m,j,f,i,rfl⟩:=xj e
 cases k_ g j
 cases k_ h f
 exact⟨i,q _ _ bC.refl k (.bl _)⟩
def OD{M:Md}:jL M On (iG true):=by
 intro n S H x y d u v Q k g h e q
 obtain⟨l,m,j,f,i,rfl⟩:=xj e
 cases k_ g j
 cases k_ h f
 exact⟨i,q _ _ bC.refl k (.bl _)⟩
abbrev MI:sU:=intD (λ_ _=>True) λi j=>.bl (decide (i<j))
abbrev KF:sU:=intD (λ_ _=>True) λi j=>.bl (decide (i<=j))
abbrev My:sU:=intD (λ_ _=>True) λi j=>.bl (decide (j<i))
abbrev N8:sU:=intD (λ_ _=>True) λi j=>.bl (decide (j<=i))
def LL{M:Md}:jL M (B8 λi j=>.bl (decide (i<j))) MI:=mB λi j _ _=>.bl _
def HE{M:Md}:jL M (B8 λi j=>.bl (decide (i<=j))) KF:=mB λi j _ _=>.bl _
def OC{M:Md}:jL M (B8 λi j=>.bl (decide (j<i))) My:=mB λi j _ _=>.bl _
def Om{M:Md}:jL M (B8 λi j=>.bl (decide (j<=i))) N8:=mB λi j _ _=>.bl _
def isNone:D->Bool
 |.non=>true
 |_=>false
def sX(d:Bool):sU:=λ_ x y=>match y with
 |.non=>some (.bl (if d then !isNone x else isNone x))
 |_=>none
def tT{M:Md}{ρ:List Addr}{H:Hp}{d:D}{u:V}(r:Rel M ρ H d u):decide (u=V.non)=isNone d:=by
 cases r <;>simp[isNone]
def M3{M:Md}:jL M (λx y H Q=>y=.non/\Q (.bl (decide (x=.non))) H) (sX false):=by
 intro i S H x y d u v Q g h f e q
 cases f <;>simp only[sX,reduceCtorEq] at e
 cases e
 rw[tT h]
 exact⟨rfl,q _ _ bC.refl g (.bl _)⟩
def MD{M:Md}:jL M (λx y H Q=>y=.non/\Q (.bl (!decide (x=.non))) H) (sX true):=by
 intro i S H x y d u v Q g h f e q
 cases f <;>simp only[sX,reduceCtorEq] at e
 cases e
 rw[tT h]
 exact⟨rfl,q _ _ bC.refl g (.bl _)⟩
def Oa{d:CmpOp}{r:R2}{o:sU}{f g:aV}(i:kg X (compareOp d) r)(h:jL (md X) r o)(l:PE X a (tD (md X) f))(j:PE X b (tD (md X) g))(k:behindInMarks d b=false):PE X (.Compare a [d] [b] pos) (tD (md X) (bu o f g)):=mM h (Hq i l j k)
noncomputable def aW(f:aV):ie:=λg S=>(f g S).bind λ(d,h)=>match d with
 |.bl k=>some (k,h)
 |_=>none
def rB{f:aV}{g:cv}{S h:aA}{k:Bool}(e:aW f g S=some (k,h)):f g S=some (.bl k,h):=by
 obtain⟨⟨d,j⟩,i,e⟩:=aq e
 dsimp only at e
 split at e
 ·cases e;exact i
 ·cases e
def Ms{r:R2}{o:sU}{f g:aV}(M:jL (md X) r o)(h:PT X e (DB (Kq r (tD (md X) f) (tD (md X) g)))):PT X e (tB (md X) (aW (bu o f g))):=Mv h λR H Q z=>by
 obtain⟨J,p,S,d,P,ok,e,q⟩:=z
 have e:=rB e
 obtain⟨⟨x,s⟩,F,e⟩:=aq e
 obtain⟨⟨y,K⟩,u,e⟩:=aq e
 obtain⟨N,C,e⟩:=aq e
 obtain⟨rfl,rfl⟩:=bN e
 refine⟨J,p,S,x,s,ok,F,λj v H1 t k G=>⟨j,p,s,y,K,ok.to t k,u,λm w H2 n i I=> ?_⟩⟩
 exact M i (G.ext n) I C λU H3 B l A=>by cases A;exact⟨_,rfl,q m H3 ((t.trans n).trans B) l⟩
def DW{d:CmpOp}{r:R2}{o:sU}{f g:aV}(i:kg X (compareOp d) r)(h:jL (md X) r o)(l:PE X a (tD (md X) f))(j:PE X b (tD (md X) g))(k:behindInMarks d b=false):PT X (.Compare a [d] [b] pos) (tB (md X) (aW (bu o f g))):=Ms h (u4 i l j k)
def zc(S:aA):D->Option Bool
 |.non=>some false
 |.bl b=>some b
 |.int i=>some (i !=0)
 |.str y=>if y.length<=sizeLine then some ((y.length:Int) !=0) else none
 |.tup d=>some (!d.isEmpty)
 | .ref k=>match S[k]? with
   |some (.lst d)=>some (!d.isEmpty)
   |some (.dct d)=>some (!d.isEmpty)
   |_=>none
 |.fn _=>none
def aO.isEmpty{M:Md}{ρ:List Addr}{H:Hp}{ds:List D}{vs:List V}(h:aO M ρ H ds vs):ds.isEmpty=vs.isEmpty:=by cases h <;>rfl
theorem bG.isEmpty{M:Md}{ρ:List Addr}{H:Hp}{ds:List (Key×D)}{vs:List (Key×V)}(h:bG M ρ H ds vs):ds.isEmpty=vs.isEmpty:=by
 cases ds with
 |nil=>cases h;rfl
 |cons p r=>obtain⟨v,t,e,_⟩:=h;subst e;rfl
def Hw{M:Md}{ρ:List Addr}{S:aA}{H:Hp}{d:D}{u:V}{k:Bool}(st:eV M ρ S H)(r:Rel M ρ H d u)(e:zc S d=some k):Iu M.K u H k:=by
 cases r with
 |non=>cases e;rfl
 |bl=>cases e;rfl
 |int=>cases e;rfl
 |str=>simp only[zc] at e;split at e <;>cases e;exact⟨by assumption,rfl⟩
 |tup h j=>cases e;exact .inr (.inl ⟨_,gr.of h,by rw[j.isEmpty]⟩)
 |fn=>cases e
 | ref h=>
   simp only[zc] at e
   split at e
   · cases e
     obtain⟨i,g,f⟩:=st.obj _ _ _ h (by assumption)
     exact .inl ⟨i,jC.of g,by rw[f.isEmpty]⟩
   · cases e
     obtain⟨i,g,f⟩:=st.obj _ _ _ h (by assumption)
     exact .inr (.inr ⟨i,g,by rw[f.isEmpty]⟩)
   · cases e
def jz(f:aV):ie:=λh S=>(f h S).bind λ(d,g)=>(zc g d).bind λk=>some (k,g)
def Oc{f:aV}(t:PE X a (tD (md X) f))(he:∀d,isTrue a X.env d=(do let v←d;standAt a.pos;holding [v] (truthy v)):=by intro _;rfl):PT X a (tB (md X) (jz f)):=Mv (Eo t he) λw H Q i=>by
 obtain⟨p,n,S,k,u,ok,e,q⟩:=i
 obtain⟨⟨x,o⟩,l,e⟩:=aq e
 obtain⟨r,h,e⟩:=aq e
 obtain⟨rfl,rfl⟩:=bN e
 exact⟨p,n,S,x,o,ok,l,λj v H1 s g m=>⟨r,Hw g m h,q _ _ s g⟩⟩
def vD(f:ie):ie:=λd S=>(f d S).bind λ(k,g)=>some (!k,g)
def N_{f:ie}(p:PT X a (tB (md X) f)):PT X (.UnaryOp .Not a pos) (tB (md X) (vD f)):=Mv (JX p) λs H Q g=>by
 obtain⟨m,j,S,k,r,ok,e,q⟩:=g
 obtain⟨⟨o,l⟩,i,e⟩:=aq e
 obtain⟨rfl,rfl⟩:=bN e
 exact⟨m,j,S,o,l,ok,i,λh H1 n d=>q _ _ n d⟩
def vA(f g:ie):ie:=λd S=>(f d S).bind λ(k,h)=>if k=true then g d h else some (false,h)
def KA(f g:ie):ie:=λd S=>(f d S).bind λ(k,h)=>if k=true then some (true,h) else g d h
def IM{f:ie}(d:PT X a (tB (md X) f)):PW X (.BoolOp .And [a] pos) (tB (md X) f):=FM d
def OB{f:ie}(d:PT X a (tB (md X) f)):PW X (.BoolOp .Or [a] pos) (tB (md X) f):=Iq d
def w_and{d:List Expr}{f g:ie}(x:PT X a (tB (md X) f))(p:PW X (.BoolOp .And (b::d) pos) (tB (md X) g)):PW X (.BoolOp .And (a::b::d) pos) (tB (md X) (vA f g)):=Ob (Ks x p) λy H Q o=>by
 obtain⟨v,m,S,k,r,ok,e,q⟩:=o
 obtain⟨⟨w,n⟩,s,e⟩:=aq e
 refine⟨v,m,S,w,n,ok,s,λj H1 l h=> ?_⟩
 dsimp only at e
 split at e
 ·rename_i c
  rw[Qhq c]
  exact⟨j,m,n,k,r,ok.to l h,e,λu H2 t i=>q _ _ (l.trans t) i⟩
 ·rename_i c
  rw[Quq c]
  obtain⟨rfl,rfl⟩:=bN e
  exact q _ _ l h
def w_or{d:List Expr}{f g:ie}(x:PT X a (tB (md X) f))(p:PW X (.BoolOp .Or (b::d) pos) (tB (md X) g)):PW X (.BoolOp .Or (a::b::d) pos) (tB (md X) (KA f g)):=Ob (Lg x p) λy H Q o=>by
 obtain⟨v,m,S,k,r,ok,e,q⟩:=o
 obtain⟨⟨w,n⟩,s,e⟩:=aq e
 refine⟨v,m,S,w,n,ok,s,λj H1 l h=> ?_⟩
 dsimp only at e
 split at e
 ·rename_i c
  rw[Qhq c]
  obtain⟨rfl,rfl⟩:=bN e
  exact q _ _ l h
 ·rename_i c
  rw[Quq c]
  exact⟨j,m,n,k,r,ok.to l h,e,λu H2 t i=>q _ _ (l.trans t) i⟩
def wy(f g:aV):aV:=λh S=>(f h S).bind λ(d,i)=>match d with
 |.bl true=>g h i
 |.bl false=>some (.bl false,i)
 |_=>none
def Gu(f:aV):aV:=λg S=>(f g S).bind λ(d,h)=>match d with
 |.bl k=>some (.bl (!k),h)
 |_=>none
def N9{op}{f:aV}(h:PE X a (tD (md X) f)):PE X (.BoolOp op [a] pos) (tD (md X) f):=JJ h
def OH{h:List Expr}{f g:aV}(B:PE X a (tD (md X) f))(r:PE X (.BoolOp .And (b::h) pos) (tD (md X) g)):PE X (.BoolOp .And (a::b::h) pos) (tD (md X) (wy f g)):=jD (Jo B r) λC H Q p=>by
 obtain⟨A,n,S,d,s,ok,e,q⟩:=p
 obtain⟨⟨x,o⟩,t,e⟩:=aq e
 refine⟨A,n,S,x,o,ok,t,λk v H1 l i m=> ?_⟩
 dsimp only at e
 split at e
 ·cases m
  refine⟨_,rfl,?_⟩
  rw[Qhq rfl]
  exact⟨k,n,o,d,s,ok.to l i,e,λz w H2 u j y=>q _ _ _ (l.trans u) j y⟩
 ·cases m
  refine⟨_,rfl,?_⟩
  rw[Quq Qtq]
  obtain⟨rfl,rfl⟩:=bN e
  exact q _ _ _ l i (.bl _)
 ·cases e
def ON{f:aV}(p:PE X a (tD (md X) f)):PE X (.UnaryOp .Not a pos) (tD (md X) (Gu f)):=jD (Kg p) λs H Q h=>by
 obtain⟨n,l,S,d,r,ok,e,q⟩:=h
 obtain⟨⟨x,m⟩,j,e⟩:=aq e
 refine⟨n,l,S,x,m,ok,j,λi v H1 o g k=> ?_⟩
 dsimp only at e
 split at e
 ·cases k
  obtain⟨rfl,rfl⟩:=bN e
  exact⟨_,rfl,q _ _ _ o g (.bl _)⟩
 ·cases e
def qV(c:ie)(f g:aV):aV:=λd S=>(c d S).bind λ(k,h)=>if k=true then f d h else g d h
def Me{h:ie}{f g:aV}(v:PT X c (tB (md X) h))(A:PE X a (tD (md X) f))(u:PE X b (tD (md X) g)):PE X (.IfExp c a b pos) (tD (md X) (qV h f g)):=jD (Fy v A u) λB H Q t=>by
 obtain⟨y,o,S,d,s,ok,e,q⟩:=t
 obtain⟨⟨z,r⟩,x,e⟩:=aq e
 refine⟨y,o,S,z,r,ok,x,λj H1 l k=> ?_⟩
 dsimp only at e
 split at e
 ·rename_i c
  rw[Qhq c]
  exact⟨j,o,r,d,s,ok.to l k,e,λp w H2 m i n=>q _ _ _ (l.trans m) i n⟩
 ·rename_i c
  rw[Quq c]
  exact⟨j,o,r,d,s,ok.to l k,e,λp w H2 m i n=>q _ _ _ (l.trans m) i n⟩
def sA:sU:=λS x y=>match x,y with
 |.tup xs,.int i=>mY xs i
 |.str z,.int i=>if z.length<=sizeLine then(mY z.cps.toList i).map λc=>.str ⟨#[c]⟩ else none
 | .ref k,.int i=>match S[k]? with
   |some (.lst xs)=>mY xs i
   |some (.frz xs)=>mY xs i
   |_=>none
 |_,_=>none
def G2{α f:Type}{xs:List α}{ys:List f}{i:Int}{x:α}(h:mY xs i=some x)(l:xs.length=ys.length):∃j:Nat,xs[j]?=some x/\∀y,ys[j]?=some y->mY ys i=some y:=by
 unfold mY at h
 obtain⟨j,e,h⟩:=aq h
 exact⟨j,h,λy d=>by unfold mY;rw[←l,e];exact d⟩
def aO.atI{M:Md}{ρ:List Addr}{H:Hp}{ds:List D}{vs:List V}{i:Int}{d:D}(h:aO M ρ H ds vs)(e:L2.mY ds i=some d):∃v,L2.mY vs i=some v/\Rel M ρ H d v:=by
 obtain⟨j,l,f⟩:=G2 e h.length
 obtain⟨v,k,g⟩:=h.get l
 exact⟨v,f v k,g⟩
def Ld{M:Md}:jL M (OM M.K) sA:=by
 intro r S H x y d u v Q i m n e q
 cases n <;>cases m <;>simp only[sA,reduceCtorEq] at e
 ·split at e
  ·obtain⟨c,g,f⟩:=oQm.mp e
   subst f
   exact .inr (.inr ⟨_,_,c,rfl,rfl,by assumption,g,q _ _ bC.refl i (.str _)⟩)
  ·cases e
 ·rename_i h l
  obtain⟨v,g,f⟩:=l.atI e
  exact .inr (.inl ⟨_,_,_,v,rfl,rfl,gr.of h,g,q _ _ bC.refl i f⟩)
 ·rename_i h
  split at e
  ·obtain⟨p,k,j⟩:=i.obj _ _ _ h (by assumption)
   obtain⟨v,g,f⟩:=j.atI e
   exact .inl ⟨_,_,_,v,rfl,rfl,jC.of k,g,q _ _ bC.refl i f⟩
  ·obtain⟨p,o,k,j⟩:=i.obj _ _ _ h (by assumption)
   obtain⟨v,g,f⟩:=j.atI e
   exact .inl ⟨_,_,_,v,rfl,rfl,.inl (.inr ⟨o,k⟩),g,q _ _ bC.refl i f⟩
  ·cases e
def IV{f g:aV}(i:PE X a (tD (md X) f))(h:PE X b (tD (md X) g))(d:AS b:=by intro _ _;rfl):PE X (.Subscript a b pos) (tD (md X) (bu sA f g)):=mM Ld (LX JH i h d)
end
inductive Tag where
 |tu|fr|st (k:Nat)|fz (k:Nat)
def zQ(M:Md)(ρ:List Addr)(H:Hp)(a:Addr)(vs:List V):Tag->Prop
 |.tu=>gr M.K H a vs
 |.fr=>H a=some (.lst vs)/\a∉ρ
 |.st k=>ρ[k]?=some a/\H a=some (.lst vs)
 |.fz k=>ρ[k]?=some a/\∃o,H a=some (.frz o (.lst vs))
abbrev eU:=cv->aA->Option ((List D×Tag)×aA)
def tQ(M:Md)(f:eU):TE:=λj H Q=>∃h d S i t e,Ok M h d S j H/\f d S=some ((i,t),e)∧
 ∀b a g c,bC h H b c->eV M b e c->zQ M b c a g t->aO M b c i g->Q (.ref a) c
def zQ.sq{M:Md}{ρ:List Addr}{H:Hp}{a:Addr}{vs:List V}{t:Tag}(h:zQ M ρ H a vs t):jC M.K H a vs\/gr M.K H a vs:=by
 cases t with
 |tu=>exact .inr h
 |fr=>exact .inl (jC.of h.1)
 |st k=>exact .inl (jC.of h.2)
 |fz k=>obtain⟨_,o,h⟩:=h;exact .inl (.inl (.inr ⟨o,h⟩))
def Tag.isL:Tag->Bool
 |.tu=>false
 |_=>true
def Tag.isM:Tag->Bool
 |.fr=>true
 |.st _=>true
 |_=>false
def zQ.sqL{M:Md}{ρ:List Addr}{H:Hp}{a:Addr}{vs:List V}{t:Tag}(h:zQ M ρ H a vs t)(c:t.isL=true):jC M.K H a vs:=by
 cases t with
 |tu=>cases c
 |fr=>exact jC.of h.1
 |st k=>exact jC.of h.2
 |fz k=>obtain⟨_,o,h⟩:=h;exact .inl (.inr ⟨o,h⟩)
def zQ.sqM{M:Md}{ρ:List Addr}{H:Hp}{a:Addr}{vs:List V}{t:Tag}(h:zQ M ρ H a vs t)(c:t.isM=true):H a=some (.lst vs):=by
 cases t with
 |tu=>cases c
 |fr=>exact h.1
 |st k=>exact h.2
 |fz k=>cases c
def zQ.sqT{M:Md}{ρ:List Addr}{H:Hp}{a:Addr}{vs:List V}{t:Tag}(h:zQ M ρ H a vs t)(c:t.isL=false):gr M.K H a vs:=by
 cases t with
 |tu=>exact h
 |fr=>cases c
 |st k=>cases c
 |fz k=>cases c
def Tag.stays(S:aA)(ds:List D):Tag->Prop
 |.st k=>S[k]?=some (.lst ds)
 |.fz k=>S[k]?=some (.frz ds)
 |_=>True
def gr.ext{K:PySem.W.Frag}{ρ b:List Addr}{H c:Hp}{a:Addr}{vs:List V}(e:bC ρ H b c)(h:gr K H a vs):gr K c a vs:=by
 rcases h with(h|⟨o,h⟩)|h
 ·exact .inl (.inl (e.keep _ _ h (.inr trivial)))
 ·exact .inl (.inr ⟨o,e.keep _ _ h (.inr trivial)⟩)
 ·exact .inr h
def zQ.to{M:Md}{ρ d:List Addr}{S:aA}{H i:Hp}{a:Addr}{vs:List V}{ds:List D}{t:Tag}(h:zQ M ρ H a vs t)(r:aO M ρ H ds vs)(e:bC ρ H d i)(st:eV M d S i)(c:t.stays S ds):∃b,zQ M d i a b t/\aO M d i ds b:=by
 cases t with
 |tu=>exact⟨vs,gr.ext e h,r.ext e⟩
 |fr=>exact⟨vs,⟨e.keep _ _ h.1 (.inl h.2),λm=>(e.new a m).elim h.2 λz=>by have f:=h.1;rw[z] at f;cases f⟩,r.ext e⟩
 | st k=>
   have g:=bU e.pre h.1
   obtain⟨b,f,j⟩:=st.obj k a _ g c
   exact⟨b,⟨g,f⟩,j⟩
 | fz k=>
   have g:=bU e.pre h.1
   obtain⟨b,o,f,j⟩:=st.obj k a _ g c
   exact⟨b,⟨g,o,f⟩,j⟩
section
variable{X:Cx}{a b c e:Expr}{pos:Pos}
def pB(f:fN):eU:=λd S=>(f d S).bind λ(h,g)=>some ((h,.fr),g)
def OT{f:fN}(h:PE X e (tL (md X) f)):PE X e (tQ (md X) (pB f)):=jD h λA H Q i=>by
 obtain⟨n,l,S,v,t,w,ok,e,q⟩:=i
 obtain⟨⟨d,m⟩,k,e⟩:=aq e
 obtain⟨g,rfl⟩:=bN e
 obtain⟨rfl,rfl⟩:=Prod.mk.inj g
 exact⟨n,l,S,d,m,ok,k,λr a z u x o y j s p=>q _ _ _ _ x o ⟨s,j⟩ p⟩
def rJ(S:aA):D->Option (List D×Tag)
 |.tup d=>some (d,.tu)
 | .ref k=>match S[k]? with
   |some (.lst d)=>some (d,.st k)
   |some (.frz d)=>some (d,.fz k)
   |_=>none
 |_=>none
def cA(f:aV):eU:=λh S=>(f h S).bind λ(d,g)=>(rJ g d).bind λp=>some (p,g)
def FK{M:Md}{ρ:List Addr}{S:aA}{H:Hp}{d:D}{v:V}{ds:List D}{t:Tag}(st:eV M ρ S H)(r:Rel M ρ H d v)(e:rJ S d=some (ds,t)):∃a vs,v=.ref a/\zQ M ρ H a vs t/\aO M ρ H ds vs:=by
 cases r with
 |tup h i=>simp only[rJ] at e;cases e;exact⟨_,_,rfl,gr.of h,i⟩
 | ref h=>
   simp only[rJ] at e
   split at e
   · rename_i q
     cases e
     obtain⟨vs,g,f⟩:=st.obj _ _ _ h q
     exact⟨_,vs,rfl,⟨h,g⟩,f⟩
   · rename_i q
     cases e
     obtain⟨vs,o,g,f⟩:=st.obj _ _ _ h q
     exact⟨_,vs,rfl,⟨h,o,g⟩,f⟩
   · cases e
 |_=>simp only[rJ,reduceCtorEq] at e
def Nd{f:aV}(h:PE X e (tD (md X) f)):PE X e (tQ (md X) (cA f)):=jD h λB H Q k=>by
 obtain⟨p,n,S,w,t,y,ok,e,q⟩:=k
 obtain⟨⟨d,o⟩,m,e⟩:=aq e
 obtain⟨⟨j,A⟩,i,e⟩:=aq e
 obtain⟨l,rfl⟩:=bN e
 obtain⟨rfl,rfl⟩:=Prod.mk.inj l
 refine⟨p,n,S,d,o,ok,m,λs v u x g r=> ?_⟩
 obtain⟨a,z,rfl,h1,h2⟩:=FK g r i
 exact q _ _ _ _ x g h1 h2
def AW{f:eU}{p:Pos}(s:Gl X "len")(m:X.mg "len"=none)(y:PE X a (tQ (md X) f))(j:starEach [a] X.env= [(false,eval a X.env)]:=by rfl):
  PE X (.Call (.Name "len" p) [a] [] pos) (tD (md X) λg S=>(f g S).bind λ(p,i)=>some (.int p.1.length,i)):=
 jD (iQ uM s m PySem.boot_len (bQ y dX j) (he:=j)) λB H Q l=>by
  obtain⟨u,g,S,d,A,ok,e,q⟩:=l
  obtain⟨⟨⟨n,t⟩,i⟩,o,e⟩:=aq e
  obtain⟨rfl,rfl⟩:=bN e
  refine⟨u,g,S,n,t,i,ok,o,λw a k z x v h r=>⟨a,k,rfl,h.sq,?_⟩⟩
  have:=q _ (.int k.length) _ x v (by rw[←r.length];exact .int _)
  exact this
def j0(f:eU):aV:=λd S=>(f d S).bind λ(p,g)=>some (.int p.1.length,g)
def tupQ(f:eU):aV:=λd S=>(f d S).bind λ(p,g)=>some (.tup p.1,g)
def MN{f:eU}{p:Pos}(s:Gl X "tuple")(n:X.mg "tuple"=none)(A:PE X a (tQ (md X) f))(i:starEach [a] X.env= [(false,eval a X.env)]:=by rfl)(z:∀g S ds t j,f g S=some ((ds,t),j)->t.isL=true):
  PE X (.Call (.Name "tuple" p) [a] [] pos) (tD (md X) (tupQ f)):=
 jD (CI tj s n (by rfl) (bQ A dX i) (he:=i)) λC H Q m=>by
  obtain⟨v,g,S,d,j,ok,e,q⟩:=m
  obtain⟨⟨⟨ds,t⟩,o⟩,k,e⟩:=aq e
  obtain⟨rfl,rfl⟩:=bN e
  refine⟨v,g,S,ds,t,o,ok,k,λy a u B x w h r=>⟨a,u,rfl,.inl ⟨h.sqL (z _ _ _ _ _ k),λl hl=> ?_⟩⟩⟩
  exact q _ _ _ (x.trans (bC.laid hl)) (w.lay hl) (.tup aU (r.ext (bC.laid hl)))
def MM{f:fN}:∀d S ds t g,pB f d S=some ((ds,t),g)->t.isL=true:=λd S ds t g e=>by
 obtain⟨⟨h,j⟩,i,e⟩:=aq e
 cases e
 rfl
def kJ(f:eU):eU:=λd S=>(f d S).bind λ(p,g)=>if p.2.isL=true then some (p,g) else none
def HW{f:eU}:∀d S ds t g,kJ f d S=some ((ds,t),g)->t.isL=true:=λd S ds t g e=>by
 obtain⟨⟨⟨h,i⟩,k⟩,j,e⟩:=aq e
 dsimp only at e
 split at e <;>cases e
 assumption
def Od{f:eU}(h:PE X e (tQ (md X) f)):PE X e (tQ (md X) (kJ f)):=jD h λo H Q j=>by
 obtain⟨n,k,S,r,t,p,ok,e,q⟩:=j
 obtain⟨⟨⟨d,g⟩,m⟩,l,e⟩:=aq e
 dsimp only at e
 split at e
 ·obtain⟨i,rfl⟩:=bN e
  obtain⟨rfl,rfl⟩:=Prod.mk.inj i
  exact⟨n,k,S,d,g,m,ok,l,q⟩
 ·cases e
def Jf:List D->Option (List Bool)
 | []=>some []
 |.bl b::r=>(Jf r).bind λd=>some (b::d)
 |_::_=>none
theorem Ef{M:Md}{ρ:List Addr}{H:Hp}:∀{ds:List D} {vs:List V} {bs:List Bool},aO M ρ H ds vs->Jf ds=some bs->vs=bs.map V.bl
 | [],_,_,h,e=>by cases h;cases e;rfl
 | d::ds,_,_,h,e=>by
   cases d with
   | bl b=>
     simp only[Jf] at e
     obtain⟨f,i,e⟩:=aq e
     cases e
     cases h with
     | cons h g=>
       cases h
       rw[Ef g i]
       rfl
   |_=>cases e
def Hc(f:eU):aV:=λg S=>(f g S).bind λ(p,h)=>if p.2.isL=true then(Jf p.1).bind λd=>some (.bl (d.all id),h) else none
def Ov{f:eU}{p:Pos}(m:X.calm=true)(v:Gl X "all")(k:X.mg "all"=none)(A:PE X a (tQ (md X) f))(g:starEach [a] X.env= [(false,eval a X.env)]:=by rfl):
  PE X (.Call (.Name "all" p) [a] [] pos) (tD (md X) (Hc f)):=
 jD (iQ (Cu m) v k (by rfl) (bQ A dX g) (he:=g)) λG H Q j=>by
  obtain⟨w,s,S,d,C,ok,e,q⟩:=j
  obtain⟨⟨⟨l,t⟩,u⟩,n,e⟩:=aq e
  dsimp only at e
  split at e
  ·rename_i c
   obtain⟨o,i,e⟩:=aq e
   obtain⟨rfl,rfl⟩:=bN e
   refine⟨w,s,S,l,t,u,ok,n,λz a F B x y h r=>⟨a,o,rfl,?_,q _ _ _ x y (.bl _)⟩⟩
   rw[←Ef r i]
   exact h.sqL c
  ·cases e
def rY(S:aA)(T:String):D->Option Bool
 |.non=>some (T=="NoneType")
 |.bl _=>some (T=="bool" ||T=="int")
 |.int _=>some (T=="int")
 |.str _=>some (T=="str")
 |.tup _=>some (T=="tuple")
 | .ref k=>match S[k]? with
   |some (.lst _)=>some (T=="list")
   |some (.frz _)=>some (T=="list")
   |some (.dct _)=>some (T=="dict")
   |_=>none
 |.fn _=>none
def Fl(K:PySem.W.Frag)(T:String):Prop:=(PySem.W.kitOne K (.type "NoneType") (.type T)=some (T=="NoneType"))/\(PySem.W.kitOne K (.type "bool") (.type T)=some (T=="bool" ||T=="int"))/\(PySem.W.kitOne K (.type "int") (.type T)=some (T=="int"))/\(PySem.W.kitOne K (.type "str") (.type T)=some (T=="str"))∧
 (PySem.W.kitOne K (.type "tuple") (.type T)=some (T=="tuple"))/\(PySem.W.kitOne K (.type "list") (.type T)=some (T=="list"))/\(PySem.W.kitOne K (.type "dict") (.type T)=some (T=="dict"))
def mr(T:String)(f:aV):aV:=λh S=>(f h S).bind λ(d,g)=>(rY g T d).bind λk=>some (.bl k,g)
def OL{T:String}{l:Expr}{f:aV}{p:Pos}(G:Fl X.K T)(P:Gl X "isinstance")(B:X.mg "isinstance"=none)(ha:PE X a (tD (md X) f))(Z:PE X l (tC (.ty T)))(t:starEach [a,l] X.env= [(false,eval a X.env),(false,eval l X.env)]:=by rfl)(j:starEach [l] X.env= [(false,eval l X.env)]:=by rfl):
  PE X (.Call (.Name "isinstance" p) [a,l] [] pos) (tD (md X) (mr T f)):=
 jD (iQ E6 P B boot_isinstance (bQ ha (bQ Z dX j) (by rw[t,j])) (he:=by rw[t,j]) (hpl:=by rw[j];rfl)) λσ H Q A=>by
  obtain⟨U,M,S,d,S',ok,e,q⟩:=A
  obtain⟨⟨F,N⟩,I,e⟩:=aq e
  obtain⟨k,i,e⟩:=aq e
  obtain⟨rfl,rfl⟩:=bN e
  obtain⟨y,W,J,R,C,w,z⟩:=G
  refine⟨U,M,S,F,N,ok,I,λY v H' x s r=> ?_⟩
  have g:=q _ _ _ x s (.bl _)
  cases r with
  |non=>cases i;exact⟨_,_,_,_,rfl,.non,y,g⟩
  |bl=>cases i;exact⟨_,_,_,_,rfl,.bl _,W,g⟩
  |int=>cases i;exact⟨_,_,_,_,rfl,.int _,J,g⟩
  |str=>cases i;exact⟨_,_,_,_,rfl,.str _,R,g⟩
  |tup h t=>cases i;exact⟨_,_,_,_,rfl,.tup h,C,g⟩
  |fn=>cases i
  | ref h=>
    simp only[rY] at i
    split at i
    · rename_i m;cases i;obtain⟨u,n,_⟩:=s.obj _ _ _ h m;exact⟨_,_,_,_,rfl,.lst n,w,g⟩
    · rename_i m;cases i;obtain⟨u,o,n,_⟩:=s.obj _ _ _ h m;exact⟨_,_,_,_,rfl,.frz n,w,g⟩
    · rename_i m;cases i;obtain⟨u,n,_⟩:=s.obj _ _ _ h m;exact⟨_,_,_,_,rfl,.dK n,z,g⟩
    · cases i
abbrev HM:=List D->Option D
def EM(M:Md)(r:List V->Hp->VK->Prop)(o:HM):Prop:=∀{f:List Addr} {S:aA} {H:Hp} {g:List D} {d:D} {h:List V} {Q:VK},eV M f S H->aO M f H g h->o g=some d->(∀w,Rel M f H d w->Q w H)->r h H Q
def FE(o:HM)(f:fN):aV:=λg S=>(f g S).bind λ(i,h)=>(o i).bind λd=>some (d,h)
def Nv{r:List V->Hp->VK->Prop}{o:HM}{f:fN}(v:EM (md X) r o)(h:PE X e (LB r (yu (md X) f))):PE X e (tD (md X) (FE o f)):=jD h λB H Q j=>by
 obtain⟨u,s,S,d,z,ok,e,q⟩:=j
 obtain⟨⟨k,t⟩,n,e⟩:=aq e
 obtain⟨y,m,e⟩:=aq e
 obtain⟨rfl,rfl⟩:=bN e
 exact⟨u,s,S,k,t,ok,n,λi A H1 x g p=>v g p m λw l=>q i w H1 x g l⟩
def EO:HM
 | [.int i]=>some (.int (if i<0 then -i else i))
 |_=>none
def maxD:HM
 | [.int i,.int j]=>some (.int (if j>i then j else i))
 |_=>none
def minD:HM
 | [.int i,.int j]=>some (.int (if j<i then j else i))
 |_=>none
def intOfD:HM
 | [.int i]=>some (.int i)
 | [.bl k]=>some (.int (if k then 1 else 0))
 |_=>none
def Nu{M:Md}:EM M (λxs H Q=>∃i,xs= [.int i]/\Q (.int (if i<0 then -i else i)) H) EO:=by
 intro j S H xs d h Q g r e q
 unfold EO at e
 split at e <;>cases e
 cases r with|cons r f=>cases f;cases r;exact⟨_,rfl,q _ (.int _)⟩
def NM{M:Md}:EM M (λxs H Q=>∃i j,xs= [.int i,.int j]/\Q (.int (if j>i then j else i)) H) maxD:=by
 intro l S H xs d k Q h r e q
 unfold maxD at e
 split at e <;>cases e
 cases r with|cons r f=>cases f with|cons g f=>cases f;cases r;cases g;exact⟨_,_,rfl,q _ (.int _)⟩
def M8{M:Md}:EM M (λxs H Q=>∃i j,xs= [.int i,.int j]/\Q (.int (if j<i then j else i)) H) minD:=by
 intro l S H xs d k Q h r e q
 unfold minD at e
 split at e <;>cases e
 cases r with|cons r f=>cases f with|cons g f=>cases f;cases r;cases g;exact⟨_,_,rfl,q _ (.int _)⟩
def LH{M:Md}:EM M (λxs H Q=>(∃i,xs= [.int i]/\Q (.int i) H)\/∃k,xs= [.bl k]/\Q (.int (if k then 1 else 0)) H) intOfD:=by
 intro j S H xs d h Q g r e q
 unfold intOfD at e
 split at e <;>cases e
 ·cases r with|cons r f=>cases f;cases r;exact .inl ⟨_,rfl,q _ (.int _)⟩
 ·cases r with|cons r f=>cases f;cases r;exact .inr ⟨_,rfl,q _ (.int _)⟩
def mX:List D->Option (List V)
 | []=>some []
 |d::r=>(u0 d).bind λv=>(mX r).bind λf=>some (v::f)
def rT{d:D}{v:V}(e:u0 d=some v):jr v=true:=by
 cases d <;>simp[u0] at e <;>subst e <;>rfl
theorem sr{M:Md}{ρ:List Addr}{H:Hp}:∀{ds:List D} {f vs:List V},aO M ρ H ds f->mX ds=some vs->f=vs/\vs.all jr=true
 |_,_,_,.nil,e=>by cases e;exact⟨rfl,rfl⟩
 | _,_,_,.cons h hs,e=>by
   obtain⟨v,d,e⟩:=aq e
   obtain⟨vs,i,e⟩:=aq e
   cases e
   obtain⟨j,g⟩:=sr hs i
   rw[k_ h d,j]
   exact⟨rfl,by rw[List.all_cons,rT d,g];rfl⟩
def GL(d:Bool)(f:aV)(g:eU):aV:=λh S=>(f h S).bind λ(x,k)=>(g h k).bind λ(p,j)=>(u0 x).bind λv=>(mX p.1).bind λi=>some (.bl (if d then !C9 v i else C9 v i),j)
def zL{f:aV}{t:TE}(g:∀d H Q,tD (md X) f d H Q->t d H Q)(h:PT X e (DB t)):PT X e (tB (md X) (aW f)):=Mv h λd H Q ⟨n,i,S,k,j,ok,e,q⟩=>
 g _ _ _ ⟨n,i,S,.bl k,j,ok,rB e,λm v o x l r=>by cases r;exact⟨k,rfl,q _ _ x l⟩⟩
def HP{h:Bool}{f:aV}{g:eU}:∀l H Q,tD (md X) (GL h f g) l H Q->Kq (NG X.K h) (tD (md X) f) (tQ (md X) g) l H Q:=λl H Q w=>by
 obtain⟨J,n,S,d,R,ok,e,q⟩:=w
 obtain⟨⟨x,o⟩,A,e⟩:=aq e
 obtain⟨⟨⟨y,t⟩,M⟩,s,e⟩:=aq e
 obtain⟨v,m,e⟩:=aq e
 obtain⟨U,C,e⟩:=aq e
 obtain⟨rfl,rfl⟩:=bN e
 refine⟨J,n,S,x,o,ok,A,λj u H1 p k B=>⟨j,n,o,y,t,M,ok.to p k,s,λI a P H2 F i r G=> ?_⟩⟩
 cases k_ B m
 obtain⟨N,z⟩:=sr G C
 subst N
 exact⟨a,P,rfl,r.sq,rT m,z,q _ _ _ (p.trans F) i (.bl _)⟩
def OW{f:aV}{g:eU}(i:PE X a (tD (md X) f))(d:PE X b (tQ (md X) g))(h:behindInMarks .In b=false:=by rfl):PT X (.Compare a [.In] [b] pos) (tB (md X) (aW (GL false f g))):=zL HP (u4 Cc i d h)
def MF{f:aV}{g:eU}(i:PE X a (tD (md X) f))(d:PE X b (tQ (md X) g))(h:behindInMarks .NotIn b=false:=by rfl):PT X (.Compare a [.NotIn] [b] pos) (tB (md X) (aW (GL true f g))):=zL HP (u4 vg i d h)
end
inductive Out where
 |nx (Γ:cv) (S:aA)|bk (Γ:cv) (S:aA)|ct (Γ:cv) (S:aA)|rt (d:D) (S:aA)|rl (ds:List D) (S:aA)
abbrev cD:=cv->aA->Option Out
def wC(M:Md)(ρ:List Addr)(H:Hp)(D:Ends):Out->Prop
 |.nx f g=>∀b e c,bC ρ H b c->Ok M b f g e c->D.nx e c
 |.bk f g=>∀b e c,bC ρ H b c->Ok M b f g e c->D.bk e c
 |.ct f g=>∀b e c,bC ρ H b c->Ok M b f g e c->D.ct e c
 |.rt d g=>∀b v c,bC ρ H b c->eV M b g c->Rel M b c d v->D.rt v c
 |.rl i g=>∀b a h c,bC ρ H b c->eV M b g c->H a=none->a∉b->c a=some (.lst h)->aO M b c i h->D.rt (.ref a) c
def wC.to{M:Md}{ρ d:List Addr}{H H1:Hp}{D:Ends}{o:Out}(h:wC M ρ H D o)(e:bC ρ H d H1):wC M d H1 D o:=by
 cases o with
 |nx=>exact λb c f x ok=>h _ _ _ (e.trans x) ok
 |bk=>exact λb c f x ok=>h _ _ _ (e.trans x) ok
 |ct=>exact λb c f x ok=>h _ _ _ (e.trans x) ok
 |rt=>exact λb v f x g r=>h _ _ _ (e.trans x) g r
 |rl=>exact λb a l f x g j i k r=>h _ _ _ _ (e.trans x) g (e.grow _ j) i k r
def tS(M:Md)(g:cD):TS:=λD c H=>∃b a S o,Ok M b a S c H/\g a S=some o/\wC M b H D o
section
variable{X:Cx}{a b c e:Expr}{pos:Pos}{st:Stmt}{rest body other:List Stmt}
def iV:cD:=λd S=>some (.nx d S)
def KR:pH X [] (tS (md X) iV):=Mi G3 λD f H ⟨g,d,S,o,ok,e,q⟩=>by cases e;exact q _ _ _ bC.refl ok
noncomputable def aE(f g:cD):cD:=λh S=>(f h S).bind λo=>match o with
 |.nx d i=>g d i
 |o=>some o
def hX{f g:cD}(s:PS X st (tS (md X) f))(k:pH X rest (tS (md X) g)):pH X (st::rest) (tS (md X) (aE f g)):=Mi (ET s k) λD v H l=>by
 obtain⟨r,n,S,o,ok,e,q⟩:=l
 obtain⟨j,m,e⟩:=aq e
 refine⟨r,n,S,j,ok,m,?_⟩
 cases j with
 |nx h p=>exact λd u H1 t i=>⟨d,h,p,o,i,e,q.to t⟩
 |bk=>cases e;exact q
 |ct=>cases e;exact q
 |rt=>cases e;exact q
 |rl=>cases e;exact q
def ya{f:cD}(d:PS X st (tS (md X) f)):pH X [st] (tS (md X) f):=Hv d
def never:cD:=λ_ _=>none
def MH:PS X st (tS (md X) never):=BF D6 λD f H ⟨g,d,S,o,ok,e,q⟩=>by cases e
def AV(f:aV):cD:=λd S=>(f d S).bind λ(_,g)=>some (.nx d g)
def z9{f:aV}(h:PE X e (tD (md X) f))(i:swapsWith e none pos.line X.env=pure false:=by rfl):PS X (.Expr e pos) (tS (md X) (AV f)):=BF (G5 h i) λD s H g=>by
 obtain⟨m,k,S,o,ok,e,q⟩:=g
 obtain⟨⟨d,l⟩,j,e⟩:=aq e
 cases e
 exact⟨m,k,S,d,l,ok,j,λn v p x st r=>q _ _ _ x (ok.to x st)⟩
noncomputable def cQ(f:aV):cD:=λg S=>(f g S).bind λ(d,h)=>some (.rt d h)
def Ik{f:aV}(h:PE X e (tD (md X) f)):PS X (.Return (some e) pos) (tS (md X) (cQ f)):=BF (EK h) λD m H g=>by
 obtain⟨l,i,S,o,ok,e,q⟩:=g
 obtain⟨⟨d,k⟩,j,e⟩:=aq e
 cases e
 exact⟨l,i,S,d,k,ok,j,q⟩
noncomputable def HG(f:fN):cD:=λd S=>(f d S).bind λ(h,g)=>some (.rl h g)
def NQ{f:fN}(h:PE X e (tL (md X) f)):PS X (.Return (some e) pos) (tS (md X) (HG f)):=BF (EK h) λD m H g=>by
 obtain⟨l,i,S,o,ok,e,q⟩:=g
 obtain⟨⟨d,k⟩,j,e⟩:=aq e
 cases e
 exact⟨l,i,S,d,k,ok,j,q⟩
def ig(c:ie)(f g:cD):cD:=λd S=>(c d S).bind λ(k,h)=>if k=true then f d h else g d h
def NB{h:ie}{f g:cD}(r:PT X c (tB (md X) h))(u:pH X body (tS (md X) f))(p:pH X other (tS (md X) g)):PS X (.If c body other pos) (tS (md X) (ig h f g)):=BF (Mf r u p) λD v H n=>by
 obtain⟨t,l,S,o,ok,e,q⟩:=n
 obtain⟨⟨k,m⟩,s,e⟩:=aq e
 refine⟨t,l,S,k,m,ok,s,λd H1 j i=> ?_⟩
 dsimp only at e
 split at e
 ·rename_i c
  rw[Qhq c]
  exact⟨d,l,m,o,ok.to j i,e,q.to j⟩
 ·rename_i c
  rw[Quq c]
  exact⟨d,l,m,o,ok.to j i,e,q.to j⟩
abbrev kM:=D->cv->aA->Option (cv×aA)
abbrev pS:=List D->cv->aA->Option (cv×aA)
def tG(M:Md)(g:kM):TG:=λv n H Q=>∃k l S d f m,Ok M k l S n H/\Rel M k H d v/\g d l S=some (f,m)/\∀i h j,bC k H i j->Ok M i f m h j->Q h j
def MG(M:Md)(g:pS):F6:=λo n H Q=>∃j k S m d l,Ok M j k S n H/\aO M j H m o/\g m k S=some (d,l)/\∀h f i,bC j H h i->Ok M h d l f i->Q f i
def NZ{t t':TG}(h:PG X e t)(w:∀v f H Q,t' v f H Q->t v f H Q):PG X e t':=λd s f H v u Q I r q=>h d s f H v u Q I r (w _ _ _ _ q)
def L6{es:List Expr}{t t':F6}(h:FG X es t)(w:∀v f H Q,t' v f H Q->t v f H Q):FG X es t':=λd s f H v u Q I r q=>h d s f H v u Q I r (w _ _ _ _ q)
def cb(i:Nat):kM:=λd f S=>some (f.set i (some d),S)
def DK{i:Nat}(h:PG X e (my i)):PG X e (tG (md X) (cb i)):=NZ h λv k H Q g=>by
 obtain⟨m,j,S,d,f,l,ok,r,e,q⟩:=g
 cases e
 exact q _ _ _ bC.refl ⟨ok.en.set r,ok.st⟩
def dF:pS:=λd f S=>match d with
 | []=>some (f,S)
 |_=>none
def aK(f:kM)(g:pS):pS:=λk i S=>match k with
 |d::r=>(f d i S).bind λ(h,j)=>g r h j
 | []=>none
def Jk:FG X [] (MG (md X) dF):=L6 HB λj h H Q f=>by
 obtain⟨k,g,S,l,d,i,ok,r,e,q⟩:=f
 cases r with
 |nil=>cases e;exact⟨rfl,q _ _ _ bC.refl ok⟩
 |cons=>cases e
def AF{es:List Expr}{f:kM}{g:pS}(z:PG X e (tG (md X) f))(n:FG X es (MG (md X) g))(s:(assignEach (e::es) X.env).map (·.2)=assign e X.env::(assignEach es X.env).map (·.2):=by rfl):FG X (e::es) (MG (md X) (aK f g)):=
 L6 (Fp z n s) λF G H Q o=>by
  obtain⟨y,w,S,C,h,t,ok,r,e,q⟩:=o
  cases r with
  |nil=>cases e
  | cons r A=>
    obtain⟨⟨d,l⟩,u,e⟩:=aq e
    refine⟨_,_,rfl,y,w,S,_,d,l,ok,r,u,λi B H1 m k=>⟨i,d,l,_,h,t,k,A.ext m,e,λx p H2 v j=>q _ _ _ (m.trans v) j⟩⟩
def jG(g:pS):kM:=λd f S=>match d with
 |.tup h=>g h f S
 |_=>none
def nG(n:Nat)(g:pS):pS:=λd f S=>if d.length=n then g d f S else none
def Lf{es:List Expr}{k:Nat}{g:pS}{n:Nat}(l:X.calm=true)(h:FG X es (MG (md X) g))(s:(assignEach es X.env).length=n:=by rfl)(i:(assignEach es X.env).findIdx? (·.1)=none:=by rfl):
  PG X (.Tuple es k pos) (tG (md X) (jG (nG n g))):=NZ (Kd l h s i) λv t H Q ⟨p,o,S,d,f,m,ok,r,e,q⟩=>by
 cases r with
 | tup h j=>
   simp only[jG,nG] at e
   split at e
   · rename_i c
     exact⟨_,_,rfl,gr.of h,by rw[←j.length];exact c,p,o,S,_,f,m,ok,j,e,q⟩
   · cases e
 |_=>cases e
def oZ(f:aV)(g:kM):cD:=λi S=>(f i S).bind λ(d,k)=>(g d i k).bind λ(h,j)=>some (.nx h j)
def K_{f:aV}{g:kM}:∀D l H,tS (md X) (oZ f g) D l H->CF (tD (md X) f) (tG (md X) g) D l H:=λD l H s=>by
 obtain⟨z,m,S,o,ok,e,q⟩:=s
 obtain⟨⟨d,n⟩,u,e⟩:=aq e
 obtain⟨⟨k,A⟩,r,e⟩:=aq e
 cases e
 exact⟨z,m,S,d,n,ok,u,λh v H1 p j w=>⟨h,m,n,d,k,A,ok.to p j,w,r,λy t H2 x i=>q _ _ _ (p.trans x) i⟩⟩
def LO{d:Expr}{f:aV}{g:kM}(he:PE X e (tD (md X) f))(k:PG X d (tG (md X) g))(h:swapsWithSole [d] e pos.line X.env=pure false:=by rfl)(i:swappedStores [d] e X.env=pure none:=by rfl)
  (j:(assignEach [d] X.env).map (·.2)= [assign d X.env]:=by rfl):PS X (.Assign [d] e pos) (tS (md X) (oZ f g)):=BF (Ki he k h i j) K_
noncomputable def aX(i:Nat)(f:aV):cD:=λg S=>(f g S).bind λ(d,h)=>some (.nx (g.set i (some d)) h)
def Ln{i:Nat}{f:aV}(h:PS X st (CF (tD (md X) f) (my i))):PS X st (tS (md X) (aX i f)):=BF h λD t H k=>by
 obtain⟨s,p,S,o,ok,e,q⟩:=k
 obtain⟨⟨d,r⟩,m,e⟩:=aq e
 cases e
 exact⟨s,p,S,d,r,ok,m,λl v H1 j g n=>q _ _ _ j ⟨(ok.en.ext j).set n,g⟩⟩
abbrev tE:=cv->aA->Option ((List D×(aA->Prop))×aA)
def Walks(M:Md)(J:It)(ρ:List Addr)(H:Hp)(ds:List D)(W:aA->Prop):Prop:=∀(i:Nat) (f:List Addr) (j:aA) (h:Hp),bC ρ H f h->eV M f j h->W j→
 (∀d,ds[i]?=some d->J.go i h/\∀x g,J.yld i h x g->bC f h f g/\eV M f j g/\Rel M f g d x)/\(i=ds.length->J.stop i h)
def tI(M:Md)(f:tE):TI:=λl H R=>∃j h S k W i,Ok M j h S l H/\f h S=some ((k,W),i)/\∀d J g,bC j H d g->eV M d i g->Walks M J d g k W->R J g
def MC{g:Expr}{t t':TI}(h:PI X g e t)(w:∀f H R,t' f H R->t f H R):PI X g e t':=λd s f H R I q=>h d s f H R I (w _ _ _ q)
def Jl{u l:Expr}{r:TE}(hl:PE X l r):PI X u l (λn H R=>r n H λx H1=>∃a,x=.ref a/\((∃xs,jC X.K H1 a xs)/\R (Ow X.K a) H1\/(∃xs,gr X.K H1 a xs)/\R (Oq X.K a) H1)):=by
 intro i s n H R I h
 refine bW (hl i s n H _ I h) λv d t=> ?_
 obtain⟨x,H1,f,w,k⟩:=t
 obtain⟨a,e,k⟩:=k
 subst e
 cases w
 rcases k with⟨⟨xs,m⟩,q⟩|⟨⟨xs,m⟩,q⟩
 ·obtain⟨g,y,p,z⟩:=f.list m
  refine wpAny_pyIter_list p.isList ?_
  refine⟨d.heap.objs.size,[d.heap.objs.size],_,_,H1,rfl,f.kept (t':=d.toks) λb o e=>Qcq _ e,BR a _,⟨_,Qrq _ rfl,rfl,rfl⟩,λb j=> ?_,q⟩
  have e:b=d.heap.objs.size:=by simpa using j
  subst e
  exact f.fpOk (Qmq _) (f.hok.fresh (Qmq _))
 ·obtain⟨g,y,p,z⟩:=f.tuple m
  refine wpAny_pyIter_tuple (show d.heap.IsTuple a g.toArray from p) ?_
  refine⟨d.heap.objs.size,[d.heap.objs.size],_,_,H1,rfl,f.kept (t':=d.toks) λb o e=>Qcq _ e,zV a _,⟨_,Qrq _ rfl,rfl,rfl⟩,λb j=> ?_,q⟩
  have e:b=d.heap.objs.size:=by simpa using j
  subst e
  exact f.fpOk (Qmq _) (f.hok.fresh (Qmq _))
def sT(f:eU):tE:=λd S=>(f d S).bind λ(p,h)=>some ((p.1,λg=>p.2.stays g p.1),h)
def KO{J l:Expr}{f:eU}(hl:PE X l (tQ (md X) f)):PI X J l (tI (md X) (sT f)):=MC (Jl hl) λσ H R G=>by
 obtain⟨N,K,S,Y,W,Z,ok,e,q⟩:=G
 obtain⟨⟨⟨p,t⟩,M⟩,I,e⟩:=aq e
 obtain⟨F,rfl⟩:=bN e
 obtain⟨rfl,rfl⟩:=Prod.mk.inj F
 refine⟨N,K,S,p,t,M,ok,I,λQ a C U x st h r=>⟨a,rfl,?_⟩⟩
 cases c:t.isL with
 | true=>
   refine .inl ⟨⟨C,h.sqL c⟩,q _ _ _ x st λi y P H2 u j w=> ?_⟩
   obtain⟨g,B,o⟩:=h.to r u j w
   have k:=B.sqL c
   refine⟨λd s=> ?_,λA=>⟨g,k,by rw[A,o.length];exact Qmq _⟩⟩
   obtain⟨v,n,z⟩:=o.get s
   refine⟨⟨g,v,k,n⟩,λx H3 m=> ?_⟩
   obtain⟨rfl,m⟩:=m
   have:=m g k
   rw[n] at this
   cases this
   exact⟨bC.refl,j,z⟩
 | false=>
   refine .inr ⟨⟨C,h.sqT c⟩,q _ _ _ x st λi y P H2 u j w=> ?_⟩
   obtain⟨g,B,o⟩:=h.to r u j w
   have k:=B.sqT c
   refine⟨λd s=> ?_,λA=>⟨g,k,by rw[A,o.length];exact Qmq _⟩⟩
   obtain⟨v,n,z⟩:=o.get s
   refine⟨⟨g,v,k,n⟩,λx H3 m=> ?_⟩
   obtain⟨rfl,m⟩:=m
   have:=m g k
   rw[n] at this
   cases this
   exact⟨bC.refl,j,z⟩
def pK(lo hi:Int):List D:=(List.range (hi-lo).toNat).map λ(i:Nat)=>D.int (lo+(i:Int))
def Ce(f:aV):tE:=λg S=>(f g S).bind λ(d,h)=>match d with
 |.int j=>if -(2^62)<=j/\j<2^62 then some ((pK 0 j,λ_=>True),h) else none
 |_=>none
def C3{M:Md}{ρ:List Addr}{H:Hp}{lo hi:Int}:Walks M (MP lo (hi-lo).toNat) ρ H (pK lo hi) (λ_=>True):=λi l o H2 n f w=>by
 unfold pK
 refine⟨λd g=> ?_,λhi=>by rw[lQm,QVq] at hi;exact Nat.le_of_eq hi.symm⟩
 rw[gQm] at g
 obtain⟨k,j,rfl⟩:=oQm.mp g
 have hl:=(gQs.mp j)
 obtain⟨hl,h⟩:=hl
 rw[List.getElem_range] at h
 subst h
 rw[QVq] at hl
 refine⟨hl,λx H3 m=> ?_⟩
 obtain⟨rfl,rfl⟩:=m
 exact⟨bC.refl,f,.int _⟩
def NF{s a:Expr}{f:aV}{p:Pos}(v:Gl X "range")(m:X.mg "range"=none)(y:PE X a (tD (md X) f))(h:starEach [a] X.env= [(false,eval a X.env)]:=by rfl):PI X s (.Call (.Name "range" p) [a] [] pos) (tI (md X) (Ce f)):=
 MC (Ca v m (cY y kW h) h) λC H R l=>by
  obtain⟨ρ,t,S,z,W,A,ok,e,q⟩:=l
  obtain⟨⟨d,u⟩,o,e⟩:=aq e
  dsimp only at e
  split at e
  ·rename_i j
   split at e
   ·rename_i i
    obtain⟨k,rfl⟩:=bN e
    obtain⟨rfl,rfl⟩:=Prod.mk.inj k
    refine⟨ρ,t,S,[.int j],u,ok,by unfold ar au;rw[o];rfl,λg B n x st r=> ?_⟩
    cases r with
    | cons r w=>
      cases w
      cases r
      refine⟨j,rfl,i.1,i.2,q _ _ _ x st ?_⟩
      have:=C3 (M:=md X) (ρ:=g) (H:=n) (lo:=0) (hi:=j)
      rw[Int.sub_zero] at this
      exact this
   ·cases e
  ·cases e
open Classical in
def forL(g:kM)(b:cD)(W:aA->Prop):List D->cv->aA->Option Out
 | [],Γ,S=>if W S then some (.nx Γ S) else none
 |d ::ds,Γ,S=>if W S then(g d Γ S).bind λ(i,j)=>(b i j).bind λo=>match o with
    |.nx f h=>forL g b W ds f h
    |.ct f h=>forL g b W ds f h
    |.bk f h=>some (.nx f h)
    |.rt x h=>some (.rt x h)
    |.rl x h=>some (.rl x h)
  else none
def rq(i:tE)(g:kM)(b:cD):cD:=λd S=>(i d S).bind λ(p,f)=>forL g b p.2 p.1 d f
def Mg{U k:Expr}{i:tE}{g:kM}{f:cD}(hp:PassesOwn (model X.prog X.w) X.A X.env X.xe)(hc:X.calm=true)(hi:PI X U k (tI (md X) i))(hg:PG X U (tG (md X) g))(hb:pH X body (tS (md X) f))
  (hs:∀x,foldedSetIterable k X.env x=pure x:=by intro _;rfl):PS X (.For U k body [] pos) (tS (md X) (rq i g f)):=BF (JG hp hc hi hg hb hs) λD σ H ⟨ρ,Γ,S,o,ok,e,q⟩=>by
 obtain⟨⟨⟨h,W⟩,S1⟩,e1,e⟩:=aq e
 refine⟨ρ,Γ,S,h,W,S1,ok,e1,λv J H1 x1 P wk=> ?_⟩
 have N:=q.to x1
 have R:=ok.to x1 P
 refine⟨λi m s y=>m=h.length-i/\i<=h.length/\∃d r z,bC v H1 d y/\Ok (md X) d r z s y/\forL g f W (h.drop i) r z=some o,⟨h.length,by simp,Nat.zero_le _,v,Γ,S1,bC.refl,R,e⟩,?_⟩
 rintro i m a2 H2 ⟨rfl,hi,d,r,z,x2,ok2,e2⟩
 by_cases u:i<h.length
 ·have hd:h[i]?=some h[i]:=gQe u
  rw[QWq u] at e2
  unfold forL at e2
  split at e2
  ·rename_i w
   obtain⟨w1,w2⟩:=wk i d z H2 x2 ok2.st w
   obtain⟨go,Q⟩:=w1 _ hd
   refine .inr ⟨go,λs y=>∃p l M,bC v H1 p y/\Ok (md X) p l M s y/\forL g f W (h.drop (i+1)) l M=some o,λs y ⟨p,l,M,h1,h2,h3⟩=>⟨h.length-(i+1),by omega,rfl,u,p,l,M,h1,h2,h3⟩,λx H3 hy=> ?_⟩
   obtain⟨x3,Y,r3⟩:=Q x H3 hy
   obtain⟨⟨F,S4⟩,e4,e5⟩:=aq e2
   refine⟨d,r,z,_,F,S4,ok2.to x3 Y,r3,e4,λZ a1 H4 x4 a0=> ?_⟩
   obtain⟨o5,e6,C⟩:=aq e5
   have I:=(x2.trans x3).trans x4
   refine⟨Z,F,S4,o5,a0,e6,?_⟩
   cases o5 with
   |nx n B=>exact λt G H6 K j=>⟨t,n,B,I.trans K,j,C⟩
   |ct n B=>exact λt G H6 K j=>⟨t,n,B,I.trans K,j,C⟩
   |bk n B=>cases C;exact λt G H6 K j=>N _ _ _ (I.trans K) j
   |rt d6 B=>cases C;exact N.to I
   |rl d6 B=>cases C;exact N.to I
  ·cases e2
 ·have e3:i=h.length:=by omega
  subst e3
  rw[List.drop_length] at e2
  unfold forL at e2
  split at e2
  ·rename_i w
   cases e2
   obtain⟨w1,w2⟩:=wk h.length d z H2 x2 ok2.st w
   exact .inl ⟨w2 rfl,N _ _ _ x2 ok2⟩
  ·cases e2
end
section
variable{M:Md}{ρ:List Addr}{H:Hp}{b:Addr}{us ws:List V}
mutual
theorem Rel.off(a:H b=some (.lst us)):∀{d:D} {v:V},Rel M ρ H d v->Rel M ρ (upd H b (.lst ws)) d v
 |_,_,.non=>.non
 |_,_,.bl x=>.bl x
 |_,_,.int i=>.int i
 |_,_,.str x=>.str x
 |_,_,.tup h hs=>.tup (by rw[aN (Ec h a (by intro z;cases z))];exact h) (aO.off a hs)
 |_,_,.ref h=>.ref h
 |_,_,.fn h=>.fn h
theorem aO.off(a:H b=some (.lst us)):∀{ds:List D} {vs:List V},aO M ρ H ds vs->aO M ρ (upd H b (.lst ws)) ds vs
 |_,_,.nil=>.nil
 |_,_,.cons h hs=>.cons (Rel.off a h) (aO.off a hs)
end
theorem eV.off{S:aA}(st:eV M ρ S H)(e:H b=some (.lst us))(n:b∉ρ):eV M ρ S (upd H b (.lst ws)):=⟨st.len,st.nd,λk a o i j=>by
 have q:=st.obj k a o i j
 have f:a≠b:=λz=>n (z▸mQg i)
 cases o with
 |lst h=>obtain⟨g,c,d⟩:=q;exact⟨g,by rw[aN f];exact c,d.off e⟩
 |frz h=>obtain⟨g,o,c,d⟩:=q;exact⟨g,o,by rw[aN f];exact c,d.off e⟩
 |dct l=>obtain⟨p,c,d⟩:=q;exact⟨p,by rw[aN f];exact c,d.imp λ_ _ r=>r.off e⟩
 |sett h=>obtain⟨s,m,c,d,t⟩:=q;exact⟨s,m,by rw[aN f];exact c,d.off e,t⟩⟩
def En.off{a:cv}{c:L2.St}(h:En M ρ H a c)(g:H b=some (.lst us)):En M ρ (upd H b (.lst ws)) a c:=⟨h.len,λi d q=>by obtain⟨v,f,e⟩:=h.get i d q;exact⟨v,f,e.off g⟩⟩
def bC.off{d:List Addr}{f:Hp}(e:bC d f ρ H)(g:f b=none)(u:HO):bC d f ρ (upd H b u):=⟨e.pre,e.new,λa o h c=>by rw[aN (dS h g)];exact e.keep a o h c,λa h=>by
 by_cases z:a=b
 ·subst z;exact g
 ·rw[aN z] at h;exact e.grow a h⟩
end
def mV(js:List (Option Nat))(a:cv):cv:=js.map λo=>o.bind λj=>a.getD j none
def En.sig{M:Md}{ρ:List Addr}{H:Hp}{b:cv}{c:L2.St}(js:List (Option Nat))(h:En M ρ H b c):En M ρ H (mV js b) (jj js c) where
 len:=by unfold mV jj;rw[lQm,lQm]
 get:=λi d q=>by
  unfold mV at q
  unfold jj
  rw[gQm] at q⊢
  cases e:js[i]? with
  |none=>rw[e] at q;cases q
  | some o=>
    rw[e] at q
    cases o with
    |none=>cases q
    | some j=>
      have a:b.getD j none=some d:=QdQ q
      have k:b[j]?=some (some d):=by
        rw[Qlq] at a
        cases z:b[j]? with
        |none=>rw[z] at a;cases a
        |some y=>rw[z] at a;exact congrArg some a
      obtain⟨v,g,f⟩:=h.get j d k
      refine⟨v,?_,f⟩
      show some (c.getD j none)=some (some v)
      rw[Qlq,g]
      rfl
open Classical in
def kQ(g:kM)(t:ie)(f:aV)(W:aA->Prop):List D->cv->aA->List D->Option (List D×aA)
 | [],Γ,S,acc=>if W S then some (acc,S) else none
 |d ::ds,Γ,S,acc=>if W S then(g d Γ S).bind λ(a,c)=>(t a c).bind λ(k,b)=>
    if k=true then(f a b).bind λ(y,e)=>if acc.length<sizeLine then kQ g t f W ds a e (acc++ [y]) else none
    else kQ g t f W ds a b acc
  else none
def du(js:List (Option Nat))(i:tE)(g:kM)(t:ie)(f:aV):fN:=λa S=>(i a S).bind λ(p,b)=>kQ g t f p.2 p.1 (mV js a) b []
section
variable{M:Md}
def Dr{js:List (Option Nat)}{i:tE}{g:kM}{t:ie}{f:aV}:∀Y H Q,tL M (du js i g t f) Y H Q->DZ js (tI M i) (tG M g) (tB M t) (tD M f) Y H Q:=λY H Q qq=>by
 obtain⟨ρ,Γ,S,rs,S',ok,e,q⟩:=qq
 obtain⟨⟨⟨j,W⟩,S1⟩,e1,e⟩:=aq e
 refine⟨ρ,Γ,S,j,W,S1,ok,e1,λn J H1 x1 P wk D N=> ?_⟩
 have n1:D∉n:=c8 x1 P N
 have a3:Ok M n (mV js Γ) S1 (jj js Y) (upd H1 D (.lst [])):=⟨((ok.en.ext x1).ext (bC.laid N)).sig js,P.lay N⟩
 refine⟨λi m u d=>m=j.length-i/\i<=j.length/\∃c r K a h,bC n H1 c d/\Ok M c r K u d/\D∉c/\d D=some (.lst h)/\aO M c d a h/\kQ g t f W (j.drop i) r K a=some (rs,S'),
  ⟨j.length,by simp,Nat.zero_le _,n,_,S1,[],[],bC.laid N,a3,n1,aU,.nil,e⟩,?_⟩
 rintro i m a8 H2 ⟨rfl,hi,c,r,K,a,h,x2,ok2,n2,hD2,racc,e2⟩
 by_cases F:i<j.length
 ·have hd:j[i]?=some j[i]:=gQe F
  rw[QWq F] at e2
  unfold kQ at e2
  split at e2
  ·rename_i w
   obtain⟨w1,w2⟩:=wk i c K H2 x2 ok2.st w
   obtain⟨go,a2⟩:=w1 _ hd
   refine .inr ⟨go,λu d=>∃b o B a h,bC n H1 b d/\Ok M b o B u d/\D∉b/\d D=some (.lst h)/\aO M b d a h/\kQ g t f W (j.drop (i+1)) o B a=some (rs,S'),
    λu d ⟨b,o,B,a,h,h1,h2,h3,h4,h5,h6⟩=>⟨j.length-(i+1),by omega,rfl,F,b,o,B,a,h,h1,h2,h3,h4,h5,h6⟩,λx H3 hy=> ?_⟩
   obtain⟨x3,a4,r3⟩:=a2 x H3 hy
   obtain⟨⟨l,S4⟩,e4,e5⟩:=aq e2
   refine⟨c,r,K,_,l,S4,ok2.to x3 a4,r3,e4,λa5 a7 H4 x4 A=> ?_⟩
   obtain⟨⟨k,S5⟩,e6,X⟩:=aq e5
   refine⟨a5,l,S4,k,S5,A,e6,λU H5 Z R=> ?_⟩
   have p:=(x3.trans x4).trans Z
   have C:∀{b d},bC c H2 b d->d D=some (.lst h)/\D∉b:=λ{b d} x=>⟨x.keep _ _ hD2 (.inl n2),λm=>(x.new _ m).elim n2 λz=>by rw[z] at hD2;cases hD2⟩
   dsimp only at X⊢
   split at X
   ·rename_i ck
    rw[Qhq ck]
    obtain⟨⟨y,S6⟩,e8,e9⟩:=aq X
    refine⟨U,l,S5,y,S6,A.to Z R,e8,λa6 v H6 x6 a1 r6=> ?_⟩
    have G:=p.trans x6
    obtain⟨s,n6⟩:=C G
    have I:=racc.ext G
    dsimp only at e9
    split at e9
    ·rename_i cl
     refine⟨h,s,by rw[←racc.length];exact cl,a6,l,S6,a++ [y],h++ [v],(x2.trans G).off N _,⟨((A.en.ext Z).ext x6).off s,a1.off s n6⟩,n6,aU,(I.append (.cons r6 .nil)).off s,e9⟩
    ·cases e9
   ·rename_i ck
    rw[Quq ck]
    obtain⟨a0,n5⟩:=C p
    exact⟨U,l,S5,a,h,x2.trans p,A.to Z R,n5,a0,racc.ext p,X⟩
  ·cases e2
 ·have e3:i=j.length:=by omega
  subst e3
  rw[List.drop_length] at e2
  unfold kQ at e2
  split at e2
  ·rename_i w
   obtain⟨rfl,rfl⟩:=bN e2
   obtain⟨w1,w2⟩:=wk j.length c K H2 x2 ok2.st w
   exact .inl ⟨w2 rfl,q c D h H2 (x1.trans x2) ok2.st (x1.grow _ N) n2 hD2 racc⟩
  ·cases e2
end
section
variable{X:Cx}{a b c e:Expr}{pos:Pos}{st:Stmt}{rest body other:List Stmt}
def eX:ie:=λ_ S=>some (true,S)
def Lb{d:List Expr}{t t':TT}(h:lg X d t)(w:∀g H Q,t' g H Q->t g H Q):lg X d t':=λf s g H Q I q=>h f s g H Q I (w _ _ _ q)
def Oe:lg X [] (tB (md X) eX):=Lb JQ λf H Q ⟨h,d,S,k,g,ok,e,q⟩=>by cases e;exact q _ _ bC.refl ok.st
def OK{f:ie}(d:PT X c (tB (md X) f)):lg X [c] (tB (md X) f):=IE d
def IT{N:List Str}{js:List (Option Nat)}{d:Scope}{l:List (Str×Addr)}{m h k:Expr}{j:List Expr}{i:tE}{g:kM}{t:ie}{f:aV}
  (S:aS X N js d l) (n:X.calm=true) (hi:PI X m h (tI (md X) i))
  (p:∀C s H fp,PG (aF X N d l C s H fp) m (tG (md X) g)) (q:∀C s H fp,lg (aF X N d l C s H fp) j (tB (md X) t)) (he:∀C s H fp,PE (aF X N d l C s H fp) k (tD (md X) f))
  (o:∀x,foldedSetIterable h X.env x=pure x:=by intro _;rfl):PE X (.ListComp k [⟨m,h,j,0⟩] d pos) (tL (md X) (du js i g t f)):=jD (Gy S n hi p q he o) Dr
def Jc{N:List Str}{js:List (Option Nat)}{h:Scope}{v:List (Str×Addr)}{w j p k:Expr}{m:List Expr}{i:tE}{g:kM}{t:ie}{f:aV}{n:Nat}{l:Pos}
  (S:aS X N js h v) (Q:X.calm=true) (hi:PI X w j (tI (md X) i))
  (hg:∀C s H fp,PG (aF X N h v C s H fp) w (tG (md X) g)) (ht:∀C s H fp,lg (aF X N h v C s H fp) m (tB (md X) t)) (he:∀C s H fp,PE (aF X N h v C s H fp) p (tD (md X) f)) (y:PG X k (my n))
  (R:∀x,foldedSetIterable j X.env x=pure x:=by intro _;rfl) (B:swapsWithSole [k] (.ListComp p [⟨w,j,m,0⟩] h pos) l.line X.env=pure true:=by rfl)
  (h1:(assignEach [k] X.env).map (·.2)= [assign k X.env]:=by rfl):PS X (.Assign [k] (.ListComp p [⟨w,j,m,0⟩] h pos) l) (tS (md X) (aX n (dv (du js i g t f)))):=
 BF (F7 S Q hi hg ht he y R B h1) λD σ H M=>by
  obtain⟨J,Z,S,o,ok,e,q⟩:=M
  obtain⟨⟨d,S1⟩,W,e⟩:=aq e
  cases e
  obtain⟨⟨G,S2⟩,K,U⟩:=aq W
  obtain⟨rfl,rfl⟩:=bN U
  refine Dr σ H _ ⟨J,Z,S,G,S2,ok,K,λr a vs F x st Y P ha rs=> ?_⟩
  have z:=rs.pre (List.prefix_append r [a])
  have A:=st.box (o:=.lst G) P ⟨vs,ha,z⟩
  have I:bC J H (r++ [a]) F:=⟨x.pre.trans (List.prefix_append _ _),λb u=>by
   rcases mQa.mp u with u|u
   ·exact x.new b u
   ·rw[Qfq] at u;subst u;exact .inr Y,x.keep,x.grow⟩
  refine q (r++ [a]) _ F I ⟨((ok.en.ext I).set (.ref ?_)),A⟩
  rw[←st.len,QQq (Qmq _)]
  simp
def FH(c:ie)(b:cD):Nat->cv->aA->Option Out
 |0,_,_=>none
 |n +1,Γ,S=>(c Γ S).bind λ(k,g)=>if k=true then(b Γ g).bind λo=>match o with
    |.nx d f=>FH c b n d f
    |.ct d f=>FH c b n d f
    |.bk d f=>some (.nx d f)
    |.rt x f=>some (.rt x f)
    |.rl x f=>some (.rl x f)
  else some (.nx Γ g)
def Gr{h:ie}{f:cD}(n:Nat)(Y:PassesOwn (model X.prog X.w) X.A X.env X.xe)(hc:PT X c (tB (md X) h))(Z:pH X body (tS (md X) f)):PS X (.While c body [] pos) (tS (md X) (FH h f n)):=BF (Fe Y hc Z) λD σ H W=>by
 obtain⟨K,Γ,S,o,ok,e,q⟩:=W
 refine⟨λm p u=>∃g d t,bC K H g u/\Ok (md X) g d t p u/\FH h f m d t=some o,⟨n,K,Γ,S,bC.refl,ok,e⟩,?_⟩
 rintro m a0 H1 ⟨I,B,S1,x1,C,i⟩
 cases m with
 |zero=>cases i
 | succ m=>
   unfold FH at i
   obtain⟨⟨k,N⟩,U,i⟩:=aq i
   refine⟨I,B,S1,k,N,C,U,λJ H2 M F=> ?_⟩
   dsimp only at i⊢
   have z:=C.to M F
   have j:=x1.trans M
   split at i
   · rename_i G
     rw[Qhq G]
     obtain⟨P,e3,i⟩:=aq i
     refine⟨λp u=>∃g d t,bC K H g u/\Ok (md X) g d t p u/\FH h f m d t=some o,λp u ⟨g,d,t,h1,R,h3⟩=>⟨m,Nat.lt_succ_self _,g,d,t,h1,R,h3⟩,J,B,N,P,z,e3,?_⟩
     cases P with
     |nx s v=>exact λr x Q y l=>⟨r,s,v,j.trans y,l,i⟩
     |ct s v=>exact λr x Q y l=>⟨r,s,v,j.trans y,l,i⟩
     |bk s v=>cases i;exact λr x Q y l=>q _ _ _ (j.trans y) l
     |rt d6 v=>cases i;exact q.to j
     |rl d6 v=>cases i;exact q.to j
   · rename_i G
     rw[Quq G]
     cases i
     exact q _ _ _ j z
end
inductive Res where
 |d (x:D)|l (ds:List D)
abbrev de:=List D->aA->Option (Res×aA)
def JZ(M:Md)(ρ:List Addr)(H b:Hp)(v:V):Res->Prop
 |.d x=>Rel M ρ b x v
 |.l e=>∃a c,v=.ref a/\H a=none/\a∉ρ/\b a=some (.lst c)/\aO M ρ b e c
def dQ(M:Md)(n:Nat)(F:de):Sp:=λf H Q _=>∃c S d r e,d.length=n/\aO M c H d f/\eV M c S H/\F d S=some (r,e)/\∀a v b,bC c H a b->eV M a e b->JZ M a H b v r->Q v b
mutual
def cz(m:Nat):D->Bool
 |.ref k=>decide (k<m)
 |.tup a=>bD m a
 |_=>true
def bD(m:Nat):List D->Bool
 | []=>true
 |d::ds=>cz m d&&bD m ds
end
def Hh(m:Nat):O->Bool
 |.lst a=>bD m a
 |.frz a=>bD m a
 |.dct b=>bD m (b.map (·.2))
 |.sett a=>bD m a
section
variable{M:Md}{ρ ρ':List Addr}{H:Hp}
mutual
theorem Rel.cut(e:ρ <+: ρ'):∀{d:D} {v:V},Rel M ρ' H d v->cz ρ.length d=true->Rel M ρ H d v
 |_,_,.non,_=>.non
 |_,_,.bl x,_=>.bl x
 |_,_,.int i,_=>.int i
 |_,_,.str x,_=>.str x
 |_,_,.tup h hs,b=>.tup h (aO.cut e hs (by simpa [cz] using b))
 | _,_,.ref (k:=k) (a:=a) h,b=>.ref (by
   obtain⟨t,rfl⟩:=e
   have c:k<ρ.length:=by simpa [cz] using b
   rwa [QHq c] at h)
 |_,_,.fn h,_=>.fn h
theorem aO.cut(e:ρ <+: ρ'):∀{ds:List D} {vs:List V},aO M ρ' H ds vs->bD ρ.length ds=true->aO M ρ H ds vs
 |_,_,.nil,_=>.nil
 | _,_,.cons h hs,b=>by
   have a:=b
   simp only[bD,QDq,QCq] at a
   exact .cons (Rel.cut e h a.1) (aO.cut e hs a.2)
end
theorem bG.cut(e:ρ <+: ρ'):∀{l:List (Key×D)} {kv:List (Key×V)},bG M ρ' H l kv->bD ρ.length (l.map (·.2))=true->bG M ρ H l kv
 | [],_,h,_=>h
 | (_,_)::_,_,⟨v,t,q,h,hs⟩,b=>by
   have a:=b
   simp only[bD,QDq,QCq] at a
   exact⟨v,t,q,h.cut e a.1,bG.cut e hs a.2⟩
theorem mq.cut{a:Addr}{o:O}(e:ρ <+: ρ')(h:mq M ρ' H a o)(b:Hh ρ.length o=true):mq M ρ H a o:=by
 cases o with
 |lst g=>obtain⟨f,d,c⟩:=h;exact⟨f,d,c.cut e b⟩
 |frz g=>obtain⟨f,o,d,c⟩:=h;exact⟨f,o,d,c.cut e b⟩
 |dct k=>obtain⟨i,d,c⟩:=h;exact⟨i,d,c.cut e b⟩
 |sett g=>obtain⟨j,m,d,c,l⟩:=h;exact⟨j,m,d,c.cut e b,l⟩
mutual
theorem Rel.low:∀{d:D} {v:V},Rel M ρ H d v->cz ρ.length d=true
 |_,_,.non=>rfl
 |_,_,.bl x=>rfl
 |_,_,.int i=>rfl
 |_,_,.str x=>rfl
 |_,_,.tup h hs=>by simp only[cz];exact aO.low hs
 |_,_,.ref h=>by simp only[cz];exact Qeq (gQs.mp h).1
 |_,_,.fn h=>rfl
theorem aO.low:∀{ds:List D} {vs:List V},aO M ρ H ds vs->bD ρ.length ds=true
 |_,_,.nil=>rfl
 |_,_,.cons h hs=>by simp only[bD];rw[Rel.low h,aO.low hs];rfl
end
theorem bG.low:∀{l:List (Key×D)} {kv:List (Key×V)},bG M ρ H l kv->bD ρ.length (l.map (·.2))=true
 | [],_,_=>rfl
 |(_,_)::_,_,⟨v,t,q,h,hs⟩=>by simp only[QDq,bD];rw[h.low,bG.low hs];rfl
theorem mq.low{a:Addr}{o:O}(h:mq M ρ H a o):Hh ρ.length o=true:=by
 cases o with
 |lst d=>obtain⟨f,c,b⟩:=h;exact b.low
 |frz d=>obtain⟨f,o,c,b⟩:=h;exact b.low
 |dct e=>obtain⟨g,c,b⟩:=h;exact b.low
 |sett d=>obtain⟨i,k,c,b,j⟩:=h;exact b.low
end
def mG(S a:aA):Prop:=S.length<=a.length/\∀k o,k<S.length->a[k]?=some o->S[k]?=some o\/Hh S.length o=true
open Classical in
def settle(S:aA)(d:D)(a:aA):Option (Res×aA):=if mG S a then match d with
  | .ref k=>if k<S.length then some (.d (.ref k),a.take S.length) else match a[k]? with
    |some (.lst ds)=>if bD S.length ds=true then some (.l ds,a.take S.length) else none
    |_=>none
  |d=>if cz S.length d=true then some (.d d,a.take S.length) else none
 else none
open Classical in
def eI(S:aA)(ds:List D)(a:aA):Option (Res×aA):=if mG S a/\bD S.length ds=true then some (.l ds,a.take S.length) else none
noncomputable def eT(n:Nat)(b:cD):de:=λc S=>(b (c.map some++List.replicate (n-c.length) none) S).bind λo=>match o with
 |.nx _ a=>settle S .non a
 |.rt d a=>settle S d a
 |.rl l a=>eI S l a
 |_=>none
noncomputable def Kt(n:Nat)(b:cD):de:=λc S=>(b (c.map some++List.replicate (n-c.length) none) S).bind λo=>match o with
 |.nx _ a=>some (.d .non,a)
 |.rt d a=>some (.d d,a)
 |.rl l a=>some (.l l,a)
 |_=>none
def eV.clean{M:Md}{ρ d:List Addr}{S i:aA}{H e:Hp}(st:eV M ρ S H)(x:bC ρ H d e)(g:eV M d i e)(c:mG S i):eV M ρ (i.take S.length) e/\bC ρ H ρ e:=by
 refine⟨⟨?_,st.nd,λk a o j f=> ?_⟩,List.prefix_refl _,λ_ h=>.inl h,x.keep,x.grow⟩
 ·rw[Qxq,st.len]
  have:=c.1
  omega
 ·have l:k<ρ.length:=(gQs.mp j).1
  have b:k<S.length:=st.len▸l
  rw[List.getElem?_take_of_lt b] at f
  refine(g.obj k a o (bU x.pre j) f).cut x.pre ?_
  rcases c.2 k o b f with z|z
  ·exact(st.obj k a o j z).low
  ·rw[st.len];exact z
def uk{M:Md}{ρ f:List Addr}{S t h:aA}{H g:Hp}{d:D}{v:V}{r:Res}(st:eV M ρ S H)(x:bC ρ H f g)(b:eV M f t g)(o:Rel M f g d v)(e:settle S d t=some (r,h)):
  bC ρ H ρ g/\eV M ρ h g/\JZ M ρ H g v r:=by
 unfold settle at e
 split at e
 ·rename_i c
  obtain⟨n,p⟩:=st.clean x b c
  cases d with
  | ref k=>
    dsimp only at e
    split at e
    · rename_i l
      obtain⟨rfl,rfl⟩:=bN e
      exact⟨p,n,o.cut x.pre (by simp only[cz];rw[st.len];exact Qeq l)⟩
    · rename_i l
      split at e
      · rename_i B y
        split at e
        · rename_i i
          obtain⟨rfl,rfl⟩:=bN e
          cases o with
          | ref q=>
            rename_i a
            obtain⟨z,A,w⟩:=b.obj k a _ q y
            have s:a∉ρ:=λm=>by
              obtain⟨j,u⟩:=List.getElem?_of_mem m
              have:=j2 b.nd (bU x.pre u) q
              subst this
              exact l (st.len▸(gQs.mp u).1)
            refine⟨p,n,a,z,rfl,(x.new a (mQg q)).resolve_left s,s,A,w.cut x.pre (by rw[st.len];exact i)⟩
        · cases e
      · cases e
  | _=>
    dsimp only at e
    split at e
    · rename_i i
      obtain⟨rfl,rfl⟩:=bN e
      exact⟨p,n,o.cut x.pre (by rw[st.len];exact i)⟩
    · cases e
 ·cases e
def yW{M:Md}{ρ b:List Addr}{S h f:aA}{H d:Hp}{ds:List D}{a:Addr}{vs:List V}{r:Res}(st:eV M ρ S H)(x:bC ρ H b d)(g:eV M b h d)(fr:H a=none)(i:a∉b)(n:d a=some (.lst vs))(k:aO M b d ds vs)(e:eI S ds h=some (r,f)):
  bC ρ H ρ d/\eV M ρ f d/\JZ M ρ H d (.ref a) r:=by
 unfold eI at e
 split at e
 ·rename_i c
  obtain⟨j,l⟩:=st.clean x g c.1
  obtain⟨rfl,rfl⟩:=bN e
  exact⟨l,j,a,vs,rfl,fr,λm=>i (x.pre.subset m),n,k.cut x.pre (by rw[st.len];exact c.2)⟩
 ·cases e
def xJ{M:Md}{ρ:List Addr}{H:Hp}{ds:List D}{vs:List V}{N:List Str}(r:aO M ρ H ds vs):En M ρ H (ds.map some++List.replicate (N.length-ds.length) none) (L2.start N vs) where
 len:=by unfold L2.start;simp[r.length]
 get:=λi d q=>by
  unfold L2.start
  by_cases c:i<ds.length
  ·rw[QHq (by rw[lQm];exact c),gQm] at q
   obtain⟨g,f,a⟩:=oQm.mp q
   cases a
   obtain⟨v,e,b⟩:=r.get f
   exact⟨v,by rw[QHq (by rw[lQm,←r.length];exact c),gQm,e];rfl,b⟩
  ·rw[QQq (by rw[lQm];omega)] at q
   have:=mQg q
   rw[List.mem_replicate] at this
   cases this.2
section
variable{P:Program}{w:World}{K:PySem.W.Frag}{mg:Str->Option Value}{base:Heap}
def aY{x c:Str}{st:Stmt}{f:Addr}{J:FuncData}{N ps:List Str}{k:Nat}{b:cD}(F:dZ K x c st f J)(S:aD N ps (ay st))
  (i:∀(g:Value) (A:Around) (outer:List Env) (s:Shared) (H:Hp) (E:XK),eE k (A.deeper (envOfC c (ay st) s.heap.objs.size f g))→
   pH (xH dA P w K mg base N c (ay st) f g A outer s H E).nox (dN st) (tS ⟨K,mg⟩ b)):a_ P w K mg base dA (k+1) f J ps (dQ ⟨K,mg⟩ ps.length (eT N.length b)):=by
 refine F.ok S (λG H Q E ⟨I,S,W,r,Y,M,u,_⟩=>by rw[←u.length];exact M) λg A outer s H G Q E hr ⟨I,S,W,r,Y,M,u,t,X,q⟩=>⟨_,i g A outer s H E hr,?_⟩
 obtain⟨o,Z,e⟩:=aq X
 refine⟨I,_,S,o,⟨xJ u,t⟩,Z,?_⟩
 cases o with
 |nx a0 C=>exact λp U B m y=>by obtain⟨j,n,l⟩:=uk t m y.st .non e;exact q _ _ _ j n l
 |rt d C=>exact λp v B m h z=>by obtain⟨j,n,l⟩:=uk t m h z e;exact q _ _ _ j n l
 |rl d C=>exact λp a G B m h fr R ha z=>by obtain⟨j,n,l⟩:=yW t m h fr R ha z e;exact q _ _ _ j n l
 |bk=>cases e
 |ct=>cases e
def II{x c:Str}{st:Stmt}{f:Addr}{B:FuncData}{N ps:List Str}{k:Nat}{b:cD}(F:dZ K x c st f B)(S:aD N ps (ay st))
  (i:∀(g:Value) (A:Around) (outer:List Env) (s:Shared) (H:Hp) (E:XK),eE k (A.deeper (envOfC c (ay st) s.heap.objs.size f g))→
   pH (xH dA P w K mg base N c (ay st) f g A outer s H E).nox (dN st) (tS ⟨K,mg⟩ b)):a_ P w K mg base dA (k+1) f B ps (dQ ⟨K,mg⟩ ps.length (Kt N.length b)):=by
 refine F.ok S (λp H Q E ⟨z,S,J,r,R,C,m,_⟩=>by rw[←m.length];exact C) λg A outer s H p Q E Y ⟨z,S,J,r,R,C,m,Z,M,q⟩=>⟨_,i g A outer s H E Y,?_⟩
 obtain⟨o,U,e⟩:=aq M
 refine⟨z,_,S,o,⟨xJ m,Z⟩,U,?_⟩
 cases o with
 |nx X y=>cases e;exact λl I u j n=>q _ _ _ j n.st .non
 |rt d y=>cases e;exact λl v u j h t=>q _ _ _ j h t
 |rl d y=>cases e;exact λl a p u j h W G ha t=>q _ _ _ j h ⟨a,p,rfl,W,G,ha,t⟩
 |bk=>cases e
 |ct=>cases e
end
section
variable{X:Cx}{x:Str}{k n:Nat}{f:Addr}{fd:FuncData}{ps:List Str}{F:de}{e:Expr}{es:List Expr}{g:fN}{p pos:Pos}
noncomputable def aB(F:de)(g:fN):aV:=λa S=>(g a S).bind λ(h,c)=>(F h c).bind λ(r,b)=>match r with
 |.d x=>some (x,b)
 |.l _=>none
def dM(F:de)(g:fN):fN:=λb S=>(g b S).bind λ(a,h)=>(F a h).bind λ(r,c)=>match r with
 |.d _=>none
 |.l a=>some (a,c)
def nA(n:Nat)(g:fN):Prop:=∀b S a c,g b S=some (a,c)->a.length=n
def Ae:nA 0 au:=λ_ _ _ _ e=>by cases e;rfl
def ko{n:Nat}{f:aV}{g:fN}(h:nA n g):nA (n+1) (ar f g):=λc S o i e=>by
 obtain⟨⟨d,m⟩,j,e⟩:=aq e
 obtain⟨⟨b,l⟩,a,e⟩:=aq e
 cases e
 rw[Qnq,h _ _ _ _ a]
def A3{M:Md}(B:nA n g):∀i H Q,tD M (aB F g) i H Q->Et (dQ M n F) [] E0 (yu M g) i H Q:=λi H Q s=>by
 obtain⟨A,y,S,d,I,ok,e,q⟩:=s
 obtain⟨⟨b,m⟩,j,e⟩:=aq e
 obtain⟨⟨r,C⟩,o,e⟩:=aq e
 refine⟨A,y,S,b,m,ok,j,λc J H1 G h t=>⟨c,m,b,r,C,B _ _ _ _ j,by rw[List.append_nil];exact t,h,o,λz v H2 u a w=> ?_⟩⟩
 cases r with
 |d x=>obtain⟨rfl,rfl⟩:=bN e;exact q _ _ _ (G.trans u) a w
 |l b=>cases e
def GD{M:Md}(I:nA n g):∀j H Q,tL M (dM F g) j H Q->Et (dQ M n F) [] E0 (yu M g) j H Q:=λj H Q u=>by
 obtain⟨G,A,S,d,K,ok,e,q⟩:=u
 obtain⟨⟨c,o⟩,m,e⟩:=aq e
 obtain⟨⟨r,J⟩,t,e⟩:=aq e
 refine⟨G,A,S,c,o,ok,m,λh C H1 s i w=>⟨h,o,c,r,J,I _ _ _ _ m,by rw[List.append_nil];exact w,i,t,λB v H2 y b z=> ?_⟩⟩
 cases r with
 |d x=>cases e
 | l c=>
   obtain⟨rfl,rfl⟩:=bN e
   obtain⟨a,C,rfl,fr,na,ha,rr⟩:=z
   exact q _ _ _ _ (s.trans y) b (s.grow _ fr) na ha rr
def JE(G:a_ X.prog X.w X.K X.mg X.base dA k f fd ps (dQ (md X) n F))(d:eE k X.A)(i:Gl X x)(h:X.mg x=some (.ref f))(c:PySem.W.keepIn X.K (.ref f)=true)(j:Binds X.K fd ps [])(l:PA X (e::es) (yu (md X) g))(b:nA n g)
  (a:(x==("__debug__":Str))=false:=by decide) (he:starEach (e::es) X.env=(false,eval e X.env)::starEach es X.env:=by rfl) (hpl:(backTo pos (starEach es X.env)).any (·.1)=false:=by rfl):
  PE X (.Call (.Name x p) (e::es) [] pos) (tD (md X) (aB F g)):=jD (A7 G d i h c j .nil E1 l a he hpl) (A3 b)
def Jd(G:a_ X.prog X.w X.K X.mg X.base dA k f fd ps (dQ (md X) n F))(d:eE k X.A)(i:Gl X x)(h:X.mg x=some (.ref f))(c:PySem.W.keepIn X.K (.ref f)=true)(j:Binds X.K fd ps [])(l:PA X (e::es) (yu (md X) g))(b:nA n g)
  (a:(x==("__debug__":Str))=false:=by decide) (he:starEach (e::es) X.env=(false,eval e X.env)::starEach es X.env:=by rfl) (hpl:(backTo pos (starEach es X.env)).any (·.1)=false:=by rfl):
  PE X (.Call (.Name x p) (e::es) [] pos) (tL (md X) (dM F g)):=jD (A7 G d i h c j .nil E1 l a he hpl) (GD b)
end
def jk{α:Type}(xs:List α)(lo hi:Option Int):List α:=(xs.drop (HT.dW xs.length 0 lo)).take (HT.dW xs.length xs.length hi-HT.dW xs.length 0 lo)
def aO.cut3{M:Md}{ρ:List Addr}{H:Hp}{ds:List D}{vs:List V}{lo hi:Option Int}(h:aO M ρ H ds vs):aO M ρ H (jk ds lo hi) (zy vs lo hi):=by
 unfold jk zy
 rw[h.length]
 exact(h.drop _).take _
def FR{α:Type}{xs:List α}{lo hi:Option Int}(b:HT.dW xs.length 0 lo=0)(a:HT.dW xs.length xs.length hi=xs.length):jk xs lo hi=xs:=by
 unfold jk
 rw[b,a]
 simp
abbrev Kx:=cv->aA->Option (Option Int×aA)
def Mu(M:Md)(f:Kx):TO:=λg H Q=>∃e c S o d,Ok M e c S g H/\f c S=some (o,d)/\∀a b,bC e H a b->eV M a d b->Q o b
section
variable{X:Cx}{a b c e:Expr}{pos:Pos}{st:Stmt}
def sS:Kx:=λ_ S=>some (none,S)
def qU(f:aV):Kx:=λg S=>(f g S).bind λ(d,h)=>match d with
 |.int i=>some (some i,h)
 |_=>none
def OE{o:Option Expr}{t t':TO}(h:PO X o t)(w:∀f H Q,t' f H Q->t f H Q):PO X o t':=λd s f H Q I q=>h d s f H Q I (w _ _ _ q)
def M7:PO X none (Mu (md X) sS):=OE G0 λf H Q ⟨h,d,S,o,g,ok,e,q⟩=>by cases e;exact q _ _ bC.refl ok.st
def Nw{f:aV}(h:PE X e (tD (md X) f)):PO X (some e) (Mu (md X) (qU f)):=OE (Gx h) λs H Q g=>by
 obtain⟨l,j,S,o,p,ok,e,q⟩:=g
 obtain⟨⟨d,k⟩,i,e⟩:=aq e
 dsimp only at e
 split at e
 ·obtain⟨rfl,rfl⟩:=bN e
  refine⟨l,j,S,_,k,ok,i,λm v n x st r=> ?_⟩
  cases r
  exact⟨_,rfl,q _ _ x st⟩
 ·cases e
def sQ(f:aV)(lo hi:Kx):aV:=λg S=>(f g S).bind λ(d,j)=>(lo g j).bind λ(l,i)=>(hi g i).bind λ(h,k)=>match d with
 |.tup m=>some (.tup (jk m l h),k)
 |_=>none
def Mw{lo hi:Option Expr}{W:Pos}{f:aV}{l h:Kx}(he:PE X e (tD (md X) f))(hl:PO X lo (Mu (md X) l))(Y:PO X hi (Mu (md X) h)):PE X (.Subscript e (.Slice lo hi none W) pos) (tD (md X) (sQ f l h)):=
 jD (EU GG he hl Y) λσ H Q I=>by
  obtain⟨U,s,S,d,Z,ok,e,q⟩:=I
  obtain⟨⟨x,A⟩,N,e⟩:=aq e
  obtain⟨⟨z,B⟩,G,e⟩:=aq e
  obtain⟨⟨C,P⟩,M,e⟩:=aq e
  cases x with
  | tup w=>
    dsimp only at e
    obtain⟨rfl,rfl⟩:=bN e
    refine⟨U,s,S,_,A,ok,N,λo v H1 u g R=>⟨o,s,A,z,B,ok.to u g,G,λt H2 r m=>⟨t,s,B,C,P,(ok.to u g).to r m,M,λJ H3 y i=> ?_⟩⟩⟩
    have j:=(u.trans r).trans y
    have K:=R.ext (r.trans y)
    cases K with
    | tup F k=>
      refine⟨_,_,rfl,gr.of F,λc=> ?_,λc p n=> ?_⟩
      · have:jk w z C=w:=FR (by rw[k.length];exact c.1) (by rw[k.length];exact c.2)
        rw[this] at q
        exact q _ _ _ j i (.tup F k)
      · exact q _ _ _ (j.trans (bC.laid n)) (i.lay n) (.tup aU (k.cut3.ext (bC.laid n)))
  |_=>cases e
open Classical in
def EW(f g:eU):fN:=λd S=>(f d S).bind λ(p,i)=>(g d i).bind λ(r,h)=>if p.2.isM=true/\r.2.isM=true/\p.2.stays h p.1/\p.1.length+r.1.length<=sizeLine then some (p.1++r.1,h) else none
def Ol{f g:eU}(R:PE X a (tQ (md X) f))(A:PE X b (tQ (md X) g)):PE X (.BinOp a .Add b pos) (tL (md X) (EW f g)):=jD (o9 IW R A) λY H Q y=>by
 obtain⟨I,s,S,d,U,ok,e,q⟩:=y
 obtain⟨⟨⟨B,t⟩,u⟩,C,e⟩:=aq e
 obtain⟨⟨⟨z,J⟩,K⟩,x,e⟩:=aq e
 dsimp only at e
 split at e
 ·rename_i c
  obtain⟨rfl,rfl⟩:=bN e
  refine⟨I,s,S,B,t,u,ok,C,λl a W H1 v m M F=>⟨l,s,u,z,J,K,ok.to v m,x,λG b P H2 o h w r=> ?_⟩⟩
  obtain⟨k,N,n⟩:=M.to F o h c.2.2.1
  have i:=v.trans o
  refine⟨_,_,k,P,rfl,rfl,N.sqM c.1,w.sqM c.2.1,by rw[←n.length,←r.length];exact c.2.2.2,λp j=> ?_⟩
  exact q _ _ _ _ (i.trans (bC.laid j)) (h.lay j) (i.grow _ j) (c8 i h j) aU ((n.append r).ext (bC.laid j))
 ·cases e
def eV.putL{M:Md}{ρ:List Addr}{S:aA}{H:Hp}{k:Nat}{a:Addr}{ds es:List D}{ws:List V}(st:eV M ρ S H)(f:ρ[k]?=some a)(h:S[k]?=some (.lst ds))(r:aO M ρ H es ws):eV M ρ (S.set k (.lst es)) (upd H a (.lst ws))/\bC ρ H ρ (upd H a (.lst ws)):=by
 obtain⟨j,g,i⟩:=st.obj k a _ f h
 exact st.put f h ⟨ws,aU,r.off g⟩ λx d=>by rw[g] at d;cases d;exact id
def HA(m:List D->List D->Option (List D×D))(f:aV)(g:fN):aV:=λh S=>(f h S).bind λ(x,j)=>match x with
 | .ref k=>(g h j).bind λ(n,i)=>match j[k]?,i[k]? with
   |some (.lst _),some (.lst ds)=>(m ds n).bind λ(l,d)=>some (d,i.set k (.lst l))
   |_,_=>none
 |_=>none
def KQ(M:Md)(r:V->List V->Hp->VK->Prop)(m:List D->List D->Option (List D×D)):Prop:=∀{f:List Addr} {H:Hp} {a:Addr} {j k g:List D} {d:D} {h i:List V} {Q:VK},H a=some (.lst h)->aO M f H j h->aO M f H k i->m j k=some (g,d)→
 (∀l w,aO M f H g l->Rel M f H d w->Q w (upd H a (.lst l)))->r (.ref a) i H Q
def MV{m:List D->List D->Option (List D×D)}{r:V->List V->Hp->VK->Prop}{f:aV}{g:fN}(ho:KQ (md X) r m):∀t H Q,tD (md X) (HA m f g) t H Q->MB X.K "list" r (tD (md X) f) (yu (md X) g) t H Q:=λt H Q I=>by
 obtain⟨Y,z,S,d,S',ok,e,q⟩:=I
 obtain⟨⟨x,A⟩,M,e⟩:=aq e
 cases x with
 | ref k=>
   dsimp only at e
   obtain⟨⟨Z,S2⟩,G,e⟩:=aq e
   dsimp only at e
   split at e
   · rename_i R ds n j
     obtain⟨⟨es,d'⟩,J,e⟩:=aq e
     obtain⟨rfl,rfl⟩:=bN e
     refine⟨Y,z,S,_,A,ok,M,λo v H1 B i N=> ?_⟩
     cases N with
     | ref C=>
       rename_i a
       obtain⟨s,W,_⟩:=i.obj k a _ C n
       refine⟨.inl ⟨rfl,s,jC.of W⟩,o,z,A,Z,S2,ok.to B i,G,λU us H2 y h P=> ?_⟩
       have l:=bU y.pre C
       obtain⟨vs,h1,F⟩:=h.obj k a _ l j
       refine ho h1 F P J λws w rw rd=> ?_
       obtain⟨p,u⟩:=h.putL l j rw
       exact q _ _ _ ((B.trans y).trans u) p (rd.ext u)
   · cases e
 |_=>cases e
def rD:List D->List D->Option (List D×D):=λd f=>match f with
 | [y]=>if d.length<sizeLine then some (d++ [y],.non) else none
 |_=>none
def JU{M:Md}:KQ M BJ rD:=by
 intro m H a n o k d j l Q i g f e q
 unfold rD at e
 split at e
 ·split at e
  ·rename_i hl
   obtain⟨rfl,rfl⟩:=bN e
   cases f with
   | cons f h=>
     cases h
     exact⟨a,j,_,rfl,rfl,i,by rw[←g.length];exact hl,q _ _ (g.append (.cons f .nil)) .non⟩
  ·cases e
 ·cases e
def E7{f:aV}{g:aV}{o:Expr}{h d:Pos}(m:PE X o (tD (md X) f))(n:PE X e (tD (md X) g))(i:attributeBase o "append" X.env (eval o X.env)=eval o X.env:=by rfl) (k:((backTo d (starEach [e] X.env)).all (λx=> !x.1)&&(backToKw d (keywordEach [] X.env)).all (λx=>x.1.isSome)
   &&decide ([e].length+([]:List Keyword).length+(if ([]:List Keyword).isEmpty then 0 else 1)<30))=true:=by rfl)
  (j:(h.endLine==d.line)=true:=by rfl) (l:starEach [e] X.env= [(false,eval e X.env)]:=by rfl):PE X (.Call (.Attribute o "append" h) [e] [] d) (tD (md X) (HA rD f (ar g au))):=
 jD (yi PySem.F.plainAttrs_list PySem.F.slot_list_append PySem.F.type_list_append nR m (cY n kW l) i k j l) (MV JU)
end
section
variable{X:Cx}{a b c e:Expr}{pos:Pos}{st:Stmt}
def EI(f:aV)(g:eU):aV:=λd S=>(f d S).bind λ(x,i)=>match x with
 | .ref k=>(g d i).bind λ(p,h)=>match i[k]?,h[k]? with
   |some (.lst _),some (.lst ds)=>if p.2.isM=true/\ds.length+p.1.length<=sizeLine then some (.non,h.set k (.lst (ds++p.1))) else none
   |_,_=>none
 |_=>none
def L5{f:aV}{g:eU}:∀r H Q,tD (md X) (EI f g) r H Q->MB X.K "list" BI (tD (md X) f) (DU (tQ (md X) g) Gi) r H Q:=λr H Q G=>by
 obtain⟨W,y,S,d,S',ok,e,q⟩:=G
 obtain⟨⟨x,z⟩,J,e⟩:=aq e
 cases x with
 | ref k=>
   dsimp only at e
   obtain⟨⟨⟨Y,t⟩,Z⟩,F,e⟩:=aq e
   dsimp only at e
   split at e
   · rename_i N ds m j
     split at e
     · rename_i c
       obtain⟨rfl,rfl⟩:=bN e
       refine⟨W,y,S,_,z,ok,J,λn v H1 A i M=> ?_⟩
       cases M with
       | ref B=>
         rename_i a
         obtain⟨p,U,_⟩:=i.obj k a _ B m
         refine⟨.inl ⟨rfl,p,jC.of U⟩,n,y,z,Y,t,Z,ok.to A i,F,λP b us H2 u h C w=> ?_⟩
         have l:=bU u.pre B
         obtain⟨R,h3,s⟩:=h.obj k a _ l j
         refine⟨a,b,R,us,rfl,rfl,h3,C.sqM c.1,by rw[←s.length,←w.length];exact c.2,?_⟩
         obtain⟨o,I⟩:=h.putL l j (s.append w)
         exact q _ _ _ ((A.trans u).trans I) o .non
     · cases e
   · cases e
 |_=>cases e
def K1{f:aV}{g:eU}{o:Expr}{h d:Pos}(m:PE X o (tD (md X) f))(n:PE X e (tQ (md X) g))(i:attributeBase o "extend" X.env (eval o X.env)=eval o X.env:=by rfl) (k:((backTo d (starEach [e] X.env)).all (λx=> !x.1)&&(backToKw d (keywordEach [] X.env)).all (λx=>x.1.isSome)
   &&decide ([e].length+([]:List Keyword).length+(if ([]:List Keyword).isEmpty then 0 else 1)<30))=true:=by rfl)
  (j:(h.endLine==d.line)=true:=by rfl) (l:starEach [e] X.env= [(false,eval e X.env)]:=by rfl):PE X (.Call (.Attribute o "extend" h) [e] [] d) (tD (md X) (EI f g)):=
 jD (yi PySem.F.plainAttrs_list PySem.F.slot_list_extend PySem.F.type_list_extend BP m (bQ n dX l) i k j l) L5
def Jx(f g:aV):kM:=λd h S=>(f h S).bind λ(x,m)=>(g h m).bind λ(y,l)=>match x,y with
 | .ref k,.int i=>match l[k]? with
   |some (.lst ds)=>(FF ds.length i).bind λj=>some (h,l.set k (.lst (ds.set j d)))
   |_=>none
 |_,_=>none
def NX{f g:aV}:∀v s H Q,tG (md X) (Jx f g) v s H Q->Lc (tD (md X) f) (tD (md X) g) HF v s H Q:=λv s H Q J=>by
 obtain⟨U,A,S,d,G,S',ok,r,e,q⟩:=J
 obtain⟨⟨x,B⟩,M,e⟩:=aq e
 obtain⟨⟨y,W⟩,I,e⟩:=aq e
 cases x with
 | ref k=>
   cases y with
   | int i=>
     dsimp only at e
     split at e
     · rename_i ds u
       obtain⟨j,K,e⟩:=aq e
       obtain⟨rfl,rfl⟩:=bN e
       refine⟨U,A,S,_,B,ok,M,λm Z H1 C n o=>⟨m,A,B,_,W,ok.to C n,I,λP v2 H2 z h N=> ?_⟩⟩
       cases N
       have o:=o.ext z
       cases o with
       | ref F=>
         obtain⟨R,Y,w⟩:=h.obj k _ _ F u
         have l:=C.trans z
         obtain⟨p,t⟩:=h.putL F u (aO.set (r.ext l) j w)
         exact⟨_,R,i,j,rfl,rfl,Y,by rw[←w.length];exact K,q _ _ _ (l.trans t) ((ok.to l h).to t p)⟩
     · cases e
   |_=>cases e
 |_=>cases e
def OQ{o i:Expr}{f g:aV}(d:PE X o (tD (md X) f))(hi:PE X i (tD (md X) g))
  (h:∀v,assign (.Subscript o i pos) X.env v=(do
   let ov←holding [v] (eval o X.env)
   let iv←holding [v,ov] (eval i X.env)
   standAt pos
   holding [v,ov,iv] (setItem ov iv v)
   release [v,ov,iv] []):=by intro _;rfl):PG X (.Subscript o i pos) (tG (md X) (Jx f g)):=NZ (Jn d hi set_list h) NX
def zO(i j:Nat)(f:fN):cD:=λd S=>(f d S).bind λ(h,g)=>match h with
 | [v,w]=>some (.nx ((d.set i (some v)).set j (some w)) g)
 |_=>none
def HH{i j:Nat}{f:fN}(h:PS X st (LP i j (yu (md X) f))):PS X st (tS (md X) (zO i j f)):=BF h λD w H g=>by
 obtain⟨n,l,S,o,ok,e,q⟩:=g
 obtain⟨⟨u,m⟩,k,e⟩:=aq e
 dsimp only at e
 split at e
 ·cases e
  refine⟨n,l,S,_,m,ok,k,λs v t x st r=> ?_⟩
  cases r with
  | cons r d=>
    cases d with
    | cons p d=>
      cases d
      exact⟨_,_,rfl,q _ _ _ x ⟨((ok.en.ext x).set r).set p,st⟩⟩
 ·cases e
end
def df(cells:List (Str×Addr)):List (Str×NameKind)->List (Str×Addr)->List (Str×Addr)
 | [],acc=>acc
 |(n,k)::r,acc=>if (k==.free)=true then df cells r ((n,(cells.lookup n).getD 0)::acc) else df cells r acc
theorem nV{env:Env}:∀(names:List (Str×NameKind)) (b:List (Str×Addr)),(∀y∈names,y.2=.free->(env.cells.lookup y.1).isSome=true)→
  (forIn names b λ(x:Str×NameKind) (e:List (Str×Addr))=>(do
   if (x.2==NameKind.free)=true then do
    let c←cellOf env x.1
    pure (ForInStep.yield ((x.1,c)::e))
   else pure (ForInStep.yield e):Sem (ForInStep (List (Str×Addr)))))=(pure (df env.cells names b):Sem _)
 | [],b,_=>rfl
 | (n,k)::r,b,h=>by
   rw[List.forIn_cons]
   unfold df
   by_cases c:(k==NameKind.free)=true
   · obtain⟨a,f⟩:=Option.isSome_iff_exists.mp (h (n,k) QBq (by simpa using c))
     simp only[c,if_true]
     have g:cellOf env n=pure a:=by
       unfold cellOf
       rw[f]
     rw[g,pure_bind,pure_bind,f]
     exact nV r _ λy d=>h y (Qpq _ d)
   · simp only[c,Bool.false_eq_true,if_false]
     rw[pure_bind]
     exact nV r _ λy d=>h y (Qpq _ d)
def EZ{a:Scope}{env:Env}(h:∀y∈a.names,y.2=.free->(env.cells.lookup y.1).isSome=true):closureFor a env=pure (df env.cells a.names []):=by
 unfold closureFor
 have:=nV a.names [] h
 rw[bind_pure]
 exact this
theorem sM{cells:List (Str×Addr)}:∀(names:List (Str×NameKind)) (a:List (Str×Addr)) (p:Str×Addr),p∈df cells names a->p∈a\/∃n,(n,NameKind.free)∈names/\p=(n,(cells.lookup n).getD 0)
 | [],a,p,h=>.inl h
 | (n,k)::r,a,p,h=>by
   unfold df at h
   split at h
   · rename_i c
     rcases sM r _ p h with h|⟨m,d,b⟩
     · rcases Qsq.mp h with h|h
       · exact .inr ⟨n,by rw[show k=NameKind.free by simpa using c];exact QBq,h⟩
       · exact .inl h
     · exact .inr ⟨m,Qpq _ d,b⟩
   · rcases sM r _ p h with h|⟨m,d,b⟩
     · exact .inl h
     · exact .inr ⟨m,Qpq _ d,b⟩
theorem rf{cells:List (Str×Addr)}{x:Str}:∀(names:List (Str×NameKind)) (a:List (Str×Addr)),((x,NameKind.free)∈names\/∃c,(x,c)∈a)->∃c,(x,c)∈df cells names a
 | [],a,h=>by
   rcases h with h|h
   · cases h
   · exact h
 | (n,k)::r,a,h=>by
   unfold df
   split
   · rename_i c
     refine rf r _ ?_
     rcases h with h|⟨c,h⟩
     · rcases Qsq.mp h with h|h
       · cases h;exact .inr ⟨_,QBq⟩
       · exact .inl h
     · exact .inr ⟨c,Qpq _ h⟩
   · rename_i c
     refine rf r _ ?_
     rcases h with h|h
     · rcases Qsq.mp h with h|h
       · cases h;exact absurd rfl c
       · exact .inl h
     · exact .inr h
theorem kP{x:Str}{c:Addr}:∀{l:List (Str×Addr)},(x,c)∈l->∃a,l.lookup x=some a
 | [],h=>by cases h
 | (n,d)::r,h=>by
   unfold List.lookup
   by_cases e:(x==n)=true
   · rw[e];exact⟨d,rfl⟩
   · have b:(x==n)=false:=by simpa using e
     rw[b]
     rcases Qsq.mp h with h|h
     · cases h;simp at e
     · exact kP h
def rj(b:List Str)(a:Str->Option NameKind)(names:List (Str×NameKind)):List (Option Nat)->List Str->Bool
 |some j::js,x::N=>(b[j]? ==some x)&&(a x==some .cell||a x==some .free)&&(names.lookup x==some .free)&&rj b a names js N
 |none::js,_::N=>rj b a names js N
 |_,_=>true
theorem qN{b:List Str}{a:Str->Option NameKind}{names:List (Str×NameKind)}:∀{js:List (Option Nat)} {N:List Str} {k j:Nat} {x:Str},rj b a names js N=true->js[k]?=some (some j)->N[k]?=some x->b[j]?=some x/\(a x=some .cell\/a x=some .free)/\names.lookup x=some .free
 | some i::js,y::N,0,j,x,h,h1,h2=>by
   cases h1
   cases h2
   simp only[rj,QCq,Bool.or_eq_true,beq_iff_eq] at h
   exact⟨h.1.1.1,h.1.1.2,h.1.2⟩
 | some i::js,y::N,k+1,j,x,h,h1,h2=>by
   simp only[rj,QCq] at h
   exact qN h.2 (by simpa using h1) (by simpa using h2)
 |none::js,y::N,0,j,x,h,h1,h2=>by cases h1
 |none::js,y::N,k+1,j,x,h,h1,h2=>qN (k:=k) (by simpa [rj] using h) (by simpa using h1) (by simpa using h2)
 | [],N,k,j,x,h,h1,h2=>by simp at h1
 |some i::js,[],k,j,x,h,h1,h2=>by simp at h2
 |none::js,[],k,j,x,h,h1,h2=>by simp at h2
theorem mU{env:Env}{x:Str}:∀{names:List (Str×NameKind)},names.lookup x=some .free->(names.map λ(n,k)=>if (k==NameKind.free&&env.scope.kind==.function&&env.kindOf n==some .cell) then(n,NameKind.cell) else(n,k)).lookup x=some .cell∨
  (names.map λ(n,k)=>if (k==NameKind.free&&env.scope.kind==.function&&env.kindOf n==some .cell) then(n,NameKind.cell) else(n,k)).lookup x=some .free
 | [],h=>by cases h
 | (n,k)::r,h=>by
   unfold List.lookup at h
   rw[QDq]
   by_cases e:(x==n)=true
   · rw[e] at h
     cases h
     dsimp only
     split
     · left;unfold List.lookup;rw[e]
     · right;unfold List.lookup;rw[e]
   · have a:(x==n)=false:=by simpa using e
     rw[a] at h
     have b:=mU (env:=env) h
     dsimp only
     split <;>(unfold List.lookup;rw[a];exact b)
def aS.gen{X:Cx}{N:List Str}{js:List (Option Nat)}{d:Scope}(k:d.kind=.function)(q:d.names.all (λy=>y.2 !=.cell)=true)(r:d.names.all (λy=>y.2 !=.local||d.names.lookup y.1==some .local)=true)
  (p:d.names.all (λy=>y.2 !=.free||(X.env.cells.lookup y.1).isSome)=true) (u:rj X.N X.env.kindOf d.names js N=true) (w:js.length=N.length):aS X N js d (df X.env.cells d.names []) where
 kind:=k
 nocell:=λy f=>by
  have:=QUq.mp q y f
  simpa using this
 names:=λy f e=>by
  have:=QUq.mp r y f
  rw[e] at this
  simpa using this
 clos:=EZ λy f e=>by
  have:=QUq.mp p y f
  rw[e] at this
  simpa using this
 sub:=λx c h=>by
  rcases sM _ _ _ (PySem.mem_of_lookup h) with h|⟨n,m,e⟩
  ·cases h
  ·cases e
   have:=QUq.mp p _ m
   have t:(X.env.cells.lookup x).isSome=true:=by simpa using this
   obtain⟨c,g⟩:=Option.isSome_iff_exists.mp t
   rw[g]
   rfl
 has:=λx h=>by
  have l:(x,NameKind.free)∈d.names:=by
   have:∃k,(relabel d X.env).names.lookup x=some k/\(k=.cell\/k=.free):=by
    rcases h with h|h
    ·exact⟨_,h,.inl rfl⟩
    ·exact⟨_,h,.inr rfl⟩
   obtain⟨B,v,g⟩:=this
   have o:=PySem.mem_of_lookup v
   unfold relabel at o
   obtain⟨⟨n,s⟩,f,i⟩:=Qkq.mp o
   dsimp only at i
   split at i
   ·rename_i c
    cases i
    simp only[QCq] at c
    have:s=NameKind.free:=by simpa using c.1.1
    rw[←this]
    exact f
   ·cases i
    rcases g with z|z
    ·have:=QUq.mp q _ f
     rw[z] at this
     simp at this
    ·rw[←z];exact f
  obtain⟨c,g⟩:=rf (cells:=X.env.cells) d.names [] (.inl l)
  exact kP g
 cap:=λk j x A m=>by
  obtain⟨a,b,c⟩:=qN u A m
  refine⟨a,b,?_⟩
  unfold relabel
  exact mU c
 len:=w
structure eZ(P:Program)(w:World)(K:PySem.W.Frag)(mg:Str->Option Value)(base:Heap)(k:Nat)(x:Str)(ps:List Str)(F:de):Prop where
 ex:∃f fd,a_ P w K mg base dA k f fd ps (dQ ⟨K,mg⟩ ps.length F)/\Binds K fd ps []/\PySem.W.keepIn K (.ref f)=true/\mg x=some (.ref f)
section
variable{X:Cx}{x:Str}{k n:Nat}{ps:List Str}{F:de}{e:Expr}{es:List Expr}{g:fN}{p pos:Pos}
def LY(C:eZ X.prog X.w X.K X.mg X.base k x ps F)(d:eE k X.A)(i:Gl X x)(j:PA X (e::es) (yu (md X) g))(c:nA ps.length g)
  (a:(x==("__debug__":Str))=false:=by decide) (he:starEach (e::es) X.env=(false,eval e X.env)::starEach es X.env:=by rfl) (hpl:(backTo pos (starEach es X.env)).any (·.1)=false:=by rfl):
  PE X (.Call (.Name x p) (e::es) [] pos) (tD (md X) (aB F g)):=by
 obtain⟨f,l,G,b,h,m⟩:=C.ex
 exact JE G d i m h b j c a he hpl
def L_(C:eZ X.prog X.w X.K X.mg X.base k x ps F)(d:eE k X.A)(i:Gl X x)(j:PA X (e::es) (yu (md X) g))(c:nA ps.length g)
  (a:(x==("__debug__":Str))=false:=by decide) (he:starEach (e::es) X.env=(false,eval e X.env)::starEach es X.env:=by rfl) (hpl:(backTo pos (starEach es X.env)).any (·.1)=false:=by rfl):
  PE X (.Call (.Name x p) (e::es) [] pos) (tL (md X) (dM F g)):=by
 obtain⟨f,l,G,b,h,m⟩:=C.ex
 exact Jd G d i m h b j c a he hpl
end
def eZ.mono{P:Program}{w:World}{K:PySem.W.Frag}{mg:Str->Option Value}{base:Heap}{j k:Nat}{x:Str}{ps:List Str}{F:de}(C:eZ P w K mg base j x ps F)(h:j<=k):eZ P w K mg base k x ps F:=by
 obtain⟨f,a,G,b,c,m⟩:=C.ex
 exact⟨f,a,G.mono h,b,c,m⟩
structure Bl(mg:Str->Option Value):Prop where
 len:mg "len"=none
 tuple:mg "tuple"=none
 list:mg "list"=none
 dict:mg "dict"=none
 set:mg "set"=none
 int:mg "int"=none
 str:mg "str"=none
 bool:mg "bool"=none
 all:mg "all"=none
 any:mg "any"=none
 range:mg "range"=none
 zip:mg "zip"=none
 sorted:mg "sorted"=none
 isi:mg "isinstance"=none
 min:mg "min"=none
 max:mg "max"=none
 abs:mg "abs"=none
 enum:mg "enumerate"=none
 reversed:mg "reversed"=none
open AutoSeq1 in
def lj(l:Addr)(items:Array Value)(n:Nat)(b:Addr)(a:Array Value)(j:Nat)(o:Option Addr)(sl:Array (Option Value))(m:¬(!items.isEmpty&&Builtin.List.listTooLong (items.size+a.size))=true)(c:items.size<=sizeLine)(e:items.size+a.size<=sizeLine+1):
  Meets (Builtin.«list.extend» ⟨[.ref l,.ref b],[]⟩) (λ_ R s=>s.heap.get? l=some {cls:=.type "list",dict:=none,data:=.seq items n,slots:= #[]}/\s.heap.get? b=some {cls:=.type "tuple",dict:=o,data:=.seq a j,slots:=sl}/\R (.ok (.ret Value.none)) {s with heap:=s.heap.update l (Obj.mapSeq λx=>x++a),toks:=s.toks}):=
 .of_wp λi w A R s h=>by
  obtain⟨p,g,d,u,t⟩:=s;obtain⟨hl,k,h⟩:=h;have q:=idx_int;have v:=AutoSeq1.sub_tuple_tuple;have r:=AutoSeq1.sub_list_list;have y:=AutoSeq1.sub_tuple_list;have z:=AutoSeq1.sub_list_tuple;
  have f:(items++a).size<=sizeLine+1:=by rw[Array.size_append];exact e
  wp_walk using (wpAny_updateSeq hl rfl (hz:=c) (_hz':=f)),AutoSeq1.wpAny_loadPart' hl,AutoSeq1.wpAny_loadPart' k;exact⟨_,rfl,h⟩
section
variable{X:Cx}{a b c e:Expr}{pos:Pos}{st:Stmt}
def Gm:Na X "list.extend" (λx vs H Q=>∃l b xs i,x=.ref l/\vs= [.ref b]/\H l=some (.lst xs)/\gr X.K H b i/\xs.length+i.length<=sizeLine/\Q .non (upd H l (.lst (xs++i)))):=by
 intro p s N H x vs v P Q I G M h
 obtain⟨l,b,xs,i,rfl,rfl,hH,hB,hz,q⟩:=h
 cases G
 obtain⟨u,rfl,ru⟩:=M.one
 cases ru
 obtain⟨z,f,n,r,hl,e⟩:=I.lstM hH
 obtain⟨d,o,⟨⟨y,J,C,sl⟩,t,k,w,m⟩,A⟩:=I.tuple hB
 have B:=o.length
 simp only at k m
 subst k m
 have j:f.toArray.size+d.toArray.size<=sizeLine:=by rw[Qjq,Qjq];omega
 have g:¬(!f.toArray.isEmpty&&Builtin.List.listTooLong (f.toArray.size+d.toArray.size))=true:=by
  rw[wZ j,Bool.and_false]
  exact Qtq
 refine call_meets F.slot_list_extend ⟨_,e,rfl⟩ F.entry_list_extend (F.args_list_extend_2 _ _)
  (lj l f.toArray n b d.toArray w J sl g (by rw[Qjq];omega) (by omega)) ⟨e,t,?_⟩
 refine⟨.non,_,I.lset (its':=f++d) hH e (by simp) (r.append o) ?_,rfl,q⟩
 rw[lQa]
 omega
def tX(f:aV)(g:eU):aV:=λd S=>(f d S).bind λ(x,i)=>match x with
 | .ref k=>(g d i).bind λ(p,h)=>match i[k]?,h[k]? with
   |some (.lst _),some (.lst ds)=>if p.2.isL=false/\ds.length+p.1.length<=sizeLine then some (.non,h.set k (.lst (ds++p.1))) else none
   |_,_=>none
 |_=>none
def IG{f:aV}{g:eU}:∀u H Q,tD (md X) (tX f g) u H Q->MB X.K "list" (λx vs H Q=>∃l b xs o,x=.ref l/\vs= [.ref b]/\H l=some (.lst xs)/\gr X.K H b o/\xs.length+o.length<=sizeLine/\Q .non (upd H l (.lst (xs++o)))) (tD (md X) f) (DU (tQ (md X) g) Gi) u H Q:=λu H Q J=>by
 obtain⟨Y,A,S,d,S',ok,e,q⟩:=J
 obtain⟨⟨x,B⟩,N,e⟩:=aq e
 cases x with
 | ref k=>
   dsimp only at e
   obtain⟨⟨⟨Z,t⟩,S2⟩,I,e⟩:=aq e
   dsimp only at e
   split at e
   · rename_i R ds n j
     split at e
     · rename_i c
       obtain⟨rfl,rfl⟩:=bN e
       refine⟨Y,A,S,_,B,ok,N,λp v H1 C i P=> ?_⟩
       cases P with
       | ref F=>
         rename_i a
         obtain⟨s,W,_⟩:=i.obj k a _ F n
         refine⟨.inl ⟨rfl,s,jC.of W⟩,p,A,B,Z,t,S2,ok.to C i,I,λU b us H2 y h G z=> ?_⟩
         have m:=bU y.pre F
         obtain⟨vs,h3,w⟩:=h.obj k a _ m j
         refine⟨a,b,vs,us,rfl,rfl,h3,G.sqT c.1,by rw[←w.length,←z.length];exact c.2,?_⟩
         obtain⟨r,M⟩:=h.putL m j (w.append z)
         exact q _ _ _ ((C.trans y).trans M) r .non
     · cases e
   · cases e
 |_=>cases e
def Ky{f:aV}{g:eU}{o:Expr}{h d:Pos}(m:PE X o (tD (md X) f))(n:PE X e (tQ (md X) g))(i:attributeBase o "extend" X.env (eval o X.env)=eval o X.env:=by rfl) (k:((backTo d (starEach [e] X.env)).all (λx=> !x.1)&&(backToKw d (keywordEach [] X.env)).all (λx=>x.1.isSome)
   &&decide ([e].length+([]:List Keyword).length+(if ([]:List Keyword).isEmpty then 0 else 1)<30))=true:=by rfl)
  (j:(h.endLine==d.line)=true:=by rfl) (l:starEach [e] X.env= [(false,eval e X.env)]:=by rfl):PE X (.Call (.Attribute o "extend" h) [e] [] d) (tD (md X) (tX f g)):=
 jD (yi PySem.F.plainAttrs_list PySem.F.slot_list_extend PySem.F.type_list_extend Gm m (bQ n dX l) i k j l) IG
def jQ(x:V):List V->Option Nat
 | []=>none
 |y::r=>if vW y x=true then some 0 else(jQ x r).map (·+1)
theorem A0{x:V}:∀{xs:List V} {j:Nat},jQ x xs=some j->(∃y,xs[j]?=some y/\vW y x=true)/\∀m y,m<j->xs[m]?=some y->vW y x=false
 | [],_,h=>by cases h
 | y::r,j,h=>by
   unfold jQ at h
   split at h
   · rename_i c
     cases h
     exact⟨⟨y,rfl,c⟩,λm _ f=>absurd f (Nat.not_lt_zero _)⟩
   · rename_i c
     obtain⟨i,n,rfl⟩:=oQm.mp h
     obtain⟨⟨z,l,g⟩,k⟩:=A0 n
     refine⟨⟨z,by simpa using l,g⟩,λm w f d=> ?_⟩
     cases m with
     |zero=>cases d;simpa using c
     |succ m=>exact k m w (by omega) (by simpa using d)
def D_:K4 X "list.index" (λx vs H Q=>∃a xs y j,x=.ref a/\vs= [y]/\jC X.K H a xs/\jr y=true/\xs.all jr=true/\jQ y xs=some j/\Q (.int (j:Nat)) H):=by
 intro G s σ H x vs v us Q I Y rv h
 obtain⟨a,xs,y,j,rfl,rfl,hq,fy,fs,hj,q⟩:=h
 cases Y
 obtain⟨u,rfl,ru⟩:=rv.one
 obtain⟨f,r,Z,hz⟩:=I.list hq
 obtain⟨⟨U,dd,W,sl⟩,n,e,B,g,C⟩:=Z
 simp only at B g C
 subst B g C
 obtain⟨⟨z,A,M⟩,h3⟩:=A0 hj
 have hl:=r.length
 have R:j<xs.length:=(gQs.mp A).1
 obtain⟨w,l,o⟩:=r.get A
 have k:f.toArray[j]'(by rw[Qjq];omega)=w:=by
  have:=(gQs.mp l).2
  simpa using this
 have J:=lq
 refine call_meets PySem.F.slot_list_index ⟨_,e,rfl⟩ PySem.F.entry_list_index (PySem.F.args_list_index_2 _ _)
  (SeqAt.list_indexAt a f.toArray n none sl u (yQ y) j (by rw[Qjq];omega) (by omega) (by rw[k,vf o (QUq.mp fs z (mQg A))];exact M) λm P p=> ?_)
  ⟨e,λw l=>iA ru fy r fs w (by simpa using l),⟨.int j,H,I.tok _,⟨_,rfl⟩,q⟩⟩
 have d:m<xs.length:=by rw[Qjq] at P;omega
 obtain⟨S,i,t⟩:=r.get (gQe d)
 have N:f.toArray[m]=S:=by
  have:=(gQs.mp i).2
  simpa using this
 rw[N,vf t (QUq.mp fs _ (List.getElem_mem d))]
 exact h3 m _ p (gQe d)
end
end DL
namespace Zq
open PySem
def It(t:Bool)(h:Heap)(i a:Addr)(k:Nat):Prop:=if t=true then h.IsTupleIter i a k else h.IsListIter i a k
def Sq(t:Bool)(h:Heap)(a:Addr)(xs:Array Value):Prop:=if t=true then h.IsTuple a xs else h.IsList a xs
section
variable{t t2:Bool}{h h':Heap}{i j a b z O T:Addr}{k:Nat}{xs ys:Array Value}
theorem It.at(g:It t h i a k)(f:∀o,h.get? i=some o->h'.get? i=some o):It t h' i a k:=by
 cases t with
 |true=>exact(show h.IsTupleIter i a k from g).at f
 |false=>exact(show h.IsListIter i a k from g).at f
def It.ext{c:Addr}(g:It t h i a k)(f:Heap.ExtBut c h h')(n:i≠c):It t h' i a k:=g.at λo e=>f i o n e
def Sq.at(g:Sq t h a xs)(f:∀o,h.get? a=some o->h'.get? a=some o):Sq t h' a xs:=by
 cases t with
 |true=>obtain⟨o,e,r⟩:=(show h.IsTuple a xs from g);exact(show h'.IsTuple a xs from⟨o,f o e,r⟩)
 |false=>obtain⟨o,e,r⟩:=(show h.IsList a xs from g);exact(show h'.IsList a xs from⟨o,f o e,r⟩)
def Sq.ext{c:Addr}(g:Sq t h a xs)(f:Heap.ExtBut c h h')(n:a≠c):Sq t h' a xs:=g.at λo e=>f a o n e
def It.obj(g:It t h i a k):∃o,h.get? i=some o/\∀v,o.data≠.cell v:=by
 cases t with
 |true=>obtain⟨o,e,_,d⟩:=(show h.IsTupleIter i a k from g);exact⟨o,e,λv n=>by rw[d] at n;cases n⟩
 |false=>obtain⟨o,e,_,d⟩:=(show h.IsListIter i a k from g);exact⟨o,e,λv n=>by rw[d] at n;cases n⟩
end
section
variable{prog:Program}{w:World}{A:Around}{E:Value->Shared->Prop}{s:Shared}{t t2:Bool}{z T O i j a b:Addr}{k:Nat}{xs ys:Array Value}{x y u v:Value}
def draw{Q:Value->Shared->Prop}(e:It t s.heap i a k)(c:Sq t s.heap a xs)(d:xs[k]?=some v)
  (q:∀h',It t h' i a (k+1)->Heap.SameBut i s.heap h'->Q v {s with heap:=h'}):wpAny (model prog w) A (Builtin.SmallTypes.nextOf (.ref i)) Q E s:=by
 cases t with
 |true=>exact Zp.Mh e c d q
 |false=>exact wpAny_nextOf_list_item e c d q
def Bp{Q:Value->Shared->Prop}(f:A.handled=none)(g:It t s.heap i a k)(c:Sq t s.heap a xs)(d:xs[k]?=none)
  (q:∀h' e,Heap.ExtBut i s.heap h'->(∃o,h'.get? e=some o/\o.cls=.type "StopIteration")->E (.ref e) {s with heap:=h'}):wpAny (model prog w) A (Builtin.SmallTypes.nextOf (.ref i)) Q E s:=by
 cases t with
 |true=>exact Zp.Ma f g c d q
 |false=>exact wpAny_nextOf_list_end f g c d q
abbrev sR(h:Heap)(z T O:Addr)(c d:Value):Prop:=
 h.get? z=some {cls:=.type "zip",dict:=none,data:=.fields #[c,d,.bool false,.ref T,.ref O],slots:= #[]}
def item(D:ZipApart z T O i j a b){Q:Value->Shared->Prop}(p:sR s.heap z T O .none (.bool false))(gT:IsPair s.heap T (.ref i) (.ref j))(gO:IsPair s.heap O u v)(gi:It t s.heap i a k)(gj:It t2 s.heap j b k)
  (ga:Sq t s.heap a xs) (gb:Sq t2 s.heap b ys) (ex:xs[k]?=some x) (ey:ys[k]?=some y)
  (q:∀h',sR h' z T O (rawInt s.heap.objs.size) (.bool false)->IsPair h' O x y->It t h' i a (k+1)->It t2 h' j b (k+1)->IsPair h' s.heap.objs.size x y->Zp.Rest z O i j s.heap h'->Q (.ref s.heap.objs.size) {s with heap:=h'}):
  wpAny (model prog w) A (Builtin.«zip.__next__» ⟨[.ref z],[]⟩) (λI s'=>∃r,I=.done (.ret r)/\Q r s') E s:=by
 refine(?_:wpAny _ _ (field (.ref z) 2 >>= _) _ _ _)
 refine Qaq (QMq p rfl (x:=.bool false) rfl ?_)
 refine(?_:wpAny _ _ (field (.ref z) 3 >>= _) _ _ _)
 refine Qaq (QMq p rfl (x:=.ref T) rfl (Qaq (wpAny_seqItems gT rfl ?_)))
 refine(?_:wpAny _ _ (Builtin.SmallTypes.ownedTupleIsFree (.ref z) >>= _) _ _ _)
 refine Qaq ?_
 unfold Builtin.SmallTypes.ownedTupleIsFree
 refine Qaq (QMq p rfl (x:=.none) rfl (Qgq ?_))
 simp only[if_true]
 refine Qaq (wpAny_rule (Qaq (QMq p rfl (x:=.ref O) rfl (Qaq (wpAny_setField_rec p (by simp) λh1 P g=> ?_)))))
 replace P:sR h1 z T O .ellipsis (.bool false):=P
 refine Qaq ?_
 simp only[List.zipIdx_cons,List.zipIdx_nil,List.forIn_nil,List.forIn_cons]
 refine Qaq (Qaq (wpAny_onRaise ?_))
 refine(?_:wpAny _ _ (Builtin.SmallTypes.nextOf (.ref i) >>= _) _ _ _)
 refine Qaq (draw (gi.ext g.extBut D.i1z) (ga.ext g.extBut D.l1z) ex λh2 i2 h=>Qgq ?_)
 have Z:IsPair h2 O u v:=h.extBut _ _ D.TOi1 (g.extBut _ _ D.TOz gO)
 refine Qaq (wpAny_seqItems Z rfl (Qaq (wpAny_updateSeq_pair Z λh3 K l=>Qaq (wpAny_letGo (Qgq ?_)))))
 replace K:IsPair h3 O x v:=K
 refine Qaq (Qaq (wpAny_onRaise ?_))
 refine(?_:wpAny _ _ (Builtin.SmallTypes.nextOf (.ref j) >>= _) _ _ _)
 refine Qaq (draw (((gj.ext g.extBut D.i2z).ext h.extBut D.i12.symm).ext l.extBut D.TOi2.symm) (((gb.ext g.extBut D.l2z).ext h.extBut D.l2i1).ext l.extBut D.l2TO) ey λh4 j4 m=>Qgq ?_)
 have W:IsPair h4 O x v:=m.extBut _ _ D.TOi2 K
 refine Qaq (wpAny_seqItems W rfl (Qaq (wpAny_updateSeq_pair W λd F n=>Qaq (wpAny_letGo (Qgq (Qgq ?_))))))
 replace F:IsPair d O x y:=F
 refine Qaq (wpAny_seqItems F rfl (Qaq (wpAny_newTuple ?_)))
 have X:d.objs.size=s.heap.objs.size:=by rw[n.1,m.1,l.1,h.1,g.1]
 have S:sR d z T O .ellipsis (.bool false):=n.extBut _ _ D.TOz.symm (m.extBut _ _ D.i2z.symm (l.extBut _ _ D.TOz.symm (h.extBut _ _ D.i1z.symm P)))
 have r5:Zp.Rest z O i j s.heap d:=λc o f C N J e=>n.extBut _ _ C (m.extBut _ _ J (l.extBut _ _ C (h.extBut _ _ N (g.extBut _ _ f e))))
 have i5:It t d i a (k+1):=((i2.ext l.extBut D.TOi1.symm).ext m.extBut D.i12).ext n.extBut D.TOi1.symm
 have j5:It t2 d j b (k+1):=j4.ext n.extBut D.TOi2.symm
 have Y:z<d.objs.size:=Qiq S
 refine(?_:wpAny _ _ (Builtin.SmallTypes.ownedTupleHandOut (.ref z) (.ref d.objs.size) >>= _) _ _ _)
 refine Qaq ?_
 unfold Builtin.SmallTypes.ownedTupleHandOut
 have z6:sR (d.push {cls:=.type "tuple",data:=.seq #[x,y]}) z T O .ellipsis (.bool false):=Qcq _ S
 refine Qaq (wpAny_setField_rec z6 (by simp) λh7 M R=> ?_)
 replace M:sR h7 z T O (rawInt d.objs.size) (.bool false):=M
 refine wpAny_setField_rec M (by simp) λG H U=> ?_
 replace H:sR G z T O (rawInt d.objs.size) (.bool false):=H
 have B:∀c o,c≠z->d.get? c=some o->G.get? c=some o:=λc o f e=>U.extBut _ _ f (R.extBut _ _ f (Qcq _ e))
 have n8:IsPair G d.objs.size x y:=U.extBut _ _ (Nat.ne_of_gt Y) (R.extBut _ _ (Nat.ne_of_gt Y) (Qrq _ rfl))
 rw[X] at H n8
 refine Qgq ⟨_,rfl,?_⟩
 refine(?_:Q (.ref d.objs.size) _)
 rw[X]
 exact q G H (B _ _ D.TOz F) (i5.at λo e=>B _ o D.i1z e) (j5.at λo e=>B _ o D.i2z e) n8 λc o f C N J e=>B c o f (r5 c o f C N J e)
def alive{α:Addr}{Q:Option Obj->Shared->Prop}(h:Q (s.heap.get? α) s):wpAny (model prog w) A (loadIfAlive α) Q E s:=λ_ _ _=>h
def again(D:ZipApart z T O i j a b){p:Addr}{K:Obj}{m:Value}{Q:Value->Shared->Prop}(l:sR s.heap z T O (rawInt p) m)(W:s.heap.get? p=some K)(gT:IsPair s.heap T (.ref i) (.ref j))(M:It t s.heap i a k)(S:It t2 s.heap j b k)
  (ga:Sq t s.heap a xs) (X:Sq t2 s.heap b ys) (ex:xs[k]?=some x) (R:ys[k]?=some y)
  (q:∀h',sR h' z T O (rawInt p) (.bool true)->It t h' i a (k+1)->It t2 h' j b (k+1)->IsPair h' s.heap.objs.size x y->Zp.Rest z O i j s.heap h'->Q (.ref s.heap.objs.size) {s with heap:=h'}):
  wpAny (model prog w) A (Builtin.«zip.__next__» ⟨[.ref z],[]⟩) (λG s'=>∃r,G=.done (.ret r)/\Q r s') E s:=by
 refine(?_:wpAny _ _ (field (.ref z) 2 >>= _) _ _ _)
 refine Qaq (QMq l rfl (x:=.bool false) rfl ?_)
 refine(?_:wpAny _ _ (field (.ref z) 3 >>= _) _ _ _)
 refine Qaq (QMq l rfl (x:=.ref T) rfl (Qaq (wpAny_seqItems gT rfl ?_)))
 refine(?_:wpAny _ _ (Builtin.SmallTypes.ownedTupleIsFree (.ref z) >>= _) _ _ _)
 refine Qaq ?_
 unfold Builtin.SmallTypes.ownedTupleIsFree
 refine Qaq (QMq l rfl (x:=rawInt p) rfl ?_)
 refine(?_:wpAny _ _ (loadIfAlive ((p:Int).toNat) >>= _) _ _ _)
 refine Qaq ?_
 rw[Int.toNat_natCast]
 refine alive ?_
 rw[W]
 refine(?_:wpAny _ _ (field (.ref z) 1 >>= _) _ _ _)
 refine Qaq (QMq l rfl (x:=m) rfl ?_)
 have I:wpAny (model prog w) A (if (m !=Value.bool true)=true then(do let _←setField (.ref z) 1 (.bool true);pure false) else pure false)
   (λr s'=>r=false/\∃g,s'={s with heap:=g}/\sR g z T O (rawInt p) (.bool true)/\Heap.SameBut z s.heap g) E s:=by
  by_cases c:(m !=Value.bool true)=true
  ·rw[Qhq c]
   exact Qaq (wpAny_setField_rec l (by simp) λg H d=>Qgq ⟨rfl,g,rfl,H,d⟩)
  ·rw[Quq c]
   have e:m=Value.bool true:=by simpa using c
   subst e
   exact Qgq ⟨rfl,s.heap,rfl,l,Heap.SameBut.refl _ _⟩
 refine QRq I (λr s' F=> ?_) λ_ _ h=>h
 obtain⟨rfl,g,rfl,H,d⟩:=F
 simp only[Bool.false_eq_true,if_false]
 refine Qaq ?_
 simp only[List.forIn_toArray,List.forIn_cons,List.forIn_nil]
 refine Qaq (Qaq (QLq ?_))
 refine(?_:wpAny _ _ (Builtin.SmallTypes.nextOf (.ref i) >>= _) _ _ _)
 refine Qaq (draw (M.ext d.extBut D.i1z) (ga.ext d.extBut D.l1z) ex λh2 U n=>Qgq (Qgq ?_))
 refine Qaq (Qaq (QLq ?_))
 refine(?_:wpAny _ _ (Builtin.SmallTypes.nextOf (.ref j) >>= _) _ _ _)
 refine Qaq (draw ((S.ext d.extBut D.i2z).ext n.extBut D.i12.symm) ((X.ext d.extBut D.l2z).ext n.extBut D.l2i1) R λf N C=>Qgq (Qgq (Qgq ?_)))
 refine Qaq (wpAny_newTuple ?_ (by show 2<=_;decide))
 have Y:f.objs.size=s.heap.objs.size:=by rw[C.1,n.1,d.1]
 have B:∀c o,f.get? c=some o->(f.push {cls:=.type "tuple",data:=.seq #[x,y]}).get? c=some o:=λc o e=>Qcq _ e
 have J:IsPair (f.push {cls:=.type "tuple",data:=.seq #[x,y]}) f.objs.size x y:=Qrq _ rfl
 have z8:sR (f.push {cls:=.type "tuple",data:=.seq #[x,y]}) z T O (rawInt p) (.bool true):=B _ _ (C.extBut _ _ D.i2z.symm (n.extBut _ _ D.i1z.symm H))
 refine Qgq ⟨_,rfl,?_⟩
 refine(?_:Q (.ref f.objs.size) _)
 rw[Y] at J⊢
 exact q _ z8 ((U.ext C.extBut D.i12).at λo e=>B _ o e) (N.at λo e=>B _ o e) J λc o Z c2 c3 P e=>B c o (C.extBut _ _ P (n.extBut _ _ c3 (d.extBut _ _ Z e)))
def stop(D:ZipApart z T O i j a b){Q:Fin->Shared->Prop}(G:A.handled=none)(d:sR s.heap z T O .none (.bool false))(K:IsPair s.heap T (.ref i) (.ref j))(H:It t s.heap i a k)(M:Sq t s.heap a xs)(ex:xs[k]?=none)
  (q:∀h' e,Zp.Rest z O i j s.heap h'->(∃o,h'.get? e=some o/\o.cls=.type "StopIteration")->E (.ref e) {s with heap:=h'}):
  wpAny (model prog w) A (Builtin.«zip.__next__» ⟨[.ref z],[]⟩) Q E s:=by
 refine(?_:wpAny _ _ (field (.ref z) 2 >>= _) _ _ _)
 refine Qaq (QMq d rfl (x:=.bool false) rfl ?_)
 refine(?_:wpAny _ _ (field (.ref z) 3 >>= _) _ _ _)
 refine Qaq (QMq d rfl (x:=.ref T) rfl (Qaq (wpAny_seqItems K rfl ?_)))
 refine(?_:wpAny _ _ (Builtin.SmallTypes.ownedTupleIsFree (.ref z) >>= _) _ _ _)
 refine Qaq ?_
 unfold Builtin.SmallTypes.ownedTupleIsFree
 refine Qaq (QMq d rfl (x:=.none) rfl (Qgq ?_))
 simp only[if_true]
 refine Qaq (wpAny_rule (Qaq (QMq d rfl (x:=.ref O) rfl (Qaq (wpAny_setField_rec d (by simp) λN g h=> ?_)))))
 replace g:sR N z T O .ellipsis (.bool false):=g
 refine Qaq ?_
 simp only[List.zipIdx_cons,List.zipIdx_nil,List.forIn_nil,List.forIn_cons]
 refine Qaq (Qaq (wpAny_onRaise ?_))
 refine(?_:wpAny _ _ (Builtin.SmallTypes.nextOf (.ref i) >>= _) _ _ _)
 refine Qaq (Bp G (H.ext h.extBut D.i1z) (M.ext h.extBut D.l1z) ex λC e p F=> ?_)
 obtain⟨I,f,B⟩:=F
 have l:sR C z T O .ellipsis (.bool false):=p _ _ D.i1z.symm g
 have J:e≠z:=λn=>by rw[n,l] at f;cases f;simp at B
 exact wpAny_setField_rec l (by simp) λP _ r=>q P e (λc o m _ R _ n=>r.extBut _ _ m (p _ _ R (h.extBut _ _ m n))) ⟨I,r.extBut _ _ J f,B⟩
def LS(D:ZipApart z T O i j a b){p:Addr}{H:Obj}{g:Value}{Q:Fin->Shared->Prop}(I:A.handled=none)(f:sR s.heap z T O (rawInt p) g)(K:s.heap.get? p=some H)(P:IsPair s.heap T (.ref i) (.ref j))(J:It t s.heap i a k)(S:Sq t s.heap a xs)(ex:xs[k]?=none)
  (q:∀h' e,Zp.Rest z O i j s.heap h'->(∃o,h'.get? e=some o/\o.cls=.type "StopIteration")->E (.ref e) {s with heap:=h'}):
  wpAny (model prog w) A (Builtin.«zip.__next__» ⟨[.ref z],[]⟩) Q E s:=by
 refine(?_:wpAny _ _ (field (.ref z) 2 >>= _) _ _ _)
 refine Qaq (QMq f rfl (x:=.bool false) rfl ?_)
 refine(?_:wpAny _ _ (field (.ref z) 3 >>= _) _ _ _)
 refine Qaq (QMq f rfl (x:=.ref T) rfl (Qaq (wpAny_seqItems P rfl ?_)))
 refine(?_:wpAny _ _ (Builtin.SmallTypes.ownedTupleIsFree (.ref z) >>= _) _ _ _)
 refine Qaq ?_
 unfold Builtin.SmallTypes.ownedTupleIsFree
 refine Qaq (QMq f rfl (x:=rawInt p) rfl ?_)
 refine(?_:wpAny _ _ (loadIfAlive ((p:Int).toNat) >>= _) _ _ _)
 refine Qaq ?_
 rw[Int.toNat_natCast]
 refine alive ?_
 rw[K]
 refine(?_:wpAny _ _ (field (.ref z) 1 >>= _) _ _ _)
 refine Qaq (QMq f rfl (x:=g) rfl ?_)
 have B:wpAny (model prog w) A (if (g !=Value.bool true)=true then(do let _←setField (.ref z) 1 (.bool true);pure false) else pure false)
   (λr F=>r=false/\∃d,F={s with heap:=d}/\sR d z T O (rawInt p) (.bool true)/\Heap.SameBut z s.heap d) E s:=by
  by_cases c:(g !=Value.bool true)=true
  ·rw[Qhq c]
   exact Qaq (wpAny_setField_rec f (by simp) λd C l=>Qgq ⟨rfl,d,rfl,C,l⟩)
  ·rw[Quq c]
   have e:g=Value.bool true:=by simpa using c
   subst e
   exact Qgq ⟨rfl,s.heap,rfl,f,Heap.SameBut.refl _ _⟩
 refine QRq B (λr F m=> ?_) λ_ _ h=>h
 obtain⟨rfl,d,rfl,C,l⟩:=m
 simp only[Bool.false_eq_true,if_false]
 refine Qaq ?_
 simp only[List.forIn_toArray,List.forIn_cons,List.forIn_nil]
 refine Qaq (Qaq (QLq ?_))
 refine(?_:wpAny _ _ (Builtin.SmallTypes.nextOf (.ref i) >>= _) _ _ _)
 refine Qaq (Bp I (J.ext l.extBut D.i1z) (S.ext l.extBut D.l1z) ex λG e N R=> ?_)
 exact q G e (λc o M _ U _ n=>N _ _ U (l.extBut _ _ M n)) R
def Zs(h:Heap)(z T O i j:Addr):Prop:=sR h z T O .none (.bool false)/\(∃u v,IsPair h O u v)\/∃(p:Addr) (c:Obj) (d:Value),sR h z T O (rawInt (p:Nat)) d/\h.get? p=some c/\p≠z/\p≠O/\p≠i/\p≠j
def Zs.but{h h':Heap}{S:Addr}(g:Zs h z T O i j)(f:∀c o,c≠S->h.get? c=some o->h'.get? c=some o)(e:z≠S)(m:O≠S)(q:∃o,h'.get? S=some o):Zs h' z T O i j:=by
 rcases g with⟨d,u,v,B⟩|⟨p,r,l,d,C,n⟩
 ·exact .inl ⟨f _ _ e d,u,v,f _ _ m B⟩
 ·by_cases c:p=S
  ·subst c
   obtain⟨o,F⟩:=q
   exact .inr ⟨p,o,l,f _ _ e d,F,n⟩
  ·exact .inr ⟨p,r,l,f _ _ e d,f _ _ c C,n⟩
def Fw(D:ZipApart z T O i j a b){Q:Option Value->Shared->Prop}(d:Zs s.heap z T O i j)(P:IsPair s.heap T (.ref i) (.ref j))(r:It t s.heap i a k)(B:It t2 s.heap j b k)
  (R:Sq t s.heap a xs) (K:Sq t2 s.heap b ys) (ex:xs[k]?=some x) (I:ys[k]?=some y)
  (q:∀h',Zs h' z T O i j->It t h' i a (k+1)->It t2 h' j b (k+1)->IsPair h' s.heap.objs.size x y->Zp.Rest z O i j s.heap h'->Q (some (.ref s.heap.objs.size)) {s with heap:=h'}):
  wpAny (model prog w) A (pyNext (.ref z)) Q E s:=by
 unfold pyNext
 have h:∀{c o},s.heap.get? c=some o->s.heap.objs.size≠c:=λe=>Nat.ne_of_gt (Qiq e)
 obtain⟨oi,X,_⟩:=r.obj
 obtain⟨oj,W,_⟩:=B.obj
 rcases d with⟨d,u,v,J⟩|⟨p,U,Y,d,M,G,N,H,S⟩
 ·have f:s.TypeIs (.ref z) "zip":=⟨_,d,rfl⟩
  exact Qaq (wpAny_attempt (QiQ (name:=Str.ofString "__next__") f F.slot_zip_next (wpAny_call_entry F.slot_zip_next f F.entry_zip_next
   (item D d P J r B R K ex I λh' n Z m C l g=>Qgq (q h' (.inr ⟨_,_,_,n,l,h d,h J,h X,h W⟩) m C l g)) (F.args_zip_next_1 _))))
 ·have f:s.TypeIs (.ref z) "zip":=⟨_,d,rfl⟩
  exact Qaq (wpAny_attempt (QiQ (name:=Str.ofString "__next__") f F.slot_zip_next (wpAny_call_entry F.slot_zip_next f F.entry_zip_next
   (again D d M P r B R K ex I λh' n m C l g=>Qgq (q h' (.inr ⟨p,U,_,n,g _ _ G N H S M,G,N,H,S⟩) m C l g)) (F.args_zip_next_1 _))))
def yD(D:ZipApart z T O i j a b){Q:Option Value->Shared->Prop}(h:A.handled=none)(c:Zs s.heap z T O i j)(m:IsPair s.heap T (.ref i) (.ref j))(l:It t s.heap i a k)(n:Sq t s.heap a xs)(ex:xs[k]?=none)
  (q:∀h',Zp.Rest z O i j s.heap h'->Q none {s with heap:=h'}):wpAny (model prog w) A (pyNext (.ref z)) Q E s:=by
 unfold pyNext
 rcases c with⟨c,u,v,H⟩|⟨p,C,G,c,B,_⟩
 ·have d:s.TypeIs (.ref z) "zip":=⟨_,c,rfl⟩
  exact Qaq (wpAny_attempt (QiQ (name:=Str.ofString "__next__") d F.slot_zip_next (wpAny_call_entry F.slot_zip_next d F.entry_zip_next
   (stop D h c m l n ex λh' e r ⟨o,g,f⟩=>Qaq (wpAny_isInstance (T:="StopIteration") (b:=true) ⟨o,g,f⟩ isSubtype_stop (Qgq (q _ r)))) (F.args_zip_next_1 _))))
 ·have d:s.TypeIs (.ref z) "zip":=⟨_,c,rfl⟩
  exact Qaq (wpAny_attempt (QiQ (name:=Str.ofString "__next__") d F.slot_zip_next (wpAny_call_entry F.slot_zip_next d F.entry_zip_next
   (LS D h c B m l n ex λh' e r ⟨o,g,f⟩=>Qaq (wpAny_isInstance (T:="StopIteration") (b:=true) ⟨o,g,f⟩ isSubtype_stop (Qgq (q _ r)))) (F.args_zip_next_1 _))))
end
def NP(t:Bool):String:=if t=true then "tuple_iterator" else "list_iterator"
abbrev H1(t:Bool)(h:Heap)(a:Addr):Heap:=h.push {cls:=.type (NP t),data:=.fields #[.ref a,.int 0 0]}
abbrev H2(t t2:Bool)(h:Heap)(a b:Addr):Heap:=(H1 t h a).push {cls:=.type (NP t2),data:=.fields #[.ref b,.int 0 0]}
abbrev H3(t t2:Bool)(h:Heap)(a b:Addr):Heap:=(H2 t t2 h a b).push {cls:=.type "tuple",data:=.seq #[.ref h.objs.size,.ref (H1 t h a).objs.size]}
abbrev H4(t t2:Bool)(h:Heap)(a b:Addr):Heap:=(H3 t t2 h a b).push {cls:=.type "tuple",data:=.seq #[.none,.none]}
abbrev H5(t t2:Bool)(h:Heap)(a b:Addr):Heap:=(H4 t t2 h a b).push {cls:=.type "zip",data:=.fields #[.none,.bool false,.bool false,.ref (H2 t t2 h a b).objs.size,.ref (H3 t t2 h a b).objs.size]}
def Sq.push{t:Bool}{h:Heap}{a:Addr}{xs:Array Value}(g:Sq t h a xs)(o:Obj):Sq t (h.push o) a xs:=g.at λ_ e=>Qcq _ e
def CC(t t2:Bool)(a b:Addr)(xs ys:Array Value):Meets (Builtin.«zip.__new__» ⟨[.type "zip",.ref a,.ref b],[]⟩) (λ_ R s=>Sq t s.heap a xs/\Sq t2 s.heap b ys/\R (.ok (.ret (.ref (H4 t t2 s.heap a b).objs.size))) {s with heap:=H5 t t2 s.heap a b}):=
 .of_wp λm w A R s h=>by
  obtain⟨e,g,d,i,f⟩:=s
  obtain⟨l,o,h⟩:=h
  have n:=sub_zip
  have c:=o.push {cls:=.type (NP t),data:=.fields #[.ref a,.int 0 0]}
  cases t <;>cases t2
  ·have k:Heap.IsList (Shared.heap ⟨e,g,d,i,f⟩) a xs:=l
   have j:Heap.IsList (Shared.heap ⟨e.push {cls:=.type "list_iterator",data:=.fields #[.ref a,.int 0 0]},g,d,i,f⟩) b ys:=c
   wp_walk using wpAny_pyIter_list k,wpAny_pyIter_list j
   exact⟨_,rfl,h⟩
  ·have k:Heap.IsList (Shared.heap ⟨e,g,d,i,f⟩) a xs:=l
   have j:Heap.IsTuple (Shared.heap ⟨e.push {cls:=.type "list_iterator",data:=.fields #[.ref a,.int 0 0]},g,d,i,f⟩) b ys:=c
   wp_walk using wpAny_pyIter_list k,wpAny_pyIter_tuple j
   exact⟨_,rfl,h⟩
  ·have k:Heap.IsTuple (Shared.heap ⟨e,g,d,i,f⟩) a xs:=l
   have j:Heap.IsList (Shared.heap ⟨e.push {cls:=.type "tuple_iterator",data:=.fields #[.ref a,.int 0 0]},g,d,i,f⟩) b ys:=c
   wp_walk using wpAny_pyIter_tuple k,wpAny_pyIter_list j
   exact⟨_,rfl,h⟩
  ·have k:Heap.IsTuple (Shared.heap ⟨e,g,d,i,f⟩) a xs:=l
   have j:Heap.IsTuple (Shared.heap ⟨e.push {cls:=.type "tuple_iterator",data:=.fields #[.ref a,.int 0 0]},g,d,i,f⟩) b ys:=c
   wp_walk using wpAny_pyIter_tuple k,wpAny_pyIter_tuple j
   exact⟨_,rfl,h⟩
section
variable{prog:Program}{w:World}{A:Around}{E:Value->Shared->Prop}{s:Shared}
def Ih{t t2:Bool}{a b:Addr}{xs ys:Array Value}{Q:Value->Shared->Prop}(r:Sq t s.heap a xs)(p:Sq t2 s.heap b ys)
  (q:∀h',sR h' (s.heap.objs.size+4) (s.heap.objs.size+2) (s.heap.objs.size+3) .none (.bool false)->IsPair h' (s.heap.objs.size+2) (.ref s.heap.objs.size) (.ref (s.heap.objs.size+1))->IsPair h' (s.heap.objs.size+3) .none .none→
   It t h' s.heap.objs.size a 0->It t2 h' (s.heap.objs.size+1) b 0->(∀c o,s.heap.get? c=some o->h'.get? c=some o)->Q (.ref (s.heap.objs.size+4)) {s with heap:=h'}):
  wpAny (model prog w) A (call (.type "zip") [.ref a,.ref b]) Q E s:=by
 refine callType_new F.called_zip (by decide) (F.typeCall_zip_2 _ _) (F.newCall_zip_2 _ _) (λh=>F.args_object_init_3 h _ _) F.entry_zip_new (CC t t2 a b xs ys) ⟨r,p,?_⟩
 have g:(H1 t s.heap a).objs.size=s.heap.objs.size+1:=Heap.size_push ..
 have d:(H2 t t2 s.heap a b).objs.size=s.heap.objs.size+2:=by rw[Heap.size_push,g]
 have f:(H3 t t2 s.heap a b).objs.size=s.heap.objs.size+3:=by rw[Heap.size_push,d]
 have i:(H4 t t2 s.heap a b).objs.size=s.heap.objs.size+4:=by rw[Heap.size_push,f]
 have e:(H5 t t2 s.heap a b).get? (H4 t t2 s.heap a b).objs.size=some _:=Qrq _ rfl
 have k:(H5 t t2 s.heap a b).get? (H3 t t2 s.heap a b).objs.size=some _:=Qcq _ (Qrq _ rfl)
 have j:(H5 t t2 s.heap a b).get? (H2 t t2 s.heap a b).objs.size=some _:=Qcq _ (Qcq _ (Qrq _ rfl))
 have l:(H5 t t2 s.heap a b).get? (H1 t s.heap a).objs.size=some _:=Qcq _ (Qcq _ (Qcq _ (Qrq _ rfl)))
 have m:(H5 t t2 s.heap a b).get? s.heap.objs.size=some _:=Qcq _ (Qcq _ (Qcq _ (Qcq _ (Qrq _ rfl))))
 refine(?_:_/\_)
 rw[d,f,i] at e
 rw[g,d] at j
 rw[f] at k
 rw[g] at l
 rw[i]
 refine⟨⟨_,e,rfl⟩,q _ e j k ?_ ?_ λc o n=>Qcq _ (Qcq _ (Qcq _ (Qcq _ (Qcq _ n))))⟩
 ·cases t <;>exact⟨_,m,rfl,rfl⟩
 ·cases t2 <;>exact⟨_,l,rfl,rfl⟩
end
def oG:typeLookup (.type "zip") "__getattr__"=pure none:=by rw[typeLookup_type,builtinLookup_eq_fast];kernel_rfl
def i7:entryFor table "zip.__getattribute__"=some Builtin.«object.__getattribute__»:=
 entryFor_alias (id':="object.__getattribute__") (by kernel_rfl) (by decide +kernel) (by decide +kernel) (by kernel_rfl)
def pJ:typeLookup (Value.type "zip") (Str.ofString "keys")=pure none:=by
 rw[typeLookup_type,builtinLookup_eq_fast]
 rfl
def q_(a:Addr)(fs:Array Value)(name:Str)(u:Tok)(e:typeLookup (.type "zip") name=pure none)(b:(["__module__","__name__","__qualname__","__doc__","__annotations__"]:List Str).contains name=false)(hsz:name.length+100<=sizeLine:=by size_fits):
  Meets (Builtin.«object.__getattribute__» ⟨[.ref a,.str name u],[]⟩) (λA R s=>s.heap.get? a=some {cls:=.type "zip",dict:=none,data:=.fields fs,slots:= #[]}/\raisesAttr (.ref a) name A R s):=
 Meets.of_wp λf w A R s c=>by
  obtain⟨h,g,d,k,j⟩:=s
  obtain⟨i,c⟩:=c
  have l:(⟨h,g,d,k,j⟩:Shared).TypeIs (.ref a) "zip":=⟨_,i,rfl⟩
  unfold Builtin.«object.__getattribute__»
  repeat (any_goals (first|assumption|wp_step))
  simp only[b,Bool.false_eq_true,if_false]
  repeat (any_goals (first|assumption|wp_step))
  exact wpAny_raiseAttrError c.1 c.2 (attrMsg_fits (by decide +kernel) hsz)
def Cd{prog:Program}{w:World}{A:Around}{E:Value->Shared->Prop}{s:Shared}{a:Addr}{fs:Array Value}{Q:Option Value->Shared->Prop}
  (j:s.heap.get? a=some {cls:=.type "zip",dict:=none,data:=.fields fs,slots:= #[]}) (p:A.handled=none)
  (h:∀(h':Heap) (i:Nat),(∀b o,s.heap.get? b=some o->h'.get? b=some o)->Q none {s with heap:=h',toks:=i}):
  wpAny (model prog w) A (getAttr? (.ref a) (Str.ofString "keys")) Q E s:=by
 obtain⟨q,g,d,i,l⟩:=s
 have n:∀x,Shared.TypeIs ⟨q,g,d,x,l⟩ (.ref a) "zip":=λx=>⟨_,j,rfl⟩
 have k:=sub_AttributeError
 have r:=F.slot_zip_getattribute.lookup
 have t:=F.slot_zip_getattribute.bind (Value.ref a)
 have v:=oG
 unfold getAttr? mkText getAttrBy? getAttrBy
 refine Qaq (Qaq (wpAny_fresh' (Qgq (Qaq (wpAny_attempt (QLq ?_))))))
 unfold typeOf
 refine Qaq (Qaq (wpAny_loadPart' j (Qgq (Qaq (wpAny_of_eq r (QgQ rfl ?_))))))
 unfold getAttrByItsOwn hookBefore
 refine Qaq (QgQ rfl (Qgq (Qaq (wpAny_attempt (QLq ?_)))))
 unfold callGetattribute
 refine QgQ rfl ?_
 unfold boundAndCalled
 refine Qaq (wpAny_of_eq t ?_)
 refine call_meets F.slot_zip_getattribute (n (i+1)) i7 (F.args_zip_getattribute_2 (Value.ref a) _) (q_ a fs (Str.ofString "keys") i pJ (by decide +kernel) (by decide +kernel)) ⟨j,p,λh' c e f=> ?_⟩
 obtain⟨z,y,u⟩:=f.there
 have m:Shared.TypeIs ⟨h',g,d,c,l⟩ (.ref e) "AttributeError":=⟨_,u,rfl⟩
 show wpAny _ _ (getattributeRaised _ _ _ _ _ _ _) _ _ _
 unfold getattributeRaised
 refine Qaq (wpAny_isInstance m k (wpAny_ite_true rfl ?_))
 unfold hookBehind hookOrError
 refine Qaq (QgQ rfl (wpAny_of_eq v ?_))
 show wpAny _ _ (attributeErrorLeaves _ _ _ _ _) _ _ _
 unfold attributeErrorLeaves
 refine wpAny_ite_true rfl (wpAny_throw ?_)
 exact Qaq (wpAny_isInstance m k (wpAny_ite_true rfl (Qgq (h h' c f.keeps))))
def tm{prog:Program}{w:World}{A:Around}{E:Value->Shared->Prop}{s:Shared}{z:Addr}{fs:Array Value}{Q:Value->Shared->Prop}
  (j:s.heap.get? z=some {cls:=.type "zip",dict:=none,data:=.fields fs,slots:= #[]}) (g:A.handled=none)
  (h:∀(h':Heap) (d:Nat),(∀b o,(s.heap.push {cls:=.type "dict",data:=.dict #[]}).get? b=some o->h'.get? b=some o)→
   wpAny (model prog w) A.in1.in1 (pyIter (.ref z)) (λit s'=>codeAny (model prog w) A.in1 (.builtin "dict.update.loop" {pos:= [.ref s.heap.objs.size,it,rawInt 0,.none]}) (wants (λr c=>r=.none/\Q (.ref s.heap.objs.size) c) E) s') E {s with heap:=h',toks:=d}):
  wpAny (model prog w) A (call (.type "dict") [.ref z]) Q E s:=by
 refine Dk.xC ?_
 have i:=Qrq s.heap (o:={cls:=.type "dict",data:=.dict #[]}) rfl
 have f:Shared.TypeIs {s with heap:=s.heap.push {cls:=.type "dict",data:=.dict #[]}} (.ref s.heap.objs.size) "dict":=⟨_,i,rfl⟩
 have a:=Qcq {cls:=.type "dict",data:=.dict #[]} j
 have l:Shared.TypeIs {s with heap:=s.heap.push {cls:=.type "dict",data:=.dict #[]}} (.ref z) "zip":=⟨_,a,rfl⟩
 unfold Builtin.«dict.__init__» Builtin.Dict.selfAndRest
 refine Qaq (Qaq (wpAny_notOrdered_dict f ?_))
 refine Qaq (Qgq (Qgq ?_))
 show wpAny _ _ (Builtin.Dict.updateFrom _ _ _ _ _) _ _ _
 unfold Builtin.Dict.updateFrom
 refine Qaq (wpAny_typeOf l (wpAny_ite_true (by decide +kernel) (Qaq (Cd a (by simpa using g) λh' d k=> ?_))))
 refine wpAny_ite_true rfl ?_
 refine Qaq (wpAny_rule (Qaq (QRq (h h' d k) (λit s' q=> ?_) λe s' q=>q)))
 exact Qgq ⟨plainId_quiet (by decide +kernel) _,q⟩
end Zq
namespace Zq
open PySem Dk
section
variable{prog:Program}{w:World}{K:Type}[DecidableEq K]{knd:KeyKind prog w K}{z T O i j a b S:Addr}{t t2:Bool}{xs ys:Array Value}
def zF{A:Around}{R:Result->Shared->Prop}(hA:A.in1.handled=none)(D:ZipApart z T O i j a b)(nS:S≠z/\S≠T/\S≠O/\S≠i/\S≠j/\S≠a/\S≠b)(a4:a≠T/\b≠T)(f:Nat->K)(x:∀(n:Nat) v,xs[n]?=some v->knd.is (f n) v=true)(a3:xs.size<=ys.size)(hn:xs.size<=sizeLine):
  ∀ (m n:Nat) (c:Int) (s:Shared),xs.size-n=m->n<=xs.size->Zs s.heap z T O i j->IsPair s.heap T (.ref i) (.ref j)->It t s.heap i a n->It t2 s.heap j b n->Sq t s.heap a xs->Sq t2 s.heap b ys->Heap.DictOf knd s.heap S (Jv f (λn=>ys.getD n .none) n)→
    (∀h' tk,Heap.DictOf knd h' S (Jv f (λn=>ys.getD n .none) xs.size)->(∀c o,c≠z->c≠O->c≠i->c≠j->c≠S->s.heap.get? c=some o->h'.get? c=some o)->R (.ok (.ret .none)) {s with heap:=h',toks:=tk})→
    codeAny (model prog w) A (.builtin "dict.update.loop" {pos:= [.ref S,.ref z,rawInt c,.none]}) R s:=by
 obtain⟨N,n2,n3,n4,n5,n6,n7⟩:=nS
 intro m
 induction m with
 | zero=>
   intro n c s hm M gz C I gj F Z P h
   have e:n=xs.size:=by omega
   subst e
   refine codeAny_builtin jt ?_
   rw[Around.under_plainId fU]
   show wpAny _ _ (do let __x←pyNext (.ref z);_) _ _ _
   refine Qaq (yD D hA gz C I F (by simp) λh' r=> ?_)
   refine Qaq (Qgq (Qgq (h h' s.toks ?_ λc o l g p k _ e=>r c o l g p k e)))
   obtain⟨o,H,Q,h1,G⟩:=P
   exact⟨o,H,Q,r _ _ N n3 n4 n5 h1,G⟩
 | succ m ih=>
   intro n c s hm M gz C I gj F Z P h
   have u:n<xs.size:=by omega
   have ex:xs[n]?=some xs[n]:=by simp[u]
   have ey:ys[n]?=some ys[n]:=by simp[show n<ys.size by omega]
   refine codeAny_builtin jt ?_
   rw[Around.under_plainId fU]
   show wpAny _ _ (do let __x←pyNext (.ref z);_) _ _ _
   refine Qaq (Fw D gz C I gj F Z ex ey λhp a2 J U gp r=> ?_)
   have a1:Heap.DictOf knd hp S (Jv f (λn=>ys.getD n .none) n):=by
     obtain⟨o,H,Q,h1,G⟩:=P
     exact⟨o,H,Q,r _ _ N n3 n4 n5 h1,G⟩
   refine Qaq (QLq (Qaq (wpAny_tryCatch ?_)))
   unfold Builtin.Dict.pairItems
   refine Qaq (wpAny_typeOf (T:="tuple") ⟨_,gp,rfl⟩ (wpAny_ite_true rfl (Qaq ?_)))
   unfold seqItems?
   refine Qaq (wpAny_load' gp (Qgq (Qgq (QLq (wpAny_dictSet_pairs (x n _ ex) a1 (λh' q hs=> ?_) (QAq (Bm f _ n) (by omega)))))))
   have ev:ys.getD n .none=ys[n]:=by simp[Array.getD,show n<ys.size by omega]
   have y:∀c o,c≠S->hp.get? c=some o->h'.get? c=some o:=λc o hc e=>by rw[hs.2 c hc];exact e
   have d:∀c o,c≠z->c≠O->c≠i->c≠j->c≠S->s.heap.get? c=some o->h'.get? c=some o:=λc o l g p k B e=>y c o B (r c o l g p k e)
   have Y:∃o,h'.get? S=some o:=by obtain⟨o,_,_,e,_⟩:=q;exact⟨o,e⟩
   have a0:Heap.DictOf knd h' S (Jv f (λn=>ys.getD n .none) (n+1)):=by
     show Heap.DictOf knd h' S (stored _ (f n) (ys.getD n .none))
     rw[ev]
     exact q
   refine Qgq ⟨plainId_quiet fU _,ih (n+1) (c+1) _ (by omega) u (a2.but y N.symm n3.symm Y) ?_ (J.at λo e=>y _ o n4.symm e) (U.at λo e=>y _ o n5.symm e) ?_ ?_ a0 λW tk X k4=>h W tk X λc o l g p k B e=>k4 c o l g p k B (d c o l g p k B e)⟩
   · exact d _ _ D.TIz D.TITO D.TIi1 D.TIi2 n2.symm C
   · exact F.at λo e=>d _ o D.l1z D.l1TO D.l1i1 D.l1i2 n6.symm e
   · exact Z.at λo e=>d _ o D.l2z D.l2TO D.l2i1 D.l2i2 n7.symm e
end
end Zq
namespace L2
open PySem PySem.Spec PyProof.Rows Zq
section
variable{X:Cx}
def yc(K:PySem.W.Frag)(t:Bool)(H:Hp)(a:Addr)(xs:List V):Prop:=if t=true then gr K H a xs else jC K H a xs
def Inv.sq{c:List (Addr×Obj)}{d:St}{H:Hp}{s:Shared}{t:Bool}{a:Addr}{xs:List V}(I:Inv X c d H s)(h:yc X.K t H a xs):∃b:List Value,bp xs b/\Sq t s.heap a b.toArray/\xs.length<=sizeLine:=by
 cases t with
 | true=>
   obtain⟨b,r,p,z⟩:=I.tuple h
   exact⟨b,r,(show s.heap.IsTuple a b.toArray from p),z⟩
 | false=>
   obtain⟨b,r,p,z⟩:=I.list h
   exact⟨b,r,(show s.heap.IsList a b.toArray from p.isList),z⟩
def Sq.lt{t:Bool}{h:Heap}{a:Addr}{xs:Array Value}(g:Sq t h a xs):a<h.objs.size:=by
 cases t with
 |true=>obtain⟨o,e,_⟩:=(show h.IsTuple a xs from g);exact Qiq e
 |false=>obtain⟨o,e,_⟩:=(show h.IsList a xs from g);exact Qiq e
def Jb(K:PySem.W.Frag):List V->Hp->VK->Prop:=λf H Q=>∃(t e:Bool) (a b:Addr) (c:List Key) (d:List V),f= [.ref a,.ref b]/\yc K t H a (c.map kV)/\yc K e H b d/\c.length=d.length/\∀p,H p=none->Q (.ref p) (upd H p (.dK (je [] (c.zip d))))
def zg{x y:Expr}{ta:TA}{p1 U c1 N:Pos}(B:X.calm=true)(a3:Gl X "dict")(a4:X.mg "dict"=none)(hg:Gl X "zip")(hm:X.mg "zip"=none)(ha:PA X [x,y] ta)(hs:starEach [x,y] X.env= [(false,eval x X.env),(false,eval y X.env)]:=by rfl)(P:starEach [y] X.env= [(false,eval y X.env)]:=by rfl)
  (he:starEach [Expr.Call (.Name "zip" U) [x,y] [] N] X.env= [(false,eval (Expr.Call (.Name "zip" U) [x,y] [] N) X.env)]:=by rfl):
  PE X (.Call (.Name "dict" p1) [.Call (.Name "zip" U) [x,y] [] N] [] c1) (LB (Jb X.K) ta):=by
 intro C s σ H Q I h
 refine wpAny_Call_Name_kw (i4 I a3 a4 (by rfl) ?_)
 refine PyProof.Rows.callWith_type1 ?_ he rfl
 rw[he]
 show wpAny _ _ (spliced ((false,eval (Expr.Call (.Name "zip" U) [x,y] [] N) X.env)::backTo c1 (starEach [] X.env))) _ _ s
 refine Calls.spliced_cons ?_
 refine wpAny_Call_Name_kw (i4 I hg hm (by rfl) ?_)
 refine PyProof.Rows.callWith_type1 (bW (ha N C s σ H _ I h) λus j ⟨vs,H1,G,r1,q1⟩=> ?_) (by rw[hs,P]) (by rw[P];rfl)
 obtain⟨t,t2,a,b,d,ys,e,qa,qb,hl,q⟩:=q1
 subst e
 cases r1 with
 | cons r rr=>
   cases rr with
   | cons r' rr=>
     cases rr
     cases r
     cases r'
     obtain⟨z,ra,pa,za⟩:=G.sq qa
     obtain⟨p,rb,pb,zb⟩:=G.sq qb
     have lx:=Sq.lt pa
     have ly:=Sq.lt pb
     have la:=ra.length
     have lb:=rb.length
     rw[lQm] at la
     refine Zq.Ih pa pb λg W gT gO gi gj Z=>Calls.spliced_nil ?_
     have I2:Inv X C σ H1 {j with heap:=g}:=G.kept (t':=j.toks) Z
     refine Zq.tm W (G.ok.hd B) λS tk k2=> ?_
     have m:∀c o,g.get? c=some o->S.get? c=some o:=λc o e=>k2 c o (Qcq _ e)
     have a5:S.get? g.objs.size=some {cls:=.type "dict",data:=.dict #[]}:=k2 _ _ (Qrq g rfl)
     refine wpAny_pyIter_zip (m _ _ W) ?_
     have DD:=PyProof.Rows.zipApart_new lx ly
     have f:j.heap.objs.size+4<g.objs.size:=Qiq W
     have R:∀(n:Nat) k,d[n]?=some k->d.getD n (.inl 0)=k:=λn k e=>by rw[Qlq,e];rfl
     have F:∀c,c<j.heap.objs.size->c≠j.heap.objs.size+4/\c≠j.heap.objs.size+3/\c≠j.heap.objs.size/\c≠j.heap.objs.size+1/\c≠g.objs.size:=λc B=>
       ⟨Qwq (Qqq B (Nat.le_add_right _ _)),Qwq (Qqq B (Nat.le_add_right _ _)),Qwq B,Qwq (Qqq B (Nat.le_add_right _ _)),Qwq (Nat.lt_trans (Qqq B (Nat.le_add_right _ 4)) f)⟩
     refine Zq.zF (knd:=bt X.prog X.w) (t:=t) (t2:=t2) (xs:=z.toArray) (ys:=p.toArray) (show X.A.in1.in1.handled=none from G.ok.hd B) DD ?_ ?_ (λn=>d.getD n (.inl 0)) ?_ (by simp;omega) (by simp;omega) z.toArray.size 0 0 _ rfl (Nat.zero_le _)
       (.inl ⟨m _ _ W,_,_,m _ _ gO⟩) (m _ _ gT) (gi.at λo e=>m _ o e) (gj.at λo e=>m _ o e) (pa.at λo e=>m _ o (Z _ o e)) (pb.at λo e=>m _ o (Z _ o e)) ?_ ?_
     · refine⟨Nat.ne_of_gt f,Nat.ne_of_gt (Nat.lt_trans ?_ f),Nat.ne_of_gt (Nat.lt_trans ?_ f),Nat.ne_of_gt (Nat.lt_trans ?_ f),Nat.ne_of_gt (Nat.lt_trans ?_ f),(F _ lx).2.2.2.2.symm,(F _ ly).2.2.2.2.symm⟩ <;>(show _<j.heap.objs.size+4) <;>omega
     · exact⟨Qwq (Qqq lx (Nat.le_add_right _ _)),Qwq (Qqq ly (Nat.le_add_right _ _))⟩
     · intro n v hv
       have J:z[n]?=some v:=by simpa using hv
       have hn:n<d.length:=by
         have:=(gQs.mp J).1
         omega
       have M:=gQe hn
       obtain⟨u,Y,ru⟩:=ra.get (i:=n) (x:=kV d[n]) (by rw[gQm,M];rfl)
       rw[J] at Y
       cases Y
       show(bt X.prog X.w).is (d.getD n (.inl 0)) v=true
       rw[R n _ M]
       exact key_is ru _ _
     · obtain⟨o,es,ep,e1,e2⟩:=Heap.DictOf.new (knd:=bt X.prog X.w) g
       exact⟨o,es,ep,k2 _ _ e1,e2⟩
     · intro h3 a0 dd k3
       have a1:g.objs.size≠sysModules:=by
         have:=I2.big
         exact Nat.ne_of_gt this
       have le:j.heap.objs.size<=g.objs.size:=nQl (Nat.lt_of_le_of_lt (Nat.le_add_right _ 4) f)
       refine⟨rfl,.ref g.objs.size,_,G.laid (a:=g.objs.size) (o:=.dK (je [] (d.zip ys))) (t':=a0) (h':=h3) (λc o e=> ?_) le (sN ?_ (beq_eq_false_iff_ne.mpr a1) ?_ dd),rfl,q _ (G.hok.fresh le)⟩
       · obtain⟨o1,o2,o3,o4,o5⟩:=F c (Qiq e)
         exact k3 c o o1 o2 o3 o4 o5 (m c o (Z c o e))
       · have:=ia (d.zip ys) []
         rw[QGq,List.length_zip] at this
         omega
       · have a2:∀n,n<=d.length->KV (je [] ((d.zip ys).take n)) (Dk.Jv (λn=>d.getD n (.inl 0)) (λn=>p.toArray.getD n .none) n):=by
           intro n
           induction n with
           |zero=>intro _;exact .nil
           | succ n ih=>
             intro hn
             have M:=gQe (l:=d) (i:=n) (by omega)
             have hy:=gQe (l:=ys) (i:=n) (by omega)
             obtain⟨u,Y,ru⟩:=rb.get hy
             have ez:(d.zip ys)[n]?=some (d[n],ys[n]):=by rw[List.getElem?_zip_eq_some];exact⟨M,hy⟩
             have e3:(d.zip ys).take (n+1)=(d.zip ys).take n++ [(d[n],ys[n])]:=by rw[QYq,ez];rfl
             have eu:p.toArray.getD n .none=u:=by
               have:=(gQs.mp Y)
               obtain⟨g,S⟩:=this
               simp[Array.getD,g,S]
             rw[e3]
             show KV (List.foldl _ [] ((d.zip ys).take n++ [(d[n],ys[n])])) (stored _ (d.getD n (.inl 0)) (p.toArray.getD n .none))
             rw[List.foldl_append,R n _ M,eu]
             exact(ih (by omega)).put d[n] ru
         have:=a2 d.length (Qmq _)
         have e4:(d.zip ys).take d.length=d.zip ys:=by
           have:(d.zip ys).length=d.length:=by rw[List.length_zip];omega
           rw[←this,QEq]
         rw[e4] at this
         have e5:z.toArray.size=d.length:=by simp;omega
         rw[e5]
         exact this
end
end L2
namespace Zq
open PySem
section
variable{prog:Program}{w:World}{A:Around}{E:Value->Shared->Prop}{s:Shared}{t t2:Bool}{z T O i j a b:Addr}{k:Nat}{xs ys:Array Value}{x y u v:Value}
def B_(D:ZipApart z T O i j a b){Q:Option Value->Shared->Prop}(d:sR s.heap z T O .none (.bool false))(B:IsPair s.heap T (.ref i) (.ref j))(n:IsPair s.heap O u v)(g:It t s.heap i a k)(o:It t2 s.heap j b k)
  (C:Sq t s.heap a xs) (r:Sq t2 s.heap b ys) (ex:xs[k]?=some x) (m:ys[k]?=some y)
  (q:∀h',sR h' z T O (rawInt s.heap.objs.size) (.bool false)->IsPair h' O x y->It t h' i a (k+1)->It t2 h' j b (k+1)->IsPair h' s.heap.objs.size x y->Zp.Rest z O i j s.heap h'->Q (some (.ref s.heap.objs.size)) {s with heap:=h'}):
  wpAny (model prog w) A (pyNext (.ref z)) Q E s:=by
 have c:s.TypeIs (.ref z) "zip":=⟨_,d,rfl⟩
 unfold pyNext
 exact Qaq (wpAny_attempt (QiQ (name:=Str.ofString "__next__") c F.slot_zip_next (wpAny_call_entry F.slot_zip_next c F.entry_zip_next
  (item D d B n g o C r ex m λh' f h e p G l=>Qgq (q h' f h e p G l)) (F.args_zip_next_1 _))))
end
end Zq
namespace L2
open PySem PySem.Spec PyProof.Rows Zq
def Inv.sq_inj{X:Cx}{b:List (Addr×Obj)}{c:St}{H:Hp}{s:Shared}{t:Bool}{a:Addr}{xs ys:List V}(I:Inv X b c H s)(h:yc X.K t H a xs)(h':yc X.K t H a ys):xs=ys:=by
 cases t with
 |true=>exact I.tuple_inj h h'
 |false=>exact I.list_inj h h'
def OF(K:PySem.W.Frag)(t t2:Bool)(a b:Addr):It:=
  ⟨λi H=>∃c d x y,yc K t H a c/\yc K t2 H b d/\c[i]?=some x/\d[i]?=some y,
   λi H v e=>∃p,v=.ref p/\H p=none/\∀c d x y,yc K t H a c->yc K t2 H b d->c[i]?=some x->d[i]?=some y->e=upd H p (.tup [x,y]),
   λi H=>∃c,yc K t H a c/\c.length<=i⟩
def BX{P:Program}{w:World}{K:PySem.W.Frag}{A:List Expr}{x1:Nat}{tp:Pos}{t t2:Bool}{z T O i j a b:Addr}(D:ZipApart z T O i j a b):
  Turn P w K (.Tuple A x1 tp) (OF K t t2 a b) [z,T,O,i,j] z (λn h=>sR h z T O .none (.bool false)/\IsPair h T (.ref i) (.ref j)/\(∃u v,IsPair h O u v)/\Zq.It t h i a n/\Zq.It t2 h j b n) where
 mem:=by simp
 obj:=λn h ⟨f,g,⟨u,v,l⟩,m,q⟩ c d=>by
  simp at d
  rcases d with rfl|rfl|rfl|rfl|rfl
  ·exact⟨_,f,λv n=>by cases n⟩
  ·exact⟨_,g,λv n=>by cases n⟩
  ·exact⟨_,l,λv n=>by cases n⟩
  ·exact m.obj
  ·exact q.obj
 keep:=λn h h' ⟨f,g,⟨u,v,l⟩,m,q⟩ k=>⟨k z (by simp) _ f,k T (by simp) _ g,⟨u,v,k O (by simp) _ l⟩,m.at λo e=>k i (by simp) o e,q.at λo e=>k j (by simp) o e⟩
 item:=by
  rintro X R hw Z d n p s σ H E I J ⟨f,g,⟨u,v,l⟩,m,q⟩ Y
  subst R hw Z
  obtain⟨xs,ys,x,y,F,qb,M,hy⟩:=Y
  obtain⟨a0,U,Q,_⟩:=I.sq F
  obtain⟨a3,rb,pb,_⟩:=I.sq qb
  obtain⟨ux,ex,rx⟩:=U.get M
  obtain⟨uy,ey,ry⟩:=rb.get hy
  have B:∀{c o},s.heap.get? c=some o->c≠s.heap.objs.size:=λe=>Qwq (Qiq e)
  have C:∀c∈[z,T,O,i,j],c≠s.heap.objs.size:=λc d=>by
   obtain⟨oi,e1,_⟩:=m.obj
   obtain⟨oj,e2,_⟩:=q.obj
   simp at d
   rcases d with rfl|rfl|rfl|rfl|rfl
   ·exact B f
   ·exact B g
   ·exact B l
   ·exact B e1
   ·exact B e2
  refine Zq.B_ D f g l m q Q pb (x:=ux) (y:=uy) (by simpa using ex) (by simpa using ey) λh1 z1 O1 i1 j1 n1 G=>⟨_,rfl,?_⟩
  have T1:=G _ _ D.TIz D.TITO D.TIi1 D.TIi2 g
  refine wpAny_letOwnedTupleGo_zip z1 λh2 z2 r=> ?_
  have I2:Inv X p σ (upd H s.heap.objs.size (.tup [x,y])) {s with heap:=h2}:=I.turnedNew (t':=s.toks) (fp:= [z,T,O,i,j]) J (λc o d e=> ?_) (Qmq _) ?_
  ·refine⟨.ref s.heap.objs.size,_,I2,rfl,⟨s.heap.objs.size,rfl,I.hok.fresh (Qmq _),λa1 a2 x' y' q1 q2 N S=> ?_⟩,⟨z2,r.extBut _ _ D.TIz T1,⟨_,_,r.extBut _ _ D.TOz O1⟩,i1.ext r.extBut D.i1z,j1.ext r.extBut D.i2z⟩,λc d=> ?_⟩
   ·rw[I.sq_inj q1 F] at N
    rw[I.sq_inj q2 qb] at S
    rw[M] at N
    rw[hy] at S
    cases N
    cases S
    rfl
   ·rw[aN (C c d)]
    exact(J c d).1
  ·simp at d
   exact r.extBut _ _ d.1 (G c o d.1 d.2.2.1 d.2.2.2.1 d.2.2.2.2 e)
  ·exact⟨by show 2<=_;decide,[ux,uy],.cons rx (.cons ry .nil),_,r.extBut _ _ (λe=>C z (by simp) e.symm) n1,rfl,rfl,0,rfl⟩
 done:=by
  rintro X R hw Z d n p s σ H E I J ⟨f,g,⟨u,v,l⟩,m,q⟩ Y
  subst R hw Z
  obtain⟨xs,F,M⟩:=Y
  obtain⟨a0,U,Q,_⟩:=I.sq F
  have hl:=U.length
  refine Zq.yD D (I.ok.hd d) (.inl ⟨f,u,v,l⟩) g m Q (by simp;omega) λh1 G=>⟨rfl,I.turnedL (t':=s.toks) (fp:= [z,T,O,i,j]) J λc o d e=> ?_⟩
  simp at d
  exact G c o d.1 d.2.2.1 d.2.2.2.1 d.2.2.2.2 e
 self:=λ_ _ _ _ _ ⟨f,_⟩ h=>wpAny_pyIter_zip f h
section
variable{X:Cx}
def OV(K:PySem.W.Frag)(d:TA):TI:=λe H R=>d e H λg H1=>∃(t c:Bool) (a b:Addr) (f h:List V),g= [.ref a,.ref b]/\yc K t H1 a f/\yc K c H1 b h/\R (OF K t c a b) H1
def G9{d:List Expr}{x1:Nat}{Y:Pos}{a b:Expr}{u:TA}{p pos:Pos}(P:Gl X "zip")(w:X.mg "zip"=none)(ha:PA X [a,b] u)(B:starEach [a,b] X.env= [(false,eval a X.env),(false,eval b X.env)]:=by rfl)(g:starEach [b] X.env= [(false,eval b X.env)]:=by rfl):
  PI X (.Tuple d x1 Y) (.Call (.Name "zip" p) [a,b] [] pos) (OV X.K u):=by
 intro i s W H R I h
 refine Call_ (i4 I P w (by rfl) (PyProof.Rows.callWith_type1 (bW (ha pos i s W H _ I h) λus o ⟨vs,H1,f,G,A⟩=> ?_) (by rw[B,g]) (by rw[g];rfl)))
 obtain⟨t,t2,x,y,xs,ys,e,J,M,q⟩:=A
 subst e
 cases G with
 | cons r j=>
   cases j with
   | cons Z j=>
     cases j
     cases r
     cases Z
     obtain⟨N,ra,m,_⟩:=f.sq J
     obtain⟨Q,rb,pb,_⟩:=f.sq M
     have U:=Sq.lt m
     have ly:=Sq.lt pb
     refine Zq.Ih m pb λh' v S C z F k=> ?_
     refine wpAny_pyIter_zip v ⟨_,_,_,_,H1,rfl,f.kept (t':=o.toks) k,BX (PyProof.Rows.zipApart_new U ly),⟨v,S,⟨_,_,C⟩,z,F⟩,λc n=> ?_,q⟩
     have l:o.heap.objs.size<=c:=by
       simp only[Qsq,QXq,or_false] at n
       rcases n with e|e|e|e|e <;>(rw[e];first|exact Qmq _|exact Nat.le_add_right _ _)
     exact f.fpOk l (f.hok.fresh l)
end
end L2
namespace DL
open PySem PySem.Spec PyProof.Rows L2
def zQ.sqB{M:Md}{ρ:List Addr}{H:Hp}{a:Addr}{vs:List V}{t:Tag}(h:zQ M ρ H a vs t):L2.yc M.K (!t.isL) H a vs:=by
 cases c:t.isL with
 |true=>exact h.sqL c
 |false=>exact h.sqT c
def xf(xs ys:List D):List D:=List.zipWith (λx y=>D.tup [x,y]) xs ys
open Classical in
def DI(f g:eU):tE:=λa S=>(f a S).bind λ(p,c)=>(g a c).bind λ(r,b)=>if p.2.stays b p.1/\p.1.length<=r.1.length then some ((xf p.1 r.1,λS=>p.2.stays S p.1/\r.2.stays S r.1),b) else none
section
variable{X:Cx}{a b c e:Expr}{pos:Pos}{st:Stmt}
def Ox{l:List Expr}{s:Nat}{tp p:Pos}{f g:eU}(hg:Gl X "zip")(hm:X.mg "zip"=none)(ha:PE X a (tQ (md X) f))(hb:PE X b (tQ (md X) g))(I:starEach [a,b] X.env= [(false,eval a X.env),(false,eval b X.env)]:=by rfl)(k:starEach [b] X.env= [(false,eval b X.env)]:=by rfl):
  PI X (.Tuple l s tp) (.Call (.Name "zip" p) [a,b] [] pos) (tI (md X) (DI f g)):=MC (G9 hg hm (bQ ha (bQ hb dX k) (by rw[I,k])) I k) λσ H R ⟨ρ,Y,S,ds,W,S',ok,e,q⟩=>by
 obtain⟨⟨⟨o,t1⟩,Z⟩,e1,e⟩:=aq e
 obtain⟨⟨⟨n,t2⟩,S2⟩,e2,e⟩:=aq e
 dsimp only at e
 split at e
 ·rename_i c
  obtain⟨e3,rfl⟩:=bN e
  obtain⟨rfl,rfl⟩:=Prod.mk.inj e3
  refine⟨ρ,Y,S,o,t1,Z,ok,e1,λF a1 a3 H1 s t h1 r1=>⟨F,Y,Z,n,t2,S2,ok.to s t,e2,λa2 b1 ws H2 M m K r2=> ?_⟩⟩
  obtain⟨C,h3,r3⟩:=h1.to r1 M m c.1
  refine⟨_,_,a1,b1,C,ws,rfl,h3.sqB,K.sqB,q _ _ _ (s.trans M) m λi a0 S3 H3 U j w=> ?_⟩
  obtain⟨A,G,g2⟩:=h3.to r3 U j w.1
  obtain⟨Q,N,g4⟩:=K.to r2 U j w.2
  refine⟨λd h=> ?_,λhi=>⟨A,G.sqB,?_⟩⟩
  ·unfold xf at h
   rw[List.getElem?_zipWith] at h
   cases r:o[i]? with
   |none=>rw[r] at h;cases h
   | some x=>
     cases B:n[i]? with
     |none=>rw[r,B] at h;cases h
     | some y=>
       rw[r,B] at h
       cases h
       obtain⟨u,P,ru⟩:=g2.get r
       obtain⟨z,J,rz⟩:=g4.get B
       refine⟨⟨A,Q,u,z,G.sqB,N.sqB,P,J⟩,λv H4 hv=> ?_⟩
       obtain⟨p,rfl,hp,hq⟩:=hv
       have:=hq A Q u z G.sqB N.sqB P J
       subst this
       exact⟨bC.laid hp,j.lay hp,.tup aU ((aO.cons ru (.cons rz .nil)).ext (bC.laid hp))⟩
  ·rw[hi]
   unfold xf
   rw[List.length_zipWith,g2.length.symm]
   have:=c.2
   omega
 ·cases e
end
def tK:D->Option Key
 |.int i=>some (.inl i)
 |.str x=>some (.inr x)
 |_=>none
def p7{M:Md}{ρ:List Addr}{H:Hp}{d:D}{v:V}{k:Key}(r:Rel M ρ H d v)(e:tK d=some k):v=kV k:=by
 cases r <;>simp[tK] at e <;>subst e <;>rfl
def xv:List D->Option (List Key)
 | []=>some []
 |d::r=>(tK d).bind λk=>(xv r).bind λa=>some (k::a)
theorem yN{M:Md}{ρ:List Addr}{H:Hp}:∀{ds:List D} {vs:List V} {a:List Key},aO M ρ H ds vs->xv ds=some a->vs=a.map kV
 |_,_,_,.nil,e=>by cases e;rfl
 | _,_,_,.cons h hs,e=>by
   obtain⟨k,c,e⟩:=aq e
   obtain⟨a,b,e⟩:=aq e
   cases e
   rw[p7 h c,yN hs b]
   rfl
def mJ(kvs:List (Key×D))(k:Key):Option D:=(kvs.find? λa=>decide (a.1=k)).map (·.2)
def putD(kvs:List (Key×D))(k:Key)(v:D):List (Key×D):=
 if (kvs.any λa=>decide (a.1=k))=true then kvs.map (λa=>if a.1=k then(a.1,v) else a) else kvs++ [(k,v)]
def bL(kvs more:List (Key×D)):List (Key×D):=more.foldl (λa b=>putD a b.1 b.2) kvs
section
variable{M:Md}{ρ:List Addr}{H:Hp}
theorem bG.append:∀{l m:List (Key×D)} {kv kw:List (Key×V)},bG M ρ H l kv->bG M ρ H m kw->bG M ρ H (l++m) (kv++kw)
 | [],_,_,_,h,h'=>by cases h;exact h'
 |(_,_)::_,_,_,_,⟨v,t,e,h,hs⟩,h'=>by subst e;exact⟨v,_,rfl,h,bG.append hs h'⟩
theorem bG.any:∀{l:List (Key×D)} {kv:List (Key×V)} (k:Key),bG M ρ H l kv->(l.any λp=>decide (p.1=k))=kv.any λp=>decide (p.1=k)
 | [],_,_,h=>by cases h;rfl
 |(_,_)::_,_,k,⟨v,t,e,h,hs⟩=>by subst e;simp only[List.any_cons,bG.any k hs]
theorem bG.mapP{d:D}{v:V}{k:Key}(r:Rel M ρ H d v):∀{l:List (Key×D)} {kv:List (Key×V)},bG M ρ H l kv->bG M ρ H (l.map λp=>if p.1=k then(p.1,d) else p) (kv.map λp=>if p.1=k then(p.1,v) else p)
 | [],_,h=>by cases h;rfl
 | (k',_)::_,_,⟨u,t,e,h,hs⟩=>by
   subst e
   simp only[QDq]
   by_cases c:k'=k
   · simp only[c,if_true];exact⟨v,_,rfl,r,bG.mapP r hs⟩
   · simp only[c,if_false];exact⟨u,_,rfl,h,bG.mapP r hs⟩
def bG.put{l:List (Key×D)}{kv:List (Key×V)}{k:Key}{d:D}{v:V}(h:bG M ρ H l kv)(r:Rel M ρ H d v):bG M ρ H (putD l k d) (putK kv k v):=by
 unfold putD putK
 rw[h.any k]
 split
 ·exact h.mapP r
 ·exact h.append ⟨v,[],rfl,r,rfl⟩
theorem bG.merge:∀{m:List (Key×D)} {kw:List (Key×V)} {l:List (Key×D)} {kv:List (Key×V)},bG M ρ H m kw->bG M ρ H l kv->bG M ρ H (bL l m) (je kv kw)
 | [],_,_,_,h,h'=>by cases h;exact h'
 | (k,d)::m,_,_,_,⟨v,t,e,h,hs⟩,h'=>by
   subst e
   unfold bL je
   rw[List.foldl_cons,List.foldl_cons]
   exact bG.merge (m:=m) (kw:=t) hs (h'.put h)
theorem bG.zip:∀{a:List Key} {ds:List D} {vs:List V},aO M ρ H ds vs->bG M ρ H (a.zip ds) (a.zip vs)
 | [],_,_,_=>rfl
 |_::_,_,_,.nil=>rfl
 |k::a,_,_,.cons h hs=>⟨_,_,rfl,h,bG.zip hs⟩
theorem bG.val:∀{l:List (Key×D)} {kv:List (Key×V)} {k:Key} {d:D},bG M ρ H l kv->mJ l k=some d->∃v,nq kv k=some v/\Rel M ρ H d v
 | [],_,_,_,_,e=>by cases e
 | (k',d')::_,_,k,d,⟨v,t,e,h,hs⟩,e'=>by
   subst e
   unfold mJ at e'
   unfold nq
   rw[List.find?_cons] at e'⊢
   by_cases c:k'=k
   · simp only[c,decide_true] at e'⊢
     cases e'
     exact⟨v,rfl,h⟩
   · simp only[c,decide_false] at e'⊢
     exact bG.val hs e'
def bG.ext'{a:List Addr}{b:Hp}{l:List (Key×D)}{kv:List (Key×V)}(h:bG M ρ H l kv)(e:bC ρ H a b):bG M a b l kv:=h.imp λ_ _ r=>r.ext e
def bG.pre'{a:List Addr}{l:List (Key×D)}{kv:List (Key×V)}(h:bG M ρ H l kv)(e:ρ <+: a):bG M a H l kv:=h.imp λ_ _ r=>r.pre e
end
section
variable{X:Cx}{a b c e:Expr}{pos:Pos}{st:Stmt}
def KI{M:Md}{ρ d:List Addr}{H h:Hp}{m:aA}{l:List (Key×D)}{kv:List (Key×V)}{p:Addr}{Q:VK}(x:bC ρ H d h)(st:eV M d m h)(j:h p=none)(r:bG M d h l kv)
  (q:∀f v g,bC ρ H f g->eV M f (m++ [.dct l]) g->Rel M f g (.ref m.length) v->Q v g):Q (.ref p) (upd h p (.dK kv)):=by
 have s:p∉d:=c8 x st j
 have n:bC d h d (upd h p (.dK kv)):=bC.laid j
 have k:=(st.lay (u:=.dK kv) j).box (o:=.dct l) s ⟨kv,aU,(r.ext' n).pre' (List.prefix_append _ _)⟩
 refine q (d++ [p]) (.ref p) _ ⟨x.pre.trans (List.prefix_append _ _),λc i=> ?_,(x.trans n).keep,(x.trans n).grow⟩ k (.ref ?_)
 ·rcases mQa.mp i with i|i
  ·exact x.new c i
  ·rw[Qfq] at i;subst i;exact .inr (x.grow _ j)
 ·rw[←st.len,QQq (Qmq _)]
  simp
open Classical in
def Kv(f g:eU):aV:=λh S=>(f h S).bind λ(p,j)=>(g h j).bind λ(r,d)=>if p.2.stays d p.1/\p.1.length=r.1.length then(xv p.1).bind λi=>some (.ref d.length,d++ [.dct (bL [] (i.zip r.1))]) else none
def KD{K s c1 j:Pos}{f g:eU}(P:X.calm=true)(r:Gl X "dict")(o:X.mg "dict"=none)(hg:Gl X "zip")(J:X.mg "zip"=none)(ha:PE X a (tQ (md X) f))(M:PE X b (tQ (md X) g))(v:starEach [a,b] X.env= [(false,eval a X.env),(false,eval b X.env)]:=by rfl)(h:starEach [b] X.env= [(false,eval b X.env)]:=by rfl)
  (he:starEach [Expr.Call (.Name "zip" s) [a,b] [] j] X.env= [(false,eval (Expr.Call (.Name "zip" s) [a,b] [] j) X.env)]:=by rfl):
  PE X (.Call (.Name "dict" K) [.Call (.Name "zip" s) [a,b] [] j] [] c1) (tD (md X) (Kv f g)):=jD (zg P r o hg J (bQ ha (bQ M dX h) (by rw[v,h])) v h he) λσ H Q ⟨ρ,y,S,d,S',ok,e,q⟩=>by
 obtain⟨⟨⟨t,U⟩,z⟩,W,e⟩:=aq e
 obtain⟨⟨⟨k,t2⟩,S2⟩,C,e⟩:=aq e
 dsimp only at e
 split at e
 ·rename_i c
  obtain⟨F,R,e⟩:=aq e
  obtain⟨rfl,rfl⟩:=bN e
  refine⟨ρ,y,S,t,U,z,ok,W,λm G a2 H1 A n h1 Y=>⟨m,y,z,k,t2,S2,ok.to A n,C,λa0 b1 ws H2 w i B x=> ?_⟩⟩
  obtain⟨I,h3,u⟩:=h1.to Y w i c.1
  have Z:=yN u R
  subst Z
  have hl:=u.length
  rw[lQm] at hl
  refine⟨_,_,G,b1,F,ws,rfl,h3.sqB,B.sqB,by rw[←hl,←x.length];exact c.2,λp N=> ?_⟩
  exact KI (A.trans w) i N (bG.merge (l:= []) (bG.zip x) rfl) q
 ·cases e
def M1:aV:=λ_ S=>some (.ref S.length,S++ [.dct []])
def M0:PE X (.Dict [] [] pos) (tD (md X) M1):=jD Dc λi H Q f=>by
 obtain⟨k,h,S,d,j,ok,e,q⟩:=f
 obtain⟨rfl,rfl⟩:=bN e
 exact λp g=>KI bC.refl ok.st g (l:= []) (kv:= []) rfl q
def Mo(f g:aV):aV:=λh S=>(f h S).bind λ(x,m)=>(g h m).bind λ(y,i)=>match x with
 | .ref k=>match i[k]? with
   |some (.dct l)=>(tK y).bind λj=>(mJ l j).bind λd=>some (d,i)
   |_=>none
 |_=>none
def NT{f g:aV}(B:X.A.units+1<cLine)(o:PE X a (tD (md X) f))(C:PE X b (tD (md X) g))(i:FU b):PE X (.Subscript a b pos) (tD (md X) (Mo f g)):=jD (F0 B o C i) λσ H Q z=>by
 obtain⟨N,r,S,d,Z,ok,e,q⟩:=z
 obtain⟨⟨x,s⟩,I,e⟩:=aq e
 obtain⟨⟨y,P⟩,w,e⟩:=aq e
 cases x with
 | ref k=>
   dsimp only at e
   split at e
   · rename_i l i
     obtain⟨ky,G,e⟩:=aq e
     obtain⟨Y,J,e⟩:=aq e
     obtain⟨rfl,rfl⟩:=bN e
     refine⟨N,r,S,_,s,ok,I,λj W H1 t m n=>⟨j,r,s,y,P,ok.to t m,w,λM v2 H2 p h K=> ?_⟩⟩
     cases p7 K G
     have n:=n.ext p
     cases n with
     | ref o=>
       obtain⟨kv,R,u⟩:=h.obj k _ _ o i
       obtain⟨v,U,F⟩:=u.val J
       exact⟨_,v,rfl,by rw[←U];exact BO.k R,q _ _ _ (t.trans p) h F⟩
   · cases e
 |_=>cases e
def MR(f g h:aV):cD:=λi S=>(h i S).bind λ(d,o)=>(f i o).bind λ(x,n)=>(g i n).bind λ(y,j)=>match x with
 | .ref k=>match j[k]? with
   |some (.dct l)=>(tK y).bind λm=>if l.length<sizeLine then some (.nx i (j.set k (.dct (putD l m d)))) else none
   |_=>none
 |_=>none
mutual
theorem Rel.offK{M:Md}{ρ:List Addr}{H:Hp}{b:Addr}{g:List (Key×V)}{o:HO}(f:H b=some (.dK g)):∀{d:D} {v:V},Rel M ρ H d v->Rel M ρ (upd H b o) d v
 |_,_,.non=>.non
 |_,_,.bl x=>.bl x
 |_,_,.int i=>.int i
 |_,_,.str x=>.str x
 |_,_,.tup h hs=>.tup (by rw[aN (Ec h f (by intro z;cases z))];exact h) (aO.offK f hs)
 |_,_,.ref h=>.ref h
 |_,_,.fn h=>.fn h
theorem aO.offK{M:Md}{ρ:List Addr}{H:Hp}{b:Addr}{f:List (Key×V)}{o:HO}(d:H b=some (.dK f)):∀{ds:List D} {vs:List V},aO M ρ H ds vs->aO M ρ (upd H b o) ds vs
 |_,_,.nil=>.nil
 |_,_,.cons h hs=>.cons (Rel.offK d h) (aO.offK d hs)
end
def eV.putKd{M:Md}{ρ:List Addr}{S:aA}{H:Hp}{k:Nat}{a:Addr}{l f:List (Key×D)}{kw:List (Key×V)}(st:eV M ρ S H)(h:ρ[k]?=some a)(d:S[k]?=some (.dct l))(r:bG M ρ H f kw):eV M ρ (S.set k (.dct f)) (upd H a (.dK kw))/\bC ρ H ρ (upd H a (.dK kw)):=by
 obtain⟨m,i,j⟩:=st.obj k a _ h d
 exact st.put h d ⟨kw,aU,r.imp λ_ _ q=>q.offK i⟩ λx g=>by rw[i] at g;cases g;exact id
def M_{f g h:aV}{i:Pos}{v:Expr}(R:X.A.units+1<cLine)(r:PE X a (tD (md X) f))(U:PE X b (tD (md X) g))(hv:PE X v (tD (md X) h))(p:swapsWith v (some (.Subscript a b i)) pos.line X.env=pure false:=by rfl):PS X (.Assign [.Subscript a b i] v pos) (tS (md X) (MR f g h)):=
 BF (FW R r U hv p) λD σ H Q=>by
  obtain⟨ρ,C,S,o,ok,e,q⟩:=Q
  obtain⟨⟨d,M⟩,e1,e⟩:=aq e
  obtain⟨⟨x,N⟩,P,e⟩:=aq e
  obtain⟨⟨y,S3⟩,Z,e⟩:=aq e
  cases x with
  | ref k=>
    dsimp only at e
    split at e
    · rename_i l p
      obtain⟨ky,e4,e⟩:=aq e
      split at e
      · rename_i hl
        cases e
        refine⟨ρ,C,S,d,M,ok,e1,λu v1 H1 I m w=>⟨u,C,M,_,N,ok.to I m,P,λF v2 H2 z s B=>⟨F,C,N,y,S3,(ok.to I m).to z s,Z,λW v3 H3 t j Y=> ?_⟩⟩⟩
        cases p7 Y e4
        have B:=B.ext t
        have w:=w.ext (z.trans t)
        have n:=(I.trans z).trans t
        cases B with
        | ref r=>
          obtain⟨kv,h1,J⟩:=j.obj k _ _ r p
          obtain⟨G,K⟩:=j.putKd r p (J.put (k:=ky) w)
          exact⟨_,_,rfl,Du.k h1 (by rw[←J.length];exact hl),q _ _ _ (n.trans K) ((ok.to n j).to K G)⟩
      · cases e
    · cases e
  |_=>cases e
open Classical in
def IC(f:eU)(g:aV):aV:=λd S=>(f d S).bind λ(p,i)=>if p.2.isL=true then(g d i).bind λ(y,h)=>if p.2.stays h p.1 then(u0 y).bind λv=>(mX p.1).bind λk=>(jQ v k).bind λj=>some (.int (j:Nat),h) else none else none
def ML{f:eU}{g:aV}{o:Expr}{i h:Pos}(ho:PE X o (tQ (md X) f))(ha:PE X e (tD (md X) g))(k:attributeBase o "index" X.env (eval o X.env)=eval o X.env:=by rfl) (n:((backTo h (starEach [e] X.env)).all (λx=> !x.1)&&(backToKw h (keywordEach [] X.env)).all (λx=>x.1.isSome)
   &&decide ([e].length+([]:List Keyword).length+(if ([]:List Keyword).isEmpty then 0 else 1)<30))=true:=by rfl)
  (l:(i.endLine==h.line)=true:=by rfl) (w:starEach [e] X.env= [(false,eval e X.env)]:=by rfl):PE X (.Call (.Attribute o "index" i) [e] [] h) (tD (md X) (IC f g)):=
 jD (yi PySem.F.plainAttrs_list PySem.F.slot_list_index PySem.F.type_list_index D_ ho (cY ha kW w) k n l w) λσ H Q M=>by
  obtain⟨ρ,C,S,d,S',ok,e,q⟩:=M
  obtain⟨⟨⟨P,t⟩,G⟩,R,e⟩:=aq e
  dsimp only at e
  split at e
  ·rename_i z
   obtain⟨⟨y,S2⟩,K,e⟩:=aq e
   dsimp only at e
   split at e
   ·rename_i W
    obtain⟨v,A,e⟩:=aq e
    obtain⟨vs,Z,e⟩:=aq e
    obtain⟨j,U,e⟩:=aq e
    obtain⟨rfl,rfl⟩:=bN e
    refine⟨ρ,C,S,P,t,G,ok,R,λp a us H1 J r I Y=>⟨.inl ⟨rfl,us,I.sqL z⟩,p,C,G,[y],S2,ok.to J r,by simp only[ar,au,K,Qbq],λa0 ws H2 B m s=> ?_⟩⟩
    obtain⟨u,h3,N⟩:=I.to Y B m W
    cases s with
    | cons s rr=>
      cases rr
      cases k_ s A
      obtain⟨rfl,f1⟩:=sr N Z
      exact⟨a,u,_,j,rfl,rfl,h3.sqL z,rT A,f1,U,q _ _ _ (J.trans B) m (.int _)⟩
   ·cases e
  ·cases e
end
section
variable{X:Cx}{a b c e:Expr}{pos:Pos}{st:Stmt}
def MS:V->List V->Hp->VK->Prop:=λx g H Q=>∃a b f d,x=.ref a/\g= [.ref b]/\a≠b/\H a=some (.dK f)/\H b=some (.dK d)/\f.length+d.length<=sizeLine/\Q .non (upd H a (.dK (je f d)))
def CY:K4 X "dict.update" MS:=by
 intro m s K H x J v M Q I y B h
 obtain⟨a,b,j,i,rfl,rfl,ab,ha,hb,hz,q⟩:=h
 cases y
 obtain⟨u,rfl,ru⟩:=B.one
 cases ru
 obtain⟨z,r,o,g,n⟩:=yf I.hok ha
 obtain⟨G,k,p,d,l⟩:=yf I.hok hb
 refine call_meetsIn PySem.F.slot_dict_update n.typeIs PySem.F.entry_dict_update (PySem.F.args_dict_update_2 _ _) (meets_dict_update (bt X.prog X.w) a b ab k) ⟨o,p,n,l,by rw[←g.length,←d.length];exact hz,λC f _ t=> ?_⟩
 have A:∃q,C.get? a=some q:=let ⟨q,_,_,hq,_⟩:=f;⟨q,hq⟩
 have hl:=ia i j
 exact⟨.non,_,p8 I (by rw[ha];exact True.intro) t A (sN (by omega) r (KV.merge d g) f),rfl,q⟩
def Gj(f g:aV):aV:=λh S=>(f h S).bind λ(x,i)=>(g h i).bind λ(y,d)=>match x,y with
 | .ref k,.ref j=>if k≠j then match i[k]?,d[k]?,d[j]? with
   |some (.dct _),some (.dct l),some (.dct m)=>if l.length+m.length<=sizeLine then some (.non,d.set k (.dct (bL l m))) else none
   |_,_,_=>none
   else none
 |_,_=>none
def L3{f g:aV}{o:Expr}{n h:Pos}(ho:PE X o (tD (md X) f))(A:PE X e (tD (md X) g))(p:attributeBase o "update" X.env (eval o X.env)=eval o X.env:=by rfl) (u:((backTo h (starEach [e] X.env)).all (λx=> !x.1)&&(backToKw h (keywordEach [] X.env)).all (λx=>x.1.isSome)
   &&decide ([e].length+([]:List Keyword).length+(if ([]:List Keyword).isEmpty then 0 else 1)<30))=true:=by rfl)
  (r:(n.endLine==h.line)=true:=by rfl) (U:starEach [e] X.env= [(false,eval e X.env)]:=by rfl):PE X (.Call (.Attribute o "update" n) [e] [] h) (tD (md X) (Gj f g)):=
 jD (yi PySem.F.plainAttrs_dict PySem.F.slot_dict_update PySem.F.type_dict_update CY ho (cY A kW U) p u r U) λσ H Q qq=>by
  obtain⟨ρ,Y,S,d,S',ok,e,q⟩:=qq
  obtain⟨⟨x,J⟩,e1,e⟩:=aq e
  obtain⟨⟨y,K⟩,e2,e⟩:=aq e
  cases x with
  | ref k=>
    cases y with
    | ref j=>
      dsimp only at e
      split at e
      · rename_i ne
        cases M:J[k]? with
        |none=>rw[M] at e;cases e
        | some o1=>
          rw[M] at e
          cases o1 with
          | dct l0=>
            cases w:K[k]? with
            |none=>rw[w] at e;cases e
            | some o2=>
              rw[w] at e
              cases o2 with
              | dct l=>
                cases N:K[j]? with
                |none=>rw[N] at e;cases e
                | some o3=>
                  rw[N] at e
                  cases o3 with
                  | dct m=>
                    dsimp only at e
                    split at e
                    · rename_i hl
                      obtain⟨rfl,rfl⟩:=bN e
                      refine⟨ρ,Y,S,_,J,ok,e1,λC v H1 x1 t r1=> ?_⟩
                      cases r1 with
                      | ref A=>
                        rename_i a
                        obtain⟨B,g0,_⟩:=t.obj k a _ A M
                        refine⟨.inr (.inr (.inl ⟨rfl,.inl ⟨B,g0⟩⟩)),C,Y,J,[.ref j],K,ok.to x1 t,by simp only[ar,au,e2,Qbq],λa0 ws H2 W i I=> ?_⟩
                        cases I with
                        | cons I rr=>
                          cases rr
                          cases I with
                          | ref R=>
                            rename_i b
                            have s:=bU W.pre A
                            obtain⟨kv,g1,P⟩:=i.obj k a _ s w
                            obtain⟨kw,g3,Z⟩:=i.obj j b _ R N
                            have ab:a≠b:=λz=>by subst z;exact ne (j2 i.nd s R)
                            obtain⟨G,x3⟩:=i.putKd s w (bG.merge Z P)
                            exact⟨a,b,kv,kw,rfl,rfl,ab,g1,g3,by rw[←P.length,←Z.length];exact hl,q _ _ _ ((x1.trans W).trans x3) G .non⟩
                    · cases e
                  |_=>cases e
              |_=>cases e
          |_=>cases e
      · cases e
    |_=>cases e
  |_=>cases e
end
end DL
namespace L2
open PySem PySem.Spec PyProof.Rows
section
variable{prog:Program}{w:World}{A:Around}{s:Shared}
def s_{F G a j:Expr}{p:List Expr}{e:Scope}{pos:Pos}{it:Value}{D:Addr}{env:Env}{R:Result->Shared->Prop}(I:Nat->Shared->Prop)
  (B:∀n s,I n s->wpAny (model prog w) A (pyNext it) (λr f=>match r with
   |none=>R (.ok .next) f
   |some v=>wpAny (model prog w) A (letOwnedTupleGo a it v) (λ_ d=>wpAny (model prog w) A (assign a env v) (λ_ l=>
     wpAny (model prog w) A (forIn p true λc r=>if r=true then do let ok←isTrue c env (eval c env);pure (ForInStep.yield ok) else pure (ForInStep.yield r)) (λok s₃=>
      if ok=true then wpAny (model prog w) A (eval F env) (λx k=>wpAny (model prog w) A (eval G env) (λy i=>
       wpAny (model prog w) A (dictSet D x y) (λ_ o=>∃m,m<n/\I m o) (λ_ _=>False) i) (λ_ _=>False) k) (λ_ _=>False) s₃
      else∃m,m<n/\I m s₃) (λ_ _=>False) l) (λ_ _=>False) d) (λ_ _=>False) f) (λ_ _=>False) s)
  (n:Nat) (h:I n s):codeAny (model prog w) A (.compLoop (.DictComp F G [⟨a,j,p,0⟩] e pos) 0 it (.ref D) env) R s:=by
 refine codeAny_loop rfl I (λn s H=> ?_) n h
 show wpAny _ A ((compTurn (.DictComp F G [⟨a,j,p,0⟩] e pos) 0 it (.ref D) env).onRaise (λx=>do noteFrame x env;theTreesLotGoes x)) _ _ s
 refine wpAny_noted ?_
 rw[compTurn_dict]
 refine Qaq (wpAny_standAt (Qaq (QRq (B n s H) (λr f g=> ?_) λ_ _ b=>b.elim)))
 cases r with
 |none=>exact Qgq g
 | some v=>
   refine Qaq (QRq g (λ_ d q=> ?_) λ_ _ b=>b.elim)
   refine Qaq (QRq q (λ_ l z=>Qaq (QRq z (λok s₃ h₃=> ?_) λ_ _ b=>b.elim)) λ_ _ b=>b.elim)
   cases ok with
   |false=>exact Qgq ⟨rfl,h₃⟩
   | true=>
     exact Qaq (Qaq (QRq h₃ (λx k u=>Qaq (QLq (QRq u (λy i C=>Qaq (wpAny_standAt (QLq (QRq C (λ_ o t=>Qgq ⟨rfl,t⟩) λ_ _ b=>b.elim)))) λ_ _ b=>b.elim))) λ_ _ b=>b.elim))
end
def Jj(J:It)(g:TG)(n:TT)(o q:TE)(Q:VK)(D:Addr)(p:St)(H:Hp):Prop:=
 ∃ W:Nat->Nat->St->Hp->Prop,(∃m,W 0 m p H)/\∀i m d e,W i m d e→
   (J.stop i e/\Q (.ref D) e)\/(J.go i e/\∃Nx:St->Hp->Prop,(∀b f,Nx b f->∃h,h<m/\W (i+1) h b f)∧
     ∀ x H2,J.yld i e x H2->g x d H2 λa H3=>n a H3 λok H4=>
       if ok=true then o a H4 λk H5=>q a H5 λy l=>∃c j,k=kV j/\l D=some (.dK c)/\c.length<sizeLine/\Nx a (upd l D (.dK (putK c j y))) else Nx a H4)
def Df(js:List (Option Nat))(d:TI)(g:TG)(c:TT)(b e:TE):TE:=λa H Q=>d a H λJ H1=>∀D,H1 D=none->Jj J g c b e Q D (jj js a) (upd H1 D (.dK []))
def D0{X:Cx}{N:List Str}{js:List (Option Nat)}{a:Scope}{cl:List (Str×Addr)}{tg U kx vx P:Expr}{a8:List Expr}{pos b1:Pos}{wi:TI}{g gt:TG}{tt:TT}{tk tv:TE}
  (S:aS X N js a cl) (hc:X.calm=true) (hi:PI X tg U wi)
  (hg:∀C s H fp,PG (aF X N a cl C s H fp) tg g) (ht:∀C s H fp,lg (aF X N a cl C s H fp) a8 tt) (hk:∀C s H fp,PE (aF X N a cl C s H fp) kx tk) (hv:∀C s H fp,PE (aF X N a cl C s H fp) vx tv) (e0:PG X P gt)
  (hs:∀x,foldedSetIterable U X.env x=pure x:=by intro _;rfl) (d3:swapsWithSole [P] (.DictComp kx vx [⟨tg,U,a8,0⟩] a pos) b1.line X.env=pure true:=by rfl)
  (h1:(assignEach [P] X.env).map (·.2)= [assign P X.env]:=by rfl):PS X (.Assign [P] (.DictComp kx vx [⟨tg,U,a8,0⟩] a pos) b1) (CF (Df js wi g tt tk tv) gt):=by
 intro a0 s σ H Dn I h
 rw[exec_Assign_arm]
 refine Qaq (wpAny_standAt (Qaq (wpAny_of_eq d3 (wpAny_ite_true rfl (Qaq ?_)))))
 rw[h1]
 show wpAny _ _ (do let _←comprehension _ _ _ _ _ _ _ (some λv=>assignAll v [assign P X.env]);pure ()) _ _ _
 refine Qaq ?_
 refine wpAny_comprehension_free (use:=some λv=>assignAll v [assign P X.env]) rfl hs S.clos S.kind S.names (bW (hi a0 s σ H _ I h) λv s1 h1=>bW h1 λe5 t h2=> ?_)
 obtain⟨it,fp,tn,J,H2,e,F,T,b2,f2,hD⟩:=h2
 subst e
 refine QhQ (wpAny_newFunctionEnv S.nocell (by intro y hy;simp at hy) (λQ K B=> ?_) S.kind)
 dsimp only at K B⊢
 generalize a9:t.heap.push {cls:=.type "dict",data:=.dict #[]}=P2 at K B⊢
 have hC:P2.objs.size=t.heap.objs.size+1:=by rw[←a9,Heap.size_push]
 have b5:t.heap.objs.size≠P2.objs.size:=by rw[hC];exact Qwq (Nat.lt_succ_self _)
 have a4:t.heap.objs.size<=P2.objs.size:=by rw[hC];exact Nat.le_succ _
 have G:∀b,b<t.heap.objs.size->b≠P2.objs.size:=λb f=>by rw[hC];exact Qwq (Nat.lt_succ_of_lt f)
 have a1:∀b o,t.heap.get? b=some o->Q.get? b=some o:=λb o e=>B.extBut b o (G b (Qiq e)) (Qcq _ (a9▸Qcq _ e))
 have e3:Q.get? t.heap.objs.size=some {cls:=.type "dict",data:=.dict #[]}:=B.extBut _ _ b5 (Qcq _ (a9▸Qrq _ rfl))
 have nD:H2 t.heap.objs.size=none:=F.fresh
 have nC:H2 P2.objs.size=none:=F.hok.fresh a4
 have b3:∀b∈fp,b<t.heap.objs.size:=λb f=>by
  obtain⟨o,e,_⟩:=T.obj _ _ b2 b f
  exact Qiq e
 obtain⟨W,⟨m0,w0⟩,b7⟩:=hD t.heap.objs.size nD
 have c7:(aF X N a cl P2.objs.size t H2 fp).Ok:=by
  refine⟨F.ok.mod,S.kind,F.ok.glob,F.ok.blt,a4,λx y c h1 h2=>F.ok.inj x y c (S.sub x c h1) (S.sub y c h2),S.has,(λx c h=>by cases h),F.ok.hd,F.ok.frames,.inl rfl,
   λb f=>⟨G b (b3 b f),λx c h=>(f2 b f).2.2.2.2.1 x c (S.sub x c h)⟩,F.bs,QAq F.ok.bsz F.sz,λb o e f=> ?_,λb f z=> ?_,F.stack,F.stkFree⟩
  ·rcases(f2 b f).2.2.2.1 with z|z
   ·exact F.ok.noex b o e z
   ·exact absurd (Qqq (Qqq (Qiq e) F.ok.bsz) z) (Nat.lt_irrefl _)
  ·rcases Qsq.mp (F.stkSub b z) with q|q
   ·exact(f2 b f).2.1 q
   ·exact(f2 b f).2.2.1 q
 have c4:bI X.prog X.w (upd H2 t.heap.objs.size (.dK [])) Q t.heap.objs.size (.dK []):=by
  obtain⟨o,es,ep,e1,e2⟩:=Heap.DictOf.new (knd:=bt X.prog X.w) t.heap
  exact sN (Nat.zero_le _) (beq_eq_false_iff_ne.mpr (Ne.symm (Qwq F.big))) .nil ⟨o,es,ep,B.extBut _ _ b5 (Qcq _ (a9▸e1)),e2⟩
 have I4:Inv (aF X N a cl P2.objs.size t H2 fp) [] (jj js σ) (upd H2 t.heap.objs.size (.dK [])) {t with heap:=Q,toks:=t.toks+([]:List (Str×Value)).length}:=by
  refine⟨c7,rfl,F.bare,Un.laid a1 (Qmq _) nD,⟨_,K,λi x v h1 h2 h3=> ?_⟩,λx c h=> ?_,by show upd H2 _ _ P2.objs.size=none;rw[aN b5.symm];exact nC,λx c h=> ?_,λp hp=>absurd (show p∈([]:List (Addr×Obj)) from hp) (by simp),F.hok.laid a1 (Qmq _) c4,by show(jj js σ).length=N.length;unfold jj;rw[lQm];exact S.len⟩
  ·unfold jj at h2
   rw[gQm] at h2
   cases e:js[i]? with
   |none=>rw[e] at h2;cases h2
   | some o=>
     rw[e] at h2
     cases o with
     |none=>cases h2
     | some j=>
       have a2:σ.getD j none=some v:=QdQ h2
       have hj:σ[j]?=some (some v):=by
         rw[Qlq] at a2
         cases q:σ[j]? with
         |none=>rw[q] at a2;cases a2
         |some y=>rw[q] at a2;exact congrArg some a2
       obtain⟨c1,c2,c3⟩:=S.cap i j x e h1
       obtain⟨m,hn,hl⟩:=F.loc
       have d9:GB X.env.scope x:=by
         rcases c2 with z|z
         · exact .inr (.inl z)
         · exact .inr (.inr z)
       obtain⟨u,r,l⟩:=hl j x v c1 hj d9
       refine⟨u,r,.inr ⟨c3,?_⟩⟩
       obtain⟨c,d1⟩:=S.has x c3
       refine⟨c,d1,?_⟩
       rcases l with⟨z,_⟩|⟨_,c',e',z⟩
       · rcases c2 with y|y <;>rw[y] at z <;>cases z
       · rw[S.sub x c d1] at e'
         cases e'
         obtain⟨o,ho,hd⟩:=z
         exact⟨o,a1 _ _ ho,hd⟩
  ·obtain⟨v,o,ho,hd⟩:=F.cell x c (S.sub x c h)
   exact⟨v,o,a1 _ _ ho,hd⟩
  ·obtain⟨v,o,ho,hd⟩:=F.cell x c (S.sub x c h)
   rw[aN (Qwq (Qiq ho))]
   exact F.freeC x c (S.sub x c h)
 have a3:∀{Y:List (Addr×Obj)} {H':Hp},Y= []->(∀b∈fp,H' b=none)->∀b∈fp,ou (aF X N a cl P2.objs.size t H2 fp) Y H' b:=λ{Y H'} ep hn b f=>by
  subst ep
  refine⟨hn b f,G b (b3 b f),λz=>c7.exfs b f z,.inl f,λx c h=>(f2 b f).2.2.2.2.1 x c (S.sub x c h),λp hp=>absurd (show p∈([]:List (Addr×Obj)) from hp) (by simp)⟩
 have b0:codeAny (model X.prog X.w) X.A (.compLoop (.DictComp kx vx [⟨tg,U,a8,0⟩] a pos) 0 (.ref it) (.ref t.heap.objs.size) (compEnvC a cl P2.objs.size X.env))
   (compPost (model X.prog X.w) X.A X.xe (some λv=>assignAll v [assign P X.env]) (λ_ s9=>wpAny (model X.prog X.w) X.A (pure ()) (λ_ d4=>wpAny (model X.prog X.w) X.A (pure Flow.next) (SP X a0 Dn) X.xe d4) X.xe s9) (.ref t.heap.objs.size) P2.objs.size) {t with heap:=Q,toks:=t.toks+([]:List (Str×Value)).length}:=by
  refine s_ (λn s'=>∃i a5 H',Inv (aF X N a cl P2.objs.size t H2 fp) [] a5 H' s'/\tn i s'.heap/\(∀b∈fp,H' b=none)/\W i n a5 H') ?_ m0
   ⟨0,_,_,I4,T.keep _ _ _ b2 λb _ o e=>a1 b o e,λb f=>by rw[aN (Qwq (b3 b f))];exact(f2 b f).1,w0⟩
  rintro n s3 ⟨i,a6,H3,I3,c6,b9,w3⟩
  rcases b7 i n a6 H3 w3 with⟨stop,q⟩|⟨go,Nx,hN,c9⟩
  ·refine bW (T.done (aF X N a cl P2.objs.size t H2 fp) rfl rfl rfl hc i [] s3 a6 H3 _ I3 (a3 rfl b9) c6 stop) λr s4 Z=> ?_
   obtain⟨hr,I5⟩:=Z
   subst hr
   obtain⟨m,hn,_⟩:=id I5.loc
   have d6:∀h',Heap.SameBut P2.objs.size s4.heap h'->Inv X a0 σ H3 {s4 with heap:=h'}:=by
    intro h' R
    have u:=I5.base
    have ne:∀b o,t.heap.get? b=some o->b≠P2.objs.size:=λb o e=>G b (Qiq e)
    refine F.call' (ch:=fp) I5.os ⟨λb o e n f hx=>(R.2 b (ne b o e)).trans (u.keep b o e n f hx),λb o e n f hx=> ?_,u.free,λb o e hx=> ?_,u.tups,u.frzs,u.tbls⟩ (λb ob e=> ?_) I5.bare λb f=>⟨(f2 b f).2.2.2.1,(f2 b f).2.1,(f2 b f).2.2.2.2.1,(f2 b f).2.2.2.2.2⟩
    ·obtain⟨sl,e1⟩:=u.slot b o e n f hx
     exact⟨sl,(R.2 b (ne b o e)).trans e1⟩
    ·obtain⟨o',e1⟩:=u.there b o e hx
     exact⟨o',(R.2 b (ne b o e)).trans e1⟩
    ·refine(I5.hok b ob e).stay (λc w' hc q=>(R.2 c ?_).trans q) (λ_ q=>q) λ_ _ q=>q
     have fC:H3 P2.objs.size=none:=I5.free
     rintro rfl
     rcases hc with z|z
     ·rw[←z,fC] at e;cases e
     ·rw[fC] at z;cases z
   have IX:=d6 s4.heap ⟨rfl,λ_ _=>rfl⟩
   have a7:ou X a0 H3 P2.objs.size:=F.fpOk a4 I5.free
   obtain⟨oC,es,ep,b8,b6,d7⟩:=hn
   have IP:=IX.pinned (fp:= [P2.objs.size]) (λb f=>by rw[Qfq] at f;rw[f];exact a7) (λb f=>by rw[Qfq] at f;rw[f];exact⟨oC,b8,λv=>by rw[b6];simp⟩)
   show wpAny _ _ (assignAll (.ref t.heap.objs.size) [assign P X.env]) _ _ _
   rw[assignAll.eq_2]
   refine bW (e0 _ s4 σ H3 (.ref t.heap.objs.size) (.ref t.heap.objs.size) _ IP rfl q) λ_ s6 Z=> ?_
   obtain⟨M,H6,I6,q6⟩:=Z
   have pC:=I6.pin (P2.objs.size,oC) (Qoq _ (Qoq _ (cP (Qfq.mpr rfl) b8)))
   refine⟨m,⟨oC,es,ep,pC.1,b6,d7⟩,λh' R=>Qgq (Qgq ⟨M,H6,?_,q6⟩)⟩
   exact I6.unpinned.turned (it:=P2.objs.size) (t':=s6.toks) (λb o' f e=>(R.2 b f).trans e) pC.2.1 pC.2.2.1 a7.2.2.2.1 a7.2.2.2.2.1 a7.2.2.2.2.2
  ·refine bW (T.item (aF X N a cl P2.objs.size t H2 fp) rfl rfl rfl hc i [] s3 a6 H3 _ I3 (a3 rfl b9) c6 go) λr s4 Z=> ?_
   obtain⟨u,hr,h4⟩:=Z
   subst hr
   refine bW h4 λ_ s5 Z=> ?_
   obtain⟨x,H5,I5,r5,y5,b4,d8⟩:=Z
   have d2:=I5.pinned (a3 rfl d8) (T.obj _ _ b4)
   refine bW (hg P2.objs.size t H2 fp _ s5 a6 H5 x u _ d2 r5 (c9 x H5 y5)) λ_ s6 Z=> ?_
   obtain⟨M,H6,I6,q6⟩:=Z
   refine bW (ht P2.objs.size t H2 fp _ s6 M H6 _ I6 q6) λok s7 Z=> ?_
   obtain⟨H7,I7,q7⟩:=Z
   have again:∀{s8:Shared} {H8:Hp},Inv (aF X N a cl P2.objs.size t H2 fp) ([]++lT fp s5.heap) M H8 s8->Nx M H8->∃m,m<n/\∃i a5 H',Inv (aF X N a cl P2.objs.size t H2 fp) [] a5 H' s8/\tn i s8.heap/\(∀b∈fp,H' b=none)/\W i m a5 H':=λ{s8 H8} I8 n8=>by
    obtain⟨m',hm,w8⟩:=hN M H8 n8
    refine⟨m',hm,i+1,M,H8,I8.unpinned,T.keep _ _ _ b4 λb f o e=>(I8.pin (b,o) (Qoq _ (Qoq _ (cP f e)))).1,λb f=> ?_,w8⟩
    obtain⟨o,e,d⟩:=T.obj _ _ b4 b f
    exact(I8.pin (b,o) (Qoq _ (Qoq _ (cP f e)))).2.1
   cases ok with
   |false=>exact again I7 q7
   | true=>
     refine bW (hk P2.objs.size t H2 fp _ s7 M H7 _ I7 q7) λkv s8 Z=> ?_
     obtain⟨k,H8,I8,rk,q8⟩:=Z
     refine bW (hv P2.objs.size t H2 fp _ s8 M H8 _ I8 q8) λyv s9 Z=> ?_
     obtain⟨y,H9,I9,ry,d5,ky,ek,hx,hl,n9⟩:=Z
     subst ek
     obtain⟨z,hd,vs,c0,dd⟩:=yf I9.hok hx
     refine wpAny_dictSet_pairs (xr rk) dd (λh' c5 R=> ?_) (by rw[←c0.length];exact z)
     have he:∃q,h'.get? t.heap.objs.size=some q:=let ⟨q,_,_,hq,_⟩:=c5;⟨q,hq⟩
     have e4:=gZ d5 ky y
     exact again (p8 I9 (by rw[hx];exact True.intro) R he (sN (by omega) hd (c0.put ky ry) c5)) n9
 exact codeAny_compStart_dict b0 (T.self _ 0 _ _ _ (T.keep _ _ _ b2 λb _ o e=>a1 b o e) b0)
end L2
namespace DL
open PySem PySem.Spec PyProof.Rows L2
section
variable{M:Md}{ρ:List Addr}{H:Hp}{b:Addr}{us:List (Key×V)}{o:HO}
theorem eV.offK{S:aA}(st:eV M ρ S H)(e:H b=some (.dK us))(n:b∉ρ):eV M ρ S (upd H b o):=⟨st.len,st.nd,λk a p i j=>by
 have q:=st.obj k a p i j
 have f:a≠b:=λz=>n (z▸mQg i)
 cases p with
 |lst h=>obtain⟨g,c,d⟩:=q;exact⟨g,by rw[aN f];exact c,d.offK e⟩
 |frz h=>obtain⟨g,o,c,d⟩:=q;exact⟨g,o,by rw[aN f];exact c,d.offK e⟩
 |dct l=>obtain⟨s,c,d⟩:=q;exact⟨s,by rw[aN f];exact c,d.imp λ_ _ r=>r.offK e⟩
 |sett h=>obtain⟨t,m,c,d,u⟩:=q;exact⟨t,m,by rw[aN f];exact c,d.offK e,u⟩⟩
def En.offK{a:cv}{c:L2.St}(h:En M ρ H a c)(g:H b=some (.dK us)):En M ρ (upd H b o) a c:=⟨h.len,λi d q=>by obtain⟨v,f,e⟩:=h.get i d q;exact⟨v,f,e.offK g⟩⟩
end
open Classical in
def ib(g:kM)(t:ie)(c b:aV)(W:aA->Prop):List D->cv->aA->List (Key×D)->Option (List (Key×D)×aA)
 | [],Γ,S,acc=>if W S then some (acc,S) else none
 |d ::ds,Γ,S,acc=>if W S then(g d Γ S).bind λ(a,h)=>(t a h).bind λ(k,e)=>
    if k=true then(c a e).bind λ(x,i)=>(b a i).bind λ(y,j)=>(tK x).bind λf=>if acc.length<sizeLine then ib g t c b W ds a j (putD acc f y) else none
    else ib g t c b W ds a e acc
  else none
def nI(js:List (Option Nat))(i:tE)(g:kM)(t:ie)(c b:aV):cv->aA->Option (List (Key×D)×aA):=λa S=>(i a S).bind λ(p,d)=>ib g t c b p.2 p.1 (mV js a) d []
def Hn{M:Md}{js:List (Option Nat)}{i:tE}{g:kM}{t:ie}{fk fv:aV}{σ:L2.St}{H:Hp}{Q:VK}{ρ:List Addr}{Γ:cv}{S S':aA}{l:List (Key×D)}(ok:Ok M ρ Γ S σ H)(e:nI js i g t fk fv Γ S=some (l,S'))
  (q:∀b a kv f,bC ρ H b f->eV M b S' f->H a=none->a∉b->f a=some (.dK kv)->bG M b f l kv->Q (.ref a) f):Df js (tI M i) (tG M g) (tB M t) (tD M fk) (tD M fv) σ H Q:=by
 obtain⟨⟨⟨n,W⟩,S1⟩,e1,e⟩:=aq e
 refine⟨ρ,Γ,S,n,W,S1,ok,e1,λo J H1 x1 Y wk D X=> ?_⟩
 have n1:D∉o:=c8 x1 Y X
 have a9:Ok M o (mV js Γ) S1 (jj js σ) (upd H1 D (.dK [])):=⟨((ok.en.ext x1).ext (bC.laid X)).sig js,Y.lay X⟩
 refine⟨λi m C f=>m=n.length-i/\i<=n.length/\∃d B U c j,bC o H1 d f/\Ok M d B U C f/\D∉d/\f D=some (.dK j)/\bG M d f c j/\ib g t fk fv W (n.drop i) B U c=some (l,S'),
  ⟨n.length,by simp,Nat.zero_le _,o,_,S1,[],[],bC.laid X,a9,n1,aU,rfl,e⟩,?_⟩
 rintro i m b4 H2 ⟨rfl,hi,d,B,U,c,j,x2,ok2,n2,hD2,racc,e2⟩
 by_cases K:i<n.length
 ·have hd:n[i]?=some n[i]:=gQe K
  rw[QWq K] at e2
  unfold ib at e2
  split at e2
  ·rename_i w
   obtain⟨w1,w2⟩:=wk i d U H2 x2 ok2.st w
   obtain⟨go,a6⟩:=w1 _ hd
   refine .inr ⟨go,λC f=>∃b s F c j,bC o H1 b f/\Ok M b s F C f/\D∉b/\f D=some (.dK j)/\bG M b f c j/\ib g t fk fv W (n.drop (i+1)) s F c=some (l,S'),
    λC f ⟨b,s,F,c,j,h1,h2,h3,h4,h5,h6⟩=>⟨n.length-(i+1),by omega,rfl,K,b,s,F,c,j,h1,h2,h3,h4,h5,h6⟩,λx H3 hy=> ?_⟩
   obtain⟨x3,b0,r3⟩:=a6 x H3 hy
   obtain⟨⟨h,S4⟩,e4,e5⟩:=aq e2
   refine⟨d,B,U,_,h,S4,ok2.to x3 b0,r3,e4,λb1 b3 H4 x4 p=> ?_⟩
   obtain⟨⟨k,S5⟩,e6,e7⟩:=aq e5
   refine⟨b1,h,S4,k,S5,p,e6,λa0 H5 Z P=> ?_⟩
   have u:=(x3.trans x4).trans Z
   have G:∀{b f},bC d H2 b f->f D=some (.dK j)/\D∉b:=λ{b f} x=>⟨x.keep _ _ hD2 (.inl n2),λm=>(x.new _ m).elim n2 λz=>by rw[z] at hD2;cases hD2⟩
   dsimp only at e7⊢
   split at e7
   ·rename_i ck
    rw[Qhq ck]
    obtain⟨⟨kx,S6⟩,e8,e9⟩:=aq e7
    obtain⟨⟨y,S7⟩,a1,a4⟩:=aq e9
    obtain⟨kk,a7,I⟩:=aq a4
    refine⟨a0,h,S5,kx,S6,p.to Z P,e8,λb2 kv H6 x6 a3 r6=>⟨b2,h,S6,y,S7,(p.to Z P).to x6 a3,a1,λa8 v H7 x7 a5 r7=> ?_⟩⟩
    have R:=(u.trans x6).trans x7
    obtain⟨A,n7⟩:=G R
    have N:=racc.ext' R
    split at I
    ·rename_i cl
     refine⟨j,kk,p7 r6 a7,A,by rw[←racc.length];exact cl,a8,h,S7,putD c kk y,_,(x2.trans R).off X _,⟨(((p.en.ext Z).ext x6).ext x7).offK A,a5.offK A n7⟩,n7,aU,(N.put r7).imp λ_ _ r=>r.offK A,I⟩
    ·cases I
   ·rename_i ck
    rw[Quq ck]
    obtain⟨a2,n5⟩:=G u
    exact⟨a0,h,S5,c,j,x2.trans u,p.to Z P,n5,a2,racc.ext' u,e7⟩
  ·cases e2
 ·have e3:i=n.length:=by omega
  subst e3
  rw[List.drop_length] at e2
  unfold ib at e2
  split at e2
  ·rename_i w
   obtain⟨rfl,rfl⟩:=bN e2
   obtain⟨w1,w2⟩:=wk n.length d U H2 x2 ok2.st w
   exact .inl ⟨w2 rfl,q d D j H2 (x1.trans x2) ok2.st (x1.grow _ X) n2 hD2 racc⟩
  ·cases e2
def Lz(n:Nat)(f:cv->aA->Option (List (Key×D)×aA)):cD:=λa S=>(f a S).bind λ(l,b)=>some (.nx (a.set n (some (.ref b.length))) (b++ [.dct l]))
section
variable{X:Cx}{pos:Pos}
def Hd{N:List Str}{js:List (Option Nat)}{c:Scope}{p:List (Str×Addr)}{r d w y f:Expr}{j:List Expr}{i:tE}{g:kM}{t:ie}{A F:aV}{n:Nat}{h:Pos}
  (S:aS X N js c p) (M:X.calm=true) (hi:PI X r d (tI (md X) i))
  (Z:∀C s H fp,PG (aF X N c p C s H fp) r (tG (md X) g)) (ht:∀C s H fp,lg (aF X N c p C s H fp) j (tB (md X) t)) (Q:∀C s H fp,PE (aF X N c p C s H fp) w (tD (md X) A)) (R:∀C s H fp,PE (aF X N c p C s H fp) y (tD (md X) F)) (u:PG X f (my n))
  (P:∀x,foldedSetIterable d X.env x=pure x:=by intro _;rfl) (z:swapsWithSole [f] (.DictComp w y [⟨r,d,j,0⟩] c pos) h.line X.env=pure true:=by rfl)
  (h1:(assignEach [f] X.env).map (·.2)= [assign f X.env]:=by rfl):PS X (.Assign [f] (.DictComp w y [⟨r,d,j,0⟩] c pos) h) (tS (md X) (Lz n (nI js i g t A F))):=
 BF (D0 S M hi Z ht Q R u P z h1) λD σ H J=>by
  obtain⟨ρ,Γ,S,o,ok,e,q⟩:=J
  obtain⟨⟨l,S1⟩,U,e⟩:=aq e
  cases e
  refine Hn ok U λk a Y B x I W K ha rs=> ?_
  have v:=I.box (o:=.dct l) K ⟨Y,ha,rs.pre' (List.prefix_append k [a])⟩
  have G:bC ρ H (k++ [a]) B:=⟨x.pre.trans (List.prefix_append _ _),λb m=>by
   rcases mQa.mp m with m|m
   ·exact x.new b m
   ·rw[Qfq] at m;subst m;exact .inr W,x.keep,x.grow⟩
  refine q (k++ [a]) _ B G ⟨((ok.en.ext G).set (.ref ?_)),v⟩
  rw[←I.len,QQq (Qmq _)]
  simp
end
end DL
namespace Zp
open PySem PySem.W PyProof.Rows
end Zp
namespace L2
open PySem PySem.Spec PyProof.Rows
end L2
namespace DL
open PySem PySem.Spec PyProof.Rows L2
def tR(a b:Str):Prop:=¬(b.cps.toList<a.cps.toList)
instance(a b:Str):Decidable (tR a b):=by unfold tR;infer_instance
def CA(a b:Str):tR a b\/tR b a:=by
 by_cases h:b.cps.toList<a.cps.toList
 ·exact .inr λc=>List.lt_asymm h c
 ·exact .inl h
def uD{a b c:Str}(e:tR a b)(d:tR b c):tR a c:=by
 unfold tR at *
 rw[List.not_lt] at *
 exact List.le_trans e d
def Eu{a b:Str}(d:tR a b)(c:tR b a):a=b:=by
 unfold tR at *
 rw[List.not_lt] at *
 have:=List.le_antisymm d c
 cases a
 cases b
 simp only[Str.mk.injEq]
 exact Array.toList_inj.mp this
def z3(x:Str):List Str->List Str
 | []=> [x]
 |y::r=>if tR x y then x::y::r else y::z3 x r
def oI:List Str->List Str
 | []=> []
 |x::r=>z3 x (oI r)
theorem oq(x:Str):∀l:List Str,(z3 x l).Perm (x::l)
 | []=>List.Perm.refl _
 | y::r=>by
   unfold z3
   split
   · exact List.Perm.refl _
   · exact((oq x r).cons y).trans (List.Perm.swap _ _ _)
theorem jJ:∀l:List Str,(oI l).Perm l
 | []=>List.Perm.refl _
 |x::r=>(oq x _).trans ((jJ r).cons x)
theorem oS{x:Str}:∀{l:List Str},l.Pairwise tR->(z3 x l).Pairwise tR
 | [],_=>by simp[z3]
 | y::r,h=>by
   rw[List.pairwise_cons] at h
   unfold z3
   split
   · rename_i c
     refine List.pairwise_cons.mpr ⟨λz a=> ?_,List.pairwise_cons.mpr h⟩
     rcases Qsq.mp a with rfl|a
     · exact c
     · exact uD c (h.1 z a)
   · rename_i c
     refine List.pairwise_cons.mpr ⟨λz a=> ?_,oS h.2⟩
     rcases Qsq.mp ((oq x r).mem_iff.mp a) with rfl|a
     · exact(CA _ _).resolve_left c
     · exact h.1 z a
theorem hR:∀l:List Str,(oI l).Pairwise tR
 | []=>List.Pairwise.nil
 |x::r=>oS (hR r)
def vh:∀{l:List Str},sortedS l=true->l.Pairwise tR
 | [],_=>List.Pairwise.nil
 | x::r,h=>by
   have e:∀(r:List Str) (x:Str),risingS x r=true->(x::r).Pairwise tR:=by
     intro r
     induction r with
     |nil=>intro x _;simp
     | cons y r d=>
       intro x h
       unfold risingS at h
       simp only[QCq] at h
       have b:=d y h.2
       have c:tR x y:=by
         have:=h.1
         unfold tR
         rw[ltCps_eq] at this
         simpa using this
       refine List.pairwise_cons.mpr ⟨λz a=> ?_,b⟩
       rcases Qsq.mp a with rfl|a
       · exact c
       · exact uD c ((List.pairwise_cons.mp b).1 z a)
   exact e r x h
def C4{c d:List Str}(h:sortedS c=true)(p:c.Perm d):c=oI d:=
 List.Perm.eq_of_pairwise (le:=tR) (λa b _ _ f e=>Eu f e) (vh h) (hR d) (p.trans (jJ d).symm)
end DL
namespace L2
open PySem PySem.Spec PyProof.Rows
end L2
namespace DL
open PySem PySem.Spec L2
section
variable{X:Cx}{a b e:Expr}{pos:Pos}
def tU:List D->Option (List Str)
 | []=>some []
 |.str x::r=>(tU r).bind λc=>some (x::c)
 |_::_=>none
theorem yE{M:Md}{ρ:List Addr}{H:Hp}:∀{ds:List D} {vs:List V} {xs:List Str},aO M ρ H ds vs->tU ds=some xs->vs=xs.map V.str
 | [],_,_,h,e=>by cases h;cases e;rfl
 | d::ds,_,_,h,e=>by
   cases d with
   | str b=>
     simp only[tU] at e
     obtain⟨c,g,e⟩:=aq e
     cases e
     cases h with
     | cons h f=>
       cases h
       rw[yE f g]
       rfl
   |_=>cases e
theorem t6{M:Md}{ρ:List Addr}{H:Hp}:∀c:List Str,aO M ρ H (c.map D.str) (c.map V.str)
 | []=>.nil
 |s::c=>.cons (.str s) (t6 c)
def Au(f:eU):fN:=λd S=>(f d S).bind λ(p,g)=>if p.2.isL=true then(tU p.1).bind λc=>if c.length<64 then some ((oI c).map D.str,g) else none else none
def Mq{f:eU}{p:Pos}(A:Gl X "sorted")(o:X.mg "sorted"=none)(G:PE X a (tQ (md X) f))(g:starEach [a] X.env= [(false,eval a X.env)]:=by rfl):
  PE X (.Call (.Name "sorted" p) [a] [] pos) (tL (md X) (Au f)):=
 jD (iQ vY A o PyProof.Rows.boot_sorted (bQ G dX g) (he:=g)) λM H Q m=>by
  obtain⟨B,y,S,d,J,ok,e,q⟩:=m
  obtain⟨⟨⟨s,t⟩,z⟩,v,e⟩:=aq e
  dsimp only at e
  split at e
  ·rename_i c
   obtain⟨u,k,e⟩:=aq e
   split at e
   ·rename_i n
    obtain⟨rfl,rfl⟩:=bN e
    refine⟨B,y,S,s,t,z,ok,v,λF a K I x i h r=>⟨a,u,rfl,?_,n,λl w hl C j=> ?_⟩⟩
    ·rw[←yE r k];exact h.sqL c
    ·cases C4 C j
     exact q _ _ _ _ (x.trans (bC.laid hl)) (i.lay hl) (x.grow _ hl) (c8 x i hl) aU (t6 _)
   ·cases e
  ·cases e
end
def Bv{P:Program}{w:World}{K:PySem.W.Frag}{mg:Str->Option Value}{base:Heap}{f:Addr}{d:FuncData}{ps:List Str}{k n:Nat}:a_ P w K mg base dA k f d ps (dQ ⟨K,mg⟩ n λ_ _=>none):=
 {len:=λc H Q E h=>by
   obtain⟨_,_,_,_,_,_,_,_,e,_⟩:=h
   cases e
  run:=λA a s H b g c Q E _ _ _ _ h=>by
   obtain⟨_,_,_,_,_,_,_,_,e,_⟩:=h
   cases e}
end DL
namespace Zq
open PySem PyProof.Rows
def GP{prog:Program}{w:World}{A:Around}(m:A.handled=none)(t:Bool)(it a:Addr)(f:a≠it)(items:Array Value):
  Draws prog w A it [it,a] items.size (λi v=>items[i]?=some v) (λi h=>It t h it a i/\Sq t h a items) where
 live:=λ_ _ b=>by obtain⟨o,h,_⟩:=b.1.obj;exact⟨o,h⟩
 frame:=λ_ _ _ b g=>⟨b.1.at λo e=>g it (by simp) o e,b.2.at λo e=>g a (by simp) o e⟩
 item:=λi s Q E j b k=>draw b.1 b.2 (v:=items[i]) (by simp[j]) λn d c=>k _ n s.toks (by simp[j]) ⟨d,b.2.ext c.extBut f⟩ c
 done:=λs Q E b l=>Bp m b.1 b.2 (by simp) l
def DY{prog:Program}{w:World}{A:Around}(f:A.handled=none)(t:Bool)(it a:Addr)(items:Array Value)(k:Nat)(c:items.size<=k):
  Draws prog w A it [it,a] k (λi v=>items[i]?=some v) (λi h=>i=k/\It t h it a k/\Sq t h a items) where
 live:=λ_ _ b=>by obtain⟨o,h,_⟩:=b.2.1.obj;exact⟨o,h⟩
 frame:=λ_ _ _ b c=>⟨b.1,b.2.1.at λo e=>c it (by simp) o e,b.2.2.at λo e=>c a (by simp) o e⟩
 item:=λi s Q E g b j=>absurd b.1 (Qwq g)
 done:=λs Q E b d=>Bp f b.2.1 b.2.2 (by simp[c]) d
abbrev E2(t:Bool)(h:Heap)(a:Addr):Heap:=(H1 t h a).push {cls:=.type "enumerate",data:=.fields #[.none,.bool false,.ref h.objs.size,rawInt 0,.none,.none]}
def zi(t:Bool)(a:Addr)(xs:Array Value):Meets (Builtin.«enumerate.__new__» ⟨[.type "enumerate",.ref a],[]⟩) (λ_ R s=>Sq t s.heap a xs/\R (.ok (.ret (.ref (H1 t s.heap a).objs.size))) {s with heap:=E2 t s.heap a}):=
 .of_wp λf w A R s h=>by
  obtain⟨e,g,d,k,j⟩:=s
  obtain⟨l,h⟩:=h
  have i:=sub_enumerate
  cases t
  ·have b:Heap.IsList (Shared.heap ⟨e,g,d,k,j⟩) a xs:=l
   wp_walk
   refine wpAny_stack_any λm=>Qgq ?_
   split
   ·rename_i c _ _ _ _ _
    cases (c==Value.type "enumerate")
    ·wp_walk using wpAny_pyIter_list b
     exact⟨_,rfl,h⟩
    ·wp_walk using wpAny_pyIter_list b
     exact⟨_,rfl,h⟩
   ·wp_walk using wpAny_pyIter_list b
    exact⟨_,rfl,h⟩
  ·have b:Heap.IsTuple (Shared.heap ⟨e,g,d,k,j⟩) a xs:=l
   wp_walk
   refine wpAny_stack_any λm=>Qgq ?_
   split
   ·rename_i c _ _ _ _ _
    cases (c==Value.type "enumerate")
    ·wp_walk using wpAny_pyIter_tuple b
     exact⟨_,rfl,h⟩
    ·wp_walk using wpAny_pyIter_tuple b
     exact⟨_,rfl,h⟩
   ·wp_walk using wpAny_pyIter_tuple b
    exact⟨_,rfl,h⟩
section
variable{prog:Program}{w:World}{A:Around}{E:Value->Shared->Prop}{s:Shared}
def Ls{t:Bool}{a:Addr}{xs:Array Value}{Q:Value->Shared->Prop}(g:Sq t s.heap a xs)
  (q:∀h',IsEnum h' (s.heap.objs.size+1) s.heap.objs.size 0 .none->It t h' s.heap.objs.size a 0->(∀c o,s.heap.get? c=some o->h'.get? c=some o)->Q (.ref (s.heap.objs.size+1)) {s with heap:=h'}):
  wpAny (model prog w) A (call (.type "enumerate") [.ref a]) Q E s:=by
 refine callType_new F.called_enumerate (by decide) (F.typeCall_enumerate_1 _) (F.newCall_enumerate_1 _) (λb=>F.args_object_init_2 b _) F.entry_enumerate_new (zi t a xs) ⟨g,?_⟩
 have e:(H1 t s.heap a).objs.size=s.heap.objs.size+1:=Heap.size_push ..
 have d:(E2 t s.heap a).get? (H1 t s.heap a).objs.size=some _:=Qrq _ rfl
 have f:(E2 t s.heap a).get? s.heap.objs.size=some _:=Qcq _ (Qrq _ rfl)
 refine(?_:_/\_)
 rw[e] at d
 rw[e]
 refine⟨⟨_,d,rfl⟩,q _ d ?_ λc o n=>Qcq _ (Qcq _ n)⟩
 cases t <;>exact⟨_,f,rfl,rfl⟩
end
end Zq
namespace L2
open PySem PyProof.Rows Zq
def Oi(K:PySem.W.Frag)(t:Bool)(a:Addr):It:=
  ⟨λi H=>∃b x,yc K t H a b/\b[i]?=some x,
   λi H v c=>∃p,v=.ref p/\H p=none/\∀b x,yc K t H a b->b[i]?=some x->c=upd H p (.tup [.int (i:Nat),x]),
   λi H=>∃b,yc K t H a b/\b.length<=i⟩
def CP{P:Program}{w:World}{K:PySem.W.Frag}{p:List Expr}{x1:Nat}{tp:Pos}{t:Bool}{e it a:Addr}(l:e≠it)(N:a≠e)(z:a≠it):
  Turn P w K (.Tuple p x1 tp) (Oi K t a) [e,it] e (λn h=>(∃d,IsEnum h e it (n:Nat) d)/\Zq.It t h it a n) where
 mem:=by simp
 obj:=λn h ⟨⟨d,f⟩,i⟩ c b=>by
  simp at b
  rcases b with rfl|rfl
  ·exact⟨_,f,λv n=>by cases n⟩
  ·exact i.obj
 keep:=λn h h' ⟨⟨d,f⟩,i⟩ k=>⟨⟨d,k e (by simp) _ f⟩,i.at λo e=>k it (by simp) o e⟩
 item:=by
  rintro X q J C b n j s σ H E I y ⟨⟨d,f⟩,i⟩ S
  subst q J C
  obtain⟨xs,x,u,G⟩:=S
  obtain⟨g,Q,F,_⟩:=I.sq u
  obtain⟨ux,Y,rx⟩:=Q.get G
  have Z:∀{c o},s.heap.get? c=some o->c≠s.heap.objs.size:=λe=>Qwq (Qiq e)
  have m:∀c∈[e,it],c≠s.heap.objs.size:=λc b=>by
   obtain⟨oi,e1,_⟩:=i.obj
   simp at b
   rcases b with rfl|rfl
   ·exact Z f
   ·exact Z e1
  have M:n<g.toArray.size:=by
   have:=(gQs.mp Y).1
   simpa using this
  refine wpAny_pyNext_enum_itemD (GP (A:=X.A.in1) (I.ok.hd b) t it a z g.toArray) f ⟨i,F⟩ M l (by simp[l,Ne.symm N]) λx' h1 tk q ho B hT a0 hk=>⟨_,rfl,?_⟩
  obtain rfl:x'=ux:=by
   have:=q
   simp only[List.getElem?_toArray] at this
   rw[Y] at this
   exact(QdQ this).symm
  refine wpAny_letOwnedTupleGo_enum ho λh2 e2 U=> ?_
  have I2:Inv X j σ (upd H s.heap.objs.size (.tup [.int (n:Nat),x])) {s with heap:=h2,toks:=tk+1}:=I.turnedNew (t':=tk+1) (fp:= [e,it]) y (λc o b r=> ?_) (Qmq _) ?_
  ·refine⟨.ref s.heap.objs.size,_,I2,rfl,⟨s.heap.objs.size,rfl,I.hok.fresh (Qmq _),λa1 x' q1 R=> ?_⟩,⟨⟨_,by simpa using e2⟩,B.1.ext U.extBut (Ne.symm l)⟩,λc b=> ?_⟩
   ·rw[I.sq_inj q1 u] at R
    rw[G] at R
    cases R
    rfl
   ·rw[aN (m c b)]
    exact(y c b).1
  ·simp at b
   exact U.extBut _ _ b.1 (hk c o b.1 b.2 r)
  ·exact⟨by show 2<=_;decide,[_,_],.cons ⟨_,rfl⟩ (.cons rx .nil),_,U.extBut _ _ (λr=>m e (by simp) r.symm) hT,rfl,rfl,0,rfl⟩
 done:=by
  rintro X q J C b n j s σ H E I y ⟨⟨d,f⟩,i⟩ S
  subst q J C
  obtain⟨xs,u,G⟩:=S
  obtain⟨g,Q,F,_⟩:=I.sq u
  have hl:=Q.length
  refine wpAny_pyNext_enum_endD (DY (A:=X.A.in1) (I.ok.hd b) t it a g.toArray n (by simp;omega)) f ⟨rfl,i,F⟩ λh1 r1=>⟨rfl,I.turnedL (t':=s.toks) (fp:= [e,it]) y λc o b r=> ?_⟩
  simp at b
  exact r1 c o b.2 r
 self:=λ_ _ _ _ _ ⟨⟨d,f⟩,_⟩ h=>wpAny_pyIter_enum f h
section
variable{X:Cx}
def Lx(K:PySem.W.Frag)(b:TA):TI:=λc H R=>b c H λe H1=>∃(t:Bool) (a:Addr) (d:List V),e= [.ref a]/\yc K t H1 a d/\R (Oi K t a) H1
def Gq{b:List Expr}{M:Nat}{G:Pos}{a:Expr}{n:TA}{p pos:Pos}(C:Gl X "enumerate")(u:X.mg "enumerate"=none)(N:PA X [a] n)(y:starEach [a] X.env= [(false,eval a X.env)]:=by rfl):
  PI X (.Tuple b M G) (.Call (.Name "enumerate" p) [a] [] pos) (Lx X.K n):=by
 intro d s F H R I h
 refine Call_ (i4 I C u (by rfl) (PyProof.Rows.callWith_type1 (bW (N pos d s F H _ I h) λU g ⟨S,H1,f,z,w⟩=> ?_) y rfl))
 obtain⟨t,x,P,e,A,q⟩:=w
 subst e
 cases z with
 | cons r J=>
   cases J
   cases r
   obtain⟨B,Q,l,_⟩:=f.sq A
   have o:=Sq.lt l
   refine Zq.Ls l λW i v k=> ?_
   refine wpAny_pyIter_enum i ⟨_,_,_,_,H1,rfl,f.kept (t':=g.toks) k,CP (e:=g.heap.objs.size+1) (it:=g.heap.objs.size) (Nat.succ_ne_self _) (Qwq (Nat.lt_succ_of_lt o)) (Qwq o),⟨⟨_,i⟩,v⟩,λc m=> ?_,q⟩
   have j:g.heap.objs.size<=c:=by
     simp only[Qsq,QXq,or_false] at m
     rcases m with e|e <;>(rw[e];first|exact Qmq _|exact Nat.le_add_right _ _)
   exact f.fpOk j (f.hok.fresh j)
end
end L2
namespace DL
open PySem PySem.Spec L2
def mL(n:Nat):List D->List D
 | []=> []
 |d::ds=>.tup [.int n,d]::mL (n+1) ds
theorem nX:∀{ds:List D} {n i:Nat} {d:D},(mL n ds)[i]?=some d->∃x,ds[i]?=some x/\d=.tup [.int ((n+i:Nat)),x]
 | [],_,_,_,h=>by simp[mL] at h
 | x::ds,n,0,d,h=>by
   simp only[mL,List.getElem?_cons_zero,Option.some.injEq] at h
   exact⟨x,rfl,h.symm⟩
 | x::ds,n,i+1,d,h=>by
   simp only[mL,List.getElem?_cons_succ] at h
   obtain⟨y,b,a⟩:=nX h
   exact⟨y,by simpa using b,by rw[a];congr 3;omega⟩
theorem nk:∀{ds:List D} {n:Nat},(mL n ds).length=ds.length
 | [],_=>rfl
 |_::_,_=>congrArg (·+1) nk
def Bh(f:eU):tE:=λa S=>(f a S).bind λ(p,b)=>some ((mL 0 p.1,λS=>p.2.stays S p.1),b)
section
variable{X:Cx}{a:Expr}{pos:Pos}
def Nk{b:List Expr}{m:Nat}{Z p:Pos}{f:eU}(U:Gl X "enumerate")(y:X.mg "enumerate"=none)(ha:PE X a (tQ (md X) f))(r:starEach [a] X.env= [(false,eval a X.env)]:=by rfl):
  PI X (.Tuple b m Z) (.Call (.Name "enumerate" p) [a] [] pos) (tI (md X) (Bh f)):=MC (Gq U y (bQ ha dX r) r) λσ H R ⟨Y,P,S,ds,W,S',ok,e,q⟩=>by
 obtain⟨⟨⟨k,J⟩,Q⟩,K,e⟩:=aq e
 obtain⟨I,rfl⟩:=bN e
 obtain⟨rfl,rfl⟩:=Prod.mk.inj I
 refine⟨Y,P,S,k,J,Q,ok,K,λG t h H1 m g s N=> ?_⟩
 refine⟨_,t,h,rfl,s.sqB,q _ _ _ m g λi z S3 H3 A c w=> ?_⟩
 obtain⟨l,j,n⟩:=s.to N A c w
 refine⟨λd B=> ?_,λhi=>⟨l,j.sqB,?_⟩⟩
 ·obtain⟨x,C,rfl⟩:=nX B
  obtain⟨u,o,F⟩:=n.get C
  refine⟨⟨l,u,j.sqB,o⟩,λv H4 M=> ?_⟩
  obtain⟨p,rfl,hp,hq⟩:=M
  have:=hq l u j.sqB o
  subst this
  refine⟨bC.laid hp,c.lay hp,.tup aU ((aO.cons ?_ (.cons F .nil)).ext (bC.laid hp))⟩
  rw[Nat.zero_add]
  exact .int _
 ·rw[hi,nk,n.length]
  exact Qmq _
end
structure A2(P:Program)(w:World)(K:PySem.W.Frag)(mg:Str->Option Value)(x:Str)(tbl:List (Str×Str)):Prop where
 at_:∃a,mg x=some (.ref a)/\∀h:Heap,K.In h->∃vs,h.DictOf (bt P w) a vs/\∀k nm,tbl.lookup k=some nm->∃f,valueAt vs (Sum.inr k:Key)=some (.ref f)/\mg nm=some (.ref f)
section
variable{X:Cx}{a b c e:Expr}{pos:Pos}
def MJ(d:List (Str×Str))(g:aV):aV:=λf S=>(g f S).bind λ(y,h)=>match y with
 |.str x=>(d.lookup x).bind λnm=>some (.fn nm,h)
 |_=>none
def Gv{x:Str}{i:List (Str×Str)}{g:aV}{p:Pos}(J:A2 X.prog X.w X.K X.mg x i)(hg:Gl X x)(R:PE X b (tD (md X) g))(W:FU b)(hd:(x==("__debug__":Str))=false:=by decide):
  PE X (.Subscript (.Name x p) b pos) (tD (md X) (MJ i g)):=by
 rintro j s σ H Q I ⟨A,Γ,S,d,S',ok,e,q⟩
 obtain⟨a,U,P⟩:=J.at_
 obtain⟨⟨y,u⟩,Y,e⟩:=aq e
 cases y with
 | str z=>
   obtain⟨nm,M,e⟩:=aq e
   obtain⟨rfl,rfl⟩:=bN e
   refine AA PySem.F.slot_dict_getitem.lookup W (vS I hg U ?_ hd)
   refine bW (R j s σ H (λv l=>∃h,bC A H h l/\eV (md X) h u l/\Rel (md X) h l (.str z) v) I ⟨A,Γ,S,_,u,ok,Y,λh v l x st r=>⟨h,x,st,r⟩⟩) λiv s2 G=> ?_
   obtain⟨v,H2,t,rv,h,x2,m,r2⟩:=G
   obtain⟨vs,B,Z⟩:=P _ t.kIn
   obtain⟨f,hf,n⟩:=Z z nm M
   cases r2
   have N:s2.TypeIs (.ref a) "dict":=by
     obtain⟨o,es,ep,h1,C,h3,_⟩:=B
     exact⟨o,h1,C.1⟩
   refine⟨N,wpAny_getItem_of (xr (k:=Sum.inr z) rv) B.mapOf hf ?_⟩
   exact⟨.ref f,H2,t.tok _,rfl,q _ _ _ x2 m (.fn n)⟩
 |_=>cases e
def qw(i:Nat)(T:List (Str×de))(g:fN):aV:=λd S=>match d[i]? with
 |some (some (.fn x))=>(T.lookup x).bind λF=>aB F g d S
 |_=>none
def GA{i k:Nat}{y:Str}{ps:List Str}{T:List (Str×de)}{es:List Expr}{g:fN}{p:Pos}(R:∀x F,T.lookup x=some F->eZ X.prog X.w X.K X.mg X.base k x ps F)(hr:eE k X.A)(hN:X.N[i]?=some y)(hv:GB X.env.scope y)
  (ha:PA X (e::es) (yu (md X) g)) (hn:nA ps.length g) (o:(y==("__debug__":Str))=false:=by decide) (t:(y==("__classdict__":Str))=false:=by decide) (he:starEach (e::es) X.env=(false,eval e X.env)::starEach es X.env:=by rfl) (hpl:(backTo pos (starEach es X.env)).any (·.1)=false:=by rfl):
  PE X (.Call (.Name y p) (e::es) [] pos) (tD (md X) (qw i T g)):=by
 rintro h s z H Q I ⟨ρ,Γ,S,d,Z,ok,e,q⟩
 unfold qw at e
 split at e
 ·rename_i x Y
  obtain⟨F,n,e⟩:=aq e
  obtain⟨f,fd,G,bb,kp,m⟩:=(R x F n).ex
  obtain⟨v,l,rv⟩:=ok.en.get i _ Y
  cases rv with
  | fn U=>
    have J:(md X).mg x=some (.ref f):=m
    rw[U] at J
    cases J
    refine wpAny_Call_Name_kw (bW (DJ hN hv o t h s z H (λC j=>C=.ref f/\j=H) I ⟨_,l,rfl,rfl⟩) λu s1 M=> ?_)
    obtain⟨C,j,I1,r1,n,P⟩:=M
    subst n P
    cases (show u=Value.ref f from r1)
    refine PySem.W.callWith_K (h₀:=X.base) I.ok.mod.kin kp (bW (ha pos h s1 z j _ I1 (A3 hn z j Q ⟨ρ,Γ,S,d,Z,ok,e,q⟩)) λus s2 ⟨vs,H1,B,r,q2⟩=>⟨B.kIn,?_⟩) he hpl
    exact Fu G hr bb .nil E1 B r q2
 ·cases e
end
def zq(w:World)(x:Str):PyData.keyHash w.params x=hashStr w x:=by
 unfold PyData.keyHash hashStr
 first|rfl|simp
inductive Al(w:World)(mg:Str->Option Value):List DictEntry->List (Str×Str)->Prop
 |nil:Al w mg [] []
 |cons {x nm:Str} {t:Tok} {f:Addr} {es:List DictEntry} {tbl:List (Str×Str)}:mg nm=some (.ref f)->Al w mg es tbl->Al w mg (⟨PyData.keyHash w.params x,.str x t,.ref f⟩::es) ((x,nm)::tbl)
def Al.keys{P:Program}{w:World}{mg:Str->Option Value}{es:List DictEntry}{a:List (Str×Str)}(b:Al w mg es a):∀e∈es,∃k,(bt P w).is k e.key=true/\e.hash=(bt P w).hash k:=by
 induction b with
 |nil=>intro e h;cases h
 | @cons x nm t f es a hm b ih=>
   intro e h
   rcases Qsq.mp h with rfl|h
   · exact⟨Sum.inr x,oz x t,zq w x⟩
   · exact ih e h
def Al.pairs{P:Program}{w:World}{mg:Str->Option Value}{es:List DictEntry}{a:List (Str×Str)}(d:Al w mg es a):∃vs:List (Key×Value),Pairs (bt P w) es vs/\vs.map (·.1)=a.map (λp=>Sum.inr p.1)∧
  ∀k nm,a.lookup k=some nm->∃f,valueAt vs (Sum.inr k:Key)=some (.ref f)/\mg nm=some (.ref f):=by
 induction d with
 |nil=>exact⟨[],.nil,rfl,λk nm h=>by cases h⟩
 | @cons x nm t f es a hm d ih=>
   obtain⟨vs,m,e,l⟩:=ih
   refine⟨(Sum.inr x,.ref f)::vs,.cons (oz x t) rfl m,by simp[e],λk n h=> ?_⟩
   by_cases c:k=x
   · subst c
     rw[List.lookup_cons_self] at h
     cases h
     refine⟨f,?_,hm⟩
     unfold valueAt
     rw[List.find?_cons_of_pos (by simp)]
     rfl
   · have j:(k==x)=false:=by simpa using c
     rw[List.lookup_cons,j] at h
     obtain⟨g,b,i⟩:=l k n h
     refine⟨g,?_,i⟩
     unfold valueAt at b⊢
     rw[List.find?_cons_of_neg]
     · exact b
     · intro z
       have:(Sum.inr x:Key)=Sum.inr k:=by simpa using z
       exact c (Sum.inr.inj this).symm
def EJ{P:Program}{w:World}{K:PySem.W.Frag}{mg:Str->Option Value}{x:Str}{c:List (Str×Str)}{a:Addr}{es:List DictEntry}{i:Nat}(g:mg x=some (.ref a))(l:K.lookup a=some ⟨.type "dict",none,.dict es.toArray i,#[]⟩)(d:Al w mg es c)(nd:(c.map (·.1)).Nodup):A2 P w K mg x c:=by
 obtain⟨k,q,f,o⟩:=d.pairs (P:=P)
 refine⟨a,g,λh j=>⟨k,⟨_,_,_,j _ _ l,⟨rfl,rfl,rfl⟩,rfl,λe m=>d.keys e (by simpa using m),by simpa using q,?_⟩,o⟩⟩
 rw[f]
 have:c.map (λp=>(Sum.inr p.1:Key))=(c.map (·.1)).map Sum.inr:=by rw[QPq];rfl
 rw[this]
 exact List.Pairwise.map _ (λa b n e=>n (Sum.inr.inj e)) nd
theorem Fj{P:Program}{w:World}{K:PySem.W.Frag}{mg:Str->Option Value}{base:Heap}{k:Nat}{ps:List Str}:∀{T:List (Str×de)},(∀p∈T,eZ P w K mg base k p.1 ps p.2)->∀x F,T.lookup x=some F->eZ P w K mg base k x ps F
 | [],_,x,F,h=>by cases h
 | p::T,g,x,F,h=>by
   by_cases c:x=p.1
   · subst c
     rw[List.lookup_cons_self] at h
     cases h
     exact g p (QBq ..)
   · have b:(x==p.1)=false:=by simpa using c
     rw[List.lookup_cons,b] at h
     exact Fj (λq a=>g q (Qpq _ a)) x F h
def xV:Sp:=λd H Q _=>∃(a:Addr) (b:List Int) (o:Obj),d= [.ref a]/\H a=some (.frz o (.lst (b.map V.int)))/\b.length<=63/\∀c,Q (.bl true) c
theorem nU{M:Md}{ρ:List Addr}{H:Hp}:∀ns:List Int,aO M ρ H (ns.map D.int) (ns.map V.int)
 | []=>.nil
 |s::ss=>.cons (.int s) (nU ss)
def Gw{P:Program}{w:World}{K:PySem.W.Frag}{mg:Str->Option Value}{base:Heap}{k:Nat}{f:Addr}{g:FuncData}{ps:List Str}{F:de}(G:a_ P w K mg base dA k f g ps (dQ ⟨K,mg⟩ 1 F))
  (h:∀ns:List Int,ns.length<=63->∃c,F [.ref 0] [.frz (ns.map D.int)]=some (.d (.bl true),c)):a_ P w K mg base dA k f g ps xV:=
 G.imp λt H Q E l=>by
  obtain⟨a,ns,o,e,p,hl,q⟩:=l
  subst e
  obtain⟨c,e⟩:=h ns hl
  refine⟨[a],[.frz (ns.map D.int)],[.ref 0],_,c,rfl,.cons (.ref rfl) .nil,⟨rfl,by simp,λk b s i j=> ?_⟩,e,λn v m x u r=> ?_⟩
  ·cases k with
   |zero=>cases i;cases j;exact⟨_,o,p,nU ns⟩
   |succ k=>simp at i
  ·cases r
   exact q m
def yY(K:PySem.W.Frag):Bool:=K.all λp=>match p.2.data with|.seq _ _=>(match p.2.cls with|.type s=>s !="list" |_=>true)|_=>true
def CB{K:PySem.W.Frag}(h:yY K=true){a:Addr}{o:Obj}(e:K.lookup a=some o){d:Array Value}{n:Nat}(hd:o.data=.seq d n):o.cls≠.type "list":=by
 intro j
 have f:∀(K:List (Addr×Obj)),K.all (λp=>match p.2.data with|.seq _ _=>(match p.2.cls with|.type s=>s !="list" |_=>true)|_=>true)=true->K.lookup a=some o->False:=by
  intro K
  induction K with
  |nil=>intro _ e;cases e
  | cons p K k=>
    intro h e
    rw[List.all_cons,QCq] at h
    obtain⟨b,q⟩:=p
    rw[List.lookup_cons] at e
    by_cases c:a=b
    · subst c
      simp only[BEq.rfl] at e
      cases e
      have g:=h.1
      simp only[hd,j] at g
      simp at g
    · have i:(a==b)=false:=by simpa using c
      rw[i] at e
      exact k h.2 e
 exact f K h e
def Lm{K:PySem.W.Frag}{H:Hp}{a:Addr}{ns:List Int}(nl:yY K=true)(hl:ns.length<=63)(b:GE H)(c:jC K H a (ns.map V.int)):xV [.ref a] H (λv _=>v=.bl true) λ_ _ _=>False:=by
 rcases c with(h|⟨o,h⟩)|⟨o,its,n,h,hc,_,hd,_⟩
 ·rcases b a with z|⟨o,d,z⟩
  ·rw[h] at z;cases z
  ·rw[h] at z;cases z
 ·exact⟨a,ns,o,rfl,h,hl,λ_=>rfl⟩
 ·exact absurd hc (CB nl h hd)
def wK{l:PySem.W.OpenLaw}{q:Program}{b:List Str}{m:(Str->Option Value)->Heap->Prop}{g:World->Heap->Prop}{d:DefRec}{K:Params->PySem.W.Frag}{k:Nat}(t:l.most=some 63)(c:d.params.defaults= [])(p:eE k PySem.callerA)
  (r:∀(w:World) (h:Heap),g w h->(K w.params).In h) (nl:∀w:World,yY (K w.params)=true)
  (F:∀(w:World) (mg:Str->Option Value) (e:Addr) (h:Heap),(K w.params).In h->h.Ns mainGlobals mg->mg d.name=some (.ref e)→
   ∃i:FuncData,(∀(s:Shared) (u:Value),BindsTo s i ⟨[u],[]⟩ [("_law_script",u)])/\∀base:Heap,(K w.params).In base->base.Ns mainGlobals mg->a_ l.prog w (K w.params) mg base dA k e i ["_law_script"] xV):
  PySem.W.WalkO q b m g l.row.toRowW d [] (λf vs=>PySem.call f vs):=
 L2.Gf (n:=63) (k:=k) (x:="_law_script") (CX:=λ_=>dA) (sp:=λ_=>xV) t (by decide) c p r F (λw H a v hl o j=>Lm (nl w) hl o j) λ_ _ _ _ _ z=>z
end DL
namespace DL
open PySem PySem.Spec L2 PyProof.Rows
section
variable{X:Cx}{x:Str}{e:Expr}{f:aV}{pos pos':Pos}
def CS(i:Nat)(a:X.N.Nodup)(he:PE X e (tD (md X) f))(hi:X.N[i]?=some x:=by rfl)(c:Loc X.env.scope x:=by first|exact Or.inl rfl|exact Or.inr rfl)(b:swapsWith e (some (.Name x pos')) pos.line X.env=pure false:=by rfl)
  (d:X.fn x=true\/X.env.scope.names.lookup x=some .local:=by first|exact .inl rfl|exact .inr rfl|assumption):PS X (.Assign [.Name x pos'] e pos) (tS (md X) (aX i f)):=Ln (JM a hi c he b d)
def O_(i:Nat)(a:X.N.Nodup)(hi:X.N[i]?=some x:=by rfl)(b:Loc X.env.scope x:=by first|exact Or.inl rfl|exact Or.inr rfl)(c:X.fn x=true\/X.env.scope.names.lookup x=some .local:=by first|exact .inl rfl|exact .inr rfl|assumption):PG X (.Name x pos) (my i):=we a hi b c
def JP(i:Nat)(a:X.N.Nodup)(hi:X.N[i]?=some x:=by rfl)(b:Loc X.env.scope x:=by first|exact Or.inl rfl|exact Or.inr rfl)(c:X.fn x=true\/X.env.scope.names.lookup x=some .local:=by first|exact .inl rfl|exact .inr rfl|assumption):PG X (.Name x pos) (tG (md X) (cb i)):=DK (we a hi b c)
def OY{N:List Str}{a:Scope}{b:List (Str×Addr)}{C:Addr}{s:Shared}{H:Hp}{fp:List Addr}(i:Nat)(c:N.Nodup:=by decide +kernel)(hi:(aF X N a b C s H fp).N[i]?=some x:=by rfl)(d:Loc (aF X N a b C s H fp).env.scope x:=by first|exact Or.inl rfl|exact Or.inr rfl)
  (g:(aF X N a b C s H fp).fn x=true\/(aF X N a b C s H fp).env.scope.names.lookup x=some .local:=by first|exact .inl rfl|exact .inr rfl|assumption):PG (aF X N a b C s H fp) (.Name x pos) (tG (md (aF X N a b C s H fp)) (cb i)):=DK (we c hi d g)
def v_(i:Nat)(b:X.N[i]?=some x:=by rfl)(c:GB X.env.scope x:=by first|exact Or.inl rfl|exact Or.inr (Or.inl rfl)|exact Or.inr (Or.inr rfl))(hd:(x==("__debug__":Str))=false:=by decide)(a:(x==("__classdict__":Str))=false:=by decide):PE X (.Name x pos) (tD (md X) (av i)):=KS (pv i b c hd a)
end
section
variable{X:Cx}{x:Str}{k k':Nat}{ps:List Str}{F:de}{e:Expr}{es:List Expr}{g:fN}{p pos:Pos}
def LN(C:eZ X.prog X.w X.K X.mg X.base k x ps F)(d:eE k' X.A)(h:PA X (e::es) (yu (md X) g))(c:k<=k':=by first|decide|omega)(f:Gl X x:=by rfl)
  (b:nA ps.length g:=by repeat (first|exact Ae|refine ko ?_))
  (a:(x==("__debug__":Str))=false:=by decide) (he:starEach (e::es) X.env=(false,eval e X.env)::starEach es X.env:=by rfl) (hpl:(backTo pos (starEach es X.env)).any (·.1)=false:=by rfl):
  PE X (.Call (.Name x p) (e::es) [] pos) (tD (md X) (aB F g)):=LY C (d.mono c) f h b a he hpl
def L8(C:eZ X.prog X.w X.K X.mg X.base k x ps F)(d:eE k' X.A)(h:PA X (e::es) (yu (md X) g))(c:k<=k':=by first|decide|omega)(f:Gl X x:=by rfl)
  (b:nA ps.length g:=by repeat (first|exact Ae|refine ko ?_))
  (a:(x==("__debug__":Str))=false:=by decide) (he:starEach (e::es) X.env=(false,eval e X.env)::starEach es X.env:=by rfl) (hpl:(backTo pos (starEach es X.env)).any (·.1)=false:=by rfl):
  PE X (.Call (.Name x p) (e::es) [] pos) (tL (md X) (dM F g)):=L_ C (d.mono c) f h b a he hpl
end
def fB{N P:List Str}{h:Scope}(a:h.kind=.function:=by rfl)(b:h.isCoroutine=false:=by rfl)(c:h.isGenerator=false:=by rfl)(d:N.Nodup:=by decide +kernel)(e:N.take P.length=P:=by rfl)
  (f:∀x∈P,h.names.lookup x=some .local\/h.names.lookup x=some .cell:=by decide +kernel) (g:∀y∈h.names,y.2≠.free:=by decide +kernel):aD N P h:=⟨a,b,c,d,e,f,g⟩
structure aR(K:PySem.W.Frag)(x:Str)(st:Stmt)(f:Addr):Prop where
 ex:∃(oc:Value) (od:Option Addr) (kV dc pm:Value) (an:Option Addr) (cd ct:Value) (sl:Array (Option Value)),PySem.W.nsIn K mainGlobals x=some (some (.ref f))∧
  K.lookup f=some ⟨oc,od,.func (PySem.W.fnOf x x (gh st) (dN st) (ay st) .none kV dc pm an cd ct),sl⟩/\PySem.W.codeIn K cd x=true/\PySem.W.keepIn K (.ref f)=true
def aR.of{K:PySem.W.Frag}{x:Str}{st:Stmt}{f:Addr}{h:Value}{e:Option Addr}{kV g d:Value}{i:Option Addr}{b ct:Value}{sl:Array (Option Value)}(a:PySem.W.nsIn K mainGlobals x=some (some (.ref f)))
  (l:K.lookup f=some ⟨h,e,.func (PySem.W.fnOf x x (gh st) (dN st) (ay st) .none kV g d i b ct),sl⟩) (c:PySem.W.codeIn K b x=true) (k:PySem.W.keepIn K (.ref f)=true):aR K x st f:=⟨h,e,kV,g,d,i,b,ct,sl,a,l,c,k⟩
structure Np(K:PySem.W.Frag)(mg:Str->Option Value)(x:Str)(st:Stmt)(ps:List Str)(f:Addr):Prop where
 ex:∃fd,dZ K x x st f fd/\Binds K fd ps []/\PySem.W.keepIn K (.ref f)=true
 m:mg x=some (.ref f)
def aR.ok1{K:PySem.W.Frag}{mg:Str->Option Value}{x:Str}{st:Stmt}{ps:List Str}{f:Addr}{h:Heap}(D:aR K x st f)(X:K.In h)(G:h.Ns mainGlobals mg)
  (k:∀(kV d i:Value) (g:Option Addr) (c ct:Value) (a:List Value),a.length=ps.length->bindArgs (PySem.W.fnOf x x (gh st) (dN st) (ay st) .none kV d i g c ct) ⟨a,[]⟩=pure (ps.zip a):=by intro _ _ _ _ _ _ a hl;rcases a with _|⟨_,_|⟨_,_|⟨_,_|⟨_,_|⟨_,_|⟨_,_⟩⟩⟩⟩⟩⟩ <;>first|rfl|cases hl):Np K mg x st ps f:=by
 obtain⟨n,m,kV,p,i,g,o,ct,sl,l,e,j,b⟩:=D.ex
 exact⟨⟨_,zt e j b,(zt e j b).binds k,b⟩,PySem.W.mg_of X G l⟩
structure Pk(P:Program)(w:World)(base:Heap):Prop where
def Np.cal{P:Program}{w:World}{base:Heap}{K:PySem.W.Frag}{mg:Str->Option Value}{x:Str}{st:Stmt}{ps:List Str}{f:Addr}{k:Nat}{F:de}(O:Np K mg x st ps f)(Z:Pk P w base)
  (h:∀a,dZ K x x st f a->Binds K a ps []->PySem.W.keepIn K (.ref f)=true->mg x=some (.ref f)->a_ P w K mg base dA k f a ps (dQ ⟨K,mg⟩ ps.length F)):eZ P w K mg base k x ps F:=by
 obtain⟨a,d,b,c⟩:=O.ex
 exact⟨f,a,h a d b c O.m,b,c,O.m⟩
end DL
namespace DL
open PySem PySem.Spec L2
def E{α:Type}(f:cv->aA->Option (α×aA))(c:cv)(S:aA)(Q:α->aA->Prop):Prop:=∃a b,f c S=some (a,b)/\Q a b
def T(f:cD)(a:cv)(S:aA)(Q:Out->Prop):Prop:=∃o,f a S=some o/\Q o
def Fn(F:de)(ds:List D)(S:aA)(Q:Res->aA->Prop):Prop:=∃r a,F ds S=some (r,a)/\Q r a
def Tg(g:kM)(d:D)(c:cv)(S:aA)(Q:cv->aA->Prop):Prop:=∃a b,g d c S=some (a,b)/\Q a b
def MA(g:pS)(d:List D)(c:cv)(S:aA)(Q:cv->aA->Prop):Prop:=∃a b,g d c S=some (a,b)/\Q a b
def Op{α:Type}(o:Option α)(Q:α->Prop):Prop:=∃d,o=some d/\Q d
section
variable{Γ:cv}{S:aA}
def E.mono{α:Type}{f:cv->aA->Option (α×aA)}{Q R:α->aA->Prop}(h:E f Γ S Q)(i:∀a S,Q a S->R a S):E f Γ S R:=by
 obtain⟨a,b,e,q⟩:=h
 exact⟨a,b,e,i _ _ q⟩
def T.mono{f:cD}{Q R:Out->Prop}(h:T f Γ S Q)(i:∀o,Q o->R o):T f Γ S R:=by
 obtain⟨a,e,q⟩:=h
 exact⟨a,e,i _ q⟩
def aL{i:Nat}{d:D}{Q:D->aA->Prop}(h:Γ[i]?=some (some d))(q:Q d S):E (av i) Γ S Q:=⟨d,S,by unfold av;rw[h],q⟩
def sW{d:D}{Q:D->aA->Prop}(q:Q d S):E (cF d) Γ S Q:=⟨d,S,rfl,q⟩
def eJ{Q:List D->aA->Prop}(q:Q [] S):E au Γ S Q:=⟨[],S,rfl,q⟩
def aZ{f:aV}{g:fN}{Q:List D->aA->Prop}(h:E f Γ S λd a=>E g Γ a λds S2=>Q (d::ds) S2):E (ar f g) Γ S Q:=by
 obtain⟨d,a,c,ds,S2,b,q⟩:=h
 exact⟨_,_,by unfold ar;rw[c];simp only[Qbq];rw[b];rfl,q⟩
def jy{o:sU}{f g:aV}{Q:D->aA->Prop}(h:E f Γ S λx a=>E g Γ a λy S2=>Op (o S2 x y) λd=>Q d S2):E (bu o f g) Γ S Q:=by
 obtain⟨x,a,e,y,S2,b,d,c,q⟩:=h
 exact⟨d,S2,by unfold bu;rw[e];simp only[Qbq];rw[b];simp only[Qbq];rw[c];rfl,q⟩
def E8{f:fN}{Q:D->aA->Prop}(h:E f Γ S λds a=>ds.length<=sizeLine/\Q (.tup ds) a):E (az f) Γ S Q:=by
 obtain⟨ds,a,b,l,q⟩:=h
 exact⟨_,_,by unfold az;rw[b];simp only[Qbq];rw[Qhq l],q⟩
def Bg{f:fN}{Q:List D->aA->Prop}(h:E f Γ S λds a=>ds.length<=sizeLine/\Q ds a):E (cT f) Γ S Q:=by
 obtain⟨ds,a,b,l,q⟩:=h
 exact⟨_,_,by unfold cT;rw[b];simp only[Qbq];rw[Qhq l],q⟩
def xp{f:fN}{Q:D->aA->Prop}(h:E f Γ S λds a=>Q (.ref a.length) (a++ [.lst ds])):E (dv f) Γ S Q:=by
 obtain⟨ds,a,b,q⟩:=h
 exact⟨_,_,by unfold dv;rw[b];rfl,q⟩
def O0{o:HM}{f:fN}{Q:D->aA->Prop}(h:E f Γ S λds a=>Op (o ds) λd=>Q d a):E (FE o f) Γ S Q:=by
 obtain⟨ds,a,c,d,b,q⟩:=h
 exact⟨d,a,by unfold FE;rw[c];simp only[Qbq];rw[b];rfl,q⟩
def jT{f:aV}{Q:(List D×Tag)->aA->Prop}(h:E f Γ S λd a=>Op (rJ a d) λp=>Q p a):E (cA f) Γ S Q:=by
 obtain⟨e,a,c,d,b,q⟩:=h
 exact⟨d,a,by unfold cA;rw[c];simp only[Qbq];rw[b];rfl,q⟩
def JK{f:fN}{Q:(List D×Tag)->aA->Prop}(h:E f Γ S λds a=>Q (ds,.fr) a):E (pB f) Γ S Q:=by
 obtain⟨ds,a,b,q⟩:=h
 exact⟨_,a,by unfold pB;rw[b];rfl,q⟩
def uC{f:eU}{Q:D->aA->Prop}(h:E f Γ S λp a=>Q (.int p.1.length) a):E (j0 f) Γ S Q:=by
 obtain⟨p,a,b,q⟩:=h
 exact⟨_,a,by unfold j0;rw[b];rfl,q⟩
def Il{f:eU}{Q:D->aA->Prop}(h:E f Γ S λp a=>Q (.tup p.1) a):E (tupQ f) Γ S Q:=by
 obtain⟨p,a,b,q⟩:=h
 exact⟨_,a,by unfold tupQ;rw[b];rfl,q⟩
def C1{f:eU}{Q:(List D×Tag)->aA->Prop}(h:E f Γ S λp a=>p.2.isL=true/\Q p a):E (kJ f) Γ S Q:=by
 obtain⟨p,a,b,l,q⟩:=h
 exact⟨_,a,by unfold kJ;rw[b];simp only[Qbq];rw[Qhq l],q⟩
def gK{F:de}{g:fN}{Q:D->aA->Prop}(h:E g Γ S λds a=>Fn F ds a λr S2=>match r with|.d x=>Q x S2|.l _=>False):E (aB F g) Γ S Q:=by
 obtain⟨ds,a,c,r,S2,b,q⟩:=h
 cases r with
 |d x=>exact⟨x,S2,by unfold aB;rw[c];simp only[Qbq];rw[b];rfl,q⟩
 |l x=>exact q.elim
def vz{F:de}{g:fN}{Q:List D->aA->Prop}(h:E g Γ S λds a=>Fn F ds a λr S2=>match r with|.d _=>False|.l x=>Q x S2):E (dM F g) Γ S Q:=by
 obtain⟨ds,a,c,r,S2,b,q⟩:=h
 cases r with
 |d x=>exact q.elim
 |l x=>exact⟨x,S2,by unfold dM;rw[c];simp only[Qbq];rw[b];rfl,q⟩
def dI{f:aV}{Q:Bool->aA->Prop}(h:E f Γ S λd a=>match d with|.bl k=>Q k a|_=>False):E (aW f) Γ S Q:=by
 obtain⟨d,a,b,q⟩:=h
 cases d with
 |bl k=>exact⟨k,a,by unfold aW;rw[b];rfl,q⟩
 |_=>exact q.elim
def uz{f:aV}{Q:Bool->aA->Prop}(h:E f Γ S λd a=>Op (zc a d) λk=>Q k a):E (jz f) Γ S Q:=by
 obtain⟨d,a,c,k,b,q⟩:=h
 exact⟨k,a,by unfold jz;rw[c];simp only[Qbq];rw[b];rfl,q⟩
def vX{f:ie}{Q:Bool->aA->Prop}(h:E f Γ S λk a=>Q (!k) a):E (vD f) Γ S Q:=by
 obtain⟨k,a,b,q⟩:=h
 exact⟨_,a,by unfold vD;rw[b];rfl,q⟩
def Ey{f g:ie}{Q:Bool->aA->Prop}(h:E f Γ S λk a=>if k=true then E g Γ a Q else Q false a):E (vA f g) Γ S Q:=by
 obtain⟨k,a,b,q⟩:=h
 cases k with
 |true=>obtain⟨j,d,c,q⟩:=(q:E g Γ a Q);exact⟨j,d,by unfold vA;rw[b];exact c,q⟩
 |false=>exact⟨false,a,by unfold vA;rw[b];rfl,q⟩
def HK{f g:ie}{Q:Bool->aA->Prop}(h:E f Γ S λk a=>if k=true then Q true a else E g Γ a Q):E (KA f g) Γ S Q:=by
 obtain⟨k,a,b,q⟩:=h
 cases k with
 |true=>exact⟨true,a,by unfold KA;rw[b];rfl,q⟩
 |false=>obtain⟨j,d,c,q⟩:=(q:E g Γ a Q);exact⟨j,d,by unfold KA;rw[b];exact c,q⟩
def KG{c:ie}{f g:aV}{Q:D->aA->Prop}(h:E c Γ S λk a=>if k=true then E f Γ a Q else E g Γ a Q):E (qV c f g) Γ S Q:=by
 obtain⟨k,a,e,q⟩:=h
 cases k with
 |true=>obtain⟨j,d,b,q⟩:=(q:E f Γ a Q);exact⟨j,d,by unfold qV;rw[e];exact b,q⟩
 |false=>obtain⟨j,d,b,q⟩:=(q:E g Γ a Q);exact⟨j,d,by unfold qV;rw[e];exact b,q⟩
def fV{i:Nat}{f:aV}{Q:Out->Prop}(h:E f Γ S λd a=>Q (.nx (Γ.set i (some d)) a)):T (aX i f) Γ S Q:=by
 obtain⟨d,a,b,q⟩:=h
 exact⟨_,by unfold aX;rw[b];rfl,q⟩
def jn{f:aV}{Q:Out->Prop}(h:E f Γ S λd a=>Q (.rt d a)):T (cQ f) Γ S Q:=by
 obtain⟨d,a,b,q⟩:=h
 exact⟨_,by unfold cQ;rw[b];rfl,q⟩
def Nq{f:fN}{Q:Out->Prop}(h:E f Γ S λd a=>Q (.rl d a)):T (HG f) Γ S Q:=by
 obtain⟨d,a,b,q⟩:=h
 exact⟨_,by unfold HG;rw[b];rfl,q⟩
def xP{f:aV}{Q:Out->Prop}(h:E f Γ S λd a=>Q (.nx Γ a)):T (AV f) Γ S Q:=by
 obtain⟨d,a,b,q⟩:=h
 exact⟨_,by unfold AV;rw[b];rfl,q⟩
def cB{Q:Out->Prop}(q:Q (.nx Γ S)):T iV Γ S Q:=⟨_,rfl,q⟩
def Ml{f:aV}{g:kM}{Q:Out->Prop}(h:E f Γ S λd b=>Tg g d Γ b λa S2=>Q (.nx a S2)):T (oZ f g) Γ S Q:=by
 obtain⟨d,b,e,a,S2,c,q⟩:=h
 exact⟨_,by unfold oZ;rw[e];simp only[Qbq];rw[c];rfl,q⟩
def aP{f g:cD}{Q:Out->Prop}(h:T f Γ S λo=>match o with|.nx a b=>T g a b Q|o=>Q o):T (aE f g) Γ S Q:=by
 obtain⟨o,c,q⟩:=h
 cases o with
 |nx a b=>obtain⟨o,d,q⟩:=(q:T g a b Q);exact⟨o,by unfold aE;rw[c];exact d,q⟩
 |_=>exact⟨_,by unfold aE;rw[c];rfl,q⟩
def eC{c:ie}{f g:cD}{Q:Out->Prop}(h:E c Γ S λk a=>if k=true then T f Γ a Q else T g Γ a Q):T (ig c f g) Γ S Q:=by
 obtain⟨k,a,d,q⟩:=h
 cases k with
 |true=>obtain⟨j,b,q⟩:=(q:T f Γ a Q);exact⟨j,by unfold ig;rw[d];exact b,q⟩
 |false=>obtain⟨j,b,q⟩:=(q:T g Γ a Q);exact⟨j,by unfold ig;rw[d];exact b,q⟩
def aQ{i:Nat}{d:D}{Q:cv->aA->Prop}(q:Q (Γ.set i (some d)) S):Tg (cb i) d Γ S Q:=⟨_,_,rfl,q⟩
def OS{f g:aV}{d:D}{Q:cv->aA->Prop}(h:E f Γ S λx a=>E g Γ a λy S2=>∃k i ds j,x=.ref k/\y=.int i/\S2[k]?=some (.lst ds)/\FF ds.length i=some j/\Q Γ (S2.set k (.lst (ds.set j d)))):Tg (Jx f g) d Γ S Q:=by
 obtain⟨x,a,c,y,S2,b,k,i,ds,j,rfl,rfl,h1,h2,q⟩:=h
 exact⟨_,_,by unfold Jx;rw[c];simp only[Qbq];rw[b];simp only[Qbq,h1,h2],q⟩
def o8{i:tE}{g:kM}{b:cD}{Q:Out->Prop} (h:E i Γ S λp v=>∃I:Nat->cv->aA->Prop,I 0 Γ v/\(∀n a e,I n a e->p.2 e)∧
   (∀(n:Nat) (d:D) (a:cv) (e:aA),p.1[n]?=some d->I n a e->Tg g d a e λr S2=>T b r S2 λo=>match o with|.nx c f=>I (n+1) c f|.ct c f=>I (n+1) c f|.bk c f=>Q (.nx c f)|o=>Q o)∧
   ∀a e,I p.1.length a e->Q (.nx a e)):T (rq i g b) Γ S Q:=by
 obtain⟨⟨l,W⟩,v,A,I,B,y,j,s⟩:=h
 have C:∀(k n:Nat) (a:cv) (e:aA),n+k=l.length->I n a e->∃o,forL g b W (l.drop n) a e=some o/\Q o:=by
  intro k
  induction k with
  | zero=>
    intro n a e x t
    rw[List.drop_of_length_le (by omega)]
    refine⟨.nx a e,by simp only[forL];rw[Qhq (y _ _ _ t)],s _ _ (by rw[←x];exact t)⟩
  | succ k w=>
    intro n a e x t
    have m:n<l.length:=by omega
    rw[QWq m]
    obtain⟨r,S2,u,o,z,q⟩:=j n l[n] a e (gQe m) t
    simp only[forL]
    rw[Qhq (y _ _ _ t),u]
    simp only[Qbq]
    rw[z]
    simp only[Qbq]
    cases o with
    |nx c f=>exact w (n+1) c f (by omega) q
    |ct c f=>exact w (n+1) c f (by omega) q
    |bk c f=>exact⟨_,rfl,q⟩
    |rt d f=>exact⟨_,rfl,q⟩
    |rl d f=>exact⟨_,rfl,q⟩
 obtain⟨o,u,q⟩:=C l.length 0 Γ v (by omega) B
 exact⟨o,by unfold rq;rw[A];exact u,q⟩
def rS{js:List (Option Nat)}{i:tE}{g:kM}{t:ie}{f:aV}{Q:List D->aA->Prop} (h:E i Γ S λp z=>∃I:Nat->cv->aA->List D->Prop,I 0 (mV js Γ) z []/\(∀n b e a,I n b e a->p.2 e)∧
   (∀(n:Nat) (d:D) (b:cv) (e:aA) (a:List D),p.1[n]?=some d->I n b e a->Tg g d b e λj S2=>E t j S2 λk w=>if k=true then E f j w λy A=>a.length<sizeLine/\I (n+1) j A (a++ [y]) else I (n+1) j w a)∧
   ∀b e a,I p.1.length b e a->Q a e):E (du js i g t f) Γ S Q:=by
 obtain⟨⟨o,W⟩,z,H,I,J,F,m,u⟩:=h
 have K:∀(k n:Nat) (b:cv) (e:aA) (a:List D),n+k=o.length->I n b e a->∃r l,kQ g t f W (o.drop n) b e a=some (r,l)/\Q r l:=by
  intro k
  induction k with
  | zero=>
    intro n b e a C v
    rw[List.drop_of_length_le (by omega)]
    refine⟨a,e,by simp only[kQ];rw[Qhq (F _ _ _ _ v)],u _ _ _ (by rw[←C];exact v)⟩
  | succ k B=>
    intro n b e a C v
    have s:n<o.length:=by omega
    rw[QWq s]
    obtain⟨j,S2,x,c,w,G,q⟩:=m n o[n] b e a (gQe s) v
    simp only[kQ]
    rw[Qhq (F _ _ _ _ v),x]
    simp only[Qbq]
    rw[G]
    simp only[Qbq]
    cases c with
    | true=>
      rw[Qhq rfl] at q⊢
      obtain⟨y,A,M,hl,q⟩:=q
      rw[M]
      simp only[Qbq]
      rw[Qhq hl]
      exact B (n+1) j A _ (by omega) q
    | false=>
      rw[Quq (by decide)] at q⊢
      exact B (n+1) j w _ (by omega) q
 obtain⟨r,l,x,q⟩:=K o.length 0 _ z [] (by omega) J
 exact⟨r,l,by unfold du;rw[H];exact x,q⟩
def HV{f:aV}{Q:(List D×(aA->Prop))->aA->Prop}(h:E f Γ S λd a=>∃j,d=.int j/\(-(2^62)<=j/\j<2^62)/\Q (pK 0 j,λ_=>True) a):E (Ce f) Γ S Q:=by
 obtain⟨d,a,b,j,rfl,hj,q⟩:=h
 exact⟨_,a,by unfold Ce;rw[b];simp only[Qbq];rw[Qhq hj],q⟩
def tP{f:eU}{Q:(List D×(aA->Prop))->aA->Prop}(h:E f Γ S λp a=>Q (p.1,λb=>p.2.stays b p.1) a):E (sT f) Γ S Q:=by
 obtain⟨p,a,c,q⟩:=h
 exact⟨_,a,by unfold sT;rw[c];rfl,q⟩
def Ep{m:List D->List D->Option (List D×D)}{f:aV}{g:fN}{Q:D->aA->Prop}(h:E f Γ S λx b=>∃k a,x=.ref k/\b[k]?=some (.lst a)/\E g Γ b λys S2=>∃ds,S2[k]?=some (.lst ds)/\Op (m ds ys) λp=>Q p.2 (S2.set k (.lst p.1))):E (HA m f g) Γ S Q:=by
 obtain⟨x,b,c,k,a,rfl,h1,ys,S2,e2,ds,h2,p,e3,q⟩:=h
 exact⟨_,_,by unfold HA;rw[c];simp only[Qbq,e2,h1,h2,e3],q⟩
end
def bF{n:Nat}{b:cD}{ds:List D}{S:aA}{Q:Res->aA->Prop} (h:T b (ds.map some++List.replicate (n-ds.length) none) S λo=>match o with
   |.nx _ a=>Op (settle S .non a) λp=>Q p.1 p.2|.rt d a=>Op (settle S d a) λp=>Q p.1 p.2|.rl l a=>Op (eI S l a) λp=>Q p.1 p.2|_=>False):Fn (eT n b) ds S Q:=by
 obtain⟨o,f,q⟩:=h
 cases o with
 |nx g a=>obtain⟨⟨r,e⟩,c,q⟩:=q;exact⟨r,e,by unfold eT;rw[f];exact c,q⟩
 |rt d a=>obtain⟨⟨r,e⟩,c,q⟩:=q;exact⟨r,e,by unfold eT;rw[f];exact c,q⟩
 |rl d a=>obtain⟨⟨r,e⟩,c,q⟩:=q;exact⟨r,e,by unfold eT;rw[f];exact c,q⟩
 |bk=>exact q.elim
 |ct=>exact q.elim
def gw{S a S2:aA}{d:D}{Q:Res×aA->Prop}(c:mG S a)(b:a.take S.length=S2)(hd:∀k,d≠.ref k)(hl:cz S.length d=true)(q:Q (.d d,S2)):Op (settle S d a) Q:=by
 refine⟨_,?_,q⟩
 unfold settle
 rw[Qhq c,b]
 cases d with
 |ref k=>exact absurd rfl (hd k)
 |_=>simp only[hl,if_true]
def kY{S a S2:aA}{ds:List D}{Q:Res×aA->Prop}(c:mG S a)(b:a.take S.length=S2)(hl:bD S.length ds=true)(q:Q (.l ds,S2)):Op (eI S ds a) Q:=by
 refine⟨_,?_,q⟩
 unfold eI
 rw[Qhq ⟨c,hl⟩,b]
def qB{S:aA}:mG S S:=⟨Qmq _,λk o _ h=>.inl h⟩
def uv{S:aA}{k:Nat}{o:O}(h:Hh S.length o=true):mG S (S.set k o):=by
 refine⟨by simp,λj u _ e=> ?_⟩
 rw[List.getElem?_set] at e
 split at e
 ·split at e
  ·cases e;exact .inr h
  ·cases e
 ·exact .inl e
end DL
namespace L2
open PySem PySem.Spec PyProof.Rows
end L2
namespace DL
open PySem PySem.Spec L2
end DL
namespace L2
open PySem PySem.Spec PyProof.Rows
end L2
namespace DL
open PySem PySem.Spec PyProof.Rows L2
end DL
namespace L2
open PySem PySem.Spec PyProof.Rows
end L2
namespace DL
open PySem PySem.Spec PyProof.Rows L2
end DL
namespace DL
open PySem PySem.Spec L2
mutual
def CT:D->Option PyData
 |.non=>some .none
 |.bl b=>some (.bool b)
 |.int i=>some (.int i)
 |.str x=>if PyData.strOk x=true then some (.str x) else none
 |.tup a=>(ua a).map .tuple
 |.ref _=>none
 |.fn _=>none
def ua:List D->Option (List PyData)
 | []=>some []
 |d::ds=>(CT d).bind λp=>(ua ds).map (p::·)
end
mutual
theorem wg{M:Md}{ρ:List Addr}{H:Hp}:∀{d:D} {p:PyData} {v:V},Rel M ρ H d v->CT d=some p->nJ (λ_=>False) H p v
 |.non,_,_,.non,e=>by cases e;exact .non
 |.bl _,_,_,.bl _,e=>by cases e;exact .bl _
 |.int _,_,_,.int _,e=>by cases e;exact .int _
 | .str _,_,_,.str _,e=>by
   simp only[CT] at e
   split at e
   · cases e;exact .str _
   · cases e
 | .tup ds,_,_,.tup h hs,e=>by
   simp only[CT] at e
   obtain⟨b,a,rfl⟩:=oQm.mp e
   exact .tup h (Am hs a)
 |.ref _,_,_,_,e=>by cases e
 |.fn _,_,_,_,e=>by cases e
theorem Am{M:Md}{ρ:List Addr}{H:Hp}:∀{ds:List D} {ps:List PyData} {vs:List V},aO M ρ H ds vs->ua ds=some ps->qI (λ_=>False) H ps vs
 | [],_,_,.nil,e=>by cases e;exact .nil
 | d::ds,_,_,.cons h hs,e=>by
   simp only[ua] at e
   obtain⟨p,b,e⟩:=aq e
   obtain⟨ps,a,rfl⟩:=oQm.mp e
   exact .cons (wg h b) (Am hs a)
end
end DL
namespace L2
open PySem PySem.Spec
end L2
namespace DL
open PySem PySem.Spec L2
end DL
namespace DL
open PySem PySem.Spec PyProof.Rows L2
def iC:fillsNumberSlot (.type "tuple") "mul"=pure false:=
 PySem.fillsNumberSlot_seq (id:="tuple.__mul__") (r:=some (.builtin "tuple.__rmul__")) PySem.F.slot_tuple_mul.lookup (by decide +kernel) PySem.F.slot_tuple_rmul.lookup (by decide +kernel)
def mS:seqRepeat? (.type "tuple")=pure (some (.builtin "tuple.__mul__")):=by
 unfold seqRepeat?
 rw[PySem.seqSlot_of (T:="tuple") (name:="__mul__") (id:="tuple.__mul__") PySem.F.slot_tuple_mul.lookup (by decide +kernel),PySem.seqSlot_of (T:="tuple") (name:="__rmul__") (id:="tuple.__rmul__") PySem.F.slot_tuple_rmul.lookup (by decide +kernel)]
 rfl
def sj(a:Int)(t:Tok)(l:Addr)(items:Array Value)(n:Nat)(c:Option Addr)(sl:Array (Option Value)):
  Meets (Builtin.«int.__rmul__» ⟨[.int a t,.ref l],[]⟩) (λ_ R s=>s.heap.get? l=some {cls:=.type "tuple",dict:=c,data:=.seq items n,slots:=sl}/\R (.ok (.ret Value.notImplemented)) s):=
 .of_wp λb w A R s h=>by obtain⟨e,g,d,i,f⟩:=s;obtain⟨hl,h⟩:=h;wp_walk;exact⟨_,rfl,h⟩
def B2(l:Addr)(items:Array Value)(n:Nat)(q:Option Addr)(sl:Array (Option Value))(x:Int)(u:Tok)(v:2<=x)(B:x<2^63)(a:¬items.isEmpty=true)(hsz:items.size*x.toNat<=sizeLine):
  Meets (Builtin.«tuple.__mul__» ⟨[.ref l,.int x u],[]⟩) (λ_ R s=>s.heap.get? l=some {cls:=.type "tuple",dict:=q,data:=.seq items n,slots:=sl}/\R (.ok (.ret (Value.ref s.heap.objs.size))) {s with heap:=s.heap.push {cls:=Value.type "tuple",data:=Data.seq (List.foldl (λe c=>e++c) #[] (List.replicate x.toNat items))},toks:=s.toks}):=
 .of_wp λi w A R s h=>by
  obtain⟨y,g,d,F,C⟩:=s;obtain⟨hl,h⟩:=h
  have z:=AutoSeq1.idx_int
  have f:(sizeLine:Nat)=16777216:=by decide
  have j:((items.size:Int)*x)=((items.size*x.toNat:Nat):Int):=by rw[Int.natCast_mul,Int.toNat_of_nonneg (by omega)]
  have r:items.size*x.toNat<=16777216:=by omega
  have o:¬(decide (x< -2^63)||decide (x>=2^63))=true:=by simp;omega
  have k:¬(items.isEmpty||x==1)=true:=by simp at a⊢;exact⟨a,by omega⟩
  have t:¬(decide (x<=0)||items.isEmpty)=true:=by simp at a⊢;exact⟨by omega,a⟩
  have m:¬((items.size:Int)*x>(2^63-1)/8):=by rw[j];omega
  have p:¬Builtin.Tuple.tupleTooMany ((items.size:Int)*x)=true:=by rw[j];unfold Builtin.Tuple.tupleTooMany;rw[Qdq (by rw[f];omega)];decide
  have b:(List.foldl (λe c=>e++c) #[] (List.replicate x.toNat items)).size<=sizeLine:=by rw[AutoListH.size_joined,f,Nat.mul_comm];simpa using r
  wp_walk using wpAny_loadPart' hl
  refine QgQ (Qdq o) ?_
  wp_walk using wpAny_loadPart' hl
  refine QgQ (Qdq k) ?_
  wp_walk using wpAny_loadPart' hl
  refine QgQ (Qdq t) ?_
  wp_walk using wpAny_loadPart' hl
  refine QgQ (Qdq m) ?_
  wp_walk using wpAny_loadPart' hl
  refine QgQ (Qdq p) ?_
  wp_walk using wpAny_loadPart' hl
  refine QgQ (Qdq (Nat.not_lt.mpr b)) ?_
  wp_walk
  exact⟨_,rfl,h⟩
section
variable{X:Cx}{a b:Expr}{pos:Pos}
def HX(K:PySem.W.Frag):R2:=λx y H Q=>∃a k c,x=.ref a/\y=.int k/\gr K H a c/\c≠[]/\2<=k/\k<2^63/\c.length*k.toNat<=sizeLine/\∀p,H p=none->Q (.ref p) (upd H p (.tup (List.replicate k.toNat c).flatten))
def GK:kg X (binaryOp .Mult) (HX X.K):=by
 intro p s R H x y v u Q I J A h
 obtain⟨l,k,w,rfl,rfl,ha,hx,h1,h2,hz,q⟩:=h
 cases J
 obtain⟨t,rfl⟩:=A
 obtain⟨c,f,N,_⟩:=I.tuple ha
 obtain⟨⟨B,r,m,sl⟩,e,i,n,j⟩:=id N
 simp only at i j
 subst i j
 have g:c.toArray.size*k.toNat<=sizeLine:=by rw[Qjq,←f.length];exact hz
 have d:List.foldl (λM C=>M++C) #[] (List.replicate k.toNat c.toArray)=(List.replicate k.toNat c).flatten.toArray:=by
  have:=foldl_rep c k.toNat []
  rw[List.nil_append] at this
  exact this
 refine wpAny_binaryOp_repeat_ref (T:="tuple") (U:="int") (by decide) ⟨_,e,rfl⟩ (λG=>typeIs_int G k t) iC F.fills_int_mul F.slot_int_rmul mS F.slot_int_index.lookup
  (call_meets F.slot_int_rmul (typeIs_int s k t) F.entry_int_rmul (F.args_int_rmul_2 _ _) (sj k t l c.toArray n r sl)
   ⟨e,rfl,⟨_,e,rfl⟩,call_meets F.slot_tuple_mul ⟨_,e,rfl⟩ F.entry_tuple_mul (F.args_tuple_mul_2 _ _) (B2 l c.toArray n r sl k t h1 h2 (λz=>hx (f.nil_iff.mp (by simpa using z))) g) ⟨e,?_⟩⟩)
 rw[d]
 refine⟨.ref s.heap.objs.size,_,I.laid (t':=s.toks) (o:=.tup (List.replicate k.toNat w).flatten) (λb P q=>Qcq _ q) (Qmq _) ?_,rfl,q _ (I.hok.fresh (Qmq _))⟩
 exact⟨by rw[len_rep,Nat.mul_comm];exact hz,_,f.rep k.toNat,tN.new _ _⟩
end
def zT(l:Addr)(items:Array Value)(n:Nat)(b:Option Addr)(sl:Array (Option Value))(u:Tok):
  Meets (Builtin.«tuple.__mul__» ⟨[.ref l,.int 1 u],[]⟩) (λ_ R s=>s.heap.get? l=some {cls:=.type "tuple",dict:=b,data:=.seq items n,slots:=sl}/\R (.ok (.ret (Value.ref l))) s):=
 .of_wp λa w A R s h=>by
  obtain⟨e,g,d,j,i⟩:=s;obtain⟨hl,h⟩:=h
  have f:=AutoSeq1.idx_int
  have k:¬(decide ((1:Int)< -2^63)||decide ((1:Int)>=2^63))=true:=by decide
  have c:(items.isEmpty||(1:Int)==1)=true:=by simp
  wp_walk using wpAny_loadPart' hl
  exact⟨_,rfl,h⟩
def zI(l:Addr)(items:Array Value)(n:Nat)(c:Option Addr)(sl:Array (Option Value))(u:Tok)(a:¬items.isEmpty=true):
  Meets (Builtin.«tuple.__mul__» ⟨[.ref l,.int 0 u],[]⟩) (λ_ R s=>s.heap.get? l=some {cls:=.type "tuple",dict:=c,data:=.seq items n,slots:=sl}/\R (.ok (.ret (Value.ref s.heap.objs.size))) {s with heap:=s.heap.push {cls:=Value.type "tuple",data:=Data.seq #[]},toks:=s.toks}):=
 .of_wp λb w A R s h=>by
  obtain⟨f,g,d,k,j⟩:=s;obtain⟨hl,h⟩:=h
  have i:=AutoSeq1.idx_int
  have m:¬(decide ((0:Int)< -2^63)||decide ((0:Int)>=2^63))=true:=by decide
  have e:¬(items.isEmpty||(0:Int)==1)=true:=by simpa using a
  have o:(decide ((0:Int)<=0)||items.isEmpty)=true:=by simp
  wp_walk using wpAny_loadPart' hl
  exact⟨_,rfl,h⟩
section
variable{X:Cx}{a b:Expr}{pos:Pos}
def HN(K:PySem.W.Frag):R2:=λx y H Q=>∃a k c,x=.ref a/\y=.int k/\gr K H a c/\c≠[]/\((k=1/\Q (.ref a) H)\/(k=0/\∀p,H p=none->Q (.ref p) (upd H p (.tup []))))
def FT:kg X (binaryOp .Mult) (HN X.K):=by
 intro m s M H x y v u Q I B p h
 obtain⟨l,k,G,rfl,rfl,ha,hx,h⟩:=h
 cases B
 obtain⟨t,rfl⟩:=p
 obtain⟨c,w,C,_⟩:=I.tuple ha
 obtain⟨⟨r,f,j,sl⟩,d,g,n,i⟩:=id C
 simp only at g i
 subst g i
 have e:¬c.toArray.isEmpty=true:=λz=>hx (w.nil_iff.mp (by simpa using z))
 refine wpAny_binaryOp_repeat_ref (T:="tuple") (U:="int") (by decide) ⟨_,d,rfl⟩ (λA=>typeIs_int A k t) iC F.fills_int_mul F.slot_int_rmul mS F.slot_int_index.lookup
  (call_meets F.slot_int_rmul (typeIs_int s k t) F.entry_int_rmul (F.args_int_rmul_2 _ _) (sj k t l c.toArray n f sl) ⟨d,rfl,⟨_,d,rfl⟩,?_⟩)
 rcases h with⟨rfl,q⟩|⟨rfl,q⟩
 ·exact call_meets F.slot_tuple_mul ⟨_,d,rfl⟩ F.entry_tuple_mul (F.args_tuple_mul_2 _ _) (zT l c.toArray n f sl t) ⟨d,.ref l,H,I,rfl,q⟩
 ·refine call_meets F.slot_tuple_mul ⟨_,d,rfl⟩ F.entry_tuple_mul (F.args_tuple_mul_2 _ _) (zI l c.toArray n f sl t e) ⟨d,?_⟩
  refine⟨.ref s.heap.objs.size,_,I.laid (t':=s.toks) (o:=.tup []) (λb J q=>Qcq _ q) (Qmq _) ?_,rfl,q _ (I.hok.fresh (Qmq _))⟩
  exact⟨Nat.zero_le _,_,.nil,tN.new _ _⟩
def wQ:sU:=λ_ x y=>match x,y with
 |.tup i,.int k=>if 0<=k/\k<2^63/\i≠[]/\i.length*k.toNat<=sizeLine then some (.tup (List.replicate k.toNat i).flatten) else none
 |_,_=>none
def FV{M:Md}:jL M (λx y H Q=>HX M.K x y H Q\/HN M.K x y H Q) wQ:=by
 intro n S H x y d u v Q i l m e q
 cases l with
 | tup h g=>
   cases m with
   | int k=>
     simp only[wQ] at e
     split at e <;>cases e
     rename_i hl
     have f:=λz=>hl.2.2.1 (List.length_eq_zero_iff.mp (g.length.trans (List.length_eq_zero_iff.mpr z)))
     by_cases j:2<=k
     · exact .inl ⟨_,k,_,rfl,rfl,gr.of h,f,j,hl.2.1,by rw[←g.length];exact hl.2.2.2,λp c=>q _ _ (bC.laid c) (i.lay c) (.tup aU ((g.rep _).ext (bC.laid c)))⟩
     · refine .inr ⟨_,k,_,rfl,rfl,gr.of h,f,?_⟩
       rcases(by omega:k=1\/k=0) with rfl|rfl
       · refine .inl ⟨rfl,q _ _ bC.refl i ?_⟩
         rw[show(List.replicate (1:Int).toNat _).flatten=_ from List.append_nil _]
         exact .tup h g
       · exact .inr ⟨rfl,λp c=>q _ _ (bC.laid c) (i.lay c) (.tup aU .nil)⟩
   |_=>simp only[wQ,reduceCtorEq] at e
 |_=>simp only[wQ,reduceCtorEq] at e
def MT{f g:aV}(c:PE X a (tD (md X) f))(d:PE X b (tD (md X) g)):PE X (.BinOp a .Mult b pos) (tD (md X) (bu wQ f g)):=mM FV (o9 (GK.or FT) c d)
end
end DL
namespace L2
open PySem PySem.Spec PyProof.Rows
end L2
namespace DL
open PySem PySem.Spec L2
end DL
namespace L2
open PySem PySem.Spec
end L2
namespace DL
open PySem PySem.Spec L2
end DL
namespace L2
open PySem PySem.Spec PyProof.Rows
end L2
namespace DL
open PySem PySem.Spec L2
end DL
namespace Z3
open PySem Zq
end Z3
namespace L2
open PySem PySem.Spec PyProof.Rows Zq
end L2
namespace DL
open PySem PySem.Spec PyProof.Rows L2
end DL
namespace L2
open PySem PySem.Spec PyProof.Rows
section
variable{X:Cx}
theorem Bu:∀{b:List String} {a:List Value},bp (b.map V.ty) a->a=b.map Value.type
 | [],_,r=>by cases r;rfl
 | T::b,_,r=>by
   cases r with
   | cons h t=>
     rw[Bu t,QDq]
     cases (show _=Value.type T from h)
     rfl
inductive D5(H:Hp):V->Value->Prop where
 |non:D5 H .non (.type "NoneType")
 |bl (x:Bool):D5 H (.bl x) (.type "bool")
 |int (i:Int):D5 H (.int i) (.type "int")
 |str (x:Str):D5 H (.str x) (.type "str")
 |lst {a:Addr} {xs:List V} (e:H a=some (.lst xs)):D5 H (.ref a) (.type "list")
 |frz {a:Addr} {o:Obj} {xs:List V} (e:H a=some (.frz o (.lst xs))):D5 H (.ref a) (.type "list")
 |tup {a:Addr} {xs:List V} (e:H a=some (.tup xs)):D5 H (.ref a) (.type "tuple")
 |dK {a:Addr} {kvs:List (Key×V)} (e:H a=some (.dK kvs)):D5 H (.ref a) (.type "dict")
def CM:gE X (.builtin "isinstance") (λxs H Q=>∃(x:V) (a:Addr) (j:List String) (t:Value) (b:Bool),xs= [x,.ref a]/\H a=some (.tup (j.map V.ty))/\D5 H x t/\PySem.W.kitAny X.K t (j.map Value.type)=some b/\Q (.bl b) H):=by
 intro m s S H xs U Q I r h
 obtain⟨x,a,j,t,b,rfl,ha,ty,e,q⟩:=h
 obtain⟨u,v,rfl,rx,rt⟩:=vals2 r
 cases (show v=Value.ref a from rt)
 obtain⟨_,F,J,⟨c,R,G,sl⟩,f,A,B,n,C⟩:=(show bI X.prog X.w H s.heap a (.tup (j.map V.ty)) from I.hok a _ ha)
 cases A
 cases C
 rw[Bu J] at f
 cases ty with
 |non=>cases (show u=Value.none from rx);exact PySem.W.kia_tup PySem.W.kitx_none I.kIn True.intro f e (λz=>nomatch z) λd=>⟨.bl b,H,I.tok d,rfl,q⟩
 |bl y=>cases (show u=Value.bool y from rx);exact PySem.W.kia_tup PySem.W.kitx_bool I.kIn True.intro f e (λz=>nomatch z) λd=>⟨.bl b,H,I.tok d,rfl,q⟩
 |int i=>obtain⟨t,l⟩:=(show∃t,u=Value.int i t from rx);cases l;exact PySem.W.kia_tup PySem.W.kitx_int I.kIn True.intro f e (λz=>nomatch z) λd=>⟨.bl b,H,I.tok d,rfl,q⟩
 |str y=>obtain⟨t,l⟩:=(show∃t,u=Value.str y t from rx);cases l;exact PySem.W.kia_tup PySem.W.kitx_str I.kIn True.intro f e (λz=>nomatch z) λd=>⟨.bl b,H,I.tok d,rfl,q⟩
 | @lst a xs ea=>
   cases (show u=Value.ref a from rx)
   obtain⟨_,_,n,_,g⟩:=(show bI X.prog X.w H s.heap a (.lst xs) from I.hok a _ ea)
   exact PySem.W.kia_tup PySem.W.kitx_list I.kIn ⟨_,g,rfl⟩ f e (λz=>nomatch z) λd=>⟨.bl b,H,I.tok d,rfl,q⟩
 | @frz a ob xs ea=>
   cases (show u=Value.ref a from rx)
   obtain⟨_,_,_,n,_,g⟩:=(show bI X.prog X.w H s.heap a (.frz ob (.lst xs)) from I.hok a _ ea)
   exact PySem.W.kia_tup PySem.W.kitx_list I.kIn ⟨_,g,rfl⟩ f e (λz=>nomatch z) λd=>⟨.bl b,H,I.tok d,rfl,q⟩
 | @tup a xs ea=>
   cases (show u=Value.ref a from rx)
   obtain⟨_,_,_,p⟩:=(show bI X.prog X.w H s.heap a (.tup xs) from I.hok a _ ea)
   obtain⟨o,g,k,_⟩:=p
   exact PySem.W.kia_tup PySem.W.kitx_tuple I.kIn ⟨o,g,k⟩ f e (λz=>nomatch z) λd=>⟨.bl b,H,I.tok d,rfl,q⟩
 | @dK a kvs ea=>
   cases (show u=Value.ref a from rx)
   obtain⟨_,_,P,_,p⟩:=(show bI X.prog X.w H s.heap a (.dK kvs) from I.hok a _ ea)
   obtain⟨o,M,N,g,k,_⟩:=p
   exact PySem.W.kia_tup PySem.W.kitx_dict I.kIn ⟨o,g,k.1⟩ f e (λz=>nomatch z) λd=>⟨.bl b,H,I.tok d,rfl,q⟩
end
end L2
namespace DL
open PySem PySem.Spec PyProof.Rows L2
section
variable{X:Cx}{a:Expr}{pos:Pos}
def yI(T U:String)(f:aV):aV:=λc S=>(f c S).bind λ(d,b)=>(rY b T d).bind λk=>(rY b U d).bind λl=>some (.bl (k||l),b)
def FL{K:PySem.W.Frag}{t:Value}{T U:String}{k l:Bool}(c:PySem.W.kitOne K t (.type T)=some k)(b:PySem.W.kitOne K t (.type U)=some l):PySem.W.kitAny K t ([T,U].map Value.type)=some (k||l):=by
 simp only[QDq,List.map_nil,PySem.W.kitAny]
 rw[c]
 cases k with
 |true=>rfl
 |false=>simp only;rw[b];cases l <;>rfl
def N1{T U:String}{n j:Expr}{f:aV}{p y:Pos}{A:Nat}(hk:Fl X.K T)(M:Fl X.K U)(hg:Gl X "isinstance")(hm:X.mg "isinstance"=none)(ha:PE X a (tD (md X) f))(ht:PE X n (tC (.ty T)))(hu:PE X j (tC (.ty U)))
  (J:starEach [a,.Tuple [n,j] A y] X.env= [(false,eval a X.env),(false,eval (.Tuple [n,j] A y) X.env)]:=by rfl) (m:starEach [.Tuple [n,j] A y] X.env= [(false,eval (.Tuple [n,j] A y) X.env)]:=by rfl)
  (N:starEach [n,j] X.env= [(false,eval n X.env),(false,eval j X.env)]:=by rfl) (C:starEach [j] X.env= [(false,eval j X.env)]:=by rfl):
  PE X (.Call (.Name "isinstance" p) [a,.Tuple [n,j] A y] [] pos) (tD (md X) (yI T U f)):=
 jD (iQ CM hg hm boot_isinstance (bQ ha (bQ (Fq (bQ ht (bQ hu dX C) (by rw[N,C]))) dX m) (by rw[J,m])) (he:=by rw[J,m]) (hpl:=by rw[m];rfl)) λσ H Q qq=>by
  obtain⟨ρ,Γ,S,d,S',ok,e,q⟩:=qq
  obtain⟨⟨d',S1⟩,e1,e⟩:=aq e
  obtain⟨k,g,e⟩:=aq e
  obtain⟨l,i,e⟩:=aq e
  obtain⟨rfl,rfl⟩:=bN e
  obtain⟨k1,k2,k3,k4,k5,Y,k7⟩:=hk
  obtain⟨l1,l2,l3,l4,l5,Z,l7⟩:=M
  refine⟨ρ,Γ,S,d',S1,ok,e1,λB v s x F r=>⟨by show 2<=_;decide,λp G=> ?_⟩⟩
  have x2:bC B s B (upd s p (.tup ([T,U].map V.ty))):=bC.laid G
  have I:=q _ (.bl (k||l)) _ (x.trans x2) (F.lay G) (.bl _)
  have c:∀{b:Addr} {o:HO},s b=some o->(upd s p (.tup ([T,U].map V.ty))) b=some o:=λ{b o} hb=>by
   rw[aN]
   ·exact hb
   ·intro z;subst z;rw[G] at hb;cases hb
  have mk:∀{t:Value},D5 (upd s p (.tup ([T,U].map V.ty))) v t->PySem.W.kitOne X.K t (.type T)=some k->PySem.W.kitOne X.K t (.type U)=some l->_:=λ{t} ty w h2=>(⟨v,p,[T,U],t,k||l,rfl,aU,ty,FL w h2,I⟩:∃(x:V) (a:Addr) (P:List String) (t:Value) (b:Bool),[v,V.ref p]= [x,.ref a]/\(upd s p (.tup ([T,U].map V.ty))) a=some (.tup (P.map V.ty))/\D5 (upd s p (.tup ([T,U].map V.ty))) x t/\PySem.W.kitAny X.K t (P.map Value.type)=some b/\Q (.bl b) (upd s p (.tup ([T,U].map V.ty))))
  cases r with
  |non=>cases g;cases i;exact mk .non k1 l1
  |bl=>cases g;cases i;exact mk (.bl _) k2 l2
  |int=>cases g;cases i;exact mk (.int _) k3 l3
  |str=>cases g;cases i;exact mk (.str _) k4 l4
  |tup h J=>cases g;cases i;exact mk (.tup (c h)) k5 l5
  |fn=>cases g
  | ref h=>
    simp only[rY] at g i
    split at g
    · rename_i u;rw[u] at i;cases g;cases i;obtain⟨R,w,_⟩:=F.obj _ _ _ h u;exact mk (.lst (c w)) Y Z
    · rename_i u;rw[u] at i;cases g;cases i;obtain⟨R,o,w,_⟩:=F.obj _ _ _ h u;exact mk (.frz (c w)) Y Z
    · rename_i u;rw[u] at i;cases g;cases i;obtain⟨R,w,_⟩:=F.obj _ _ _ h u;exact mk (.dK (c w)) k7 l7
    · cases g
end
end DL
namespace L2
open PySem PySem.Spec PyProof.Rows
end L2
namespace DL
open PySem PySem.Spec L2
end DL
namespace L2
open PySem PySem.Spec PyProof.Rows
section
variable{X:Cx}{pins:List (Addr×Obj)}{σ:St}{H:Hp}{s:Shared}{a b:Addr}{els:List (PyData×Addr)}{p:PyData}
def Inv.sett(I:Inv X pins σ H s)(h:H a=some (.ext (ST.cC a els))):ST.cC a els s.heap:=(show bI X.prog X.w H s.heap a (.ext _) from I.hok a _ h).1
def Em{P:Program}{w:World}{h:Heap}(x:ST.cC a els h):bI P w H h a (.ext (ST.cC a els)):=by
 refine⟨x,?_,λc d p k=>p.keep k⟩
 obtain⟨o,f,e,t,c,_⟩:=x
 exact⟨o,c⟩
def K5(H:Hp)(els:List (PyData×Addr)):Prop:=∀e∈els,ST.nu 8 e.1=true/\nJ (λ_=>False) H e.1 (.ref e.2)
def K5.to(I:Inv X pins σ H s)(h:K5 H els):ST.Jp s.heap els:=λe d=>by
 obtain⟨f,c⟩:=h e d
 obtain⟨i,g,_⟩:=mW I (λa z=>z.elim) c (u:=.ref e.2) rfl
 exact⟨f,i,g⟩
def Cs:gE X (.type "set") (λxs H Q=>xs= []/\∀q,H q=none->Q (.ref q) (upd H q (.ext (ST.cC q [])))):=by
 intro pins s σ H xs e Q I r h
 obtain⟨rfl,q⟩:=h
 cases r
 refine ST.FN λf c d=> ?_
 exact⟨.ref _,_,I.laid (o:=.ext (ST.cC s.heap.objs.size [])) (t':=s.toks) c (Qmq _) (Em d),rfl,q _ I.fresh⟩
def Ll(d c:TE):TE:=λσ H Q=>d σ H λy H1=>c σ H1 λx H2=>∃a b els p,x=.ref a/\y=.ref b/\H2 a=some (.ext (ST.cC a els))/\K5 H2 els/\els.length<=5000/\nJ (λ_=>False) H2 p (.ref b)/\ST.nu 8 p=true/\Q (.bl (!els.any λe=>PyData.eqv e.1 p)) H2
def Im{i o:Expr}{d e:TE}(J:X.A.units+64<cLine)(hi:PE X i d)(F:PE X o e):PC X .NotIn i o (Ll d e):=by
 intro pins s σ H Q I h
 refine bW (hi pins s σ H _ I h) λv t ⟨y,H1,q,k,l⟩=>bW (F pins t σ H1 _ q l) λu N f=> ?_
 obtain⟨x,H2,c,w,a,b,els,p,j,m,g,C,hl,n,B,G⟩:=f
 subst j m
 obtain rfl:u=Value.ref a:=w
 obtain rfl:v=Value.ref b:=k
 obtain⟨K,r,_⟩:=mW c (λa z=>z.elim) n (u:=.ref b) rfl
 exact ST.DH (by omega) (c.sett g) (C.to c) hl r B λM=>⟨.bl _,H2,c.tok _,rfl,G⟩
def F2(n:X.A.units+64<cLine):K4 X "set.add" (λx vs H Q=>∃a b els p,x=.ref a/\vs= [.ref b]/\H a=some (.ext (ST.cC a els))/\K5 H els/\els.length<=5000/\nJ (λ_=>False) H p (.ref b)/\ST.nu 8 p=true/\Q .non (upd H a (.ext (ST.cC a (if (els.any λe=>PyData.eqv e.1 p)=true then els else els++ [(p,b)]))))):=by
 intro pins s σ H x vs v B Q I k l h
 obtain⟨a,b,els,p,rfl,rfl,hS,he,hl,hd,hn,q⟩:=h
 cases k
 obtain⟨u,rfl,ru⟩:=l.one
 obtain rfl:u=Value.ref b:=ru
 obtain⟨y,i,_⟩:=mW I (λa z=>z.elim) hd (u:=.ref b) rfl
 refine ST.G7 (by omega) (I.sett hS) (he.to I) hl i hn λj C g d=> ?_
 refine⟨.non,_,I.write (x:=a) (e:=a) (t':=j) (by rw[hS];trivial) (.inl rfl) (λc o f e=>(g.2 c f).trans e) ?_ (Em d),rfl,q⟩
 obtain⟨o,r,w,t,m,_⟩:=d
 exact⟨o,m⟩
variable{o e:Expr}{to:TE}{t:TA}{apos cpos:Pos}{r:V->List V->Hp->VK->Prop}
def Pc(r:V->List V->Hp->VK->Prop)(to:TE)(t:TA):TE:=λσ H Q=>to σ H λx H1=>(∃p els,x=.ref p/\H1 p=some (.ext (ST.cC p els)))/\t σ H1 λc H2=>r x c H2 Q
def Ji(m:K4 X "set.add" r)(G:PE X o to)(M:PA X [e] t)
  (c:attributeBase o "add" X.env (eval o X.env)=eval o X.env:=by rfl)
  (f:((backTo cpos (starEach [e] X.env)).all (λx=> !x.1)&&(backToKw cpos (keywordEach [] X.env)).all (λx=>x.1.isSome)
   &&decide ([e].length+([]:List Keyword).length+(if ([]:List Keyword).isEmpty then 0 else 1)<30))=true:=by rfl)
  (d:(apos.endLine==cpos.line)=true:=by rfl) (q:starEach [e] X.env= [(false,eval e X.env)]:=by rfl):
  PE X (.Call (.Attribute o "add" apos) [e] [] cpos) (Pc r to t):=by
 intro pins s σ H Q I h
 refine wpAny_Call_method_late c f d rfl (bW (G pins s σ H _ I h) λv z k=> ?_)
 obtain⟨x,H1,j,y,⟨p,els,w,l⟩,n⟩:=k
 subst w
 cases y
 have g:=j.sett l
 refine⟨"set","set.add",F.plainAttrs_set,F.slot_set_add,F.type_set_add,g.typeIs,g.noDict,?_⟩
 have i:=M cpos pins z σ H1 _ j n
 rw[q] at i⊢
 refine Calls.callWith_builtin (by rfl) (Calls.evalArgs_plain ?_)
 exact bW i λJ B ⟨C,H2,u,A,K⟩=>m pins B σ H2 (.ref p) C (.ref p) J Q u rfl A K
end
end L2
namespace DL
open PySem PySem.Spec PyProof.Rows L2
mutual
theorem vN:∀{d:D} {p:PyData},eW d=some p->CT d=some p
 |.int _,_,e=>e
 | .tup ds,_,e=>by
   simp only[eW] at e
   obtain⟨b,a,rfl⟩:=oQm.mp e
   simp only[CT]
   rw[AJ a]
   rfl
 |.non,_,e=>by cases e
 |.bl _,_,e=>by cases e
 |.str _,_,e=>by cases e
 |.ref _,_,e=>by cases e
 |.fn _,_,e=>by cases e
theorem AJ:∀{ds:List D} {ps:List PyData},dr ds=some ps->ua ds=some ps
 | [],_,e=>e
 | d::ds,_,e=>by
   simp only[dr] at e
   obtain⟨p,b,e⟩:=aq e
   obtain⟨ps,a,rfl⟩:=oQm.mp e
   simp only[ua]
   rw[vN b,AJ a]
   rfl
end
def mH(ds:List D)(p:PyData):Bool:=ds.any λd=>match eW d with|some q=>PyData.eqv q p|none=>false
theorem u6:∀{ds:List D} {ps:List PyData} {bs:List Addr} {p:PyData},dr ds=some ps->ps.length=bs.length->((List.zip ps bs).any λe=>PyData.eqv e.1 p)=mH ds p
 | [],_,bs,p,e,l=>by cases e;rfl
 | d::ds,_,bs,p,e,l=>by
   simp only[dr] at e
   obtain⟨q,f,e⟩:=aq e
   obtain⟨ps,a,rfl⟩:=oQm.mp e
   cases bs with
   |nil=>simp at l
   | cons b bs=>
     have c:=u6 (p:=p) a (bs:=bs) (by simpa using l)
     rw[List.zip_cons_cons,List.any_cons,c]
     unfold mH
     rw[List.any_cons,f]
theorem sy:∀{ds:List D} {ps:List PyData},dr ds=some ps->ps.length=ds.length
 | [],_,e=>by cases e;rfl
 | d::ds,_,e=>by
   simp only[dr] at e
   obtain⟨q,b,e⟩:=aq e
   obtain⟨ps,a,rfl⟩:=oQm.mp e
   simp[sy a]
theorem Ay:∀{n:Nat} {ps:List PyData} {p:PyData},ST.kO n ps=true->ST.nu n p=true->ST.kO n (ps++ [p])=true
 |n,[],p,_,h=>by simp only[List.nil_append,ST.kO,h];rfl
 | n,q::ps,p,h,hp=>by
   simp only[ST.kO,QCq] at h
   simp only[List.cons_append,ST.kO,QCq]
   exact⟨h.1,Ay h.2 hp⟩
theorem xg:∀{ds:List D} {ps:List PyData} {d:D} {p:PyData},dr ds=some ps->eW d=some p->dr (ds++ [d])=some (ps++ [p])
 | [],_,d,p,e,e2=>by cases e;simp only[List.nil_append,dr];rw[e2];rfl
 | c::ds,_,d,p,e,e2=>by
   simp only[dr] at e
   obtain⟨q,b,e⟩:=aq e
   obtain⟨ps,a,rfl⟩:=oQm.mp e
   simp only[List.cons_append,dr]
   rw[b,xg a e2]
   rfl
theorem Ai:∀{ps:List PyData} {bs:List Addr} {p:PyData} {b:Addr},ps.length=bs.length->List.zip (ps++ [p]) (bs++ [b])=List.zip ps bs++ [(p,b)]
 | [],[],_,_,_=>rfl
 |q::ps,c::bs,p,b,h=>by simp only[List.cons_append,List.zip_cons_cons];rw[Ai (by simpa using h)]
 | [],_::_,_,_,h=>by simp at h
 |_::_,[],_,_,h=>by simp at h
theorem Ab{M:Md}{ρ:List Addr}{H:Hp}:∀{ds:List D} {ps:List PyData} {bs:List Addr},aO M ρ H ds (bs.map V.ref)->dr ds=some ps->ST.kO 8 ps=true->K5 H (List.zip ps bs)
 | [],_,_,_,e,_=>by cases e;intro e a;simp at a
 | d::ds,_,bs,h,e,hn=>by
   simp only[dr] at e
   obtain⟨q,g,e⟩:=aq e
   obtain⟨ps,f,rfl⟩:=oQm.mp e
   simp only[ST.kO,QCq] at hn
   cases bs with
   |nil=>cases h
   | cons b bs=>
     cases h with
     | cons h c=>
       intro e a
       rw[List.zip_cons_cons] at a
       rcases Qsq.mp a with rfl|a
       · exact⟨hn.1,wg h (vN g)⟩
       · exact Ab c f hn.2 e a
section
variable{X:Cx}{a b e:Expr}{pos:Pos}
def MU:aV:=λ_ S=>some (.ref S.length,S++ [.sett []])
def Ko{p:Pos}(l:Gl X "set")(m:X.mg "set"=none):PE X (.Call (.Name "set" p) [] [] pos) (tD (md X) MU):=jD (zd Cs l m (by rfl)) λs H Q k=>by
 obtain⟨h,r,S,d,t,ok,e,q⟩:=k
 cases e
 refine⟨rfl,λp g=> ?_⟩
 have j:bC h H h (upd H p (.ext (ST.cC p []))):=bC.laid g
 have n:p∉h:=c8 bC.refl ok.st g
 have i:=(ok.st.lay (u:=.ext (ST.cC p [])) g).box (o:=.sett []) n ⟨[],[],aU,.nil,rfl,rfl⟩
 refine q (h++ [p]) (.ref p) _ ⟨List.prefix_append _ _,λc f=> ?_,j.keep,j.grow⟩ i (.ref ?_)
 ·rcases mQa.mp f with f|f
  ·exact .inl f
  ·rw[Qfq] at f;subst f;exact .inr g
 ·rw[←ok.st.len,QQq (Qmq _)]
  simp
def De(f g:aV):aV:=λc S=>(f c S).bind λ(y,h)=>(g c h).bind λ(x,d)=>match x,y with
 | .ref k,.tup ys=>match d[k]? with
   |some (.sett ds)=>(eW (.tup ys)).bind λp=>if ST.nu 8 p=true/\ds.length<=5000 then some (.bl (!mH ds p),d) else none
   |_=>none
 |_,_=>none
def LJ{f g:aV}:∀(m:List (Option V)) (H:Hp) (Q:V->Hp->Prop),tD (md X) (De f g) m H Q->Ll (tD (md X) f) (tD (md X) g) m H Q:=λm H Q w=>by
 obtain⟨K,s,S,d,Z,ok,e,q⟩:=w
 obtain⟨⟨y,t⟩,F,e⟩:=aq e
 obtain⟨⟨x,N⟩,v,e⟩:=aq e
 cases x with
 | ref k=>
   cases y with
   | tup ys=>
     dsimp only at e
     split at e
     · rename_i Y z
       obtain⟨p,C,e⟩:=aq e
       split at e
       · rename_i c
         obtain⟨rfl,rfl⟩:=bN e
         refine⟨K,s,S,_,t,ok,F,λj U H1 u l i=>⟨j,s,t,_,N,ok.to u l,v,λJ v2 H2 r h I=> ?_⟩⟩
         have i:=i.ext r
         cases I with
         | ref R=>
           obtain⟨bs,ps,P,o,n,A⟩:=h.obj k _ _ R z
           have hl:=o.length
           rw[lQm] at hl
           have G:=sy n
           have M:=wg i (vN C)
           cases i with
           | tup W B=>
             refine⟨_,_,_,p,rfl,rfl,P,Ab o n A,?_,M,c.1,?_⟩
             · rw[List.length_zip];omega
             · rw[u6 n (by omega)]
               exact q _ _ _ (u.trans r) h (.bl _)
       · cases e
     · cases e
   |_=>cases e
 |_=>cases e
def Lp{f g:aV}{k:Nat}(c:eE k X.A)(i:PE X a (tD (md X) f))(d:PE X b (tD (md X) g))(h:behindInMarks .NotIn b=false:=by rfl):PT X (.Compare a [.NotIn] [b] pos) (tB (md X) (aW (De f g))):=zL LJ (Jq (Im c.units i d) h)
def ES(f g:aV):aV:=λc S=>(f c S).bind λ(x,h)=>match x with
 | .ref k=>match h[k]? with
   | some (.sett _)=>(g c h).bind λ(y,d)=>match y,d[k]? with
     |.tup ys,some (.sett ds)=>(eW (.tup ys)).bind λp=>if ST.nu 8 p=true/\ds.length<=5000 then some (.non,d.set k (.sett (if mH ds p=true then ds else ds++ [.tup ys]))) else none
     |_,_=>none
   |_=>none
 |_=>none
def D1{f g:aV}{o:Expr}{r i:Pos}{k:Nat}(hr:eE k X.A)(ho:PE X o (tD (md X) f))(ha:PE X e (tD (md X) g))(w:attributeBase o "add" X.env (eval o X.env)=eval o X.env:=by rfl)
  (K:((backTo i (starEach [e] X.env)).all (λx=> !x.1)&&(backToKw i (keywordEach [] X.env)).all (λx=>x.1.isSome)
   &&decide ([e].length+([]:List Keyword).length+(if ([]:List Keyword).isEmpty then 0 else 1)<30))=true:=by rfl)
  (B:(r.endLine==i.line)=true:=by rfl) (hs:starEach [e] X.env= [(false,eval e X.env)]:=by rfl):PE X (.Call (.Attribute o "add" r) [e] [] i) (tD (md X) (ES f g)):=
 jD (Ji (F2 hr.units) ho (bQ ha dX hs) w K B hs) λσ H Q qq=>by
  obtain⟨ρ,Γ,S,d,S',ok,e,q⟩:=qq
  obtain⟨⟨x,S1⟩,e1,e⟩:=aq e
  cases x with
  | ref k=>
    dsimp only at e
    split at e
    · rename_i a8 a1
      obtain⟨⟨y,S2⟩,e2,e⟩:=aq e
      dsimp only at e
      split at e
      · rename_i ys ds v
        obtain⟨p,e3,e⟩:=aq e
        split at e
        · rename_i c
          obtain⟨rfl,rfl⟩:=bN e
          refine⟨ρ,Γ,S,_,S1,ok,e1,λa2 v1 H1 x1 G r1=> ?_⟩
          cases r1 with
          | ref hk=>
            rename_i j
            obtain⟨a9,a6,g1,_⟩:=G.obj k j _ hk a1
            refine⟨⟨_,_,rfl,g1⟩,a2,Γ,S1,_,S2,ok.to x1 G,e2,λm v2 H2 U s W=> ?_⟩
            have l:m[k]?=some j:=bU U.pre hk
            obtain⟨I,J,h1,N,M,R⟩:=s.obj k j _ l v
            have hl:=N.length
            rw[lQm] at hl
            have a4:=sy M
            have dt:=wg W (vN e3)
            have a3:=W
            cases W with
            | tup C a7=>
              rename_i Z a5
              refine⟨j,Z,List.zip J I,p,rfl,rfl,h1,Ab N M R,by rw[List.length_zip];omega,dt,c.1,?_⟩
              rw[u6 M (by omega)]
              have ne:∀x,H2 j=some x->¬NI x:=λx F=>by rw[h1] at F;cases F;exact λz=>z
              have x3:∀u:HO,bC m H2 m (upd H2 j u):=λu=>by
                have ma:j∈m:=mQg l
                refine⟨List.prefix_refl _,λ_ h=>.inl h,λb x F c=> ?_,λb C=> ?_⟩
                · rw[aN]
                  · exact F
                  · intro z
                    subst z
                    exact c.elim (λn=>n ma) λim=>ne _ F im
                · by_cases z:b=j
                  · subst z;rw[aU] at C;cases C
                  · rw[aN z] at C;exact C
              by_cases P:mH ds p=true
              · rw[Qhq P]
                rw[Qhq P] at q
                obtain⟨t,Y⟩:=s.put (o':=.sett ds) (u:=.ext (ST.cC j (List.zip J I))) l v ⟨I,J,aU,N.ext (x3 _),M,R⟩ ne
                exact q _ _ _ ((x1.trans U).trans Y) t .non
              · rw[Quq P]
                rw[Quq P] at q
                rw[←Ai (by omega)]
                obtain⟨t,Y⟩:=s.put (o':=.sett (ds++ [.tup ys])) (u:=.ext (ST.cC j (List.zip (J++ [p]) (I++ [Z])))) l v ⟨I++ [Z],J++ [p],aU,by
                  rw[Qzq]
                  exact(N.ext (x3 _)).append (.cons (a3.ext (x3 _)) .nil),xg M e3,Ay R c.1⟩ ne
                exact q _ _ _ ((x1.trans U).trans Y) t .non
        · cases e
      · cases e
    · cases e
  |_=>cases e
end
section
variable{Γ:cv}{S:aA}
def N5{Q:D->aA->Prop}(q:Q (.ref S.length) (S++ [.sett []])):E MU Γ S Q:=⟨_,_,rfl,q⟩
def LZ{f g:aV}{Q:D->aA->Prop}(h:E f Γ S λy a=>E g Γ a λx S2=>∃k ys ds p,x=.ref k/\y=.tup ys/\S2[k]?=some (.sett ds)/\eW (.tup ys)=some p/\(ST.nu 8 p=true/\ds.length<=5000)/\Q (.bl (!mH ds p)) S2):E (De f g) Γ S Q:=by
 obtain⟨y,a,c,x,S2,b,k,ys,ds,p,rfl,rfl,h1,h2,h3,q⟩:=h
 exact⟨_,_,by unfold De;rw[c];simp only[Qbq];rw[b];simp only[Qbq,h1,h2];rw[Qhq h3],q⟩
def Ie{f g:aV}{Q:D->aA->Prop}(h:E f Γ S λx b=>∃k a,x=.ref k/\b[k]?=some (.sett a)/\E g Γ b λy S2=>∃ys ds p,y=.tup ys/\S2[k]?=some (.sett ds)/\eW (.tup ys)=some p/\(ST.nu 8 p=true/\ds.length<=5000)/\Q .non (S2.set k (.sett (if mH ds p=true then ds else ds++ [.tup ys])))):E (ES f g) Γ S Q:=by
 obtain⟨x,b,c,k,a,rfl,h0,y,S2,e2,ys,ds,p,rfl,h1,h2,h3,q⟩:=h
 exact⟨_,_,by unfold ES;rw[c];simp only[Qbq,h0];rw[e2];simp only[Qbq,h1,h2];rw[Qhq h3],q⟩
end
section
variable{X:Cx}{x:Str}{e:Expr}{f:aV}{pos pos':Pos}
def Mc(i:Nat)(f:aV):cD:=λa S=>match a[i]? with
 | some (some (.int m))=>(f a S).bind λ(d,b)=>match d with
   |.int n=>some (.nx (a.set i (some (.int (m+n)))) b)
   |_=>none
 |_=>none
def NO(i:Nat)(u:X.N.Nodup)(he:PE X e (tD (md X) f))(hi:X.N[i]?=some x:=by rfl)(k:Loc X.env.scope x:=by first|exact Or.inl rfl|exact Or.inr rfl)
  (y:X.fn x=true\/X.env.scope.names.lookup x=some .local:=by first|exact .inl rfl|exact .inr rfl|assumption):PS X (.AugAssign (.Name x pos') .Add e pos) (tS (md X) (Mc i f)):=
 BF (Iy u hi k he Ka y) λD A H h=>by
  obtain⟨t,r,S,o,ok,e,q⟩:=h
  unfold Mc at e
  split at e
  ·rename_i m j
   obtain⟨⟨d,s⟩,l,e⟩:=aq e
   cases d with
   | int n=>
     cases e
     obtain⟨v,w,g⟩:=ok.en.get i _ j
     cases g
     refine⟨_,w,t,r,S,_,s,ok,l,λa z H1 c b p=> ?_⟩
     cases p
     refine⟨_,_,rfl,rfl,?_⟩
     exact q a _ _ c ⟨(ok.en.ext c).set (.int _),b⟩
   |_=>cases e
  ·cases e
def NY{a:cv}{S:aA}{i:Nat}{m:Int}{Q:Out->Prop}(g:a[i]?=some (some (.int m)))(h:E f a S λd b=>∃n,d=.int n/\Q (.nx (a.set i (some (.int (m+n)))) b)):T (Mc i f) a S Q:=by
 obtain⟨d,b,c,n,rfl,q⟩:=h
 exact⟨_,by unfold Mc;rw[g];simp only;rw[c];rfl,q⟩
end
end DL
namespace L2
open PySem PySem.Spec PyProof.Rows
section
variable{X:Cx}
def Dj(K:PySem.W.Frag):List V->Hp->VK->Prop:=λd H Q=>∃(a:Addr) (c:List Int),d= [.ref a]/\jC K H a (c.map V.int)/\c.length<64/\∀(l:Addr) (b:List Int),H l=none->b.Pairwise (·<=·)->b.Perm c->Q (.ref l) (upd H l (.lst (b.map V.int)))
def vq{ns:List Int}{vs:List Value}(h:IntsAre vs ns):bp (ns.map V.int) vs:=by
 induction h with
 |nil=>exact .nil
 |cons y t _ a=>exact .cons ⟨t,rfl⟩ a
def uN:gE X (.builtin "sorted") (Dj X.K):=by
 intro l s A H y B Q I r h
 obtain⟨a,k,rfl,ha,h64,q⟩:=h
 obtain⟨u,rfl,rx⟩:=vals1 r
 cases (show u=Value.ref a from rx)
 obtain⟨f,m,x,z⟩:=I.list ha
 have n:f.length=k.length:=by have:=m.length;simpa using this.symm
 have g:s.heap.objs.size<=s.heap.objs.size+1:=Nat.le_succ _
 refine sorted_ints x.isList (intsAre_of m) (by omega) λd c p j v=> ?_
 obtain⟨e,w⟩:=sortedAll_at s.heap f d
 have i:c.length=k.length:=j.length_eq
 refine⟨.ref (s.heap.objs.size+1),_,I.laid (a:=s.heap.objs.size+1) (o:=.lst (c.map V.int)) (h':=sortedAll s.heap f d) (t':=s.toks) (λb o t=> ?_) g ⟨?_,d.toList,e,vq p,?_⟩,rfl,q _ c (I.hok.fresh g) v j⟩
 ·exact sortedAll_old t
 ·rw[lQm,i]
  exact QAq (nQl h64) (by decide)
 ·simpa using w
end
end L2
namespace DL
open PySem PySem.Spec L2
section
variable{X:Cx}{a b e:Expr}{pos:Pos}
def ox:List D->Option (List Int)
 | []=>some []
 | d::r=>match d with
   |.int i=>(ox r).bind λc=>some (i::c)
   |_=>none
theorem uI{M:Md}{ρ:List Addr}{H:Hp}:∀{ds:List D} {vs:List V} {is:List Int},aO M ρ H ds vs->ox ds=some is->vs=is.map V.int
 | [],_,_,h,e=>by cases h;cases e;rfl
 | d::ds,_,_,h,e=>by
   cases d with
   | int b=>
     simp only[ox] at e
     obtain⟨c,g,e⟩:=aq e
     cases e
     cases h with
     | cons h f=>
       cases h
       rw[uI f g]
       rfl
   |_=>cases e
theorem sk:∀is:List Int,ox (is.map D.int)=some is
 | []=>rfl
 |i::is=>by simp only[QDq,ox];rw[sk is];rfl
end
end DL
namespace DL
open PySem PySem.Spec PyProof.Rows L2
def insI(x:Int):List Int->List Int
 | []=> [x]
 |y::r=>if x<=y then x::y::r else y::insI x r
def eP:List Int->List Int
 | []=> []
 |x::r=>insI x (eP r)
theorem insI_perm(x:Int):∀l:List Int,(insI x l).Perm (x::l)
 | []=>List.Perm.refl _
 | y::r=>by
   unfold insI
   split
   · exact List.Perm.refl _
   · exact((insI_perm x r).cons y).trans (List.Perm.swap _ _ _)
theorem fI:∀l:List Int,(eP l).Perm l
 | []=>List.Perm.refl _
 |x::r=>(insI_perm x _).trans ((fI r).cons x)
theorem oV{x:Int}:∀{l:List Int},l.Pairwise (·<=·)->(insI x l).Pairwise (·<=·)
 | [],_=>by simp[insI]
 | y::r,h=>by
   rw[List.pairwise_cons] at h
   unfold insI
   split
   · rename_i c
     refine List.pairwise_cons.mpr ⟨λz a=> ?_,List.pairwise_cons.mpr h⟩
     rcases Qsq.mp a with rfl|a
     · exact c
     · exact Int.le_trans c (h.1 z a)
   · rename_i c
     refine List.pairwise_cons.mpr ⟨λz a=> ?_,oV h.2⟩
     rcases Qsq.mp ((insI_perm x r).mem_iff.mp a) with rfl|a
     · omega
     · exact h.1 z a
theorem hU:∀l:List Int,(eP l).Pairwise (·<=·)
 | []=>List.Pairwise.nil
 |x::r=>oV (hU r)
section
variable{X:Cx}{a:Expr}{pos:Pos}
def GT(f:eU):fN:=λc S=>(f c S).bind λ(p,d)=>if p.2.isL=true then(ox p.1).bind λb=>if b.length<64 then some ((eP b).map D.int,d) else none else none
def Ku{f:eU}{p:Pos}(B:Gl X "sorted")(v:X.mg "sorted"=none)(G:PE X a (tQ (md X) f))(k:starEach [a] X.env= [(false,eval a X.env)]:=by rfl):
  PE X (.Call (.Name "sorted" p) [a] [] pos) (tL (md X) (GT f)):=
 jD (iQ uN B v PyProof.Rows.boot_sorted (bQ G dX k) (he:=k)) λM H Q s=>by
  obtain⟨C,z,S,d,J,ok,e,q⟩:=s
  obtain⟨⟨⟨w,t⟩,A⟩,y,e⟩:=aq e
  dsimp only at e
  split at e
  ·rename_i c
   obtain⟨g,o,e⟩:=aq e
   split at e
   ·rename_i u
    obtain⟨rfl,rfl⟩:=bN e
    refine⟨C,z,S,w,t,A,ok,y,λF a K I x n h r=>⟨a,g,rfl,?_,u,λl i hl m j=> ?_⟩⟩
    ·rw[←uI r o];exact h.sqL c
    ·have:i=eP g:=List.Perm.eq_of_pairwise (le:=(·<=·)) (λa b _ _ m j=>by omega) m (hU g) (j.trans (fI g).symm)
     subst this
     exact q _ _ _ _ (x.trans (bC.laid hl)) (n.lay hl) (x.grow _ hl) (c8 x n hl) aU (nU _)
   ·cases e
  ·cases e
def IL{c:cv}{S:aA}{f:eU}{Q:List D->aA->Prop}(h:E f c S λp b=>p.2.isL=true/\∃is:List Int,p.1=is.map D.int/\is.length<64/\Q ((eP is).map D.int) b):E (GT f) c S Q:=by
 obtain⟨p,b,e,l,is,d,g,q⟩:=h
 exact⟨_,b,by unfold GT;rw[e];simp only[Qbq];rw[Qhq l,d,sk];simp only[Qbq];rw[Qhq g],q⟩
end
end DL
namespace W28
open PySem PySem.Spec L2 DL
abbrev cU:=bu sA
abbrev eS(v:Nat)(k:Int):=bu sA (av v) (cF (.int k))
abbrev et(v:Nat)(k:Int):=ar (bu sA (av v) (cF (.int k)))
abbrev qF(x:Str):=ar (cF (.str x))
abbrev cp(k:Int):=cF (.int k)
abbrev aG(k:Nat):=ar (av k)
abbrev b_(k:Int):=ar (cF (.int k))
def nZ:cD:=
 (aE (aX 2 (cp 0))
 (aE (ig (aW (bu MI (av 1) (j0 (cA (av 0))))) (aX 2 (cU (av 0) (av 1))) iV)
 (HG (cT (ar (bu rR (FE EO (aG 2 au)) (FE intOfD (ar (bu N8 (FE EO (aG 2 au)) (bu Hy (cp 10) (cp 18))) au))) (ar (bu pG (bu rR (bu cu (bu cu (bu pG (av 2) (cp 2147483629)) (bu rR (bu rR (cp 7919) (av 1)) (av 1))) (cp 11)) (cp 48271)) (cp 2147483647)) (b_ 0 au)))))))
def ku:de:=eT 3 nZ
def lX:cD:=
 (aE (ig (aW (bu My (eS 0 0) (cp 0))) (aE (aX 2 (bu pG (eS 0 0) (av 1)))
 (aE (oZ (bu xU (eS 0 0) (av 1)) (Jx (av 0) (cp 0)))
 (cQ (av 2)))) iV)
 (aE (oZ (bu cu (eS 0 2) (cp 1)) (Jx (av 0) (cp 2)))
 (aE (oZ (bu pG (bu cu (bu cu (bu rR (eS 0 1) (cp 69621)) (bu rR (cp 7919) (eS 0 2))) (cp 1)) (cp 2147483629)) (Jx (av 0) (cp 1)))
 (cQ (bu pG (bu xU (bu pG (bu rR (eS 0 1) (bu cu (bu pG (eS 0 1) (cp 40009)) (cp 3))) (cp 2147483587)) (cp 11)) (av 1))))))
def bT:de:=eT 3 lX
def jS:cD:=
 (aE (aX 2 (cF (.str "abcdefghijklmnopqrstuvwxyz")))
 (aE (oZ (az (ar (aB bT (aG 0 (b_ 26 au))) (ar (cU (dv (cT (b_ 1 (b_ 3 (b_ 5 (b_ 7 (b_ 9 (b_ 11 au)))))))) (aB bT (aG 0 (b_ 6 au)))) au))) (jG (nG 2 (aK (cb 3) (aK (cb 4) dF)))))
 (aE (aX 5 (dv (du [none,some 2,some 3,some 4] (Ce (av 1)) (cb 0) eX (bu cu (cU (av 1) (bu pG (bu cu (av 2) (bu rR (av 3) (av 0))) (cp 26))) (cU (dv (cT (qF "" (qF "zz" (qF "x" (qF "qqqqqqq" au)))))) (bu pG (bu cu (av 2) (av 0)) (cp 4)))))))
 (HG (Au (cA (av 5)))))))
def fH:de:=eT 6 jS
def fu(self:de):cD:=
 (aE (ig (jz (yI "list" "tuple" (av 1))) (aE (ig (KA (aW (bu (iG true) (mr "list" (av 0)) (mr "list" (av 1)))) (aW (bu (iG true) (mr "tuple" (av 0)) (mr "tuple" (av 1))))) (cQ (cF (.bl false))) iV)
 (cQ (wy (bu (iG false) (j0 (cA (av 0))) (j0 (cA (av 1)))) (Hc (pB (du [none,none] (DI (cA (av 0)) (cA (av 1))) (jG (nG 2 (aK (cb 0) (aK (cb 1) dF)))) eX (aB self (aG 0 (aG 1 au))))))))) iV)
 (aE (ig (aW (bu (sX false) (av 1) (cF .non))) (cQ (bu (sX false) (av 0) (cF .non))) iV)
 (aE (ig (jz (mr "str" (av 1))) (cQ (wy (mr "str" (av 0)) (bu (iG false) (av 0) (av 1)))) iV)
 (cQ (wy (mr "int" (av 0)) (wy (Gu (mr "bool" (av 0))) (bu (iG false) (av 0) (av 1))))))))
def ff:Nat->de
 |0=>λ_ _=>none
 |n+1=>eT 2 (fu (ff n))
def nO:cD:=
 (HG (du [none,none] (sT (cA (av 0))) (jG (nG 2 (aK (cb 0) (aK (cb 1) dF)))) eX (av 1)))
def kH:de:=eT 1 nO
def gD:cD:=
 (aE (aX 1 (dv (cT au)))
 (aE (rq (sT (cA (eS 0 1))) (jG (nG 2 (aK (cb 2) (aK (cb 3) dF)))) (AV (tX (av 1) (cA (av 3)))))
 (aE (rq (sT (cA (eS 0 0))) (jG (nG 5 (aK (cb 4) (aK (cb 5) (aK (cb 3) (aK (cb 6) (aK (cb 7) dF))))))) (aE (AV (tX (av 1) (cA (bu cu (av 3) (av 6)))))
 (rq (sT (cA (av 7))) (cb 8) (AV (EI (av 1) (pB (dM kH (aG 8 au))))))))
 (cQ (av 1)))))
def bO:de:=eT 9 gD
def kb:cD:=
 (cQ (cU (cU (cU (eS 0 3) (av 1)) (cp 1)) (qY (cp 1))))
def cn:de:=eT 2 kb
def kf:cD:=
 (aE (zO 3 4 (et 2 0 (et 2 1 au)))
 (aE (ig (aW (bu (iG false) (av 3) (cF (.int (-1))))) (cQ (cU (cU (eS 0 3) (av 1)) (cp 1))) iV)
 (cQ (cU (cU (cU (cU (eS 0 0) (av 3)) (cp 4)) (av 4)) (cp 1)))))
def eB:de:=eT 5 kf
def gH:cD:=
 (aE (aX 3 (aB cn (aG 1 (aG 2 au))))
 (cQ (wy (bu (iG false) (eS 3 0) (cF (.int (-1)))) (bu (iG false) (eS 3 2) (j0 (cA (aB eB (aG 0 (aG 2 (aG 3 au))))))))))
def eF:de:=eT 4 gH
def nE:cD:=
 (aE (aX 2 (dv (dM bO (aG 1 au))))
 (HG (du [none,some 0,some 1,some 2] (Ce (j0 (cA (eS 1 3)))) (cb 0) (vA (aW (GL true (av 0) (cA (av 3)))) (vD (jz (aB eF (aG 1 (aG 2 (aG 0 au))))))) (av 0))))
def iD:de:=eT 3 nE
def nP:cD:=
 (HG (du [none] (sT (cA (av 0))) (cb 0) eX (eS 0 0)))
def dg:de:=eT 1 nP
def n_:cD:=
 (cQ (IC (pB (dM dg (aG 0 au))) (av 1)))
def cE:de:=eT 2 n_
def lJ:cD:=
 (cQ (bu cu (bu cu (sQ (av 0) sS (qU (av 1))) (az (aG 2 au))) (sQ (av 0) (qU (bu cu (av 1) (cp 1))) sS)))
def cO:de:=eT 3 lJ
def lC:cD:=
 (cQ (bu cu (sQ (av 0) sS (qU (cp 3))) (az (ar (aB cO (et 0 3 (aG 1 (ar (az (aG 2 (aG 3 au))) au)))) au))))
def d_:de:=eT 4 lC
def lY:cD:=
 (cQ (bu cu (az (ar (aB cO (et 0 0 (aG 1 (aG 2 au)))) au)) (sQ (av 0) (qU (cp 1)) sS)))
def cq:de:=eT 3 lY
def i6:cD:=
 (aE (aX 5 (cU (aB cn (aG 1 (aG 2 au))) (cp 0)))
 (aE (ig (aW (bu (iG true) (av 5) (cF (.int (-1))))) (aE (aX 6 (aB cE (ar (cU (cU (eS 0 0) (av 5)) (cp 2)) (aG 3 au))))
 (aE (aX 7 (aB cO (ar (cU (cU (eS 1 0) (av 5)) (cp 0)) (aG 6 (aG 4 au)))))
 (cQ (aB cq (aG 1 (aG 5 (ar (bu cu (az (aG 7 au)) (sQ (cU (eS 1 0) (av 5)) (qU (cp 1)) sS)) au))))))) iV)
 (aE (ig (aW (GL false (av 3) (pB (dM dg (et 0 2 au))))) (aE (aX 8 (aB cO (et 1 2 (ar (aB cE (et 0 2 (aG 3 au))) (aG 4 au)))))
 (cQ (az (et 1 0 (et 1 1 (aG 8 (et 1 3 au))))))) iV)
 (aE (oZ (cU (eS 1 3) (av 2)) (jG (nG 2 (aK (cb 7) (aK (cb 9) dF)))))
 (aE (aX 6 (aB cE (ar (cU (cU (eS 0 3) (av 2)) (cp 0)) (aG 3 au))))
 (cQ (aB d_ (aG 1 (aG 2 (ar (aB cO (aG 7 (aG 6 (aG 4 au)))) (aG 9 au)))))))))))
def d0:de:=eT 10 i6
def hZ:cD:=
 (aE (ig (aW (bu (iG false) (av 0) (cF (.str "plus")))) (cQ (FE minD (ar (bu cu (av 1) (av 2)) (ar (cF (.int (9))) au)))) iV)
 (aE (ig (aW (bu (iG false) (av 0) (cF (.str "minus")))) (cQ (FE maxD (ar (bu GU (av 1) (av 2)) (b_ 0 au)))) iV)
 (aE (ig (aW (bu (iG false) (av 0) (cF (.str "less")))) (cQ (qV (aW (bu MI (av 1) (av 2))) (cp 1) (cp 0))) iV)
 (aE (ig (aW (bu (iG false) (av 0) (cF (.str "same")))) (cQ (qV (aW (bu (iG false) (av 1) (av 2))) (cp 1) (cp 0))) iV)
 (cQ (qV (vA (aW (bu (iG true) (av 1) (cp 0))) (aW (bu (iG true) (av 2) (cp 0)))) (cp 1) (cp 0)))))))
def fD:de:=eT 3 hZ
def nY(self:de):cD:=
 (aE (ig (jz (mr "int" (av 0))) (cQ (av 0)) iV)
 (aE (ig (jz (mr "str" (av 0))) (cQ (Mo (av 1) (av 0))) iV)
 (aE (ig (aW (bu (iG false) (eS 0 0) (cF (.str "waits")))) (cQ (qV (aW (bu My (Mo (av 2) (eS 0 1)) (cp 0))) (cp 1) (cp 0))) iV)
 (aE (aX 3 (aB self (et 0 1 (aG 1 (aG 2 au)))))
 (aE (ig (aW (bu (iG false) (eS 0 0) (cF (.str "not")))) (cQ (qV (aW (bu (iG false) (av 3) (cp 0))) (cp 1) (cp 0))) iV)
 (cQ (aB fD (et 0 0 (aG 3 (ar (aB self (et 0 2 (aG 1 (aG 2 au)))) au))))))))))
def fg:Nat->de
 |0=>λ_ _=>none
 |n+1=>eT 4 (nY (fg n))
def kF:cD:=
 (aE (aX 4 (aB cn (aG 1 (aG 2 au))))
 (aE (aX 5 (eS 4 0))
 (aE (ig (aW (bu (iG false) (av 5) (cF (.int (-1))))) (aE (aX 6 (Kv (pB (dM dg (et 0 2 au))) (cA (eS 1 2))))
 (aE (AV (Gj (av 6) (Kv (pB (dM dg (ar (cU (cU (eS 0 3) (av 2)) (cp 0)) au))) (cA (cU (cU (eS 1 3) (av 2)) (cp 0))))))
 (cQ (aB (fg 6) (aG 3 (aG 6 (ar M1 au))))))) iV)
 (aE (aX 6 (Kv (pB (dM dg (ar (cU (cU (eS 0 0) (av 5)) (cp 2)) au))) (cA (cU (cU (eS 1 0) (av 5)) (cp 0)))))
 (aE (MR (av 6) (cF (.str "given")) (eS 4 3))
 (aE (Lz 7 (nI [none,none] (DI (pB (dM dg (ar (cU (cU (eS 0 0) (av 5)) (cp 3)) au))) (cA (cU (cU (eS 1 0) (av 5)) (cp 4)))) (jG (nG 2 (aK (cb 0) (aK (cb 1) dF)))) eX (av 0) (j0 (cA (av 1)))))
 (cQ (aB (fg 6) (aG 3 (aG 6 (aG 7 au)))))))))))
def cW:de:=eT 8 kF
def vL:cD:=
 (cQ (aB d0 (aG 0 (aG 1 (aG 2 (et 3 1 (ar (aB cW (aG 0 (aG 1 (aG 2 (et 3 2 au))))) au)))))))
def p5:de:=eT 4 vL
def ft:cD:=
 (aE (oZ (cU (eS 0 3) (av 1)) (jG (nG 2 (aK (cb 3) (aK (cb 4) dF)))))
 (cQ (aB d_ (aG 0 (aG 1 (aG 3 (ar (bu cu (sQ (av 4) sS (qU (qY (cp 1)))) (az (aG 2 au))) au)))))))
def cX:de:=eT 5 ft
def vm:cD:=
 (aE (aX 3 (aB cn (aG 0 (aG 1 au))))
 (cQ (aB cX (aG 0 (aG 1 (ar (bu cu (bu cu (sQ (av 3) sS (qU (cp 2))) (az (aG 2 au))) (sQ (av 3) (qU (cp 3)) sS)) au))))))
def ja:de:=eT 4 vm
def lO:cD:=
 (aE (ig (aW (bu (iG false) (aB cW (aG 0 (aG 1 (aG 2 (et 3 1 au))))) (cp 0))) (cQ (aB ja (aG 1 (aG 2 (et 3 2 au))))) iV)
 (cQ (av 1)))
def iZ:de:=eT 4 lO
def zx:cD:=
 (cQ (aB ja (aG 1 (aG 2 (et 3 1 au)))))
def uR:de:=eT 4 zx
def qW:cD:=
 (aE (oZ (cU (eS 0 0) (av 1)) (jG (nG 5 (aK (cb 3) (aK (cb 4) (aK (cb 5) (aK (cb 6) (aK (cb 7) dF))))))))
 (aE (ig (aW (bu (iG false) (av 4) (cF (.int (-1))))) (cQ (aB cq (aG 0 (aG 1 (ar (az (aG 3 (aG 2 (aG 5 (aG 6 (aG 7 au)))))) au))))) iV)
 (cQ (aB cq (aG 0 (aG 1 (ar (az (aG 3 (aG 4 (ar (bu cu (av 5) (az (aG 2 au))) (aG 6 (aG 7 au)))))) au)))))))
def jE:de:=eT 8 qW
def zA:cD:=
 (aE (aX 4 (aB cE (et 0 0 (et 3 2 au))))
 (aE (aX 5 (aB cE (ar (cU (cU (eS 0 0) (av 4)) (cp 4)) (et 3 3 au))))
 (aE (aX 6 (az (aG 4 (aG 5 (b_ 0 (ar (aB cW (aG 0 (aG 1 (aG 2 (et 3 4 au))))) (b_ 0 au)))))))
 (aE (oZ (cU (eS 1 3) (av 2)) (jG (nG 2 (aK (cb 7) (aK (cb 8) dF)))))
 (cQ (aB jE (ar (aB d_ (aG 1 (aG 2 (aG 7 (ar (bu cu (av 8) (az (aG 6 au))) au))))) (aG 4 (aG 2 au)))))))))
def wA:de:=eT 9 zA
def sG:cD:=
 (aE (aX 4 (cU (aB cn (aG 1 (aG 2 au))) (cp 0)))
 (cQ (az (aG 4 (ar (aB cE (ar (cU (cU (eS 0 0) (av 4)) (cp 3)) (aG 3 au))) au)))))
def ik:de:=eT 5 sG
def l8:cD:=
 (aE (aX 4 (cU (eS 0 0) (av 1)))
 (cQ (aB cq (aG 0 (aG 1 (ar (bu cu (sQ (av 4) sS (qU (cp 4))) (az (ar (aB cO (et 4 4 (aG 2 (aG 3 au)))) au))) au))))))
def dY:de:=eT 5 l8
def yS:cD:=
 (aE (oZ (cU (eS 0 0) (av 1)) (jG (nG 5 (aK (cb 2) (aK (cb 3) (aK (cb 4) (aK (cb 5) (aK (cb 6) dF))))))))
 (aE (ig (jz (av 5)) (cQ (aB cq (aG 0 (aG 1 (ar (az (aG 2 (et 5 0 (aG 4 (ar (sQ (av 5) (qU (cp 1)) sS) (aG 6 au)))))) au))))) iV)
 (aE (ig (jz (av 4)) (cQ (aB cq (aG 0 (aG 1 (ar (az (aG 2 (et 4 0 (ar (sQ (av 4) (qU (cp 1)) sS) (aG 5 (aG 6 au)))))) au))))) iV)
 (cQ (aB cq (aG 0 (aG 1 (ar (az (aG 2 (ar (cF (.int (-1))) (aG 4 (aG 5 (aG 6 au)))))) au))))))))
def oM:de:=eT 7 yS
def rK:cD:=
 (aE (oZ (aB ik (aG 0 (aG 1 (aG 2 (et 3 1 au))))) (jG (nG 2 (aK (cb 4) (aK (cb 5) dF)))))
 (aE (aX 6 (cp 0))
 (aE (ig (aW (bu (iG false) (cU (cU (cU (cU (eS 0 0) (av 4)) (cp 3)) (av 5)) (cp 1)) (cF (.str "turns")))) (aX 6 (aB cW (aG 0 (aG 1 (aG 2 (et 3 2 au)))))) iV)
 (aE (aX 7 (cU (cU (cU (eS 1 0) (av 4)) (cp 4)) (av 5)))
 (aE (aX 8 (j0 (pB (du [none,none,some 6] (sT (cA (av 7))) (jG (nG 2 (aK (cb 0) (aK (cb 1) dF)))) (aW (bu KF (av 0) (av 2))) (av 0)))))
 (aE (aX 9 (aB dY (aG 1 (aG 4 (aG 5 (ar (bu cu (bu cu (sQ (av 7) sS (qU (av 8))) (az (ar (az (aG 6 (aG 2 au))) au))) (sQ (av 7) (qU (av 8)) sS)) au))))))
 (cQ (aB oM (aG 9 (aG 4 au))))))))))
def ng:de:=eT 10 rK
def qR:cD:=
 (aE (oZ (aB ik (aG 0 (aG 1 (aG 2 (et 3 1 au))))) (jG (nG 2 (aK (cb 4) (aK (cb 5) dF)))))
 (aE (aX 6 (cU (cU (cU (eS 1 0) (av 4)) (cp 4)) (av 5)))
 (aE (ig (vD (jz (av 6))) (cQ (av 1)) iV)
 (aE (aX 7 (aB dY (aG 1 (aG 4 (aG 5 (ar (sQ (av 6) (qU (cp 1)) sS) au))))))
 (aE (ig (aW (bu (iG false) (cU (cU (eS 0 0) (av 4)) (cp 1)) (cF (.str "when free")))) (cQ (av 7)) iV)
 (aE (oZ (cU (eS 7 0) (av 4)) (jG (nG 5 (aK (cb 8) (aK (cb 9) (aK (cb 10) (aK (cb 11) (aK (cb 12) dF))))))))
 (cQ (aB cq (aG 7 (aG 4 (ar (az (aG 8 (ar (cU (eS 6 0) (cp 1)) (aG 10 (ar (bu cu (av 11) (az (aG 2 au))) (aG 12 au)))))) au)))))))))))
def mj:de:=eT 13 qR
def vJ:cD:=
 (aE (oZ (aB ik (aG 0 (aG 1 (aG 2 (et 3 1 au))))) (jG (nG 2 (aK (cb 4) (aK (cb 5) dF)))))
 (cQ (aB dY (aG 1 (aG 4 (aG 5 (ar (az au) au)))))))
def qc:de:=eT 6 vJ
def qt:cD:=
 (aE (aX 4 (aB cW (aG 0 (aG 1 (aG 2 (et 3 1 au))))))
 (cQ (aB cX (aG 1 (aG 2 (ar (bu cu (sQ (aB cn (aG 1 (aG 2 au))) sS (qU (cp 4))) (az (aG 4 au))) au))))))
def mN:de:=eT 5 qt
def lB:cD:=
 (cQ (bu cu (az (et 0 0 (ar (aB cO (et 0 1 (aG 1 (aG 2 au)))) au))) (sQ (av 0) (qU (cp 2)) sS)))
def dU:de:=eT 3 lB
def zN:cD:=
 (aE (aX 4 (aB cE (et 0 1 (aG 3 au))))
 (aE (oZ (cU (eS 1 1) (av 4)) (jG (nG 2 (aK (cb 5) (aK (cb 6) dF)))))
 (aE (ig (aW (bu My (av 5) (cp 0))) (cQ (aB dU (aG 1 (aG 4 (ar (az (ar (bu GU (av 5) (cp 1)) (aG 6 au))) au))))) iV)
 (cQ (aB dU (aG 1 (aG 4 (ar (az (aG 5 (ar (bu cu (av 6) (az (aG 2 au))) au))) au))))))))
def rN:de:=eT 7 zN
def qO:cD:=
 (cQ (aB rN (aG 0 (aG 1 (aG 2 (et 3 1 au))))))
def mi:de:=eT 4 qO
def jP:cD:=
 (aE (aX 3 (aB cE (et 0 1 (aG 2 au))))
 (aE (oZ (cU (eS 1 1) (av 3)) (jG (nG 2 (aK (cb 4) (aK (cb 5) dF)))))
 (aE (ig (jz (av 5)) (cQ (aB dU (aG 1 (aG 3 (ar (az (aG 4 (ar (sQ (av 5) (qU (cp 1)) sS) au))) au))))) iV)
 (cQ (aB dU (aG 1 (aG 3 (ar (az (ar (FE minD (ar (bu cu (av 4) (cp 1)) (ar (cF (.int (9))) au))) (aG 5 au))) au))))))))
def fG:de:=eT 6 jP
def qX:cD:=
 (cQ (aB fG (aG 0 (aG 1 (et 3 1 au)))))
def mQ:de:=eT 4 qX
def qv:cD:=
 (cQ (aB rN (aG 0 (ar (aB fG (aG 0 (aG 1 (et 3 1 au)))) (aG 2 (et 3 2 au))))))
def mO:de:=eT 4 qv
def vd:cD:=
 (cQ (av 1))
def pX:de:=eT 4 vd
def kA:List (Str×Str):= [("put","by_put"),("unless","by_unless"),("go","by_go"),("do","by_do"),("wait","by_wait"),("call","by_call"),("all","by_all"),("tell","by_tell"),("take","by_take"),("give","by_give"),("pass","by_pass"),("say","by_say")]
def qL:List (Str×de):= [("by_put",p5),("by_unless",iZ),("by_go",uR),("by_do",wA),("by_wait",ng),("by_call",mj),("by_all",qc),("by_tell",mN),("by_take",mi),("by_give",mQ),("by_pass",mO),("by_say",pX)]
def t7:cD:=
 (aE (aX 4 (MJ kA (eS 3 0)))
 (cQ (qw 4 qL (aG 0 (aG 1 (aG 2 (aG 3 au)))))))
def iU:de:=eT 5 t7
def nH:cD:=
 (aE (oZ (cU (eS 1 3) (av 2)) (jG (nG 2 (aK (cb 3) (aK (cb 4) dF)))))
 (aE (oZ (cU (av 4) (qY (cp 1))) (jG (nG 5 (aK (cb 5) (aK (cb 6) (aK (cb 7) (aK (cb 8) (aK (cb 9) dF))))))))
 (aE (aX 10 (aB d_ (ar (aB oM (aG 1 (aG 5 au))) (aG 2 (aG 3 (ar (sQ (av 4) sS (qU (qY (cp 1)))) au))))))
 (aE (aX 11 (cU (aB eB (aG 0 (aG 2 (ar (cU (av 4) (qY (cp 2))) au)))) (bu GU (cU (cU (av 4) (qY (cp 2))) (cp 2)) (cp 1))))
 (aE (ig (aW (bu (sX false) (eS 11 1) (cF .non))) (cQ (av 10)) iV)
 (cQ (aB d0 (aG 0 (aG 10 (aG 2 (et 11 1 (aG 9 au))))))))))))
def iL:de:=eT 12 nH
def j8:cD:=
 (aE (aX 3 (aB cn (aG 1 (aG 2 au))))
 (aE (aX 4 (eS 3 0))
 (aE (ig (vA (aW (bu (iG true) (av 4) (cF (.int (-1))))) (aW (bu (iG true) (cU (cU (eS 1 0) (av 4)) (cp 1)) (av 2)))) (cQ (az (ar (aB jE (aG 1 (aG 4 (aG 2 au)))) (ar (cF .non) au)))) iV)
 (aE (aX 5 (aB eB (aG 0 (aG 2 (aG 3 au)))))
 (aE (ig (aW (bu (iG false) (eS 3 2) (j0 (cA (av 5))))) (cQ (az (ar (aB iL (aG 0 (aG 1 (aG 2 au)))) (ar (cF .non) au)))) iV)
 (aE (aX 6 (cU (av 5) (eS 3 2)))
 (aE (aX 7 (cF .non))
 (aE (ig (aW (bu (iG false) (eS 6 0) (cF (.str "say")))) (aX 7 (az (aG 2 (ar (aB cW (aG 0 (aG 1 (aG 2 (et 6 1 au))))) au)))) iV)
 (cQ (az (ar (aB iU (aG 0 (ar (aB ja (aG 1 (aG 2 (ar (bu cu (eS 3 2) (cp 1)) au)))) (aG 2 (aG 6 au))))) (aG 7 au))))))))))))
def jW:de:=eT 8 j8
def yL:cD:=
 (aE (aX 3 MU)
 (aE (AV (ES (av 3) (av 1)))
 (aE (aX 4 (dv (cT (ar (az (aG 1 (ar (qY (cp 1)) (ar (qY (cp 1)) au)))) au))))
 (aE (aX 5 (cp 0))
 (aE (FH (vA (aW (bu MI (av 5) (j0 (cA (av 4))))) (aW (bu KF (j0 (cA (av 4))) (av 2)))) (aE (aX 6 (cU (cU (av 4) (av 5)) (cp 0)))
 (aE (rq (sT (pB (dM iD (aG 0 (aG 6 au))))) (cb 7) (aE (oZ (aB jW (aG 0 (aG 6 (aG 7 au)))) (jG (nG 2 (aK (cb 8) (aK (cb 9) dF)))))
 (ig (aW (De (av 8) (av 3))) (aE (AV (ES (av 3) (av 8)))
 (AV (HA rD (av 4) (ar (az (aG 8 (aG 5 (aG 7 au)))) au)))) iV)))
 (Mc 5 (cp 1)))) 500)
 (cQ (qV (aW (bu KF (j0 (cA (av 4))) (av 2))) (av 4) (cF .non))))))))
def ni:de:=Kt 10 yL
def DQ:cD:=
 (aE (aX 3 (aB ni (aG 0 (aG 1 (aG 2 au)))))
 (aE (ig (aW (bu (sX false) (av 3) (cF .non))) (cQ (cF .non)) iV)
 (aE (aX 4 (dv (GT (pB (dM bO (aG 1 au))))))
 (aE (rq (sT (cA (av 3))) (jG (nG 3 (aK (cb 5) (aK (cb 6) (aK (cb 7) dF))))) (aE (aX 8 (dv (dM bO (aG 5 au))))
 (aX 4 (dv (du [none,some 8] (sT (cA (av 4))) (cb 0) (aW (GL false (av 0) (cA (av 1)))) (av 0))))))
 (cQ (tupQ (kJ (cA (av 4)))))))))
def xn:de:=eT 9 DQ
def lP:cD:=
 (cQ (tupQ (pB (du [none,none] (sT (cA (av 0))) (jG (nG 2 (aK (cb 0) (aK (cb 1) dF)))) eX (av 1)))))
def fq:de:=eT 1 lP
def ke:cD:=
 (aE (oZ (av 0) (jG (nG 5 (aK (cb 1) (aK (cb 2) (aK (cb 3) (aK (cb 4) (aK (cb 5) dF))))))))
 (cQ (az (ar (aB fq (aG 3 au)) (ar (cF (.int (-1))) (ar (az au) (ar (az au) (ar (tupQ (pB (du [none] (sT (cA (av 4))) (cb 0) eX (az au)))) au))))))))
def gR:de:=eT 6 ke
def Aa:cD:=
 (aE (oZ (av 0) (jG (nG 4 (aK (cb 1) (aK (cb 2) (aK (cb 3) (aK (cb 4) dF)))))))
 (aE (aX 5 (az (ar (cF (.int (-1))) (ar (cF (.int (-1))) (b_ 0 (b_ 0 (b_ 0 au)))))))
 (cQ (az (ar (tupQ (pB (du [none] (sT (cA (av 1))) (cb 0) eX (aB gR (aG 0 au))))) (ar (tupQ (pB (du [none,none] (sT (cA (av 2))) (jG (nG 2 (aK (cb 0) (aK (cb 1) dF)))) eX (az (aG 1 (ar (az au) au)))))) (ar (aB fq (aG 3 au)) (ar (tupQ (pB (du [none,none,some 5] (sT (cA (av 4))) (jG (nG 2 (aK (cb 0) (aK (cb 1) dF)))) eX (az (ar (aB fq (aG 0 au)) (ar (az (aG 2 au)) au)))))) au))))))))
def vk:de:=eT 6 Aa
def vP:cD:=
 (aE (aX 2 (aB vk (aG 0 au)))
 (aE (aX 3 (dv (cT au)))
 (aE (rq (Bh (cA (av 1))) (jG (nG 2 (aK (cb 4) (aK (cb 5) dF)))) (aE (ig (aW (GL true (av 5) (pB (dM iD (aG 0 (aG 2 au)))))) never iV)
 (aE (oZ (aB jW (aG 0 (aG 2 (aG 5 au)))) (jG (nG 2 (aK (cb 2) (aK (cb 6) dF)))))
 (ig (aW (bu (sX true) (av 6) (cF .non))) (AV (HA rD (av 3) (aG 6 au))) iV))))
 (cQ (az (aG 2 (ar (tupQ (kJ (cA (av 3)))) au)))))))
def pU:de:=eT 7 vP
def jI:cD:=
 (aE (rq (sT (cA (av 1))) (jG (nG 2 (aK (cb 2) (aK (cb 3) dF)))) (ig (vD (jz (aB (ff 10) (ar (aB xn (aG 0 (ar (cU (aB pU (aG 0 (aG 2 au))) (cp 0)) (b_ 400 au)))) (aG 3 au))))) (cQ (cF (.bl false))) iV))
 (cQ (cF (.bl true))))
def bH:de:=eT 4 jI
def fc:cD:=
 (aE (aX 2 (aB bT (aG 0 (b_ 3 au))))
 (aE (zO 3 4 (et 1 0 (et 1 1 au)))
 (aE (aX 5 (dv (cT (ar (az (ar (az au) (ar (az (ar (az (qF "take" (aG 3 au))) (ar (az (qF "take" (aG 3 au))) au))) au))) (ar (az (ar (az au) (ar (bu wQ (az (ar (az (qF "give" (ar (cU (dv (cT (aG 4 (aG 3 (aG 3 au))))) (av 2)) au))) au)) (FE maxD (b_ 1 (aG 2 au)))) au))) au)))))
 (aE (aX 6 (az (ar (az au) (ar (az (ar (az (aG 3 (b_ 1 au))) (ar (az (aG 4 (b_ 0 au))) au))) (ar (az au) (ar (tupQ (pB (EW (cA (av 5)) (pB (cT (ar (az (ar (az au) (ar (az (ar (az (qF "go" (b_ 0 au))) au)) au))) au)))))) au))))))
 (aE (aX 7 (dv (cT (ar (az (ar (az au) (ar (az au) au))) (ar (az (ar (az (b_ 0 au)) (ar (az au) au))) (ar (az (ar (az (b_ 0 (b_ 0 au))) (ar (cU (dv (cT (ar (az (b_ 0 au)) (ar (az au) (ar (az au) au))))) (av 2)) au))) (ar (az (ar (az (b_ 2 (b_ 2 (b_ 0 (b_ 0 (b_ 2 au)))))) (ar (cU (dv (cT (ar (az (b_ 0 au)) (ar (az au) (ar (az au) au))))) (av 2)) au))) au)))))))
 (aE (AV (HA rD (av 7) (ar (az (ar (az (b_ 0 (b_ 0 (b_ 1 au)))) (ar (cU (dv (cT (ar (az (b_ 0 au)) (ar (az au) (ar (az au) au))))) (av 2)) au))) au)))
 (aE (AV (HA rD (av 7) (ar (az (ar (az (b_ 1 (b_ 0 (b_ 0 au)))) (ar (cU (dv (cT (ar (az (b_ 0 au)) (ar (az au) (ar (az au) au))))) (av 2)) au))) au)))
 (cQ (aB bH (aG 6 (aG 7 au)))))))))))
def dE:de:=eT 8 fc
def fj:cD:=
 (aE (aX 2 (cU (dv (cT (qF "at once" (qF "when free" au)))) (aB bT (aG 0 (b_ 2 au)))))
 (aE (aX 3 (aB bT (aG 0 (b_ 2 au))))
 (aE (aX 4 (az (ar (az (et 1 2 (ar (az (ar (az (qF "wait" (et 1 1 (b_ 4 au)))) au)) au))) (ar (az (et 1 3 (ar (cU (dv (cT (ar (az (ar (az (qF "tell" (b_ 1 au))) au)) (ar (az (ar (az (qF "call" (et 1 1 au))) au)) au)))) (av 3)) au))) au))))
 (aE (aX 5 (az (et 1 0 (aG 2 (ar (az au) (ar (az (ar (az (et 1 1 (ar (cU (dv (cT (qF "row" (qF "turns" au)))) (aB bT (aG 0 (b_ 2 au)))) au))) au)) (aG 4 au)))))))
 (aE (aX 6 (az (ar (az (ar (az au) (ar (az (ar (az (qF "do" (ar (cF .non) (et 1 0 (et 1 2 (b_ 0 au)))))) au)) au))) (ar (az (ar (az au) (ar (az (ar (az (qF "do" (ar (cF .non) (et 1 0 (et 1 3 (b_ 0 au)))))) au)) au))) au))))
 (aE (aX 7 (az (ar (az (aG 5 au)) (ar (az au) (ar (az au) (aG 6 au))))))
 (aE (aX 8 (dv (cT (ar (az (ar (az au) (ar (az au) au))) (ar (az (ar (az (b_ 0 au)) (ar (az au) au))) (ar (az (ar (az (b_ 0 (b_ 0 au))) (ar (cU (dv (cT (ar (az (b_ 0 au)) (ar (az au) au)))) (av 3)) au))) (ar (az (ar (az (b_ 0 (b_ 0 (b_ 1 au)))) (ar (cU (dv (cT (ar (az (b_ 0 au)) (ar (az au) au)))) (av 3)) au))) au)))))))
 (aE (aX 8 (dv (EW (cA (av 8)) (pB (cT (ar (az (ar (az (b_ 1 au)) (ar (az au) au))) (ar (az (ar (az (b_ 1 (b_ 1 au))) (ar (az au) au))) (ar (az (ar (az (b_ 1 (b_ 1 (b_ 1 au)))) (ar (az au) au))) (ar (az (ar (az (b_ 1 (b_ 1 (b_ 1 (b_ 0 au))))) (ar (az au) au))) (ar (az (ar (az (b_ 1 (b_ 1 (b_ 1 (b_ 0 (b_ 0 au)))))) (ar (az (b_ 0 au)) au))) au))))))))))
 (aE (AV (HA rD (av 8) (ar (az (ar (az (b_ 0 (b_ 0 (b_ 1 (b_ 1 au))))) (ar (cU (dv (cT (ar (az (b_ 0 au)) (ar (az au) au)))) (av 3)) au))) au)))
 (cQ (aB bH (aG 7 (aG 8 au)))))))))))))
def dC:de:=eT 9 fj
def dw:cD:=
 (aE (aX 2 (az (ar (az (et 1 2 (ar (az (ar (az (qF "do" (ar (cF .non) (et 1 0 (et 1 3 (b_ 0 au)))))) au)) au))) (ar (az (et 1 3 (ar (az (ar (az (qF "tell" (b_ 1 au))) au)) au))) au))))
 (aE (aX 3 (az (et 1 0 (ar (cU (dv (cT (qF "at once" (qF "when free" au)))) (aB bT (aG 0 (b_ 2 au)))) (ar (az au) (ar (az au) (aG 2 au)))))))
 (aE (aX 4 (az (ar (az (ar (az au) (ar (az (ar (az (qF "do" (ar (cF .non) (et 1 0 (et 1 2 (b_ 0 au)))))) au)) au))) (ar (az (ar (az au) (ar (az (ar (az (qF "do" (ar (cF .non) (et 1 0 (et 1 3 (b_ 0 au)))))) au)) au))) au))))
 (aE (aX 5 (dv (cT (ar (az (ar (az au) (ar (az au) au))) (ar (az (ar (az (b_ 0 au)) (ar (az au) au))) (ar (az (ar (az (b_ 0 (b_ 0 au))) (ar (az (b_ 0 au)) au))) (ar (az (ar (az (b_ 0 (b_ 0 (b_ 1 au)))) (ar (az (b_ 0 (b_ 1 au))) au))) (ar (az (ar (az (b_ 1 (b_ 1 au))) (ar (az au) au))) (ar (az (ar (az (b_ 1 (b_ 1 (b_ 1 (b_ 0 (b_ 0 au)))))) (ar (az (b_ 0 au)) au))) au)))))))))
 (cQ (aB bH (ar (az (ar (az (aG 3 au)) (ar (az au) (ar (az au) (aG 4 au))))) (aG 5 au))))))))
def cI:de:=eT 6 dw
def J3:cD:=
 (aE (rq (Ce (bu cu (cp 1) (FE minD (b_ 6 (ar (j0 (cA (av 0))) au))))) (cb 1) (aE (aX 2 (dv (dM ku (aG 0 (aG 1 au)))))
 (aE (aX 3 (dv (dM fH (aG 2 (b_ 8 au)))))
 (aE (ig (KA (vD (jz (aB dC (aG 2 (aG 3 au))))) (vD (jz (aB cI (aG 2 (aG 3 au)))))) (cQ (cF (.bl false))) iV)
 (ig (vD (jz (aB dE (aG 2 (aG 3 au))))) (cQ (cF (.bl false))) iV)))))
 (cQ (cF (.bl true))))
def Gc:de:=eT 4 J3
def top(i:Nat):Stmt:=PySem.Challenge.pw_calledroom_k44_lost_known_by_hand.main.body.getD i (.Pass ⟨0,0,0,0⟩)
abbrev lK:Stmt:=top 60
abbrev jN:Stmt:=top 61
abbrev iX:Stmt:=top 62
abbrev j9:Stmt:=top 63
abbrev k8:Stmt:=top 18
abbrev fR:Stmt:=top 51
abbrev i3:Stmt:=top 10
abbrev i8:Stmt:=top 11
abbrev fQ:Stmt:=top 52
abbrev lN:Stmt:=top 50
abbrev lH:Stmt:=top 23
abbrev lU:Stmt:=top 25
abbrev kc:Stmt:=top 12
abbrev jM:Stmt:=top 15
abbrev j7:Stmt:=top 13
abbrev jR:Stmt:=top 27
abbrev gJ:Stmt:=top 3
abbrev lL:Stmt:=top 2
abbrev lu:Stmt:=top 26
abbrev qT:Stmt:=top 31
abbrev eK:Stmt:=top 16
abbrev qf:Stmt:=top 17
abbrev jZ:Stmt:=top 32
abbrev uS:Stmt:=top 33
abbrev nL:Stmt:=top 28
abbrev uX:Stmt:=top 34
abbrev oo:Stmt:=top 35
abbrev kd:Stmt:=top 36
abbrev vH:Stmt:=top 29
abbrev oN:Stmt:=top 37
abbrev oB:Stmt:=top 38
abbrev qk:Stmt:=top 39
abbrev nW:Stmt:=top 40
abbrev j6:Stmt:=top 14
abbrev u3:Stmt:=top 42
abbrev nF:Stmt:=top 41
abbrev jd:Stmt:=top 44
abbrev oH:Stmt:=top 43
abbrev nN:Stmt:=top 45
abbrev rG:Stmt:=top 46
abbrev lR:Stmt:=top 48
abbrev lG:Stmt:=top 30
abbrev oK:Stmt:=top 54
abbrev oA:Stmt:=top 56
abbrev Ag:Stmt:=top 58
abbrev jH:Stmt:=top 7
abbrev jf:Stmt:=top 9
abbrev wc:Stmt:=top 8
abbrev qS:Stmt:=top 53
abbrev jb:Stmt:=top 64
abbrev eQ:Stmt:=top 67
abbrev eL:Stmt:=top 65
abbrev dh:Stmt:=top 66
abbrev mP:Stmt:=top 68
end W28
namespace W28
open PySem PySem.Spec L2 DL PyProof.Rows
abbrev Af:List Str:= ["_law_found","_law_due"]
abbrev yp:List Str:= ["_law_left","_law_many"]
abbrev pT:List Str:= ["_law_left","_law_words_here"]
abbrev Bf:List Str:= ["_law_script","_law_k"]
abbrev Fb:List Str:= ["_law_script"]
abbrev Bs:List Str:= ["_law_world","_law_rows"]
abbrev yG:List Str:= ["form","first","second"]
abbrev wR:List Str:= ["line"]
abbrev xx:List Str:= ["parts","at","part"]
abbrev yy:List Str:= ["roll","name"]
abbrev xN:List Str:= ["roll"]
abbrev xi:List Str:= ["room"]
abbrev yg:List Str:= ["scene","at","room"]
abbrev yH:List Str:= ["scene","at","turnstile"]
abbrev AD:List Str:= ["scene","hand","frame"]
abbrev Bj:List Str:= ["scene","hand","row"]
abbrev w9:List Str:= ["scene","hand","values","frames"]
abbrev yb:List Str:= ["scene","hand"]
abbrev AO:List Str:= ["scene","room","bell","line"]
abbrev AG:List Str:= ["scene","room","hand"]
abbrev A_:List Str:= ["scene","room"]
abbrev An:List Str:= ["scene"]
abbrev yx:List Str:= ["things"]
abbrev uu:List Str:= ["tree","things","waiting"]
abbrev Bq:List Str:= ["world","hand","frame"]
abbrev BK:List Str:= ["world","scene","hand","name"]
abbrev bh:List Str:= ["world","scene","hand","row"]
abbrev AC:List Str:= ["world","scene","hand","tree"]
abbrev BB:List Str:= ["world","scene","hand","word","value"]
abbrev Az:List Str:= ["world","scene","hand","word"]
abbrev jv:List Str:= ["world","scene","hand"]
abbrev Ax:List Str:= ["world","scene","most"]
abbrev AE:List Str:= ["world","scene","name"]
abbrev A6:List Str:= ["world","scene"]
abbrev Bn:List Str:= ["world","start","most"]
abbrev BH:List Str:= ["world","weaving"]
abbrev Aj:List Str:= ["world"]
section
variable(P:Program)(w:World)(K:PySem.W.Frag)(mg:Str->Option Value)(base:Heap)
abbrev yX:Prop:=eZ P w K mg base 1 "_law_pot" Bf ku
abbrev gX:Prop:=eZ P w K mg base 1 "_law_pick" yp bT
abbrev wF:Prop:=eZ P w K mg base 2 "_law_words" yp fH
abbrev yJ:Prop:=eZ P w K mg base 11 "_law_same" Af (ff 10)
abbrev zX:Prop:=eZ P w K mg base 1 "hands_at" wR kH
abbrev jq:Prop:=eZ P w K mg base 2 "hands_in_rows" An bO
abbrev c_:Prop:=eZ P w K mg base 1 "last_frame" yb cn
abbrev i9:Prop:=eZ P w K mg base 1 "program_of" Bq eB
abbrev pQ:Prop:=eZ P w K mg base 2 "is_behind_all" jv eF
abbrev sL:Prop:=eZ P w K mg base 3 "may_step" A6 iD
abbrev lA:Prop:=eZ P w K mg base 1 "names_of" xN dg
abbrev gN:Prop:=eZ P w K mg base 2 "place_of" yy cE
abbrev fP:Prop:=eZ P w K mg base 1 "with_part" xx cO
abbrev gW:Prop:=eZ P w K mg base 2 "with_hand" w9 d_
abbrev fM:Prop:=eZ P w K mg base 2 "with_room" yg cq
abbrev o7:Prop:=eZ P w K mg base 3 "put_thing" BB d0
abbrev qm:Prop:=eZ P w K mg base 1 "value_of_two" yG fD
abbrev y3:Prop:=eZ P w K mg base 8 "value_of" uu (fg 6)
abbrev fe:Prop:=eZ P w K mg base 9 "reckoned" AC cW
abbrev gY:Prop:=eZ P w K mg base 3 "with_last_frame" AD cX
abbrev sh:Prop:=eZ P w K mg base 4 "at_row" Bj ja
abbrev uh:Prop:=eZ P w K mg base 3 "come_in" AG jE
abbrev oh:Prop:=eZ P w K mg base 3 "bell_of" Az ik
abbrev jF:Prop:=eZ P w K mg base 3 "with_line" AO dY
abbrev AL:Prop:=eZ P w K mg base 3 "leave" A_ oM
abbrev oO:Prop:=eZ P w K mg base 2 "with_pass" yH dU
abbrev AR:Prop:=eZ P w K mg base 3 "taken" BK rN
abbrev m8:Prop:=eZ P w K mg base 3 "given_back" AE fG
abbrev yZ:Prop:=eZ P w K mg base 11 "row_done" bh iU
abbrev zR:Prop:=eZ P w K mg base 4 "end_deed" jv iL
abbrev uG:Prop:=eZ P w K mg base 12 "step_of" jv jW
abbrev BU:Prop:=eZ P w K mg base 13 "come_to" Bn ni
abbrev J8:Prop:=eZ P w K mg base 14 "lost" Ax xn
abbrev pd:Prop:=eZ P w K mg base 1 "values_of" yx fq
abbrev wu:Prop:=eZ P w K mg base 2 "begun_room" xi gR
abbrev Hm:Prop:=eZ P w K mg base 3 "begun" Aj vk
abbrev DX:Prop:=eZ P w K mg base 13 "walked" BH pU
abbrev jh:Prop:=eZ P w K mg base 15 "_law_asked" Bs bH
abbrev mE:Prop:=eZ P w K mg base 16 "_law_pass_right" pT dE
abbrev ml:Prop:=eZ P w K mg base 16 "_law_bell_right" pT dC
abbrev jA:Prop:=eZ P w K mg base 16 "_law_own_room_right" pT cI
end
def NS{X:Cx}{a:Expr}{pos:Pos}{f:eU}{p:Pos}(d:Gl X "len")(c:X.mg "len"=none)(e:PE X a (tQ (md X) f))(b:starEach [a] X.env= [(false,eval a X.env)]):PE X (.Call (.Name "len" p) [a] [] pos) (tD (md X) (j0 f)):=AW d c e b
def fA{X:Cx}{pos:Pos}{N:List Str}{js:List (Option Nat)}{a:Scope}{c:List (Str×Addr)}{h b e:Expr}{d:List Expr}{i:tE}{g:kM}{t:ie}{f:aV}(S:aS X N js a c)(j:X.calm=true)(hi:PI X h b (tI (md X) i))(l:∀C s H fp,PG (aF X N a c C s H fp) h (tG (md (aF X N a c C s H fp)) g))(m:∀C s H fp,lg (aF X N a c C s H fp) d (tB (md (aF X N a c C s H fp)) t))(he:∀C s H fp,PE (aF X N a c C s H fp) e (tD (md (aF X N a c C s H fp)) f))(k:∀x,foldedSetIterable b X.env x=pure x:=by intro _;rfl):PE X (.ListComp e [⟨h,b,d,0⟩] a pos) (tL (md X) (du js i g t f)):=IT S j hi l m he k
def BD{X:Cx}{pos:Pos}{N:List Str}{js:List (Option Nat)}{a:Scope}{e:List (Str×Addr)}{k b j c:Expr}{h:List Expr}{i:tE}{g:kM}{t:ie}{f:aV}{n:Nat}{d:Pos}(S:aS X N js a e)(o:X.calm=true)(hi:PI X k b (tI (md X) i))(q:∀C s H fp,PG (aF X N a e C s H fp) k (tG (md (aF X N a e C s H fp)) g))(u:∀C s H fp,lg (aF X N a e C s H fp) h (tB (md (aF X N a e C s H fp)) t))(he:∀C s H fp,PE (aF X N a e C s H fp) j (tD (md (aF X N a e C s H fp)) f))(l:PG X c (my n))(p:∀x,foldedSetIterable b X.env x=pure x:=by intro _;rfl)(m:swapsWithSole [c] (.ListComp j [⟨k,b,h,0⟩] a pos) d.line X.env=pure true:=by rfl)(r:(assignEach [c] X.env).map (·.2)= [assign c X.env]:=by rfl):PS X (.Assign [c] (.ListComp j [⟨k,b,h,0⟩] a pos) d) (tS (md X) (aX n (dv (du js i g t f)))):=Jc S o hi q u he l p m r
def Dq{X:Cx}{pos:Pos}{N:List Str}{js:List (Option Nat)}{a:Scope}{d:List (Str×Addr)}{h b k l c:Expr}{f:List Expr}{i:tE}{g:kM}{t:ie}{o p:aV}{n:Nat}{e:Pos}(S:aS X N js a d)(q:X.calm=true)(hi:PI X h b (tI (md X) i))(w:∀C s H fp,PG (aF X N a d C s H fp) h (tG (md (aF X N a d C s H fp)) g))(z:∀C s H fp,lg (aF X N a d C s H fp) f (tB (md (aF X N a d C s H fp)) t))(u:∀C s H fp,PE (aF X N a d C s H fp) k (tD (md (aF X N a d C s H fp)) o))(v:∀C s H fp,PE (aF X N a d C s H fp) l (tD (md (aF X N a d C s H fp)) p))(j:PG X c (my n))(r:∀x,foldedSetIterable b X.env x=pure x:=by intro _;rfl)(m:swapsWithSole [c] (.DictComp k l [⟨h,b,f,0⟩] a pos) e.line X.env=pure true:=by rfl)(y:(assignEach [c] X.env).map (·.2)= [assign c X.env]:=by rfl):PS X (.Assign [c] (.DictComp k l [⟨h,b,f,0⟩] a pos) e) (tS (md X) (Lz n (nI js i g t o p))):=Hd S q hi w z u v j r m y
local macro_rules|`(tactic|ac_rfl)=>do
 let g (l:List (String×Nat)):Lean.MacroM (Array (Lean.TSyntax `Lean.Parser.Tactic.tacticSeq)):=l.toArray.mapM λ(s,k)=>do
  let ws:=((s.splitOn " ").map λn=>Lean.mkIdent n.toName).toArray
  let h←`(?_)
  let e:=Lean.Syntax.mkApp ⟨ws[0]!.raw⟩ ((ws.toList.tail!.map λw=>⟨w.raw⟩).toArray++Array.replicate k h)
  `(tacticSeq|refine $e)
 let a←g [("OY",5),("cY",3),("v_",5),("kW",0),("ui",0),("IV",3),("HR",1),("hX",2),("Ik",1),("AF",3),("JP",5),("Nd",1),("NB",3),("KR",0),("Oh",0),("OP",2),("Lf",4),("Jk",0),("KZ",1),("LD",1),("LO",5),("OT",1),("Mw",3),("M7",0),("Nw",1),("DW Ou Oo",3),("K3",0),("KO",1),("Oe",0),("NS",4),("N6",2),("OA",2),("z9",2),("DW Oj OD",3),("Mg",6),("Pa",0),("Ic",1),("N_",1),("MN",5),("NQ",1),("OH",2),("Oa Ou Oo",3),("Me",3),("E7",6),("DW OG OC",3),("OQ",3),("NF",4),("O_",5),("DW NU M3",3),("OL",7),("Ot",2),("KD",10),("DW LK LL",3),("Ng",2),("Ox",6),("Ky",6),("MF",3),("OW",3),("NT",4),("Od",1),("Ol",2),("Oa Oy Om",3),("Of",2),("Mq",4),("N1",11),("Ov",5),("Oa NU M3",3),("ON",1),("K1",6),("ML",6),("L3",6),("M0",0),("M_",5),("DW Ii HE",3),("Ku",4),("Nk",4),("MH",0),("DW ME MD",3),("MT",2),("ya",1),("N9",1),("OK",1),("Oc",2),("IM",1),("OB",1)]
 let b←g [("zG",1),("PassesOwn.never",0),("HW",0),("MM",0),("Bl.abs",1),("Bl.all",1),("Bl.bool",1),("Bl.dict",1),("Bl.enum",1),("Bl.int",1),("Bl.isi",1),("Bl.len",1),("Bl.list",1),("Bl.max",1),("Bl.min",1),("Bl.range",1),("Bl.sorted",1),("Bl.str",1),("Bl.tuple",1),("Bl.zip",1),("hX",2),("ya",1)]
 let c←([("M8 iQ Kw Bl.min",1),("Nu iQ Lj Bl.abs",0),("NM iQ KE Bl.max",1),("LH CI Kz Bl.int",0),("str",2),("list",2),("tuple",2),("int",2),("bool",2)]:List (String×Nat)).toArray.mapM λ(s,k)=>do
  let ws:=((s.splitOn " ").map λn=>Lean.mkIdent n.toName).toArray
  if k=2 then
   `(tacticSeq|refine G6 (v:=.ty $(Lean.quote s)) rfl ($(Lean.mkIdent (.str (.str .anonymous "Bl") s)) (by assumption)) $(Lean.mkIdent (.str `PyProof.Rows ("boot_" ++s))) rfl)
  else
   let e←if k=1 then `($(ws[2]!) rfl) else pure ⟨ws[2]!.raw⟩
   `(tacticSeq|((with_reducible refine Nv $(ws[0]!) ?_);refine $(ws[1]!) $e rfl ($(ws[3]!) (by assumption)) (by rfl) ?_))
 `(tactic|repeat (first
 |exact rfl
 |exact Or.inl rfl
 |(with_reducible first $[| $a]*)
 |(with_reducible first|refine PW.pt (w_and ?_ ?_)|refine PW.pt (w_or ?_ ?_))
 |refine LN (by assumption) (by assumption) ?_
 |((with_reducible refine CS ?_ ?_ ?_ ?_ ?_ ?hsz ?_);(case hsz=>exact rfl))
 |refine L8 (by assumption) (by assumption) ?_
 |refine kj (AM (v:=.int (-1)) rfl (by assumption) ⟨_,rfl⟩) λ_ _=>.int (-1)
 |refine kj (AM (v:=.int (9)) rfl (by assumption) ⟨_,rfl⟩) λ_ _=>.int (9)
 |assumption
 |exact Or.inr rfl
 |exact Or.inr (Or.inl rfl)
 |exact Or.inr (Or.inr rfl)
 |decide
 |omega
 |(intro _ _;rfl)
 |(intro _;rfl)
 |(intro _ _ _;rfl)
 |exact⟨rfl,rfl,rfl,rfl,rfl,rfl,rfl⟩
 |exact λ_ _=>.int _
 |(first $[| $c]*)
 |(first $[| $b]*)))
section
variable{P:Program}{w:World}{K:PySem.W.Frag}{mg:Str->Option Value}{base:Heap}{f:Addr}{fd:FuncData}
def oX:aD ["_law_script","_law_k","_law_cell"] Bf (ay lK):=fB
def xX(F:dZ K "_law_pot" "_law_pot" lK f fd)(B:Bl mg):a_ P w K mg base dA 1 f fd Bf (dQ ⟨K,mg⟩ 2 ku):=by
 have d:=oX.nd
 refine aY F oX λb A a s H E c=> ?_
 delta nZ
 ac_rfl
def mC:aD ["_law_left","_law_many","_law_digit"] yp (ay jN):=fB
def wG(F:dZ K "_law_pick" "_law_pick" jN f fd)(B:Bl mg):a_ P w K mg base dA 1 f fd yp (dQ ⟨K,mg⟩ 2 bT):=by
 have d:=mC.nd
 refine aY F mC λb A a s H E c=> ?_
 delta lX
 ac_rfl
def kT:aD ["_law_left","_law_many","_law_letters","_law_first","_law_turn","_law_some"] yp (ay iX):=fB
def tM(F:dZ K "_law_words" "_law_words" iX f fd)(B:Bl mg)(d:gX P w K mg base):a_ P w K mg base dA 2 f fd yp (dQ ⟨K,mg⟩ 2 fH):=by
 have e:=kT.nd
 refine aY F kT λb A a s H E c=> ?_
 delta jS
 ac_rfl
 refine BD (n:=5) (N:= ["_law_k","_law_letters","_law_first","_law_turn"]) (js:= [none,some 2,some 3,some 4]) (aS.gen rfl rfl rfl rfl rfl rfl) rfl ?_ (λ_ _ _ _=> ?_) (λ_ _ _ _=> ?_) (λ_ _ _ _=> ?_) ?_
 ac_rfl
def vK:aD Af Af (ay j9):=fB
theorem mf(F:dZ K "_law_same" "_law_same" j9 f fd)(B:Bl mg)(b:Binds K fd Af [])(c:PySem.W.keepIn K (.ref f)=true)(m:mg "_law_same"=some (.ref f)):∀n,a_ P w K mg base dA (1+n) f fd Af (dQ ⟨K,mg⟩ 2 (ff n))
 |0=>Bv
 | n+1=>by
   have g:eZ P w K mg base (1+n) "_law_same" Af (ff n):=⟨f,fd,mf F B b c m n,b,c,m⟩
   refine aY (k:=1+n) F vK λd A a s H E e=> ?_
   delta fu
   ac_rfl
   refine fA (N:= ["_law_one","_law_other"]) (js:= [none,none]) (aS.gen rfl rfl rfl rfl rfl rfl) rfl ?_ (λ_ _ _ _=> ?_) (λ_ _ _ _=> ?_) (λ_ _ _ _=> ?_)
   ac_rfl
def xR:aD wR wR (ay k8):=fB
def ye(F:dZ K "hands_at" "hands_at" k8 f fd)(B:Bl mg):a_ P w K mg base dA 1 f fd wR (dQ ⟨K,mg⟩ 1 kH):=by
 refine aY F xR λb A a s H E c=> ?_
 delta nO
 ac_rfl
 refine fA (N:= ["turn","hand"]) (js:= [none,none]) (aS.gen rfl rfl rfl rfl rfl rfl) rfl ?_ (λ_ _ _ _=> ?_) (λ_ _ _ _=> ?_) (λ_ _ _ _=> ?_)
 ac_rfl
def iO:aD ["scene","hands","value","row","values","within","late","bells","line"] An (ay fR):=fB
def oD(F:dZ K "hands_in_rows" "hands_in_rows" fR f fd)(B:Bl mg)(d:zX P w K mg base):a_ P w K mg base dA 2 f fd An (dQ ⟨K,mg⟩ 1 bO):=by
 have e:=iO.nd
 refine aY F iO λb A a s H E c=> ?_
 delta gD
 ac_rfl
def tO:aD yb yb (ay i3):=fB
def tf(F:dZ K "last_frame" "last_frame" i3 f fd)(B:Bl mg):a_ P w K mg base dA 1 f fd yb (dQ ⟨K,mg⟩ 2 cn):=by
 refine aY F tO λb A a s H E c=> ?_
 delta kb
 ac_rfl
def kX:aD ["world","hand","frame","room","deed"] Bq (ay i8):=fB
def tq(F:dZ K "program_of" "program_of" i8 f fd)(B:Bl mg){b:Tok}(e:mg "OWN"=some (.int (-1) b)):a_ P w K mg base dA 1 f fd Bq (dQ ⟨K,mg⟩ 3 eB):=by
 have c:=kX.nd
 refine aY F kX λd A a s H E g=> ?_
 delta kf
 ac_rfl
 refine HH (EV (i:=3) (j:=4) rfl c rfl rfl (by decide) rfl rfl ?_ rfl)
 ac_rfl
def ip:aD ["world","scene","hand","frame"] jv (ay fQ):=fB
def oy(F:dZ K "is_behind_all" "is_behind_all" fQ f fd)(B:Bl mg)(d:c_ P w K mg base)(g:i9 P w K mg base){b:Tok}(e:mg "OWN"=some (.int (-1) b)):a_ P w K mg base dA 2 f fd jv (dQ ⟨K,mg⟩ 3 eF):=by
 have i:=ip.nd
 refine aY F ip λc A a s H E h=> ?_
 delta gH
 ac_rfl
def pq:aD ["world","scene","held_up"] A6 (ay lN):=fB
def yd(F:dZ K "may_step" "may_step" lN f fd)(B:Bl mg)(c:jq P w K mg base)(d:pQ P w K mg base):a_ P w K mg base dA 3 f fd A6 (dQ ⟨K,mg⟩ 2 iD):=by
 have g:=pq.nd
 refine aY F pq λb A a s H E e=> ?_
 delta nE
 ac_rfl
 refine fA (N:= ["hand","world","scene","held_up"]) (js:= [none,some 0,some 1,some 2]) (aS.gen rfl rfl rfl rfl rfl rfl) rfl ?_ (λ_ _ _ _=> ?_) (λ_ _ _ _=> ?_) (λ_ _ _ _=> ?_)
 ac_rfl
end
section
variable{P:Program}{w:World}{K:PySem.W.Frag}{mg:Str->Option Value}{base:Heap}{f:Addr}{fd:FuncData}
def xK:aD xN xN (ay lH):=fB
def xG(F:dZ K "names_of" "names_of" lH f fd)(B:Bl mg):a_ P w K mg base dA 1 f fd xN (dQ ⟨K,mg⟩ 1 dg):=by
 refine aY F xK λb A a s H E c=> ?_
 delta nP
 ac_rfl
 refine fA (N:= ["row"]) (js:= [none]) (aS.gen rfl rfl rfl rfl rfl rfl) rfl ?_ (λ_ _ _ _=> ?_) (λ_ _ _ _=> ?_) (λ_ _ _ _=> ?_)
 ac_rfl
def xF:aD yy yy (ay lU):=fB
def yF(F:dZ K "place_of" "place_of" lU f fd)(B:Bl mg)(c:lA P w K mg base):a_ P w K mg base dA 2 f fd yy (dQ ⟨K,mg⟩ 2 cE):=by
 refine aY F xF λb A a s H E d=> ?_
 delta n_
 ac_rfl
def vo:aD xx xx (ay kc):=fB
def vp(F:dZ K "with_part" "with_part" kc f fd)(B:Bl mg):a_ P w K mg base dA 1 f fd xx (dQ ⟨K,mg⟩ 3 cO):=by
 refine aY F vo λb A a s H E c=> ?_
 delta lJ
 ac_rfl
def vt:aD w9 w9 (ay jM):=fB
def uT(F:dZ K "with_hand" "with_hand" jM f fd)(B:Bl mg)(c:fP P w K mg base):a_ P w K mg base dA 2 f fd w9 (dQ ⟨K,mg⟩ 4 d_):=by
 refine aY F vt λb A a s H E d=> ?_
 delta lC
 ac_rfl
def vG:aD yg yg (ay j7):=fB
def vR(F:dZ K "with_room" "with_room" j7 f fd)(B:Bl mg)(c:fP P w K mg base):a_ P w K mg base dA 2 f fd yg (dQ ⟨K,mg⟩ 3 cq):=by
 refine aY F vG λb A a s H E d=> ?_
 delta lY
 ac_rfl
def mR:aD ["world","scene","hand","word","value","room","place","values","shared","frames"] BB (ay jR):=fB
def vU(F:dZ K "put_thing" "put_thing" jR f fd)(B:Bl mg)(d:c_ P w K mg base)(k:gN P w K mg base)(g:fP P w K mg base)(h:fM P w K mg base)(i:lA P w K mg base)(e:gW P w K mg base){b:Tok}(j:mg "OWN"=some (.int (-1) b)):a_ P w K mg base dA 3 f fd BB (dQ ⟨K,mg⟩ 5 d0):=by
 have m:=mR.nd
 refine aY F mR λc A a s H E l=> ?_
 delta i6
 ac_rfl
def pR:aD yG yG (ay gJ):=fB
def pL(F:dZ K "value_of_two" "value_of_two" gJ f fd)(B:Bl mg){c:Tok}(e:mg "HIGHEST"=some (.int (9) c)):a_ P w K mg base dA 1 f fd yG (dQ ⟨K,mg⟩ 3 fD):=by
 refine aY F pR λb A a s H E d=> ?_
 delta hZ
 ac_rfl
def pA:aD ["tree","things","waiting","first"] uu (ay lL):=fB
theorem pz(F:dZ K "value_of" "value_of" lL f fd)(B:Bl mg)(g:qm P w K mg base)(b:Binds K fd uu [])(c:PySem.W.keepIn K (.ref f)=true)(m:mg "value_of"=some (.ref f)):∀n,a_ P w K mg base dA (2+n) f fd uu (dQ ⟨K,mg⟩ 3 (fg n))
 |0=>Bv
 | n+1=>by
   have j:eZ P w K mg base (2+n) "value_of" uu (fg n):=⟨f,fd,pz F B g b c m n,b,c,m⟩
   have i:=pA.nd
   refine aY (k:=2+n) F pA λh A a s H E e=> ?_
   have d:=HL e
   delta nY
   ac_rfl
def oP:aD ["world","scene","hand","tree","frame","room","things","waiting"] AC (ay lu):=fB
def yw(F:dZ K "reckoned" "reckoned" lu f fd)(B:Bl mg)(g:c_ P w K mg base)(i:lA P w K mg base)(k:y3 P w K mg base){b:Tok}(h:mg "OWN"=some (.int (-1) b)):a_ P w K mg base dA 9 f fd AC (dQ ⟨K,mg⟩ 4 cW):=by
 have j:=oP.nd
 refine aY F oP λe A a s H E d=> ?_
 have c:=HL d
 delta kF
 ac_rfl
 refine Dq (n:=7) (N:= ["bell","line"]) (js:= [none,none]) (aS.gen rfl rfl rfl rfl rfl rfl) rfl ?_ (λ_ _ _ _=> ?_) (λ_ _ _ _=> ?_) (λ_ _ _ _=> ?_) (λ_ _ _ _=> ?_) ?_
 ac_rfl
def CV:aD bh bh (ay qT):=fB
def Ci(F:dZ K "by_put" "by_put" qT f fd)(B:Bl mg)(e:o7 P w K mg base)(c:fe P w K mg base):a_ P w K mg base dA 10 f fd bh (dQ ⟨K,mg⟩ 4 p5):=by
 refine aY F CV λb A a s H E d=> ?_
 delta vL
 ac_rfl
end
section
variable{P:Program}{w:World}{K:PySem.W.Frag}{mg:Str->Option Value}{base:Heap}{f:Addr}{fd:FuncData}
def gy:aD ["scene","hand","frame","values","frames"] AD (ay eK):=fB
def lS(F:dZ K "with_last_frame" "with_last_frame" eK f fd)(B:Bl mg)(c:gW P w K mg base):a_ P w K mg base dA 3 f fd AD (dQ ⟨K,mg⟩ 3 cX):=by
 have e:=gy.nd
 refine aY F gy λb A a s H E d=> ?_
 delta ft
 ac_rfl
def uo:aD ["scene","hand","row","frame"] Bj (ay qf):=fB
def CH(F:dZ K "at_row" "at_row" qf f fd)(B:Bl mg)(c:c_ P w K mg base)(d:gY P w K mg base):a_ P w K mg base dA 4 f fd Bj (dQ ⟨K,mg⟩ 3 ja):=by
 have g:=uo.nd
 refine aY F uo λb A a s H E e=> ?_
 delta vm
 ac_rfl
def u_:aD bh bh (ay jZ):=fB
def uL(F:dZ K "by_unless" "by_unless" jZ f fd)(B:Bl mg)(c:fe P w K mg base)(d:sh P w K mg base):a_ P w K mg base dA 10 f fd bh (dQ ⟨K,mg⟩ 4 iZ):=by
 refine aY F u_ λb A a s H E e=> ?_
 delta lO
 ac_rfl
def FD:aD bh bh (ay uS):=fB
def Fs(F:dZ K "by_go" "by_go" uS f fd)(B:Bl mg)(c:sh P w K mg base):a_ P w K mg base dA 5 f fd bh (dQ ⟨K,mg⟩ 4 uR):=by
 refine aY F FD λb A a s H E d=> ?_
 delta zx
 ac_rfl
def rE:aD ["scene","room","hand","values","within","row","late","bells"] AG (ay nL):=fB
def yU(F:dZ K "come_in" "come_in" nL f fd)(B:Bl mg)(d:fM P w K mg base){c:Tok}(h:mg "NOBODY"=some (.int (-1) c)):a_ P w K mg base dA 3 f fd AG (dQ ⟨K,mg⟩ 3 jE):=by
 have g:=rE.nd
 refine aY F rE λb A a s H E e=> ?_
 delta qW
 ac_rfl
def wW:aD ["world","scene","hand","row","room","deed","frame","values","frames"] bh (ay uX):=fB
def Ei(F:dZ K "by_do" "by_do" uX f fd)(B:Bl mg)(e:gN P w K mg base)(c:fe P w K mg base)(i:uh P w K mg base)(d:gW P w K mg base):a_ P w K mg base dA 10 f fd bh (dQ ⟨K,mg⟩ 4 wA):=by
 have h:=wW.nd
 refine aY F wW λb A a s H E g=> ?_
 delta zA
 ac_rfl
def qM:aD ["world","scene","hand","word","room"] Az (ay oo):=fB
def zu(F:dZ K "bell_of" "bell_of" oo f fd)(B:Bl mg)(c:c_ P w K mg base)(d:gN P w K mg base):a_ P w K mg base dA 3 f fd Az (dQ ⟨K,mg⟩ 4 ik):=by
 have g:=qM.nd
 refine aY F qM λb A a s H E e=> ?_
 delta sG
 ac_rfl
def mh:aD ["scene","room","bell","line","state"] AO (ay kd):=fB
def uY(F:dZ K "with_line" "with_line" kd f fd)(B:Bl mg)(d:fM P w K mg base)(c:fP P w K mg base):a_ P w K mg base dA 3 f fd AO (dQ ⟨K,mg⟩ 4 dY):=by
 have g:=mh.nd
 refine aY F mh λb A a s H E e=> ?_
 delta l8
 ac_rfl
def wV:aD ["scene","room","values","within","row","late","bells"] A_ (ay vH):=fB
def D9(F:dZ K "leave" "leave" vH f fd)(B:Bl mg)(d:fM P w K mg base){c:Tok}(h:mg "NOBODY"=some (.int (-1) c)):a_ P w K mg base dA 3 f fd A_ (dQ ⟨K,mg⟩ 2 oM):=by
 have g:=wV.nd
 refine aY F wV λb A a s H E e=> ?_
 delta yS
 ac_rfl
def qy:aD ["world","scene","hand","row","room","bell","turn","line","ahead","waiting"] bh (ay oN):=fB
def zm(F:dZ K "by_wait" "by_wait" oN f fd)(B:Bl mg)(h:oh P w K mg base)(c:fe P w K mg base)(d:jF P w K mg base)(i:AL P w K mg base):a_ P w K mg base dA 10 f fd bh (dQ ⟨K,mg⟩ 4 ng):=by
 have g:=qy.nd
 refine aY F qy λb A a s H E e=> ?_
 delta rK
 ac_rfl
 refine fA (N:= ["other","waiter","turn"]) (js:= [none,none,some 6]) (aS.gen rfl rfl rfl rfl rfl rfl) rfl ?_ (λ_ _ _ _=> ?_) (λ_ _ _ _=> ?_) (λ_ _ _ _=> ?_)
 ac_rfl
def qQ:aD ["world","scene","hand","row","room","bell","line","called","values","within","queue","late","bells"] bh (ay oB):=fB
def zS(F:dZ K "by_call" "by_call" oB f fd)(B:Bl mg)(h:oh P w K mg base)(d:jF P w K mg base)(c:fM P w K mg base):a_ P w K mg base dA 4 f fd bh (dQ ⟨K,mg⟩ 4 mj):=by
 have g:=qQ.nd
 refine aY F qQ λb A a s H E e=> ?_
 delta qR
 ac_rfl
end
section
variable{P:Program}{w:World}{K:PySem.W.Frag}{mg:Str->Option Value}{base:Heap}{f:Addr}{fd:FuncData}
def t8:aD ["world","scene","hand","row","room","bell"] bh (ay qk):=fB
def Co(F:dZ K "by_all" "by_all" qk f fd)(B:Bl mg)(g:oh P w K mg base)(c:jF P w K mg base):a_ P w K mg base dA 4 f fd bh (dQ ⟨K,mg⟩ 4 qc):=by
 have e:=t8.nd
 refine aY F t8 λb A a s H E d=> ?_
 delta vJ
 ac_rfl
def qe:aD ["world","scene","hand","row","told"] bh (ay nW):=fB
def zM(F:dZ K "by_tell" "by_tell" nW f fd)(B:Bl mg)(c:fe P w K mg base)(e:gY P w K mg base)(d:c_ P w K mg base):a_ P w K mg base dA 10 f fd bh (dQ ⟨K,mg⟩ 4 mN):=by
 have h:=qe.nd
 refine aY F qe λb A a s H E g=> ?_
 delta qt
 ac_rfl
def vQ:aD yH yH (ay j6):=fB
def va(F:dZ K "with_pass" "with_pass" j6 f fd)(B:Bl mg)(c:fP P w K mg base):a_ P w K mg base dA 2 f fd yH (dQ ⟨K,mg⟩ 3 dU):=by
 refine aY F vQ λb A a s H E d=> ?_
 delta lB
 ac_rfl
def yk:aD ["world","scene","hand","name","place","value","row"] BK (ay u3):=fB
def Dy(F:dZ K "taken" "taken" u3 f fd)(B:Bl mg)(c:gN P w K mg base)(d:oO P w K mg base):a_ P w K mg base dA 3 f fd BK (dQ ⟨K,mg⟩ 4 rN):=by
 have g:=yk.nd
 refine aY F yk λb A a s H E e=> ?_
 delta zN
 ac_rfl
def y8:aD bh bh (ay nF):=fB
def y0(F:dZ K "by_take" "by_take" nF f fd)(B:Bl mg)(d:AR P w K mg base):a_ P w K mg base dA 4 f fd bh (dQ ⟨K,mg⟩ 4 mi):=by
 refine aY F y8 λb A a s H E c=> ?_
 delta qO
 ac_rfl
def kU:aD ["world","scene","name","place","value","row"] AE (ay jd):=fB
def sZ(F:dZ K "given_back" "given_back" jd f fd)(B:Bl mg)(d:gN P w K mg base)(e:oO P w K mg base){c:Tok}(h:mg "HIGHEST"=some (.int (9) c)):a_ P w K mg base dA 3 f fd AE (dQ ⟨K,mg⟩ 3 fG):=by
 have i:=kU.nd
 refine aY F kU λb A a s H E g=> ?_
 delta jP
 ac_rfl
def y1:aD bh bh (ay oH):=fB
def zf(F:dZ K "by_give" "by_give" oH f fd)(B:Bl mg)(c:m8 P w K mg base):a_ P w K mg base dA 4 f fd bh (dQ ⟨K,mg⟩ 4 mQ):=by
 refine aY F y1 λb A a s H E d=> ?_
 delta qX
 ac_rfl
def y9:aD bh bh (ay nN):=fB
def zZ(F:dZ K "by_pass" "by_pass" nN f fd)(B:Bl mg)(e:AR P w K mg base)(c:m8 P w K mg base):a_ P w K mg base dA 4 f fd bh (dQ ⟨K,mg⟩ 4 mO):=by
 refine aY F y9 λb A a s H E d=> ?_
 delta qv
 ac_rfl
def CL:aD bh bh (ay rG):=fB
def CJ(F:dZ K "by_say" "by_say" rG f fd)(B:Bl mg):a_ P w K mg base dA 1 f fd bh (dQ ⟨K,mg⟩ 4 pX):=by
 refine aY F CL λb A a s H E c=> ?_
 delta vd
 ac_rfl
def oQ:aD ["world","scene","hand","row","deed"] bh (ay lR):=fB
def xS(F:dZ K "row_done" "row_done" lR f fd)(B:Bl mg)(g:∀x F,qL.lookup x=some F->eZ P w K mg base 10 x bh F)(d:A2 P w K mg "DONE_BY" kA):a_ P w K mg base dA 11 f fd bh (dQ ⟨K,mg⟩ 4 iU):=by
 have c:=oQ.nd
 refine aY F oQ λe A a s H E b=> ?_
 exact(hX (CS 4 c (Gv d rfl (IV (v_ 3) ui) (λ_ _=>rfl)))
  (ya (Ik (GA g (b.mono (by decide)) rfl (by first|exact Or.inl rfl|exact Or.inr (Or.inl rfl)) (cY (v_ 0) (cY (v_ 1) (cY (v_ 2) (cY (v_ 3) kW)))) (ko (ko (ko (ko Ae))))))))
def ph:aD ["world","scene","hand","values","frames","room","deed","row","given","told","outside","came_by"] jv (ay lG):=fB
def xu(F:dZ K "end_deed" "end_deed" lG f fd)(B:Bl mg)(c:gW P w K mg base)(i:AL P w K mg base)(d:i9 P w K mg base)(h:o7 P w K mg base):a_ P w K mg base dA 4 f fd jv (dQ ⟨K,mg⟩ 3 iL):=by
 have g:=ph.nd
 refine aY F ph λb A a s H E e=> ?_
 delta nH
 ac_rfl
def sH:aD ["world","scene","hand","frame","room","program","row","event"] jv (ay oK):=fB
def Ac(F:dZ K "step_of" "step_of" oK f fd)(B:Bl mg)(h:c_ P w K mg base)(l:uh P w K mg base)(i:i9 P w K mg base)(e:zR P w K mg base)(m:fe P w K mg base)(k:yZ P w K mg base)(n:sh P w K mg base){b:Tok}(g:mg "OWN"=some (.int (-1) b)):a_ P w K mg base dA 12 f fd jv (dQ ⟨K,mg⟩ 3 jW):=by
 have d:=sH.nd
 refine aY F sH λc A a s H E j=> ?_
 delta j8
 ac_rfl
end
section
variable{P:Program}{w:World}{K:PySem.W.Frag}{mg:Str->Option Value}{base:Heap}{f:Addr}{fd:FuncData}
def rX:aD ["world","start","most","seen","found","at","scene","hand","reached","event"] Bn (ay oA):=fB
def zP(F:dZ K "come_to" "come_to" oA f fd)(B:Bl mg)(d:sL P w K mg base)(e:uG P w K mg base):a_ P w K mg base dA 13 f fd Bn (dQ ⟨K,mg⟩ 3 ni):=by
 have a:=rX.nd
 refine II F rX λg A c s H E b=> ?_
 exact(hX (CS 3 a (Ko rfl B.set))
  (hX (z9 (D1 b (v_ 3) (v_ 1)))
  (hX (CS 4 a (KZ (LD (cY (HR (cY (v_ 1) (cY (Ic ui) (cY (Ic ui) kW)))) kW))))
  (hX (CS 5 a ui)
  (hX (Gr 500 PassesOwn.never (PW.pt (w_and (DW LK LL (v_ 5) (AW rfl B.len (Nd (v_ 4))) (zG _)) (IM (DW Ii HE (AW rfl B.len (Nd (v_ 4))) (v_ 2) (zG _))))) (hX (CS 6 a (IV (IV (v_ 4) (v_ 5)) ui))
  (hX (Mg PassesOwn.never rfl (KO (OT (L8 d b (cY (v_ 0) (cY (v_ 6) kW))))) (JP 7 a) (hX (LO (LN e b (cY (v_ 0) (cY (v_ 6) (cY (v_ 7) kW)))) (Lf rfl (AF (JP 8 a) (AF (JP 9 a) Jk))))
  (ya (NB (Lp b (v_ 8) (v_ 3)) (hX (z9 (D1 b (v_ 3) (v_ 8)))
  (ya (z9 (E7 (v_ 4) (HR (cY (v_ 8) (cY (v_ 5) (cY (v_ 7) kW)))))))) KR))))
  (ya (NO 5 a ui)))))
  (ya (Ik (Me (DW Ii HE (AW rfl B.len (Nd (v_ 4))) (v_ 2) (zG _)) (v_ 4) K3))))))))
def Bw:aD ["world","scene","most","found","left","later","origin","stepper","held_up"] Ax (ay Ag):=fB
def Gh(F:dZ K "lost" "lost" Ag f fd)(B:Bl mg)(c:BU P w K mg base)(d:jq P w K mg base):a_ P w K mg base dA 14 f fd Ax (dQ ⟨K,mg⟩ 3 xn):=by
 have g:=Bw.nd
 refine aY F Bw λb A a s H E e=> ?_
 delta DQ
 ac_rfl
 refine BD (n:=4) (N:= ["hand","held_up"]) (js:= [none,some 8]) (aS.gen rfl rfl rfl rfl rfl rfl) rfl ?_ (λ_ _ _ _=> ?_) (λ_ _ _ _=> ?_) (λ_ _ _ _=> ?_) ?_
 ac_rfl
def ve:aD yx yx (ay jH):=fB
def v5(F:dZ K "values_of" "values_of" jH f fd)(B:Bl mg):a_ P w K mg base dA 1 f fd yx (dQ ⟨K,mg⟩ 1 fq):=by
 refine aY F ve λb A a s H E c=> ?_
 delta lP
 ac_rfl
 refine fA (N:= ["word","value"]) (js:= [none,none]) (aS.gen rfl rfl rfl rfl rfl rfl) rfl ?_ (λ_ _ _ _=> ?_) (λ_ _ _ _=> ?_) (λ_ _ _ _=> ?_)
 ac_rfl
def kN:aD ["room","name","manner","things","bells","deeds"] xi (ay jf):=fB
def tH(F:dZ K "begun_room" "begun_room" jf f fd)(B:Bl mg)(d:pd P w K mg base){c:Tok}(h:mg "NOBODY"=some (.int (-1) c)):a_ P w K mg base dA 2 f fd xi (dQ ⟨K,mg⟩ 1 gR):=by
 have g:=kN.nd
 refine aY F kN λb A a s H E e=> ?_
 delta ke
 ac_rfl
 refine fA (N:= ["bell"]) (js:= [none]) (aS.gen rfl rfl rfl rfl rfl rfl) rfl ?_ (λ_ _ _ _=> ?_) (λ_ _ _ _=> ?_) (λ_ _ _ _=> ?_)
 ac_rfl
def x8:aD ["world","rooms","passes","shared","hands","own"] Aj (ay wc):=fB
def D2(F:dZ K "begun" "begun" wc f fd)(B:Bl mg)(g:pd P w K mg base)(e:wu P w K mg base){b:Tok}(d:mg "OWN"=some (.int (-1) b)):a_ P w K mg base dA 3 f fd Aj (dQ ⟨K,mg⟩ 1 vk):=by
 have i:=x8.nd
 refine aY F x8 λc A a s H E h=> ?_
 delta Aa
 ac_rfl
 refine fA (N:=xi) (js:= [none]) (aS.gen rfl rfl rfl rfl rfl rfl) rfl ?_ (λ_ _ _ _=> ?_) (λ_ _ _ _=> ?_) (λ_ _ _ _=> ?_)
 ac_rfl
 refine fA (N:= ["name","value"]) (js:= [none,none]) (aS.gen rfl rfl rfl rfl rfl rfl) rfl ?_ (λ_ _ _ _=> ?_) (λ_ _ _ _=> ?_) (λ_ _ _ _=> ?_)
 ac_rfl
 refine fA (N:= ["things","program","own"]) (js:= [none,none,some 5]) (aS.gen rfl rfl rfl rfl rfl rfl) rfl ?_ (λ_ _ _ _=> ?_) (λ_ _ _ _=> ?_) (λ_ _ _ _=> ?_)
 ac_rfl
def t5:aD ["world","weaving","scene","events","place","hand","event"] BH (ay qS):=fB
def CN(F:dZ K "walked" "walked" qS f fd)(B:Bl mg)(h:Hm P w K mg base)(c:sL P w K mg base)(g:uG P w K mg base):a_ P w K mg base dA 13 f fd BH (dQ ⟨K,mg⟩ 2 pU):=by
 have e:=t5.nd
 refine aY F t5 λb A a s H E d=> ?_
 delta vP
 ac_rfl
def kR:aD ["_law_world","_law_rows","_law_weaving","_law_due"] Bs (ay jb):=fB
def sY(F:dZ K "_law_asked" "_law_asked" jb f fd)(B:Bl mg)(e:yJ P w K mg base)(c:J8 P w K mg base)(h:DX P w K mg base):a_ P w K mg base dA 15 f fd Bs (dQ ⟨K,mg⟩ 2 bH):=by
 have g:=kR.nd
 refine aY F kR λb A a s H E d=> ?_
 delta jI
 ac_rfl
def gA:aD ["_law_left","_law_words_here","_law_gives","_law_p","_law_q","_law_hands","_law_world","_law_rows"] pT (ay eQ):=fB
def lI(F:dZ K "_law_pass_right" "_law_pass_right" eQ f fd)(B:Bl mg)(e:gX P w K mg base)(g:jh P w K mg base):a_ P w K mg base dA 16 f fd pT (dQ ⟨K,mg⟩ 2 dE):=by
 have b:=gA.nd
 refine aY F gA λc A a s H E d=> ?_
 delta fc
 ac_rfl
 refine HH (EV (i:=3) (j:=4) rfl b rfl rfl (by decide) rfl rfl ?_ rfl)
 ac_rfl
end
section
variable{P:Program}{w:World}{K:PySem.W.Frag}{mg:Str->Option Value}{base:Heap}{f:Addr}{fd:FuncData}
def gC:aD ["_law_left","_law_words_here","_law_manner","_law_calls","_law_deeds","_law_room","_law_hands","_law_world","_law_rows"] pT (ay eL):=fB
def lV(F:dZ K "_law_bell_right" "_law_bell_right" eL f fd)(B:Bl mg)(d:gX P w K mg base)(g:jh P w K mg base):a_ P w K mg base dA 16 f fd pT (dQ ⟨K,mg⟩ 2 dC):=by
 have e:=gC.nd
 refine aY F gC λb A a s H E c=> ?_
 delta fj
 ac_rfl
def eN:aD ["_law_left","_law_words_here","_law_deeds","_law_room","_law_hands","_law_rows"] pT (ay dh):=fB
def ji(F:dZ K "_law_own_room_right" "_law_own_room_right" dh f fd)(B:Bl mg)(d:gX P w K mg base)(g:jh P w K mg base):a_ P w K mg base dA 16 f fd pT (dQ ⟨K,mg⟩ 2 cI):=by
 have e:=eN.nd
 refine aY F eN λb A a s H E c=> ?_
 delta dw
 ac_rfl
def Eh:aD ["_law_script","_law_k","_law_left","_law_words_here"] Fb (ay mP):=fB
def Io(F:dZ K "law" "law" mP f fd)(B:Bl mg)(e:yX P w K mg base)(h:wF P w K mg base)(j:ml P w K mg base)(i:jA P w K mg base)(d:mE P w K mg base):a_ P w K mg base dA 17 f fd Fb (dQ ⟨K,mg⟩ 1 Gc):=by
 have g:=Eh.nd
 refine aY F Eh λb A a s H E c=> ?_
 delta J3
 ac_rfl
end
def all_mk{l:PySem.W.OpenLaw}{w:World}{K:PySem.W.Frag}{h:Heap}{mg:Str->Option Value}{fa f1 f2 f3 f4 f5 f6 f7 f8 f9 l0 o0 g3 n2 e2 a7 g0 r1 a3 h7 Q e4 l5 n z a8 I q9 c3 n1 S a2 P J b4 o5 N i5 y a1 A b5 h8 h9 r2 q4 k7 h0 a4 q2 f0 h6 r6 n3 a:Addr}(X:K.In h)(G:h.Ns mainGlobals mg)(a6:mg "law"=some (.ref fa))
  (d1:aR K "_law_pot" lK f1)
  (d2:aR K "_law_pick" jN f2)
  (d3:aR K "_law_words" iX f3)
  (d4:aR K "_law_same" j9 f4)
  (d5:aR K "hands_at" k8 f5)
  (d6:aR K "hands_in_rows" fR f6)
  (d7:aR K "last_frame" i3 f7)
  (d8:aR K "program_of" i8 f8)
  (d9:aR K "is_behind_all" fQ f9)
  (o2:aR K "may_step" lN l0)
  (h3:aR K "names_of" lH o0)
  (a9:aR K "place_of" lU g3)
  (c2:aR K "with_part" kc n2)
  (j4:aR K "with_hand" jM e2)
  (b7:aR K "with_room" j7 a7)
  (m2:aR K "put_thing" jR g0)
  (i0:aR K "value_of_two" gJ r1)
  (k3:aR K "value_of" lL a3)
  (h1:aR K "reckoned" lu h7)
  (g1:aR K "by_put" qT Q)
  (r4:aR K "with_last_frame" eK e4)
  (r5:aR K "at_row" qf l5)
  (l1:aR K "by_unless" jZ n)
  (r0:aR K "by_go" uS z)
  (g4:aR K "come_in" nL a8)
  (c1:aR K "by_do" uX I)
  (l3:aR K "bell_of" oo q9)
  (q8:aR K "with_line" kd c3)
  (q7:aR K "leave" vH n1)
  (l7:aR K "by_wait" oN S)
  (b0:aR K "by_call" oB a2)
  (i1:aR K "by_all" qk P)
  (m0:aR K "by_tell" nW J)
  (e0:aR K "with_pass" j6 b4)
  (n6:aR K "taken" u3 o5)
  (n4:aR K "by_take" nF N)
  (k4:aR K "given_back" jd i5)
  (b3:aR K "by_give" oH y)
  (c0:aR K "by_pass" nN a1)
  (l2:aR K "by_say" rG A)
  (g2:aR K "row_done" lR b5)
  (a5:aR K "end_deed" lG h8)
  (e1:aR K "step_of" oK h9)
  (c5:aR K "come_to" oA r2)
  (n7:aR K "lost" Ag q4)
  (e8:aR K "values_of" jH k7)
  (r3:aR K "begun_room" jf h0)
  (i2:aR K "begun" wc a4)
  (k5:aR K "walked" qS q2)
  (o1:aR K "_law_asked" jb f0)
  (k2:aR K "_law_pass_right" eQ h6)
  (o3:aR K "_law_bell_right" eL r6)
  (e7:aR K "_law_own_room_right" dh n3)
  {oc kV dc pm cd ct:Value} {od an:Option Addr} {sl:Array (Option Value)} (b8:PySem.W.nsIn K mainGlobals "law"=some (some (.ref a))) (c6:K.lookup a=some ⟨oc,od,.func (PySem.W.fnOf "law" "law" (gh mP) (dN mP) (ay mP) .none kV dc pm an cd ct),sl⟩) (n5:PySem.W.codeIn K cd "law"=true) (c4:PySem.W.keepIn K (.ref a)=true)
  {iy:Tok} (Lq:PySem.W.nsIn K mainGlobals "OWN"=some (some (.int (-1) iy)))
  {iE:Tok} (CQ:PySem.W.nsIn K mainGlobals "HIGHEST"=some (some (.int (9) iE)))
  {gL:Tok} (DN:PySem.W.nsIn K mainGlobals "NOBODY"=some (some (.int (-1) gL)))
  {ud z_:Nat} {wq wj vF vE vj uU vw u5 vI vT tJ tw:Tok} (Ck:PySem.W.nsIn K mainGlobals "DONE_BY"=some (some (.ref ud))) (zY:K.lookup ud=some ⟨.type "dict",none,.dict (List.toArray [⟨PyData.keyHash w.params "put",.str "put" wq,.ref Q⟩,⟨PyData.keyHash w.params "unless",.str "unless" wj,.ref n⟩,⟨PyData.keyHash w.params "go",.str "go" vF,.ref z⟩,⟨PyData.keyHash w.params "do",.str "do" vE,.ref I⟩,⟨PyData.keyHash w.params "wait",.str "wait" vj,.ref S⟩,⟨PyData.keyHash w.params "call",.str "call" uU,.ref a2⟩,⟨PyData.keyHash w.params "all",.str "all" vw,.ref P⟩,⟨PyData.keyHash w.params "tell",.str "tell" u5,.ref J⟩,⟨PyData.keyHash w.params "take",.str "take" vI,.ref N⟩,⟨PyData.keyHash w.params "give",.str "give" vT,.ref y⟩,⟨PyData.keyHash w.params "pass",.str "pass" tJ,.ref a1⟩,⟨PyData.keyHash w.params "say",.str "say" tw,.ref A⟩]) z_,#[]⟩)
  (L0:PySem.W.nsIn K mainGlobals "len"=some none) (Ha:PySem.W.nsIn K mainGlobals "tuple"=some none) (Kl:PySem.W.nsIn K mainGlobals "list"=some none) (IR:PySem.W.nsIn K mainGlobals "dict"=some none) (Le:PySem.W.nsIn K mainGlobals "set"=some none) (LF:PySem.W.nsIn K mainGlobals "int"=some none) (Mn:PySem.W.nsIn K mainGlobals "str"=some none) (Jm:PySem.W.nsIn K mainGlobals "bool"=some none) (KL:PySem.W.nsIn K mainGlobals "all"=some none) (LM:PySem.W.nsIn K mainGlobals "any"=some none) (F1:PySem.W.nsIn K mainGlobals "range"=some none) (LI:PySem.W.nsIn K mainGlobals "zip"=some none) (DT:PySem.W.nsIn K mainGlobals "sorted"=some none) (uP:PySem.W.nsIn K mainGlobals "isinstance"=some none) (K0:PySem.W.nsIn K mainGlobals "min"=some none) (Lr:PySem.W.nsIn K mainGlobals "max"=some none) (LC:PySem.W.nsIn K mainGlobals "abs"=some none) (xI:PySem.W.nsIn K mainGlobals "enumerate"=some none) (zC:PySem.W.nsIn K mainGlobals "reversed"=some none)
  (T:∀ns:List Int,ns.length<=63->∃S',Gc [.ref 0] [.frz (ns.map D.int)]=some (.d (.bl true),S')):
  ∃fd:FuncData,(∀(s:Shared) (v:Value),BindsTo s fd ⟨[v],[]⟩ [("_law_script",v)])/\∀base:Heap,K.In base->base.Ns mainGlobals mg->a_ l.prog w K mg base dA 17 fa fd Fb xV:=by
 have e:=a6.symm.trans (PySem.W.mg_of X G b8)
 cases e
 have k6:=zt (st:=mP) c6 n5 c4
 have O1:=d1.ok1 (ps:=Bf) X G
 have O2:=d2.ok1 (ps:=yp) X G
 have O3:=d3.ok1 (ps:=yp) X G
 have O4:=d4.ok1 (ps:=Af) X G
 have O5:=d5.ok1 (ps:=wR) X G
 have O6:=d6.ok1 (ps:=An) X G
 have O7:=d7.ok1 (ps:=yb) X G
 have O8:=d8.ok1 (ps:=Bq) X G
 have O9:=d9.ok1 (ps:=jv) X G
 have n0:=o2.ok1 (ps:=A6) X G
 have h5:=h3.ok1 (ps:=xN) X G
 have q3:=a9.ok1 (ps:=yy) X G
 have h4:=c2.ok1 (ps:=xx) X G
 have n8:=j4.ok1 (ps:=w9) X G
 have e5:=b7.ok1 (ps:=yg) X G
 have b1:=m2.ok1 (ps:=BB) X G
 have e3:=i0.ok1 (ps:=yG) X G
 have b6:=k3.ok1 (ps:=uu) X G
 have b2:=h1.ok1 (ps:=AC) X G
 have R:=g1.ok1 (ps:=bh) X G
 have p1:=r4.ok1 (ps:=AD) X G
 have e9:=r5.ok1 (ps:=Bj) X G
 have u:=l1.ok1 (ps:=bh) X G
 have i:=r0.ok1 (ps:=bh) X G
 have b9:=g4.ok1 (ps:=AG) X G
 have a0:=c1.ok1 (ps:=bh) X G
 have l4:=l3.ok1 (ps:=Az) X G
 have e6:=q8.ok1 (ps:=AO) X G
 have q1:=q7.ok1 (ps:=A_) X G
 have C:=l7.ok1 (ps:=bh) X G
 have M:=b0.ok1 (ps:=bh) X G
 have r:=i1.ok1 (ps:=bh) X G
 have j:=m0.ok1 (ps:=bh) X G
 have j5:=e0.ok1 (ps:=yH) X G
 have g5:=n6.ok1 (ps:=BK) X G
 have t:=n4.ok1 (ps:=bh) X G
 have n9:=k4.ok1 (ps:=AE) X G
 have U:=b3.ok1 (ps:=bh) X G
 have Y:=c0.ok1 (ps:=bh) X G
 have q:=l2.ok1 (ps:=bh) X G
 have l6:=g2.ok1 (ps:=bh) X G
 have m1:=a5.ok1 (ps:=jv) X G
 have o4:=e1.ok1 (ps:=jv) X G
 have h2:=c5.ok1 (ps:=Bn) X G
 have s1:=n7.ok1 (ps:=Ax) X G
 have s0:=e8.ok1 (ps:=yx) X G
 have p2:=r3.ok1 (ps:=xi) X G
 have p4:=i2.ok1 (ps:=Aj) X G
 have p3:=k5.ok1 (ps:=BH) X G
 have r7:=o1.ok1 (ps:=Bs) X G
 have j1:=k2.ok1 (ps:=pT) X G
 have k1:=o3.ok1 (ps:=pT) X G
 have q6:=e7.ok1 (ps:=pT) X G
 have f:=PySem.W.mg_of X G Lq
 have kq:=PySem.W.mg_of X G CQ
 have il:=PySem.W.mg_of X G DN
 have nB:A2 l.prog w K mg "DONE_BY" kA:=EJ (PySem.W.mg_of X G Ck) zY (.cons R.m (.cons u.m (.cons i.m (.cons a0.m (.cons C.m (.cons M.m (.cons r.m (.cons j.m (.cons t.m (.cons U.m (.cons Y.m (.cons q.m .nil)))))))))))) (by decide +kernel)
 have B:Bl mg:=⟨QFq X G L0,QFq X G Ha,QFq X G Kl,QFq X G IR,QFq X G Le,QFq X G LF,QFq X G Mn,QFq X G Jm,QFq X G KL,QFq X G LM,QFq X G F1,QFq X G LI,QFq X G DT,QFq X G uP,QFq X G K0,QFq X G Lr,QFq X G LC,QFq X G xI,QFq X G zC⟩
 refine⟨PySem.W.fnOf "law" "law" (gh mP) (dN mP) (ay mP) .none kV dc pm an cd ct,λs v=>.of_eq rfl,λbase _ _=> ?_⟩
 have Z:Pk l.prog w base:=⟨⟩
 have qj:=O1.cal Z λ_ F _ _ _=>xX F B
 have c9:=O2.cal Z λ_ F _ _ _=>wG F B
 have m7:=O3.cal Z λ_ F _ _ _=>tM F B c9
 have jV:=O4.cal Z λ_ F b k m=>mf F B b k m 10
 have rZ:=O5.cal Z λ_ F _ _ _=>ye F B
 have dP:=O6.cal Z λ_ F _ _ _=>oD F B rZ
 have c:=O7.cal Z λ_ F _ _ _=>tf F B
 have dD:=O8.cal Z λ_ F _ _ _=>tq F B f
 have jo:=O9.cal Z λ_ F _ _ _=>oy F B c dD f
 have gG:=n0.cal Z λ_ F _ _ _=>yd F B dP jo
 have fm:=h5.cal Z λ_ F _ _ _=>xG F B
 have cN:=q3.cal Z λ_ F _ _ _=>yF F B fm
 have o:=h4.cal Z λ_ F _ _ _=>vp F B
 have c7:=n8.cal Z λ_ F _ _ _=>uT F B o
 have H:=e5.cal Z λ_ F _ _ _=>vR F B o
 have g_:=b1.cal Z λ_ F _ _ _=>vU F B c cN o H fm c7 f
 have gB:=e3.cal Z λ_ F _ _ _=>pL F B kq
 have lW:=b6.cal Z λ_ F b k m=>pz F B gB b k m 6
 have g:=b2.cal Z λ_ F _ _ _=>yw F B c fm lW f
 have Fd:=R.cal Z λ_ F _ _ _=>Ci F B g_ g
 have dq:=p1.cal Z λ_ F _ _ _=>lS F B c7
 have iT:=e9.cal Z λ_ F _ _ _=>CH F B c dq
 have yt:=u.cal Z λ_ F _ _ _=>uL F B g iT
 have Gb:=i.cal Z λ_ F _ _ _=>Fs F B iT
 have kh:=b9.cal Z λ_ F _ _ _=>yU F B H il
 have FS:=a0.cal Z λ_ F _ _ _=>Ei F B cN g kh c7
 have gu:=l4.cal Z λ_ F _ _ _=>zu F B c cN
 have eg:=e6.cal Z λ_ F _ _ _=>uY F B H o
 have pZ:=q1.cal Z λ_ F _ _ _=>D9 F B H il
 have CG:=C.cal Z λ_ F _ _ _=>zm F B gu g eg pZ
 have BS:=M.cal Z λ_ F _ _ _=>zS F B gu eg H
 have DM:=r.cal Z λ_ F _ _ _=>Co F B gu eg
 have CO:=j.cal Z λ_ F _ _ _=>zM F B g dq c
 have hJ:=j5.cal Z λ_ F _ _ _=>va F B o
 have pW:=g5.cal Z λ_ F _ _ _=>Dy F B cN hJ
 have Cw:=t.cal Z λ_ F _ _ _=>y0 F B pW
 have gf:=n9.cal Z λ_ F _ _ _=>sZ F B cN hJ kq
 have CU:=U.cal Z λ_ F _ _ _=>zf F B gf
 have CZ:=Y.cal Z λ_ F _ _ _=>zZ F B pW gf
 have EF:=q.cal Z λ_ F _ _ _=>CJ F B
 have rA:∀x F,qL.lookup x=some F->eZ l.prog w K mg base 10 x bh F:=by
  refine Fj λp hp=> ?_
  simp only[qL,Qsq,QXq,or_false] at hp
  rcases hp with rfl|rfl|rfl|rfl|rfl|rfl|rfl|rfl|rfl|rfl|rfl|rfl
  ·exact Fd.mono (by decide)
  ·exact yt.mono (by decide)
  ·exact Gb.mono (by decide)
  ·exact FS.mono (by decide)
  ·exact CG.mono (by decide)
  ·exact BS.mono (by decide)
  ·exact DM.mono (by decide)
  ·exact CO.mono (by decide)
  ·exact Cw.mono (by decide)
  ·exact CU.mono (by decide)
  ·exact CZ.mono (by decide)
  ·exact EF.mono (by decide)
 have qx:=l6.cal Z λ_ F _ _ _=>xS F B rA nB
 have rV:=m1.cal Z λ_ F _ _ _=>xu F B c7 pZ dD g_
 have iH:=o4.cal Z λ_ F _ _ _=>Ac F B c kh dD rV g qx iT f
 have ug:=h2.cal Z λ_ F _ _ _=>zP F B gG iH
 have Dl:=s1.cal Z λ_ F _ _ _=>Gh F B ug dP
 have g9:=s0.cal Z λ_ F _ _ _=>v5 F B
 have mD:=p2.cal Z λ_ F _ _ _=>tH F B g9 il
 have Aq:=p4.cal Z λ_ F _ _ _=>D2 F B g9 mD f
 have w5:=p3.cal Z λ_ F _ _ _=>CN F B Aq gG iH
 have dB:=r7.cal Z λ_ F _ _ _=>sY F B jV Dl w5
 have g7:=j1.cal Z λ_ F _ _ _=>lI F B c9 dB
 have gS:=k1.cal Z λ_ F _ _ _=>lV F B c9 dB
 have eY:=q6.cal Z λ_ F _ _ _=>ji F B c9 dB
 exact Gw (Io k6 B qj m7 gS eY g7) T
end W28
namespace DL
open PySem PySem.Spec L2
def wa{a:cv}{S:aA}{Q:Bool->aA->Prop}(q:Q true S):E eX a S Q:=⟨_,_,rfl,q⟩
section
variable{S:aA}
def L4{i j:Int}{Q:D->Prop}(q:Q (.int (i+j))):Op (cu S (.int i) (.int j)) Q:=⟨_,rfl,q⟩
def IQ{i j:Str}{Q:D->Prop}(h:i.length+j.length<=sizeLine)(q:Q (.str (i++j))):Op (cu S (.str i) (.str j)) Q:=⟨_,by simp only[cu];rw[Qhq h],q⟩
def di{i j:List D}{Q:D->Prop}(h:i.length+j.length<=sizeLine)(q:Q (.tup (i++j))):Op (cu S (.tup i) (.tup j)) Q:=⟨_,by simp only[cu];rw[Qhq h],q⟩
def y4{k:Int->Int->D}{i j:Int}{Q:D->Prop}(q:Q (k i j)):Op (intD (λ_ _=>True) k S (.int i) (.int j)) Q:=⟨_,by simp only[intD,if_true],q⟩
def me{i j:Int}{Q:D->Prop}(h:0<j)(q:Q (.int (i%j))):Op (pG S (.int i) (.int j)) Q:=⟨_,by simp only[pG,intD];rw[Qhq h],q⟩
def DR{i j:Int}{Q:D->Prop}(h:EB i j)(q:Q (.int (i/j))):Op (xU S (.int i) (.int j)) Q:=⟨_,by simp only[xU,intD];rw[Qhq h],q⟩
def pk{i j:Int}{Q:D->Prop}(h:Gz i j)(q:Q (.int (i*j))):Op (rR S (.int i) (.int j)) Q:=⟨_,by simp only[rR,intD];rw[Qhq h.ok],q⟩
def aw{ds:List D}{i:Int}{d:D}{Q:D->Prop}(h:mY ds i=some d)(q:Q d):Op (sA S (.tup ds) (.int i)) Q:=⟨_,h,q⟩
def bR{k:Nat}{ds:List D}{i:Int}{d:D}{Q:D->Prop}(a:S[k]?=some (.lst ds))(h:mY ds i=some d)(q:Q d):Op (sA S (.ref k) (.int i)) Q:=⟨_,by simp only[sA,a];exact h,q⟩
def e_{ds:List D}{Q:List D×Tag->Prop}(q:Q (ds,.tu)):Op (rJ S (.tup ds)) Q:=⟨_,rfl,q⟩
def fw{k:Nat}{ds:List D}{Q:List D×Tag->Prop}(a:S[k]?=some (.lst ds))(q:Q (ds,.st k)):Op (rJ S (.ref k)) Q:=⟨_,by simp only[rJ,a],q⟩
end
def bf{b:Bool}{p q:Prop}(c:b=true->p)(a:b=false->q):if b=true then p else q:=by
 cases b with
 |true=>exact c rfl
 |false=>exact a rfl
end DL
local macro_rules|`(tactic|symm)=>do
 let mut a:Array (Lean.TSyntax `Lean.Parser.Tactic.tacticSeq):= #[]
 for s in (["aP","eC","jn","Nq","fV","Ml","xP","cB","t_auS","jy","sW","aZ","eJ","E8","Bg","xp","O0","jT","JK","uC","Il","C1","e_neNil","gK","vz","dI","uz","vX","Ey","HK","KG","wa","aQ","OS","HV","tP","L4","y4","e_"]:List String) do a:=a.push (←`(tacticSeq|refine $(Lean.mkIdent (.str (.str .anonymous "DL") s)) ?_))
 `(tactic|repeat(first|(with_reducible first $[| $a]*)|((with_reducible refine DL.aL (d := ?_) ?_ ?_); rotate_left; rfl)|dsimp only))
local macro_rules|`(tactic|apply $e)=>`(tactic|(refine $e;symm))
namespace W28
open PySem PySem.Spec L2 DL
def m6(a b c:Int):O:=.lst [.int a,.int b,.int c]
def B6{S:aA}{k:Nat}{a b l m:Int}{Q:Res->aA->Prop}(e:S[k]?=some (m6 a b l))(f:0<m)(v:m<1000000)
  (h:∀(d q t s:Int),0<=d->d<m->Q (.d (.int d)) (S.set k (m6 q t s))):Fn bT [.ref k,.int m] S Q:=by
 have r:k<S.length:=(gQs.mp e).1
 have n:∀(o:O),(S.set k o).take S.length=S.set k o:=λo=>by rw[List.take_of_length_le];simp
 refine bF ?_
 unfold lX
 symm
 refine bR e rfl ?_
 symm
 refine bf (λc=> ?_) (λc=> ?_)
 ·symm
  refine bR e rfl ?_
  symm
  refine me f ?_
  symm
  refine bR e rfl ?_
  symm
  refine DR ⟨f,by omega⟩ ?_
  symm
  refine⟨_,_,_,_,rfl,rfl,e,rfl,?_⟩
  symm
  refine gw (uv (by rfl)) (n _) (λ_ z=>by cases z) rfl ?_
  exact h _ _ _ _ (Int.emod_nonneg _ (by omega)) (Int.emod_lt_of_pos _ f)
 ·refine cB ?_
  symm
  refine bR e (d:=.int l) rfl ?_
  symm
  refine⟨_,_,_,_,rfl,rfl,e,rfl,?_⟩
  have i:∀o:O,(S.set k o)[k]?=some o:=λo=>by rw[Qyq r]
  symm
  refine bR (i _) (d:=.int b) rfl ?_
  symm
  refine pk (.inr ⟨by decide,by decide⟩) ?_
  symm
  refine bR (i _) (d:=.int (l+1)) rfl ?_
  refine pk (.inl ⟨by decide,by decide⟩) ?_
  symm
  refine me (by decide) ?_
  generalize g:(b*69621+7919*_+1)%2147483629=mx
  have u:0<=mx:=by rw[←g];exact Int.emod_nonneg _ (by decide)
  have w:mx<2147483629:=by rw[←g];exact Int.emod_lt_of_pos _ (by decide)
  symm
  refine⟨_,_,_,_,rfl,rfl,i _,rfl,?_⟩
  have p:∀o j:O,((S.set k o).set k j)[k]?=some j:=λo j=>by rw[List.set_set];exact i _
  symm
  refine bR (p _ _) (d:=.int mx) rfl ?_
  symm
  refine bR (p _ _) (d:=.int mx) rfl ?_
  symm
  refine me (by decide) ?_
  symm
  refine pk (.inl ⟨by omega,by omega⟩) ?_
  symm
  refine me (by decide) ?_
  symm
  refine DR ⟨by decide,by decide⟩ ?_
  symm
  refine me f ?_
  symm
  rw[List.set_set]
  refine gw (uv (by rfl)) (n _) (λ_ z=>by cases z) rfl ?_
  exact h _ _ _ _ (Int.emod_nonneg _ (by omega)) (Int.emod_lt_of_pos _ f)
structure Ex(k:Nat)(S S':aA):Prop where
 len:S.length<=S'.length
 keep:∀(j:Nat) (o:O),j≠k->S[j]?=some o->S'[j]?=some o
 pot:∃a b c,S'[k]?=some (m6 a b c)
def Ex.refl{k:Nat}{S:aA}{a b c:Int}(h:S[k]?=some (m6 a b c)):Ex k S S:=⟨Qmq _,λ_ _ _ h=>h,_,_,_,h⟩
def Ex.trans{k:Nat}{S a S2:aA}(x:Ex k S a)(y:Ex k a S2):Ex k S S2:=⟨QAq x.len y.len,λj o n h=>y.keep j o n (x.keep j o n h),y.pot⟩
def Ex.set{k:Nat}{S d:aA}{a b c:Int}(x:Ex k S d):Ex k S (d.set k (m6 a b c)):=by
 obtain⟨_,_,_,h⟩:=x.pot
 refine⟨by simpa using x.len,λj o n h=> ?_,a,b,c,Qyq (gQs.mp h).1⟩
 rw[QKq (Ne.symm n)]
 exact x.keep j o n h
def Ex.app{k:Nat}{S d G:aA}(x:Ex k S d):Ex k S (d++G):=by
 obtain⟨a,b,c,h⟩:=x.pot
 refine⟨by rw[lQa];have:=x.len;omega,λj o n h=> ?_,a,b,c,?_⟩
 ·have:=x.keep j o n h
  rw[QHq (gQs.mp this).1]
  exact this
 ·rw[QHq (gQs.mp h).1]
  exact h
def Ex.put{k r:Nat}{S d:aA}{o:O}(x:Ex k S d)(g:S.length<=r)(f:k<S.length):Ex k S (d.set r o):=by
 obtain⟨a,b,c,h⟩:=x.pot
 refine⟨by simpa using x.len,λj e n h=> ?_,a,b,c,?_⟩
 ·have i:=(gQs.mp h).1
  rw[QKq (by omega)]
  exact x.keep j e n h
 ·rw[QKq (by omega)]
  exact h
def Ex.lt{k:Nat}{S d:aA}(x:Ex k S d):k<d.length:=by
 obtain⟨a,b,c,h⟩:=x.pot
 exact(gQs.mp h).1
def bE{S G:aA}{j:Nat}{o:O}(h:S[j]?=some o):(S++G)[j]?=some o:=by
 rw[QHq (gQs.mp h).1]
 exact h
def aI{S:aA}{o:O}:(S++ [o])[S.length]?=some o:=by simp
def Dm{S:aA}{k j:Nat}{o o':O}(n:j≠k)(h:S[j]?=some o):(S.set k o')[j]?=some o:=by
 rw[QKq (Ne.symm n)]
 exact h
def eO{S:aA}{j:Nat}{o o':O}(h:S[j]?=some o):(S.set j o')[j]?=some o':=Qyq (gQs.mp h).1
def Ex.clean{k:Nat}{S f:aA}(x:Ex k S f)(l:k<S.length):mG S f/\∃a b c,f.take S.length=S.set k (m6 a b c):=by
 obtain⟨a,b,c,h⟩:=x.pot
 have g:∀j,j<S.length->f[j]?=(S.set k (m6 a b c))[j]? :=λj d=>by
  by_cases e:j=k
  ·subst e
   rw[h,Qyq d]
  ·rw[QKq (Ne.symm e),x.keep j _ e (gQe d),gQe d]
 refine⟨⟨x.len,λj o d e=> ?_⟩,a,b,c,?_⟩
 ·by_cases i:j=k
  ·subst i
   rw[h] at e
   cases e
   exact .inr rfl
  ·rw[x.keep j _ i (gQe d)] at e
   rw[gQe d]
   exact .inl e
 ·apply List.ext_getElem?
  intro j
  by_cases d:j<S.length
  ·rw[List.getElem?_take_of_lt d]
   exact g j d
  ·rw[List.getElem?_eq_none (by rw[Qxq];omega),List.getElem?_eq_none (by simp;omega)]
def DE{k:Nat}{S e:aA}{d:D}{Q:Res->aA->Prop}(x:Ex k S e)(f:k<S.length)(hd:∀k,d≠.ref k)(hl:cz S.length d=true)(q:∀a b c,Q (.d d) (S.set k (m6 a b c))):Op (settle S d e) λp=>Q p.1 p.2:=by
 obtain⟨h,a,b,c,g⟩:=x.clean f
 exact gw h g hd hl (q a b c)
def KY{k:Nat}{S d:aA}{ds:List D}{Q:Res->aA->Prop}(x:Ex k S d)(e:k<S.length)(hl:bD S.length ds=true)(q:∀a b c,Q (.l ds) (S.set k (m6 a b c))):Op (eI S ds d) λp=>Q p.1 p.2:=by
 obtain⟨g,a,b,c,f⟩:=x.clean e
 exact kY g f hl (q a b c)
def kB{S f:aA}{k:Nat}{m:Int}{Q:Res->aA->Prop}(x:Ex k f S)(i:0<m)(j:m<1000000)
  (h:∀(d:Nat) (e:aA),(d:Int)<m->Ex k f e->Ex k S e->e.length=S.length->Q (.d (.int d)) e):Fn bT [.ref k,.int m] S Q:=by
 obtain⟨a,b,c,g⟩:=x.pot
 refine B6 g i j λd o r q p l=> ?_
 obtain⟨n,rfl⟩:∃n:Nat,d=n:=⟨d.toNat,by omega⟩
 exact h n _ l x.set (Ex.refl g).set (by simp)
def aC{α:Type}{xs:List α}{j:Nat}{x:α}(h:xs[j]?=some x):mY xs (j:Int)=some x:=by
 have a:=(gQs.mp h).1
 unfold mY FF
 rw[Qhq (by omega),Qhq (by omega)]
 simpa using h
def Ar{o:cv}{S p:aA}{k n:Nat}{xs:List D}{f:fN}{Q:D->aA->Prop}(r:o[0]?=some (some (.ref k)))(x:Ex k p S)(z:0<n)(u:n<1000)(hl:xs.length=n)
  (t:E f o S λds j=>ds=xs/\j=S)
  (h:∀(d:D) (e:aA),d∈xs->Ex k p e->Ex k S e->e.length=S.length+1->Q d e):E (bu sA (dv (cT f)) (aB bT (ar (av 0) (ar (cF (.int n)) au)))) o S Q:=by
 refine jy (xp (Bg (t.mono λds j q=> ?_)))
 obtain⟨l,i⟩:=q
 subst l i
 refine⟨nQl (bq (by omega)),?_⟩
 refine gK (aZ (aL r (aZ (sW (eJ ?_)))))
 have v:=x.lt
 refine kB (x.app (G:= [O.lst ds])) (by omega) (by omega) λd e w l i m=> ?_
 have g:d<ds.length:=by omega
 refine bR (i.keep _ _ (by omega) aI) (aC (gQe g)) ?_
 have y:Ex k j j:=by obtain⟨a,b,c,s⟩:=x.pot;exact Ex.refl s
 exact h _ _ (List.getElem_mem g) l (y.app.trans i) (by rw[m];simp)
end W28
namespace DL
open PySem PySem.Spec L2
mutual
theorem sP{m:Nat}:∀{d:D},cz 0 d=true->cz m d=true
 |.non,_=>rfl
 |.bl _,_=>rfl
 |.int _,_=>rfl
 |.str _,_=>rfl
 |.tup ds,h=>by simp only[cz] at h⊢;exact iJ h
 |.ref k,h=>by simp[cz] at h
 |.fn _,_=>rfl
theorem iJ{m:Nat}:∀{ds:List D},bD 0 ds=true->bD m ds=true
 | [],_=>rfl
 | d::ds,h=>by
   simp only[bD,QCq] at h⊢
   exact⟨sP h.1,iJ h.2⟩
end
theorem vi{m:Nat}:∀{ds:List D},(∀d∈ds,cz m d=true)->bD m ds=true
 | [],_=>rfl
 | d::ds,h=>by
   simp only[bD,QCq]
   exact⟨h d (QBq ..),vi λe a=>h e (Qpq _ a)⟩
def bB{α:Type}{m:Nat}{f:α->D}{l:List α}(h:∀a∈l,cz m (f a)=true):bD m (l.map f)=true:=vi λd b=>by
 obtain⟨a,c,rfl⟩:=Qkq.mp b
 exact h a c
theorem uj:∀a:List Str,tU (a.map D.str)=some a
 | []=>rfl
 |s::a=>by simp only[QDq,tU];rw[uj a];rfl
def Ip{c:cv}{S:aA}{f:eU}{Q:List D->aA->Prop}(h:E f c S λp b=>p.2.isL=true/\∃a:List Str,p.1=a.map D.str/\a.length<64/\Q ((oI a).map D.str) b):E (Au f) c S Q:=by
 obtain⟨p,b,e,l,a,g,d,q⟩:=h
 exact⟨_,b,by unfold Au;rw[e];simp only[Qbq];rw[Qhq l,g,uj];simp only[Qbq];rw[Qhq d],q⟩
def uQ{ds:List D}{y:D}{Q:List D×D->Prop}(h:ds.length<sizeLine)(q:Q (ds++ [y],.non)):Op (rD ds [y]) Q:=⟨_,by simp only[rD];rw[Qhq h],q⟩
def eD{b:cv}{S:aA}{n:Nat}{g:pS}{ds:List D}{Q:cv->aA->Prop}(c:ds.length=n)(h:MA g ds b S Q):Tg (jG (nG n g)) (.tup ds) b S Q:=by
 obtain⟨a,d,e,q⟩:=h
 exact⟨a,d,by show nG n g ds b S=_;unfold nG;rw[Qhq c];exact e,q⟩
def bc{a:cv}{S:aA}{Q:cv->aA->Prop}(q:Q a S):MA dF [] a S Q:=⟨_,_,rfl,q⟩
def ax{c:cv}{S:aA}{f:kM}{g:pS}{d:D}{ds:List D}{Q:cv->aA->Prop}(h:Tg f d c S λa e=>MA g ds a e Q):MA (aK f g) (d::ds) c S Q:=by
 obtain⟨a,e,j,b,k,i,q⟩:=h
 exact⟨b,k,by show(f d c S).bind _=_;rw[j];exact i,q⟩
end DL
namespace W28
open PySem PySem.Spec L2 DL
def L7{c:cv}{S:aA}{i j:Nat}{f:fN}{Q:Out->Prop}(h:E f c S λds d=>∃a b,ds= [a,b]/\Q (.nx ((c.set i (some a)).set j (some b)) d)):T (zO i j f) c S Q:=by
 obtain⟨ds,d,e,a,b,rfl,q⟩:=h
 exact⟨_,by unfold zO;rw[e];rfl,q⟩
def JV{c:cv}{S:aA}{i j:Nat}{f:fN}{Q:Out->Prop}(h:E f c S λds d=>∃a b,ds= [a,b]/\Q (.nx ((c.set i (some a)).set j (some b)) d)):T (oZ (az f) (jG (nG 2 (aK (cb i) (aK (cb j) dF))))) c S Q:=by
 refine Ml (E8 (h.mono λds d g=> ?_))
 obtain⟨a,b,e,q⟩:=g
 subst e
 exact⟨by show 2<=_;decide,eD rfl (ax (aQ (ax (aQ (bc q)))))⟩
def lets:Str:="abcdefghijklmnopqrstuvwxyz"
def let1(i:Nat):Str:=⟨#[lets.cps.toList.getD i 0]⟩
def Jr:List Str:= ["","zz","x","qqqqqqq"]
def Mt(j:Nat):Str:=Jr.getD j ""
def nm(i j:Nat):Str:=let1 i++Mt j
def wY(x:Str):Prop:=∃i j,i<26/\j<4/\x=nm i j
def E5(f s a:Nat):List Str:=(List.range a).map λk=>nm ((f+s*k)%26) ((f+k)%4)
def yq:∀i,i<26->∀j,j<4->PyData.strOk (nm i j)=true/\(nm i j).length<=8/\(let1 i).length=1:=by decide +kernel
def FP:∀i,i<26->∀a,a<26->∀j,j<4->∀b,b<4->nm i j=nm a b->i=a:=by decide +kernel
def Dd:∀f,f<26->∀s∈([1,3,5,7,9,11]:List Nat),((List.range 24).map λk=>(f+s*k)%26).Nodup:=by decide +kernel
def Fg{f s m:Nat}(g:f<26)(d:s∈([1,3,5,7,9,11]:List Nat))(e:m<=24):(E5 f s m).Nodup:=by
 have h:=Dd f g s d
 rw[List.nodup_iff_pairwise_ne,List.pairwise_map] at h
 unfold E5
 rw[List.nodup_iff_pairwise_ne,List.pairwise_map]
 have c:(List.range m).Sublist (List.range 24):=List.range_sublist.mpr e
 refine(h.sublist c).imp λ{a b} hne z=>hne ?_
 exact FP _ (Nat.mod_lt _ (by decide)) _ (Nat.mod_lt _ (by decide)) _ (Nat.mod_lt _ (by decide)) _ (Nat.mod_lt _ (by decide)) z
def JD{f s m:Nat}:∀x∈E5 f s m,wY x:=λx a=>by
 obtain⟨k,_,rfl⟩:=Qkq.mp a
 exact⟨_,_,Nat.mod_lt _ (by decide),Nat.mod_lt _ (by decide),rfl⟩
def JO:∀i:Nat,i<26->mY lets.cps.toList (i:Int)=some (lets.cps.toList.getD i 0):=by decide +kernel
def IS:∀j:Nat,j<4->mY (([.str "",.str "zz",.str "x",.str "qqqqqqq"]:List D)) (j:Int)=some (.str (Mt j)):=by
 intro j a
 rcases j with _|_|_|_|j
 ·rfl
 ·rfl
 ·rfl
 ·rfl
 ·omega
def FZ:∀j,(Mt j).length<=7:=by
 intro j
 rcases j with _|_|_|_|j
 ·decide
 ·decide
 ·decide
 ·decide
 ·show(Str.length (Jr.getD (j+4) ""))<=7
  simp[Jr]
  decide
def Lh{S:aA}{z:Str}{i:Int}{c:Nat}{Q:D->Prop}(hl:z.length<=sizeLine)(h:mY z.cps.toList i=some c)(q:Q (.str ⟨#[c]⟩)):Op (sA S (.str z) (.int i)) Q:=⟨_,by simp only[sA];rw[Qhq hl,h];rfl,q⟩
def Je{d:D}(h:d∈([.int 1,.int 3,.int 5,.int 7,.int 9,.int 11]:List D)):∃s:Nat,s∈([1,3,5,7,9,11]:List Nat)/\d=.int s:=by
 simp only[Qsq,QXq,or_false] at h
 rcases h with rfl|rfl|rfl|rfl|rfl|rfl
 ·exact⟨1,by decide,rfl⟩
 ·exact⟨3,by decide,rfl⟩
 ·exact⟨5,by decide,rfl⟩
 ·exact⟨7,by decide,rfl⟩
 ·exact⟨9,by decide,rfl⟩
 ·exact⟨11,by decide,rfl⟩
def DF{S u:aA}{k e:Nat}{Q:Res->aA->Prop}(x:Ex k u S)(C:e<=24)
  (h:∀(ws:List Str) (g:aA),ws.Nodup->ws.Pairwise tR->ws.length=e->(∀z∈ws,wY z)->Ex k u g->Ex k S g->g.length=S.length->Q (.l (ws.map D.str)) g):Fn fH [.ref k,.int e] S Q:=by
 have y:Ex k S S:=by obtain⟨a,b,c,M⟩:=x.pot;exact Ex.refl M
 have B:=x.lt
 refine bF ?_
 unfold jS
 refine aP (fV (sW ?_))
 apply aP (JV ?_)
 refine kB y (by decide) (by decide) λf X hf G K W=> ?_
 dsimp only
 refine aZ (Ar (n:=6) (xs:= [.int 1,.int 3,.int 5,.int 7,.int 9,.int 11]) rfl G (by decide) (by decide) rfl (by symm;exact⟨rfl,rfl⟩) λd Y r A P Z=> ?_)
 obtain⟨s,v,rfl⟩:=Je r
 have w:s<12:=by
  simp only[Qsq,QXq,or_false] at v
  omega
 apply eJ ⟨_,_,rfl,?_⟩
 apply rS (HV ?_)
 refine⟨(e:Int),rfl,by omega,?_⟩
 refine⟨λi m g p=>(∃o:Option D,m= [o,some (.str "abcdefghijklmnopqrstuvwxyz"),some (.int f),some (.int s)])/\Ex k S g/\p=(E5 f s i).map D.str,⟨⟨none,rfl⟩,A,rfl⟩,λ_ _ _ _ _=>trivial,?_,?_⟩
 ·rintro i d m g p r ⟨⟨o,rfl⟩,e4,rfl⟩
  have R:=(gQs.mp r).1
  simp only[pK,lQm,QVq] at R
  obtain rfl:d=.int i:=by
   simp only[pK,gQm] at r
   obtain⟨j,H,rfl⟩:=oQm.mp r
   have:=(gQs.mp H).2
   simp at this
   subst this
   simp
  apply aQ ?_
  rw[Qhq rfl]
  symm
  apply pk (.inl ⟨by omega,by omega⟩) ?_
  refine me (by decide) ?_
  have J:((f:Int)+(s:Int)*(i:Int))%26=(((f+s*i)%26:Nat):Int):=by push_cast;rfl
  rw[J]
  have q:(f+s*i)%26<26:=Nat.mod_lt _ (by decide)
  apply Lh (by decide) (JO _ q) ?_
  apply⟨by decide,?_⟩
  refine me (by decide) ?_
  have I:((f:Int)+(i:Int))%4=(((f+i)%4:Nat):Int):=by push_cast;rfl
  rw[I]
  have F:(f+i)%4<4:=Nat.mod_lt _ (by decide)
  refine bR aI (IS _ F) ?_
  refine IQ (QAq (show(let1 ((f+s*i)%26)).length+(Mt ((f+i)%4)).length<=8 by have:=(yq _ q 0 (by decide)).2.2;have:=FZ ((f+i)%4);omega) (by decide)) ?_
  refine⟨Qqq (show _<64 by simp only[E5,lQm,QVq];omega) (by decide),⟨_,rfl⟩,e4.app,?_⟩
  simp only[E5,List.range_succ,Qzq,QDq,List.map_nil]
  rfl
 ·rintro m g p ⟨-,e4,rfl⟩
  have U:(pK 0 (e:Int)).length=e:=by simp only[pK,lQm,QVq];omega
  show T _ _ (g++ [O.lst ((E5 f s (pK 0 (e:Int)).length).map D.str)]) _
  rw[U]
  symm
  apply Ip ?_
  refine fw aI ?_
  refine⟨rfl,E5 f s e,rfl,by simp only[E5,lQm,QVq];omega,?_⟩
  have t:=jJ (E5 f s e)
  refine KY e4.app B (bB λ_ _=>rfl) λa b c=> ?_
  exact h _ _ (t.symm.nodup (Fg (by omega) v C)) (hR _) (by rw[t.length_eq];simp[E5]) (λz N=>JD z (t.mem_iff.mp N)) x.set y.set (by simp)
end W28
namespace DL
open PySem PySem.Spec L2
def HJ{a:cv}{S:aA}{f g:eU}{Q:List D->aA->Prop}(h:E f a S λp b=>E g a b λr S2=>(p.2.isM=true/\r.2.isM=true/\p.2.stays S2 p.1/\p.1.length+r.1.length<=sizeLine)/\Q (p.1++r.1) S2):E (EW f g) a S Q:=by
 obtain⟨p,b,d,r,S2,c,l,q⟩:=h
 exact⟨_,S2,by unfold EW;rw[d];simp only[Qbq];rw[c];simp only[Qbq];rw[Qhq l],q⟩
def iu{S:aA}{i j:Int}{Q:D->Prop}(q:Q (.bl (decide (i=j)))):Op (iG false S (.int i) (.int j)) Q:=⟨_,by simp[iG,u0,zj],q⟩
def g8{S:aA}{i j:Str}{Q:D->Prop}(q:Q (.bl (decide (i=j)))):Op (iG false S (.str i) (.str j)) Q:=⟨_,by simp[iG,u0,zj],q⟩
section
variable{Γ:cv}{S:aA}
def m5{i j:Int}{Q:D->Prop}(q:Q (.bl (!decide (i=j)))):Op (iG true S (.int i) (.int j)) Q:=⟨_,by simp[iG,u0,zj],q⟩
end
end DL
namespace W28
open PySem PySem.Spec L2 DL
def ops:List Str:= ["plus","minus","less","same","both"]
inductive Tr where
 |num (n:Nat)|word (x:Str)|waits (b:Str)|no (t:Tr)|two (o:Str) (a b:Tr)
def Tr.d:Tr->D
 |.num n=>.int n
 |.word x=>.str x
 |.waits b=>.tup [.str "waits",.str b]
 |.no t=>.tup [.str "not",t.d]
 |.two o a b=>.tup [.str o,a.d,b.d]
def Tr.Ok(ws bs:List Str):Tr->Prop
 |.num n=>n<=9
 |.word x=>x∈ws
 |.waits b=>b∈bs
 |.no t=>t.Ok ws bs
 |.two o a b=>o∈ops/\a.Ok ws bs/\b.Ok ws bs
def Tr.dep:Tr->Nat
 |.num _=>1
 |.word _=>1
 |.waits _=>1
 |.no t=>t.dep+1
 |.two _ a b=>max a.dep b.dep+1
theorem Tr.low:∀t:Tr,cz 0 t.d=true
 |.num _=>rfl
 |.word _=>rfl
 |.waits _=>rfl
 |.no t=>by simp only[Tr.d,cz,bD];rw[t.low];rfl
 |.two _ a b=>by simp only[Tr.d,cz,bD];rw[a.low,b.low];rfl
inductive Rw where
 |put (x:Str) (t:Tr)|unl (t:Tr) (n:Nat)|go (n:Nat)|do_ (g:Option Str) (r d:Str) (t:Tr)|wait (b:Str) (t:Tr)|call (b:Str)|all (b:Str)|tell (t:Tr)
 |take (p:Str)|give (p:Str)|pass (p q:Str)|say (t:Tr)
def JL:Option Str->D
 |none=>.non
 |some x=>.str x
def Rw.d:Rw->D
 |.put x t=>.tup [.str "put",.str x,t.d]
 |.unl t n=>.tup [.str "unless",t.d,.int n]
 |.go n=>.tup [.str "go",.int n]
 |.do_ g r d t=>.tup [.str "do",JL g,.str r,.str d,t.d]
 |.wait b t=>.tup [.str "wait",.str b,t.d]
 |.call b=>.tup [.str "call",.str b]
 |.all b=>.tup [.str "all",.str b]
 |.tell t=>.tup [.str "tell",t.d]
 |.take p=>.tup [.str "take",.str p]
 |.give p=>.tup [.str "give",.str p]
 |.pass p q=>.tup [.str "pass",.str p,.str q]
 |.say t=>.tup [.str "say",t.d]
structure Sc where
 own:Bool
 ws:List Str
 ps:List Str
 bs:List Str
 gs:List (Str×Str)
 ts:List Str
def zH(a:Sc)(t:Tr):Prop:=t.Ok a.ws a.bs/\t.dep<=4
def Rw.Ok(a:Sc)(n:Nat):Rw->Prop
 |.put x t=>x∈a.ps/\zH a t
 |.unl t m=>zH a t/\m<=n
 |.go m=>m<=n
 |.do_ g r d t=>(∀x,g=some x->x∈a.ps)/\(r,d)∈a.gs/\zH a t
 |.wait b t=>a.own=false/\b∈a.bs/\zH a t
 |.call b=>a.own=false/\b∈a.bs
 |.all b=>a.own=false/\b∈a.bs
 |.tell t=>a.own=false/\zH a t
 |.take p=>a.own=true/\p∈a.ts
 |.give p=>a.own=true/\p∈a.ts
 |.pass p q=>a.own=true/\p∈a.ts/\q∈a.ts
 |.say t=>a.own=true/\zH a t
theorem Rw.low(r:Rw):cz 0 r.d=true:=by
 cases r with
 |do_ g r d t=>cases g <;>simp only[Rw.d,cz,bD,JL,t.low,Bool.and_true,Bool.true_and]
 |_=>simp only[Rw.d,cz,bD,Tr.low,Bool.and_true,Bool.true_and]
def si(a:Sc)(rs:List Rw):Prop:=∀r∈rs,r.Ok a rs.length
def nQ:List Str:= ["given"]
end W28
namespace DL
open PySem PySem.Spec L2
def NA{a b:cv}{d:D}(h:a.set 0 none=b.set 0 none):a.set 0 (some d)=b.set 0 (some d):=by
 have:=congrArg (λc:cv=>c.set 0 (some d)) h
 simpa using this
def JB{i:cv}{S:aA}{js:List (Option Nat)}{f:eU}{e:aV}{Q:List D->aA->Prop}(F:D->D)(h:E f i S λp c=>p.2.stays c p.1/\p.1.length<=1000/\(∀d∈p.1,E e ((mV js i).set 0 (some d)) c λy S2=>y=F d/\S2=c)/\Q (p.1.map F) c):
  E (du js (sT f) (cb 0) eX e) i S Q:=by
 refine rS (tP (h.mono λp c m=> ?_))
 obtain⟨o,hl,s,q⟩:=m
 refine⟨λn a g b=>g=c/\b=(p.1.take n).map F/\a.set 0 none=(mV js i).set 0 none,⟨rfl,rfl,rfl⟩,λn a g b h=>by rw[h.1];exact o,λn d a g b j h=> ?_,λa g b h=> ?_⟩
 ·obtain⟨rfl,rfl,h3⟩:=h
  refine aQ (wa ?_)
  rw[Qhq rfl,NA h3]
  refine(s d (mQg j)).mono λy S2 k=> ?_
  obtain⟨r,l⟩:=k
  subst r l
  have t:=(gQs.mp j).1
  refine⟨?_,rfl,?_,by simp⟩
  ·rw[lQm,Qxq]
   exact bq (by omega)
  ·rw[QYq,j]
   simp
 ·obtain⟨rfl,rfl,_⟩:=h
  rw[QEq]
  exact q
theorem LG{c:ie}{b:cD}{Q:Out->Prop}(I:Nat->cv->aA->Prop)(i:∀m a S,I m a S->E c a S λk f=>if k=true then∃e,m=e+1/\T b a f λo=>match o with|.nx d S2=>I e d S2|_=>False else Q (.nx a f)):
  ∀(n m:Nat) (a:cv) (S:aA),m<n->I m a S->T (FH c b n) a S Q
 |0,_,_,_,h,_=>absurd h (Nat.not_lt_zero _)
 | n+1,m,a,S,h,hi=>by
   obtain⟨k,f,g,q⟩:=i m a S hi
   cases k with
   |false=>exact⟨_,by simp only[FH];rw[g];rfl,q⟩
   | true=>
     obtain⟨e,rfl,o,e2,q⟩:=(q:∃e,m=e+1/\T b a f _)
     cases o with
     | nx d S2=>
       obtain⟨o,j,q⟩:=LG I i n e d S2 (by omega) q
       exact⟨o,by simp only[FH];rw[g];simp only[Qbq,if_true];rw[e2];exact j,q⟩
     |_=>exact q.elim
def cy{a:cv}{S:aA}{Q:Option Int->aA->Prop}(q:Q none S):E sS a S Q:=⟨_,_,rfl,q⟩
def cx{b:cv}{S:aA}{f:aV}{Q:Option Int->aA->Prop}(h:E f b S λd a=>∃i,d=.int i/\Q (some i) a):E (qU f) b S Q:=by
 obtain⟨d,a,c,i,rfl,q⟩:=h
 exact⟨_,a,by unfold qU;rw[c];rfl,q⟩
end DL
namespace W28
open PySem PySem.Spec L2 DL
def w_(p:Str×Nat):D:=.tup [.str p.1,.int p.2]
def KB(p:Str×Str):D:=.tup [.str p.1,.str p.2]
def Bo(p:Str×List Rw):D:=.tup [.str p.1,.tup (p.2.map Rw.d)]
structure Rm where
 name:Str
 ah:Str
 ao:List (Str×Nat)
 aa:List (Str×Str)
 ae:List (Str×List Rw)
def Rm.d(r:Rm):D:=.tup [.str r.name,.str r.ah,.tup (r.ao.map w_),.tup (r.aa.map KB),.tup (r.ae.map Bo)]
structure I0(gs:List (Str×Str))(r:Rm):Prop where
 mn:r.ah="at once" \/r.ah="when free"
 tv:∀p∈r.ao,p.2<=9
 l1:r.ao.length<=6
 l2:r.aa.length<=6
 l3:r.ae.length<=6
 bv:∀p∈r.aa,p.2="row" \/p.2="turns"
 pr:∀p∈r.ae,si ⟨false,r.ao.map (·.1)++nQ,r.ao.map (·.1),r.aa.map (·.1),gs,[]⟩ p.2/\p.2.length<=12
def bS(rs:List Rm):List (Str×Str):=rs.flatMap λr=>r.ae.map λp=>(r.name,p.1)
end W28
namespace DL
open PySem PySem.Spec L2
def Lu{b:cv}{S:aA}{f:aV}{g:eU}{Q:D->aA->Prop}(h:E f b S λx c=>∃k a,x=.ref k/\c[k]?=some (.lst a)/\E g b c λp S2=>∃ds,S2[k]?=some (.lst ds)/\(p.2.isM=true/\ds.length+p.1.length<=sizeLine)/\Q .non (S2.set k (.lst (ds++p.1)))):E (EI f g) b S Q:=by
 obtain⟨x,c,d,k,a,rfl,h1,p,S2,e2,ds,h2,h3,q⟩:=h
 exact⟨_,_,by unfold EI;rw[d];simp only[Qbq,e2,h1,h2];rw[Qhq h3],q⟩
def EC{b:Bool}{Q:D->Prop}(q:Q (.int (if b then 1 else 0))):Op (intOfD [.bl b]) Q:=⟨_,rfl,q⟩
def Ee{j:Nat}{n:Nat}{d:D}(h:(pK 0 (j:Int))[n]?=some d):d=.int n/\n<j:=by
 simp only[pK,gQm] at h
 obtain⟨i,c,rfl⟩:=oQm.mp h
 obtain⟨b,a⟩:=gQs.mp c
 simp at b a
 subst a
 exact⟨by simp,by omega⟩
end DL
namespace W28
open PySem PySem.Spec L2 DL
def x9(p:List (Str×Nat)×List Rw):D:=.tup [.tup (p.1.map w_),.tup (p.2.map Rw.d)]
structure bK where
 aj:List Rm
 ai:List (Str×Nat)
 ak:List (Str×Nat)
 af:List (List (Str×Nat)×List Rw)
def bK.d(w:bK):D:=.tup [.tup (w.aj.map Rm.d),.tup (w.ai.map w_),.tup (w.ak.map w_),.tup (w.af.map x9)]
structure Jg(gs:List (Str×Str))(ak ai:List Str)(h:List (Str×Nat)×List Rw):Prop where
 tv:∀p∈h.1,p.2<=9
 l1:h.1.length<=6
 l2:h.2.length<=9
 l0:0<h.2.length
 pr:si ⟨true,h.1.map (·.1)++ak,h.1.map (·.1)++ak,[],gs,ai⟩ h.2
structure cf(w:bK):Prop where
 nd:(w.aj.map (·.name)).Nodup
 l1:w.aj.length<=4
 l2:w.ai.length<=6
 l3:w.ak.length<=6
 l4:w.af.length<=4
 l0:0<w.af.length
 pv:∀p∈w.ai,p.2<=9
 sv:∀p∈w.ak,p.2<=9
 rm:∀r∈w.aj,I0 (bS w.aj) r
 hd:∀h∈w.af,Jg (bS w.aj) (w.ak.map (·.1)) (w.ai.map (·.1)) h
end W28
namespace DL
open PySem PySem.Spec L2
end DL
namespace W28
open PySem PySem.Spec L2 DL
end W28
namespace DL
open PySem PySem.Spec L2
end DL
namespace W28
open PySem PySem.Spec L2 DL
end W28
namespace DL
open PySem PySem.Spec L2
def J5{l:cv}{S:aA}{js:List (Option Nat)}{f:eU}{g:kM}{i:aV}{Q:List D->aA->Prop}(P:cv->Prop)(F:D->D)(v:P (mV js l)) (h:E f l S λp e=>p.2.stays e p.1/\p.1.length<=1000∧
   (∀d∈p.1,∀a,P a->Tg g d a e λc S2=>S2=e/\P c/\E i c e λy m=>y=F d/\m=e)/\Q (p.1.map F) e):E (du js (sT f) g eX i) l S Q:=by
 refine rS (tP (h.mono λp e s=> ?_))
 obtain⟨t,hl,x,q⟩:=s
 refine⟨λn a j b=>j=e/\b=(p.1.take n).map F/\P a,⟨rfl,rfl,v⟩,λn a j b h=>by rw[h.1];exact t,λn d a j b k h=> ?_,λa j b h=> ?_⟩
 ·obtain⟨rfl,rfl,h3⟩:=h
  obtain⟨c,S2,w,rfl,h4,h5⟩:=x d (mQg k) a h3
  refine⟨c,S2,w,wa ?_⟩
  rw[Qhq rfl]
  refine h5.mono λy m o=> ?_
  obtain⟨r,u⟩:=o
  subst r u
  have z:=(gQs.mp k).1
  refine⟨?_,rfl,?_,h4⟩
  ·rw[lQm,Qxq]
   exact bq (by omega)
  ·rw[QYq,k]
   simp
 ·obtain⟨rfl,rfl,_⟩:=h
  rw[QEq]
  exact q
def qD{α:Type}{o:cv}{S:aA}{js:List (Option Nat)}{f:eU}{g:kM}{k:aV}{Q:List D->aA->Prop}(P:cv->Prop)(enc G:α->D)(A:P (mV js o)) (h:E f o S λp i=>∃xs:List α,p.1=xs.map enc/\p.2.stays i p.1/\xs.length<=1000∧
   (∀x∈xs,∀a,P a->Tg g (enc x) a i λc S2=>S2=i/\P c/\E k c i λy s=>y=G x/\s=i)/\Q (xs.map G) i):E (du js (sT f) g eX k) o S Q:=by
 refine rS (tP (h.mono λp i v=> ?_))
 obtain⟨xs,r,w,hl,C,q⟩:=v
 refine⟨λn a m b=>m=i/\b=(xs.take n).map G/\P a,⟨rfl,rfl,A⟩,λn a m b h=>by rw[h.1];exact w,λn d a m b l h=> ?_,λa m b h=> ?_⟩
 ·obtain⟨rfl,rfl,h3⟩:=h
  have l:p.1[n]?=some d:=l
  rw[r,gQm] at l
  obtain⟨x,j,rfl⟩:=oQm.mp l
  obtain⟨c,S2,B,rfl,h4,h5⟩:=C x (mQg j) a h3
  refine⟨c,S2,B,wa ?_⟩
  rw[Qhq rfl]
  refine h5.mono λy s t=> ?_
  obtain⟨u,z⟩:=t
  subst u z
  have F:=(gQs.mp j).1
  refine⟨?_,rfl,?_,h4⟩
  ·rw[lQm,Qxq]
   exact bq (by omega)
  ·rw[QYq,j]
   simp
 ·obtain⟨rfl,rfl,_⟩:=h
  have e:p.1.length=xs.length:=by rw[r,lQm]
  show Q ((xs.take p.1.length).map G) _
  rw[e,QEq]
  exact q
def bP{S:aA}{d:D}{Q:Res->aA->Prop}(hd:∀k,d≠.ref k)(hl:cz 0 d=true)(q:Q (.d d) S):Op (settle S d S) λp=>Q p.1 p.2:=gw qB (QEq) hd (sP hl) q
def Dt{S:aA}{ds:List D}{Q:Res->aA->Prop}(hl:bD 0 ds=true)(q:Q (.l ds) S):Op (eI S ds S) λp=>Q p.1 p.2:=kY qB (QEq) (iJ hl) q
end DL
namespace W28
open PySem PySem.Spec L2 DL
structure bx where
 room:Int
 deed:Int
 row:Int
 given:Int
 told:Int
structure bJ where
 vals:List Int
 within:Int
 row:List Int
 ag:List Int
 aa:List (List (Int×Int))
structure aH where
 aj:List bJ
 ai:List (Int×List Int)
 ak:List Int
 af:List (List Int×List bx)
def bM(l:List Int):D:=.tup (l.map D.int)
def bx.d(f:bx):D:=.tup [.int f.room,.int f.deed,.int f.row,.int f.given,.int f.told]
def pairD(p:Int×Int):D:=.tup [.int p.1,.int p.2]
def dk(l:List (Int×Int)):D:=.tup (l.map pairD)
def bJ.d(r:bJ):D:=.tup [bM r.vals,.int r.within,bM r.row,bM r.ag,.tup (r.aa.map dk)]
def yR(p:Int×List Int):D:=.tup [.int p.1,bM p.2]
def yV(h:List Int×List bx):D:=.tup [bM h.1,.tup (h.2.map bx.d)]
def aH.d(s:aH):D:=.tup [.tup (s.aj.map bJ.d),.tup (s.ai.map yR),bM s.ak,.tup (s.af.map yV)]
def ir(l:List Int):cz 0 (bM l)=true:=by simp only[bM,cz];exact bB λ_ _=>rfl
def r9(l:List (Int×Int)):cz 0 (dk l)=true:=by simp only[dk,cz];exact bB λ_ _=>rfl
def bJ.low(r:bJ):cz 0 r.d=true:=by
 simp only[bJ.d,cz,bD,ir,Bool.and_true,Bool.true_and]
 exact bB λl _=>r9 l
def zh(p:Int×List Int):cz 0 (yR p)=true:=by simp only[yR,cz,bD,ir,Bool.and_true]
def y7(h:List Int×List bx):cz 0 (yV h)=true:=by
 simp only[yV,cz,bD,ir,Bool.and_true,Bool.true_and]
 exact bB λ_ _=>rfl
def aH.low(s:aH):cz 0 s.d=true:=by
 simp only[aH.d,cz,bD,ir,Bool.and_true,Bool.true_and,QCq]
 exact⟨bB λr _=>r.low,bB λp _=>zh p,bB λh _=>y7 h⟩
def dj(ts:List (Str×Nat)):List Int:=ts.map λp=>(p.2:Int)
def bZ(r:Rm):bJ:=⟨dj r.ao,-1,[],[],r.aa.map λ_=> []⟩
def Cn:bx:=⟨-1,-1,0,0,0⟩
def bo(w:bK):aH:=⟨w.aj.map bZ,w.ai.map λp=>((p.2:Int),[]),dj w.ak,w.af.map λh=>(dj h.1,[Cn])⟩
section
variable{S:aA}{Q:Res->aA->Prop}
def i_{ts:List (Str×Nat)}(l:ts.length<=1000)(h:Q (.d (bM (dj ts))) S):Fn fq [.tup (ts.map w_)] S Q:=by
 refine bF ?_
 unfold lP
 symm
 apply J5 (λc=>∃a b,c= [a,b]) (λd=>match d with|.tup [_,v]=>v|d=>d) ⟨none,none,rfl⟩ ?_
 refine⟨trivial,by simpa using l,λd g c f=> ?_,?_⟩
 ·obtain⟨p,_,rfl⟩:=Qkq.mp g
  obtain⟨a,b,rfl⟩:=f
  refine eD rfl (ax (aQ (ax (aQ (bc ?_)))))
  apply⟨rfl,⟨_,_,rfl⟩,?_⟩
  exact⟨rfl,rfl⟩
 ·have e:(ts.map w_).map (λd=>match d with|.tup [_,v]=>v|d=>d)=(dj ts).map D.int:=by
   simp only[dj,QPq]
   rfl
  rw[e]
  exact bP (d:=bM (dj ts)) (λk z=>(nomatch z)) (ir _) h
def tx{r:Rm}(c:r.ao.length<=6)(b:r.aa.length<=6)(h:Q (.d (bZ r).d) S):Fn gR [r.d] S Q:=by
 refine bF ?_
 unfold ke
 symm
 apply eD rfl (ax (aQ (ax (aQ (ax (aQ (ax (aQ (ax (aQ (bc ?_)))))))))))
 apply i_ (by omega) ?_
 apply⟨by decide,?_⟩
 apply⟨by decide,?_⟩
 apply JB (λ_=>.tup []) ?_
 refine⟨trivial,by simp;omega,λd a=> ?_,?_⟩
 ·symm
  exact⟨by decide,rfl,rfl⟩
 ·symm
  refine⟨by show 5<=_;decide,?_⟩
  have e:D.tup ((r.aa.map KB).map λ_=>D.tup [])=D.tup ((bZ r).aa.map dk):=by
   simp only[bZ,QPq]
   rfl
  rw[e]
  exact bP (d:=(bZ r).d) (λk z=>(nomatch z)) (bJ.low _) h
def Ed{w:bK}(o:cf w)(h:Q (.d (bo w).d) S):Fn vk [w.d] S Q:=by
 refine bF ?_
 unfold Aa
 symm
 apply eD rfl (ax (aQ (ax (aQ (ax (aQ (ax (aQ (bc ?_)))))))))
 apply⟨by decide,?_⟩
 have l:=o.l1
 have n:=o.l2
 have m:=o.l3
 have q:=o.l4
 apply qD (α:=Rm) (λc=>∃a,c= [a]) Rm.d (λr=>(bZ r).d) ⟨none,rfl⟩ ?_
 refine⟨w.aj,rfl,trivial,by omega,λr f c e=> ?_,?_⟩
 ·obtain⟨a,rfl⟩:=e
  apply aQ ⟨rfl,⟨_,rfl⟩,?_⟩
  exact tx (o.rm r f).l1 (o.rm r f).l2 ⟨rfl,rfl⟩
 symm
 apply qD (α:=Str×Nat) (λc=>∃a b,c= [a,b]) w_ (λp=>yR ((p.2:Int),[])) ⟨none,none,rfl⟩ ?_
 refine⟨w.ai,rfl,trivial,by omega,λr f c e=> ?_,?_⟩
 ·obtain⟨a,b,rfl⟩:=e
  refine eD rfl (ax (aQ (ax (aQ (bc ?_)))))
  apply⟨rfl,⟨_,_,rfl⟩,?_⟩
  apply⟨by decide,?_⟩
  exact⟨by show 2<=_;decide,rfl,rfl⟩
 symm
 apply i_ (by omega) ?_
 apply qD (α:=List (Str×Nat)×List Rw) (λc=>∃a b,c= [a,b,some Cn.d]) x9 (λh=>yV (dj h.1,[Cn])) ⟨none,none,rfl⟩ ?_
 refine⟨w.af,rfl,trivial,by omega,λr f c e=> ?_,?_⟩
 ·obtain⟨a,b,rfl⟩:=e
  refine eD rfl (ax (aQ (ax (aQ (bc ?_)))))
  apply⟨rfl,⟨_,_,rfl⟩,?_⟩
  refine i_ (by have:=(o.hd r f).l1;omega) ?_
  symm
  refine⟨by show 1<=_;decide,?_⟩
  symm
  exact⟨by show 2<=_;decide,rfl,rfl⟩
 symm
 refine⟨by show 4<=_;decide,?_⟩
 have j:w.aj.map (λr=>(bZ r).d)=(bo w).aj.map bJ.d:=by simp only[bo,QPq];rfl
 have g:w.ai.map (λp=>yR ((p.2:Int),[]))=(bo w).ai.map yR:=by simp only[bo,QPq];rfl
 have i:w.af.map (λh=>yV (dj h.1,[Cn]))=(bo w).af.map yV:=by simp only[bo,QPq];rfl
 rw[j,g,i]
 exact bP (d:=(bo w).d) (λk z=>(nomatch z)) (aH.low _) h
end
end W28
namespace DL
open PySem PySem.Spec L2
section
variable{Γ:cv}{S:aA}
def oW{f:aV}{Q:D->aA->Prop}(h:E f Γ S λd a=>∃i,d=.int i/\Q (.int (-i)) a):E (qY f) Γ S Q:=by
 obtain⟨d,a,b,i,rfl,q⟩:=h
 exact⟨_,a,by unfold qY;rw[b];rfl,q⟩
def jB{f:aV}{lo hi:Kx}{Q:D->aA->Prop}(h:E f Γ S λd b=>E lo Γ b λl S2=>E hi Γ S2 λu a=>∃ds,d=.tup ds/\Q (.tup (jk ds l u)) a):E (sQ f lo hi) Γ S Q:=by
 obtain⟨d,b,g,l,S2,c,u,a,e,ds,rfl,q⟩:=h
 exact⟨_,a,by unfold sQ;rw[g];simp only[Qbq];rw[c];simp only[Qbq];rw[e];rfl,q⟩
def Mp{i j:Nat}{f:fN}{Q:Out->Prop}(h:E f Γ S λds c=>∃a b,ds= [a,b]/\Q (.nx ((Γ.set i (some a)).set j (some b)) c)):T (zO i j f) Γ S Q:=by
 obtain⟨ds,c,d,a,b,rfl,q⟩:=h
 exact⟨_,by unfold zO;rw[d];rfl,q⟩
end
def Dg{α:Type}{xs:List α}{i:Nat}(h:i<=xs.length):jk xs none (some (i:Int))=xs.take i:=by
 unfold jk
 rw[HT.se,HT.Ak,Nat.min_eq_left h]
 simp
def ij{α:Type}{xs:List α}{i:Nat}(h:i<=xs.length):jk xs (some (i:Int)) none=xs.drop i:=by
 unfold jk
 rw[HT.se,HT.Ak,Nat.min_eq_left h]
 rw[List.take_of_length_le]
 simp
def wL{α:Type}{xs:List α}(h:0<xs.length):jk xs none (some (-1))=xs.dropLast:=by
 unfold jk
 rw[HT.se]
 show(xs.drop 0).take (HT.dW xs.length xs.length (some (-1))-0)=_
 rw[show HT.dW xs.length xs.length (some (-1))=xs.length-1 by simp only[HT.dW];rw[Qhq (by omega)];omega]
 simp[List.dropLast_eq_take]
def wU{α:Type}{xs:List α}{x:α}(h:xs.getLast? =some x):mY xs (-1)=some x:=by
 have c:0<xs.length:=by
  cases xs with
  |nil=>cases h
  |cons a b=>simp
 unfold mY FF
 rw[Quq (by omega),Qhq (by omega)]
 rw[List.getLast?_eq_getElem?] at h
 simp only[Qbq]
 rw[show((-1:Int)+(xs.length:Int)).toNat=xs.length-1 by omega]
 exact h
end DL
namespace W28
open PySem PySem.Spec L2 DL
section
variable{S:aA}{Q:Res->aA->Prop}
def bA{s:aH}{h:Nat}{vs:List Int}{fs:List bx}{f:bx}(b:s.af[h]?=some (vs,fs))(a:fs.getLast? =some f)(q:Q (.d f.d) S):Fn cn [s.d,.int h] S Q:=by
 refine bF ?_
 unfold kb
 symm
 apply aw rfl ?_
 refine aw (d:=yV (vs,fs)) (aC (by rw[gQm,b];rfl)) ?_
 symm
 refine aw rfl ?_
 apply oW ?_
 refine⟨1,rfl,?_⟩
 refine aw (d:=f.d) (wU (by rw[QfQ,a];rfl)) ?_
 exact bP (λk z=>(nomatch z)) rfl q
def progOf(w:bK)(h:Nat)(f:bx):Option (List Rw):=
 if f.room= -1 then(w.af[h]?).map (·.2) else if 0<=f.room/\0<=f.deed then(w.aj[f.room.toNat]?).bind λr=>(r.ae[f.deed.toNat]?).map (·.2) else none
def kI{α:Type}{xs:List α}{i:Int}{x:α}(a:0<=i)(h:xs[i.toNat]?=some x):mY xs i=some x:=by
 obtain⟨n,rfl⟩:∃n:Nat,i=n:=⟨i.toNat,by omega⟩
 exact aC (by simpa using h)
def wM(rs:List Rw):cz 0 (.tup (rs.map Rw.d))=true:=by simp only[cz];exact bB λr _=>r.low
def fE{w:bK}{h:Nat}{f:bx}{pr:List Rw}(a:progOf w h f=some pr)(q:Q (.d (.tup (pr.map Rw.d))) S):Fn eB [w.d,.int h,f.d] S Q:=by
 refine bF ?_
 unfold kf
 apply aP (Mp ?_)
 apply aw rfl ?_
 apply aw rfl ?_
 apply⟨_,_,rfl,?_⟩
 refine iu ?_
 dsimp only
 unfold progOf at a
 by_cases c:f.room= -1
 ·rw[Qhq c] at a
  obtain⟨i,b,rfl⟩:=oQm.mp a
  rw[Qeq c,Qhq rfl]
  symm
  apply aw rfl ?_
  refine aw (d:=x9 i) (aC (by rw[gQm,b];rfl)) ?_
  symm
  refine aw rfl ?_
  exact bP (λk z=>(nomatch z)) (wM _) q
 ·rw[Quq c] at a
  split at a
  ·rename_i e
   obtain⟨r,b,a⟩:=aq a
   obtain⟨j,g,rfl⟩:=oQm.mp a
   rw[Qdq c,Quq (by decide)]
   symm
   apply aw rfl ?_
   refine aw (d:=r.d) (kI e.1 (by rw[gQm,b];rfl)) ?_
   symm
   apply aw rfl ?_
   refine aw (d:=Bo j) (kI e.2 (by rw[gQm,g];rfl)) ?_
   symm
   refine aw rfl ?_
   exact bP (λk z=>(nomatch z)) (wM _) q
  ·cases a
def da{xs:List D}{i:Nat}{d:D}(hi:i<xs.length)(hl:xs.length<=900)(g:bD 0 xs=true)(f:cz 0 d=true)(q:Q (.d (.tup (xs.set i d))) S):Fn cO [.tup xs,.int i,d] S Q:=by
 refine bF ?_
 unfold lJ
 symm
 apply jB ?_
 apply cy (cx ?_)
 apply⟨_,rfl,_,rfl,?_⟩
 refine⟨by show 1<=_;decide,?_⟩
 rw[Dg (by omega)]
 refine di (by simp only[Qxq,Qnq,QGq];exact nQl (bq (by omega))) ?_
 apply jB ?_
 apply cx ?_
 refine⟨_,rfl,cy ⟨_,rfl,?_⟩⟩
 rw[show((i:Int)+1)=((i+1:Nat):Int) by omega,ij (by omega)]
 refine di (by simp only[lQa,Qxq,List.length_drop,Qnq,QGq];exact nQl (bq (by omega))) ?_
 have e:xs.take i++ [d]++xs.drop (i+1)=xs.set i d:=by
  rw[List.set_eq_take_append_cons_drop,Qhq hi]
  simp
 rw[e]
 refine bP (λk z=>(nomatch z)) ?_ q
 simp only[cz]
 refine vi λz b=> ?_
 rcases QTq b with b|rfl
 ·have c:∀l:List D,bD 0 l=true->∀z∈l,cz 0 z=true:=by
   intro l
   induction l with
   |nil=>intro _ z b;cases b
   | cons a l j=>
     intro h z b
     simp only[bD,QCq] at h
     rcases Qsq.mp b with rfl|b
     · exact h.1
     · exact j h.2 z b
  exact c xs g z b
 ·exact f
end
section
variable{S:aA}{Q:Res->aA->Prop}
def map_set{α b:Type}(f:α->b)(l:List α)(i:Nat)(a:α):(l.set i a).map f=(l.map f).set i (f a):=by
 rw[List.map_set]
def aM(s:aH):∀k,s.d≠.ref k:=λk z=>(nomatch z)
def cH{s:aH}{i:Nat}{r:bJ}(hi:i<s.aj.length)(hl:s.aj.length<=900)(q:Q (.d ({s with aj:=s.aj.set i r}:aH).d) S):Fn cq [s.d,.int i,r.d] S Q:=by
 refine bF ?_
 unfold lY
 symm
 apply aw rfl ?_
 apply da (by simpa using hi) (by simpa using hl) (bB λr _=>r.low) r.low ?_
 refine⟨by show 1<=_;decide,?_⟩
 apply jB ?_
 apply cx ?_
 refine⟨_,rfl,cy ⟨_,rfl,?_⟩⟩
 refine di (by show 4<=_;decide) ?_
 refine bP (d:=({s with aj:=s.aj.set i r}:aH).d) (aM _) (aH.low _) q|>λz=> ?_
 rw[←map_set]
 exact z
def fY{s:aH}{i:Nat}{p:Int×List Int}(hi:i<s.ai.length)(hl:s.ai.length<=900)(q:Q (.d ({s with ai:=s.ai.set i p}:aH).d) S):Fn dU [s.d,.int i,yR p] S Q:=by
 refine bF ?_
 unfold lB
 symm
 apply aw rfl ?_
 apply aw rfl ?_
 apply da (by simpa using hi) (by simpa using hl) (bB λr _=>zh r) (zh p) ?_
 refine⟨by show 2<=_;decide,?_⟩
 apply jB ?_
 apply cx ?_
 refine⟨_,rfl,cy ⟨_,rfl,?_⟩⟩
 refine di (by show 4<=_;decide) ?_
 refine bP (d:=({s with ai:=s.ai.set i p}:aH).d) (aM _) (aH.low _) q|>λz=> ?_
 rw[←map_set]
 exact z
def fZ{s:aH}{i:Nat}{vs:List Int}{fs:List bx}(hi:i<s.af.length)(hl:s.af.length<=900)(q:Q (.d ({s with af:=s.af.set i (vs,fs)}:aH).d) S):Fn d_ [s.d,.int i,bM vs,.tup (fs.map bx.d)] S Q:=by
 refine bF ?_
 unfold lC
 apply jn (jy (jB ?_))
 apply cy (cx ?_)
 apply⟨_,rfl,_,rfl,?_⟩
 apply aw rfl ?_
 refine⟨by show 2<=_;decide,?_⟩
 symm
 apply da (d:=yV (vs,fs)) (by simpa using hi) (by simpa using hl) (bB λr _=>y7 r) (y7 (vs,fs)) ?_
 refine⟨by show 1<=_;decide,?_⟩
 refine di (by show 4<=_;decide) ?_
 refine bP (d:=({s with af:=s.af.set i (vs,fs)}:aH).d) (aM _) (aH.low _) q|>λz=> ?_
 rw[←map_set]
 exact z
def gM{s:aH}{h:Nat}{vs:List Int}{fs:List bx}{f:bx}(a:s.af[h]?=some (vs,fs))(b:0<fs.length)(c:fs.length<=900)(hl:s.af.length<=900)(q:Q (.d ({s with af:=s.af.set h (vs,fs.dropLast++ [f])}:aH).d) S):Fn cX [s.d,.int h,f.d] S Q:=by
 refine bF ?_
 unfold ft
 symm
 apply aw rfl ?_
 refine aw (d:=yV (vs,fs)) (aC (by rw[gQm,a];rfl)) ?_
 apply eD rfl (ax (aQ (ax (aQ (bc ?_)))))
 apply jB ?_
 apply cy (cx (oW ?_))
 apply⟨1,rfl,_,rfl,_,rfl,?_⟩
 refine⟨by show 1<=_;decide,?_⟩
 rw[wL (by simpa using b)]
 refine di (by simp only[List.length_dropLast,lQm,Qnq,QGq];exact nQl (bq (by omega))) ?_
 symm
 have e:(fs.map bx.d).dropLast++ [f.d]=(fs.dropLast++ [f]).map bx.d:=by rw[Qzq,List.map_dropLast];rfl
 rw[e]
 refine fZ (gQs.mp a).1 hl ?_
 exact bP (aM _) (aH.low _) q
def og{s:aH}{h:Nat}{vs:List Int}{fs:List bx}{f:bx}{n:Int}(e:s.af[h]?=some (vs,fs))(c:fs.getLast? =some f)(i:fs.length<=900)(hl:s.af.length<=900)(q:Q (.d ({s with af:=s.af.set h (vs,fs.dropLast++ [{f with row:=n}])}:aH).d) S):Fn ja [s.d,.int h,.int n] S Q:=by
 refine bF ?_
 unfold vm
 symm
 apply bA e c ?_
 apply jB ?_
 apply cy (cx ?_)
 apply⟨_,rfl,_,rfl,?_⟩
 refine⟨by show 1<=_;decide,?_⟩
 refine di (by show 3<=_;decide) ?_
 apply jB ?_
 apply cx ?_
 refine⟨_,rfl,cy ⟨_,rfl,?_⟩⟩
 refine di (by show 5<=_;decide) ?_
 symm
 have g:0<fs.length:=by
  cases fs with
  |nil=>cases c
  |cons a b=>simp
 refine gM (f:={f with row:=n}) e g i hl ?_
 exact bP (aM _) (aH.low _) q
def eh(r:bJ)(h:Int):bJ:=if r.within= -1 then{r with within:=h} else{r with row:=r.row++ [h]}
def bg(r:bJ):bJ:=match r.ag,r.row with
 |a::l,_=>{r with within:=a,ag:=l}
 | [],a::l=>{r with within:=a,row:=l}
 | [],[]=>{r with within:= -1}
def sf{s:aH}{i:Nat}{h:Int}{r:bJ}(a:s.aj[i]?=some r)(hl:s.aj.length<=900)(lr:r.row.length<=900)(q:Q (.d ({s with aj:=s.aj.set i (eh r h)}:aH).d) S):Fn jE [s.d,.int i,.int h] S Q:=by
 have b:=(gQs.mp a).1
 refine bF ?_
 unfold qW
 symm
 apply aw rfl ?_
 refine aw (d:=r.d) (aC (by rw[gQm,a];rfl)) ?_
 apply eD rfl (ax (aQ (ax (aQ (ax (aQ (ax (aQ (ax (aQ (bc ?_)))))))))))
 refine iu ?_
 dsimp only
 unfold eh at q
 by_cases c:r.within= -1
 ·rw[Qhq c] at q
  rw[Qeq c,Qhq rfl]
  symm
  refine⟨by show 5<=_;decide,?_⟩
  symm
  refine cH (r:={r with within:=h}) b hl ?_
  exact bP (aM _) (aH.low _) q
 ·rw[Quq c] at q
  rw[Qdq c,Quq (by decide)]
  symm
  refine⟨by show 1<=_;decide,?_⟩
  refine di (by simp only[lQm,Qnq,QGq];exact nQl (bq (by omega))) ?_
  symm
  refine⟨by show 5<=_;decide,?_⟩
  symm
  have e:D.tup (r.row.map D.int++ [D.int h])=bM (r.row++ [h]):=by simp[bM]
  rw[e]
  refine cH (r:={r with row:=r.row++ [h]}) b hl ?_
  exact bP (aM _) (aH.low _) q
end
section
variable{S:aA}{Q:Res->aA->Prop}
def Dz{α:Type}{a:α}{l:List α}:mY (a::l) 0=some a:=aC (j:=0) rfl
def uW{S:aA}{ds:List D}{Q:Bool->Prop}(q:Q (!ds.isEmpty)):Op (zc S (.tup ds)) Q:=⟨_,rfl,q⟩
def ym{s:aH}{i:Nat}{r:bJ}(k:s.aj[i]?=some r)(hl:s.aj.length<=900)(q:Q (.d ({s with aj:=s.aj.set i (bg r)}:aH).d) S):Fn oM [s.d,.int i] S Q:=by
 have j:=(gQs.mp k).1
 refine bF ?_
 unfold yS
 symm
 apply aw rfl ?_
 refine aw (d:=r.d) (aC (by rw[gQm,k];rfl)) ?_
 refine eD rfl (ax (aQ (ax (aQ (ax (aQ (ax (aQ (ax (aQ (bc ?_)))))))))))
 obtain⟨b,g,f,m,h⟩:=r
 symm
 refine uW ?_
 cases m with
 | cons a l=>
   apply bf (λ_=> ?_) (λc=>by cases c)
   apply aw (d:=.int a) Dz ?_
   apply jB ?_
   apply cx ?_
   apply⟨_,rfl,cy ⟨_,rfl,?_⟩⟩
   refine⟨by show 5<=_;decide,?_⟩
   symm
   have e:D.tup (jk ((a::l).map D.int) (some 1) none)=bM l:=by
     rw[show(some (1:Int))=some ((1:Nat):Int) from rfl,ij (by simp)]
     rfl
   rw[e]
   refine cH (r:=⟨b,a,f,l,h⟩) j hl ?_
   exact bP (aM _) (aH.low _) q
 | nil=>
   refine bf (λc=>by cases c) (λ_=> ?_)
   apply cB ?_
   refine uW ?_
   cases f with
   | cons a l=>
     apply bf (λ_=> ?_) (λc=>by cases c)
     apply aw (d:=.int a) Dz ?_
     apply jB ?_
     apply cx ?_
     apply⟨_,rfl,cy ⟨_,rfl,?_⟩⟩
     refine⟨by show 5<=_;decide,?_⟩
     symm
     have e:D.tup (jk ((a::l).map D.int) (some 1) none)=bM l:=by
       rw[show(some (1:Int))=some ((1:Nat):Int) from rfl,ij (by simp)]
       rfl
     rw[e]
     refine cH (r:=⟨b,a,l,[],h⟩) j hl ?_
     exact bP (aM _) (aH.low _) q
   | nil=>
     refine bf (λc=>by cases c) (λ_=> ?_)
     apply cB ?_
     refine⟨by show 5<=_;decide,?_⟩
     symm
     refine cH (r:=⟨b,-1,[],[],h⟩) j hl ?_
     exact bP (aM _) (aH.low _) q
def eA{α:Type}{enc:α->D}{nm:α->Str}{xs:List α}(he:∀a,∃r,enc a=.tup (.str (nm a)::r))(hl:xs.length<=1000)(q:Q (.l ((xs.map nm).map D.str)) S):Fn dg [.tup (xs.map enc)] S Q:=by
 refine bF ?_
 unfold nP
 symm
 apply qD (α:=α) (λb=>∃a,b= [a]) enc (λa=>.str (nm a)) ⟨none,rfl⟩ ?_
 refine⟨xs,rfl,trivial,hl,λr d b c=> ?_,?_⟩
 ·obtain⟨a,rfl⟩:=c
  refine aQ ⟨rfl,⟨_,rfl⟩,?_⟩
  obtain⟨f,e⟩:=he r
  rw[e]
  symm
  exact aw Dz ⟨rfl,rfl⟩
 ·have e:xs.map (λa=>D.str (nm a))=(xs.map nm).map D.str:=by rw[QPq];rfl
  rw[e]
  exact Dt (bB λ_ _=>rfl) q
theorem lF:∀a:List Str,mX (a.map D.str)=some (a.map V.str)
 | []=>rfl
 |s::a=>by simp only[QDq,mX,u0,Qbq];rw[lF a];rfl
theorem vZ{x:Str}:∀{ns:List Str},x∈ns->∃j,jQ (.str x) (ns.map V.str)=some j/\ns[j]?=some x
 | [],h=>by cases h
 | n::ns,h=>by
   by_cases c:n=x
   · subst c
     exact⟨0,by simp[jQ,vW],rfl⟩
   · obtain⟨j,b,a⟩:=vZ (ns:=ns) ((Qsq.mp h).resolve_left (Ne.symm c))
     exact⟨j+1,by simp only[QDq,jQ];rw[b];simp[vW,c],by simpa using a⟩
end
end W28
namespace DL
open PySem PySem.Spec L2
section
variable{Γ:cv}{S:aA}
def oT{T:String}{f:aV}{Q:D->aA->Prop}(h:E f Γ S λd a=>Op (rY a T d) λk=>Q (.bl k) a):E (mr T f) Γ S Q:=by
 obtain⟨d,a,c,k,b,q⟩:=h
 exact⟨_,a,by unfold mr;rw[c];simp only[Qbq];rw[b];rfl,q⟩
def lz{b:Bool}{Q:Bool->Prop}(q:Q b):Op (zc S (.bl b)) Q:=⟨_,rfl,q⟩
def KP{f g:aV}{Q:D->aA->Prop}(h:E f Γ S λx a=>E g Γ a λy S2=>∃k kvs z v,x=.ref k/\y=.str z/\S2[k]?=some (.dct kvs)/\mJ kvs (.inr z)=some v/\Q v S2):E (Mo f g) Γ S Q:=by
 obtain⟨x,a,c,y,S2,b,k,kvs,z,v,rfl,rfl,h1,h2,q⟩:=h
 exact⟨v,S2,by unfold Mo;rw[c];simp only[Qbq];rw[b];simp only[Qbq,h1,tK,h2],q⟩
def Ez{i j:Int}{Q:D->Prop}(q:Q (.int (if j<i then j else i))):Op (minD [.int i,.int j]) Q:=⟨_,rfl,q⟩
def Ij{i j:Int}{Q:D->Prop}(q:Q (.int (if j>i then j else i))):Op (maxD [.int i,.int j]) Q:=⟨_,rfl,q⟩
end
end DL
namespace W28
open PySem PySem.Spec L2 DL
def KC(o:Str)(a b:Int):Int:=
 if o="plus" then(if 9<a+b then 9 else a+b) else if o="minus" then(if 0>a-b then 0 else a-b) else if o="less" then(if a<b then 1 else 0)
 else if o="same" then(if a=b then 1 else 0) else(if a≠0/\b≠0 then 1 else 0)
def rF(th wt:Str->Int):Tr->Int
 |.num n=>n
 |.word x=>th x
 |.waits b=>if 0<wt b then 1 else 0
 |.no t=>if rF th wt t=0 then 1 else 0
 |.two o a b=>KC o (rF th wt a) (rF th wt b)
def BV{o:Str}{a b:Int}(d:0<=a/\a<=9)(c:0<=b/\b<=9):0<=KC o a b/\KC o a b<=9:=by
 unfold KC
 repeat' split
 all_goals omega
theorem kD{th wt:Str->Int}{ws bs:List Str}(h:∀x∈ws,0<=th x/\th x<=9):∀{t:Tr},t.Ok ws bs->0<=rF th wt t/\rF th wt t<=9
 |.num n,ho=>by have:n<=9:=ho;simp only[rF];omega
 |.word x,ho=>h x ho
 |.waits b,_=>by simp only[rF];split <;>omega
 |.no t,_=>by simp only[rF];split <;>omega
 |.two o a b,ho=>BV (kD h ho.2.1) (kD h ho.2.2)
section
variable{S:aA}{Q:Res->aA->Prop}
def cV{S:aA}{i:Int}{Q:Res->aA->Prop}(q:Q (.d (.int i)) S):Op (settle S (.int i) S) λp=>Q p.1 p.2:=bP (λk z=>(nomatch z)) rfl q
def pO{o:Str}{a b:Int}(q:Q (.d (.int (KC o a b))) S):Fn fD [.str o,.int a,.int b] S Q:=by
 refine bF ?_
 unfold hZ
 unfold KC at q
 symm
 refine g8 ?_
 dsimp only
 by_cases j:o="plus"
 ·rw[Qhq j] at q
  rw[Qeq j,Qhq rfl]
  symm
  refine Ez ?_
  exact cV q
 rw[Quq j] at q
 rw[Qdq j,Quq (by decide)]
 apply cB ?_
 refine g8 ?_
 dsimp only
 by_cases h:o="minus"
 ·rw[Qhq h] at q
  rw[Qeq h,Qhq rfl]
  symm
  refine Ij ?_
  exact cV q
 rw[Quq h] at q
 rw[Qdq h,Quq (by decide)]
 apply cB ?_
 refine g8 ?_
 dsimp only
 by_cases i:o="less"
 ·rw[Qhq i] at q
  rw[Qeq i,Qhq rfl]
  symm
  by_cases c:a<b
  ·rw[Qhq c] at q
   rw[Qeq c,Qhq rfl]
   symm
   exact cV q
  ·rw[Quq c] at q
   rw[Qdq c,Quq (by decide)]
   symm
   exact cV q
 rw[Quq i] at q
 rw[Qdq i,Quq (by decide)]
 apply cB ?_
 refine g8 ?_
 dsimp only
 by_cases e:o="same"
 ·rw[Qhq e] at q
  rw[Qeq e,Qhq rfl]
  symm
  refine iu ?_
  dsimp only
  by_cases c:a=b
  ·rw[Qhq c] at q
   rw[Qeq c,Qhq rfl]
   symm
   exact cV q
  ·rw[Quq c] at q
   rw[Qdq c,Quq (by decide)]
   symm
   exact cV q
 rw[Quq e] at q
 rw[Qdq e,Quq (by decide)]
 apply cB ?_
 refine m5 ?_
 dsimp only
 by_cases g:a=0
 ·rw[Quq (λz=>z.1 g)] at q
  rw[Qeq g]
  show if (false=true) then _ else _
  rw[Quq (by decide)]
  show if (false=true) then _ else _
  rw[Quq (by decide)]
  symm
  exact cV q
 ·rw[Qdq g]
  show if (true=true) then _ else _
  rw[Qhq rfl]
  symm
  refine m5 ?_
  dsimp only
  by_cases f:b=0
  ·rw[Quq (λz=>z.2 f)] at q
   rw[Qeq f]
   show if (false=true) then _ else _
   rw[Quq (by decide)]
   symm
   exact cV q
  ·rw[Qhq ⟨g,f⟩] at q
   rw[Qdq f]
   show if (true=true) then _ else _
   rw[Qhq rfl]
   symm
   exact cV q
end
def eR{a:cv}{S:aA}{T:String}{f:aV}{d:D}{b:Bool}{Q:Bool->aA->Prop}(h:E f a S λx c=>x=d/\c=S)(hd:rY S T d=some b)(q:Q b S):E (jz (mr T f)) a S Q:=by
 refine uz (oT (h.mono λx c e=> ?_))
 obtain⟨i,g⟩:=e
 subst i g
 exact⟨b,hd,lz q⟩
def FI{o:Str}(h:o∈ops):o≠"waits" /\o≠"not":=by
 simp only[ops,Qsq,QXq,or_false] at h
 rcases h with rfl|rfl|rfl|rfl|rfl <;>exact⟨by decide +kernel,by decide +kernel⟩
theorem fJ{th wt:Str->Int}{ws bs:List Str}{i j:Nat}{kvs kws:List (Key×D)}{S:aA}(hi:S[i]?=some (.dct kvs))(g:S[j]?=some (.dct kws))(f:∀x∈ws,mJ kvs (.inr x)=some (.int (th x)))(e:∀b∈bs,mJ kws (.inr b)=some (.int (wt b))):
  ∀(n:Nat) (t:Tr) {Q:Res->aA->Prop},t.Ok ws bs->t.dep<=n->Q (.d (.int (rF th wt t))) S->Fn (fg n) [t.d,.ref i,.ref j] S Q
 |0,t,Q,_,hd,_=>by cases t <;>simp[Tr.dep] at hd
 | n+1,t,Q,ho,hd,q=>by
   refine bF ?_
   unfold nY
   cases t with
   | num v=>
     refine aP (eC (eR (d:=.int v) (aL rfl ⟨rfl,rfl⟩) rfl ?_))
     apply bf (λ_=> ?_) (λc=>by cases c)
     exact cV q
   | word x=>
     refine aP (eC (eR (d:=.str x) (aL rfl ⟨rfl,rfl⟩) rfl ?_))
     refine bf (λc=>by cases c) (λ_=>cB ?_)
     refine aP (eC (eR (d:=.str x) (aL rfl ⟨rfl,rfl⟩) rfl ?_))
     refine bf (λ_=> ?_) (λc=>by cases c)
     apply jn (KP ?_)
     refine⟨_,_,_,_,rfl,rfl,hi,f x ho,?_⟩
     exact cV q
   | waits b=>
     refine aP (eC (eR (d:=.tup [.str "waits",.str b]) (aL rfl ⟨rfl,rfl⟩) rfl ?_))
     refine bf (λc=>by cases c) (λ_=>cB ?_)
     refine aP (eC (eR (d:=.tup [.str "waits",.str b]) (aL rfl ⟨rfl,rfl⟩) rfl ?_))
     apply bf (λc=>by cases c) (λ_=>cB ?_)
     apply aw rfl ?_
     refine g8 ?_
     dsimp only
     rw[Qeq rfl,Qhq rfl]
     symm
     apply KP ?_
     refine aw rfl ?_
     apply⟨_,_,_,_,rfl,rfl,g,e b ho,?_⟩
     simp only[rF] at q
     by_cases c:0<wt b
     · rw[Qhq c] at q
       rw[Qeq c,Qhq rfl]
       symm
       exact cV q
     · rw[Quq c] at q
       rw[Qdq c,Quq (by decide)]
       symm
       exact cV q
   | no t=>
     have k:t.dep<=n:=by simp only[Tr.dep] at hd;omega
     refine aP (eC (eR (d:=.tup [.str "not",t.d]) (aL rfl ⟨rfl,rfl⟩) rfl ?_))
     refine bf (λc=>by cases c) (λ_=>cB ?_)
     refine aP (eC (eR (d:=.tup [.str "not",t.d]) (aL rfl ⟨rfl,rfl⟩) rfl ?_))
     apply bf (λc=>by cases c) (λ_=>cB ?_)
     apply aw rfl ?_
     refine g8 ?_
     dsimp only
     rw[Qdq (show¬(("not":Str)="waits") by decide +kernel),Quq (by decide)]
     apply cB ?_
     apply aw rfl ?_
     apply fJ hi g f e n t ho k ?_
     apply aw rfl ?_
     refine g8 ?_
     dsimp only
     rw[Qeq rfl,Qhq rfl]
     symm
     refine iu ?_
     dsimp only
     simp only[rF] at q
     by_cases c:rF th wt t=0
     · rw[Qhq c] at q
       rw[Qeq c,Qhq rfl]
       symm
       exact cV q
     · rw[Quq c] at q
       rw[Qdq c,Quq (by decide)]
       symm
       exact cV q
   | two o a b=>
     have l:a.dep<=n:=by simp only[Tr.dep] at hd;omega
     have h:b.dep<=n:=by simp only[Tr.dep] at hd;omega
     obtain⟨p,m⟩:=FI ho.1
     refine aP (eC (eR (d:=.tup [.str o,a.d,b.d]) (aL rfl ⟨rfl,rfl⟩) rfl ?_))
     refine bf (λc=>by cases c) (λ_=>cB ?_)
     refine aP (eC (eR (d:=.tup [.str o,a.d,b.d]) (aL rfl ⟨rfl,rfl⟩) rfl ?_))
     apply bf (λc=>by cases c) (λ_=>cB ?_)
     apply aw rfl ?_
     refine g8 ?_
     dsimp only
     rw[Qdq p,Quq (by decide)]
     apply cB ?_
     apply aw rfl ?_
     apply fJ hi g f e n a ho.2.1 l ?_
     apply aw rfl ?_
     refine g8 ?_
     dsimp only
     rw[Qdq m,Quq (by decide)]
     apply cB ?_
     apply aw rfl ?_
     apply aw rfl ?_
     apply fJ hi g f e n b ho.2.2 h ?_
     refine pO ?_
     exact cV q
end W28
namespace DL
open PySem PySem.Spec L2
def uw{l:List (Key×D)}{k:Key}(h:k∈l.map (·.1)):∃d,mJ l k=some d/\(k,d)∈l:=by
 unfold mJ
 cases e:l.find? λb=>decide (b.1=k) with
 | none=>
   obtain⟨p,f,rfl⟩:=Qkq.mp h
   have:=List.find?_eq_none.mp e p f
   simp at this
 | some p=>
   have c:=List.find?_some e
   have a:=List.mem_of_find?_eq_some e
   have g:p.1=k:=by simpa using c
   exact⟨p.2,rfl,by rw[←g];exact a⟩
def wX{l:List (Key×D)}{k:Key}{v:D}{p:Key×D}(h:p∈putD l k v):p∈l\/p=(k,v):=by
 unfold putD at h
 split at h
 ·obtain⟨q,a,e⟩:=Qkq.mp h
  split at e
  ·rename_i c
   rw[←e,c]
   exact .inr rfl
  ·rw[←e]
   exact .inl a
 ·rcases mQa.mp h with h|h
  ·exact .inl h
  ·exact .inr (Qfq.mp h)
def kr{l:List (Key×D)}{k x:Key}{v:D}(h:x=k\/x∈l.map (·.1)):x∈(putD l k v).map (·.1):=by
 unfold putD
 split
 ·rename_i c
  have a:∀p∈l,(if p.1=k then(p.1,v) else p).1=p.1:=λp _=>by split <;>rfl
  have e:(l.map λp=>if p.1=k then(p.1,v) else p).map (·.1)=l.map (·.1):=by
   rw[QPq]
   exact List.map_congr_left a
  rw[e]
  rcases h with rfl|h
  ·obtain⟨p,d,b⟩:=List.any_eq_true.mp c
   exact Qkq.mpr ⟨p,d,by simpa using b⟩
  ·exact h
 ·rw[Qzq]
  rcases h with rfl|h
  ·exact Qoq _ (by simp)
  ·exact List.mem_append_left _ h
theorem lQ:∀{more l:List (Key×D)} {p:Key×D},p∈bL l more->p∈l\/p∈more
 | [],l,p,h=>.inl h
 | q::more,l,p,h=>by
   rcases lQ (more:=more) (l:=putD l q.1 q.2) h with h|h
   · rcases wX h with h|rfl
     · exact .inl h
     · exact .inr (QBq ..)
   · exact .inr (Qpq _ h)
theorem fK:∀{more l:List (Key×D)} {x:Key},x∈l.map (·.1)\/x∈more.map (·.1)->x∈(bL l more).map (·.1)
 | [],l,x,h=>h.elim id λz=>by cases z
 | q::more,l,x,h=>by
   refine fK (more:=more) (l:=putD l q.1 q.2) ?_
   rcases h with h|h
   · exact .inl (kr (.inr h))
   · rcases Qsq.mp h with rfl|h
     · exact .inl (kr (.inl rfl))
     · exact .inr h
theorem qh:∀a:List Str,xv (a.map D.str)=some (a.map Sum.inr)
 | []=>rfl
 |s::a=>by simp only[QDq,xv,tK,Qbq];rw[qh a];rfl
section
variable{Γ:cv}{S:aA}
def Nl{Q:D->aA->Prop}(q:Q (.ref S.length) (S++ [.dct []])):E M1 Γ S Q:=⟨_,_,rfl,q⟩
def IU{f g:eU}{Q:D->aA->Prop}(h:E f Γ S λp b=>E g Γ b λr S2=>∃a:List Str,p.1=a.map D.str/\(p.2.stays S2 p.1/\p.1.length=r.1.length)/\Q (.ref S2.length) (S2++ [.dct (bL [] ((a.map Sum.inr).zip r.1))])):E (Kv f g) Γ S Q:=by
 obtain⟨p,b,e,r,S2,d,a,i,c,q⟩:=h
 refine⟨_,_,?_,q⟩
 unfold Kv
 rw[e]
 simp only[Qbq]
 rw[d]
 simp only[Qbq]
 rw[Qhq c,i,qh]
 rfl
def Mk{f g:aV}{Q:D->aA->Prop}(h:E f Γ S λx a=>E g Γ a λy S2=>∃k j b l m,x=.ref k/\y=.ref j/\k≠j/\a[k]?=some (.dct b)/\S2[k]?=some (.dct l)/\S2[j]?=some (.dct m)/\l.length+m.length<=sizeLine/\Q .non (S2.set k (.dct (bL l m)))):E (Gj f g) Γ S Q:=by
 obtain⟨x,a,d,y,S2,c,k,j,b,l,m,rfl,rfl,hn,h0,h1,h2,h3,q⟩:=h
 exact⟨_,_,by unfold Gj;rw[d];simp only[Qbq];rw[c];simp only[Qbq];rw[Qhq hn];simp only[h0,h1,h2];rw[Qhq h3],q⟩
def Nb{f g h:aV}{Q:Out->Prop}(w:E h Γ S λd b=>E f Γ b λx S2=>E g Γ S2 λy a=>∃k l z,x=.ref k/\y=.str z/\a[k]?=some (.dct l)/\l.length<sizeLine/\Q (.nx Γ (a.set k (.dct (putD l (.inr z) d))))):T (MR f g h) Γ S Q:=by
 obtain⟨d,b,i,x,S2,c,y,a,e,k,l,z,rfl,rfl,h1,h2,q⟩:=w
 exact⟨_,by unfold MR;rw[i];simp only[Qbq];rw[c];simp only[Qbq];rw[e];simp only[Qbq,h1,tK];rw[Qhq h2],q⟩
def ND{α:Type}{n:Nat}{js:List (Option Nat)}{i:tE}{g:kM}{t w:aV}{Q:Out->Prop}(P:cv->Prop)(enc:α->D)(f:α->Str)(e:α->D)(H:P (mV js Γ)) (h:E i Γ S λp d=>∃xs:List α,p.1=xs.map enc/\p.2 d/\xs.length<=1000∧
   (∀x∈xs,∀b,P b->Tg g (enc x) b d λj S2=>S2=d/\P j/\E t j d λy B=>y=.str (f x)/\B=d/\E w j d λz C=>z=e x/\C=d)∧
   Q (.nx (Γ.set n (some (.ref d.length))) (d++ [.dct (bL [] (xs.map λx=>(Sum.inr (f x),e x)))]))):T (Lz n (nI js i g eX t w)) Γ S Q:=by
 obtain⟨⟨U,W⟩,d,G,xs,rfl,hW,hl,hs,q⟩:=h
 have K:∀(l:List (Key×D)) (k:Key) (v:D),(putD l k v).length<=l.length+1:=λl k v=>by
  unfold putD
  split <;>simp
 have I:∀(m:List α) (b:cv) (c:List (Key×D)),(∀y∈m,y∈xs)->P b->c.length+m.length<=1000->∃r,ib g eX t w W (m.map enc) b d c=some (r,d)/\r=bL c (m.map λx=>(Sum.inr (f x),e x)):=by
  intro m
  induction m with
  |nil=>intro b c _ _ _;exact⟨c,by simp only[List.map_nil,ib];rw[Qhq hW],rfl⟩
  | cons a m N=>
    intro b c A F o
    obtain⟨j,S2,s,rfl,hp1,y,B,e3,rfl,rfl,z,C,e4,rfl,rfl⟩:=hs a (A a (QBq ..)) b F
    have u:=K c (Sum.inr (f a)) (e a)
    simp only[Qnq] at o
    obtain⟨r,J,M⟩:=N j (putD c (Sum.inr (f a)) (e a)) (λy R=>A y (Qpq _ R)) hp1 (by omega)
    refine⟨r,?_,M⟩
    simp only[QDq,ib]
    rw[Qhq hW,s]
    simp only[Qbq,eX,if_true]
    rw[e3]
    simp only[Qbq]
    rw[e4]
    simp only[Qbq,tK]
    rw[Qhq (bq (by omega))]
    exact J
 obtain⟨r,s,rfl⟩:=I xs _ [] (λ_ h=>h) H (by simpa using hl)
 exact⟨_,by unfold Lz nI;rw[G];simp only[Qbq];rw[s];rfl,q⟩
end
def Fo{a:cv}{S:aA}{f g:eU}{Q:(List D×(aA->Prop))->aA->Prop}(h:E f a S λp b=>E g a b λr S2=>(p.2.stays S2 p.1/\p.1.length<=r.1.length)/\Q (xf p.1 r.1,λS=>p.2.stays S p.1/\r.2.stays S r.1) S2):E (DI f g) a S Q:=by
 obtain⟨p,b,d,r,S2,c,e,q⟩:=h
 exact⟨_,S2,by unfold DI;rw[d];simp only[Qbq];rw[c];simp only[Qbq];rw[Qhq e],q⟩
def jU(l:List (Key×D)):Prop:=∀p∈l,∃v:Int,p.2=.int v/\0<=v/\v<=9
def jU.merge{l m:List (Key×D)}(b:jU l)(a:jU m):jU (bL l m):=λp c=>(lQ c).elim (b p) (a p)
def jU.put{l:List (Key×D)}{k:Key}{v:Int}(h:jU l)(c:0<=v)(b:v<=9):jU (putD l k (.int v)):=λp a=>by
 rcases wX a with a|rfl
 ·exact h p a
 ·exact⟨v,rfl,c,b⟩
def numAt(l:List (Key×D))(x:Str):Int:=match mJ l (.inr x) with|some (.int v)=>v|_=>0
def m4{l:List (Key×D)}(h:jU l){x:Str}(f:(Sum.inr x:Key)∈l.map (·.1)):mJ l (.inr x)=some (.int (numAt l x))/\0<=numAt l x/\numAt l x<=9:=by
 obtain⟨d,b,c⟩:=uw f
 obtain⟨v,a,g,i⟩:=h _ c
 have a:d=.int v:=a
 subst a
 have e:numAt l x=v:=by unfold numAt;rw[b]
 rw[e]
 exact⟨b,g,i⟩
def Dh{b:List Str}{vs:List Int}(h:∀v∈vs,0<=v/\v<=9):jU ((b.map (Sum.inr:Str->Key)).zip (vs.map D.int)):=λp d=>by
 have a:p.2∈vs.map D.int:=(QeQ (show(p.1,p.2)∈_ from d)).2
 obtain⟨v,c,e⟩:=Qkq.mp a
 exact⟨v,e.symm,h v c⟩
def Fh{a:List Str}{ds:List D}(h:a.length=ds.length):((a.map (Sum.inr:Str->Key)).zip ds).map (·.1)=a.map Sum.inr:=by
 rw[List.map_fst_zip]
 simpa using Nat.le_of_eq h
end DL
namespace W28
open PySem PySem.Spec L2 DL
def cZ(ts:List (Str×Nat))(vs:List Int):List (Key×D):=bL [] (((ts.map (·.1)).map Sum.inr).zip (vs.map D.int))
def wO(w:bK)(s:aH)(ts:List (Str×Nat))(vs:List Int):List (Key×D):=bL (cZ w.ak s.ak) (cZ ts vs)
def oY(r:Rm)(rs:bJ)(a:Int):List (Key×D):=putD (cZ r.ao rs.vals) (.inr "given") (.int a)
def q5(r:Rm)(rs:bJ):List (Key×D):=bL [] ((r.aa.zip rs.aa).map λp=>(Sum.inr p.1.1,D.int (p.2.length:Nat)))
def gx{ts:List (Str×Nat)}{vs:List Int}(h:∀v∈vs,0<=v/\v<=9):jU (cZ ts vs):=jU.merge (λp a=>by cases a) (Dh h)
def gk{ts:List (Str×Nat)}{vs:List Int}(hl:ts.length=vs.length){x:Str}(h:x∈ts.map (·.1)):(Sum.inr x:Key)∈(cZ ts vs).map (·.1):=by
 refine fK (.inr ?_)
 rw[Fh (by simpa using hl)]
 exact Qkq.mpr ⟨x,h,rfl⟩
structure l_(S S':aA):Prop where
 len:S.length<=S'.length
 eq:∀j,j<S.length->S'[j]?=S[j]?
def l_.refl{S:aA}:l_ S S:=⟨Qmq _,λ_ _=>rfl⟩
def l_.app{S a G:aA}(x:l_ S a):l_ S (a++G):=⟨by rw[lQa];have:=x.len;omega,λj b=>by rw[QHq (by have:=x.len;omega)];exact x.eq j b⟩
def l_.put{S a:aA}{r:Nat}{o:O}(x:l_ S a)(c:S.length<=r):l_ S (a.set r o):=⟨by simpa using x.len,λj b=>by rw[QKq (by omega)];exact x.eq j b⟩
def yn{S a:aA}{d:D}{Q:Res->aA->Prop}(x:l_ S a)(hd:∀k,d≠.ref k)(hl:cz 0 d=true)(q:Q (.d d) S):Op (settle S d a) λp=>Q p.1 p.2:=by
 refine gw ⟨x.len,λk o c e=>.inl (by rw[←x.eq k c];exact e)⟩ ?_ hd (sP hl) q
 apply List.ext_getElem?
 intro j
 by_cases b:j<S.length
 ·rw[List.getElem?_take_of_lt b]
  exact x.eq j b
 ·rw[List.getElem?_eq_none (by rw[Qxq];omega),List.getElem?_eq_none (by omega)]
def f_:∀a:Str×Nat,∃r,w_ a=.tup (.str a.1::r):=λa=>⟨_,rfl⟩
def AY:∀a:Str×Str,∃r,KB a=.tup (.str a.1::r):=λa=>⟨_,rfl⟩
section
variable{S:aA}{Q:Res->aA->Prop}
theorem qC:∀{m l:List (Key×D)},(bL l m).length<=l.length+m.length
 | [],l=>Qmq _
 | q::m,l=>by
   have a:(bL (putD l q.1 q.2) m).length<=(putD l q.1 q.2).length+m.length:=qC
   have b:(putD l q.1 q.2).length<=l.length+1:=by unfold putD;split <;>simp
   show(bL (putD l q.1 q.2) m).length<=_
   simp only[Qnq]
   omega
def qP{ts:List (Str×Nat)}{vs:List Int}:(cZ ts vs).length<=ts.length:=by
 refine QAq qC ?_
 simp only[QGq,List.length_zip,lQm]
 omega
def uV{w:bK}{s:aH}{h:Nat}{ts:List (Str×Nat)}{pr:List Rw}{vs:List Int}{fs:List bx}{f:bx}{t:Tr}(A:w.af[h]?=some (ts,pr))(i:s.af[h]?=some (vs,fs))(I:fs.getLast? =some f)(B:f.room= -1)
  (g:w.ak.length=s.ak.length) (r:ts.length=vs.length) (N:w.ak.length<=100) (K:ts.length<=100) (u:∀v∈s.ak,0<=v/\v<=9) (C:∀v∈vs,0<=v/\v<=9)
  (G:t.Ok (ts.map (·.1)++w.ak.map (·.1)) []) (hd:t.dep<=6) (q:Q (.d (.int (rF (numAt (wO w s ts vs)) (λ_=>0) t))) S):Fn cW [w.d,s.d,.int h,t.d] S Q:=by
 have a:jU (wO w s ts vs):=jU.merge (gx u) (gx C)
 refine bF ?_
 unfold kF
 symm
 apply bA i I ?_
 apply aw (d:=.int f.room) rfl ?_
 refine iu ?_
 dsimp only
 rw[Qeq B,Qhq rfl]
 symm
 apply IU ?_
 apply aw rfl ?_
 apply eA (enc:=w_) (nm:=(·.1)) f_ (by omega) ?_
 refine aw rfl ?_
 refine e_ (ds:=s.ak.map D.int) ?_
 refine⟨_,rfl,⟨trivial,by simp only[lQm];exact g⟩,?_⟩
 dsimp only
 rw[show bL [] (((w.ak.map (·.1)).map (Sum.inr:Str->Key)).zip (s.ak.map D.int))=cZ w.ak s.ak from rfl]
 apply aP (xP (Mk ?_))
 apply IU ?_
 apply aw rfl ?_
 refine aw (d:=x9 (ts,pr)) (aC (by rw[gQm,A];rfl)) ?_
 symm
 apply aw rfl ?_
 apply eA (enc:=w_) (nm:=(·.1)) f_ (by omega) ?_
 apply aw rfl ?_
 refine aw (d:=yV (vs,fs)) (aC (by rw[gQm,i];rfl)) ?_
 symm
 refine aw rfl ?_
 refine e_ (ds:=vs.map D.int) ?_
 refine⟨_,rfl,⟨trivial,by simp only[lQm];exact r⟩,?_⟩
 dsimp only
 rw[show bL [] (((ts.map (·.1)).map (Sum.inr:Str->Key)).zip (vs.map D.int))=cZ ts vs from rfl]
 have e:(S++ [O.dct (cZ w.ak s.ak)])[S.length]?=some (.dct (cZ w.ak s.ak)):=aI
 have o:(S++ [O.dct (cZ w.ak s.ak)]).length=S.length+1:=by simp
 have H:l_ S (S++ [O.dct (cZ w.ak s.ak)]):=l_.refl.app
 show∃k j F l m,D.ref S.length=.ref k/\D.ref (S++ [O.dct (cZ w.ak s.ak)]).length=.ref j/\k≠j/\(S++ [O.dct (cZ w.ak s.ak)])[k]?=some (.dct F)/\(S++ [O.dct (cZ w.ak s.ak)]++ [O.dct (cZ ts vs)])[k]?=some (.dct l)/\(S++ [O.dct (cZ w.ak s.ak)]++ [O.dct (cZ ts vs)])[j]?=some (.dct m)/\_
 refine⟨_,_,_,_,_,rfl,rfl,by omega,e,bE e,aI,?_,?_⟩
 ·have M:=qP (ts:=w.ak) (vs:=s.ak)
  have J:=qP (ts:=ts) (vs:=vs)
  exact nQl (bq (by omega))
 have p:((S++ [O.dct (cZ w.ak s.ak)]++ [O.dct (cZ ts vs)]).set S.length (.dct (bL (cZ w.ak s.ak) (cZ ts vs))))[S.length]?=some (.dct (wO w s ts vs)):=eO (bE e)
 have n:l_ S ((S++ [O.dct (cZ w.ak s.ak)]++ [O.dct (cZ ts vs)]).set S.length (.dct (bL (cZ w.ak s.ak) (cZ ts vs)))):=H.app.put (Qmq _)
 generalize ((S++ [O.dct (cZ w.ak s.ak)]++ [O.dct (cZ ts vs)]).set S.length (.dct (bL (cZ w.ak s.ak) (cZ ts vs))))=S2 at p n⊢
 symm
 apply Nl ?_
 refine fJ (th:=numAt (wO w s ts vs)) (wt:=λ_=>0) (ws:=ts.map (·.1)++w.ak.map (·.1)) (bs:= []) (bE p) aI (λx c=> ?_) (λb y=>by cases y) 6 t G hd ?_
 ·refine(m4 a ?_).1
  refine fK ?_
  rcases mQa.mp c with c|c
  ·exact .inr (gk r c)
  ·exact .inl (gk g c)
 ·exact yn n.app (λk z=>(nomatch z)) rfl q
end
section
variable{S:aA}{Q:Res->aA->Prop}
theorem yh:∀(bs:List (Str×Str)) (ls:List (List (Int×Int))),xf ((bs.map (·.1)).map D.str) (ls.map dk)=(bs.zip ls).map λp=>D.tup [.str p.1.1,dk p.2]
 | [],_=>rfl
 |_::_,[]=>rfl
 | b::bs,l::ls=>by
   have:=yh bs ls
   simp only[xf,QDq,List.zipWith_cons_cons,List.zip_cons_cons] at this⊢
   rw[this]
def rh(r:Rm)(rs:bJ)(x:Str):Int:=numAt (q5 r rs) x
def FA{r:Rm}{rs:bJ}(hl:r.aa.length=rs.aa.length){x:Str}(h:x∈r.aa.map (·.1)):mJ (q5 r rs) (.inr x)=some (.int (rh r rs x)):=by
 have f:(Sum.inr x:Key)∈(q5 r rs).map (·.1):=by
  refine fK (.inr ?_)
  rw[QPq]
  obtain⟨b,j,rfl⟩:=Qkq.mp h
  obtain⟨i,c,e⟩:=QbQ j
  refine Qkq.mpr ⟨(b,rs.aa[i]'(by omega)),?_,rfl⟩
  rw[←e]
  have:(r.aa.zip rs.aa)[i]?=some (r.aa[i],rs.aa[i]'(by omega)):=by
   rw[List.getElem?_zip_eq_some]
   exact⟨gQe c,gQe (by omega)⟩
  exact mQg this
 obtain⟨d,g,a⟩:=uw f
 have c:∃v:Int,d=.int v:=by
  rcases lQ a with a|a
  ·cases a
  ·obtain⟨p,_,e⟩:=Qkq.mp a
   exact⟨_,(congrArg (·.2) e).symm⟩
 obtain⟨v,rfl⟩:=c
 unfold rh DL.numAt
 rw[g]
def tF{w:bK}{s:aH}{h i:Nat}{vs:List Int}{fs:List bx}{f:bx}{r:Rm}{rs:bJ}{t:Tr}(C:s.af[h]?=some (vs,fs))(J:fs.getLast? =some f)(F:f.room=i)(n:w.aj[i]?=some r)(j:s.aj[i]?=some rs)
  (m:r.ao.length=rs.vals.length) (G:r.aa.length=rs.aa.length) (N:r.ao.length<=100) (M:r.aa.length<=100) (A:∀v∈rs.vals,0<=v/\v<=9) (y:0<=f.given/\f.given<=9)
  (H:t.Ok (r.ao.map (·.1)++nQ) (r.aa.map (·.1))) (hd:t.dep<=6) (q:Q (.d (.int (rF (numAt (oY r rs f.given)) (rh r rs) t))) S):Fn cW [w.d,s.d,.int h,t.d] S Q:=by
 have e:jU (oY r rs f.given):=(gx A).put y.1 y.2
 refine bF ?_
 unfold kF
 symm
 apply bA C J ?_
 apply aw (d:=.int f.room) rfl ?_
 refine iu ?_
 dsimp only
 rw[Qdq (show¬f.room= -1 by omega),Quq (by decide),F]
 apply cB ?_
 apply IU ?_
 apply aw rfl ?_
 refine aw (d:=r.d) (aC (by rw[gQm,n];rfl)) ?_
 symm
 apply aw rfl ?_
 apply eA (enc:=w_) (nm:=(·.1)) f_ (by omega) ?_
 apply aw rfl ?_
 refine aw (d:=rs.d) (aC (by rw[gQm,j];rfl)) ?_
 symm
 refine aw rfl ?_
 refine e_ (ds:=rs.vals.map D.int) ?_
 refine⟨_,rfl,⟨trivial,by simp only[lQm];exact m⟩,?_⟩
 dsimp only
 rw[show bL [] (((r.ao.map (·.1)).map (Sum.inr:Str->Key)).zip (rs.vals.map D.int))=cZ r.ao rs.vals from rfl]
 have I:l_ S (S++ [O.dct (cZ r.ao rs.vals)]):=l_.refl.app
 apply aP (Nb ?_)
 apply aw (d:=.int f.given) rfl ?_
 refine⟨_,_,_,rfl,rfl,aI,bq (by have:=qP (ts:=r.ao) (vs:=rs.vals);omega),?_⟩
 have u:((S++ [O.dct (cZ r.ao rs.vals)]).set S.length (.dct (putD (cZ r.ao rs.vals) (.inr "given") (.int f.given))))[S.length]?=some (.dct (oY r rs f.given)):=eO aI
 have o:l_ S ((S++ [O.dct (cZ r.ao rs.vals)]).set S.length (.dct (putD (cZ r.ao rs.vals) (.inr "given") (.int f.given)))):=I.put (Qmq _)
 generalize ((S++ [O.dct (cZ r.ao rs.vals)]).set S.length (.dct (putD (cZ r.ao rs.vals) (.inr "given") (.int f.given))))=S2 at u o⊢
 apply aP (ND (α:=(Str×Str)×List (Int×Int)) (λc=>∃a b,c= [a,b]) (λp=>D.tup [.str p.1.1,dk p.2]) (λp=>p.1.1) (λp=>.int (p.2.length:Nat)) ⟨none,none,rfl⟩ (Fo ?_))
 apply aw rfl ?_
 refine aw (d:=r.d) (aC (by rw[gQm,n];rfl)) ?_
 symm
 apply aw rfl ?_
 apply eA (enc:=KB) (nm:=(·.1)) AY (by omega) ?_
 apply aw rfl ?_
 refine aw (d:=rs.d) (aC (by rw[gQm,j];rfl)) ?_
 symm
 refine aw rfl ?_
 refine e_ (ds:=rs.aa.map dk) ?_
 refine⟨⟨trivial,by simp only[lQm];omega⟩,r.aa.zip rs.aa,yh _ _,⟨trivial,trivial⟩,by rw[List.length_zip];omega,λp K c l=> ?_,?_⟩
 ·obtain⟨a,b,rfl⟩:=l
  refine eD rfl (ax (aQ (ax (aQ (bc ?_)))))
  apply⟨rfl,⟨_,_,rfl⟩,?_⟩
  apply⟨rfl,rfl,?_⟩
  refine e_ (ds:=p.2.map pairD) ?_
  exact⟨by simp,rfl⟩
 symm
 refine fJ (th:=numAt (oY r rs f.given)) (wt:=rh r rs) (ws:=r.ao.map (·.1)++nQ) (bs:=r.aa.map (·.1)) (kws:=q5 r rs) (bE u) aI (λx g=> ?_) (λb B=>FA G B) 6 t H hd ?_
 ·refine(m4 e ?_).1
  refine kr ?_
  rcases mQa.mp g with g|g
  ·exact .inr (gk m g)
  ·left
   rw[Qfq.mp g]
 ·exact yn o.app (λk z=>(nomatch z)) rfl q
end
end W28
namespace DL
open PySem PySem.Spec L2
def FJ{b:cv}{S:aA}{a:Bool}{f:aV}{g:eU}{Q:D->aA->Prop}(h:E f b S λx c=>E g b c λp S2=>∃v vs,u0 x=some v/\mX p.1=some vs/\Q (.bl (if a then !C9 v vs else C9 v vs)) S2):E (GL a f g) b S Q:=by
 obtain⟨x,c,i,p,S2,e,v,vs,j,d,q⟩:=h
 exact⟨_,S2,by unfold GL;rw[i];simp only[Qbq];rw[e];simp only[Qbq];rw[j,d];rfl,q⟩
def Hr{x:Str}{b:List Str}:C9 (.str x) (b.map V.str)=decide (x∈b):=by
 induction b with
 |nil=>rfl
 | cons a b d=>
   show(vW (.str a) (.str x)||C9 (.str x) (b.map V.str))=_
   rw[d]
   simp only[vW,Qsq]
   by_cases c:a=x
   · subst c;simp
   · have e:¬x=a:=λz=>c z.symm
     simp[c,e]
end DL
namespace W28
open PySem PySem.Spec L2 DL
section
variable{S:aA}{Q:Res->aA->Prop}
def cK(ns:List Str)(vs:List Int)(x:Str)(v:Int):List Int:=vs.set ((jQ (.str x) (ns.map V.str)).getD 0) v
def mI{α:Type}{enc:α->D}{nm:α->Str}{xs:List α}{x:Str}(he:∀a,∃r,enc a=.tup (.str (nm a)::r))(hl:xs.length<=1000)(g:x∈xs.map nm)(q:((jQ (.str x) ((xs.map nm).map V.str)).getD 0)<xs.length->Q (.d (.int ((jQ (.str x) ((xs.map nm).map V.str)).getD 0:Nat))) S):Fn cE [.tup (xs.map enc),.str x] S Q:=by
 refine bF ?_
 unfold n_
 obtain⟨j,e,f⟩:=vZ g
 have i:j<xs.length:=by have:=(gQs.mp f).1;simpa using this
 rw[e] at q
 refine jn ?_
 have c:E (pB (dM dg (ar (av 0) au))) ([D.tup (xs.map enc),D.str x].map some++List.replicate (2- [D.tup (xs.map enc),D.str x].length) none) S λp b=>p=((xs.map nm).map D.str,.fr)/\b=S:=by
  symm
  exact eA he hl ⟨rfl,rfl⟩
 obtain⟨p,b,h,rfl,rfl⟩:=c
 refine⟨.int j,b,?_,bP (λk z=>(nomatch z)) rfl (q i)⟩
 unfold IC
 rw[h]
 simp only[Qbq]
 rw[Qhq (show Tag.fr.isL=true from rfl)]
 show((av 1 _ b).bind _)=_
 rw[show av 1 ([D.tup (xs.map enc),D.str x].map some++List.replicate (2- [D.tup (xs.map enc),D.str x].length) none) b=some (.str x,b) from rfl]
 simp only[Qbq]
 rw[Qhq (show Tag.stays b _ .fr from trivial)]
 show(u0 (.str x)).bind _=_
 simp only[u0,Qbq]
 rw[lF]
 simp only[Qbq]
 rw[e]
 rfl
def yz{w:bK}{s:aH}{h i:Nat}{vs:List Int}{fs:List bx}{f:bx}{r:Rm}{rs:bJ}{x:Str}{v:Int}(b:s.af[h]?=some (vs,fs))(k:fs.getLast? =some f)(j:f.room=i)(g:w.aj[i]?=some r)(a:s.aj[i]?=some rs)
  (l:r.ao.length=rs.vals.length) (o:r.ao.length<=100) (n:s.aj.length<=100) (c:x∈r.ao.map (·.1))
  (q:Q (.d ({s with aj:=s.aj.set i {rs with vals:=cK (r.ao.map (·.1)) rs.vals x v}}:aH).d) S):Fn d0 [w.d,s.d,.int h,.str x,.int v] S Q:=by
 refine bF ?_
 unfold i6
 symm
 apply bA b k ?_
 apply aw (d:=.int f.room) rfl ?_
 refine m5 ?_
 dsimp only
 rw[Qdq (show¬f.room= -1 by omega),j]
 show if (true=true) then _ else _
 rw[Qhq rfl]
 symm
 apply aw rfl ?_
 refine aw (d:=r.d) (aC (by rw[gQm,g];rfl)) ?_
 symm
 apply aw rfl ?_
 apply mI (enc:=w_) (nm:=(·.1)) f_ (by omega) c λm=> ?_
 apply aw rfl ?_
 refine aw (d:=rs.d) (aC (by rw[gQm,a];rfl)) ?_
 symm
 apply aw rfl ?_
 refine da (xs:=rs.vals.map D.int) (by rw[lQm];omega) (by rw[lQm];omega) (bB λ_ _=>rfl) rfl ?_
 symm
 refine⟨by show 1<=_;decide,?_⟩
 apply jB ?_
 apply aw rfl ?_
 refine aw (d:=rs.d) (aC (by rw[gQm,a];rfl)) ?_
 apply cx ?_
 refine⟨_,rfl,cy ⟨_,rfl,?_⟩⟩
 refine di (by show 5<=_;decide) ?_
 symm
 have e:({rs with vals:=cK (r.ao.map (·.1)) rs.vals x v}:bJ).d=.tup ([.tup ((rs.vals.map D.int).set ((jQ (.str x) ((r.ao.map (·.1)).map V.str)).getD 0) (.int v))]++jk [bM rs.vals,.int rs.within,bM rs.row,bM rs.ag,.tup (rs.aa.map dk)] (some 1) none):=by
  show D.tup [bM (cK _ _ _ _),_,_,_,_]=_
  unfold cK bM
  rw[map_set]
  rfl
 rw[←e]
 refine cH (gQs.mp a).1 (by omega) ?_
 exact bP (aM _) (aH.low _) q
end
section
variable{S:aA}{Q:Res->aA->Prop}
def ka(w:bK)(s:aH)(h:Nat)(ts:List (Str×Nat))(vs:List Int)(fs:List bx)(x:Str)(v:Int):aH:=
 if x∈w.ak.map (·.1) then{s with ak:=cK (w.ak.map (·.1)) s.ak x v} else{s with af:=s.af.set h (cK (ts.map (·.1)) vs x v,fs)}
def AB{w:bK}{s:aH}{h:Nat}{ts:List (Str×Nat)}{pr:List Rw}{vs:List Int}{fs:List bx}{f:bx}{x:Str}{v:Int}(i:w.af[h]?=some (ts,pr))(a:s.af[h]?=some (vs,fs))(n:fs.getLast? =some f)(k:f.room= -1)
  (o:w.ak.length=s.ak.length) (u:ts.length=vs.length) (y:w.ak.length<=100) (r:ts.length<=100) (t:s.af.length<=100) (g:x∈ts.map (·.1)++w.ak.map (·.1))
  (q:Q (.d (ka w s h ts vs fs x v).d) S):Fn d0 [w.d,s.d,.int h,.str x,.int v] S Q:=by
 refine bF ?_
 unfold i6
 symm
 apply bA a n ?_
 apply aw (d:=.int f.room) rfl ?_
 refine m5 ?_
 dsimp only
 rw[Qeq k]
 refine bf (λc=>by cases c) (λ_=>cB ?_)
 apply aP (eC (dI (FJ ?_)))
 apply aw rfl ?_
 apply eA (enc:=w_) (nm:=(·.1)) f_ (by omega) ?_
 refine⟨_,_,rfl,lF _,?_⟩
 unfold ka at q
 show if C9 (.str x) ((w.ak.map (·.1)).map V.str)=true then _ else _
 rw[Hr]
 by_cases c:x∈w.ak.map (·.1)
 ·rw[Qhq c] at q
  rw[Qeq c,Qhq rfl]
  symm
  apply aw rfl ?_
  apply aw rfl ?_
  apply mI (enc:=w_) (nm:=(·.1)) f_ (by omega) c λj=> ?_
  refine da (xs:=s.ak.map D.int) (by rw[lQm];omega) (by rw[lQm];omega) (bB λ_ _=>rfl) rfl ?_
  symm
  apply aw rfl ?_
  apply aw rfl ?_
  apply aw rfl ?_
  refine⟨by show 4<=_;decide,?_⟩
  rw[←map_set]
  exact bP (d:=({s with ak:=cK (w.ak.map (·.1)) s.ak x v}:aH).d) (aM _) (aH.low _) q
 ·rw[Quq c] at q
  rw[Qdq c,Quq (by decide)]
  refine cB ?_
  have b:x∈ts.map (·.1):=(mQa.mp g).resolve_right c
  symm
  apply aw rfl ?_
  refine aw (d:=yV (vs,fs)) (aC (by rw[gQm,a];rfl)) ?_
  apply eD rfl (ax (aQ (ax (aQ (bc ?_)))))
  apply aw rfl ?_
  refine aw (d:=x9 (ts,pr)) (aC (by rw[gQm,i];rfl)) ?_
  symm
  apply aw rfl ?_
  apply mI (enc:=w_) (nm:=(·.1)) f_ (by omega) b λj=> ?_
  refine da (xs:=vs.map D.int) (by rw[lQm];omega) (by rw[lQm];omega) (bB λ_ _=>rfl) rfl ?_
  symm
  rw[←map_set]
  rw[show D.tup ((vs.set ((jQ (.str x) ((ts.map (·.1)).map V.str)).getD 0) v).map D.int)=bM (cK (ts.map (·.1)) vs x v) from rfl]
  generalize cK (ts.map (·.1)) vs x v=nv at q⊢
  have l:h<s.af.length:=(gQs.mp a).1
  have e:s.af.length<=900:=by omega
  have m:Op (settle S ({s with af:=s.af.set h (nv,fs)}:aH).d S) λp=>Q p.1 p.2:=bP (aM _) (aH.low _) q
  exact fZ l e m
end
section
variable{S:aA}{Q:Res->aA->Prop}
def bX(ns:List Str)(x:Str):Nat:=(jQ (.str x) (ns.map V.str)).getD 0
def fS{ns:List Str}{x:Str}(h:x∈ns):bX ns x<ns.length/\ns[bX ns x]?=some x:=by
 obtain⟨j,b,a⟩:=vZ h
 unfold bX
 rw[b]
 exact⟨(gQs.mp a).1,a⟩
def iR{α:Type}{enc:α->D}{nm:α->Str}{xs:List α}{x:Str}(he:∀a,∃r,enc a=.tup (.str (nm a)::r))(hl:xs.length<=1000)(b:x∈xs.map nm)(q:Q (.d (.int (bX (xs.map nm) x:Nat))) S):Fn cE [.tup (xs.map enc),.str x] S Q:=mI he hl b λ_=>q
def kZ{w:bK}{s:aH}{h i:Nat}{vs:List Int}{fs:List bx}{f:bx}{r:Rm}{x:Str}(a:s.af[h]?=some (vs,fs))(g:fs.getLast? =some f)(e:f.room=i)(c:w.aj[i]?=some r)(j:r.aa.length<=100)(b:x∈r.aa.map (·.1))
  (q:Q (.d (.tup [.int i,.int (bX (r.aa.map (·.1)) x:Nat)])) S):Fn ik [w.d,s.d,.int h,.str x] S Q:=by
 refine bF ?_
 unfold sG
 symm
 apply bA a g ?_
 refine aw (d:=.int f.room) rfl ?_
 rw[e]
 symm
 apply aw rfl ?_
 refine aw (d:=r.d) (aC (by rw[gQm,c];rfl)) ?_
 symm
 apply aw rfl ?_
 apply iR (enc:=KB) (nm:=(·.1)) AY (by omega) b ?_
 refine⟨by show 2<=_;decide,?_⟩
 exact bP (λk z=>(nomatch z)) rfl q
def jl{s:aH}{i b:Nat}{rs:bJ}{l:List (Int×Int)}(a:s.aj[i]?=some rs)(h:b<rs.aa.length)(k:rs.aa.length<=100)(j:s.aj.length<=100)
  (q:Q (.d ({s with aj:=s.aj.set i {rs with aa:=rs.aa.set b l}}:aH).d) S):Fn dY [s.d,.int i,.int b,dk l] S Q:=by
 refine bF ?_
 unfold l8
 symm
 apply aw rfl ?_
 refine aw (d:=rs.d) (aC (by rw[gQm,a];rfl)) ?_
 symm
 apply jB ?_
 apply cy (cx ?_)
 apply⟨_,rfl,_,rfl,?_⟩
 apply aw rfl ?_
 refine da (xs:=rs.aa.map dk) (by rw[lQm];omega) (by rw[lQm];omega) (bB λl _=>r9 l) (r9 l) ?_
 symm
 refine⟨by show 1<=_;decide,?_⟩
 refine di (by show 5<=_;decide) ?_
 symm
 rw[←map_set]
 generalize c:rs.aa.set b l=nb at q⊢
 have e:({rs with aa:=nb}:bJ).d=.tup (jk [bM rs.vals,.int rs.within,bM rs.row,bM rs.ag,.tup (rs.aa.map dk)] none (some 4)++ [.tup (nb.map dk)]):=rfl
 rw[←e]
 have f:i<s.aj.length:=(gQs.mp a).1
 have hl:s.aj.length<=900:=by omega
 have g:Op (settle S ({s with aj:=s.aj.set i {rs with aa:=nb}}:aH).d S) λp=>Q p.1 p.2:=bP (aM _) (aH.low _) q
 exact cH f hl g
def dG(p:Int×List Int)(h:Int):Int×List Int:=if 0<p.1 then(p.1-1,p.2) else(p.1,p.2++ [h])
def cR(p:Int×List Int):Int×List Int:=match p.2 with
 |_::l=>(p.1,l)
 | []=>(if 9<p.1+1 then 9 else p.1+1,[])
def xY{w:bK}{s:aH}{h:Int}{x:Str}{p:Int×List Int}(g:x∈w.ai.map (·.1))(b:s.ai[bX (w.ai.map (·.1)) x]?=some p)(l:w.ai.length<=100)(i:s.ai.length<=100)(k:p.2.length<=900)
  (q:Q (.d ({s with ai:=s.ai.set (bX (w.ai.map (·.1)) x) (dG p h)}:aH).d) S):Fn rN [w.d,s.d,.int h,.str x] S Q:=by
 refine bF ?_
 unfold zN
 symm
 apply aw rfl ?_
 refine iR (enc:=w_) (nm:=(·.1)) f_ (by omega) g ?_
 generalize bX (w.ai.map (·.1)) x=j at b q⊢
 have f:j<s.ai.length:=(gQs.mp b).1
 have hl:s.ai.length<=900:=by omega
 symm
 apply aw rfl ?_
 refine aw (d:=yR p) (aC (by rw[gQm,b];rfl)) ?_
 refine eD rfl (ax (aQ (ax (aQ (bc ?_)))))
 have a:Op (settle S ({s with ai:=s.ai.set j (dG p h)}:aH).d S) λp=>Q p.1 p.2:=bP (aM _) (aH.low _) q
 unfold dG at a
 symm
 by_cases c:0<p.1
 ·rw[Qhq c] at a
  rw[Qeq c,Qhq rfl]
  symm
  refine⟨by show 2<=_;decide,?_⟩
  symm
  exact fY (p:=(p.1-1,p.2)) f hl a
 ·rw[Quq c] at a
  rw[Qdq c,Quq (by decide)]
  apply cB ?_
  refine⟨by show 1<=_;decide,?_⟩
  refine di (by simp only[lQm,Qnq,QGq];exact nQl (bq (by omega))) ?_
  symm
  refine⟨by show 2<=_;decide,?_⟩
  symm
  have e:D.tup [.int p.1,.tup (p.2.map D.int++ [.int h])]=yR (p.1,p.2++ [h]):=by simp[yR,bM]
  rw[e]
  exact fY f hl a
end
section
variable{S:aA}{Q:Res->aA->Prop}
def kS{w:bK}{s:aH}{x:Str}{p:Int×List Int}(i:x∈w.ai.map (·.1))(b:s.ai[bX (w.ai.map (·.1)) x]?=some p)(m:w.ai.length<=100)(k:s.ai.length<=100)
  (q:Q (.d ({s with ai:=s.ai.set (bX (w.ai.map (·.1)) x) (cR p)}:aH).d) S):Fn fG [w.d,s.d,.str x] S Q:=by
 refine bF ?_
 unfold jP
 symm
 apply aw rfl ?_
 refine iR (enc:=w_) (nm:=(·.1)) f_ (by omega) i ?_
 generalize bX (w.ai.map (·.1)) x=j at b q⊢
 have h:j<s.ai.length:=(gQs.mp b).1
 have hl:s.ai.length<=900:=by omega
 symm
 apply aw rfl ?_
 refine aw (d:=yR p) (aC (by rw[gQm,b];rfl)) ?_
 refine eD rfl (ax (aQ (ax (aQ (bc ?_)))))
 have g:Op (settle S ({s with ai:=s.ai.set j (cR p)}:aH).d S) λp=>Q p.1 p.2:=bP (aM _) (aH.low _) q
 obtain⟨v,f⟩:=p
 symm
 refine uW ?_
 cases f with
 | cons a l=>
   apply bf (λ_=> ?_) (λc=>by cases c)
   apply jB ?_
   apply cx ?_
   apply⟨_,rfl,cy ⟨_,rfl,?_⟩⟩
   refine⟨by show 2<=_;decide,?_⟩
   symm
   have e:D.tup (jk ((a::l).map D.int) (some 1) none)=bM l:=by
     rw[show(some (1:Int))=some ((1:Nat):Int) from rfl,ij (by simp)]
     rfl
   rw[e]
   exact fY (p:=(v,l)) h hl g
 | nil=>
   apply bf (λc=>by cases c) (λ_=>cB ?_)
   apply Ez ?_
   refine⟨by show 2<=_;decide,?_⟩
   symm
   exact fY (p:=(if 9<v+1 then 9 else v+1,[])) h hl g
def tY{b sd hd a:D}{s:aH}(q:Q (.d s.d) S):Fn pX [b,s.d,hd,a] S Q:=by
 refine bF ?_
 unfold vd
 symm
 exact bP (aM _) (aH.low _) q
def w6{c:D}{s:aH}{h n:Nat}{vs:List Int}{fs:List bx}{f:bx}(b:s.af[h]?=some (vs,fs))(a:fs.getLast? =some f)(g:fs.length<=900)(hl:s.af.length<=900)(q:Q (.d ({s with af:=s.af.set h (vs,fs.dropLast++ [{f with row:=n}])}:aH).d) S):Fn uR [c,s.d,.int h,(Rw.go n).d] S Q:=by
 refine bF ?_
 unfold zx
 symm
 apply aw (d:=.int n) rfl ?_
 have e:Op (settle S ({s with af:=s.af.set h (vs,fs.dropLast++ [{f with row:=n}])}:aH).d S) λp=>Q p.1 p.2:=bP (aM _) (aH.low _) q
 exact og b a g hl e
end
section
variable{S:aA}{Q:Res->aA->Prop}
def r_{w:bK}{s:aH}{h:Int}{x:Str}{p:Int×List Int}(b:x∈w.ai.map (·.1))(e:s.ai[bX (w.ai.map (·.1)) x]?=some p)(g:w.ai.length<=100)(a:s.ai.length<=100)(c:p.2.length<=900)
  (q:Q (.d ({s with ai:=s.ai.set (bX (w.ai.map (·.1)) x) (dG p h)}:aH).d) S):Fn mi [w.d,s.d,.int h,(Rw.take x).d] S Q:=by
 refine bF ?_
 unfold qO
 symm
 apply aw (d:=.str x) rfl ?_
 have f:Op (settle S ({s with ai:=s.ai.set (bX (w.ai.map (·.1)) x) (dG p h)}:aH).d S) λp=>Q p.1 p.2:=bP (aM _) (aH.low _) q
 exact xY b e g a c f
def rL{w:bK}{s:aH}{hd:D}{x:Str}{p:Int×List Int}(b:x∈w.ai.map (·.1))(c:s.ai[bX (w.ai.map (·.1)) x]?=some p)(f:w.ai.length<=100)(a:s.ai.length<=100)
  (q:Q (.d ({s with ai:=s.ai.set (bX (w.ai.map (·.1)) x) (cR p)}:aH).d) S):Fn mQ [w.d,s.d,hd,(Rw.give x).d] S Q:=by
 refine bF ?_
 unfold qX
 symm
 apply aw (d:=.str x) rfl ?_
 have e:Op (settle S ({s with ai:=s.ai.set (bX (w.ai.map (·.1)) x) (cR p)}:aH).d S) λp=>Q p.1 p.2:=bP (aM _) (aH.low _) q
 exact kS b c f a e
end
section
variable{S:aA}{Q:Res->aA->Prop}
def uZ(w:bK)(s:aH)(h:Nat)(t:Tr)(v:Int):Prop:=∀(S:aA) (Q:Res->aA->Prop),Q (.d (.int v)) S->Fn cW [w.d,s.d,.int h,t.d] S Q
def Puts(w:bK)(s:aH)(h:Nat)(x:Str)(v:Int)(s':aH):Prop:=∀(S:aA) (Q:Res->aA->Prop),Q (.d s'.d) S->Fn d0 [w.d,s.d,.int h,.str x,.int v] S Q
def qg{w:bK}{s:aH}{h:Int}{x y:Str}{p a:Int×List Int}(f:x∈w.ai.map (·.1))(k:y∈w.ai.map (·.1))(i:s.ai[bX (w.ai.map (·.1)) x]?=some p)(e:w.ai.length<=100)(c:s.ai.length<=100)(g:a.2.length<=900)
  (b:(s.ai.set (bX (w.ai.map (·.1)) x) (cR p))[bX (w.ai.map (·.1)) y]?=some a)
  (q:Q (.d ({s with ai:=(s.ai.set (bX (w.ai.map (·.1)) x) (cR p)).set (bX (w.ai.map (·.1)) y) (dG a h)}:aH).d) S):Fn mO [w.d,s.d,.int h,(Rw.pass x y).d] S Q:=by
 refine bF ?_
 unfold qv
 symm
 apply aw (d:=.str x) rfl ?_
 apply kS f i e c ?_
 apply aw (d:=.str y) rfl ?_
 have j:Op (settle S ({s with ai:=(s.ai.set (bX (w.ai.map (·.1)) x) (cR p)).set (bX (w.ai.map (·.1)) y) (dG a h)}:aH).d S) λp=>Q p.1 p.2:=bP (aM _) (aH.low _) q
 exact xY (s:={s with ai:=s.ai.set (bX (w.ai.map (·.1)) x) (cR p)}) k b e (by simpa using c) g j
def t9{w:bK}{s s':aH}{h:Nat}{x:Str}{t:Tr}{v:Int}(a:uZ w s h t v)(b:Puts w s h x v s')(q:Q (.d s'.d) S):Fn p5 [w.d,s.d,.int h,(Rw.put x t).d] S Q:=by
 refine bF ?_
 unfold vL
 symm
 apply aw (d:=.str x) rfl ?_
 apply aw (d:=t.d) rfl ?_
 apply a _ _ ?_
 refine b _ _ ?_
 exact bP (aM _) (aH.low _) q
def mK{w:bK}{s:aH}{h n:Nat}{t:Tr}{v:Int}{vs:List Int}{fs:List bx}{f:bx}(e:uZ w s h t v)(g:s.af[h]?=some (vs,fs))(a:fs.getLast? =some f)(b:fs.length<=900)(hl:s.af.length<=900)
  (q:Q (.d (if v=0 then({s with af:=s.af.set h (vs,fs.dropLast++ [{f with row:=n}])}:aH) else s).d) S):Fn iZ [w.d,s.d,.int h,(Rw.unl t n).d] S Q:=by
 refine bF ?_
 unfold lO
 symm
 apply aw (d:=t.d) rfl ?_
 apply e _ _ ?_
 refine iu ?_
 dsimp only
 by_cases c:v=0
 ·rw[Qhq c] at q
  rw[Qeq c,Qhq rfl]
  symm
  apply aw (d:=.int n) rfl ?_
  have i:Op (settle S ({s with af:=s.af.set h (vs,fs.dropLast++ [{f with row:=n}])}:aH).d S) λp=>Q p.1 p.2:=bP (aM _) (aH.low _) q
  exact og g a b hl i
 ·rw[Quq c] at q
  rw[Qdq c,Quq (by decide)]
  apply cB ?_
  exact bP (aM _) (aH.low _) q
end
section
variable{S:aA}{Q:Res->aA->Prop}
def qo{w:bK}{s:aH}{h:Nat}{t:Tr}{v:Int}{vs:List Int}{fs:List bx}{f:bx}(j:uZ w s h t v)(e:s.af[h]?=some (vs,fs))(c:fs.getLast? =some f)(g:fs.length<=900)(hl:s.af.length<=900)
  (q:Q (.d ({s with af:=s.af.set h (vs,fs.dropLast++ [{f with told:=v}])}:aH).d) S):Fn mN [w.d,s.d,.int h,(Rw.tell t).d] S Q:=by
 refine bF ?_
 unfold qt
 symm
 apply aw (d:=t.d) rfl ?_
 apply j _ _ ?_
 apply jB ?_
 refine bA e c ?_
 apply cy (cx ?_)
 apply⟨_,rfl,_,rfl,?_⟩
 refine⟨by show 1<=_;decide,?_⟩
 refine di (by show 5<=_;decide) ?_
 symm
 have i:0<fs.length:=by
  cases fs with
  |nil=>cases c
  |cons a b=>simp
 have k:Op (settle S ({s with af:=s.af.set h (vs,fs.dropLast++ [{f with told:=v}])}:aH).d S) λp=>Q p.1 p.2:=bP (aM _) (aH.low _) q
 exact gM (f:={f with told:=v}) e i g hl k
def uH{w:bK}{s:aH}{h i:Nat}{vs:List Int}{fs:List bx}{f:bx}{r:Rm}{rs:bJ}{x:Str}(g:s.af[h]?=some (vs,fs))(t:fs.getLast? =some f)(k:f.room=i)(j:w.aj[i]?=some r)(a:s.aj[i]?=some rs)(m:r.aa.length<=100)(u:r.aa.length=rs.aa.length)(n:s.aj.length<=100)(e:x∈r.aa.map (·.1))
  (q:Q (.d ({s with aj:=s.aj.set i {rs with aa:=rs.aa.set (bX (r.aa.map (·.1)) x) []}}:aH).d) S):Fn qc [w.d,s.d,.int h,(Rw.all x).d] S Q:=by
 have c:=(fS e).1
 rw[lQm] at c
 refine bF ?_
 unfold vJ
 symm
 apply aw (d:=.str x) rfl ?_
 refine kZ g t k j m e ?_
 refine eD rfl (ax (aQ (ax (aQ (bc ?_)))))
 generalize bX (r.aa.map (·.1)) x=b at c q⊢
 symm
 apply⟨by decide,?_⟩
 have o:Op (settle S ({s with aj:=s.aj.set i {rs with aa:=rs.aa.set b []}}:aH).d S) λp=>Q p.1 p.2:=bP (aM _) (aH.low _) q
 exact jl (l:= []) a (by omega) (by omega) n o
end
section
variable{S:aA}{Q:Res->aA->Prop}
def Kh:∀a:Rm,∃r,a.d=.tup (.str a.name::r):=λa=>⟨_,rfl⟩
def Er:∀a:Str×List Rw,∃r,Bo a=.tup (.str a.1::r):=λa=>⟨_,rfl⟩
def xE{w:bK}{s:aH}{h:Nat}{g:Option Str}{rn a:Str}{t:Tr}{v:Int}{vs:List Int}{fs:List bx}{r:Rm}{rs:bJ}(n:uZ w s h t v)(j:s.af[h]?=some (vs,fs))(f:rn∈w.aj.map (·.name))(k:w.aj[bX (w.aj.map (·.name)) rn]?=some r)(b:s.aj[bX (w.aj.map (·.name)) rn]?=some rs)(c:a∈r.ae.map (·.1))
  (B:w.aj.length<=100) (z:r.ae.length<=100) (A:s.aj.length<=100) (l:rs.row.length<=900) (y:fs.length<=900) (x:s.af.length<=100)
  (q:Q (.d ({s with af:=s.af.set h (vs,fs++ [⟨(bX (w.aj.map (·.name)) rn:Nat),(bX (r.ae.map (·.1)) a:Nat),0,v,0⟩]),aj:=s.aj.set (bX (w.aj.map (·.name)) rn) (eh rs h)}:aH).d) S):Fn wA [w.d,s.d,.int h,(Rw.do_ g rn a t).d] S Q:=by
 refine bF ?_
 unfold zA
 symm
 apply aw rfl ?_
 apply aw (d:=.str rn) rfl ?_
 refine iR (enc:=Rm.d) (nm:=(·.name)) Kh (by omega) f ?_
 generalize bX (w.aj.map (·.name)) rn=i at k b q⊢
 symm
 apply aw rfl ?_
 refine aw (d:=r.d) (aC (by rw[gQm,k];rfl)) ?_
 symm
 apply aw rfl ?_
 apply aw (d:=.str a) rfl ?_
 refine iR (enc:=Bo) (nm:=(·.1)) Er (by omega) c ?_
 generalize bX (r.ae.map (·.1)) a=dd at q⊢
 symm
 apply aw (d:=t.d) rfl ?_
 apply n _ _ ?_
 refine⟨by show 5<=_;decide,?_⟩
 symm
 apply aw rfl ?_
 refine aw (d:=yV (vs,fs)) (aC (by rw[gQm,j];rfl)) ?_
 apply eD rfl (ax (aQ (ax (aQ (bc ?_)))))
 refine⟨by show 1<=_;decide,?_⟩
 refine di (by simp only[lQm,Qnq,QGq];exact nQl (bq (by omega))) ?_
 symm
 have e:fs.map bx.d++ [D.tup [.int i,.int dd,.int 0,.int v,.int 0]]=(fs++ [(⟨i,dd,0,v,0⟩:bx)]).map bx.d:=by rw[Qzq];rfl
 rw[e]
 generalize m:fs++ [(⟨i,dd,0,v,0⟩:bx)]=nf at q⊢
 have o:h<s.af.length:=(gQs.mp j).1
 apply fZ (vs:=vs) (fs:=nf) o (by omega) ?_
 have u:Op (settle S ({s with af:=s.af.set h (vs,nf),aj:=s.aj.set i (eh rs h)}:aH).d S) λp=>Q p.1 p.2:=bP (aM _) (aH.low _) q
 exact sf (s:={s with af:=s.af.set h (vs,nf)}) b (by show s.aj.length<=900;omega) l u
end
section
variable{S:aA}{Q:Res->aA->Prop}
def mz(free:Bool)(rs:bJ)(b:Nat)(h:Int):bJ:=match rs.aa[b]? with
 |some (p::l)=>if free then{rs with aa:=rs.aa.set b l} else{rs with aa:=rs.aa.set b l,within:=p.2,ag:=rs.ag++ [h]}
 |_=>rs
def rH{w:bK}{s:aH}{h i:Nat}{vs:List Int}{fs:List bx}{f:bx}{r:Rm}{rs:bJ}{x:Str}(A:s.af[h]?=some (vs,fs))(J:fs.getLast? =some f)(F:f.room=i)(y:w.aj[i]?=some r)(k:s.aj[i]?=some rs)(H:r.aa.length<=100)(M:r.aa.length=rs.aa.length)(I:s.aj.length<=100)(K:rs.ag.length<=900)(v:x∈r.aa.map (·.1))
  (q:Q (.d ({s with aj:=s.aj.set i (mz (decide (r.ah="when free")) rs (bX (r.aa.map (·.1)) x) h)}:aH).d) S):Fn mj [w.d,s.d,.int h,(Rw.call x).d] S Q:=by
 have t:=(fS v).1
 rw[lQm] at t
 have o:i<s.aj.length:=(gQs.mp k).1
 refine bF ?_
 unfold qR
 symm
 apply aw (d:=.str x) rfl ?_
 refine kZ A J F y H v ?_
 refine eD rfl (ax (aQ (ax (aQ (bc ?_)))))
 generalize bX (r.aa.map (·.1)) x=b at t q⊢
 have u:b<rs.aa.length:=by omega
 obtain⟨m,a⟩:∃l,rs.aa[b]?=some l:=⟨_,gQe u⟩
 have g:Op (settle S ({s with aj:=s.aj.set i (mz (decide (r.ah="when free")) rs b h)}:aH).d S) λp=>Q p.1 p.2:=bP (aM _) (aH.low _) q
 unfold mz at g
 rw[a] at g
 symm
 apply aw rfl ?_
 refine aw (d:=rs.d) (aC (by rw[gQm,k];rfl)) ?_
 symm
 apply aw rfl ?_
 refine aw (d:=dk m) (aC (by rw[gQm,a];rfl)) ?_
 symm
 refine uW ?_
 cases m with
 | nil=>
   apply bf (λ_=> ?_) (λc=>by cases c)
   have e:s.aj.set i rs=s.aj:=by
     apply List.ext_getElem?
     intro j
     rw[List.getElem?_set]
     split
     · rename_i c
       subst c
       rw[k]
       first|done|simp[o]
     · rfl
   have z:({s with aj:=s.aj.set i rs}:aH)=s:=by rw[e]
   have n:Op (settle S ({s with aj:=s.aj.set i rs}:aH).d S) λp=>Q p.1 p.2:=g
   rw[z] at n
   exact n
 | cons p l=>
   apply bf (λc=>by cases c) (λ_=>cB ?_)
   apply jB ?_
   apply cx ?_
   apply⟨_,rfl,cy ⟨_,rfl,?_⟩⟩
   have e:D.tup (jk ((p::l).map pairD) (some 1) none)=dk l:=by
     rw[show(some (1:Int))=some ((1:Nat):Int) from rfl,ij (by simp)]
     rfl
   rw[e]
   refine jl k u (by omega) I ?_
   dsimp only at g
   generalize C:rs.aa.set b l=nb at g⊢
   symm
   apply aw rfl ?_
   refine aw (d:=r.d) (aC (by rw[gQm,y];rfl)) ?_
   symm
   apply aw (d:=.str r.ah) rfl ?_
   refine g8 ?_
   dsimp only
   by_cases c:r.ah="when free"
   · rw[Qeq c] at g⊢
     rw[Qhq rfl] at g
     rw[Qhq rfl]
     symm
     exact g
   · rw[Qdq c] at g⊢
     rw[Quq (by decide)] at g
     rw[Quq (by decide)]
     apply cB ?_
     refine aw rfl ?_
     have G:((s.aj.set i {rs with aa:=nb}).map bJ.d)[i]?=some ({rs with aa:=nb}:bJ).d:=by rw[gQm,Qyq o];rfl
     symm
     refine aw (d:=({rs with aa:=nb}:bJ).d) (aC G) ?_
     apply eD rfl (ax (aQ (ax (aQ (ax (aQ (ax (aQ (ax (aQ (bc ?_)))))))))))
     apply aw (d:=pairD p) Dz ?_
     apply aw (d:=.int p.2) rfl ?_
     refine⟨by show 1<=_;decide,?_⟩
     refine di (by simp only[lQm,Qnq,QGq];exact nQl (bq (by omega))) ?_
     symm
     refine⟨by show 5<=_;decide,?_⟩
     symm
     have B:D.tup [bM rs.vals,.int p.2,bM rs.row,.tup (rs.ag.map D.int++ [.int h]),.tup (nb.map dk)]=({rs with aa:=nb,within:=p.2,ag:=rs.ag++ [(h:Int)]}:bJ).d:=by simp[bJ.d,bM]
     rw[B]
     have n:Op (settle S ({s with aj:=(s.aj.set i {rs with aa:=nb}).set i {rs with aa:=nb,within:=p.2,ag:=rs.ag++ [(h:Int)]}}:aH).d S) λp=>Q p.1 p.2:=by rw[List.set_set];exact g
     exact cH (s:={s with aj:=s.aj.set i {rs with aa:=nb}}) (by simpa using o) (by simp;omega) n
end
end W28
namespace DL
open PySem PySem.Spec L2
def pV{α:Type}{v:cv}{S:aA}{js:List (Option Nat)}{i:tE}{g:kM}{t:ie}{o:aV}{Q:List D->aA->Prop}(P:cv->Prop)(enc G:α->D)(c:α->Bool)(J:P (mV js v)) (h:E i v S λp f=>∃xs:List α,p.1=xs.map enc/\p.2 f/\xs.length<=1000∧
   (∀x∈xs,∀a,P a->Tg g (enc x) a f λb S2=>S2=f/\P b/\E t b f λk z=>z=f/\k=c x/\(c x=true->E o b f λy B=>y=G x/\B=f))/\Q ((xs.filter c).map G) f):E (du js i g t o) v S Q:=by
 refine rS (h.mono λp f F=> ?_)
 obtain⟨xs,w,H,hl,U,q⟩:=F
 refine⟨λn a s j=>s=f/\j=((xs.take n).filter c).map G/\P a,⟨rfl,rfl,J⟩,λn a s j h=>by rw[h.1];exact H,λn d a s j r h=> ?_,λa s j h=> ?_⟩
 ·obtain⟨rfl,rfl,h3⟩:=h
  have r:p.1[n]?=some d:=r
  rw[w,gQm] at r
  obtain⟨x,m,rfl⟩:=oQm.mp r
  obtain⟨b,S2,K,rfl,h4,h5⟩:=U x (mQg m) a h3
  refine⟨b,S2,K,?_⟩
  refine h5.mono λk z u=> ?_
  obtain⟨C,I,N⟩:=u
  subst C I
  have W:=(gQs.mp m).1
  have A:((xs.take (n+1)).filter c).map G=((xs.take n).filter c).map G++if c x=true then [G x] else []:=by
   rw[QYq,m]
   cases l:c x <;>simp[l]
  by_cases l:c x=true
  ·rw[Qhq l]
   refine(N l).mono λy B u=> ?_
   obtain⟨R,M⟩:=u
   subst R M
   refine⟨?_,rfl,?_,h4⟩
   ·rw[lQm]
    have:=List.length_filter_le c (xs.take n)
    rw[Qxq] at this
    exact bq (by omega)
   ·rw[A,Qhq l]
  ·rw[Quq l]
   refine⟨rfl,?_,h4⟩
   rw[A,Quq l,List.append_nil]
 ·obtain⟨rfl,rfl,_⟩:=h
  have e:p.1.length=xs.length:=by rw[w,lQm]
  show Q (((xs.take p.1.length).filter c).map G) _
  rw[e,QEq]
  exact q
end DL
namespace W28
open PySem PySem.Spec L2 DL
section
variable{S:aA}{Q:Res->aA->Prop}
def fT(l:List (Int×Int))(t h:Int):List (Int×Int):=l.take (l.filter λp=>decide (p.1<=t)).length++ [(t,h)]++l.drop (l.filter λp=>decide (p.1<=t)).length
def qz{w:bK}{s:aH}{h i:Nat}{vs:List Int}{fs:List bx}{f:bx}{r:Rm}{rs:bJ}{x u:Str}{t:Tr}{v:Int}{g:List (Int×Int)}(R:s.af[h]?=some (vs,fs))(hf:fs.getLast? =some f)(U:f.room=i)(K:w.aj[i]?=some r)(m:s.aj[i]?=some rs)(X:r.aa.length<=100)(l2:r.aa.length=rs.aa.length)(Y:s.aj.length<=100)(J:x∈r.aa.map (·.1))
  (B:r.aa[bX (r.aa.map (·.1)) x]?=some (x,u)) (k:rs.aa[bX (r.aa.map (·.1)) x]?=some g) (b4:g.length<=900) (H:uZ w s h t v)
  (q:Q (.d ({s with aj:=s.aj.set i (bg {rs with aa:=rs.aa.set (bX (r.aa.map (·.1)) x) (fT g (if u="turns" then v else 0) h)})}:aH).d) S):Fn ng [w.d,s.d,.int h,(Rw.wait x t).d] S Q:=by
 have C:=(fS J).1
 rw[lQm] at C
 have Z:i<s.aj.length:=(gQs.mp m).1
 refine bF ?_
 unfold rK
 symm
 apply aw (d:=.str x) rfl ?_
 refine kZ R hf U K X J ?_
 refine eD rfl (ax (aQ (ax (aQ (bc ?_)))))
 generalize bX (r.aa.map (·.1)) x=b at C q B k⊢
 have N:b<rs.aa.length:=by omega
 symm
 apply aw rfl ?_
 refine aw (d:=r.d) (aC (by rw[gQm,K];rfl)) ?_
 symm
 apply aw rfl ?_
 refine aw (d:=KB (x,u)) (aC (by rw[gQm,B];rfl)) ?_
 symm
 apply aw (d:=.str u) rfl ?_
 refine g8 ?_
 dsimp only
 have A:∀j:Int,j=(if u="turns" then v else 0)->T (aE (aX 7 (bu sA (bu sA (bu sA (bu sA (av 1) (cF (.int 0))) (av 4)) (cF (.int 4))) (av 5)))
   (aE (aX 8 (j0 (pB (du [none,none,some 6] (sT (cA (av 7))) (jG (nG 2 (aK (cb 0) (aK (cb 1) dF)))) (aW (bu KF (av 0) (av 2))) (av 0)))))
   (aE (aX 9 (aB dY (ar (av 1) (ar (av 4) (ar (av 5) (ar (bu cu (bu cu (sQ (av 7) sS (qU (av 8))) (az (ar (az (ar (av 6) (ar (av 2) au))) au))) (sQ (av 7) (qU (av 8)) sS)) au))))))
   (cQ (aB oM (ar (av 9) (ar (av 4) au)))))))
   [some w.d,some s.d,some (.int h),some (Rw.wait x t).d,some (.int i),some (.int b),some (.int j),none,none,none] S (λo=>match o with
   |.nx _ z=>Op (settle S .non z) λp=>Q p.1 p.2|.rt d z=>Op (settle S d z) λp=>Q p.1 p.2|.rl l z=>Op (eI S l z) λp=>Q p.1 p.2|_=>False):=by
  intro j F
  rw[←F] at q
  symm
  apply aw rfl ?_
  refine aw (d:=rs.d) (aC (by rw[gQm,m];rfl)) ?_
  symm
  apply aw rfl ?_
  refine aw (d:=dk g) (aC (by rw[gQm,k];rfl)) ?_
  symm
  apply pV (α:=Int×Int) (λy=>∃a b,y= [a,b,some (.int j)]) pairD (λp=>.int p.1) (λp=>decide (p.1<=j)) ⟨none,none,rfl⟩ ?_
  refine e_ (ds:=g.map pairD) ?_
  refine⟨g,rfl,trivial,by omega,λp C y I=> ?_,?_⟩
  ·obtain⟨a,b,rfl⟩:=I
   refine eD rfl (ax (aQ (ax (aQ (bc ?_)))))
   apply⟨rfl,⟨_,_,rfl⟩,?_⟩
   apply⟨rfl,rfl,λ_=> ?_⟩
   exact⟨rfl,rfl⟩
  have el:((g.filter λp=>decide (p.1<=j)).map λp=>D.int p.1).length=(g.filter λp=>decide (p.1<=j)).length:=lQm ..
  have G:=List.length_filter_le (λp=>decide (p.1<=j)) g
  unfold fT at q
  symm
  rw[el]
  generalize (g.filter λp=>decide (p.1<=j)).length=n at q G⊢
  apply jB ?_
  apply cy (cx ?_)
  refine⟨_,rfl,g.map pairD,rfl,?_⟩
  rw[Dg (by rw[lQm];exact G)]
  symm
  refine⟨by show 2<=_;decide,?_⟩
  symm
  refine⟨by show 1<=_;decide,?_⟩
  refine di (by simp only[lQm,Qxq,Qnq,QGq];exact nQl (bq (by omega))) ?_
  apply jB ?_
  apply cx ?_
  refine⟨_,rfl,cy ⟨g.map pairD,rfl,?_⟩⟩
  rw[ij (by rw[lQm];exact G)]
  refine di (by simp only[lQa,lQm,Qxq,List.length_drop,Qnq,QGq];exact nQl (bq (by omega))) ?_
  symm
  have e:D.tup ((g.map pairD).take n++ [D.tup [.int j,.int h]]++(g.map pairD).drop n)=dk (g.take n++ [(j,(h:Int))]++g.drop n):=by
   simp only[dk,Qzq,List.map_take,List.map_drop]
   rfl
  rw[e]
  generalize g.take n++ [(j,(h:Int))]++g.drop n=nl at q⊢
  apply jl m N (by omega) Y ?_
  have M:Op (settle S ({s with aj:=s.aj.set i (bg {rs with aa:=rs.aa.set b nl})}:aH).d S) λp=>Q p.1 p.2:=bP (aM _) (aH.low _) q
  generalize P:({rs with aa:=rs.aa.set b nl}:bJ)=nr at M⊢
  have W:Op (settle S ({s with aj:=(s.aj.set i nr).set i (bg nr)}:aH).d S) λp=>Q p.1 p.2:=by rw[List.set_set];exact M
  exact ym (s:={s with aj:=s.aj.set i nr}) (Qyq Z) (by simp;omega) W
 by_cases c:u="turns"
 ·rw[Qeq c,Qhq rfl]
  symm
  apply aw (d:=t.d) rfl ?_
  refine H _ _ ?_
  exact A v (by rw[Qhq c])
 ·rw[Qdq c,Quq (by decide)]
  refine cB ?_
  exact A 0 (by rw[Quq c])
end
end W28
namespace DL
open PySem PySem.Spec L2
section
variable{Γ:cv}{S:aA}
def Nc{a:List (Str×Str)}{g:aV}{Q:D->aA->Prop}(h:E g Γ S λy b=>∃x nm,y=.str x/\a.lookup x=some nm/\Q (.fn nm) b):E (MJ a g) Γ S Q:=by
 obtain⟨y,b,c,x,nm,rfl,e2,q⟩:=h
 exact⟨_,b,by unfold MJ;rw[c];simp only[Qbq];rw[e2];rfl,q⟩
def GO{i:Nat}{T:List (Str×de)}{g:fN}{x:Str}{F:de}{Q:D->aA->Prop}(c:Γ[i]?=some (some (.fn x)))(a:T.lookup x=some F)(h:E (aB F g) Γ S Q):E (qw i T g) Γ S Q:=by
 obtain⟨y,d,b,q⟩:=h
 exact⟨_,d,by unfold qw;rw[c];show(T.lookup x).bind _=_;rw[a];exact b,q⟩
def IJ{f:aV}{Q:D->aA->Prop}(h:E f Γ S λd a=>∃k,d=.bl k/\Q (.bl (!k)) a):E (Gu f) Γ S Q:=by
 obtain⟨d,a,b,k,rfl,q⟩:=h
 exact⟨_,a,by unfold Gu;rw[b];rfl,q⟩
def o6{a:Bool}{x:D}{Q:D->Prop}(q:Q (.bl (if a then !isNone x else isNone x))):Op (sX a S x .non) Q:=⟨_,rfl,q⟩
end
def ub{α:Type}{xs:List α}{a b:α}:mY (xs++ [a,b]) (-2)=some a:=by
 unfold mY FF
 rw[Quq (by omega),Qhq (by simp;omega)]
 simp only[Qbq]
 rw[show((-2:Int)+((xs++ [a,b]).length:Int)).toNat=xs.length by simp;omega]
 simp
end DL
namespace W28
open PySem PySem.Spec L2 DL
section
variable{S:aA}{Q:Res->aA->Prop}
def Oz:Rw->de
 |.put _ _=>p5
 |.unl _ _=>iZ
 |.go _=>uR
 |.do_ _ _ _ _=>wA
 |.wait _ _=>ng
 |.call _=>mj
 |.all _=>qc
 |.tell _=>mN
 |.take _=>mi
 |.give _=>mQ
 |.pass _ _=>mO
 |.say _=>pX
def Rw.kind:Rw->Str
 |.put _ _=>"put"
 |.unl _ _=>"unless"
 |.go _=>"go"
 |.do_ _ _ _ _=>"do"
 |.wait _ _=>"wait"
 |.call _=>"call"
 |.all _=>"all"
 |.tell _=>"tell"
 |.take _=>"take"
 |.give _=>"give"
 |.pass _ _=>"pass"
 |.say _=>"say"
def Rw.d_kind(r:Rw):∃l,r.d=.tup (.str r.kind::l):=by cases r <;>exact⟨_,rfl⟩
def FQ(r:Rw):∃nm,kA.lookup r.kind=some nm/\qL.lookup nm=some (Oz r):=by
 cases r
 ·exact⟨"by_put",rfl,rfl⟩
 ·exact⟨"by_unless",rfl,rfl⟩
 ·exact⟨"by_go",rfl,rfl⟩
 ·exact⟨"by_do",rfl,rfl⟩
 ·exact⟨"by_wait",rfl,rfl⟩
 ·exact⟨"by_call",rfl,rfl⟩
 ·exact⟨"by_all",rfl,rfl⟩
 ·exact⟨"by_tell",rfl,rfl⟩
 ·exact⟨"by_take",rfl,rfl⟩
 ·exact⟨"by_give",rfl,rfl⟩
 ·exact⟨"by_pass",rfl,rfl⟩
 ·exact⟨"by_say",rfl,rfl⟩
def Hs(w:bK)(s:aH)(h:Nat)(r:Rw)(s':aH):Prop:=∀(S:aA) (Q:Res->aA->Prop),Q (.d s'.d) S->Fn (Oz r) [w.d,s.d,.int h,r.d] S Q
def yB{w:bK}{s s':aH}{h:Nat}{r:Rw}(hd:Hs w s h r s')(q:Q (.d s'.d) S):Fn iU [w.d,s.d,.int h,r.d] S Q:=by
 obtain⟨nm,b,a⟩:=FQ r
 obtain⟨l,hl⟩:=r.d_kind
 refine bF ?_
 unfold t7
 apply aP (fV (Nc ?_))
 rw[hl]
 refine aw (d:=.str r.kind) Dz ?_
 rw[←hl]
 refine⟨_,nm,rfl,b,?_⟩
 apply jn (GO (x:=nm) rfl a ?_)
 refine hd _ _ ?_
 exact bP (aM _) (aH.low _) q
def gQ{w:bK}{s s':aH}{h i:Nat}{vs:List Int}{e:List bx}{b f:bx}{rs:bJ}{pr:List Rw}{g:Option Str}{rn o:Str}{t:Tr}(p:s.af[h]?=some (vs,e++ [b,f]))(v:f.room=i)(m:s.aj[i]?=some rs)(y:s.aj.length<=900)(u:s.af.length<=900)
  (r:progOf w h b=some pr) (A:1<=b.row) (k:pr[(b.row-1).toNat]?=some (.do_ g rn o t))
  (j:∀a:aH,a={s with aj:=s.aj.set i (bg rs),af:=s.af.set h (vs,e++ [b])}->match g with|none=>s'=a|some x=>Puts w a h x f.told s')
  (q:Q (.d s'.d) S):Fn iL [w.d,s.d,.int h] S Q:=by
 have z:h<s.af.length:=(gQs.mp p).1
 refine bF ?_
 unfold nH
 symm
 apply aw rfl ?_
 refine aw (d:=yV (vs,e++ [b,f])) (aC (by rw[gQm,p];rfl)) ?_
 refine eD rfl (ax (aQ (ax (aQ (bc ?_)))))
 have l:(e++ [b,f]).map bx.d=e.map bx.d++ [b.d,f.d]:=by simp
 dsimp only
 rw[l]
 symm
 apply oW ?_
 refine⟨1,rfl,?_⟩
 refine aw (d:=f.d) (wU (by simp)) ?_
 refine eD rfl (ax (aQ (ax (aQ (ax (aQ (ax (aQ (ax (aQ (bc ?_)))))))))))
 rw[v]
 symm
 apply ym m y ?_
 apply jB ?_
 apply cy (cx (oW ?_))
 refine⟨1,rfl,_,rfl,_,rfl,?_⟩
 rw[wL (by simp)]
 have n:D.tup ((e.map bx.d++ [b.d,f.d]).dropLast)=.tup ((e++ [b]).map bx.d):=by
  rw[show e.map bx.d++ [b.d,f.d]=(e.map bx.d++ [b.d])++ [f.d] by simp,List.dropLast_concat]
  simp
 rw[n]
 symm
 refine fZ (s:={s with aj:=s.aj.set i (bg rs)}) z u ?_
 have j:=j _ rfl
 dsimp only at j⊢
 generalize ({s with aj:=s.aj.set i (bg rs),af:=s.af.set h (vs,e++ [b])}:aH)=a at j⊢
 symm
 apply oW ?_
 refine⟨2,rfl,?_⟩
 apply aw (d:=b.d) ub ?_
 apply fE r ?_
 apply oW ?_
 refine⟨2,rfl,?_⟩
 apply aw (d:=b.d) ub ?_
 apply aw (d:=.int b.row) rfl ?_
 refine aw (d:=(Rw.do_ g rn o t).d) (kI (by omega) (by rw[gQm,k];rfl)) ?_
 symm
 apply aw (d:=JL g) rfl ?_
 refine o6 ?_
 cases g with
 | none=>
   dsimp only at j
   subst j
   apply bf (λ_=> ?_) (λc=>by cases c)
   exact bP (aM _) (aH.low _) q
 | some x=>
   apply bf (λc=>by cases c) (λ_=>cB ?_)
   apply aw (d:=.str x) rfl ?_
   refine j _ _ ?_
   exact bP (aM _) (aH.low _) q
end
section
variable{S:aA}{Q:Res->aA->Prop}
def MQ(h:Nat):Option Int->D
 |none=>.non
 |some v=>.tup [.int h,.int v]
def G_(h:Nat)(e:Option Int):cz 0 (MQ h e)=true:=by cases e <;>rfl
def GI(s:aH)(h:Nat)(e:Option Int):D:=.tup [s.d,MQ h e]
def uO(s:aH)(h:Nat)(e:Option Int):cz 0 (GI s h e)=true:=by
 simp only[GI,cz,bD,G_,aH.low,Bool.and_true]
def gI(w:bK)(s:aH)(h:Nat)(s':aH)(e:Option Int):Prop:=∀(S:aA) (Q:Res->aA->Prop),Q (.d (GI s' h e)) S->Fn jW [w.d,s.d,.int h] S Q
def ur{w:bK}{s:aH}{h i:Nat}{vs:List Int}{fs:List bx}{f:bx}{rs:bJ}(c:s.af[h]?=some (vs,fs))(l:fs.getLast? =some f)(e:f.room=i)(a:s.aj[i]?=some rs)(g:rs.within≠h)(j:s.aj.length<=900)(b:rs.row.length<=900):
  gI w s h {s with aj:=s.aj.set i (eh rs h)} none:=by
 intro S Q q
 refine bF ?_
 unfold j8
 symm
 apply bA c l ?_
 apply aw (d:=.int f.room) rfl ?_
 refine m5 ?_
 dsimp only
 rw[Qdq (show¬f.room= -1 by omega),e]
 show if (true=true) then _ else _
 rw[Qhq rfl]
 symm
 apply aw rfl ?_
 refine aw (d:=rs.d) (aC (by rw[gQm,a];rfl)) ?_
 symm
 apply aw (d:=.int rs.within) rfl ?_
 refine m5 ?_
 dsimp only
 rw[Qdq g]
 show if (true=true) then _ else _
 rw[Qhq rfl]
 symm
 apply sf a j b ?_
 refine⟨by show 2<=_;decide,?_⟩
 exact bP (d:=GI _ h none) (λk z=>(nomatch z)) (uO _ _ _) q
def Here(s:aH)(h:Nat)(f:bx):Prop:=f.room= -1\/∃(i:Nat) (a:bJ),f.room=i/\s.aj[i]?=some a/\a.within=h
def tW{w:bK}{s:aH}{h:Nat}{f:bx}{a b c d:Option D}{Q:Bool->aA->Prop}(k:Here s h f)(q:Q false S):E (vA (aW (bu (iG true) (av 4) (cF (.int (-1))))) (aW (bu (iG true) (bu sA (bu sA (bu sA (av 1) (cF (.int 0))) (av 4)) (cF (.int 1))) (av 2)))) [some w.d,some s.d,some (.int h),some f.d,some (.int f.room),a,b,c] S Q:=by
 rcases k with e|⟨i,j,e,g,l⟩
 ·symm
  refine m5 ?_
  dsimp only
  rw[Qeq e]
  show if (false=true) then _ else _
  rw[Quq (by decide)]
  exact q
 ·symm
  refine m5 ?_
  dsimp only
  rw[Qdq (show¬f.room= -1 by omega),e]
  show if (true=true) then _ else _
  rw[Qhq rfl]
  symm
  apply aw rfl ?_
  refine aw (d:=j.d) (aC (by rw[gQm,g];rfl)) ?_
  symm
  apply aw (d:=.int j.within) rfl ?_
  refine m5 ?_
  dsimp only
  rw[Qeq l]
  exact q
def nh{w:bK}{s s':aH}{h:Nat}{vs:List Int}{fs:List bx}{f:bx}{pr:List Rw}(e:s.af[h]?=some (vs,fs))(i:fs.getLast? =some f)(g:Here s h f)(b:progOf w h f=some pr)(a:f.row=pr.length)
  (he:∀(S:aA) (Q:Res->aA->Prop),Q (.d s'.d) S->Fn iL [w.d,s.d,.int h] S Q):gI w s h s' none:=by
 intro S Q q
 refine bF ?_
 unfold j8
 symm
 apply bA e i ?_
 refine aw (d:=.int f.room) rfl ?_
 refine aP (eC (tW (d:=none) g ?_))
 apply bf (λc=>by cases c) (λ_=>cB ?_)
 apply fE b ?_
 apply aw (d:=.int f.row) rfl ?_
 refine iu ?_
 dsimp only
 rw[lQm,Qeq a,Qhq rfl]
 symm
 apply he _ _ ?_
 refine⟨by show 2<=_;decide,?_⟩
 exact bP (d:=GI _ h none) (λk z=>(nomatch z)) (uO _ _ _) q
def Eg(w:bK)(s:aH)(h:Nat)(r:Rw)(e:Option Int):Prop:=match r with
 |.say t=>∃v,e=some v/\uZ w s h t v
 |_=>e=none
def qZ{w:bK}{s s':aH}{h:Nat}{vs:List Int}{fs:List bx}{f:bx}{pr:List Rw}{r:Rw}{e:Option Int}(j:s.af[h]?=some (vs,fs))(m:fs.getLast? =some f)(A:Here s h f)(n:progOf w h f=some pr)(u:0<=f.row)(b:pr[f.row.toNat]?=some r)(B:fs.length<=900)(y:s.af.length<=900)
  (a:Eg w s h r e) (hd:Hs w {s with af:=s.af.set h (vs,fs.dropLast++ [{f with row:=f.row+1}])} h r s'):gI w s h s' e:=by
 intro S Q q
 have x:=(gQs.mp b).1
 refine bF ?_
 unfold j8
 symm
 apply bA j m ?_
 refine aw (d:=.int f.room) rfl ?_
 refine aP (eC (tW (d:=none) A ?_))
 apply bf (λc=>by cases c) (λ_=>cB ?_)
 apply fE n ?_
 apply aw (d:=.int f.row) rfl ?_
 refine iu ?_
 dsimp only
 rw[lQm,Qdq (show¬f.row=(pr.length:Int) by omega),Quq (by decide)]
 apply cB ?_
 refine aw (d:=.int f.row) rfl ?_
 refine aw (d:=r.d) (kI u (by rw[gQm,b];rfl)) ?_
 symm
 obtain⟨l,hl⟩:=r.d_kind
 have g:T (cQ (az (ar (aB iU (ar (av 0) (ar (aB ja (ar (av 1) (ar (av 2) (ar (bu cu (bu sA (av 3) (cF (.int 2))) (cF (.int 1))) au)))) (ar (av 2) (ar (av 6) au))))) (ar (av 7) au))))
   [some w.d,some s.d,some (.int h),some f.d,some (.int f.room),some (.tup (pr.map Rw.d)),some r.d,some (MQ h e)] S (λo=>match o with
   |.nx _ i=>Op (settle S .non i) λp=>Q p.1 p.2|.rt d i=>Op (settle S d i) λp=>Q p.1 p.2|.rl l i=>Op (eI S l i) λp=>Q p.1 p.2|_=>False):=by
  symm
  apply aw (d:=.int f.row) rfl ?_
  apply og j m B y ?_
  apply yB hd ?_
  refine⟨by show 2<=_;decide,?_⟩
  exact bP (d:=GI _ h e) (λk z=>(nomatch z)) (uO _ _ _) q
 cases r with
 | say t=>
   obtain⟨v,rfl,hv⟩:=a
   apply aw (d:=.str "say") rfl ?_
   refine g8 ?_
   dsimp only
   rw[Qeq rfl,Qhq rfl]
   symm
   apply aw (d:=t.d) rfl ?_
   apply hv _ _ ?_
   refine⟨by show 2<=_;decide,?_⟩
   exact g
 | _=>
   have a:e=none:=a
   subst a
   apply aw rfl ?_
   refine g8 ?_
   dsimp only
   refine bf (λc=>absurd (QZq c) (by decide +kernel)) (λ_=>cB ?_)
   exact g
end
end W28
namespace DL
open PySem PySem.Spec L2
section
variable{Γ:cv}{S:aA}
def Ft{f:aV}{g:eU}{Q:D->aA->Prop}(h:E f Γ S λx b=>∃k a,x=.ref k/\b[k]?=some (.lst a)/\E g Γ b λp S2=>∃ds,S2[k]?=some (.lst ds)/\(p.2.isL=false/\ds.length+p.1.length<=sizeLine)/\Q .non (S2.set k (.lst (ds++p.1)))):E (tX f g) Γ S Q:=by
 obtain⟨x,b,c,k,a,rfl,h1,p,S2,e2,ds,h2,h3,q⟩:=h
 exact⟨_,_,by unfold tX;rw[c];simp only[Qbq,e2,h1,h2];rw[Qhq h3],q⟩
end
def zw{S a:aA}{k:Nat}{ds:List D}{Q:Res×aA->Prop}(c:mG S a)(d:S.length<=k)(b:a[k]?=some (.lst ds))(hl:bD S.length ds=true)(q:Q (.l ds,a.take S.length)):Op (settle S (.ref k) a) Q:=by
 refine⟨_,?_,q⟩
 unfold settle
 rw[Qhq c]
 show(if k<S.length then _ else _)=_
 rw[Quq (by omega),b]
 show(if bD S.length ds=true then _ else _)=_
 rw[Qhq hl]
def vM{n:Nat}(h:n<=1000000):n<=sizeLine:=QAq h (by decide)
theorem iY:∀a:List Int,mX (a.map D.int)=some (a.map V.int)
 | []=>rfl
 |s::a=>by simp only[QDq,mX,u0,Qbq];rw[iY a];rfl
def wB{x:Int}{b:List Int}:C9 (.int x) (b.map V.int)=decide (x∈b):=by
 induction b with
 |nil=>rfl
 | cons a b d=>
   show(vW (.int a) (.int x)||C9 (.int x) (b.map V.int))=_
   rw[d]
   simp only[vW,Qsq]
   by_cases c:a=x
   · subst c;simp
   · have e:¬x=a:=λz=>c z.symm
     simp[c,e]
end DL
namespace W28
open PySem PySem.Spec L2 DL
section
variable{S:aA}{Q:Res->aA->Prop}
def xq{S a:aA}(x:l_ S a):a.take S.length=S:=by
 apply List.ext_getElem?
 intro j
 by_cases b:j<S.length
 ·rw[List.getElem?_take_of_lt b]
  exact x.eq j b
 ·rw[List.getElem?_eq_none (by rw[Qxq];omega),List.getElem?_eq_none (by omega)]
def JF{S a:aA}{ds:List D}{Q:Res->aA->Prop}(x:l_ S a)(hl:bD 0 ds=true)(q:Q (.l ds) S):Op (eI S ds a) λp=>Q p.1 p.2:=
 kY ⟨x.len,λk o b e=>.inl (by rw[←x.eq k b];exact e)⟩ (xq x) (iJ hl) q
def Iv{S b:aA}{k:Nat}{ds:List D}{Q:Res->aA->Prop}(x:l_ S b)(a:S.length<=k)(c:b[k]?=some (.lst ds))(hl:bD 0 ds=true)(q:Q (.l ds) S):Op (settle S (.ref k) b) λp=>Q p.1 p.2:=
 zw ⟨x.len,λk o a e=>.inl (by rw[←x.eq k a];exact e)⟩ a c (iJ hl) (by rw[xq x];exact q)
def xc{l:List (Int×Int)}(hl:l.length<=1000)(q:Q (.l ((l.map (·.2)).map D.int)) S):Fn kH [dk l] S Q:=by
 refine bF ?_
 unfold nO
 symm
 apply qD (α:=Int×Int) (λc=>∃a b,c= [a,b]) pairD (λp=>.int p.2) ⟨none,none,rfl⟩ ?_
 refine e_ (ds:=l.map pairD) ?_
 refine⟨l,rfl,trivial,hl,λp f c d=> ?_,?_⟩
 ·obtain⟨a,b,rfl⟩:=d
  refine eD rfl (ax (aQ (ax (aQ (bc ?_)))))
  apply⟨rfl,⟨_,_,rfl⟩,?_⟩
  exact⟨rfl,rfl⟩
 ·have e:l.map (λp=>D.int p.2)=(l.map (·.2)).map D.int:=by rw[QPq];rfl
  rw[e]
  exact Dt (bB λ_ _=>rfl) q
def aJ(r:bJ):List Int:=r.row++r.ag++r.aa.flatMap λl=>l.map (·.2)
def held(s:aH):List Int:=s.ai.flatMap (·.2)++s.aj.flatMap aJ
theorem j3{α d:Type}{f:α->List d}{n:Nat}:∀{l:List α},(∀a∈l,(f a).length<=n)->(l.flatMap f).length<=n*l.length
 | [],_=>by simp
 | a::l,h=>by
   have g:=h a (QBq ..)
   have e:=j3 (f:=f) (l:=l) λb c=>h b (Qpq _ c)
   rw[QSq,lQa,Qnq,Nat.mul_add]
   omega
def kE{α b:Type}{f:α->List b}{l:List α}{n:Nat}{a:α}(h:l[n]?=some a):(l.take (n+1)).flatMap f=(l.take n).flatMap f++f a:=by
 rw[QYq,h]
 simp
def iI{s:aH}{n:Nat}(R:n<=800)(b1:s.ai.length<=100)(b2:s.aj.length<=20)(N:∀p∈s.ai,p.2.length<=n)(I:∀r∈s.aj,r.row.length<=n/\r.ag.length<=n/\r.aa.length<=10/\∀l∈r.aa,l.length<=n)
  (q:Q (.l ((held s).map D.int)) S):Fn bO [s.d] S Q:=by
 have Z:∀o:List D,l_ S (S++ [.lst o]):=λo=>l_.refl.app
 have F:∀r∈s.aj,∀j:Nat,((r.aa.take j).flatMap λl=>l.map (·.2)).length<=8000:=λr F j=>by
  obtain⟨_,_,U,P⟩:=I r F
  have G:=j3 (f:=λl:List (Int×Int)=>l.map (·.2)) (n:=n) (l:=r.aa.take j) λl hl=>by rw[lQm];exact P l (List.mem_of_mem_take hl)
  have C:(r.aa.take j).length<=10:=by rw[Qxq];omega
  have h7:n*(r.aa.take j).length<=800*10:=Nat.mul_le_mul R C
  omega
 have J:∀r∈s.aj,(aJ r).length<=9600:=λr h=>by
  have K:=F r h r.aa.length
  obtain⟨W,U,_⟩:=I r h
  rw[QEq] at K
  simp only[aJ,lQa]
  omega
 have A:∀j:Nat,((s.ai.take j).flatMap (·.2)).length<=80000:=λj=>by
  have G:=j3 (f:=λp:Int×List Int=>p.2) (n:=n) (l:=s.ai.take j) λl hl=>N l (List.mem_of_mem_take hl)
  have C:(s.ai.take j).length<=100:=by rw[Qxq];omega
  have h7:n*(s.ai.take j).length<=800*100:=Nat.mul_le_mul R C
  omega
 have H:∀j:Nat,((s.aj.take j).flatMap aJ).length<=192000:=λj=>by
  have G:=j3 (f:=aJ) (n:=9600) (l:=s.aj.take j) λl hl=>J l (List.mem_of_mem_take hl)
  have C:(s.aj.take j).length<=20:=by rw[Qxq];omega
  omega
 refine bF ?_
 unfold gD
 symm
 refine⟨by decide,?_⟩
 apply aP (o8 (tP ?_))
 refine aw rfl ?_
 refine e_ (ds:=s.ai.map yR) ?_
 refine⟨λj k u=>(∃a b c d e f g,k= [some s.d,some (.ref S.length),a,b,c,d,e,f,g])/\u=S++ [.lst (((s.ai.take j).flatMap (·.2)).map D.int)],⟨⟨_,_,_,_,_,_,_,rfl⟩,rfl⟩,λ_ _ _ _=>trivial,?_,?_⟩
 ·rintro j d k u t ⟨⟨a,b,c,B,e,f,g,rfl⟩,rfl⟩
  have t:(s.ai.map yR)[j]?=some d:=t
  rw[gQm] at t
  obtain⟨p,M,rfl⟩:=oQm.mp t
  refine eD rfl (ax (aQ (ax (aQ (bc ?_)))))
  apply xP (Ft ?_)
  apply⟨_,_,rfl,aI,?_⟩
  refine e_ (ds:=p.2.map D.int) ?_
  refine⟨_,aI,⟨rfl,?_⟩,⟨_,_,_,_,_,_,_,rfl⟩,?_⟩
  ·have:=A j
   have:=N p (mQg M)
   simp only[lQm]
   exact vM (by omega)
  ·rw[kE M,Qzq]
   simp
 rintro k u ⟨⟨a,b,c,B,e,f,g,rfl⟩,rfl⟩
 have hl:(s.ai.map yR).length=s.ai.length:=lQm ..
 rw[hl,QEq]
 apply aP (o8 (tP ?_))
 refine aw rfl ?_
 refine e_ (ds:=s.aj.map bJ.d) ?_
 refine⟨λj k u=>(∃a b c d e f g,k= [some s.d,some (.ref S.length),a,b,c,d,e,f,g])/\u=S++ [.lst ((s.ai.flatMap (·.2)++(s.aj.take j).flatMap aJ).map D.int)],⟨⟨_,_,_,_,_,_,_,rfl⟩,by simp⟩,λ_ _ _ _=>trivial,?_,?_⟩
 ·rintro j d k u t ⟨⟨a,b,c,B,e,f,g,rfl⟩,rfl⟩
  have t:(s.aj.map bJ.d)[j]?=some d:=t
  rw[gQm] at t
  obtain⟨r,x,rfl⟩:=oQm.mp t
  have v:=mQg x
  obtain⟨W,U,P,G⟩:=I r v
  have w:(s.ai.flatMap (·.2)++(s.aj.take j).flatMap aJ).length<=272000:=by
   have:=A s.ai.length
   rw[QEq] at this
   have:=H j
   rw[lQa]
   omega
  generalize y:s.ai.flatMap (·.2)++(s.aj.take j).flatMap aJ=o at w⊢
  refine eD rfl (ax (aQ (ax (aQ (ax (aQ (ax (aQ (ax (aQ (bc ?_)))))))))))
  apply aP (xP (Ft ?_))
  apply⟨_,_,rfl,aI,?_⟩
  refine di (i:=r.row.map D.int) (j:=r.ag.map D.int) (by simp only[lQm];exact vM (by omega)) ?_
  refine e_ ?_
  refine⟨_,aI,⟨rfl,?_⟩,?_⟩
  ·simp only[lQa,lQm]
   exact vM (by omega)
  dsimp only
  have X:(S++ [O.lst (o.map D.int)]).set S.length (.lst (o.map D.int++(r.row.map D.int++r.ag.map D.int)))=S++ [.lst ((o++(r.row++r.ag)).map D.int)]:=by simp
  rw[X]
  apply o8 (tP ?_)
  refine⟨λj k u=>(∃a b c d e f g,k= [some s.d,some (.ref S.length),a,b,c,d,e,f,g])/\u=S++ [.lst ((o++(r.row++r.ag)++(r.aa.take j).flatMap λl=>l.map (·.2)).map D.int)],⟨⟨_,_,_,_,_,_,_,rfl⟩,by simp⟩,λ_ _ _ _=>trivial,?_,?_⟩
  ·rintro m d k u t ⟨⟨a,b,c,B,e,f,g,rfl⟩,rfl⟩
   have t:(r.aa.map dk)[m]?=some d:=t
   rw[gQm] at t
   obtain⟨l,z,rfl⟩:=oQm.mp t
   have Y:=G l (mQg z)
   refine aQ ?_
   apply xP (Lu ?_)
   apply⟨_,_,rfl,aI,?_⟩
   apply xc (by omega) ?_
   refine⟨_,aI,⟨rfl,?_⟩,⟨_,_,_,_,_,_,_,rfl⟩,?_⟩
   ·have:=F r v m
    simp only[lQa,lQm]
    exact vM (by omega)
   ·rw[kE z,←Qvq,Qzq]
    simp
  ·rintro k u ⟨K,rfl⟩
   refine⟨K,?_⟩
   have hl:(r.aa.map dk).length=r.aa.length:=lQm ..
   rw[hl,QEq,kE x]
   subst y
   simp only[aJ,Qvq]
 ·rintro k u ⟨⟨a,b,c,B,e,f,g,rfl⟩,rfl⟩
  have hl:(s.aj.map bJ.d).length=s.aj.length:=lQm ..
  rw[hl,QEq]
  symm
  exact Iv (Z _) (Qmq _) aI (bB λ_ _=>rfl) q
end
end W28
namespace DL
open PySem PySem.Spec L2
def sE{b:cv}{S:aA}{f g:aV}{Q:D->aA->Prop}(h:E f b S λd a=>∃k,d=.bl k/\if k=true then E g b a Q else Q (.bl false) a):E (wy f g) b S Q:=by
 obtain⟨d,a,c,k,rfl,q⟩:=h
 cases k with
 |true=>obtain⟨j,i,e,q⟩:=(q:E g b a Q);exact⟨j,i,by unfold wy;rw[c];exact e,q⟩
 |false=>exact⟨_,a,by unfold wy;rw[c];rfl,q⟩
end DL
namespace W28
open PySem PySem.Spec L2 DL
section
variable{S:aA}{Q:Res->aA->Prop}
def xZ(s:aH)(h:Nat):Option bx:=(s.af[h]?).bind λp=>p.2.getLast?
def sx(w:bK)(s:aH)(h:Nat):Bool:=match xZ s h with
 |some f=>decide (f.room= -1)&&decide (f.row=(((progOf w h f).getD []).length:Int))
 |none=>false
def ny{w:bK}{s:aH}{h:Nat}{vs:List Int}{fs:List bx}{f:bx}{pr:List Rw}(a:s.af[h]?=some (vs,fs))(e:fs.getLast? =some f)(b:progOf w h f=some pr)(q:Q (.d (.bl (sx w s h))) S):Fn eF [w.d,s.d,.int h] S Q:=by
 have g:sx w s h=(decide (f.room= -1)&&decide (f.row=(pr.length:Int))):=by
  unfold sx xZ
  rw[a]
  show(match fs.getLast? with|some f=>_|none=>_)=_
  rw[e]
  simp only[b,Option.getD_some]
 rw[g] at q
 refine bF ?_
 unfold gH
 symm
 apply bA a e ?_
 apply sE ?_
 apply aw (d:=.int f.room) rfl ?_
 refine iu ?_
 refine⟨_,rfl,?_⟩
 by_cases c:f.room= -1
 ·rw[Qeq c] at q⊢
  rw[Qhq rfl]
  symm
  apply aw (d:=.int f.row) rfl ?_
  apply fE b ?_
  refine iu ?_
  rw[lQm]
  exact bP (λk z=>(nomatch z)) rfl q
 ·rw[Qdq c] at q⊢
  rw[Quq (by decide)]
  exact bP (λk z=>(nomatch z)) rfl q
def jY(w:bK)(s:aH):List Nat:=(List.range s.af.length).filter λh=> !decide ((h:Int)∈held s)&& !sx w s h
def zD(h:Nat):D:=.int h
def GV(w:bK)(s:aH):Prop:=∀(S:aA) (Q:Res->aA->Prop),Q (.l ((jY w s).map zD)) S->Fn iD [w.d,s.d] S Q
def yj{w:bK}{s:aH}(m:∀(S:aA) (Q:Res->aA->Prop),Q (.l ((held s).map D.int)) S->Fn bO [s.d] S Q)(j:∀h<s.af.length,∃vs fs f pr,s.af[h]?=some (vs,fs)/\fs.getLast? =some f/\progOf w h f=some pr)(p:s.af.length<=100):GV w s:=by
 intro S Q q
 refine bF ?_
 unfold nE
 symm
 apply m _ _ ?_
 apply pV (α:=Nat) (λb=>∃a,b= [a,some w.d,some s.d,some (.ref S.length)]) (λ(i:Nat)=>D.int (0+(i:Int))) zD (λh=> !decide ((h:Int)∈held s)&& !sx w s h) ⟨none,rfl⟩ ?_
 apply aw rfl ?_
 refine⟨_,rfl,?_,?_⟩
 ·simp only[lQm]
  omega
 refine⟨List.range s.af.length,?_,trivial,by simp;omega,λh k b e=> ?_,?_⟩
 ·simp only[pK,lQm]
  rfl
 ·obtain⟨a,rfl⟩:=e
  obtain⟨vs,fs,f,pr,o,g,n⟩:=j h (List.mem_range.mp k)
  refine aQ ⟨rfl,⟨_,rfl⟩,?_⟩
  rw[Int.zero_add]
  apply Ey (dI (FJ ?_))
  refine fw (ds:=(held s).map D.int) aI ?_
  refine⟨_,_,rfl,iY _,?_⟩
  rw[wB]
  by_cases c:(h:Int)∈held s
  ·rw[Qeq c]
   refine bf (λc=>by cases c) (λ_=> ?_)
   exact⟨rfl,rfl,λc=>by cases c⟩
  ·rw[Qdq c]
   apply bf (λ_=> ?_) (λc=>by cases c)
   refine ny o g n ?_
   dsimp only
   refine lz ?_
   apply⟨rfl,rfl,λ_=> ?_⟩
   exact⟨rfl,rfl⟩
 ·refine JF (l_.refl.app) (bB λ_ _=>rfl) q
end
structure iS(n:Nat)(r:Rm)(rs:bJ):Prop where
 lv:r.ao.length=rs.vals.length
 lb:r.aa.length=rs.aa.length
 vv:∀v∈rs.vals,0<=v/\v<=9
 br:rs.row.length<=n
 bl:rs.ag.length<=n
 bb:∀l∈rs.aa,l.length<=n
structure Ff(w:bK)(h:Nat)(f:bx):Prop where
 pr:∃pr,progOf w h f=some pr/\0<=f.row/\f.row<=pr.length
 gv:0<=f.given/\f.given<=9
 tv:0<=f.told/\f.told<=9
def Nj(w:bK)(h:Nat)(f:bx):Prop:=∃a g rn b t,progOf w h f=some a/\1<=f.row/\a[(f.row-1).toNat]?=some (.do_ g rn b t)
def hG:List bx->Prop
 | []=>False
 |f0::tl=>f0.room= -1/\∀f∈tl,f.room≠-1
structure ix(w:bK)(n h:Nat)(ts:List (Str×Nat))(vs:List Int)(fs:List bx):Prop where
 lv:ts.length=vs.length
 vv:∀v∈vs,0<=v/\v<=9
 lf:fs.length<=n
 fr:∀f∈fs,Ff w h f
 hd:hG fs
 ch:∀f∈fs.dropLast,Nj w h f
structure cc(w:bK)(n:Nat)(s:aH):Prop where
 lr:w.aj.length=s.aj.length
 rm:∀(i:Nat) (r:Rm) (rs:bJ),w.aj[i]?=some r->s.aj[i]?=some rs->iS n r rs
 lp:w.ai.length=s.ai.length
 ps:∀p∈s.ai,p.2.length<=n
 ls:w.ak.length=s.ak.length
 sv:∀v∈s.ak,0<=v/\v<=9
 lh:w.af.length=s.af.length
 hd:∀(h:Nat) (ts:List (Str×Nat)) (pr:List Rw) (vs:List Int) (fs:List bx),w.af[h]?=some (ts,pr)->s.af[h]?=some (vs,fs)->ix w n h ts vs fs
def iS.mono{n m:Nat}{r:Rm}{rs:bJ}(h:iS n r rs)(l:n<=m):iS m r rs:=⟨h.lv,h.lb,h.vv,QAq h.br l,QAq h.bl l,λx a=>QAq (h.bb x a) l⟩
def ix.mono{w:bK}{n m h:Nat}{ts:List (Str×Nat)}{vs:List Int}{fs:List bx}(x:ix w n h ts vs fs)(l:n<=m):ix w m h ts vs fs:=⟨x.lv,x.vv,QAq x.lf l,x.fr,x.hd,x.ch⟩
def cc.mono{w:bK}{n m:Nat}{s:aH}(x:cc w n s)(l:n<=m):cc w m s:=⟨x.lr,λi r f b a=>(x.rm i r f b a).mono l,x.lp,λp g=>QAq (x.ps p g) l,x.ls,x.sv,x.lh,λh c d j e b a=>(x.hd h c d j e b a).mono l⟩
def get_set{α:Type}{l:List α}{i j:Nat}{a b:α}(h:(l.set i a)[j]?=some b):(j=i/\b=a)\/(j≠i/\l[j]?=some b):=by
 rw[List.getElem?_set] at h
 split at h
 ·rename_i c
  split at h
  ·cases h;exact .inl ⟨c.symm,rfl⟩
  ·cases h
 ·rename_i c
  exact .inr ⟨λz=>c z.symm,h⟩
def cc.room{w:bK}{n i:Nat}{s:aH}{r:Rm}{nr:bJ}(x:cc w n s)(e:w.aj[i]?=some r)(f:iS n r nr):cc w n {s with aj:=s.aj.set i nr} where
 lr:=by simpa using x.lr
 rm:=λj d c b a=>by
  rcases get_set a with⟨rfl,rfl⟩|⟨_,a⟩
  ·rw[e] at b;cases b;exact f
  ·exact x.rm j d c b a
 lp:=x.lp
 ps:=x.ps
 ls:=x.ls
 sv:=x.sv
 lh:=x.lh
 hd:=x.hd
def cc.pass{w:bK}{n i:Nat}{s:aH}{p:Int×List Int}(x:cc w n s)(b:p.2.length<=n):cc w n {s with ai:=s.ai.set i p} where
 lr:=x.lr
 rm:=x.rm
 lp:=by simpa using x.lp
 ps:=λq a=>by
  rcases QTq a with a|rfl
  ·exact x.ps q a
  ·exact b
 ls:=x.ls
 sv:=x.sv
 lh:=x.lh
 hd:=x.hd
def cc.share{w:bK}{n:Nat}{s:aH}{vs:List Int}(x:cc w n s)(hl:vs.length=s.ak.length)(a:∀v∈vs,0<=v/\v<=9):cc w n {s with ak:=vs}:=⟨x.lr,x.rm,x.lp,x.ps,by rw[x.ls,←hl],a,x.lh,x.hd⟩
def cc.hand{w:bK}{n h:Nat}{s:aH}{ts:List (Str×Nat)}{pr:List Rw}{vs:List Int}{fs:List bx}(x:cc w n s)(i:w.af[h]?=some (ts,pr))(k:ix w n h ts vs fs):cc w n {s with af:=s.af.set h (vs,fs)} where
 lr:=x.lr
 rm:=x.rm
 lp:=x.lp
 ps:=x.ps
 ls:=x.ls
 sv:=x.sv
 lh:=by simpa using x.lh
 hd:=λj c a f d g b=>by
  rcases get_set b with⟨rfl,e⟩|⟨_,b⟩
  ·rw[i] at g;cases g;cases e;exact k
  ·exact x.hd j c a f d g b
def fb{α:Type}{l:List α}{a:α}(h:l.getLast? =some a):l=l.dropLast++ [a]:=by
 cases l with
 |nil=>cases h
 | cons x y=>
   have b:x::y≠[]:=by simp
   rw[List.getLast?_eq_some_getLast b] at h
   cases h
   exact(List.dropLast_concat_getLast b).symm
def hG.last{fs:List bx}{f f':bx}:∀{c:List bx},hG (c++ [f])->f'.room=f.room->hG (c++ [f'])
 | [],h,e=>⟨by rw[e];exact h.1,λ_ z=>by cases z⟩
 | a::l,h,e=>⟨h.1,λx b=>by
   rcases mQa.mp b with b|b
   · exact h.2 x (mQa.mpr (.inl b))
   · rw[Qfq.mp b,e];exact h.2 f (mQa.mpr (.inr (Qfq.mpr rfl)))⟩
def hG.push{f':bx}:∀{fs:List bx},hG fs->f'.room≠-1->hG (fs++ [f'])
 | [],h,_=>h.elim
 | a::l,h,e=>⟨h.1,λx b=>by
   rcases mQa.mp b with b|b
   · exact h.2 x b
   · rw[Qfq.mp b];exact e⟩
def hG.pop{d f:bx}:∀{c:List bx},hG (c++ [d,f])->hG (c++ [d])
 | [],h=>⟨h.1,λ_ z=>by cases z⟩
 | a::l,h=>⟨h.1,λx b=>h.2 x (by
   rcases mQa.mp b with b|b
   · exact mQa.mpr (.inl b)
   · exact mQa.mpr (.inr (by rw[Qfq.mp b];simp)))⟩
def hG.two{f:bx}:∀{b:List bx},hG (b++ [f])->f.room≠-1->∃c d,b=c++ [d]
 | [],h,e=>absurd h.1 e
 |a::l,h,e=>⟨(a::l).dropLast,(a::l).getLast (by simp),(List.dropLast_concat_getLast (by simp)).symm⟩
section
variable{w:bK}{n h:Nat}{ts:List (Str×Nat)}{vs:List Int}{fs:List bx}{f f' f2:bx}
def ix.setLast(x:ix w n h ts vs fs)(d:fs.getLast? =some f)(e:f'.room=f.room)(i:Ff w h f'):ix w n h ts vs (fs.dropLast++ [f']):=by
 have b:=fb d
 have c:=x.hd
 rw[b] at c
 refine⟨x.lv,x.vv,?_,λg a=> ?_,hG.last (fs:=fs) c e,λg a=> ?_⟩
 ·have:=congrArg List.length b
  have:=x.lf
  simp only[lQa,Qnq,QGq] at *
  omega
 ·rcases mQa.mp a with a|a
  ·exact x.fr g (List.dropLast_subset _ a)
  ·rw[Qfq.mp a];exact i
 ·rw[List.dropLast_concat] at a
  exact x.ch g a
def ix.push(x:ix w n h ts vs fs)(b:fs.getLast? =some f)(d:Nj w h f)(e:f'.room≠-1)(i:Ff w h f'):ix w (n+1) h ts vs (fs++ [f']):=by
 refine⟨x.lv,x.vv,?_,λg a=> ?_,x.hd.push e,λg a=> ?_⟩
 ·have:=x.lf
  simp only[lQa,Qnq,QGq]
  omega
 ·rcases mQa.mp a with a|a
  ·exact x.fr g a
  ·rw[Qfq.mp a];exact i
 ·rw[List.dropLast_concat,fb b] at a
  rcases mQa.mp a with a|a
  ·exact x.ch g a
  ·rw[Qfq.mp a];exact d
def ix.pop{b:List bx}(x:ix w n h ts vs (b++ [f2,f])):ix w n h ts vs (b++ [f2])/\Nj w h f2:=by
 have e:(b++ [f2,f]).dropLast=b++ [f2]:=by rw[show b++ [f2,f]=(b++ [f2])++ [f] by simp,List.dropLast_concat]
 have c:=x.ch
 rw[e] at c
 refine⟨⟨x.lv,x.vv,?_,λg a=>x.fr g ?_,x.hd.pop,λg a=>c g ?_⟩,c f2 (by simp)⟩
 ·have:=x.lf
  simp only[lQa,Qnq,QGq] at *
  omega
 ·rcases mQa.mp a with a|a
  ·exact mQa.mpr (.inl a)
  ·exact mQa.mpr (.inr (by rw[Qfq.mp a];simp))
 ·rw[List.dropLast_concat] at a
  exact mQa.mpr (.inl a)
def ix.vals{a:List Int}(x:ix w n h ts vs fs)(hl:a.length=vs.length)(b:∀v∈a,0<=v/\v<=9):ix w n h ts a fs:=⟨by rw[x.lv,hl],b,x.lf,x.fr,x.hd,x.ch⟩
def ix.last(x:ix w n h ts vs fs):∃f,fs.getLast? =some f/\Ff w h f:=by
 have:=x.hd
 cases fs with
 |nil=>exact this.elim
 | cons a l=>
   refine⟨_,List.getLast?_eq_some_getLast (by simp),x.fr _ (List.getLast_mem (by simp))⟩
end
def jm{w:bK}{h:Nat}{f:bx}{pr:List Rw}(a:progOf w h f=some pr):(f.room= -1/\∃ts,w.af[h]?=some (ts,pr))\/∃(i j:Nat) (r:Rm) (d:Str),f.room=i/\f.deed=j/\w.aj[i]?=some r/\r.ae[j]?=some (d,pr):=by
 unfold progOf at a
 split at a
 ·rename_i c
  obtain⟨⟨ts,e⟩,g,b⟩:=oQm.mp a
  cases b
  exact .inl ⟨c,ts,g⟩
 ·split at a
  ·rename_i c
   obtain⟨r,g,b⟩:=aq a
   obtain⟨⟨d,e⟩,l,k⟩:=oQm.mp b
   cases k
   exact .inr ⟨f.room.toNat,f.deed.toNat,r,d,by omega,by omega,g,l⟩
  ·cases a
def uK{w:bK}{h i j:Nat}{f:bx}{r:Rm}{c:Str}{pr:List Rw}(e:f.room=i)(a:f.deed=j)(d:w.aj[i]?=some r)(b:r.ae[j]?=some (c,pr)):progOf w h f=some pr:=by
 unfold progOf
 rw[Quq (by omega),Qhq ⟨by omega,by omega⟩,e,a]
 show(w.aj[i]?).bind _=_
 rw[d]
 show(r.ae[j]?).map _=_
 rw[b]
 rfl
def y_(w:bK)(h:Nat)(f:bx):Option Sc:=if f.room= -1 then(w.af[h]?).map λp=>⟨true,p.1.map (·.1)++w.ak.map (·.1),p.1.map (·.1)++w.ak.map (·.1),[],bS w.aj,w.ai.map (·.1)⟩
 else(w.aj[f.room.toNat]?).map λr=>⟨false,r.ao.map (·.1)++nQ,r.ao.map (·.1),r.aa.map (·.1),bS w.aj,[]⟩
def uE{w:bK}{h:Nat}{f:bx}{pr:List Rw}(o:cf w)(g:progOf w h f=some pr):∃b,y_ w h f=some b/\si b pr:=by
 unfold y_
 rcases jm g with⟨c,l,a⟩|⟨i,j,r,m,a,k,d,e⟩
 ·rw[Qhq c,a]
  exact⟨_,rfl,(o.hd _ (mQg a)).pr⟩
 ·rw[Quq (by omega),a]
  refine⟨_,by rw[show((i:Int)).toNat=i by omega,d];rfl,((o.rm _ (mQg d)).pr _ (mQg e)).1⟩
def C5{w:bK}(o:cf w):cc w 1 (bo w) where
 lr:=by simp[bo]
 rm:=λi r q c d=>by
  simp only[bo,gQm,c,Option.map_some,Option.some.injEq] at d
  subst d
  have e:=o.rm r (mQg c)
  refine⟨by simp[bZ,dj],by simp[bZ],λv b=> ?_,by simp[bZ],by simp[bZ],λl hl=> ?_⟩
  ·simp only[bZ,dj,Qkq] at b
   obtain⟨p,a,rfl⟩:=b
   have:=e.tv p a
   omega
  ·simp only[bZ,Qkq] at hl
   obtain⟨p,a,rfl⟩:=hl
   simp
 lp:=by simp[bo]
 ps:=λp a=>by
  simp only[bo,Qkq] at a
  obtain⟨p,a,rfl⟩:=a
  simp
 ls:=by simp[bo,dj]
 sv:=λv b=>by
  simp only[bo,dj,Qkq] at b
  obtain⟨p,a,rfl⟩:=b
  have:=o.sv p a
  omega
 lh:=by simp[bo]
 hd:=λh n j k m c d=>by
  simp only[bo,gQm,c,Option.map_some,Option.some.injEq] at d
  cases d
  have e:=o.hd _ (mQg c)
  refine⟨by simp[dj],λv b=> ?_,by simp,λf g=> ?_,⟨rfl,λ_ z=>by cases z⟩,λf g=>by cases g⟩
  ·simp only[dj,Qkq] at b
   obtain⟨p,a,rfl⟩:=b
   have:=e.tv p a
   omega
  ·rw[Qfq.mp g]
   refine⟨⟨j,?_,by decide,?_⟩,by decide,by decide⟩
   ·unfold progOf
    rw[Qhq (show Cn.room= -1 from rfl),c]
    rfl
   ·show(0:Int)<=_
    omega
def C6(s:aH)(h:Nat):List Int×List bx:=(s.af[h]?).getD ([],[])
def Fc(w:bK)(h:Nat):List (Str×Nat)×List Rw:=(w.af[h]?).getD ([],[])
def gP(s:aH)(h:Nat):bx:=((C6 s h).2.getLast?).getD Cn
def pY(w:bK)(i:Nat):Rm:=(w.aj[i]?).getD ⟨"","",[],[],[]⟩
def Ap(s:aH)(i:Nat):bJ:=(s.aj[i]?).getD ⟨[],0,[],[],[]⟩
def HQ(s:aH)(k:Nat):Int×List Int:=(s.ai[k]?).getD (0,[])
def C2(s:aH)(h:Nat)(f:bx):aH:={s with af:=s.af.set h ((C6 s h).1,(C6 s h).2.dropLast++ [f])}
def pN(s:aH)(i:Nat)(r:bJ):aH:={s with aj:=s.aj.set i r}
def xk(s:aH)(k:Nat)(p:Int×List Int):aH:={s with ai:=s.ai.set k p}
def dz(w:bK)(s:aH)(h:Nat)(t:Tr):Int:=
 if (gP s h).room= -1 then rF (numAt (wO w s (Fc w h).1 (C6 s h).1)) (λ_=>0) t
 else rF (numAt (oY (pY w (gP s h).room.toNat) (Ap s (gP s h).room.toNat) (gP s h).given)) (rh (pY w (gP s h).room.toNat) (Ap s (gP s h).room.toNat)) t
def pI(w:bK)(s:aH)(h:Nat)(x:Str)(v:Int):aH:=
 if (gP s h).room= -1 then ka w s h (Fc w h).1 (C6 s h).1 (C6 s h).2 x v
 else pN s (gP s h).room.toNat {Ap s (gP s h).room.toNat with vals:=cK ((pY w (gP s h).room.toNat).ao.map (·.1)) (Ap s (gP s h).room.toNat).vals x v}
def EN(r:Rm)(rs:bJ)(b:Str)(v:Int)(h:Nat):bJ:=
 bg {rs with aa:=rs.aa.set (bX (r.aa.map (·.1)) b) (fT ((rs.aa[bX (r.aa.map (·.1)) b]?).getD []) (if ((r.aa[bX (r.aa.map (·.1)) b]?).getD ("","")).2="turns" then v else 0) h)}
def iW(w:bK)(s:aH)(h:Nat):Rw->aH
 |.put x t=>pI w s h x (dz w s h t)
 |.unl t n=>if dz w s h t=0 then C2 s h {gP s h with row:=n} else s
 |.go n=>C2 s h {gP s h with row:=n}
 |.do_ _ rn a t=>pN {s with af:=s.af.set h ((C6 s h).1,(C6 s h).2++ [⟨(bX (w.aj.map (·.name)) rn:Nat),(bX ((pY w (bX (w.aj.map (·.name)) rn)).ae.map (·.1)) a:Nat),0,dz w s h t,0⟩])} (bX (w.aj.map (·.name)) rn) (eh (Ap s (bX (w.aj.map (·.name)) rn)) h)
 |.wait b t=>pN s (gP s h).room.toNat (EN (pY w (gP s h).room.toNat) (Ap s (gP s h).room.toNat) b (dz w s h t) h)
 |.call b=>pN s (gP s h).room.toNat (mz (decide ((pY w (gP s h).room.toNat).ah="when free")) (Ap s (gP s h).room.toNat) (bX ((pY w (gP s h).room.toNat).aa.map (·.1)) b) h)
 |.all b=>pN s (gP s h).room.toNat {Ap s (gP s h).room.toNat with aa:=(Ap s (gP s h).room.toNat).aa.set (bX ((pY w (gP s h).room.toNat).aa.map (·.1)) b) []}
 |.tell t=>C2 s h {gP s h with told:=dz w s h t}
 |.take p=>xk s (bX (w.ai.map (·.1)) p) (dG (HQ s (bX (w.ai.map (·.1)) p)) h)
 |.give p=>xk s (bX (w.ai.map (·.1)) p) (cR (HQ s (bX (w.ai.map (·.1)) p)))
 |.pass p q=>xk (xk s (bX (w.ai.map (·.1)) p) (cR (HQ s (bX (w.ai.map (·.1)) p)))) (bX (w.ai.map (·.1)) q) (dG (HQ (xk s (bX (w.ai.map (·.1)) p) (cR (HQ s (bX (w.ai.map (·.1)) p)))) (bX (w.ai.map (·.1)) q)) h)
 |.say _=>s
def yM(s:aH)(h:Nat):aH:=pN {s with af:=s.af.set h ((C6 s h).1,(C6 s h).2.dropLast)} (gP s h).room.toNat (bg (Ap s (gP s h).room.toNat))
def z4(w:bK)(s:aH)(h:Nat):Option Rw:=(progOf w h (gP s h)).bind λa=>a[((gP s h).row-1).toNat]?
def vV(w:bK)(s:aH)(h:Nat):aH:=match z4 w (yM s h) h with
 |some (.do_ (some x) _ _ _)=>pI w (yM s h) h x (gP s h).told
 |_=>yM s h
def Fx(s:aH)(h:Nat):aH:=C2 s h {gP s h with row:=(gP s h).row+1}
def BM(w:bK)(s:aH)(h:Nat):Rw->Option Int
 |.say t=>some (dz w s h t)
 |_=>none
def eM(w:bK)(s:aH)(h:Nat):aH×Option Int:=
 if (gP s h).room≠-1/\(Ap s (gP s h).room.toNat).within≠h then(pN s (gP s h).room.toNat (eh (Ap s (gP s h).room.toNat) h),none)
 else match progOf w h (gP s h) with
  |none=>(s,none)
  | some a=>if (gP s h).row=a.length then(vV w s h,none) else match a[(gP s h).row.toNat]? with
    |none=>(s,none)
    |some r=>(iW w (Fx s h) h r,BM w s h r)
section
variable{w:bK}{h:Nat}{s:aH}{vs:List Int}{fs:List bx}{f:bx}
def om(a:s.af[h]?=some (vs,fs)):C6 s h=(vs,fs):=by unfold C6;rw[a];rfl
def lE(a:s.af[h]?=some (vs,fs))(b:fs.getLast? =some f):gP s h=f:=by unfold gP;rw[om a];show(fs.getLast?).getD _=f;rw[b];rfl
def DC{p:List (Str×Nat)×List Rw}(a:w.af[h]?=some p):Fc w h=p:=by unfold Fc;rw[a];rfl
def oE{i:Nat}{r:Rm}(a:w.aj[i]?=some r):pY w i=r:=by unfold pY;rw[a];rfl
def ic{i:Nat}{r:bJ}(a:s.aj[i]?=some r):Ap s i=r:=by unfold Ap;rw[a];rfl
def vn{i:Nat}{p:Int×List Int}(a:s.ai[i]?=some p):HQ s i=p:=by unfold HQ;rw[a];rfl
def m9{g:bx}(a:s.af[h]?=some (vs,fs)):C2 s h g={s with af:=s.af.set h (vs,fs.dropLast++ [g])}:=by unfold C2;rw[om a]
end
section
variable{w:bK}{n h:Nat}{s:aH}{vs:List Int}{fs:List bx}{f:bx}{sc:Sc}
def cc.whand(x:cc w n s)(a:s.af[h]?=some (vs,fs)):∃ts pr,w.af[h]?=some (ts,pr)/\ix w n h ts vs fs:=by
 have hl:h<w.af.length:=by rw[x.lh];exact(gQs.mp a).1
 exact⟨_,_,gQe hl,x.hd h _ _ vs fs (gQe hl) a⟩
def cc.wroom{i:Nat}{r:Rm}(x:cc w n s)(a:w.aj[i]?=some r):∃rs,s.aj[i]?=some rs/\iS n r rs:=by
 have hl:i<s.aj.length:=by rw[←x.lr];exact(gQs.mp a).1
 exact⟨_,gQe hl,x.rm i r _ a (gQe hl)⟩
def eG{t:Sc}(a:y_ w h f=some t):(f.room= -1/\∃ts pr,w.af[h]?=some (ts,pr)/\t=⟨true,ts.map (·.1)++w.ak.map (·.1),ts.map (·.1)++w.ak.map (·.1),[],bS w.aj,w.ai.map (·.1)⟩)∨
  (f.room≠-1/\∃r,w.aj[f.room.toNat]?=some r/\t=⟨false,r.ao.map (·.1)++nQ,r.ao.map (·.1),r.aa.map (·.1),bS w.aj,[]⟩):=by
 unfold y_ at a
 split at a
 ·rename_i c
  obtain⟨⟨ts,pr⟩,d,b⟩:=oQm.mp a
  exact .inl ⟨c,ts,pr,d,b.symm⟩
 ·rename_i c
  obtain⟨r,d,b⟩:=oQm.mp a
  exact .inr ⟨c,r,d,b.symm⟩
def gn(x:Ff w h f)(c:f.room≠-1):f.room=(f.room.toNat:Int):=by
 obtain⟨d,b,_⟩:=x.pr
 rcases jm b with⟨a,_⟩|⟨i,_,_,_,e,_⟩
 ·exact absurd a c
 ·omega
def dR{t:Tr}(o:cf w)(x:cc w n s)(d:s.af[h]?=some (vs,fs))(m:fs.getLast? =some f)(v:y_ w h f=some sc)(e:zH sc t):(0<=dz w s h t/\dz w s h t<=9)/\uZ w s h t (dz w s h t):=by
 obtain⟨A,J,p,l⟩:=x.whand d
 have F:=o.hd _ (mQg p)
 have u:=l.fr f (QcQ m)
 have N:=o.l3
 have G:=F.l1
 have C:=x.ls
 rcases eG v with⟨c,H,I,g,rfl⟩|⟨c,r,hr,rfl⟩
 ·rw[p] at g
  cases g
  have a:jU (wO w s A vs):=jU.merge (gx x.sv) (gx l.vv)
  have z:dz w s h t=rF (numAt (wO w s A vs)) (λ_=>0) t:=by unfold dz;rw[lE d m,Qhq c,DC p,om d]
  rw[z]
  refine⟨?_,λS Q q=>uV p d m c C l.lv (by omega) (by dsimp only at G;omega) x.sv l.vv e.1 (by have:=e.2;omega) q⟩
  refine kD (ws:=A.map (·.1)++w.ak.map (·.1)) (bs:= []) (λy b=> ?_) e.1
  refine(m4 a (fK ?_)).2
  rcases mQa.mp b with b|b
  ·exact .inr (gk l.lv b)
  ·exact .inl (gk C b)
 ·obtain⟨B,j,i⟩:=x.wroom hr
  have k:=o.rm r (mQg hr)
  have M:=k.l1
  have K:=k.l2
  have a:jU (oY r B f.given):=(gx i.vv).put u.gv.1 u.gv.2
  have z:dz w s h t=rF (numAt (oY r B f.given)) (rh r B) t:=by unfold dz;rw[lE d m,Quq c,oE hr,ic j]
  rw[z]
  refine⟨?_,λS Q q=>tF d m (gn u c) hr j i.lv i.lb (by omega) (by omega) i.vv u.gv e.1 (by have:=e.2;omega) q⟩
  refine kD (ws:=r.ao.map (·.1)++nQ) (bs:=r.aa.map (·.1)) (λy b=> ?_) e.1
  refine(m4 a (kr ?_)).2
  rcases mQa.mp b with b|b
  ·exact .inr (gk i.lv b)
  ·left
   rw[Qfq.mp b]
def fh{ns:List Str}{y:Str}{v:Int}{a:List Int}(d:∀v∈a,0<=v/\v<=9)(c:0<=v/\v<=9):(cK ns a y v).length=a.length/\∀u∈cK ns a y v,0<=u/\u<=9:=by
 unfold cK
 refine⟨by simp,λz b=> ?_⟩
 rcases QTq b with b|rfl
 ·exact d z b
 ·exact c
def Bd{y:Str}{v:Int}(o:cf w)(x:cc w n s)(b:s.af[h]?=some (vs,fs))(j:fs.getLast? =some f)(m:y_ w h f=some sc)(B:y∈sc.ps)(p:0<=v/\v<=9):Puts w s h y v (pI w s h y v)/\cc w n (pI w s h y v):=by
 obtain⟨z,M,e,l⟩:=x.whand b
 have C:=o.hd _ (mQg e)
 have H:=l.fr f (QcQ j)
 have U:=o.l1
 have R:=o.l3
 have F:=C.l1
 have K:=o.l4
 have P:=x.lr
 have J:=x.lh
 rcases eG m with⟨c,G,I,d,rfl⟩|⟨c,r,hr,rfl⟩
 ·rw[e] at d
  cases d
  have t:pI w s h y v=ka w s h z vs fs y v:=by unfold pI;rw[lE b j,Qhq c,DC e,om b]
  rw[t]
  refine⟨λS Q q=>AB e b j c x.ls l.lv (by omega) (by dsimp only at F;omega) (by omega) B q,?_⟩
  unfold ka
  split
  ·obtain⟨k,i⟩:=fh (ns:=w.ak.map (·.1)) (y:=y) x.sv p
   exact x.share k i
  ·obtain⟨k,i⟩:=fh (ns:=z.map (·.1)) (y:=y) l.vv p
   exact x.hand e (l.vals k i)
 ·obtain⟨A,g,a⟩:=x.wroom hr
  have u:=o.rm r (mQg hr)
  have N:=u.l1
  have t:pI w s h y v={s with aj:=s.aj.set f.room.toNat {A with vals:=cK (r.ao.map (·.1)) A.vals y v}}:=by unfold pI;rw[lE b j,Quq c,oE hr,ic g];rfl
  rw[t]
  refine⟨λS Q q=>yz b j (gn H c) hr g a.lv (by omega) (by omega) B q,?_⟩
  obtain⟨k,i⟩:=fh (ns:=r.ao.map (·.1)) (y:=y) a.vv p
  exact x.room hr ⟨by rw[a.lv,←k],a.lb,i,a.br,a.bl,a.bb⟩
def cc.goes{m:Int}{pr:List Rw}(x:cc w n s)(d:s.af[h]?=some (vs,fs))(c:fs.getLast? =some f)(j:progOf w h f=some pr)(i:0<=m)(k:m<=pr.length):cc w n {s with af:=s.af.set h (vs,fs.dropLast++ [{f with row:=m}])}:=by
 obtain⟨l,g,e,b⟩:=x.whand d
 have a:=b.fr f (QcQ c)
 exact x.hand e (b.setLast c rfl ⟨⟨pr,j,i,k⟩,a.gv,a.tv⟩)
def cc.tells{v:Int}(x:cc w n s)(d:s.af[h]?=some (vs,fs))(c:fs.getLast? =some f)(i:0<=v/\v<=9):cc w n {s with af:=s.af.set h (vs,fs.dropLast++ [{f with told:=v}])}:=by
 obtain⟨j,e,g,b⟩:=x.whand d
 have a:=b.fr f (QcQ c)
 exact x.hand g (b.setLast c rfl ⟨a.pr,a.gv,i⟩)
def iS.come{r:Rm}{rs:bJ}{k:Int}(x:iS n r rs):iS (n+1) r (eh rs k):=by
 unfold eh
 have:=x.br
 split
 ·exact⟨x.lv,x.lb,x.vv,by show rs.row.length<=_;omega,Nat.le_succ_of_le x.bl,λl hl=>Nat.le_succ_of_le (x.bb l hl)⟩
 ·exact⟨x.lv,x.lb,x.vv,by simp;omega,Nat.le_succ_of_le x.bl,λl hl=>Nat.le_succ_of_le (x.bb l hl)⟩
def iS.leave{r:Rm}{rs:bJ}(x:iS n r rs):iS n r (bg rs):=by
 obtain⟨g,b,c,i,j⟩:=rs
 have e:=x.br
 have d:=x.bl
 unfold bg
 dsimp only at e d⊢
 cases i with
 |cons a l=>exact⟨x.lv,x.lb,x.vv,x.br,by simp at d;show l.length<=n;omega,x.bb⟩
 | nil=>
   cases c with
   |cons a l=>exact⟨x.lv,x.lb,x.vv,by simp at e;show l.length<=n;omega,x.bl,x.bb⟩
   |nil=>exact⟨x.lv,x.lb,x.vv,x.br,x.bl,x.bb⟩
def iS.line{r:Rm}{rs:bJ}{b:Nat}{l:List (Int×Int)}(x:iS n r rs)(hl:l.length<=n):iS n r {rs with aa:=rs.aa.set b l}:=⟨x.lv,by simp;exact x.lb,x.vv,x.br,x.bl,λk a=>by
 rcases QTq a with a|rfl
 ·exact x.bb k a
 ·exact hl⟩
def iS.call{r:Rm}{rs:bJ}{b:Nat}{k:Int}{fr:Bool}(x:iS n r rs):iS (n+1) r (mz fr rs b k):=by
 unfold mz
 split
 ·rename_i p l e
  have hl:=x.bb _ (mQg e)
  have y:=(x.mono (Nat.le_succ n)).line (b:=b) (l:=l) (by simp at hl;omega)
  have z:=x.bl
  split
  ·exact y
  ·exact⟨y.lv,y.lb,y.vv,y.br,by simp;omega,y.bb⟩
 ·exact x.mono (Nat.le_succ n)
def x_{l:List (Int×Int)}{a b:Int}:(fT l a b).length=l.length+1:=by
 unfold fT
 have:=List.length_filter_le (λp:Int×Int=>decide (p.1<=a)) l
 simp only[lQa,Qxq,List.length_drop,Qnq,QGq]
 omega
def Ao{rn a:Str}(o:cf w)(c:(rn,a)∈bS w.aj):rn∈w.aj.map (·.name)/\∃r,w.aj[bX (w.aj.map (·.name)) rn]?=some r/\a∈r.ae.map (·.1):=by
 unfold bS at c
 obtain⟨r,b,k⟩:=QOq.mp c
 obtain⟨p,m,e⟩:=Qkq.mp k
 cases e
 have d:r.name∈w.aj.map (·.name):=Qkq.mpr ⟨r,b,rfl⟩
 refine⟨d,r,?_,Qkq.mpr ⟨p,m,rfl⟩⟩
 obtain⟨q,j⟩:=fS d
 obtain⟨i,g,e⟩:=QbQ b
 have l:(w.aj.map (·.name))[i]?=some r.name:=by rw[gQm,gQe g,e];rfl
 rw[j2 o.nd j l,gQe g,e]
def A8{r:Rw}{pr:List Rw}(o:cf w)(x:cc w n s)(hn:n<=800)(A:s.af[h]?=some (vs,fs))(G:fs.getLast? =some f)(hp:progOf w h f=some pr)(h1:1<=f.row)(X:pr[(f.row-1).toNat]?=some r):Hs w s h r (iW w s h r)/\cc w (n+1) (iW w s h r):=by
 have e1:=om A
 have e2:=lE A G
 obtain⟨sc,F,c2⟩:=uE o hp
 have b:=c2 r (mQg X)
 obtain⟨ts,a1,hw,hi⟩:=x.whand A
 have fi:=hi.fr f (QcQ G)
 have b1:=o.l1
 have b2:=o.l2
 have b3:=o.l3
 have b4:=o.l4
 have lr:=x.lr
 have lp:=x.lp
 have lh:=x.lh
 have lf:=hi.lf
 have P:=x.mono (Nat.le_succ n)
 have B:sc.own=false->∃(i:Nat) (r:Rm) (M:bJ),f.room=i/\w.aj[i]?=some r/\s.aj[i]?=some M/\iS n r M/\I0 (bS w.aj) r/\sc.bs=r.aa.map (·.1):=λho=>by
  rcases eG F with⟨c,a6,a1,a5,rfl⟩|⟨c,r,H,rfl⟩
  ·cases ho
  ·obtain⟨M,e,K⟩:=x.wroom H
   exact⟨_,r,M,gn fi c,H,e,K,o.rm r (mQg H),rfl⟩
 have I:sc.own=true->sc.ts=w.ai.map (·.1):=λho=>by
  rcases eG F with⟨c,a6,a1,a5,rfl⟩|⟨c,r,H,rfl⟩
  ·rfl
  ·cases ho
 have k:∀y,y∈w.ai.map (·.1)->∀ps:List (Int×List Int),w.ai.length=ps.length->∃p,ps[bX (w.ai.map (·.1)) y]?=some p:=λy u ps hl=>by
  have:=(fS u).1
  rw[lQm] at this
  exact⟨_,gQe (by omega)⟩
 have N:∀p:Int×List Int,p.2.length<=n->(dG p h).2.length<=n+1:=λp hp=>by
  unfold dG
  split
  ·show p.2.length<=_;omega
  ·simp;omega
 have R:∀p:Int×List Int,p.2.length<=n->(cR p).2.length<=n:=λp hp=>by
  obtain⟨v,l⟩:=p
  unfold cR
  cases l with
  |nil=>simp
  |cons a l=>simp at hp;show l.length<=n;omega
 cases r with
 | put y t=>
   obtain⟨hv,H⟩:=dR o x A G F b.2
   obtain⟨j,b9⟩:=Bd o x A G F b.1 hv
   exact⟨λS Q q=>t9 H j q,b9.mono (Nat.le_succ n)⟩
 | unl t m=>
   obtain⟨hv,H⟩:=dR o x A G F b.1
   have C:iW w s h (.unl t m)=if dz w s h t=0 then{s with af:=s.af.set h (vs,fs.dropLast++ [{f with row:=m}])} else s:=by simp only[iW,e2,m9 A]
   rw[C]
   refine⟨λS Q q=>mK H A G (by omega) (by omega) q,?_⟩
   split
   · exact P.goes A G hp (by omega) (by have:=b.2;omega)
   · exact P
 | go m=>
   have C:iW w s h (.go m)={s with af:=s.af.set h (vs,fs.dropLast++ [{f with row:=m}])}:=by simp only[iW,e2,m9 A]
   rw[C]
   exact⟨λS Q q=>w6 A G (by omega) (by omega) q,P.goes A G hp (by omega) (by have:m<=pr.length:=b;omega)⟩
 | do_ g rn Y t=>
   obtain⟨hv,H⟩:=dR o x A G F b.2.2
   have ev:iW w s h (.do_ g rn Y t)=iW w s h (.do_ g rn Y t):=rfl
   generalize b0:dz w s h t=v at hv H
   have b8:sc.gs=bS w.aj:=by
     rcases eG F with⟨c,a6,a1,a5,rfl⟩|⟨c,r,H,rfl⟩ <;>rfl
   have a2:=b.2.1
   rw[b8] at a2
   obtain⟨c1,r,d,a7⟩:=Ao o a2
   obtain⟨M,e,K⟩:=x.wroom d
   have J:=o.rm r (mQg d)
   have b5:=J.l3
   have b6:=K.br
   have C:iW w s h (.do_ g rn Y t)={s with af:=s.af.set h (vs,fs++ [⟨(bX (w.aj.map (·.name)) rn:Nat),(bX (r.ae.map (·.1)) Y:Nat),0,v,0⟩]),aj:=s.aj.set (bX (w.aj.map (·.name)) rn) (eh M h)}:=by simp only[iW,e1,oE d,ic e,b0,pN]
   rw[C]
   refine⟨λS Q q=>xE H A c1 d e a7 (by omega) (by omega) (by omega) (by omega) (by omega) (by omega) q,?_⟩
   have a8:=fS a7
   have a3:=a8.1
   rw[lQm] at a3
   obtain⟨⟨c3,a4⟩,c0⟩:∃p,r.ae[bX (r.ae.map (·.1)) Y]?=some p:=⟨_,gQe a3⟩
   have pf:progOf w h ⟨(bX (w.aj.map (·.name)) rn:Nat),(bX (r.ae.map (·.1)) Y:Nat),0,v,0⟩=some a4:=uK rfl rfl d c0
   have hh:=hi.push (f':=⟨(bX (w.aj.map (·.name)) rn:Nat),(bX (r.ae.map (·.1)) Y:Nat),0,v,0⟩) G ⟨pr,g,rn,Y,t,hp,h1,X⟩ (by show((bX (w.aj.map (·.name)) rn:Nat):Int)≠-1;omega) ⟨⟨a4,pf,by show(0:Int)<=0;omega,by show(0:Int)<=_;omega⟩,hv,by show(0:Int)<=0/\(0:Int)<=9;omega⟩
   exact(P.hand hw hh).room d K.come
 | wait y t=>
   obtain⟨i,r,M,W,d,e,K,J,U⟩:=B b.1
   obtain⟨hv,H⟩:=dR o x A G F b.2.2
   have u:=b.2.1
   rw[U] at u
   have b6:=J.l2
   have lb:=K.lb
   obtain⟨k1,k2⟩:=fS u
   rw[lQm] at k1
   rw[gQm] at k2
   obtain⟨⟨y',so⟩,k3,k4⟩:=oQm.mp k2
   have k4:y'=y:=k4
   subst k4
   obtain⟨Z,hl⟩:∃l,M.aa[bX (r.aa.map (·.1)) y']?=some l:=⟨_,gQe (by omega)⟩
   have ll:=K.bb Z (mQg hl)
   have ti:f.room.toNat=i:=by omega
   have C:iW w s h (.wait y' t)={s with aj:=s.aj.set i (bg {M with aa:=M.aa.set (bX (r.aa.map (·.1)) y') (fT Z (if so="turns" then dz w s h t else 0) h)})}:=by simp only[iW,EN,pN,e2,ti,oE d,ic e,hl,k3,Option.getD_some]
   rw[C]
   refine⟨λS Q q=>qz A G W d e (by omega) lb (by omega) u k3 hl (by omega) H q,?_⟩
   exact P.room d (((K.mono (Nat.le_succ n)).line (by rw[x_];omega)).leave)
 | call y=>
   obtain⟨i,r,M,W,d,e,K,J,U⟩:=B b.1
   have u:=b.2
   rw[U] at u
   have b6:=J.l2
   have b7:=K.bl
   have ti:f.room.toNat=i:=by omega
   have C:iW w s h (.call y)={s with aj:=s.aj.set i (mz (decide (r.ah="when free")) M (bX (r.aa.map (·.1)) y) h)}:=by simp only[iW,pN,e2,ti,oE d,ic e]
   rw[C]
   refine⟨λS Q q=>rH A G W d e (by omega) K.lb (by omega) (by omega) u q,?_⟩
   exact P.room d K.call
 | all y=>
   obtain⟨i,r,M,W,d,e,K,J,U⟩:=B b.1
   have u:=b.2
   rw[U] at u
   have b6:=J.l2
   have ti:f.room.toNat=i:=by omega
   have C:iW w s h (.all y)={s with aj:=s.aj.set i {M with aa:=M.aa.set (bX (r.aa.map (·.1)) y) []}}:=by simp only[iW,pN,e2,ti,oE d,ic e]
   rw[C]
   refine⟨λS Q q=>uH A G W d e (by omega) K.lb (by omega) u q,?_⟩
   exact P.room d ((K.mono (Nat.le_succ n)).line (by simp))
 | tell t=>
   obtain⟨hv,H⟩:=dR o x A G F b.2
   have C:iW w s h (.tell t)={s with af:=s.af.set h (vs,fs.dropLast++ [{f with told:=dz w s h t}])}:=by simp only[iW,e2,m9 A]
   rw[C]
   exact⟨λS Q q=>qo H A G (by omega) (by omega) q,P.tells A G hv⟩
 | take y=>
   have u:=b.2
   rw[I b.1] at u
   obtain⟨p,j⟩:=k y u s.ai lp
   have pl:=x.ps p (mQg j)
   have C:iW w s h (.take y)={s with ai:=s.ai.set (bX (w.ai.map (·.1)) y) (dG p h)}:=by simp only[iW,xk,vn j]
   rw[C]
   exact⟨λS Q q=>r_ u j (by omega) (by omega) (by omega) q,P.pass (N p pl)⟩
 | give y=>
   have u:=b.2
   rw[I b.1] at u
   obtain⟨p,j⟩:=k y u s.ai lp
   have pl:=x.ps p (mQg j)
   have C:iW w s h (.give y)={s with ai:=s.ai.set (bX (w.ai.map (·.1)) y) (cR p)}:=by simp only[iW,xk,vn j]
   rw[C]
   exact⟨λS Q q=>rL u j (by omega) (by omega) q,P.pass (Nat.le_succ_of_le (R p pl))⟩
 | pass y z=>
   have u:=b.2.1
   have hz:=b.2.2
   rw[I b.1] at u hz
   obtain⟨p,j⟩:=k y u s.ai lp
   have pl:=x.ps p (mQg j)
   have x2:cc w n _:=x.pass (i:=bX (w.ai.map (·.1)) y) (R p pl)
   obtain⟨p2,a0⟩:=k z hz (s.ai.set (bX (w.ai.map (·.1)) y) (cR p)) (by simpa using lp)
   have a9:=x2.ps p2 (mQg a0)
   have C:iW w s h (.pass y z)={s with ai:=(s.ai.set (bX (w.ai.map (·.1)) y) (cR p)).set (bX (w.ai.map (·.1)) z) (dG p2 h)}:=by
     have e3:HQ (xk s (bX (w.ai.map (·.1)) y) (cR p)) (bX (w.ai.map (·.1)) z)=p2:=vn a0
     simp only[iW,vn j]
     rw[e3]
     rfl
   rw[C]
   refine⟨λS Q q=>qg u hz j (by omega) (by omega) (by omega) a0 q,(x2.mono (Nat.le_succ n)).pass (N p2 a9)⟩
 |say t=>exact⟨λS Q q=>tY (sd:=.non) q,P⟩
end
section
variable{w:bK}{n h:Nat}{s:aH}{vs:List Int}{fs:List bx}{f:bx}{sc:Sc}
def cc.mays(o:cf w)(x:cc w n s)(r:n<=800):GV w s:=by
 have G:=o.l1
 have C:=o.l2
 have y:=o.l4
 have B:=x.lr
 have A:=x.lp
 have v:=x.lh
 refine yj (λS Q q=>iI r (by omega) (by omega) x.ps (λk c=> ?_) q) (λh t=> ?_) (by omega)
 ·obtain⟨i,j,e⟩:=QbQ c
  have a:s.aj[i]?=some k:=by rw[gQe j,e]
  have d:w.aj[i]?=some (w.aj[i]'(by omega)):=gQe (by omega)
  have b:=x.rm i _ k d a
  have:=(o.rm _ (mQg d)).l2
  have:=b.lb
  exact⟨b.br,b.bl,by omega,b.bb⟩
 ·obtain⟨⟨vs,fs⟩,a⟩:∃p,s.af[h]?=some p:=⟨_,gQe t⟩
  obtain⟨F,z,d,j⟩:=x.whand a
  obtain⟨f,u,m⟩:=j.last
  obtain⟨g,l,_⟩:=m.pr
  exact⟨vs,fs,f,g,a,u,l⟩
def GC(o:cf w)(x:cc w n s)(hn:n<=800)(hm:h∈jY w s)(b:s.af[h]?=some (vs,fs))(p:fs.getLast? =some f):gI w s h (eM w s h).1 (eM w s h).2/\cc w (n+1) (eM w s h).1:=by
 have e1:=om b
 have M:=lE b p
 obtain⟨ts,a1,hw,hi⟩:=x.whand b
 have fi:=hi.fr f (QcQ p)
 obtain⟨pr,d,W,a6⟩:=fi.pr
 have b1:=o.l1
 have b4:=o.l4
 have lr:=x.lr
 have lh:=x.lh
 have lf:=hi.lf
 have nb:¬(f.room= -1/\f.row=pr.length):=by
  rintro⟨c1,c2⟩
  have:=(List.mem_filter.mp hm).2
  rw[QCq] at this
  have hb:sx w s h=true:=by
   unfold sx xZ
   rw[b]
   show(match fs.getLast? with|some f=>_|none=>_)=_
   rw[p]
   simp only[d,Option.getD_some,c1,c2,decide_true,Bool.and_true]
  rw[hb] at this
  exact absurd this.2 (by decide)
 by_cases c:f.room= -1
 ·
  have H:pr=a1:=by
   unfold progOf at d
   rw[Qhq c,hw] at d
   cases d;rfl
  subst H
  have G:f.row.toNat<pr.length:=by
   have:f.row≠pr.length:=λz=>nb ⟨c,z⟩
   omega
  have a:pr[f.row.toNat]?=some (pr[f.row.toNat]):=gQe G
  generalize pr[f.row.toNat]=r at a
  obtain⟨sc,J,K⟩:=uE o d
  have l:=K r (mQg a)
  have X:Eg w s h r (BM w s h r):=by
   cases r with
   |say t=>exact⟨_,rfl,(dR o x b p J l.2).2⟩
   |_=>rfl
  have F:eM w s h=(iW w {s with af:=s.af.set h (vs,fs.dropLast++ [{f with row:=f.row+1}])} h r,BM w s h r):=by
   unfold eM Fx
   rw[M,Quq (λz=>z.1 c),d]
   simp only
   rw[Quq (λz=>nb ⟨c,z⟩),a,m9 b]
  rw[F]
  have P:=x.goes b p d (m:=f.row+1) (by omega) (by omega)
  have hl:h<s.af.length:=(gQs.mp b).1
  obtain⟨N,u⟩:=A8 (f:={f with row:=f.row+1}) (r:=r) (pr:=pr) o P hn (Qyq hl) (by simp) d (by show 1<=f.row+1;omega) (by show pr[(f.row+1-1).toNat]?=_;rw[show f.row+1-1=f.row by omega];exact a)
  exact⟨qZ b p (.inl c) d W a (by omega) (by omega) X N,u⟩
 ·
  rcases jm d with⟨c',_⟩|⟨i,j,r,dn,Z,h2,h3,h4⟩
  ·exact absurd c' c
  obtain⟨I,k,ri⟩:=x.wroom h3
  have br:=ri.br
  have ti:f.room.toNat=i:=by omega
  by_cases U:I.within=h
  ·have A:Here s h f:=.inr ⟨i,I,Z,k,U⟩
   by_cases ce:f.row=pr.length
   ·
    have R:=fb p
    have N:=hi.hd
    rw[R] at N
    obtain⟨C,B,hg⟩:=N.two c
    have a3:fs=C++ [B,f]:=by rw[R,hg];simp
    subst a3
    obtain⟨a0,a2⟩:=hi.pop
    obtain⟨a5,g,rn,a4,t,Y,p2,p3⟩:=a2
    have eo:yM s h={s with aj:=s.aj.set i (bg I),af:=s.af.set h (vs,C++ [B])}:=by
     unfold yM
     rw[M,e1,ti,ic k]
     simp only[pN]
     rw[show C++ [B,f]=(C++ [B])++ [f] by simp,List.dropLast_concat]
    have ho:(yM s h).af[h]?=some (vs,C++ [B]):=by rw[eo];exact Qyq (gQs.mp b).1
    have eb:z4 w (yM s h) h=some (.do_ g rn a4 t):=by
     unfold z4
     rw[lE ho (f:=B) (by simp),Y]
     exact p3
    have F:eM w s h=(vV w s h,none):=by
     unfold eM
     rw[M,ti,ic k,Quq (λz=>z.2 U),d]
     simp only
     rw[Qhq ce]
    have P:cc w n {s with aj:=s.aj.set i (bg I),af:=s.af.set h (vs,C++ [B])}:=(x.hand hw a0).room h3 ri.leave
    obtain⟨sc,J,K⟩:=uE o Y
    have l:=K _ (mQg p3)
    have hl:h<s.af.length:=(gQs.mp b).1
    cases g with
    | none=>
      have ee:vV w s h={s with aj:=s.aj.set i (bg I),af:=s.af.set h (vs,C++ [B])}:=by unfold vV;rw[eb];exact eo
      rw[F,ee]
      exact⟨nh b p A d ce λS Q q=>gQ b Z k (by omega) (by omega) Y p2 p3 (λ_ e=>e.symm) q,P.mono (Nat.le_succ n)⟩
    | some y=>
      obtain⟨H,u⟩:=Bd (y:=y) (v:=f.told) o P (Qyq hl) (by simp) J (l.1 y rfl) fi.tv
      have ee:vV w s h=pI w {s with aj:=s.aj.set i (bg I),af:=s.af.set h (vs,C++ [B])} h y f.told:=by unfold vV;rw[eb,eo,M]
      rw[F,ee]
      exact⟨nh b p A d ce λS Q q=>gQ b Z k (by omega) (by omega) Y p2 p3 (λ_ e=>by rw[e];exact H) q,u.mono (Nat.le_succ n)⟩
   ·
    have G:f.row.toNat<pr.length:=by omega
    have a:pr[f.row.toNat]?=some (pr[f.row.toNat]):=gQe G
    generalize pr[f.row.toNat]=r' at a
    have l:=((o.rm _ (mQg h3)).pr _ (mQg h4)).1 r' (mQg a)
    have he:Eg w s h r' none:=by
     cases r' with
     |say t=>exact absurd l.1 (show¬(false=true) by decide)
     |_=>rfl
    have P:=x.goes b p d (m:=f.row+1) (by omega) (by omega)
    have hl:h<s.af.length:=(gQs.mp b).1
    have F:eM w s h=(iW w {s with af:=s.af.set h (vs,fs.dropLast++ [{f with row:=f.row+1}])} h r',none):=by
     unfold eM Fx
     rw[M,ti,ic k,Quq (λz=>z.2 U),d]
     simp only
     rw[Quq ce,a,m9 b]
     refine congrArg (Prod.mk _) ?_
     cases r' with
     |say t=>exact absurd l.1 (show¬(false=true) by decide)
     |_=>rfl
    rw[F]
    obtain⟨N,u⟩:=A8 (f:={f with row:=f.row+1}) (r:=r') (pr:=pr) o P hn (Qyq hl) (by simp) d (by show 1<=f.row+1;omega) (by show pr[(f.row+1-1).toNat]?=_;rw[show f.row+1-1=f.row by omega];exact a)
    exact⟨qZ b p A d W a (by omega) (by omega) he N,u⟩
  ·
   have F:eM w s h=({s with aj:=s.aj.set i (eh I h)},none):=by
    unfold eM
    rw[M,ti,ic k,Qhq ⟨c,U⟩]
    rfl
   rw[F]
   exact⟨ur b p Z k U (by omega) (by omega),(x.mono (Nat.le_succ n)).room h3 ri.come⟩
end
theorem iw{α c:Type}{f:α->List c}:∀{l:List α} {i:Nat} {a:α},l[i]?=some a->(l.flatMap f).Perm (f a++(l.eraseIdx i).flatMap f)
 | [],_,_,h=>by simp at h
 | x::l,0,a,h=>by
   simp at h
   subst h
   exact List.Perm.refl _
 | x::l,i+1,a,h=>by
   have b:=iw (f:=f) (l:=l) (i:=i) (by simpa using h)
   rw[QSq,List.eraseIdx_cons_succ,QSq]
   exact(List.Perm.append_left (f x) b).trans (by
     rw[←Qvq,←Qvq]
     exact QJq _ List.perm_append_comm)
theorem uA{α:Type}{b:α}:∀{l:List α} {i:Nat},(l.set i b).eraseIdx i=l.eraseIdx i
 | [],_=>rfl
 |_::_,0=>rfl
 | x::l,i+1=>by
   simp only[List.set_cons_succ,List.eraseIdx_cons_succ]
   rw[uA]
def h_{α c:Type}{f:α->List c}{l:List α}{i:Nat}{a b:α}(h:l[i]?=some a):((l.set i b).flatMap f).Perm (f b++(l.eraseIdx i).flatMap f):=by
 have:=iw (f:=f) (l:=l.set i b) (i:=i) (Qyq (gQs.mp h).1)
 rw[uA] at this
 exact this
def LQ(r:bJ):List Int:=r.ag++r.aa.flatMap λl=>l.map (·.2)
def gU{r:bJ}{y:Int}(h:y∈LQ r):y∈aJ r:=by
 unfold aJ
 rw[Qvq]
 exact mQa.mpr (.inr h)
structure Q2(w:bK)(N:Nat)(ps:List (Int×List Int))(rs:List bJ)(fr:Nat->List Int):Prop where
 fo:∀g,g<N->(fr g).head? =some (-1)
 nd:(ps.flatMap (·.2)++rs.flatMap aJ).Nodup
 hv:∀x∈ps.flatMap (·.2)++rs.flatMap aJ,∃g:Nat,x=g/\g<N
 pv:∀p∈ps,(0<=p.1/\p.1<=9)/\(p.1=0\/p.2= [])
 pl:∀p∈ps,∀g:Nat,(g:Int)∈p.2->fr g= [-1]
 rl:∀(i:Nat) (r:bJ),rs[i]?=some r->∀g:Nat,(g:Int)∈aJ r->(fr g).getLast? =some (i:Int)
 r1:∀(i:Nat) (r:bJ),rs[i]?=some r->r.within= -1->r.row= []/\r.ag= []
 r2:∀(i:Nat) (r:bJ),rs[i]?=some r->r.within= -1\/∃g:Nat,r.within=g/\g<N/\(i:Int)∈fr g
 r3:∀(i:Nat) (r:bJ) (rm:Rm),rs[i]?=some r->w.aj[i]?=some rm->rm.ah="when free" ->r.ag= []
 r4:∀(i:Nat) (r:bJ) (rm:Rm),rs[i]?=some r->w.aj[i]?=some rm->∀(b:Nat) (l:List (Int×Int)) (nm so:Str),r.aa[b]?=some l->rm.aa[b]?=some (nm,so)->(l.map (·.1)).Pairwise (·<=·)/\(so="row" ->∀p∈l,p.1=0)
 r5:∀(i:Nat) (r:bJ),rs[i]?=some r->∀y∈LQ r,r.within≠y
def hl(ps:List (Int×List Int))(rs:List bJ):List Int:=ps.flatMap (·.2)++rs.flatMap aJ
section
variable{w:bK}{N:Nat}{ps:List (Int×List Int)}{rs:List bJ}{fr fr':Nat->List Int}{h:Nat}
def p_{i:Nat}{r nr:bJ}(b:rs[i]?=some r):∃a,(hl ps rs).Perm (aJ r++a)/\(hl ps (rs.set i nr)).Perm (aJ nr++a):=by
 refine⟨ps.flatMap (·.2)++(rs.eraseIdx i).flatMap aJ,?_,?_⟩
 ·exact(List.Perm.append_left _ (iw b)).trans (by rw[←Qvq,←Qvq];exact QJq _ List.perm_append_comm)
 ·exact(List.Perm.append_left _ (h_ b)).trans (by rw[←Qvq,←Qvq];exact QJq _ List.perm_append_comm)
def wo{i:Nat}{p np:Int×List Int}(b:ps[i]?=some p):∃a,(hl ps rs).Perm (p.2++a)/\(hl (ps.set i np) rs).Perm (np.2++a):=by
 refine⟨(ps.eraseIdx i).flatMap (·.2)++rs.flatMap aJ,?_,?_⟩
 ·rw[←Qvq];exact QJq _ (iw (f:=λp:Int×List Int=>p.2) b)
 ·rw[←Qvq];exact QJq _ (h_ (f:=λp:Int×List Int=>p.2) b)
structure R2(w:bK)(N i:Nat)(fr:Nat->List Int)(r:bJ):Prop where
 rl:∀g:Nat,(g:Int)∈aJ r->(fr g).getLast? =some (i:Int)
 r1:r.within= -1->r.row= []/\r.ag= []
 r2:r.within= -1\/∃g:Nat,r.within=g/\g<N/\(i:Int)∈fr g
 r3:∀rm:Rm,w.aj[i]?=some rm->rm.ah="when free" ->r.ag= []
 r4:∀rm:Rm,w.aj[i]?=some rm->∀(b:Nat) (l:List (Int×Int)) (nm so:Str),r.aa[b]?=some l->rm.aa[b]?=some (nm,so)->(l.map (·.1)).Pairwise (·<=·)/\(so="row" ->∀p∈l,p.1=0)
 r5:∀y∈LQ r,r.within≠y
def Q2.at(x:Q2 w N ps rs fr){i:Nat}{r:bJ}(a:rs[i]?=some r):R2 w N i fr r:=⟨x.rl i r a,x.r1 i r a,x.r2 i r a,λb=>x.r3 i r b a,λb=>x.r4 i r b a,x.r5 i r a⟩
def Q2.room(x:Q2 w N ps rs fr){i:Nat}{r nr:bJ}(n:rs[i]?=some r)(e:R2 w N i fr nr)(l:∀a:List Int,(aJ r++a).Nodup->(h:Int)∉aJ r++a->(aJ nr++a).Nodup)(g:∀y∈aJ nr,y∈aJ r\/y=(h:Int))(o:h<N)(p:(h:Int)∉hl ps rs):Q2 w N ps (rs.set i nr) fr:=by
 obtain⟨a,k,m⟩:=p_ (ps:=ps) (nr:=nr) n
 refine⟨x.fo,m.nodup_iff.mpr (l a (k.nodup_iff.mp x.nd) λz=>p (k.mem_iff.mpr z)),λy d=> ?_,x.pv,x.pl,λj c b=> ?_,λj c b=> ?_,λj c b=> ?_,λj c f b=> ?_,λj c f b=> ?_,λj c b=> ?_⟩
 ·rcases mQa.mp (m.mem_iff.mp d) with d|d
  ·rcases g y d with d|rfl
   ·exact x.hv y (k.mem_iff.mpr (mQa.mpr (.inl d)))
   ·exact⟨h,rfl,o⟩
  ·exact x.hv y (k.mem_iff.mpr (mQa.mpr (.inr d)))
 all_goals rcases get_set b with⟨rfl,rfl⟩|⟨_,b⟩
 ·exact e.rl
 ·exact x.rl j c b
 ·exact e.r1
 ·exact x.r1 j c b
 ·exact e.r2
 ·exact x.r2 j c b
 ·exact e.r3 f
 ·exact x.r3 j c f b
 ·exact e.r4 f
 ·exact x.r4 j c f b
 ·exact e.r5
 ·exact x.r5 j c b
end
section
variable{w:bK}{N:Nat}{ps:List (Int×List Int)}{rs:List bJ}{fr fr':Nat->List Int}{h:Nat}
def Q2.room0(x:Q2 w N ps rs fr){i:Nat}{r nr:bJ}(n:rs[i]?=some r)(d:R2 w N i fr nr)(k:∀a:List Int,(aJ r++a).Nodup->(aJ nr++a).Nodup)(f:∀y∈aJ nr,y∈aJ r):Q2 w N ps (rs.set i nr) fr:=by
 obtain⟨a,l,m⟩:=p_ (ps:=ps) (nr:=nr) n
 refine⟨x.fo,m.nodup_iff.mpr (k a (l.nodup_iff.mp x.nd)),λy g=> ?_,x.pv,x.pl,λj c b=> ?_,λj c b=> ?_,λj c b=> ?_,λj c e b=> ?_,λj c e b=> ?_,λj c b=> ?_⟩
 ·rcases mQa.mp (m.mem_iff.mp g) with g|g
  ·exact x.hv y (l.mem_iff.mpr (mQa.mpr (.inl (f y g))))
  ·exact x.hv y (l.mem_iff.mpr (mQa.mpr (.inr g)))
 all_goals rcases get_set b with⟨rfl,rfl⟩|⟨_,b⟩
 ·exact d.rl
 ·exact x.rl j c b
 ·exact d.r1
 ·exact x.r1 j c b
 ·exact d.r2
 ·exact x.r2 j c b
 ·exact d.r3 e
 ·exact x.r3 j c e b
 ·exact d.r4 e
 ·exact x.r4 j c e b
 ·exact d.r5
 ·exact x.r5 j c b
def rP{a b c:List Int}{k:Int}(p:b.Perm (k::a))(n:(a++c).Nodup)(d:k∉a++c):(b++c).Nodup:=by
 refine(QJq c p).nodup_iff.mpr ?_
 rw[List.cons_append]
 exact List.nodup_cons.mpr ⟨d,n⟩
def sC{a b c:List Int}{k:Int}(p:a.Perm (k::b))(n:(a++c).Nodup):(b++c).Nodup:=by
 have:=(QJq c p).nodup_iff.mp n
 rw[List.cons_append] at this
 exact(List.nodup_cons.mp this).2
def fX(x:Q2 w N ps rs fr){i:Nat}{r:bJ}(a:rs[i]?=some r){y:Int}(b:y∈aJ r):y∈hl ps rs:=mQa.mpr (.inr (QOq.mpr ⟨r,mQg a,b⟩))
def leave_held(r:bJ):(∃a,(aJ r).Perm (a::aJ (bg r))/\(bg r).within=a)\/(aJ (bg r)=aJ r/\(bg r).within= -1/\r.row= []/\r.ag= []):=by
 obtain⟨d,c,b,e,f⟩:=r
 cases e with
 | cons a l=>
   refine .inl ⟨a,?_,rfl⟩
   show(b++(a::l)++_).Perm (a::(b++l++_))
   rw[Qvq,Qvq]
   exact List.perm_middle
 | nil=>
   cases b with
   |cons a l=>exact .inl ⟨a,List.Perm.refl _,rfl⟩
   |nil=>exact .inr ⟨rfl,rfl,rfl,rfl⟩
def k0{r:bJ}(h:r.ag= []):(bg r).ag= []:=by
 obtain⟨c,a,b,d,e⟩:=r
 cases h
 cases b <;>rfl
def jO(r:bJ):(bg r).aa=r.aa:=by
 obtain⟨d,b,c,e,f⟩:=r
 cases e with
 |cons a l=>rfl
 |nil=>cases c <;>rfl
def p9(x:Q2 w N ps rs fr){i:Nat}{r:bJ}(b:rs[i]?=some r):(aJ r).Nodup:=by
 obtain⟨a,c,_⟩:=p_ (ps:=ps) (nr:=r) b
 exact(List.nodup_append.mp (c.nodup_iff.mp x.nd)).1
def wD{a:Int}{l m:List Int}(b:l.Perm (a::m))(n:l.Nodup){y:Int}(c:y∈m):a≠y:=λz=>by
 subst z
 exact(List.nodup_cons.mp (b.nodup_iff.mp n)).1 c
def AZ{r:bJ}{b:Nat}{l nl:List (Int×Int)}{y:Int}(f:r.aa[b]?=some l)(e:∀z∈nl.map (·.2),z∈l.map (·.2))(c:y∈LQ {r with aa:=r.aa.set b nl}):y∈LQ r:=by
 rcases mQa.mp c with c|c
 ·exact mQa.mpr (.inl c)
 ·obtain⟨m,g,a⟩:=QOq.mp c
  obtain⟨j,d⟩:=List.getElem?_of_mem g
  rcases get_set d with⟨rfl,rfl⟩|⟨_,d⟩
  ·exact mQa.mpr (.inr (QOq.mpr ⟨l,mQg f,e y a⟩))
  ·exact mQa.mpr (.inr (QOq.mpr ⟨m,mQg d,a⟩))
def Q2.leave(x:Q2 w N ps rs fr){i:Nat}{r:bJ}(o:rs[i]?=some r):Q2 w N ps (rs.set i (bg r)) fr:=by
 have j:=x.at o
 rcases leave_held r with⟨a,s,m⟩|⟨u,m,c,p⟩
 ·have H:a∈aJ r:=s.mem_iff.mpr (QBq ..)
  have d:∀y∈aJ (bg r),y∈aJ r:=λy k=>s.mem_iff.mpr (Qpq _ k)
  obtain⟨g,rfl,G⟩:=x.hv a (fX x o H)
  refine x.room0 o ⟨λB f=>j.rl B (d _ f),λz=>by rw[m] at z;omega,.inr ⟨g,m,G,QcQ (j.rl g H)⟩,λe c p=>k0 (j.r3 e c p),λe c b l nm C v A=>j.r4 e c b l nm C (by rw[←jO];exact v) A,λy k=>by rw[m];exact wD s (p9 x o) (gU k)⟩ (λq n=>sC s n) d
 ·refine x.room0 o ⟨λB f=>j.rl B (by rw[←u];exact f),λ_=> ?_,.inl m,λe c p=>k0 (j.r3 e c p),λe c b l nm C v A=>j.r4 e c b l nm C (by rw[←jO];exact v) A,λy k=>by obtain⟨g,G,_⟩:=x.hv y (fX x o (by rw[←u];exact gU k));rw[m];omega⟩ (λq n=>by rw[u];exact n) (λy k=>by rw[←u];exact k)
  obtain⟨F,t,I,K,J⟩:=r
  cases c
  cases p
  exact⟨rfl,rfl⟩
def Q2.come(x:Q2 w N ps rs fr){i:Nat}{r:bJ}(f:rs[i]?=some r)(l:h<N)(m:(h:Int)∉hl ps rs)(o:(fr h).getLast? =some (i:Int)):Q2 w N ps (rs.set i (eh r h)) fr:=by
 have a:=x.at f
 unfold eh
 by_cases c:r.within= -1
 ·rw[Qhq c]
  refine x.room0 f ⟨a.rl,λz=>by have z:(h:Int)= -1:=z;omega,.inr ⟨h,rfl,l,QcQ o⟩,a.r3,a.r4,λy d z=>m (fX x f (by have z:(h:Int)=y:=z;rw[z];exact gU d))⟩ (λe n=>n) (λy d=>d)
 ·rw[Quq c]
  have k:(aJ {r with row:=r.row++ [(h:Int)]}).Perm ((h:Int)::aJ r):=by
   show((r.row++ [(h:Int)])++r.ag++_).Perm ((h:Int)::(r.row++r.ag++_))
   rw[Qvq,Qvq,Qvq]
   exact List.perm_middle
  have b:∀y∈aJ {r with row:=r.row++ [(h:Int)]},y∈aJ r\/y=(h:Int):=λy d=>by
   rcases Qsq.mp (k.mem_iff.mp d) with rfl|d
   ·exact .inr rfl
   ·exact .inl d
  refine x.room f ⟨λg j=> ?_,λz=>absurd z c,a.r2,a.r3,a.r4,a.r5⟩ (λe n p=>rP k n p) b l m
  rcases b _ j with j|j
  ·exact a.rl g j
  ·have:g=h:=by omega
   subst this
   exact o
def sO{α:Type}{A B C:List α}:(A++(B++C)).Perm (B++(A++C)):=by
 rw[←Qvq,←Qvq]
 exact QJq _ List.perm_append_comm
def k9{r:bJ}{b:Nat}{l nl:List (Int×Int)}(c:r.aa[b]?=some l):∃a,(aJ r).Perm (l.map (·.2)++a)/\(aJ {r with aa:=r.aa.set b nl}).Perm (nl.map (·.2)++a):=by
 refine⟨(r.row++r.ag)++(r.aa.eraseIdx b).flatMap λl=>l.map (·.2),?_,?_⟩
 ·exact(List.Perm.append_left (r.row++r.ag) (iw (f:=λl:List (Int×Int)=>l.map (·.2)) c)).trans sO
 ·exact(List.Perm.append_left (r.row++r.ag) (h_ (f:=λl:List (Int×Int)=>l.map (·.2)) (b:=nl) c)).trans sO
def CK{l:List (Int×Int)}{t k:Int}:((fT l t k).map (·.2)).Perm (k::l.map (·.2)):=by
 unfold fT
 generalize (l.filter λp=>decide (p.1<=t)).length=n
 have e:l.map (·.2)=(l.take n).map (·.2)++(l.drop n).map (·.2):=by rw[←Qzq,List.take_append_drop]
 rw[e,Qvq,Qzq]
 exact List.perm_middle
theorem qH{t:Int}:∀{l:List (Int×Int)},(l.map (·.1)).Pairwise (·<=·)->(∀p∈l.take (l.filter λp=>decide (p.1<=t)).length,p.1<=t)/\∀p∈l.drop (l.filter λp=>decide (p.1<=t)).length,t<p.1
 | [],_=>⟨λp b=>by simp at b,λp b=>by simp at b⟩
 | a::l,hs=>by
   rw[QDq,List.pairwise_cons] at hs
   by_cases c:a.1<=t
   · rw[List.filter_cons_of_pos (by simpa using c),Qnq,List.take_succ_cons,List.drop_succ_cons]
     obtain⟨g,f⟩:=qH (t:=t) hs.2
     refine⟨λp b=> ?_,f⟩
     rcases Qsq.mp b with rfl|b
     · exact c
     · exact g p b
   · have d:∀p∈a::l,t<p.1:=λp b=>by
       rcases Qsq.mp b with rfl|b
       · omega
       · have:=hs.1 p.1 (Qkq.mpr ⟨p,b,rfl⟩)
         omega
     have e:((a::l).filter λp=>decide (p.1<=t))= []:=List.filter_eq_nil_iff.mpr λp b=>by
       have:=d p b
       simpa using this
     rw[e]
     exact⟨λp b=>by simp at b,λp b=>d p (by simpa using b)⟩
def yl{l:List (Int×Int)}{t k:Int}(e:(l.map (·.1)).Pairwise (·<=·)):((fT l t k).map (·.1)).Pairwise (·<=·):=by
 obtain⟨g,d⟩:=qH (t:=t) e
 unfold fT
 generalize (l.filter λp=>decide (p.1<=t)).length=n at g d⊢
 rw[Qvq,Qzq,Qzq,List.pairwise_append]
 have j:((l.take n).map (·.1)).Pairwise (·<=·):=by rw[List.map_take];exact e.sublist (List.take_sublist ..)
 have i:((l.drop n).map (·.1)).Pairwise (·<=·):=by rw[List.map_drop];exact e.sublist (List.drop_sublist ..)
 refine⟨j,?_,λa r b c=> ?_⟩
 ·show(t::(l.drop n).map (·.1)).Pairwise (·<=·)
  rw[List.pairwise_cons]
  refine⟨λb c=> ?_,i⟩
  obtain⟨p,f,rfl⟩:=Qkq.mp c
  have:=d p f
  omega
 ·obtain⟨p,f,rfl⟩:=Qkq.mp r
  have o:=g p f
  rcases Qsq.mp (show b∈t::(l.drop n).map (·.1) from c) with rfl|c
  ·exact o
  ·obtain⟨q,m,rfl⟩:=Qkq.mp c
   have:=d q m
   omega
def Dw{l:List (Int×Int)}{t k:Int}{p:Int×Int}(h:p∈fT l t k):p∈l\/p=(t,k):=by
 unfold fT at h
 rcases mQa.mp h with h|h
 ·rcases mQa.mp h with h|h
  ·exact .inl (List.mem_of_mem_take h)
  ·exact .inr (Qfq.mp h)
 ·exact .inl (List.mem_of_mem_drop h)
def Q2.wait(x:Q2 w N ps rs fr){i b:Nat}{r:bJ}{rm:Rm}{l:List (Int×Int)}{t:Int}{nm so:Str}(G:rs[i]?=some r)(hm:w.aj[i]?=some rm)(hb:r.aa[b]?=some l)(hs:rm.aa[b]?=some (nm,so))(ht:so="row" ->t=0)(W:h<N)(Y:(h:Int)∉hl ps rs)(hf:(fr h).getLast? =some (i:Int)):
  Q2 w N ps (rs.set i (bg {r with aa:=r.aa.set b (fT l t h)})) fr:=by
 have P:=x.at G
 obtain⟨j,p1,p2⟩:=k9 (nl:=fT l t h) hb
 have q:(aJ {r with aa:=r.aa.set b (fT l t h)}).Perm ((h:Int)::aJ r):=by
  refine p2.trans ((QJq j CK).trans ?_)
  rw[List.cons_append]
  exact List.Perm.cons _ p1.symm
 have e:∀y∈aJ {r with aa:=r.aa.set b (fT l t h)},y∈aJ r\/y=(h:Int):=λy d=>by
  rcases Qsq.mp (q.mem_iff.mp d) with rfl|d
  ·exact .inr rfl
  ·exact .inl d
 have C:∀g:Nat,(g:Int)∈aJ {r with aa:=r.aa.set b (fT l t h)}->(fr g).getLast? =some (i:Int):=λg B=>by
  rcases e _ B with B|B
  ·exact P.rl g B
  ·have:g=h:=by omega
   subst this
   exact hf
 have J:∀c:Rm,w.aj[i]?=some c->∀(M:Nat) (H:List (Int×Int)) (v k:Str),(bg {r with aa:=r.aa.set b (fT l t h)}).aa[M]?=some H->c.aa[M]?=some (v,k)->(H.map (·.1)).Pairwise (·<=·)/\(k="row" ->∀p∈H,p.1=0):=λc s M H v k m u=>by
  rw[jO] at m
  rcases get_set m with⟨rfl,rfl⟩|⟨_,m⟩
  ·rw[hm] at s
   cases s
   rw[hs] at u
   cases u
   obtain⟨e1,e2⟩:=P.r4 rm hm M l nm so hb hs
   refine⟨yl e1,λz p q=> ?_⟩
   rcases Dw q with q|rfl
   ·exact e2 z p q
   ·exact ht z
  ·exact P.r4 c s M H v k m u
 have I:∀y∈aJ {r with aa:=r.aa.set b (fT l t h)},∃g:Nat,y=g/\g<N:=λy d=>by
  rcases e y d with d|rfl
  ·exact x.hv y (fX x G d)
  ·exact⟨h,rfl,W⟩
 have n':(aJ {r with aa:=r.aa.set b (fT l t h)}).Nodup:=q.nodup_iff.mpr (List.nodup_cons.mpr ⟨λz=>Y (fX x G z),p9 x G⟩)
 have K:∀c:Rm,w.aj[i]?=some c->c.ah="when free" ->(bg {r with aa:=r.aa.set b (fT l t h)}).ag= []:=λc Z S=>k0 (P.r3 c Z S)
 rcases leave_held {r with aa:=r.aa.set b (fT l t h)} with⟨a,o,F⟩|⟨R,F,Z,S⟩
 ·have ha:a∈aJ {r with aa:=r.aa.set b (fT l t h)}:=o.mem_iff.mpr (QBq ..)
  have f:∀y∈aJ (bg {r with aa:=r.aa.set b (fT l t h)}),y∈aJ {r with aa:=r.aa.set b (fT l t h)}:=λy d=>o.mem_iff.mpr (Qpq _ d)
  obtain⟨g,rfl,B⟩:=I a ha
  exact x.room G ⟨λX A=>C X (f _ A),λz=>by rw[F] at z;omega,.inr ⟨g,F,B,QcQ (C g ha)⟩,K,J,λy d=>by rw[F];exact wD o n' (gU d)⟩ (λj n U=>sC o (rP q n U)) (λy d=>e y (f y d)) W Y
 ·refine x.room G ⟨λX A=>C X (by rw[←R];exact A),λ_=> ?_,.inl F,K,J,λy d=>by obtain⟨g,B,_⟩:=I y (by rw[←R];exact gU d);rw[F];omega⟩ (λj n U=>by rw[R];exact rP q n U) (λy d=>e y (by rw[←R];exact d)) W Y
  obtain⟨a0,Q,a1,ag,aa⟩:=r
  cases Z
  cases S
  exact⟨rfl,rfl⟩
def Q2.all(x:Q2 w N ps rs fr){i b:Nat}{r:bJ}{l:List (Int×Int)}(v:rs[i]?=some r)(s:r.aa[b]?=some l):Q2 w N ps (rs.set i {r with aa:=r.aa.set b []}) fr:=by
 have e:=x.at v
 obtain⟨B,t,A⟩:=k9 (nl:= []) s
 have c:∀y∈aJ {r with aa:=r.aa.set b []},y∈aJ r:=λy q=>t.mem_iff.mpr (mQa.mpr (.inr (by simpa using A.mem_iff.mp q)))
 refine x.room0 v ⟨λg G=>e.rl g (c _ G),e.r1,e.r2,e.r3,λo f H F k m d j=> ?_,λy q=>e.r5 y (AZ s (λ_ z=>by simp at z) q)⟩ (λa n=> ?_) c
 ·rcases get_set d with⟨rfl,rfl⟩|⟨_,d⟩
  ·exact⟨.nil,λ_ p C=>by cases C⟩
  ·exact e.r4 o f H F k m d j
 ·have u:=(QJq a t).nodup_iff.mp n
  refine(QJq a A).nodup_iff.mpr ?_
  rw[Qvq] at u
  exact(List.nodup_append.mp u).2.1
def Q2.call(x:Q2 w N ps rs fr){i b:Nat}{r:bJ}{rm:Rm}{l:List (Int×Int)}(v:rs[i]?=some r)(X:w.aj[i]?=some rm)(P:r.aa[b]?=some l)(hN:h<N)(U:(h:Int)∉hl ps rs)(hf:(fr h).getLast? =some (i:Int)):
  Q2 w N ps (rs.set i (mz (decide (rm.ah="when free")) r b h)) fr:=by
 have u:=x.at v
 unfold mz
 rw[P]
 cases l with
 | nil=>
   have e:rs.set i r=rs:=by
     apply List.ext_getElem?
     intro j
     rw[List.getElem?_set]
     split
     · rename_i c
       subst c
       rw[v]
       have:=(gQs.mp v).1
       simp[this]
     · rfl
   rw[e]
   exact x
 | cons p l=>
   obtain⟨A,Y,Z⟩:=k9 (nl:=l) P
   have C:(aJ r).Perm (p.2::aJ {r with aa:=r.aa.set b l}):=by
     refine Y.trans ?_
     rw[QDq,List.cons_append]
     exact List.Perm.cons _ Z.symm
   have K:p.2∈aJ r:=C.mem_iff.mpr (QBq ..)
   have d:∀y∈aJ {r with aa:=r.aa.set b l},y∈aJ r:=λy a=>C.mem_iff.mpr (Qpq _ a)
   have R:∀f:Rm,w.aj[i]?=some f->∀(M:Nat) (I:List (Int×Int)) (t s:Str),(r.aa.set b l)[M]?=some I->f.aa[M]?=some (t,s)->(I.map (·.1)).Pairwise (·<=·)/\(s="row" ->∀p∈I,p.1=0):=λf m M I t s B H=>by
     rcases get_set B with⟨rfl,rfl⟩|⟨_,B⟩
     · obtain⟨S,W⟩:=u.r4 f m M _ t s P H
       rw[QDq,List.pairwise_cons] at S
       exact⟨S.2,λz q hq=>W z q (Qpq _ hq)⟩
     · exact u.r4 f m M I t s B H
   dsimp only
   by_cases c:rm.ah="when free"
   · rw[Qeq c,Qhq rfl]
     exact x.room0 v ⟨λg K=>u.rl g (d _ K),u.r1,u.r2,u.r3,R,λy a=>u.r5 y (AZ P (λ_ z=>Qpq _ z) a)⟩ (λA n=>sC C n) d
   · rw[Qdq c,Quq (by decide)]
     have G:(aJ {r with aa:=r.aa.set b l,within:=p.2,ag:=r.ag++ [(h:Int)]}).Perm ((h:Int)::aJ {r with aa:=r.aa.set b l}):=by
       show(r.row++(r.ag++ [(h:Int)])++_).Perm ((h:Int)::(r.row++r.ag++_))
       rw[←Qvq,Qvq]
       exact List.perm_middle
     have o:∀y∈aJ {r with aa:=r.aa.set b l,within:=p.2,ag:=r.ag++ [(h:Int)]},y∈aJ r\/y=(h:Int):=λy a=>by
       rcases Qsq.mp (G.mem_iff.mp a) with rfl|a
       · exact .inr rfl
       · exact .inl (d y a)
     obtain⟨g,J,Q⟩:=x.hv p.2 (fX x v K)
     refine x.room v ⟨λk F=> ?_,λz=> ?_,.inr ⟨g,J,Q,QcQ (u.rl g (by rw[←J];exact K))⟩,λf m z=> ?_,R,λy a=> ?_⟩ (λA n F=> ?_) o hN U
     · rcases o _ F with F|F
       · exact u.rl k F
       · have:k=h:=by omega
         subst this
         exact hf
     · have z:p.2= -1:=z
       omega
     · rw[X] at m
       cases m
       exact absurd z c
     · show p.2≠y
       rcases mQa.mp a with a|a
       · rcases mQa.mp a with a|a
         · exact wD C (p9 x v) (gU (mQa.mpr (.inl a)))
         · rw[Qfq.mp a]
           exact λz=>U (fX x v (z▸K))
       · exact wD C (p9 x v) (gU (mQa.mpr (.inr a)))
     · refine rP G (sC C n) λz=>F ?_
       rcases mQa.mp z with z|z
       · exact mQa.mpr (.inl (d _ z))
       · exact mQa.mpr (.inr z)
end
section
variable{w:bK}{N:Nat}{ps:List (Int×List Int)}{rs:List bJ}{fr fr':Nat->List Int}{h:Nat}
def Q2.take(x:Q2 w N ps rs fr){j:Nat}{p:Int×List Int}(r:ps[j]?=some p)(A:h<N)(B:(h:Int)∉hl ps rs)(C:fr h= [-1]):Q2 w N (ps.set j (dG p h)) rs fr:=by
 obtain⟨⟨v,u⟩,m⟩:=x.pv p (mQg r)
 obtain⟨t,o,s⟩:=wo (rs:=rs) (np:=dG p h) r
 have i:(dG p h).2=p.2\/(dG p h).2=p.2++ [(h:Int)]:=by
  unfold dG
  split
  ·exact .inl rfl
  ·exact .inr rfl
 have d:∀y∈(dG p h).2,y∈p.2\/y=(h:Int):=λy b=>by
  rcases i with e|e
  ·rw[e] at b;exact .inl b
  ·rw[e] at b
   rcases mQa.mp b with b|b
   ·exact .inl b
   ·exact .inr (Qfq.mp b)
 refine⟨x.fo,s.nodup_iff.mpr ?_,λy b=> ?_,λq f=> ?_,λq f g l=> ?_,x.rl,x.r1,x.r2,x.r3,x.r4,x.r5⟩
 ·have n:=o.nodup_iff.mp x.nd
  rcases i with e|e
  ·rw[e];exact n
  ·rw[e]
   exact rP (a:=p.2) (k:=(h:Int)) (by rw[←List.append_nil p.2];simpa using List.perm_middle (l₁:=p.2) (a:=(h:Int)) (l₂:= [])) n λz=>B (o.mem_iff.mpr z)
 ·rcases mQa.mp (s.mem_iff.mp b) with b|b
  ·rcases d y b with b|rfl
   ·exact x.hv y (o.mem_iff.mpr (mQa.mpr (.inl b)))
   ·exact⟨h,rfl,A⟩
  ·exact x.hv y (o.mem_iff.mpr (mQa.mpr (.inr b)))
 ·rcases QTq f with f|rfl
  ·exact x.pv q f
  ·unfold dG
   split
   ·rename_i c
    refine⟨⟨by show 0<=p.1-1;omega,by show p.1-1<=9;omega⟩,.inr ?_⟩
    rcases m with m|m
    ·omega
    ·exact m
   ·rename_i c
    exact⟨⟨v,u⟩,.inl (by show p.1=0;omega)⟩
 ·rcases QTq f with f|rfl
  ·exact x.pl q f g l
  ·rcases d _ l with l|l
   ·exact x.pl p (mQg r) g l
   ·have:g=h:=by omega
    subst this
    exact C
def Q2.give(x:Q2 w N ps rs fr){j:Nat}{p:Int×List Int}(f:ps[j]?=some p):Q2 w N (ps.set j (cR p)) rs fr:=by
 obtain⟨⟨m,u⟩,e⟩:=x.pv p (mQg f)
 obtain⟨t,i,s⟩:=wo (rs:=rs) (np:=cR p) f
 have o:=x.pl p (mQg f)
 obtain⟨v,l⟩:=p
 have c:∀y∈(cR (v,l)).2,y∈l:=λy b=>by
  unfold cR at b
  cases l with
  |nil=>cases b
  |cons a l=>exact Qpq _ b
 refine⟨x.fo,s.nodup_iff.mpr ?_,λy b=> ?_,λq d=> ?_,λq d g r=> ?_,x.rl,x.r1,x.r2,x.r3,x.r4,x.r5⟩
 ·have n:=i.nodup_iff.mp x.nd
  unfold cR
  cases l with
  |nil=>exact n
  |cons a l=>exact sC (k:=a) (List.Perm.refl _) n
 ·rcases mQa.mp (s.mem_iff.mp b) with b|b
  ·exact x.hv y (i.mem_iff.mpr (mQa.mpr (.inl (c y b))))
  ·exact x.hv y (i.mem_iff.mpr (mQa.mpr (.inr b)))
 ·rcases QTq d with d|rfl
  ·exact x.pv q d
  ·unfold cR
   cases l with
   | nil=>
     refine⟨?_,.inr rfl⟩
     show 0<=(if 9<v+1 then 9 else v+1)/\(if 9<v+1 then 9 else v+1)<=9
     have m:0<=v:=m
     split <;>omega
   | cons a l=>
     refine⟨⟨m,u⟩,.inl ?_⟩
     rcases e with e|e
     · exact e
     · cases e
 ·rcases QTq d with d|rfl
  ·exact x.pl q d g r
  ·exact o g (c _ r)
def Q2.frames(x:Q2 w N ps rs fr)(b:∀g,g≠h->fr' g=fr g)(k:(h:Int)∉hl ps rs)(l:∀(i:Nat) (r:bJ),rs[i]?=some r->r.within=(h:Int)->(i:Int)∈fr' h)(m:(fr' h).head? =some (-1)):Q2 w N ps rs fr':=by
 have f:∀g:Nat,(g:Int)∈hl ps rs->fr' g=fr g:=λg a=>b g λz=>k (by rw[←z];exact a)
 refine⟨λg a=> ?_,x.nd,x.hv,x.pv,λp j g a=> ?_,λi r d g a=> ?_,x.r1,λi r d=> ?_,x.r3,x.r4,x.r5⟩
 ·by_cases c:g=h
  ·subst c
   exact m
  ·rw[b g c]
   exact x.fo g a
 ·rw[f g (mQa.mpr (.inl (QOq.mpr ⟨p,j,a⟩)))]
  exact x.pl p j g a
 ·rw[f g (fX x d a)]
  exact x.rl i r d g a
 ·rcases x.r2 i r d with z|⟨g,e,a,n⟩
  ·exact .inl z
  ·refine .inr ⟨g,e,a,?_⟩
   by_cases c:g=h
   ·subst c
    exact l i r d e
   ·rw[b g c]
    exact n
end
def rc(f:bx):Int:=if f.room= -1 then(if f.deed= -1/\f.given=0/\f.told=0 then -1 else -2) else f.room
def kz{f:bx}(h:f.room≠-1):rc f=f.room:=Quq h
def wx(s:aH)(g:Nat):List Int:=((s.af[g]?).map λp=>p.2.map rc).getD []
def pD(w:bK)(s:aH):Prop:=Q2 w s.af.length s.ai s.aj (wx s)
section
variable{w:bK}{n h:Nat}{s:aH}{vs:List Int}{fs:List bx}{f:bx}
def j_(a:s.af[h]?=some (vs,fs)):wx s h=fs.map rc:=by
 unfold wx
 rw[a]
 rfl
def wm{p:List Int×List bx}{g:Nat}(a:g≠h):wx {s with af:=s.af.set h p} g=wx s g:=by
 unfold wx
 rw[QKq (Ne.symm a)]
def vc{p:List Int×List bx}(hl:h<s.af.length):wx {s with af:=s.af.set h p} h=p.2.map rc:=by
 unfold wx
 rw[Qyq hl]
 rfl
def pD.quiet(x:pD w s){b:List Int}{a:List bx}(d:s.af[h]?=some (vs,fs))(e:a.map rc=fs.map rc):pD w {s with af:=s.af.set h (b,a)}:=by
 have hl:=(gQs.mp d).1
 have i:wx {s with af:=s.af.set h (b,a)}=wx s:=by
  funext g
  by_cases c:g=h
  ·subst c
   rw[vc hl,j_ d]
   exact e
  ·exact wm c
 unfold pD
 rw[i]
 show Q2 w (s.af.set h (b,a)).length s.ai s.aj (wx s)
 rw[List.length_set]
 exact x
def pD.share(x:pD w s){a:List Int}:pD w {s with ak:=a}:=x
def pD.vals(x:pD w s){i:Nat}{r:bJ}{d:List Int}(c:s.aj[i]?=some r):pD w {s with aj:=s.aj.set i {r with vals:=d}}:=by
 have a:=Q2.at x c
 exact Q2.room0 x c ⟨a.rl,a.r1,a.r2,a.r3,a.r4,a.r5⟩ (λb n=>n) (λy e=>e)
def pD.begun(o:cf w):pD w (bo w):=by
 have j:∀(i:Nat) (r:bJ),(bo w).aj[i]?=some r->∃c,w.aj[i]?=some c/\r=bZ c:=λi r j=>by
  simp only[bo,gQm] at j
  obtain⟨c,G,A⟩:=oQm.mp j
  exact⟨c,G,A.symm⟩
 have z:∀c:Rm,∀l∈(bZ c).aa,l= []:=λc l hl=>by
  simp only[bZ,Qkq] at hl
  obtain⟨_,_,e⟩:=hl
  exact e.symm
 have t:∀c:Rm,aJ (bZ c)= []:=λc=>by
  unfold aJ
  have:(bZ c).aa.flatMap (λl=>l.map (·.2))= []:=List.flatMap_eq_nil_iff.mpr λl hl=>by rw[z c l hl];rfl
  rw[this]
  rfl
 have C:hl (bo w).ai (bo w).aj= []:=by
  unfold hl
  rw[List.append_eq_nil_iff,List.flatMap_eq_nil_iff,List.flatMap_eq_nil_iff]
  refine⟨λp d=> ?_,λr a=> ?_⟩
  ·simp only[bo,Qkq] at d
   obtain⟨q,_,rfl⟩:=d
   rfl
  ·simp only[bo,Qkq] at a
   obtain⟨q,_,rfl⟩:=a
   exact t q
 have v:(bo w).ai.flatMap (·.2)++(bo w).aj.flatMap aJ= []:=C
 refine⟨λg k=> ?_,by rw[v];exact .nil,(λx u=>by rw[v] at u;cases u),?_,λp d g k=> ?_,λi r a g k=> ?_,λi r a _=> ?_,λi r a=> ?_,λi r c a _ _=> ?_,λi r c a _ b l nm I B _=> ?_,λi r a y H=>by obtain⟨c,_,rfl⟩:=j i r a;have:=gU H;rw[t] at this;cases this⟩
 ·have m:g<w.af.length:=by simpa [bo] using k
  unfold wx
  simp only[bo,gQm,gQe m,Option.map_some,Option.getD_some]
  rfl
 ·intro p d
  simp only[bo,Qkq] at d
  obtain⟨q,F,rfl⟩:=d
  have:=o.pv q F
  exact⟨⟨by show(0:Int)<=(q.2:Int);omega,by show(q.2:Int)<=9;omega⟩,.inr rfl⟩
 ·simp only[bo,Qkq] at d
  obtain⟨q,_,rfl⟩:=d
  cases k
 ·obtain⟨c,_,rfl⟩:=j i r a
  rw[t] at k
  cases k
 ·obtain⟨c,_,rfl⟩:=j i r a
  exact⟨rfl,rfl⟩
 ·obtain⟨c,_,rfl⟩:=j i r a
  exact .inl rfl
 ·obtain⟨c,_,rfl⟩:=j i r a
  rfl
 ·obtain⟨c,_,rfl⟩:=j i r a
  rw[z c l (mQg B)]
  exact⟨.nil,λ_ p d=>by cases d⟩
end
section
variable{w:bK}{n h:Nat}{s:aH}{vs:List Int}{fs:List bx}{f:bx}{sc:Sc}
def kG{f':bx}(a:fs.getLast? =some f)(e:rc f'=rc f):(fs.dropLast++ [f']).map rc=fs.map rc:=by
 conv=>rhs;rw[fb a]
 rw[Qzq,Qzq]
 show _++ [rc f']=_++ [rc f]
 rw[e]
def nM{w:bK}{s:aH}{h:Nat}{t:Tr}(x:(0<=dz w s h t/\dz w s h t<=9)/\uZ w s h t (dz w s h t)):∃v,(0<=v/\v<=9)/\uZ w s h t v:=⟨_,x⟩
def Cg(h:Nat)(r a:bJ):Prop:=r.within≠h->0<=r.within->a.within=r.within/\(a.row=r.row\/a.row=r.row++ [(h:Int)])
def Kp(h:Nat)(s s':aH):Prop:=s'.af.length=s.af.length/\s'.aj.length=s.aj.length/\∀(i:Nat) (r a:bJ),s.aj[i]?=some r->s'.aj[i]?=some a->Cg h r a
def Gn(s s':aH):Prop:=s'.af.length=s.af.length/\s'.aj.length=s.aj.length/\∀(i:Nat) (r a:bJ),s.aj[i]?=some r->s'.aj[i]?=some a->a.within=r.within/\a.row=r.row
def Gn.aj{s s':aH}(b:s'.af.length=s.af.length)(e:s'.aj=s.aj):Gn s s':=⟨b,by rw[e],λi r d c a=>by rw[e,c] at a;cases a;exact⟨rfl,rfl⟩⟩
def Gn.kp{h:Nat}{s s':aH}(x:Gn s s'):Kp h s s':=⟨x.1,x.2.1,λi r c b a _ _=>⟨(x.2.2 i r c b a).1,.inl (x.2.2 i r c b a).2⟩⟩
def Kp.aj{h:Nat}{s s':aH}(a:s'.af.length=s.af.length)(e:s'.aj=s.aj):Kp h s s':=(Gn.aj a e).kp
def Kp.room{h i:Nat}{s s':aH}{r g:bJ}(m:s'.af.length=s.af.length)(l:s.aj[i]?=some r)(e:s'.aj=s.aj.set i g)(k:Cg h r g):Kp h s s':=⟨m,by rw[e,List.length_set],λj a b d c=>by
 rw[e] at c
 rcases get_set c with⟨rfl,rfl⟩|⟨_,c⟩
 ·rw[l] at d;cases d;exact k
 ·rw[d] at c;cases c;exact λ_ _=>⟨rfl,.inl rfl⟩⟩
def Kp.v{h:Nat}{s b s':aH}(x:Kp h s b)(y:Gn b s'):Kp h s s':=⟨y.1.trans x.1,y.2.1.trans x.2.1,λi r o d e l g=>by
 have hl:=(gQs.mp d).1
 obtain⟨a,c⟩:∃a,b.aj[i]?=some a:=⟨_,gQe (by rw[x.2.1];exact hl)⟩
 obtain⟨j,k⟩:=x.2.2 i r a d c l g
 obtain⟨p,m⟩:=y.2.2 i a o c e
 rw[p,m]
 exact⟨j,k⟩⟩
def Cg.come{h:Nat}{r:bJ}:Cg h r (eh r h):=λb a=>by
 unfold eh
 split
 ·omega
 ·exact⟨rfl,.inr rfl⟩
def Cg.own{h:Nat}{r a:bJ}(e:r.within=h):Cg h r a:=λb _=>absurd e b
def AI{y:Str}{v:Int}(o:cf w)(x:cc w n s)(q:pD w s)(m:s.af[h]?=some (vs,fs))(C:fs.getLast? =some f)(u:y_ w h f=some sc)(G:y∈sc.ps)(z:0<=v/\v<=9):∃s',Puts w s h y v s'/\cc w n s'/\pD w s'/\Gn s s':=by
 obtain⟨F,R,p,t⟩:=x.whand m
 have H:=o.hd _ (mQg p)
 have K:=t.fr f (QcQ C)
 have Z:=o.l1
 have X:=o.l3
 have I:=H.l1
 have P:=o.l4
 have W:=x.lr
 have N:=x.lh
 rcases eG u with⟨c,J,M,g,rfl⟩|⟨c,r,hr,rfl⟩
 ·rw[p] at g
  cases g
  refine⟨ka w s h F vs fs y v,λS Q q=>AB p m C c x.ls t.lv (by omega) (by dsimp only at I;omega) (by omega) G q,?_⟩
  unfold ka
  split
  ·obtain⟨k,i⟩:=fh (ns:=w.ak.map (·.1)) (y:=y) x.sv z
   exact⟨x.share k i,q.share,Gn.aj rfl rfl⟩
  ·obtain⟨k,i⟩:=fh (ns:=F.map (·.1)) (y:=y) t.vv z
   exact⟨x.hand p (t.vals k i),q.quiet m rfl,Gn.aj (by simp) rfl⟩
 ·obtain⟨Y,e,d⟩:=x.wroom hr
  have A:=o.rm r (mQg hr)
  have U:=A.l1
  refine⟨_,λS Q q=>yz m C (gn K c) hr e d.lv (by omega) (by omega) G q,?_⟩
  obtain⟨k,i⟩:=fh (ns:=r.ao.map (·.1)) (y:=y) d.vv z
  exact⟨x.room hr ⟨by rw[d.lv,←k],d.lb,i,d.br,d.bl,d.bb⟩,q.vals e,rfl,by simp,λj a b B l=>by
   rcases get_set l with⟨rfl,rfl⟩|⟨_,l⟩
   ·rw[e] at B;cases B;exact⟨rfl,rfl⟩
   ·rw[B] at l;cases l;exact⟨rfl,rfl⟩⟩
def B9(hi:hG fs)(g:fs.getLast? =some f)(c:f.room= -1)(b:(fs.map rc).head? =some (-1)):fs.map rc= [-1]:=by
 have e:=fb g
 rw[e] at hi b⊢
 cases d:fs.dropLast with
 | nil=>
   rw[d] at b
   rw[List.nil_append]
   have b:some (rc f)=some (-1):=b
   show [rc f]= [-1]
   rw[QdQ b]
 | cons a l=>
   rw[d] at hi
   exact absurd c (hi.2 f (mQa.mpr (.inr (Qfq.mpr rfl))))
def GQ{r:Rw}{pr:List Rw}(o:cf w)(x:cc w n s)(U:pD w s)(I:(h:Int)∉held s)(hn:n<=800)(a9:Here s h f)(A:s.af[h]?=some (vs,fs))(H:fs.getLast? =some f)(hp:progOf w h f=some pr)(h1:1<=f.row)(a3:pr[(f.row-1).toNat]?=some r):∃s',Hs w s h r s'/\cc w (n+1) s'/\pD w s'/\Kp h s s':=by
 obtain⟨sc,J,d2⟩:=uE o hp
 have b:=d2 r (mQg a3)
 obtain⟨ts,a5,hw,hi⟩:=x.whand A
 have fi:=hi.fr f (QcQ H)
 have hl:h<s.af.length:=(gQs.mp A).1
 have b1:=o.l1
 have b2:=o.l2
 have b3:=o.l3
 have b4:=o.l4
 have lr:=x.lr
 have lp:=x.lp
 have lh:=x.lh
 have lf:=hi.lf
 have x1:=x.mono (Nat.le_succ n)
 have W:f.room≠-1->(wx s h).getLast? =some f.room:=λc=>by rw[j_ A,QfQ,H];exact congrArg some (kz c)
 have f0:=U.fo h hl
 have C:sc.own=false->∃(i:Nat) (r:Rm) (rs:bJ),f.room=i/\w.aj[i]?=some r/\s.aj[i]?=some rs/\iS n r rs/\I0 (bS w.aj) r/\sc.bs=r.aa.map (·.1)/\rs.within=h:=λho=>by
  rcases eG J with⟨c,c0,a5,b8,rfl⟩|⟨c,r,P,rfl⟩
  ·cases ho
  ·obtain⟨rs,d,K⟩:=x.wroom P
   refine⟨_,r,rs,gn fi c,P,d,K,o.rm r (mQg P),rfl,?_⟩
   rcases a9 with c'|⟨i,d5,d4,a6,c6⟩
   ·exact absurd c' c
   ·have e:=gn fi c
    have:i=f.room.toNat:=by omega
    subst this
    rw[d] at a6
    cases a6
    exact c6
 have G:sc.own=true->sc.ts=w.ai.map (·.1)/\wx s h= [-1]:=λho=>by
  rcases eG J with⟨c,c0,a5,b8,rfl⟩|⟨c,r,P,rfl⟩
  ·exact⟨rfl,by rw[j_ A] at f0⊢;exact B9 hi.hd H c f0⟩
  ·cases ho
 have F:∀y,y∈w.ai.map (·.1)->∀ps:List (Int×List Int),w.ai.length=ps.length->∃p,ps[bX (w.ai.map (·.1)) y]?=some p:=λy B ps hl=>by
  have:=(fS B).1
  rw[lQm] at this
  exact⟨_,gQe (by omega)⟩
 have Y:∀p:Int×List Int,p.2.length<=n->(dG p h).2.length<=n+1:=λp hp=>by
  unfold dG
  split
  ·show p.2.length<=_;omega
  ·simp;omega
 have a0:∀p:Int×List Int,p.2.length<=n->(cR p).2.length<=n:=λp hp=>by
  obtain⟨v,l⟩:=p
  unfold cR
  cases l with
  |nil=>simp
  |cons a l=>simp at hp;show l.length<=n;omega
 cases r with
 | put y t=>
   obtain⟨v,hv,P⟩:=nM<|dR o x A H J b.2
   obtain⟨s',u,c5,d1,c9⟩:=AI o x U A H J b.1 hv
   exact⟨s',λS Q q=>t9 P u q,c5.mono (Nat.le_succ n),d1,c9.kp⟩
 | unl t m=>
   obtain⟨v,hv,P⟩:=nM<|dR o x A H J b.1
   refine⟨_,λS Q q=>mK P A H (by omega) (by omega) q,?_⟩
   split
   · exact⟨x1.goes A H hp (by omega) (by have:=b.2;omega),U.quiet A (kG H rfl),Kp.aj (by simp) rfl⟩
   · exact⟨x1,U,Kp.aj rfl rfl⟩
 |go m=>exact⟨_,λS Q q=>w6 A H (by omega) (by omega) q,x1.goes A H hp (by omega) (by have:m<=pr.length:=b;omega),U.quiet A (kG H rfl),Kp.aj (by simp) rfl⟩
 | do_ g rn dn t=>
   obtain⟨v,hv,P⟩:=nM<|dR o x A H J b.2.2
   have c4:sc.gs=bS w.aj:=by
     rcases eG J with⟨c,c0,a5,b8,rfl⟩|⟨c,r,P,rfl⟩ <;>rfl
   have a7:=b.2.1
   rw[c4] at a7
   obtain⟨a2,r,k,c1⟩:=Ao o a7
   obtain⟨rs,d,K⟩:=x.wroom k
   have R:=o.rm r (mQg k)
   have b5:=R.l3
   have b6:=K.br
   refine⟨_,λS Q q=>xE P A a2 k d c1 (by omega) (by omega) (by omega) (by omega) (by omega) (by omega) q,?_⟩
   have c2:=fS c1
   have a8:=c2.1
   rw[lQm] at a8
   obtain⟨⟨d6,b0⟩,c7⟩:∃p,r.ae[bX (r.ae.map (·.1)) dn]?=some p:=⟨_,gQe a8⟩
   have pf:progOf w h ⟨(bX (w.aj.map (·.name)) rn:Nat),(bX (r.ae.map (·.1)) dn:Nat),0,v,0⟩=some b0:=uK rfl rfl k c7
   have hh:=hi.push (f':=⟨(bX (w.aj.map (·.name)) rn:Nat),(bX (r.ae.map (·.1)) dn:Nat),0,v,0⟩) H ⟨pr,g,rn,dn,t,hp,h1,a3⟩ (by show((bX (w.aj.map (·.name)) rn:Nat):Int)≠-1;omega) ⟨⟨b0,pf,by show(0:Int)<=0;omega,by show(0:Int)<=_;omega⟩,hv,by show(0:Int)<=0/\(0:Int)<=9;omega⟩
   refine⟨(x1.hand hw hh).room k K.come,?_,Kp.room (by simp) d rfl Cg.come⟩
   generalize bX (r.ae.map (·.1)) dn=dd
   generalize bX (w.aj.map (·.name)) rn=i at d
   have eo:wx {s with af:=s.af.set h (vs,fs++ [(⟨i,dd,0,v,0⟩:bx)]),aj:=s.aj.set i (eh rs h)} h=fs.map rc++ [(i:Int)]:=by
     have:=vc (s:={s with aj:=s.aj.set i (eh rs h)}) (h:=h) (p:=(vs,fs++ [(⟨i,dd,0,v,0⟩:bx)])) hl
     rw[Qzq] at this
     rw[show [(i:Int)]= [(⟨i,dd,0,v,0⟩:bx)].map rc by show _= [rc _];rw[kz (by show(i:Int)≠-1;omega)]]
     exact this
   have q3:Q2 w s.af.length s.ai s.aj (wx {s with af:=s.af.set h (vs,fs++ [(⟨i,dd,0,v,0⟩:bx)]),aj:=s.aj.set i (eh rs h)}):=by
     refine Q2.frames U (h:=h) (λg hg=> ?_) I (λj r' hj e=> ?_) ?_
     · exact wm (s:={s with aj:=s.aj.set i (eh rs h)}) hg
     · rw[eo]
       rcases U.r2 j r' hj with z|⟨g,e',_,hm⟩
       · omega
       · have:g=h:=by omega
         subst this
         rw[j_ A] at hm
         exact mQa.mpr (.inl hm)
     · rw[eo]
       rw[j_ A] at f0
       cases b9:fs.map rc with
       |nil=>rw[b9] at f0;cases f0
       |cons a l=>rw[b9] at f0;exact f0
   have q4:=q3.come (h:=h) d hl I (by rw[eo];simp)
   unfold pD
   show Q2 w (s.af.set h _).length s.ai (s.aj.set i (eh rs h)) _
   rw[List.length_set]
   exact q4
 | wait y t=>
   obtain⟨i,r,rs,M,k,d,K,R,a1,X⟩:=C b.1
   obtain⟨v,hv,P⟩:=nM<|dR o x A H J b.2.2
   have B:=b.2.1
   rw[a1] at B
   have b6:=R.l2
   have lb:=K.lb
   obtain⟨k1,k2⟩:=fS B
   rw[lQm] at k1
   rw[gQm] at k2
   obtain⟨⟨y',so⟩,k3,k4⟩:=oQm.mp k2
   have k4:y'=y:=k4
   subst k4
   obtain⟨Z,N⟩:∃l,rs.aa[bX (r.aa.map (·.1)) y']?=some l:=⟨_,gQe (by omega)⟩
   have ll:=K.bb Z (mQg N)
   refine⟨_,λS Q q=>qz A H M k d (by omega) lb (by omega) B k3 N (by omega) P q,?_⟩
   refine⟨x1.room k (((K.mono (Nat.le_succ n)).line (by rw[x_];omega)).leave),?_,Kp.room rfl d rfl (Cg.own X)⟩
   exact Q2.wait U (h:=h) d k N k3 (λz=>by rw[z,Quq (by decide +kernel)]) hl I (by rw[W (by omega),M])
 | call y=>
   obtain⟨i,r,rs,M,k,d,K,R,a1,X⟩:=C b.1
   have B:=b.2
   rw[a1] at B
   have b6:=R.l2
   have b7:=K.bl
   have lb:=K.lb
   have k1:=(fS B).1
   rw[lQm] at k1
   obtain⟨Z,N⟩:∃l,rs.aa[bX (r.aa.map (·.1)) y]?=some l:=⟨_,gQe (by omega)⟩
   refine⟨_,λS Q q=>rH A H M k d (by omega) K.lb (by omega) (by omega) B q,?_⟩
   exact⟨x1.room k K.call,Q2.call U (h:=h) d k N hl I (by rw[W (by omega),M]),Kp.room rfl d rfl (Cg.own X)⟩
 | all y=>
   obtain⟨i,r,rs,M,k,d,K,R,a1,X⟩:=C b.1
   have B:=b.2
   rw[a1] at B
   have b6:=R.l2
   have lb:=K.lb
   have k1:=(fS B).1
   rw[lQm] at k1
   obtain⟨Z,N⟩:∃l,rs.aa[bX (r.aa.map (·.1)) y]?=some l:=⟨_,gQe (by omega)⟩
   refine⟨_,λS Q q=>uH A H M k d (by omega) K.lb (by omega) B q,?_⟩
   exact⟨x1.room k ((K.mono (Nat.le_succ n)).line (by simp)),Q2.all U d N,Kp.room rfl d rfl (Cg.own X)⟩
 | tell t=>
   obtain⟨v,hv,P⟩:=nM<|dR o x A H J b.2
   exact⟨_,λS Q q=>qo P A H (by omega) (by omega) q,x1.tells A H hv,U.quiet A (kG H (by
     have a2:f.room≠-1:=by obtain⟨i,r,rs,M,_⟩:=C b.1;omega
     rw[kz a2];exact kz (f:={f with told:=v}) a2)),Kp.aj (by simp) rfl⟩
 | take y=>
   have B:=b.2
   rw[(G b.1).1] at B
   obtain⟨p,u⟩:=F y B s.ai lp
   have pl:=x.ps p (mQg u)
   exact⟨_,λS Q q=>r_ B u (by omega) (by omega) (by omega) q,x1.pass (Y p pl),Q2.take U u hl I (G b.1).2,Kp.aj rfl rfl⟩
 | give y=>
   have B:=b.2
   rw[(G b.1).1] at B
   obtain⟨p,u⟩:=F y B s.ai lp
   have pl:=x.ps p (mQg u)
   exact⟨_,λS Q q=>rL B u (by omega) (by omega) q,x1.pass (Nat.le_succ_of_le (a0 p pl)),Q2.give U u,Kp.aj rfl rfl⟩
 | pass y z=>
   have B:=b.2.1
   have hz:=b.2.2
   rw[(G b.1).1] at B hz
   obtain⟨p,u⟩:=F y B s.ai lp
   have pl:=x.ps p (mQg u)
   have x2:cc w n _:=x.pass (i:=bX (w.ai.map (·.1)) y) (a0 p pl)
   obtain⟨p2,a4⟩:=F z hz (s.ai.set (bX (w.ai.map (·.1)) y) (cR p)) (by simpa using lp)
   have c3:=x2.ps p2 (mQg a4)
   have q3:=Q2.give U u
   refine⟨_,λS Q q=>qg B hz u (by omega) (by omega) (by omega) a4 q,(x2.mono (Nat.le_succ n)).pass (Y p2 c3),Q2.take q3 a4 hl ?_ (G b.1).2,Kp.aj rfl rfl⟩
   intro zz
   obtain⟨d3,e1,e2⟩:=wo (rs:=s.aj) (np:=cR p) u
   refine I (e1.mem_iff.mpr ?_)
   rcases mQa.mp (e2.mem_iff.mp zz) with zz|zz
   · refine mQa.mpr (.inl ?_)
     obtain⟨v,l⟩:=p
     unfold cR at zz
     cases l with
     |nil=>cases zz
     |cons a l=>exact Qpq _ zz
   · exact mQa.mpr (.inr zz)
 |say t=>exact⟨s,λS Q q=>tY (sd:=.non) q,x1,U,Kp.aj rfl rfl⟩
def GM(o:cf w)(x:cc w n s)(q2:pD w s)(hn:n<=800)(hm:h∈jY w s)(u:s.af[h]?=some (vs,fs))(F:fs.getLast? =some f):∃s' e,gI w s h s' e/\cc w (n+1) s'/\pD w s'/\Kp h s s':=by
 obtain⟨ts,b2,hw,hi⟩:=x.whand u
 have fi:=hi.fr f (QcQ F)
 obtain⟨pr,I,a7,b7⟩:=fi.pr
 have hl:h<s.af.length:=(gQs.mp u).1
 have b1:=o.l1
 have b4:=o.l4
 have lr:=x.lr
 have lh:=x.lh
 have lf:=hi.lf
 have mm:=(List.mem_filter.mp hm).2
 rw[QCq] at mm
 have A:(h:Int)∉held s:=by
  intro z
  have:=mm.1
  rw[Qeq z] at this
  cases this
 have nb:¬(f.room= -1/\f.row=pr.length):=by
  rintro⟨c1,c2⟩
  have hb:sx w s h=true:=by
   unfold sx xZ
   rw[u]
   show(match fs.getLast? with|some f=>_|none=>_)=_
   rw[F]
   simp only[I,Option.getD_some,c1,c2,decide_true,Bool.and_true]
  rw[hb] at mm
  exact absurd mm.2 (by decide)
 have row:∀(r:Rw) (e:Option Int),Here s h f->pr[f.row.toNat]?=some r->Eg w s h r e->∃s' e,gI w s h s' e/\cc w (n+1) s'/\pD w s'/\Kp h s s':=λr e p b W=>by
  have G:=(gQs.mp b).1
  have x2:=x.goes u F I (m:=f.row+1) (by omega) (by omega)
  have q3:pD w {s with af:=s.af.set h (vs,fs.dropLast++ [{f with row:=f.row+1}])}:=q2.quiet u (kG F rfl)
  obtain⟨s',hd,P,X,C⟩:=GQ (f:={f with row:=f.row+1}) (r:=r) (pr:=pr) o x2 q3 A hn p (Qyq hl) (by simp) I (by show 1<=f.row+1;omega) (by show pr[(f.row+1-1).toNat]?=_;rw[show f.row+1-1=f.row by omega];exact b)
  exact⟨s',e,qZ u F p I a7 b (by omega) (by omega) W hd,P,X,⟨C.1.trans (by simp),C.2.1,C.2.2⟩⟩
 obtain⟨sc,a8,a9⟩:=uE o I
 have J:∀r,pr[f.row.toNat]?=some r->∃e,Eg w s h r e:=λr b=>by
  have R:=a9 r (mQg b)
  cases r with
  | say t=>
    obtain⟨v,hv,hr⟩:=nM<|dR o x u F a8 R.2
    exact⟨some v,v,rfl,hr⟩
  |_=>exact⟨none,rfl⟩
 by_cases c:f.room= -1
 ·have G:f.row.toNat<pr.length:=by
   have:f.row≠pr.length:=λz=>nb ⟨c,z⟩
   omega
  have b:pr[f.row.toNat]?=some (pr[f.row.toNat]):=gQe G
  obtain⟨e,W⟩:=J _ b
  exact row _ e (.inl c) b W
 ·rcases jm I with⟨c',_⟩|⟨i,j,r,dn,Z,h2,h3,h4⟩
  ·exact absurd c' c
  obtain⟨B,k,ri⟩:=x.wroom h3
  have br:=ri.br
  have N:(wx s h).getLast? =some (i:Int):=by rw[j_ u,QfQ,F,←Z];exact congrArg some (kz c)
  by_cases cw:B.within=h
  ·have p:Here s h f:=.inr ⟨i,B,Z,k,cw⟩
   by_cases ce:f.row=pr.length
   ·have a0:=fb F
    have hd:=hi.hd
    rw[a0] at hd
    obtain⟨H,K,hg⟩:=hd.two c
    have a5:fs=H++ [K,f]:=by rw[a0,hg];simp
    subst a5
    obtain⟨a3,a4⟩:=hi.pop
    obtain⟨b5,g,rn,b6,t,p1,p2,p3⟩:=a4
    have x2:cc w n {s with aj:=s.aj.set i (bg B),af:=s.af.set h (vs,H++ [K])}:=(x.hand hw a3).room h3 ri.leave
    have ql:=Q2.leave q2 k
    have M:(h:Int)∉W28.hl s.ai (s.aj.set i (bg B)):=by
     intro z
     obtain⟨b0,e1,e2⟩:=p_ (ps:=s.ai) (nr:=bg B) k
     refine A (e1.mem_iff.mpr ?_)
     rcases mQa.mp (e2.mem_iff.mp z) with z|z
     ·refine mQa.mpr (.inl ?_)
      rcases leave_held B with⟨a,U,_⟩|⟨W,_⟩
      ·exact U.mem_iff.mpr (Qpq _ z)
      ·rw[←W];exact z
     ·exact mQa.mpr (.inr z)
    have q3:pD w {s with aj:=s.aj.set i (bg B),af:=s.af.set h (vs,H++ [K])}:=by
     have eo:wx {s with aj:=s.aj.set i (bg B),af:=s.af.set h (vs,H++ [K])} h=(H++ [K]).map rc:=vc (s:={s with aj:=s.aj.set i (bg B)}) hl
     unfold pD
     show Q2 w (s.af.set h _).length s.ai (s.aj.set i (bg B)) _
     rw[List.length_set]
     refine Q2.frames ql (h:=h) (λg hg=>wm (s:={s with aj:=s.aj.set i (bg B)}) hg) M (λj r' hj e=> ?_) ?_
     ·rw[eo]
      rcases get_set hj with⟨rfl,rfl⟩|⟨hne,hj⟩
      ·exfalso
       rcases leave_held B with⟨a,U,Y⟩|⟨_,Y,_⟩
       ·rw[Y] at e
        refine A (fX (fr:=wx s) q2 k ?_)
        rw[←e]
        exact U.mem_iff.mpr (QBq ..)
       ·rw[Y] at e
        omega
      ·rcases q2.r2 j r' hj with z|⟨g',e',_,d⟩
       ·omega
       ·have:g'=h:=by omega
        subst this
        rw[j_ u,show H++ [K,f]=(H++ [K])++ [f] by simp,Qzq] at d
        rcases mQa.mp d with d|d
        ·exact d
        ·have d:=Qfq.mp (show(j:Int)∈[rc f] from d)
         rw[kz c,Z] at d
         exact absurd (by omega:j=i) hne
     ·rw[eo]
      have f0:=q2.fo h hl
      rw[j_ u] at f0
      cases H with
      |nil=>exact f0
      |cons a l=>exact f0
    obtain⟨b3,a1,a2⟩:=uE o p1
    have R:=a2 _ (mQg p3)
    cases g with
    | none=>
      exact⟨_,none,nh u F p I ce λS Q q=>gQ u Z k (by omega) (by omega) p1 p2 p3 (λ_ e=>e.symm) q,x2.mono (Nat.le_succ n),q3,Kp.room (by simp) k rfl (Cg.own cw)⟩
    | some y=>
      obtain⟨s',a6,P,X,C⟩:=AI (y:=y) (v:=f.told) o x2 q3 (Qyq hl) (by simp) a1 (R.1 y rfl) fi.tv
      exact⟨s',none,nh u F p I ce λS Q q=>gQ u Z k (by omega) (by omega) p1 p2 p3 (λ_ e=>by rw[e];exact a6) q,P.mono (Nat.le_succ n),X,(Kp.room (s':={s with aj:=s.aj.set i (bg B),af:=s.af.set h (vs,H++ [K])}) (by simp) k rfl (Cg.own cw)).v C⟩
   ·have G:f.row.toNat<pr.length:=by omega
    have b:pr[f.row.toNat]?=some (pr[f.row.toNat]):=gQe G
    obtain⟨e,W⟩:=J _ b
    exact row _ e p b W
  ·exact⟨_,none,ur u F Z k cw (by omega) (by omega),(x.mono (Nat.le_succ n)).room h3 ri.come,Q2.come q2 (h:=h) k hl A N,Kp.room rfl k rfl Cg.come⟩
end
end W28
namespace DL
open PySem PySem.Spec L2
section
variable{Γ:cv}{S:aA}
def Hg{f:eU}{Q:(List D×(aA->Prop))->aA->Prop}(h:E f Γ S λp a=>Q (mL 0 p.1,λb=>p.2.stays b p.1) a):E (Bh f) Γ S Q:=by
 obtain⟨p,a,c,q⟩:=h
 exact⟨_,a,by unfold Bh;rw[c];rfl,q⟩
def L1{f:eU}{Q:D->aA->Prop}(h:E f Γ S λp a=>p.2.isL=true/\∃bs,Jf p.1=some bs/\Q (.bl (bs.all id)) a):E (Hc f) Γ S Q:=by
 obtain⟨p,a,c,l,bs,b,q⟩:=h
 exact⟨_,a,by unfold Hc;rw[c];simp only[Qbq];rw[Qhq l,b];rfl,q⟩
def K2{i j:Int}{Q:D->Prop}(h:Di i j)(q:Q (.int (i^j.toNat))):Op (Hy S (.int i) (.int j)) Q:=⟨_,by simp only[Hy,intD];rw[Qhq h],q⟩
end
theorem xW:∀n:Nat,Jf (List.replicate n (.bl true))=some (List.replicate n true)
 |0=>rfl
 |n+1=>by simp only[QNq,Jf];rw[xW n];rfl
end DL
namespace W28
open PySem PySem.Spec L2 DL
section
variable{S S0:aA}{Q:Res->aA->Prop}
def Cb(l:List Nat):l.map zD=(l.map λh:Nat=>(h:Int)).map D.int:=by rw[QPq];rfl
end
end W28
namespace DL
open PySem PySem.Spec L2
def EH{S:aA}{k:Nat}{ds:List D}{Q:List D×Tag->Prop}(a:S[k]?=some (.frz ds))(q:Q (ds,.fz k)):Op (rJ S (.ref k)) Q:=⟨_,by simp only[rJ,a],q⟩
def L9{S:aA}{k:Nat}{ds:List D}{i:Int}{d:D}{Q:D->Prop}(a:S[k]?=some (.frz ds))(h:mY ds i=some d)(q:Q d):Op (sA S (.ref k) (.int i)) Q:=⟨_,by simp only[sA,a];exact h,q⟩
def HZ{i:Int}{Q:D->Prop}(q:Q (.int (if i<0 then -i else i))):Op (EO [.int i]) Q:=⟨_,rfl,q⟩
end DL
namespace W28
open PySem PySem.Spec L2 DL
section
variable{S:aA}{Q:Res->aA->Prop}
def Js{ns:List Int}{k:Nat}(e:k<100)(f:S[0]?=some (.frz (ns.map D.int)))(q:∀a b:Int,Q (.l [.int a,.int b,.int 0]) S):Fn ku [.ref 0,.int k] S Q:=by
 refine bF ?_
 unfold nZ
 refine aP (fV (sW ?_))
 refine aP (T.mono (Q:=λo=>∃d:Int,o=.nx [some (.ref 0),some (.int k),some (.int d)] S) ?_ ?_)
 ·apply eC (dI (jy (aL rfl (uC (jT (aL rfl (EH f ?_)))))))
  rw[lQm]
  by_cases c:(k:Int)<ns.length
  ·rw[Qeq c,Qhq rfl]
   have e:k<ns.length:=by omega
   symm
   refine L9 f (aC (x:=.int ns[k]) (by rw[gQm,gQe e];rfl)) ?_
   exact⟨_,rfl⟩
  ·rw[Qdq c,Quq (by decide)]
   exact cB ⟨_,rfl⟩
 rintro _ ⟨d,rfl⟩
 dsimp only
 symm
 apply HZ ?_
 apply HZ ?_
 refine K2 ⟨by decide,by decide,by decide⟩ ?_
 generalize (10:Int)^(18:Int).toNat=c2
 generalize (if d<0 then -d else d)=c1
 symm
 refine EC ?_
 have g:Gz c1 (if decide (c2<=c1)=true then 1 else 0):=by
  right
  split <;>decide
 generalize (if decide (c2<=c1)=true then(1:Int) else 0)=c3 at g⊢
 apply pk g ?_
 apply me (by decide) ?_
 apply pk (.inl ⟨by decide,by decide⟩) ?_
 have h:0<=d%2147483629:=Int.emod_nonneg _ (by decide)
 have i:d%2147483629<2147483629:=Int.emod_lt_of_pos _ (by decide)
 apply pk (.inl ⟨by omega,by omega⟩) ?_
 apply pk (.inr ⟨by decide,by decide⟩) ?_
 apply me (by decide) ?_
 refine⟨by show 3<=_;decide,?_⟩
 exact Dt rfl (q _ _)
end
end W28
namespace DL
open PySem PySem.Spec L2
section
variable{Γ:cv}{S:aA}
def NR{n:Nat}{b:cD}{ds:List D}{S:aA}{Q:Res->aA->Prop}(h:T b (ds.map some++List.replicate (n-ds.length) none) S λo=>match o with|.nx _ a=>Q (.d .non) a|.rt d a=>Q (.d d) a|.rl l a=>Q (.l l) a|_=>False):Fn (Kt n b) ds S Q:=by
 obtain⟨o,e,q⟩:=h
 cases o with
 |nx _ a=>exact⟨_,_,by unfold Kt;rw[e];rfl,q⟩
 |rt d a=>exact⟨_,_,by unfold Kt;rw[e];rfl,q⟩
 |rl l a=>exact⟨_,_,by unfold Kt;rw[e];rfl,q⟩
 |_=>exact q.elim
end
theorem fL{α:Type}{f:α->D}{g:α->PyData}:∀{l:List α},(∀a∈l,eW (f a)=some (g a))->dr (l.map f)=some (l.map g)
 | [],_=>rfl
 | a::l,h=>by
   simp only[QDq,dr]
   rw[h a (QBq ..),fL λb c=>h b (Qpq _ c)]
   rfl
theorem g6{α:Type}{g:α->PyData}{n:Nat}:∀{l:List α},(∀a∈l,ST.nu n (g a)=true)->ST.kO n (l.map g)=true
 | [],_=>by simp[ST.kO]
 | a::l,h=>by
   simp only[QDq,ST.kO,QCq]
   exact⟨h a (QBq ..),g6 λb c=>h b (Qpq _ c)⟩
theorem map_inj{α d:Type}{g:α->d}(c:∀a b,g a=g b->a=b):∀{l m:List α},l.map g=m.map g->l=m
 | [],[],_=>rfl
 | a::l,b::m,h=>by
   simp only[QDq,List.cons.injEq] at h
   rw[c a b h.1,map_inj c h.2]
 | [],_::_,h=>by simp at h
 |_::_,[],h=>by simp at h
end DL
namespace W28
open PySem PySem.Spec L2 DL
def iM(l:List Int):PyData:=.tuple (l.map .int)
def bx.p(f:bx):PyData:=.tuple [.int f.room,.int f.deed,.int f.row,.int f.given,.int f.told]
def pj(p:Int×Int):PyData:=.tuple [.int p.1,.int p.2]
def m3(l:List (Int×Int)):PyData:=.tuple (l.map pj)
def bJ.p(r:bJ):PyData:=.tuple [iM r.vals,.int r.within,iM r.row,iM r.ag,.tuple (r.aa.map m3)]
def Ho(p:Int×List Int):PyData:=.tuple [.int p.1,iM p.2]
def F5(h:List Int×List bx):PyData:=.tuple [iM h.1,.tuple (h.2.map bx.p)]
def aH.p(s:aH):PyData:=.tuple [.tuple (s.aj.map bJ.p),.tuple (s.ai.map Ho),iM s.ak,.tuple (s.af.map F5)]
def iq(l:List Int):eW (bM l)=some (iM l):=by
 unfold bM iM
 simp only[eW]
 rw[fL (g:=PyData.int) λ_ _=>rfl]
 rfl
def kK(n:Nat)(l:List Int):ST.nu (n+1) (iM l)=true:=by
 unfold iM
 simp only[ST.nu]
 exact g6 λ_ _=>by simp[ST.nu]
def Ht(f:bx):eW f.d=some f.p:=by simp[bx.d,bx.p,eW,dr]
def Iz(n:Nat)(f:bx):ST.nu (n+1) f.p=true:=by simp[bx.p,ST.nu,ST.kO]
def EE(p:Int×Int):eW (pairD p)=some (pj p):=by simp[pairD,pj,eW,dr]
def EL(l:List (Int×Int)):eW (dk l)=some (m3 l):=by
 unfold dk m3
 simp only[eW]
 rw[fL (g:=pj) λp _=>EE p]
 rfl
def Gg(n:Nat)(l:List (Int×Int)):ST.nu (n+2) (m3 l)=true:=by
 unfold m3
 simp only[ST.nu]
 exact g6 λ_ _=>by simp[pj,ST.nu,ST.kO]
def GS(r:bJ):eW r.d=some r.p:=by
 unfold bJ.d bJ.p
 simp only[eW,dr]
 rw[iq,iq,iq,fL (g:=m3) λl _=>EL l]
 rfl
def Ir(n:Nat)(r:bJ):ST.nu (n+4) r.p=true:=by
 unfold bJ.p
 simp only[ST.nu,ST.kO,QCq]
 exact⟨kK _ _,trivial,kK _ _,kK _ _,g6 λl _=>Gg n l,trivial⟩
def J_(p:Int×List Int):eW (yR p)=some (Ho p):=by
 unfold yR Ho
 simp only[eW,dr]
 rw[iq]
 rfl
def Mr(n:Nat)(p:Int×List Int):ST.nu (n+2) (Ho p)=true:=by
 unfold Ho
 simp only[ST.nu,ST.kO,QCq]
 exact⟨trivial,kK _ _,trivial⟩
def Kk(h:List Int×List bx):eW (yV h)=some (F5 h):=by
 unfold yV F5
 simp only[eW,dr]
 rw[iq,fL (g:=bx.p) λf _=>Ht f]
 rfl
def KU(n:Nat)(h:List Int×List bx):ST.nu (n+3) (F5 h)=true:=by
 unfold F5
 simp only[ST.nu,ST.kO,QCq]
 exact⟨kK _ _,g6 λf _=>Iz n f,trivial⟩
def aH.num(s:aH):eW s.d=some s.p:=by
 unfold aH.d aH.p
 simp only[eW,dr]
 rw[fL (g:=bJ.p) λr _=>GS r,fL (g:=Ho) λp _=>J_ p,iq,fL (g:=F5) λh _=>Kk h]
 rfl
def aH.nu(s:aH):ST.nu 8 s.p=true:=by
 unfold aH.p
 simp only[ST.nu,ST.kO,QCq]
 exact⟨g6 λr _=>Ir 2 r,g6 λp _=>Mr 4 p,kK _ _,g6 λh _=>KU 3 h,trivial⟩
def iP{l m:List Int}(h:iM l=iM m):l=m:=by
 unfold iM at h
 injection h with h
 exact map_inj (λa b e=>by injection e) h
def El(a b:Int×Int)(h:pj a=pj b):a=b:=by
 obtain⟨d,e⟩:=a
 obtain⟨f,c⟩:=b
 simp[pj] at h
 rw[h.1,h.2]
def DG(l m:List (Int×Int))(h:m3 l=m3 m):l=m:=by
 unfold m3 at h
 injection h with h
 exact map_inj El h
def Gk(a b:bx)(h:a.p=b.p):a=b:=by
 obtain⟨g,l,d,f,i⟩:=a
 obtain⟨m,c,e,k,j⟩:=b
 simp[bx.p] at h
 obtain⟨rfl,rfl,rfl,rfl,rfl⟩:=h
 rfl
def GR(a b:bJ)(h:a.p=b.p):a=b:=by
 obtain⟨m,r,j,l,n⟩:=a
 obtain⟨s,i,k,q,o⟩:=b
 unfold bJ.p at h
 injection h with h
 simp only[List.cons.injEq,and_true] at h
 obtain⟨f,c,g,e,d⟩:=h
 injection c with c
 injection d with d
 rw[iP f,iP g,iP e,map_inj DG d,c]
def JR(a b:Int×List Int)(h:Ho a=Ho b):a=b:=by
 obtain⟨f,g⟩:=a
 obtain⟨i,e⟩:=b
 unfold Ho at h
 injection h with h
 simp only[List.cons.injEq,and_true] at h
 obtain⟨c,d⟩:=h
 injection c with c
 rw[iP d,c]
def Iw(a b:List Int×List bx)(h:F5 a=F5 b):a=b:=by
 obtain⟨f,g⟩:=a
 obtain⟨i,e⟩:=b
 unfold F5 at h
 injection h with h
 simp only[List.cons.injEq,and_true] at h
 obtain⟨d,c⟩:=h
 injection c with c
 rw[iP d,map_inj Gk c]
def aH.inj{a b:aH}(h:a.p=b.p):a=b:=by
 obtain⟨l,n,i,k⟩:=a
 obtain⟨o,g,j,m⟩:=b
 unfold aH.p at h
 injection h with h
 simp only[List.cons.injEq,and_true] at h
 obtain⟨e,c,f,d⟩:=h
 injection e with e
 injection c with c
 injection d with d
 rw[map_inj GR e,map_inj JR c,iP f,map_inj Iw d]
def aH.injD{a b:aH}(h:a.d=b.d):a=b:=by
 have:=a.num
 rw[h,b.num] at this
 exact(aH.inj (QdQ this)).symm
def Bk{b:List aH}{s:aH}:mH (b.map aH.d) s.p=true↔s∈b:=by
 unfold mH
 rw[List.any_map,List.any_eq_true]
 constructor
 ·rintro⟨a,c,e⟩
  have e:(match eW a.d with|some q=>PyData.eqv q s.p|none=>false)=true:=e
  rw[a.num] at e
  have:=aH.inj (ST.Da a.nu s.nu e)
  subst this
  exact c
 ·intro h
  refine⟨s,h,?_⟩
  show(match eW s.d with|some q=>PyData.eqv q s.p|none=>false)=true
  rw[s.num]
  exact SeqAt.eqv_refl _ (ST.lM s.nu).1
def oJ{w:bK}{s b c:aH}{h:Nat}{g e:Option Int}(k:gI w s h b g)(i:gI w s h c e):b=c:=by
 obtain⟨m,o,j,l⟩:=k [] (λr _=>r=.d (GI b h g)) rfl
 obtain⟨n,p,f,a⟩:=i [] (λr _=>r=.d (GI c h e)) rfl
 rw[j] at f
 cases f
 rw[l] at a
 unfold GI at a
 injection a with a
 injection a with a
 simp only[List.cons.injEq] at a
 exact aH.injD a.1
def Nx(w:bK)(s s':aH):Prop:=∃h e,h∈jY w s/\gI w s h s' e
inductive Rc(w:bK)(s:aH):aH->Prop
 |refl:Rc w s s
 |step {s1 s2:aH}:Rc w s s1->Nx w s1 s2->Rc w s s2
def Gd(w:bK)(n:Nat)(s:aH):Prop:=cc w n s/\pD w s
def Gd.mono{w:bK}{n m:Nat}{s:aH}(x:Gd w n s)(l:n<=m):Gd w m s:=⟨x.1.mono l,x.2⟩
def Gd.next{w:bK}{n h:Nat}{s:aH}(o:cf w)(x:Gd w n s)(g:n<=800)(a:h∈jY w s):∃s' e,gI w s h s' e/\Gd w (n+1) s'/\Kp h s s':=by
 have hl:h<s.af.length:=List.mem_range.mp (List.mem_filter.mp a).1
 obtain⟨⟨t,u⟩,b⟩:∃p,s.af[h]?=some p:=⟨_,gQe hl⟩
 obtain⟨v,m,q,k⟩:=x.1.whand b
 obtain⟨f,l,r⟩:=k.last
 obtain⟨s',e,j,c,i,d⟩:=GM o x.1 x.2 g a b l
 exact⟨s',e,j,⟨c,i⟩,d⟩
def Cy(p:aH×Int×Int):D:=.tup [p.1.d,.int p.2.1,.int p.2.2]
structure Cm(w:bK)(n:Nat)(s0:aH)(k:Nat)(fs:List (aH×Int×Int)):Prop where
 hd:∃o h,fs[0]?=some (s0,o,h)
 nd:(fs.map (·.1)).Nodup
 rc:∀(i:Nat) (p:aH×Int×Int),fs[i]?=some p->Rc w s0 p.1/\Gd w (n+i) p.1
 cl:∀(i:Nat) (p:aH×Int×Int),i<k->fs[i]?=some p->∀s',Nx w p.1 s'->s'∈fs.map (·.1)
section
variable{w:bK}{n:Nat}{s0:aH}{S:aA}{Q:Res->aA->Prop}
def Cm.all{fs:List (aH×Int×Int)}(x:Cm w n s0 fs.length fs){s:aH}(h:Rc w s0 s):s∈fs.map (·.1):=by
 induction h with
 | refl=>
   obtain⟨o,h,e⟩:=x.hd
   exact Qkq.mpr ⟨_,mQg e,rfl⟩
 | step _ b c=>
   obtain⟨p,d,rfl⟩:=Qkq.mp c
   obtain⟨i,a⟩:=List.getElem?_of_mem d
   exact x.cl i p (gQs.mp a).1 a _ b
def GF(o:cf w){s:aH}(x:cc w n s):(jY w s).length<=4:=by
 have a:=List.length_filter_le (λh:Nat=> !decide ((h:Int)∈held s)&& !sx w s h) (List.range s.af.length)
 have b:=x.lh
 have c:=o.l4
 rw[QVq] at a
 unfold jY
 omega
def Cm.add{k:Nat}{fs:List (aH×Int×Int)}{s':aH}{a b:Int}(x:Cm w n s0 k fs)(s:s'∉fs.map (·.1))(m:Rc w s0 s')(r:Gd w (n+fs.length) s')(u:k<=fs.length):Cm w n s0 k (fs++ [(s',a,b)]):=by
 refine⟨?_,?_,λi p f=> ?_,λi p t f q j=> ?_⟩
 ·obtain⟨o,h,e⟩:=x.hd
  exact⟨o,h,by rw[QHq (gQs.mp e).1];exact e⟩
 ·rw[Qzq,List.nodup_append]
  refine⟨x.nd,by simp,λc l d g=> ?_⟩
  have g:d=s':=by simpa using g
  subst g
  exact λz=>s (z▸l)
 ·by_cases c:i<fs.length
  ·rw[QHq c] at f
   exact x.rc i p f
  ·rw[QQq (by omega)] at f
   have z:i-fs.length=0:=by have:=(gQs.mp f).1;simp at this;omega
   rw[z] at f
   cases f
   have:i=fs.length:=by omega
   subst this
   exact⟨m,r⟩
 ·rw[QHq (by omega)] at f
  rw[Qzq]
  exact mQa.mpr (.inl (x.cl i p t f q j))
def FX(o:cf w)(x:Gd w n s0){a:Nat}(hm:a<=400)(hn:n<=300)
  (q:∀(fs:List (aH×Int×Int)) (g:aA),l_ S g->g[S.length+1]?=some (.lst (fs.map Cy))->(∃k,Cm w n s0 k fs/\(fs.length<=a->k=fs.length))->fs.length<=500->Q (.d (if fs.length<=a then .ref (S.length+1) else .non)) g):Fn ni [w.d,s0.d,.int a] S Q:=by
 refine NR ?_
 unfold yL
 refine aP (fV (N5 ?_))
 refine aP (xP (Ie (aL rfl ⟨_,_,rfl,aI,aL rfl ⟨_,_,s0.p,rfl,aI,s0.num,⟨s0.nu,Nat.zero_le _⟩,?_⟩⟩)))
 have e0:(S++ [O.sett []]).set S.length (.sett (if mH [] s0.p=true then [] else []++ [s0.d]))=S++ [O.sett [s0.d]]:=by
  rw[List.set_append_right _ _ (Qmq _)]
  simp[mH]
 show T _ _ ((S++ [O.sett []]).set S.length (.sett (if mH [] s0.p=true then [] else []++ [s0.d]))) _
 rw[e0]
 refine aP (fV (xp (Bg (aZ (E8 (aZ (aL rfl (aZ (oW (sW ⟨_,rfl,aZ (oW (sW ⟨_,rfl,eJ ⟨by show 3<=_;decide,eJ ⟨by show 1<=_;decide,?_⟩⟩⟩))⟩))))))))))
 refine aP (fV (sW ?_))
 have P:(S++ [O.sett [s0.d]]).length=S.length+1:=by simp
 have a1:((S++ [O.sett [s0.d]])++ [O.lst [Cy (s0,-1,-1)]])[S.length]?=some (.sett [s0.d]):=bE aI
 have a3:((S++ [O.sett [s0.d]])++ [O.lst [Cy (s0,-1,-1)]])[S.length+1]?=some (.lst [Cy (s0,-1,-1)]):=by rw[←P];exact aI
 have N:l_ S ((S++ [O.sett [s0.d]])++ [O.lst [Cy (s0,-1,-1)]]):=l_.refl.app.app
 show T _ [some w.d,some s0.d,some (.int a),some (.ref S.length),some (.ref (S++ [O.sett [s0.d]]).length),some (.int 0),none,none,none,none] ((S++ [O.sett [s0.d]])++ [O.lst [Cy (s0,-1,-1)]]) _
 rw[P]
 generalize (S++ [O.sett [s0.d]])++ [O.lst [Cy (s0,-1,-1)]]=S1 at a1 a3 N⊢
 have b2:Cm w n s0 0 [(s0,-1,-1)]:=by
  refine⟨⟨_,_,rfl⟩,by simp,λi p H=> ?_,λi p hi=>absurd hi (Nat.not_lt_zero _)⟩
  cases i with
  |zero=>cases H;exact⟨.refl,x⟩
  |succ i=>simp at H
 have Y:∀(fs:List (aH×Int×Int)) (g:aA) (k:Nat) (a5 a6 X K U:Option D),l_ S g->g[S.length+1]?=some (.lst (fs.map Cy))->Cm w n s0 k fs->(fs.length<=a->k=fs.length)->fs.length<=500→
   T (cQ (qV (aW (bu KF (j0 (cA (av 4))) (av 2))) (av 4) (cF .non))) [some w.d,some s0.d,some (.int a),some (.ref S.length),some (.ref (S.length+1)),a5,a6,X,K,U] g (λo=>match o with|.nx _ g=>Q (.d .non) g|.rt d g=>Q (.d d) g|.rl l g=>Q (.l l) g|_=>False):=by
  intro fs g k a5 a6 X K U be hf J hk hl
  have qq:=q fs g be hf ⟨k,J,hk⟩ hl
  refine jn (KG (dI (jy (uC (jT (aL rfl (fw hf (aL rfl (y4 ?_)))))))))
  rw[lQm]
  refine bf (λc=> ?_) (λc=> ?_)
  ·have c:fs.length<=a:=by have:=QZq c;omega
   rw[Qhq c] at qq
   exact aL rfl qq
  ·have c:¬fs.length<=a:=λz=>by have:=QaQ c;omega
   rw[Quq c] at qq
   exact sW qq
 refine aP (LG (λm r g=>∃(fs:List (aH×Int×Int)) (k:Nat) (a6 X K U:Option D),r= [some w.d,some s0.d,some (.int a),some (.ref S.length),some (.ref (S.length+1)),some (.int k),a6,X,K,U]/\l_ S g/\g[S.length]?=some (.sett ((fs.map (·.1)).map aH.d))/\g[S.length+1]?=some (.lst (fs.map Cy))/\Cm w n s0 k fs/\k<=fs.length/\m+k=a/\fs.length<=a+4) (λm r g hI=> ?_) 500 a _ _ (by omega) ⟨[(s0,-1,-1)],0,_,_,_,_,rfl,N,a1,a3,b2,Nat.zero_le _,rfl,by simp⟩)
 obtain⟨fs,k,a6,X,K,U,rfl,be,hS,hF,J,hk,hmk,hfl⟩:=hI
 refine Ey (dI (jy (aL rfl (uC (jT (aL rfl (fw hF (y4 ?_))))))))
 rw[lQm]
 refine bf (λc=> ?_) (λc=> ?_)
 ·have c:k<fs.length:=by have:=QZq c;omega
  refine dI (jy (uC (jT (aL rfl (fw hF (aL rfl (y4 ?_)))))))
  rw[lQm]
  refine bf (λI=> ?_) (λI=> ?_)
  ·have I:fs.length<=a:=by have:=QZq I;omega
   obtain⟨m',rfl⟩:∃m',m=m'+1:=⟨m-1,by omega⟩
   refine⟨m',rfl,?_⟩
   obtain⟨p,H⟩:∃p,fs[k]?=some p:=⟨_,gQe c⟩
   obtain⟨b0,G⟩:=J.rc k p H
   refine aP (fV (jy (jy (aL rfl (aL rfl (bR (d:=Cy p) hF (aC (by rw[gQm,H];rfl)) (sW (aw (d:=p.1.d) rfl ?_))))))))
   have F:=G.1.mays o (by omega)
   have b4:=GF o G.1
   refine aP (o8 (tP (JK (vz (aZ (aL rfl (aZ (aL rfl (eJ ?_)))))))))
   refine F _ _ ?_
   refine⟨λj r t=>∃(b:List (aH×Int×Int)) (b7 b8 b9:Option D),r= [some w.d,some s0.d,some (.int a),some (.ref S.length),some (.ref (S.length+1)),some (.int k),some p.1.d,b7,b8,b9]/\l_ S t/\t[S.length]?=some (.sett ((b.map (·.1)).map aH.d))/\t[S.length+1]?=some (.lst (b.map Cy))/\Cm w n s0 k b/\fs <+: b/\b.length<=fs.length+j/\∀i h,i<j->(jY w p.1)[i]?=some h->∀f e,gI w p.1 h f e->f∈b.map (·.1),⟨fs,_,_,_,rfl,be,hS,hF,J,List.prefix_refl _,Qmq _,λi h hi=>absurd hi (Nat.not_lt_zero _)⟩,λ_ _ _ _=>trivial,?_,?_⟩
   ·rintro j d r t hd ⟨b,b7,b8,b9,rfl,be2,hS2,hF2,cm2,pre,gl,done⟩
    rw[gQm] at hd
    obtain⟨h,hh,rfl⟩:=oQm.mp hd
    have hj:=(gQs.mp hh).1
    have v:=mQg hh
    obtain⟨f,e,s,b3,_⟩:=G.next o (by omega) v
    have b1:=pre.length_le
    have M:∀(y:List (aH×Int×Int)),b <+: y->f∈y.map (·.1)->∀i h0,i<j+1->(jY w p.1)[i]?=some h0->∀s1 e1,gI w p.1 h0 s1 e1->s1∈y.map (·.1):=λy u a4 i h0 hi h1 s1 e1 B=>by
     by_cases ci:i=j
     ·subst ci
      rw[hh] at h1
      cases h1
      rw[oJ B s]
      exact a4
     ·exact(List.IsPrefix.map (·.1) u).subset (done i h0 (by omega) h1 s1 e1 B)
    refine aQ ?_
    refine aP (Ml (gK (aZ (aL rfl (aZ (aL rfl (aZ (aL rfl (eJ ?_)))))))))
    refine s _ _ ?_
    refine eD rfl (ax (aQ (ax (aQ (bc ?_)))))
    refine eC (dI (LZ (aL rfl (aL rfl ⟨_,_,_,f.p,rfl,rfl,hS2,f.num,⟨f.nu,by rw[lQm,lQm];omega⟩,?_⟩))))
    refine bf (λC=> ?_) (λC=> ?_)
    ·have C:¬mH ((b.map (·.1)).map aH.d) f.p=true:=by simpa using C
     have a2:f∉b.map (·.1):=λz=>C (Bk.mpr z)
     refine aP (xP (Ie (aL rfl ⟨_,_,rfl,hS2,aL rfl ⟨_,_,f.p,rfl,hS2,f.num,⟨f.nu,by rw[lQm,lQm];omega⟩,?_⟩⟩)))
     rw[Quq C]
     have A:(t.set S.length (.sett ((b.map (·.1)).map aH.d++ [f.d])))[S.length+1]?=some (.lst (b.map Cy)):=Dm (by omega) hF2
     have a0:(t.set S.length (.sett ((b.map (·.1)).map aH.d++ [f.d])))[S.length]?=some (.sett ((b.map (·.1)).map aH.d++ [f.d])):=eO hS2
     have Z:l_ S (t.set S.length (.sett ((b.map (·.1)).map aH.d++ [f.d]))):=be2.put (Qmq _)
     show T _ _ (t.set S.length (.sett ((b.map (·.1)).map aH.d++ [f.d]))) _
     generalize t.set S.length (.sett ((b.map (·.1)).map aH.d++ [f.d]))=S3 at A a0 Z⊢
     refine xP (Ep (aL rfl ⟨_,_,rfl,A,aZ (E8 (aZ (aL rfl (aZ (aL rfl (aZ (aL rfl (eJ ⟨by show 3<=_;decide,eJ ?_⟩))))))))⟩))
     refine⟨_,A,uQ (by rw[lQm];exact bq (by omega)) ?_⟩
     refine⟨b++ [(f,(k:Int),(h:Int))],_,_,_,rfl,Z.put (by omega),Dm (by omega) (by rw[Qzq,Qzq];exact a0),?_,cm2.add a2 (.step b0 ⟨h,e,v,s⟩) (b3.mono (by omega)) (by omega),pre.trans (List.prefix_append _ _),by rw[lQa];simp;omega,M _ (List.prefix_append _ _) (by rw[Qzq];simp)⟩
     rw[eO A,Qzq]
     rfl
    ·have C:mH ((b.map (·.1)).map aH.d) f.p=true:=by simpa using C
     exact cB ⟨b,_,_,_,rfl,be2,hS2,hF2,cm2,pre,by omega,M b (List.prefix_refl _) (Bk.mp C)⟩
   ·rintro r t ⟨b,b7,b8,b9,rfl,be2,hS2,hF2,cm2,pre,gl,done⟩
    rw[lQm] at gl done
    refine NY (m:=(k:Int)) rfl (sW ⟨1,rfl,?_⟩)
    have b1:=pre.length_le
    refine⟨b,k+1,_,_,_,_,rfl,be2,hS2,hF2,⟨cm2.hd,cm2.nd,cm2.rc,λi p' hi u f R=> ?_⟩,by omega,by omega,by omega⟩
    by_cases ci:i=k
    ·subst ci
     have:p'=p:=by
      have:=bU pre H
      rw[u] at this
      exact QdQ this
     subst this
     obtain⟨h,e,v,s⟩:=R
     obtain⟨i',W⟩:=List.getElem?_of_mem v
     exact done i' h (gQs.mp W).1 W f e s
    ·exact cm2.cl i p' (by omega) u f R
  ·have I:¬fs.length<=a:=λz=>by have:=QaQ I;omega
   exact Y fs g k _ _ _ _ _ be hF J (λz=>absurd z I) (by omega)
 ·have c:¬k<fs.length:=λz=>by have:=QaQ c;omega
  exact Y fs g k _ _ _ _ _ be hF J (λ_=>by omega) (by omega)
end
section
variable{w:bK}{n h:Nat}{s:aH}{S:aA}{Q:Res->aA->Prop}
def BC(o:cf w)(x:cc w n s)(g:n<=800)(q:Q (.l ((held s).map D.int)) S):Fn bO [s.d] S Q:=by
 have t:=o.l1
 have m:=o.l2
 have r:=x.lr
 have p:=x.lp
 refine iI g (by omega) (by omega) x.ps (λf b=> ?_) q
 obtain⟨i,k,e⟩:=QbQ b
 have j:s.aj[i]?=some f:=by rw[gQe k,e]
 have c:w.aj[i]?=some (w.aj[i]'(by omega)):=gQe (by omega)
 have a:=x.rm i _ f c j
 have:=(o.rm _ (mQg c)).l2
 have:=a.lb
 exact⟨a.br,a.bl,by omega,a.bb⟩
def GY(o:cf w)(x:Gd w n s):(held s).length<=4:=by
 have l:=o.l4
 have j:=x.1.lh
 have d:((held s).map Int.toNat).Nodup:=by
  rw[List.nodup_iff_pairwise_ne,List.pairwise_map]
  refine List.Pairwise.imp_of_mem (λ{a b} c hb ne z=> ?_) (List.nodup_iff_pairwise_ne.mp (Q2.nd x.2))
  obtain⟨g,e,_⟩:=Q2.hv x.2 a c
  obtain⟨k,f,_⟩:=Q2.hv x.2 b hb
  exact ne (by omega)
 have:=ST.m_ d (m:=List.range s.af.length) λy i=>by
  obtain⟨a,c,rfl⟩:=Qkq.mp i
  obtain⟨g,e,hl⟩:=Q2.hv x.2 a c
  exact List.mem_range.mpr (by omega)
 rw[lQm,QVq] at this
 omega
def Lo(w:bK)(s:aH)(g:List Int):Prop:=∀y,y∈g↔∀a,Rc w s a->y∈held a
def Hj{l:List Int}(nd:l.Nodup):(eP l).Pairwise (·<·):=by
 have d:=hU l
 have c:(eP l).Nodup:=(fI l).nodup_iff.mpr nd
 exact(d.and (List.nodup_iff_pairwise_ne.mp c)).imp λ⟨a,b⟩=>by omega
def F3(o:cf w)(x:Gd w n s)(hn:n<=300){b:Nat}(hm:b<=400)
  (q1:∀g:List Int,Lo w s g->g.Pairwise (·<·)->g.length<=4->(∃fs:List aH,fs.Nodup/\fs.length<=b/\∀s',Rc w s s'->s'∈fs)->(∀s',Rc w s s'->Gd w (n+b) s')->Q (.d (bM g)) S)
  (q2:(∃fs:List aH,fs.Nodup/\b<fs.length/\∀s'∈fs,Rc w s s')->Q (.d .non) S):Fn xn [w.d,s.d,.int b] S Q:=by
 refine bF ?_
 unfold DQ
 refine aP (fV (gK (aZ (aL rfl (aZ (aL rfl (aZ (aL rfl (eJ ?_)))))))))
 refine FX o x hm hn λfs U J H I Z=> ?_
 obtain⟨k,l,G⟩:=I
 by_cases c:fs.length<=b
 ·have G:=G c
  subst G
  rw[Qhq c]
  refine aP (eC (dI (jy (aL rfl (sW (o6 ?_))))))
  refine bf (λc=>by cases c) (λ_=>cB ?_)
  refine aP (fV (xp (IL (JK (vz (aZ (aL rfl (eJ ?_))))))))
  refine BC o x.1 (by omega) ?_
  have M:=GY o x
  refine⟨rfl,held s,rfl,by omega,?_⟩
  have Y:(eP (held s)).length<=4:=by rw[(fI _).length_eq];exact M
  have bl:=J.len
  have W:S.length+1<U.length:=(gQs.mp H).1
  refine aP (o8 (tP (jT (aL rfl (fw (bE H) ?_)))))
  refine⟨λj e m=>∃(r:Nat) (C A B v:Option D),e= [some w.d,some s.d,some (.int b),some (.ref (S.length+1)),some (.ref r),C,A,B,v]/\l_ S m/\m[S.length+1]?=some (.lst (fs.map Cy))/\m[r]?=some (.lst (((eP (held s)).filter λy=>(fs.take j).all λp=>decide (y∈held p.1)).map D.int)),?_,λ_ _ _ h=> ?_,?_,?_⟩
  ·refine⟨U.length,_,_,_,_,rfl,J.app,bE H,?_⟩
   rw[List.filter_eq_self.mpr (λ_ _=>by rw[List.take_zero];rfl)]
   exact aI
  ·obtain⟨r,C,A,B,v,_,_,h,_⟩:=h
   exact h
  ·rintro j d e m R ⟨r,C,A,B,v,rfl,be2,hF2,hr2⟩
   rw[gQm] at R
   obtain⟨p,f,rfl⟩:=oQm.mp R
   obtain⟨a0,F⟩:=l.rc j p f
   have hj:=(gQs.mp f).1
   refine eD rfl (ax (aQ (ax (aQ (ax (aQ (bc ?_)))))))
   refine aP (fV (xp (vz (aZ (aL rfl (eJ ?_))))))
   refine BC o F.1 (by omega) ?_
   have u:(m++ [O.lst ((held p.1).map D.int)])[r]?=some (.lst (((eP (held s)).filter λy=>(fs.take j).all λp=>decide (y∈held p.1)).map D.int)):=bE hr2
   refine fV (xp (pV (α:=Int) (λe=>∃a,e= [a,some (.ref m.length)]) D.int D.int (λy=>decide (y∈held p.1)) ⟨none,rfl⟩ (tP (jT (aL rfl (fw u ?_))))))
   refine⟨(eP (held s)).filter λy=>(fs.take j).all λp=>decide (y∈held p.1),rfl,u,by have:=List.length_filter_le (λy=>(fs.take j).all λp=>decide (y∈held p.1)) (eP (held s));omega,λy P e K=> ?_,?_⟩
   ·obtain⟨a,rfl⟩:=K
    refine aQ ⟨rfl,⟨_,rfl⟩,?_⟩
    refine dI (FJ (aL rfl (jT (aL rfl (fw aI ⟨_,_,rfl,iY _,?_⟩)))))
    show _/\C9 (.int y) ((held p.1).map V.int)=_/\_
    rw[wB]
    exact⟨rfl,rfl,λ_=>aL rfl ⟨rfl,rfl⟩⟩
   ·refine⟨(m++ [O.lst ((held p.1).map D.int)]).length,_,_,_,_,rfl,be2.app.app,bE (bE hF2),?_⟩
    rw[aI,List.filter_filter]
    congr 3
    refine List.filter_congr λy _=> ?_
    rw[QYq,f]
    simp[Bool.and_comm]
  ·rintro e m ⟨r,C,A,B,v,rfl,be2,hF2,hr2⟩
   rw[lQm,QEq] at hr2
   refine jn (Il (C1 (jT (aL rfl (fw hr2 ⟨rfl,?_⟩)))))
   refine yn be2 (λk z=>(nomatch z)) (ir _) (q1 _ (λy=> ?_) ((Hj (Q2.nd x.2)).filter _) ?_ ⟨fs.map (·.1),l.nd,by rw[lQm];exact c,λs' N=>l.all N⟩ λs' N=> ?_)
   ·rw[List.mem_filter,QUq]
    constructor
    ·rintro⟨_,X⟩ s' q
     obtain⟨p,f,rfl⟩:=Qkq.mp (l.all q)
     exact QZq (X p f)
    ·intro P
     refine⟨(fI _).mem_iff.mpr (P s .refl),λp f=>Qeq ?_⟩
     obtain⟨i,t⟩:=List.getElem?_of_mem f
     exact P p.1 (l.rc i p t).1
   ·have:=List.length_filter_le (λy=>fs.all λp=>decide (y∈held p.1)) (eP (held s))
    omega
   ·obtain⟨p,f,rfl⟩:=Qkq.mp (l.all N)
    obtain⟨i,t⟩:=List.getElem?_of_mem f
    have:=(gQs.mp t).1
    exact(l.rc i p t).2.mono (by omega)
 ·rw[Quq c]
  refine aP (eC (dI (jy (aL rfl (sW (o6 ?_))))))
  refine bf (λ_=> ?_) (λc=>by cases c)
  refine jn (sW ?_)
  refine yn J (λk z=>(nomatch z)) rfl (q2 ⟨fs.map (·.1),l.nd,by rw[lQm];omega,λs' q=> ?_⟩)
  obtain⟨p,f,rfl⟩:=Qkq.mp q
  obtain⟨i,t⟩:=List.getElem?_of_mem f
  exact(l.rc i p t).1
end
end W28
namespace DL
open PySem PySem.Spec L2
def J2{b:cv}{S:aA}{T U:String}{f:aV}{Q:D->aA->Prop}(h:E f b S λd a=>Op (rY a T d) λk=>Op (rY a U d) λl=>Q (.bl (k||l)) a):E (yI T U f) b S Q:=by
 obtain⟨d,a,g,k,c,l,e,q⟩:=h
 exact⟨_,a,by unfold yI;rw[g];simp only[Qbq];rw[c];simp only[Qbq];rw[e];rfl,q⟩
def mT{e:cv}{S:aA}{T U:String}{f:aV}{d:D}{b c:Bool}{Q:Bool->aA->Prop}(h:E f e S λx g=>x=d/\g=S)(hd:rY S T d=some b)(a:rY S U d=some c)(q:Q (b||c) S):E (jz (yI T U f)) e S Q:=by
 refine uz (J2 (h.mono λx g i=> ?_))
 obtain⟨k,j⟩:=i
 subst k j
 exact⟨_,hd,_,a,lz q⟩
def DA{S:aA}{a:Bool}{Q:D->Prop}(q:Q (.bl false)):Op (iG true S (.bl a) (.bl a)) Q:=⟨_,by cases a <;>rfl,q⟩
end DL
namespace W28
open PySem PySem.Spec L2 DL
section
variable{S S0:aA}{Q:Res->aA->Prop}
def Pl:Nat->D->Prop
 |0,_=>False
 |_+1,.int _=>True
 |_+1,.str _=>True
 |_+1,.non=>True
 |n+1,.tup ds=>ds.length<=1000/\∀d∈ds,Pl n d
 |_+1,_=>False
theorem xw:∀ds:List D,xf ds ds=ds.map λd=>D.tup [d,d]
 | []=>rfl
 | d::ds=>by
   have:=xw ds
   simp only[xf,List.zipWith_cons_cons,QDq] at this⊢
   rw[this]
theorem A9:∀(n:Nat) (d:D) {S:aA} {Q:Res->aA->Prop},Pl n d->Q (.d (.bl true)) S->Fn (ff n) [d,d] S Q
 |0,_,_,_,h,_=>h.elim
 | n+1,.int i,S,Q,_,q=>by
   refine bF ?_
   unfold fu
   refine aP (eC (mT (d:=.int i) (aL rfl ⟨rfl,rfl⟩) rfl rfl ?_))
   refine bf (λc=>by cases c) (λ_=>cB ?_)
   refine aP (eC (dI (jy (aL rfl (sW (o6 ?_))))))
   refine bf (λc=>by cases c) (λ_=>cB ?_)
   refine aP (eC (eR (d:=.int i) (aL rfl ⟨rfl,rfl⟩) rfl ?_))
   refine bf (λc=>by cases c) (λ_=>cB ?_)
   refine jn (sE (oT (aL rfl ⟨_,rfl,true,rfl,?_⟩)))
   rw[Qhq rfl]
   refine sE (IJ (oT (aL rfl ⟨_,rfl,false,rfl,true,rfl,?_⟩)))
   rw[Qhq rfl]
   symm
   refine iu ?_
   rw[Qeq rfl]
   exact bP (λk z=>(nomatch z)) rfl q
 | n+1,.non,S,Q,_,q=>by
   refine bF ?_
   unfold fu
   refine aP (eC (mT (d:=.non) (aL rfl ⟨rfl,rfl⟩) rfl rfl ?_))
   refine bf (λc=>by cases c) (λ_=>cB ?_)
   refine aP (eC (dI (jy (aL rfl (sW (o6 ?_))))))
   refine bf (λ_=> ?_) (λc=>by cases c)
   refine jn (jy (aL rfl (sW (o6 ?_))))
   exact bP (λk z=>(nomatch z)) rfl q
 | n+1,.str i,S,Q,_,q=>by
   refine bF ?_
   unfold fu
   refine aP (eC (mT (d:=.str i) (aL rfl ⟨rfl,rfl⟩) rfl rfl ?_))
   refine bf (λc=>by cases c) (λ_=>cB ?_)
   refine aP (eC (dI (jy (aL rfl (sW (o6 ?_))))))
   refine bf (λc=>by cases c) (λ_=>cB ?_)
   refine aP (eC (eR (d:=.str i) (aL rfl ⟨rfl,rfl⟩) rfl ?_))
   refine bf (λ_=> ?_) (λc=>by cases c)
   refine jn (sE (oT (aL rfl ⟨_,rfl,true,rfl,?_⟩)))
   rw[Qhq rfl]
   symm
   refine g8 ?_
   rw[Qeq rfl]
   exact bP (λk z=>(nomatch z)) rfl q
 | n+1,.tup ds,S,Q,h,q=>by
   refine bF ?_
   unfold fu
   refine aP (eC (mT (d:=.tup ds) (aL rfl ⟨rfl,rfl⟩) rfl rfl ?_))
   refine bf (λ_=> ?_) (λc=>by cases c)
   refine aP (eC (HK (dI (jy (oT (aL rfl ⟨_,rfl,oT (aL rfl ⟨_,rfl,DA ?_⟩)⟩))))))
   refine bf (λc=>by cases c) (λ_=> ?_)
   refine dI (jy (oT (aL rfl ⟨_,rfl,oT (aL rfl ⟨_,rfl,DA ?_⟩)⟩)))
   refine bf (λc=>by cases c) (λ_=>cB ?_)
   refine jn (sE (jy (uC (jT (aL rfl (e_ (uC (jT (aL rfl (e_ (iu ⟨_,rfl,?_⟩)))))))))))
   rw[Qeq rfl,Qhq rfl]
   refine L1 (JK ?_)
   apply pV (α:=D) (λe=>∃a b,e= [a,b]) (λd=>D.tup [d,d]) (λ_=>.bl true) (λ_=>true) ⟨none,none,rfl⟩ (Fo ?_)
   refine⟨⟨trivial,Qmq _⟩,ds,xw ds,⟨trivial,trivial⟩,h.1,λd g e f=> ?_,?_⟩
   · obtain⟨a,b,rfl⟩:=f
     refine eD rfl (ax (aQ (ax (aQ (bc ?_)))))
     apply⟨rfl,⟨_,_,rfl⟩,wa ⟨rfl,rfl,λ_=> ?_⟩⟩
     exact A9 n d (h.2 d g) ⟨rfl,rfl⟩
   · refine⟨rfl,List.replicate ds.length true,?_,?_⟩
     · rw[←xW]
       congr 1
       rw[List.filter_eq_self.mpr (λ_ _=>rfl),List.map_const']
     · have:(List.replicate ds.length true).all id=true:=by simp
       rw[this]
       exact bP (λk z=>(nomatch z)) rfl q
end
abbrev Fv:=List (Nat×aH×Option Int)
def jg(w:bK)(tr:Fv):aH:=match tr.getLast? with
 |none=>bo w
 |some x=>x.2.1
def uf(x:Nat×aH×Option Int):List (Nat×Int):=match x.2.2 with
 |none=> []
 |some v=> [(x.1,v)]
def H_(tr:Fv):List (Nat×Int):=tr.flatMap uf
def Ny(p:Nat×Int):D:=.tup [.int p.1,.int p.2]
def rp(w:bK)(tr:Fv):Prop:=∀(n:Nat) (h:Nat) (a:aH) (e:Option Int),tr[n]?=some (h,a,e)->GV w (jg w (tr.take n))/\h∈jY w (jg w (tr.take n))/\gI w (jg w (tr.take n)) h a e
def BW{w:bK}{tr:Fv}{n:Nat}{x:Nat×aH×Option Int}(h:tr[n]?=some x):jg w (tr.take (n+1))=x.2.1:=by
 unfold jg
 rw[QYq,h]
 simp
def wJ{w:bK}{tr:Fv}{x:Nat×aH×Option Int}:jg w (tr++ [x])=x.2.1:=by
 unfold jg
 simp
def rp.app{w:bK}{tr:Fv}{h:Nat}{s':aH}{e:Option Int}(x:rp w tr)(i:GV w (jg w tr))(d:h∈jY w (jg w tr))(g:gI w (jg w tr) h s' e):rp w (tr++ [(h,s',e)]):=by
 intro n j k f a
 by_cases c:n<tr.length
 ·rw[QHq c] at a
  rw[List.take_append_of_le_length (by omega)]
  exact x n j k f a
 ·have hl:=(gQs.mp a).1
  have b:n=tr.length:=by simp at hl;omega
  subst b
  simp at a
  obtain⟨rfl,rfl,rfl⟩:=a
  rw[List.take_append_of_le_length (by omega),QEq]
  exact⟨i,d,g⟩
def G1{tr:Fv}:(H_ tr).length<=tr.length:=by
 have:=j3 (f:=uf) (n:=1) (l:=tr) λx _=>by unfold uf;split <;>simp
 unfold H_
 omega
def wK(w:bK)(tr:Fv):D:=.tup [(jg w tr).d,.tup ((H_ tr).map Ny)]
section
variable{S S0:aA}{Q:Res->aA->Prop}
def CW{w:bK}{tr:Fv}(o:cf w)(ok:rp w tr)(hl:tr.length<=900)(q:Q (.d (wK w tr)) S):Fn pU [w.d,.tup ((tr.map (·.1)).map zD)] S Q:=by
 refine bF ?_
 unfold vP
 symm
 apply Ed o ?_
 refine⟨by decide,?_⟩
 apply aP (o8 (Hg ?_))
 refine⟨λn f l=>(∃a b c,f= [some w.d,some (.tup ((tr.map (·.1)).map zD)),some (jg w (tr.take n)).d,some (.ref S.length),a,b,c])/\l=S++ [.lst ((H_ (tr.take n)).map Ny)],⟨⟨_,_,_,rfl⟩,rfl⟩,λ_ _ _ _=>trivial,?_,?_⟩
 ·rintro n d f l B ⟨⟨a,b,c,rfl⟩,rfl⟩
  obtain⟨x,t,rfl⟩:=nX B
  rw[gQm,gQm] at t
  obtain⟨F,j,rfl⟩:=oQm.mp t
  obtain⟨⟨h,p,e⟩,g,rfl⟩:=oQm.mp j
  obtain⟨A,r,y⟩:=ok n h p e g
  have u:jg w (tr.take (n+1))=p:=BW g
  have i:H_ (tr.take (n+1))=H_ (tr.take n)++uf (h,p,e):=kE g
  have C:(H_ (tr.take n)).length<=900:=by
   have:=G1 (tr:=tr.take n)
   rw[Qxq] at this
   omega
  generalize jg w (tr.take n)=s at A r y⊢
  generalize H_ (tr.take n)=es at i C⊢
  refine eD rfl (ax (aQ (ax (aQ (bc ?_)))))
  apply aP (eC (dI (FJ ?_)))
  refine A _ _ ?_
  dsimp only
  refine⟨_,_,rfl,by rw[Cb];exact iY _,?_⟩
  rw[wB,Qeq (Qkq.mpr ⟨h,r,rfl⟩)]
  apply bf (λc=>by cases c) (λ_=>cB ?_)
  refine y _ _ ?_
  apply eD rfl (ax (aQ (ax (aQ (bc ?_)))))
  refine o6 ?_
  cases e with
  | none=>
    refine bf (λc=>by cases c) (λ_=>cB ?_)
    refine⟨⟨_,_,_,by rw[u];rfl⟩,?_⟩
    rw[i]
    simp[uf]
  | some v=>
    refine bf (λ_=> ?_) (λc=>by cases c)
    apply xP (Ep ?_)
    apply⟨_,_,rfl,aI,?_⟩
    refine⟨_,aI,⟨_,by unfold rD;exact Qhq (by rw[lQm];exact bq (by omega)),?_⟩⟩
    refine⟨⟨_,_,_,by rw[u];rfl⟩,?_⟩
    rw[i]
    simp[uf,Ny,MQ]
 ·rintro f l ⟨⟨a,b,c,rfl⟩,rfl⟩
  have m:(mL 0 ((tr.map (·.1)).map zD)).length=tr.length:=by rw[nk];simp
  rw[m,QEq]
  symm
  refine fw aI ?_
  apply⟨rfl,?_⟩
  refine⟨by show 2<=_;decide,?_⟩
  refine yn (d:=wK w tr) (l_.refl.app) (λk z=>(nomatch z)) ?_ q
  simp only[wK,cz,bD,aH.low,Bool.and_true,Bool.true_and]
  exact bB λ_ _=>rfl
end
structure Sg(σ:Str->Str):Prop where
 inj:∀a b,σ a=σ b->a=b
 gv:σ "given"="given"
def jx(c:Str->Str):Tr->Tr
 |.num n=>.num n
 |.word x=>.word (c x)
 |.waits b=>.waits (c b)
 |.no t=>.no (jx c t)
 |.two o a b=>.two o (jx c a) (jx c b)
def fO(a:Str->Str):Rw->Rw
 |.put x t=>.put (a x) (jx a t)
 |.unl t n=>.unl (jx a t) n
 |.go n=>.go n
 |.do_ g r d t=>.do_ (g.map a) (a r) (a d) (jx a t)
 |.wait b t=>.wait (a b) (jx a t)
 |.call b=>.call (a b)
 |.all b=>.all (a b)
 |.tell t=>.tell (jx a t)
 |.take p=>.take (a p)
 |.give p=>.give (a p)
 |.pass p q=>.pass (a p) (a q)
 |.say t=>.say (jx a t)
def iB{a:Type}(b:Str->Str)(p:Str×a):Str×a:=(b p.1,p.2)
def vb(a:Str->Str)(p:Str×List Rw):Str×List Rw:=(a p.1,p.2.map (fO a))
def Cr(a:Str->Str)(r:Rm):Rm:=⟨a r.name,r.ah,r.ao.map (iB a),r.aa.map (iB a),r.ae.map (vb a)⟩
def wb(a:Str->Str)(h:List (Str×Nat)×List Rw):List (Str×Nat)×List Rw:=(h.1.map (iB a),h.2.map (fO a))
def cJ(a:Str->Str)(w:bK):bK:=⟨w.aj.map (Cr a),w.ai.map (iB a),w.ak.map (iB a),w.af.map (wb a)⟩
def A4(a:Str->Str):Key->Key
 |.inr x=>.inr (a x)
 |.inl i=>.inl i
def km(b:Str->Str)(l:List (Key×D)):List (Key×D):=l.map λa=>(A4 b a.1,a.2)
def gV{b:Type}{a:Str->Str}(l:List (Str×b)):(l.map (iB a)).map (·.1)=(l.map (·.1)).map a:=by rw[QPq,QPq];rfl
section
variable{σ:Str->Str}(g:Sg σ)
include g
def p6{a b:Key}:A4 σ a=A4 σ b↔a=b:=by
 constructor
 ·intro h
  cases a <;>cases b <;>simp only[A4] at h
  ·exact h
  ·cases h
  ·cases h
  ·exact congrArg Sum.inr (g.inj _ _ (Sum.inr.inj h))
 ·intro h;rw[h]
theorem v8(x:Str):∀ns:List Str,jQ (.str (σ x)) ((ns.map σ).map V.str)=jQ (.str x) (ns.map V.str)
 | []=>rfl
 | a::ns=>by
   simp only[QDq,jQ]
   rw[v8 x ns]
   have:vW (.str (σ a)) (.str (σ x))=vW (.str a) (.str x):=by
     show(σ a==σ x)=(a==x)
     by_cases c:a=x
     · rw[c];simp
     · have:σ a≠σ x:=λh=>c (g.inj _ _ h)
       exact(beq_false_of_ne this).trans (beq_false_of_ne c).symm
   rw[this]
def fW(x:Str)(ns:List Str):bX (ns.map σ) (σ x)=bX ns x:=by unfold bX;rw[v8 g]
def DV(k:Key):∀l:List (Key×D),mJ (km σ l) (A4 σ k)=mJ l k:=λl=>by
 unfold mJ km
 rw[List.find?_map]
 have:((λa:Key×D=>decide (a.1=A4 σ k))∘λa:Key×D=>(A4 σ a.1,a.2))=λa=>decide (a.1=k):=by
  funext a
  exact decide_eq_decide.mpr (p6 g)
 rw[this]
 cases l.find? λa=>decide (a.1=k) <;>rfl
def xb(k:Key)(v:D)(l:List (Key×D)):putD (km σ l) (A4 σ k) v=km σ (putD l k v):=by
 unfold putD km
 have b:((l.map λa:Key×D=>(A4 σ a.1,a.2)).any λa=>decide (a.1=A4 σ k))=l.any λa=>decide (a.1=k):=by
  rw[List.any_map]
  congr 1
  funext a
  exact decide_eq_decide.mpr (p6 g)
 rw[b]
 split
 ·rw[QPq,QPq]
  refine List.map_congr_left λa _=> ?_
  simp only[Function.comp]
  by_cases c:a.1=k
  ·rw[Qhq c,Qhq ((p6 g).mpr c)]
  ·rw[Quq c,Quq λh=>c ((p6 g).mp h)]
 ·rw[Qzq];rfl
theorem jc:∀(m l:List (Key×D)),bL (km σ l) (km σ m)=km σ (bL l m)
 | [],l=>rfl
 | a::m,l=>by
   show bL (putD (km σ l) (A4 σ a.1) a.2) (km σ m)=km σ (bL (putD l a.1 a.2) m)
   rw[xb g,jc m]
def sF(ts:List (Str×Nat))(vs:List Int):cZ (ts.map (iB σ)) vs=km σ (cZ ts vs):=by
 unfold cZ
 rw[gV]
 have:∀(l:List Str) (b:List D),((l.map σ).map Sum.inr).zip b=km σ ((l.map Sum.inr).zip b):=by
  intro l
  induction l with
  |nil=>intro b;rfl
  | cons a l c=>
    intro b
    cases b with
    |nil=>rfl
    | cons u b=>
      exact congr (congrArg List.cons rfl) (c b)
 rw[this]
 exact jc g _ []
def nK(x:Str)(l:List (Key×D)):numAt (km σ l) (σ x)=numAt l x:=by
 unfold DL.numAt
 rw[show(Sum.inr (σ x):Key)=A4 σ (.inr x) from rfl,DV g]
omit g in
theorem nj{th wt d c:Str->Int}(f:∀x,d (σ x)=th x)(e:∀x,c (σ x)=wt x):∀t:Tr,rF d c (jx σ t)=rF th wt t
 |.num n=>rfl
 |.word x=>f x
 |.waits b=>by simp only[jx,rF];rw[e]
 |.no t=>by simp only[jx,rF];rw[nj f e t]
 |.two o a b=>by simp only[jx,rF];rw[nj f e a,nj f e b]
variable{w:bK}{s:aH}{h:Nat}
omit g in
def AN:Fc (cJ σ w) h=wb σ (Fc w h):=by
 unfold Fc cJ
 rw[gQm]
 cases w.af[h]? <;>rfl
omit g in
def qE(i:Nat):(pY (cJ σ w) i).ao=(pY w i).ao.map (iB σ):=by
 unfold pY cJ
 rw[gQm]
 cases w.aj[i]? <;>rfl
omit g in
def kC(i:Nat):(pY (cJ σ w) i).aa=(pY w i).aa.map (iB σ):=by
 unfold pY cJ
 rw[gQm]
 cases w.aj[i]? <;>rfl
omit g in
def B1(i:Nat):(pY (cJ σ w) i).ae=(pY w i).ae.map (vb σ):=by
 unfold pY cJ
 rw[gQm]
 cases w.aj[i]? <;>rfl
omit g in
def y6(i:Nat):(pY (cJ σ w) i).ah=(pY w i).ah:=by
 unfold pY cJ
 rw[gQm]
 cases w.aj[i]? <;>rfl
omit g in
def B4:(cJ σ w).aj.map (·.name)=(w.aj.map (·.name)).map σ:=by unfold cJ;rw[QPq,QPq];rfl
omit g in
def Cp(l:List (Str×List Rw)):(l.map (vb σ)).map (·.1)=(l.map (·.1)).map σ:=by rw[QPq,QPq];rfl
def BN(r c:Rm)(rs:bJ)(e:c.aa=r.aa.map (iB σ)):q5 c rs=km σ (q5 r rs):=by
 unfold q5
 rw[e]
 have:∀(l:List (Str×Str)) (b:List (List (Int×Int))),(((l.map (iB σ)).zip b).map λp=>((Sum.inr p.1.1:Key),D.int (p.2.length:Nat)))=km σ ((l.zip b).map λp=>(Sum.inr p.1.1,D.int (p.2.length:Nat))):=by
  intro l
  induction l with
  |nil=>intro b;rfl
  | cons a l d=>
    intro b
    cases b with
    |nil=>rfl
    | cons u b=>
      exact congr (congrArg List.cons rfl) (d b)
 rw[this]
 exact jc g _ []
def gq(t:Tr):dz (cJ σ w) s h (jx σ t)=dz w s h t:=by
 unfold dz
 split
 ·refine nj (λx=> ?_) (λx=>rfl) t
  unfold wO
  rw[AN,show(cJ σ w).ak=w.ak.map (iB σ) from rfl,show(wb σ (Fc w h)).1=(Fc w h).1.map (iB σ) from rfl,sF g,sF g,jc g,nK g]
 ·refine nj (λx=> ?_) (λx=> ?_) t
  ·unfold oY
   rw[qE,sF g,show(Sum.inr "given":Key)=A4 σ (.inr "given") by show _=Sum.inr (σ _);rw[g.gv],xb g,nK g]
   rw[show A4 σ (.inr "given")=(Sum.inr "given":Key) by show Sum.inr (σ _)=_;rw[g.gv]]
  ·unfold rh
   rw[BN g _ _ _ (kC _),nK g]
def jX(ns:List Str)(vs:List Int)(x:Str)(v:Int):cK (ns.map σ) vs (σ x) v=cK ns vs x v:=by unfold cK;rw[v8 g]
def AU{x:Str}{l:List Str}:σ x∈l.map σ↔x∈l:=by
 constructor
 ·intro h
  obtain⟨y,a,e⟩:=Qkq.mp h
  rw[←g.inj _ _ e]
  exact a
 ·intro h;exact Qkq.mpr ⟨x,h,rfl⟩
def xT(x:Str)(v:Int):pI (cJ σ w) s h (σ x) v=pI w s h x v:=by
 unfold pI
 split
 ·unfold ka
  rw[AN,show(cJ σ w).ak=w.ak.map (iB σ) from rfl,gV,show(wb σ (Fc w h)).1=(Fc w h).1.map (iB σ) from rfl,gV,jX g,jX g]
  by_cases c:x∈w.ak.map (·.1)
  ·rw[Qhq c,Qhq ((AU g).mpr c)]
  ·rw[Quq c,Quq λh=>c ((AU g).mp h)]
 ·rw[qE,gV,jX g]
def GH(r:Rw):iW (cJ σ w) s h (fO σ r)=iW w s h r:=by
 have a:(cJ σ w).ai.map (·.1)=(w.ai.map (·.1)).map σ:=gV _
 cases r with
 |put x t=>simp only[fO,iW];rw[gq g,xT g]
 |unl t n=>simp only[fO,iW];rw[gq g]
 |go n=>rfl
 |do_ d rn c t=>simp only[fO,iW];rw[B4,fW g,B1,Cp,fW g,gq g]
 | wait b t=>
   simp only[fO,iW,EN]
   rw[gq g,kC,gV,fW g,gQm]
   cases (pY w (gP s h).room.toNat).aa[bX ((pY w (gP s h).room.toNat).aa.map (·.1)) b]? <;>rfl
 |call b=>simp only[fO,iW];rw[kC,gV,fW g,y6]
 |all b=>simp only[fO,iW];rw[kC,gV,fW g]
 |tell t=>simp only[fO,iW];rw[gq g]
 |take p=>simp only[fO,iW];rw[a,fW g]
 |give p=>simp only[fO,iW];rw[a,fW g]
 |pass p q=>simp only[fO,iW];rw[a,fW g,fW g]
 |say t=>rfl
omit g in
def lD(f:bx):progOf (cJ σ w) h f=(progOf w h f).map (List.map (fO σ)):=by
 unfold progOf
 split
 ·unfold cJ
  rw[gQm]
  cases w.af[h]? <;>rfl
 ·split
  ·unfold cJ
   rw[gQm]
   cases w.aj[f.room.toNat]? with
   |none=>rfl
   | some r=>
     show Option.map _ ((r.ae.map (vb σ))[f.deed.toNat]?)=_
     rw[gQm]
     cases a:r.ae[f.deed.toNat]? <;>simp[a,vb]
  ·rfl
omit g in
def Fm:z4 (cJ σ w) s h=(z4 w s h).map (fO σ):=by
 unfold z4
 rw[lD]
 cases progOf w h (gP s h) with
 |none=>rfl
 |some a=>show(a.map (fO σ))[_]?=_;rw[gQm];rfl
def C_:vV (cJ σ w) s h=vV w s h:=by
 unfold vV
 rw[Fm]
 cases c:z4 w (yM s h) h with
 |none=>rfl
 | some r=>
   cases r with
   | do_ a rn b t=>
     cases a with
     |none=>rfl
     |some x=>exact xT g x _
   |_=>rfl
def Fz(r:Rw):BM (cJ σ w) s h (fO σ r)=BM w s h r:=by
 cases r with
 |say t=>simp only[fO,BM];rw[gq g]
 |_=>rfl
def uJ:eM (cJ σ w) s h=eM w s h:=by
 unfold eM
 rw[lD]
 split
 ·rfl
 ·cases progOf w h (gP s h) with
  |none=>rfl
  | some a=>
    simp only[Option.map_some,lQm,gQm]
    rw[C_ g]
    split
    · rfl
    · cases a[(gP s h).row.toNat]? with
      |none=>rfl
      |some r=>simp only[Option.map_some];rw[GH g,Fz g]
omit g in
def yr:jY (cJ σ w) s=jY w s:=by
 unfold jY sx
 congr 1
 funext k
 cases xZ s k with
 |none=>rfl
 | some f=>
   simp only
   rw[lD]
   cases progOf w k f <;>simp
omit g in
def zk:bo (cJ σ w)=bo w:=by
 have a:∀l:List (Str×Nat),dj (l.map (iB σ))=dj l:=λl=>by unfold dj;rw[QPq];rfl
 unfold bo cJ
 simp only[QPq,a]
 congr 1
 ·refine List.map_congr_left λr _=> ?_
  simp only[Function.comp,bZ,Cr,a,QPq]
  rfl
 ·refine List.map_congr_left λr _=> ?_
  simp only[Function.comp,wb,a]
end
end W28
namespace DL
open PySem PySem.Spec L2
theorem xM:∀{l m:List Int},l.Pairwise (·<·)->m.Pairwise (·<·)->(∀y,y∈l↔y∈m)->l=m
 | [],[],_,_,_=>rfl
 | [],b::m,_,_,h=>by have:=(h b).mpr (QBq ..);cases this
 |a::l,[],_,_,h=>by have:=(h a).mp (QBq ..);cases this
 | a::l,b::m,h1,h2,h=>by
   rw[List.pairwise_cons] at h1 h2
   have e:a=b:=by
     rcases Qsq.mp ((h a).mp (QBq ..)) with z|z
     · exact z
     · rcases Qsq.mp ((h b).mpr (QBq ..)) with d|d
       · exact d.symm
       · have:=h1.1 b d;have:=h2.1 a z;omega
   subst e
   rw[xM h1.2 h2.2 λy=>⟨λc=> ?_,λc=> ?_⟩]
   · rcases Qsq.mp ((h y).mp (Qpq _ c)) with z|z
     · subst z;have:=h1.1 y c;omega
     · exact z
   · rcases Qsq.mp ((h y).mpr (Qpq _ c)) with z|z
     · subst z;have:=h2.1 y c;omega
     · exact z
end DL
namespace W28
open PySem PySem.Spec L2 DL
def Nt(a b:bx):Decidable (a=b):=
 if h:a.row=b.row/\a.room=b.room/\a.deed=b.deed/\a.given=b.given/\a.told=b.told then .isTrue (by cases a;cases b;obtain⟨g,c,f,d,i⟩:=h;simp only at g c f d i;subst g c f d i;rfl) else .isFalse λe=>h (by subst e;exact⟨rfl,rfl,rfl,rfl,rfl⟩)
instance:DecidableEq bx:=Nt
def M5(a b:bJ):Decidable (a=b):=
 if h:a.within=b.within/\a.row=b.row/\a.ag=b.ag/\a.aa=b.aa/\a.vals=b.vals then .isTrue (by cases a;cases b;obtain⟨g,c,f,d,i⟩:=h;simp only at g c f d i;subst g c f d i;rfl) else .isFalse λe=>h (by subst e;exact⟨rfl,rfl,rfl,rfl,rfl⟩)
instance:DecidableEq bJ:=M5
def Nf(a b:aH):Decidable (a=b):=
 if h:a.af=b.af/\a.ai=b.ai/\a.aj=b.aj/\a.ak=b.ak then .isTrue (by cases a;cases b;obtain⟨g,c,f,d⟩:=h;simp only at g c f d;subst g c f d;rfl) else .isFalse λe=>h (by subst e;exact⟨rfl,rfl,rfl,rfl⟩)
instance:DecidableEq aH:=Nf
def Ea(w:bK)(s:aH):List aH:=(jY w s).map λh=>(eM w s h).1
def He(w:bK):Nat->List aH->List aH->List aH
 |0,l,_=>l
 |n+1,l,fr=>He w n (l++(fr.flatMap (Ea w)).eraseDups.filter λt=> !decide (t∈l)) ((fr.flatMap (Ea w)).eraseDups.filter λt=> !decide (t∈l))
def MX(w:bK)(l:List aH):Bool:=l.all λt=>(Ea w t).all λu=>decide (u∈l)
def Kj(w:bK):aH->List Nat->Option aH
 |s,[]=>some s
 |s,h::hs=>if h∈jY w s then Kj w (eM w s h).1 hs else none
def ER(w:bK)(fs:List aH):List Int:=((List.range w.af.length).filter λi:Nat=>fs.all λs=>decide ((i:Int)∈held s)).map λi:Nat=>(i:Int)
def Bt(w:bK)(r:List Nat×List Int):Bool:=match Kj w (bo w) r.1 with
 |none=>false
 |some s=>(λl=>MX w l&&decide (l.length<=400)&&decide (ER w l=r.2)) (He w 20 [s] [s])
section
variable{w:bK}{n h:Nat}{s:aH}
def Gd.stepR(o:cf w)(x:Gd w n s)(d:n<=800)(a:h∈jY w s):gI w s h (eM w s h).1 (eM w s h).2/\Gd w (n+1) (W28.eM w s h).1:=by
 obtain⟨q,e,i,g,_⟩:=x.next o d a
 have hl:h<s.af.length:=List.mem_range.mp (List.mem_filter.mp a).1
 obtain⟨⟨t,u⟩,c⟩:∃p,s.af[h]?=some p:=⟨_,gQe hl⟩
 obtain⟨v,l,m,j⟩:=x.1.whand c
 obtain⟨f,k,r⟩:=j.last
 have b:=(GC o x.1 d a c k).1
 have:=oJ b i
 rw[this]
 rw[this] at b
 exact⟨b,g⟩
def Gd.nxs(o:cf w)(x:Gd w n s)(c:n<=800){u:aH}(d:u∈Ea w s):Nx w s u/\Gd w (n+1) u:=by
 obtain⟨h,a,rfl⟩:=Qkq.mp d
 obtain⟨e,b⟩:=x.stepR o c a
 exact⟨⟨h,_,a,e⟩,b⟩
def Gd.nx'(o:cf w)(x:Gd w n s)(b:n<=800){u:aH}(c:Nx w s u):u∈W28.Ea w s:=by
 obtain⟨h,e,a,f⟩:=c
 obtain⟨d,g⟩:=x.stepR o b a
 rw[oJ f d]
 exact Qkq.mpr ⟨h,a,rfl⟩
theorem Es(o:cf w){s0:aH}:∀(k m:Nat) (l fr:List aH),m+k<=800->(∀t∈l,Rc w s0 t/\Gd w m t)->(∀t∈fr,Rc w s0 t/\Gd w m t)->∀t∈He w k l fr,Rc w s0 t/\Gd w (m+k) t
 |0,m,l,fr,_,h1,_,t,e=>h1 t e
 | k+1,m,l,fr,hm,h1,h2,t,e=>by
   have f:∀t∈((fr.flatMap (Ea w)).eraseDups.filter λt=> !decide (t∈l)),Rc w s0 t/\Gd w (m+1) t:=λt e=>by
     obtain⟨u,i,g⟩:=QOq.mp (List.mem_eraseDups.mp (List.mem_filter.mp e).1)
     obtain⟨a,b⟩:=h2 u i
     obtain⟨c,d⟩:=b.nxs o (by omega) g
     exact⟨.step a c,d⟩
   have:=Es o k (m+1) _ _ (by omega) (λt e=>by
     rcases mQa.mp e with e|e
     · exact⟨(h1 t e).1,(h1 t e).2.mono (by omega)⟩
     · exact f t e) f t e
   rw[show m+(k+1)=m+1+k by omega]
   exact this
theorem Br:∀(k:Nat) (l fr:List aH),∀t∈l,t∈He w k l fr
 |0,l,fr,t,ht=>ht
 |k+1,l,fr,t,ht=>Br k _ _ t (List.mem_append_left _ ht)
def Gp(o:cf w){s0:aH}{m:Nat}{l:List aH}(e:m<=800)(c:s0∈l)(d:∀t∈l,Gd w m t)(f:MX w l=true){t:aH}(h:Rc w s0 t):t∈l:=by
 induction h with
 |refl=>exact c
 |step _ b a=>exact QZq (QUq.mp (QUq.mp f _ a) _ ((d _ a).nx' o e b))
def IH{fs:List aH}{g:List Int}(x:Gd w n s)(f:Lo w s g)(e:g.Pairwise (·<·))(d:∀s'∈fs,Rc w s s')(b:∀s',Rc w s s'->s'∈fs):g=ER w fs:=by
 refine xM e ?_ λy=> ?_
 ·unfold ER
  rw[List.pairwise_map]
  exact((List.pairwise_lt_range).filter _).imp λh=>by omega
 ·unfold ER
  rw[f y,Qkq]
  constructor
  ·intro h
   obtain⟨i,c,hl⟩:=Q2.hv x.2 y (h s .refl)
   refine⟨i,List.mem_filter.mpr ⟨List.mem_range.mpr (by have:=x.1.lh;omega),QUq.mpr λs' a=>Qeq ?_⟩,c.symm⟩
   rw[←c]
   exact h s' (d s' a)
  ·rintro⟨i,c,rfl⟩ s' a
   exact QZq (QUq.mp (List.mem_filter.mp c).2 s' (b s' a))
theorem Ia(o:cf w):∀(e:List Nat) (tr:Fv) (m:Nat) (s':aH),m+e.length<=100->rp w tr->Gd w m (jg w tr)->Kj w (jg w tr) e=some s'->∃d,rp w d/\d.map (·.1)=tr.map (·.1)++e/\jg w d=s'/\Gd w (m+e.length) s'/\d.length=tr.length+e.length
 | [],tr,m,s',_,h1,h2,h3=>by
   cases h3
   exact⟨tr,h1,by simp,rfl,h2,rfl⟩
 | h::e,tr,m,s',hm,h1,h2,h3=>by
   rw[Qnq] at hm
   unfold Kj at h3
   split at h3
   · rename_i c
     obtain⟨a,b⟩:=h2.stepR o (by omega) c
     have ok:=h1.app (h2.1.mays o (by omega)) c a
     obtain⟨d,i,f,j,k,g⟩:=Ia o e _ (m+1) s' (by omega) ok (by rw[wJ];exact b) (by rw[wJ];exact h3)
     refine⟨d,i,by rw[f];simp,j,?_,by rw[g];simp;omega⟩
     rw[Qnq,show m+(e.length+1)=m+1+e.length by omega]
     exact k
   · cases h3
def FC(o:cf w):Gd w 1 (bo w):=⟨C5 o,pD.begun o⟩
def E3{r:List Nat×List Int}{F:de}{ds:List D}{S:aA}{Q:Res->aA->Prop}(o:cf w)(c:Bt w r=true)(hl:r.1.length<=20)(q:∀tr:Fv,rp w tr->tr.map (·.1)=r.1->tr.length<=20->(∀(S:aA) (Q:Res->aA->Prop),Q (.d (bM r.2)) S->Fn xn [w.d,(jg w tr).d,.int (400:Nat)] S Q)->Fn F ds S Q):Fn F ds S Q:=by
 unfold Bt at c
 split at c
 ·cases c
 ·rename_i s A
  simp only[QCq] at c
  obtain⟨⟨G,k⟩,j⟩:=c
  have k:=QZq k
  have j:=QZq j
  obtain⟨tr,C,v,B,H,x⟩:=Ia o r.1 [] 1 s (by omega) (λn h N e z=>by simp at z) (FC o) A
  refine q tr C (by rw[v];simp) (by rw[x];simpa using hl) λS Q q=> ?_
  rw[B]
  have f:Gd w 30 s:=H.mono (by omega)
  have l:=Es o (s0:=s) 20 30 [s] [s] (by omega) (λt a=>by rw[Qfq.mp a];exact⟨.refl,f⟩) (λt a=>by rw[Qfq.mp a];exact⟨.refl,f⟩)
  have b:∀t,Rc w s t->t∈He w 20 [s] [s]:=λt a=>Gp o (m:=30+20) (by omega) (Br 20 _ _ s (Qfq.mpr rfl)) (λt a=>(l t a).2) G a
  refine F3 o f (by omega) (by omega) (λg J u U M P=> ?_) λh=> ?_
  ·rw[IH f J u (λt a=>(l t a).1) b,j]
   exact q
  ·obtain⟨R,y,K,I⟩:=h
   have:=ST.m_ y (m:=He w 20 [s] [s]) λp i=>b p (I p i)
   omega
end
def Nr(r:List Nat×List Int):D:=.tup [.tup (r.1.map zD),bM r.2]
def GN(l:List Int)(h:l.length<=1000):Pl 10 (bM l):=by
 refine⟨by rw[lQm];exact h,λd a=> ?_⟩
 obtain⟨i,_,rfl⟩:=Qkq.mp a
 trivial
def iK{w:bK}{i:Nat}{rows:List (List Nat×List Int)}{S:aA}{Q:Res->aA->Prop}(o:cf w)(l:S[i]?=some (.lst (rows.map Nr)))(p:∀r∈rows,Bt w r=true)(hl:∀r∈rows,r.1.length<=20/\r.2.length<=20)(q:Q (.d (.bl true)) S):Fn bH [w.d,.ref i] S Q:=by
 refine bF ?_
 unfold jI
 refine aP (o8 (tP (jT (aL rfl (fw l ?_)))))
 refine⟨λj e g=>(∃a b,e= [some w.d,some (.ref i),a,b])/\g=S,⟨⟨_,_,rfl⟩,rfl⟩,λ_ _ _ h=>by rw[h.2];exact l,?_,?_⟩
 ·rintro j d e g m ⟨⟨a,b,rfl⟩,rfl⟩
  rw[gQm] at m
  obtain⟨r,f,rfl⟩:=oQm.mp m
  have f:=mQg f
  refine eD rfl (ax (aQ (ax (aQ (bc ?_)))))
  refine eC (vX (uz (gK (aZ (gK (aZ (aL rfl (aZ (jy (gK (aZ (aL rfl (aZ (aL rfl (eJ ?_)))))))))))))))
  refine E3 o (p r f) (hl r f).1 λt s u v n=> ?_
  rw[←u]
  refine CW o s (by omega) ?_
  refine sW (aw (d:=(jg w t).d) rfl ?_)
  refine aZ (sW (eJ ?_))
  refine n _ _ ?_
  refine aZ (aL rfl (eJ ?_))
  refine A9 10 (bM r.2) (GN _ (by have:=(hl r f).2;omega)) ?_
  refine lz ?_
  refine bf (λc=>by cases c) (λ_=>cB ?_)
  exact⟨⟨_,_,rfl⟩,rfl⟩
 ·rintro e g ⟨⟨a,b,rfl⟩,rfl⟩
  refine jn (sW ?_)
  exact bP (λk z=>(nomatch z)) rfl q
def Ds:List Str->List Str->Str->Str
 |k::ks,v::vs,x=>if x=k then v else Ds ks vs x
 |_,_,x=>"999999999" ++x
def HC(a b:Str):(a++b).length=a.length+b.length:=by show(a.cps++b.cps).size=_;rw[Array.size_append];rfl
def AH(d:Str):∀a b:Str,d++a=d++b->a=b:=by
 intro a b h
 have f:(d++a).cps.toList=(d++b).cps.toList:=by rw[h]
 have e:∀c:Str,(d++c).cps.toList=d.cps.toList++c.cps.toList:=λc=>by
  show(d.cps++c.cps).toList=_
  simp
 rw[e,e] at f
 exact Str.ext' (Array.toList_inj.mp (List.append_cancel_left f))
def Ah(x:Str):9<=("999999999" ++x).length:=by
 rw[HC]
 have:("999999999":Str).length=9:=by decide +kernel
 omega
theorem BE:∀(a vs:List Str) (x:Str),Ds a vs x∈vs\/9<=(Ds a vs x).length
 | [],_,x=>.inr (Ah x)
 |_::_,[],x=>.inr (Ah x)
 | k::a,v::vs,x=>by
   unfold Ds
   split
   · exact .inl (QBq ..)
   · rcases BE a vs x with h|h
     · exact .inl (Qpq _ h)
     · exact .inr h
theorem A1:∀(a vs:List Str),vs.Nodup->(∀v∈vs,v.length<=8)->∀x y,Ds a vs x=Ds a vs y->x=y
 | [],_,_,_,x,y,e=>AH _ _ _ e
 |_::_,[],_,_,x,y,e=>AH _ _ _ e
 | k::a,v::vs,nd,hl,x,y,e=>by
   rw[List.nodup_cons] at nd
   have d:∀z,Ds a vs z≠v:=λz e=>by
     rcases BE a vs z with h|h
     · rw[e] at h;exact nd.1 h
     · rw[e] at h;have:=hl v (QBq ..);omega
   unfold Ds at e
   by_cases c:x=k <;>by_cases b:y=k
   · rw[c,b]
   · rw[Qhq c,Quq b] at e;exact absurd e.symm (d y)
   · rw[Quq c,Qhq b] at e;exact absurd e (d x)
   · rw[Quq c,Quq b] at e;exact A1 a vs nd.2 (λv f=>hl v (Qpq _ f)) x y e
section
variable{σ:Str->Str}(g:Sg σ){w:bK}{s:aH}
include g
def Av:Ea (cJ σ w) s=Ea w s:=by
 unfold Ea
 rw[yr]
 congr 1
 funext h
 rw[uJ g]
theorem BG:∀(k:Nat) (l fr:List aH),He (cJ σ w) k l fr=He w k l fr
 |0,_,_=>rfl
 | k+1,l,fr=>by
   unfold He
   rw[show Ea (cJ σ w)=Ea w from funext λs=>Av g,BG k]
theorem Aw:∀(a:List Nat) (s:aH),Kj (cJ σ w) s a=Kj w s a
 | [],_=>rfl
 | h::a,s=>by
   unfold Kj
   rw[yr,uJ g,Aw a]
def GJ(r:List Nat×List Int):Bt (cJ σ w) r=Bt w r:=by
 unfold Bt
 rw[Aw g,zk]
 split
 ·rfl
 ·simp only[BG g,MX,Av g]
  unfold ER
  rw[show(cJ σ w).af.length=w.af.length by unfold cJ;rw[lQm]]
end
def dy(m e:Str)(pr:List Rw)(a b c d:Str):bK:=⟨[⟨a,m,[],[(b,e)],[(c,[.wait b (.num 4)]),(d,pr)]⟩],[],[],[([],[.do_ none a c (.num 0)]),([],[.do_ none a d (.num 0)])]⟩
def jw(m a c d:Str):bK:=⟨[⟨a,m,[],[],[(c,[.do_ none a d (.num 0)]),(d,[.tell (.num 1)])]⟩],[],[],[([],[.do_ none a c (.num 0)]),([],[.do_ none a d (.num 0)])]⟩
def dJ(a:List Rw)(p q:Str):bK:=⟨[],[(p,1),(q,0)],[],[([],[.take p,.take p]),([],a),([],[.go 0])]⟩
def Bi(g:List Int):List (List Nat×List Int):= [([],[]),([0],[]),([0,0],g),([0,0,1],g),([1],[]),([1,1],[]),([1,1,1],[]),([1,1,1,0],[]),([1,1,1,0,0],[0]),([0,0,1,1],g)]
def Ib:List (List Nat×List Int):= [([],[]),([0],[]),([0,0],[0]),([0,0,1],[0,1]),([1,1],[]),([1,1,1,0,0],[0])]
def um(g:List Int):List (List Nat×List Int):= [([],[]),([0],[]),([0,0],g),([2,2,0,0,2],g),([0,0,1],g),([1,0,0],g)]
def xD:∀m∈(["at once","when free"]:List Str),∀a∈(["row","turns"]:List Str),(Bi [0]).all (Bt (dy m a [.tell (.num 1)] "a" "b" "c" "d"))=true/\(Bi []).all (Bt (dy m a [.call "b"] "a" "b" "c" "d"))=true:=by decide +kernel
def G8:∀m∈(["at once","when free"]:List Str),Ib.all (Bt (jw m "a" "c" "d"))=true:=by decide +kernel
def qA:(um [0]).all (Bt (dJ [.give "b"] "a" "b"))=true/\(um []).all (Bt (dJ [.give "a"] "a" "b"))=true/\(um []).all (Bt (dJ [.give "a",.give "a"] "a" "b"))=true:=by decide +kernel
def Bc{m e a b c d:Str}{pr:List Rw}(i:m="at once" \/m="when free")(f:e="row" \/e="turns")(h:pr= [.tell (.num 1)]\/pr= [.call b]):cf (dy m e pr a b c d):=by
 refine⟨by simp[dy],by simp[dy],by simp[dy],by simp[dy],by simp[dy],by simp[dy],by simp[dy],by simp[dy],?_,?_⟩
 ·intro r g
  obtain rfl:r=⟨a,m,[],[(b,e)],[(c,[.wait b (.num 4)]),(d,pr)]⟩:=by simpa [dy] using g
  refine⟨i,by simp,by simp,by simp,by simp,by simpa using f,?_⟩
  rcases h with rfl|rfl <;>simp[dy,bS,si,Rw.Ok,zH,Tr.Ok,Tr.dep]
 ·simp[dy,bS,si,Rw.Ok,zH,Tr.Ok,Tr.dep]
  constructor <;>constructor <;>simp[dy,bS,si,Rw.Ok,zH,Tr.Ok,Tr.dep]
def Kn{m a c d:Str}(e:m="at once" \/m="when free"):cf (jw m a c d):=by
 refine⟨by simp[jw],by simp[jw],by simp[jw],by simp[jw],by simp[jw],by simp[jw],by simp[jw],by simp[jw],?_,?_⟩
 ·intro r b
  obtain rfl:r=⟨a,m,[],[],[(c,[.do_ none a d (.num 0)]),(d,[.tell (.num 1)])]⟩:=by simpa [jw] using b
  refine⟨e,by simp,by simp,by simp,by simp,by simp,?_⟩
  simp[jw,bS,si,Rw.Ok,zH,Tr.Ok,Tr.dep]
 ·simp[jw,bS,si,Rw.Ok,zH,Tr.Ok,Tr.dep]
  constructor <;>constructor <;>simp[jw,bS,si,Rw.Ok,zH,Tr.Ok,Tr.dep]
def vB{p q:Str}{a:List Rw}(b:a= [.give q]\/a= [.give p]\/a= [.give p,.give p]):cf (dJ a p q):=by
 refine⟨by simp[dJ],by simp[dJ],by simp[dJ],by simp[dJ],by simp[dJ],by simp[dJ],by simp[dJ],by simp[dJ],?_,?_⟩
 ·simp[dJ]
 ·rcases b with rfl|rfl|rfl <;>simp[dJ,bS,si,Rw.Ok,zH,Tr.Ok,Tr.dep] <;>refine⟨?_,?_,?_⟩ <;>constructor <;>simp[dJ,bS,si,Rw.Ok,zH,Tr.Ok,Tr.dep]
def kn{a:Str->Str}(g:Sg a){w:bK}{rows:List (List Nat×List Int)}(h:rows.all (Bt w)=true):∀r∈rows,Bt (cJ a w) r=true:=λr b=>by rw[GJ g];exact QUq.mp h r b
def fF{n:Nat}(h:Nat.ble n 100=true):n<=sizeLine:=QAq (Nat.le_of_ble_eq_true h) (by decide)
def E9{n:Nat}(h:Nat.ble n 99=true):n<sizeLine:=Nat.lt_of_le_of_lt (Nat.le_of_ble_eq_true h) (by decide)
def EA{S:aA}{ds:List D}{n:Nat}{Q:D->Prop}(a:ds≠[])(b:ds.length*n<=sizeLine)(c:n<1000)(q:Q (.tup (List.replicate n ds).flatten)):Op (wQ S (.tup ds) (.int n)) Q:=⟨_,by simp only[wQ];rw[Qhq ⟨by omega,by omega,a,by simpa using b⟩];simp,q⟩
def dH{S:aA}{i j:Nat}{ws:List Str}{x:Str}{Q:D->Prop}(b:S[i]?=some (.lst (ws.map D.str)))(a:ws[j]?=some x)(q:Q (.str x)):Op (sA S (.ref i) (.int j)) Q:=bR b (aC (by rw[gQm,a];rfl)) q
def u9{x:Str}(h:wY x):x.length<=8:=by
 obtain⟨i,j,b,a,rfl⟩:=h
 exact(yq i b j a).2.1
def mZ{x:Str}(h:wY x):x≠"given":=by
 obtain⟨i,j,b,a,rfl⟩:=h
 exact(by decide +kernel:∀i,i<26->∀j,j<4->nm i j≠"given") i b j a
def C8(a b c d:Str):Str->Str:=Ds ["a","b","c","d","given"] [a,b,c,d,"given"]
def zB{a b c d:Str}{l:List Str}(nd:(a::b::c::d::l).Nodup)(ok:∀x∈a::b::c::d::l,wY x):Sg (C8 a b c d):=by
 have g:=ok a (by simp)
 have e:=ok b (by simp)
 have i:=ok c (by simp)
 have f:=ok d (by simp)
 have m:=mZ g
 have k:=mZ e
 have j:=mZ i
 have n:=mZ f
 refine⟨A1 _ _ ?_ ?_,?_⟩
 ·simp only[List.nodup_cons,Qsq,not_or] at nd
  simp[nd,m,k,j,n]
 ·intro v h
  simp only[Qsq,QXq,or_false] at h
  rcases h with rfl|rfl|rfl|rfl|rfl
  ·exact u9 g
  ·exact u9 e
  ·exact u9 i
  ·exact u9 f
  ·decide +kernel
 ·unfold C8
  simp only[Ds]
  rw[Quq (by decide +kernel),Quq (by decide +kernel),Quq (by decide +kernel),Quq (by decide +kernel),Qhq trivial]
def lZ(a b c d:Str):C8 a b c d "a"=a/\C8 a b c d "b"=b/\C8 a b c d "c"=c/\C8 a b c d "d"=d:=by
 unfold C8
 simp only[Ds]
 rw[Qhq trivial,Quq (by decide +kernel),Qhq trivial,Quq (by decide +kernel),Quq (by decide +kernel),Qhq trivial,Quq (by decide +kernel),Quq (by decide +kernel),Quq (by decide +kernel),Qhq trivial]
 exact⟨rfl,rfl,rfl,rfl⟩
def Eb{m e a b c d:Str}:cJ (C8 a b c d) (dy m e [.tell (.num 1)] "a" "b" "c" "d")=dy m e [.tell (.num 1)] a b c d:=by
 obtain⟨i,f,h,g⟩:=lZ a b c d
 simp only[cJ,dy,Cr,wb,iB,vb,fO,jx,List.map,i,f,h,g,Option.map]
def Cj{m e a b c d:Str}:cJ (C8 a b c d) (dy m e [.call "b"] "a" "b" "c" "d")=dy m e [.call b] a b c d:=by
 obtain⟨i,f,h,g⟩:=lZ a b c d
 simp only[cJ,dy,Cr,wb,iB,vb,fO,jx,List.map,i,f,h,g,Option.map]
def F_{m a b c d:Str}:cJ (C8 a b c d) (jw m "a" "c" "d")=jw m a c d:=by
 obtain⟨h,e,g,f⟩:=lZ a b c d
 simp only[cJ,jw,Cr,wb,iB,vb,fO,jx,List.map,h,e,g,f,Option.map]
def rO{a b c d:Str}{e:List Rw}:cJ (C8 a b c d) (dJ e "a" "b")=dJ (e.map (fO (C8 a b c d))) a b:=by
 obtain⟨i,f,h,g⟩:=lZ a b c d
 simp only[cJ,dJ,Cr,wb,iB,vb,fO,jx,List.map,i,f,h,g,Option.map]
section
variable{S S0:aA}{Q:Res->aA->Prop}{k i:Nat}{a b c d:Str}{l:List Str}
def Hi(x:Ex k S0 S)(hi:i≠k)(Y:S[i]?=some (.lst ((a::b::c::d::l).map D.str)))(nd:(a::b::c::d::l).Nodup)(ok:∀x∈a::b::c::d::l,wY x)(q:∀h,Ex k S0 h->Q (.d (.bl true)) h):Fn dC [.ref k,.ref i] S Q:=by
 have y:Ex k S S:=by obtain⟨a,b,c,hh⟩:=x.pot;exact Ex.refl hh
 have I:=x.lt
 have X:=zB nd ok
 have t:∀h,Ex k S h->Op (settle S (.bl true) h) λp=>Q p.1 p.2:=λh e=>DE e I (λk z=>(nomatch z)) rfl λa b c=>q _ x.set
 refine bF ?_
 unfold fj
 refine aP (fV (Ar (n:=2) (xs:= [.str "at once",.str "when free"]) rfl y (by decide) (by decide) rfl (by symm;exact⟨rfl,rfl⟩) λdm S1 U Z _ l1=> ?_))
 obtain⟨m,A,s,rfl⟩:∃m:Str,m∈(["at once","when free"]:List Str)/\(m="at once" \/m="when free")/\dm=.str m:=by
  simp only[Qsq,QXq,or_false] at U
  rcases U with rfl|rfl
  ·exact⟨_,by simp,.inl rfl,rfl⟩
  ·exact⟨_,by simp,.inr rfl,rfl⟩
 refine aP (fV (gK (aZ (aL rfl (aZ (sW (eJ ?_)))))))
 refine kB Z (by decide) (by decide) λH S2 W G _ l2=> ?_
 have f:=G.keep _ _ hi Y
 have W:(H:Int)<2:=W
 have P:(a::b::c::d::l)[0]?=some a:=rfl
 have K:(a::b::c::d::l)[1]?=some b:=rfl
 have J:(a::b::c::d::l)[2]?=some c:=rfl
 have N:(a::b::c::d::l)[3]?=some d:=rfl
 obtain rfl|rfl:H=0\/H=1:=by omega
 all_goals
  apply aP (fV ?_)
  repeat (first|(refine dH f P ?_;symm)|(refine dH f K ?_;symm)|(refine dH f J ?_;symm)|(refine dH f N ?_;symm)|(refine bR aI (aC (j:=0) rfl) ?_;symm)|(refine bR aI (aC (j:=1) rfl) ?_;symm)|(refine⟨fF rfl,?_⟩;symm))
  repeat (first|(refine dH (bE f) P ?_;symm)|(refine dH (bE f) K ?_;symm)|(refine dH (bE f) J ?_;symm)|(refine dH (bE f) N ?_;symm)|(refine bR aI (aC (j:=0) rfl) ?_;symm)|(refine bR aI (aC (j:=1) rfl) ?_;symm)|(refine⟨fF rfl,?_⟩;symm))
  refine kB G.app.app (by decide) (by decide) λF S3 v B u l3=> ?_
  have C:=u.keep _ _ hi (bE (bE f))
  have a0:=G.lt
  obtain⟨g,o,w,R⟩:∃g:Str,g∈(["row","turns"]:List Str)/\(g="row" \/g="turns")/\([.str "row",.str "turns"]:List D)[F]?=some (.str g):=by
   have v:(F:Int)<2:=v
   obtain rfl|rfl:F=0\/F=1:=by omega
   ·exact⟨_,by simp,.inl rfl,rfl⟩
   ·exact⟨_,by simp,.inr rfl,rfl⟩
  refine bR (u.keep _ _ (by simp;omega) aI) (aC R) ?_
  symm
  repeat (first|(refine dH C P ?_;symm)|(refine dH C K ?_;symm)|(refine dH C J ?_;symm)|(refine dH C N ?_;symm)|(refine bR aI (aC (j:=0) rfl) ?_;symm)|(refine bR aI (aC (j:=1) rfl) ?_;symm)|(refine⟨fF rfl,?_⟩;symm))
  apply HJ ?_
  apply fw aI ?_
  repeat (refine⟨fF rfl,?_⟩;symm)
  apply⟨⟨rfl,rfl,aI,fF rfl⟩,?_⟩
  apply Ep (aL rfl ⟨_,_,rfl,aI,?_⟩)
  repeat (first|(refine bR aI (aC (j:=0) rfl) ?_;symm)|(refine bR aI (aC (j:=1) rfl) ?_;symm)|(refine⟨fF rfl,?_⟩;symm))
  apply⟨_,bE aI,uQ (E9 rfl) ?_⟩
 ·show Fn bH [(dy m g [.tell (.num 1)] a b c d).d,_] _ _
  refine iK (rows:=Bi [0]) (Bc s w (.inl rfl)) (eO (bE aI)) (λr M=> ?_) (by decide) (t _ ?_)
  ·rw[←Eb]
   exact kn X (xD m A g o).1 r M
  ·exact B.app.app.app.app.app.put (by have:=B.len;simp;omega) I
 ·show Fn bH [(dy m g [.call b] a b c d).d,_] _ _
  refine iK (rows:=Bi []) (Bc s w (.inr rfl)) (eO (bE aI)) (λr M=> ?_) (by decide) (t _ ?_)
  ·rw[←Cj]
   exact kn X (xD m A g o).2 r M
  ·exact B.app.app.app.app.app.put (by have:=B.len;simp;omega) I
def Kc(x:Ex k S0 S)(hi:i≠k)(g:S[i]?=some (.lst ((a::b::c::d::l).map D.str)))(nd:(a::b::c::d::l).Nodup)(ok:∀x∈a::b::c::d::l,wY x)(q:∀f,Ex k S0 f->Q (.d (.bl true)) f):Fn cI [.ref k,.ref i] S Q:=by
 have y:Ex k S S:=by obtain⟨a,b,c,K⟩:=x.pot;exact Ex.refl K
 have G:=x.lt
 have J:=zB nd ok
 have u:∀f,Ex k S f->Op (settle S (.bl true) f) λp=>Q p.1 p.2:=λf e=>DE e G (λk z=>(nomatch z)) rfl λa b c=>q _ x.set
 have F:(a::b::c::d::l)[0]?=some a:=rfl
 have B:(a::b::c::d::l)[1]?=some b:=rfl
 have A:(a::b::c::d::l)[2]?=some c:=rfl
 have C:(a::b::c::d::l)[3]?=some d:=rfl
 refine bF ?_
 unfold dw
 apply aP (fV ?_)
 repeat (first|(refine dH g F ?_;symm)|(refine dH g B ?_;symm)|(refine dH g A ?_;symm)|(refine dH g C ?_;symm)|(refine⟨fF rfl,?_⟩;symm))
 refine kB y.app (by decide) (by decide) λs M j H h N=> ?_
 have n:=h.keep _ _ hi (bE g)
 obtain⟨m,t,v,w⟩:∃o:Str,o∈(["at once","when free"]:List Str)/\(o="at once" \/o="when free")/\([.str "at once",.str "when free"]:List D)[s]?=some (.str o):=by
  have j:(s:Int)<2:=j
  obtain rfl|rfl:s=0\/s=1:=by omega
  ·exact⟨_,by simp,.inl rfl,rfl⟩
  ·exact⟨_,by simp,.inr rfl,rfl⟩
 apply bR (h.keep _ _ (by omega) aI) (aC w) ?_
 repeat (first|(refine dH n F ?_;symm)|(refine dH n B ?_;symm)|(refine dH n A ?_;symm)|(refine dH n C ?_;symm)|(refine⟨fF rfl,?_⟩;symm))
 show Fn bH [(jw m a c d).d,_] _ _
 refine iK (rows:=Ib) (Kn v) aI (λr I=> ?_) (by decide) (u _ H.app)
 rw[←F_ (b:=b)]
 exact kn J (G8 m t) r I
def Hb(x:Ex k S0 S)(hi:i≠k)(w:S[i]?=some (.lst ((a::b::c::d::l).map D.str)))(nd:(a::b::c::d::l).Nodup)(ok:∀x∈a::b::c::d::l,wY x)(q:∀m,Ex k S0 m->Q (.d (.bl true)) m):Fn dE [.ref k,.ref i] S Q:=by
 have y:Ex k S S:=by obtain⟨a,b,c,B⟩:=x.pot;exact Ex.refl B
 have g:=x.lt
 have t:=zB nd ok
 have h:∀m,Ex k S m->Op (settle S (.bl true) m) λp=>Q p.1 p.2:=λm e=>DE e g (λk z=>(nomatch z)) rfl λa b c=>q _ x.set
 have C:(a::b::c::d::l)[0]?=some a:=rfl
 have A:(a::b::c::d::l)[1]?=some b:=rfl
 refine bF ?_
 unfold fc
 refine aP (fV (gK (aZ (aL rfl (aZ (sW (eJ ?_)))))))
 refine kB y (by decide) (by decide) λs F v f _ G=> ?_
 have u:=f.keep _ _ hi w
 have v:(s:Int)<3:=v
 apply aP (L7 ?_)
 apply dH u C ?_
 apply dH u A ?_
 apply⟨_,_,rfl,?_⟩
 obtain rfl|rfl|rfl:s=0\/s=1\/s=2:=by omega
 all_goals
  repeat (first|(refine bR aI (aC (j:=0) rfl) ?_;symm)|(refine bR aI (aC (j:=1) rfl) ?_;symm)|(refine bR aI (aC (j:=2) rfl) ?_;symm)|(refine⟨fF rfl,?_⟩;symm))
  refine Ij ?_
  first|rw[Quq (by decide)]|rw[Qhq (by decide)]
  symm
  first|refine EA (n:=1) (by simp) (fF rfl) (by decide) ?_|refine EA (n:=2) (by simp) (fF rfl) (by decide) ?_
  symm
  repeat (refine⟨fF rfl,?_⟩;symm)
  apply HJ ?_
  apply fw aI ?_
  repeat (refine⟨fF rfl,?_⟩;symm)
  apply⟨⟨rfl,rfl,aI,fF rfl⟩,?_⟩
  repeat (first|(refine bR aI (aC (j:=0) rfl) ?_;symm)|(refine bR aI (aC (j:=1) rfl) ?_;symm)|(refine bR aI (aC (j:=2) rfl) ?_;symm)|(refine⟨fF rfl,?_⟩;symm))
  apply Ep (aL rfl ⟨_,_,rfl,aI,?_⟩)
  repeat (first|(refine bR aI (aC (j:=0) rfl) ?_;symm)|(refine bR aI (aC (j:=1) rfl) ?_;symm)|(refine bR aI (aC (j:=2) rfl) ?_;symm)|(refine⟨fF rfl,?_⟩;symm))
  apply⟨_,bE aI,uQ (E9 rfl) ?_⟩
  apply Ep (aL rfl ⟨_,_,rfl,eO (bE aI),?_⟩)
  repeat (first|(refine bR aI (aC (j:=0) rfl) ?_;symm)|(refine bR aI (aC (j:=1) rfl) ?_;symm)|(refine bR aI (aC (j:=2) rfl) ?_;symm)|(refine⟨fF rfl,?_⟩;symm))
  apply⟨_,bE (eO (bE aI)),uQ (E9 rfl) ?_⟩
 ·show Fn bH [(dJ [.give b] a b).d,_] _ _
  refine iK (rows:=um [0]) (vB (.inl rfl)) (eO (bE (eO (bE aI)))) (λr o=> ?_) (by decide) (h _ ?_)
  ·have:=kn t qA.1 r o
   rw[rO] at this
   simpa only[List.map,fO,(lZ a b c d).2.1] using this
  ·exact((f.app.app.app.app.app.app).put (by have:=f.len;simp;omega) g).app.put (by have:=f.len;simp;omega) g
 ·show Fn bH [(dJ [.give a] a b).d,_] _ _
  refine iK (rows:=um []) (vB (.inr (.inl rfl))) (eO (bE (eO (bE aI)))) (λr o=> ?_) (by decide) (h _ ?_)
  ·have:=kn t qA.2.1 r o
   rw[rO] at this
   simpa only[List.map,fO,(lZ a b c d).1] using this
  ·exact((f.app.app.app.app.app.app).put (by have:=f.len;simp;omega) g).app.put (by have:=f.len;simp;omega) g
 ·show Fn bH [(dJ [.give a,.give a] a b).d,_] _ _
  refine iK (rows:=um []) (vB (.inr (.inr rfl))) (eO (bE (eO (bE aI)))) (λr o=> ?_) (by decide) (h _ ?_)
  ·have:=kn t qA.2.2 r o
   rw[rO] at this
   simpa only[List.map,fO,(lZ a b c d).1] using this
  ·exact((f.app.app.app.app.app.app).put (by have:=f.len;simp;omega) g).app.put (by have:=f.len;simp;omega) g
end
def Ew:∀ns:List Int,ns.length<=63->∃g,Gc [.ref 0] [.frz (ns.map D.int)]=some (.d (.bl true),g):=by
 intro ns K
 suffices h:Fn Gc [.ref 0] [.frz (ns.map D.int)] λr _=>r=.d (.bl true) by
  obtain⟨r,g,e,rfl⟩:=h
  exact⟨g,e⟩
 refine bF ?_
 unfold J3
 refine aP (o8 ?_)
 apply HV ?_
 apply EH rfl ?_
 refine Ez ?_
 refine L4 ?_
 obtain⟨m,C,J⟩:∃m:Nat,(1:Int)+(if (((ns.map D.int).length:Nat):Int)<6 then(((ns.map D.int).length:Nat):Int) else 6)=(m:Int)/\m<=7:=by
  refine⟨((1:Int)+(if (((ns.map D.int).length:Nat):Int)<6 then(((ns.map D.int).length:Nat):Int) else 6)).toNat,?_,?_⟩ <;>(repeat' split) <;>omega
 refine⟨m,congrArg D.int C,by omega,?_⟩
 refine⟨λn i g=>(∃t v s,i= [some (.ref 0),t,v,s])/\g[0]?=some (.frz (ns.map D.int)),⟨⟨_,_,_,rfl⟩,rfl⟩,λ_ _ _ _=>trivial,?_,?_⟩
 ·rintro n d i S F ⟨⟨t,v,s,rfl⟩,hS⟩
  obtain⟨rfl,hn7⟩:=Ee F
  apply aQ ?_
  apply Js (by omega) hS λp pb=> ?_
  have f:Ex S.length (S++ [m6 p pb 0]) (S++ [m6 p pb 0]):=Ex.refl aI
  have j:(S++ [m6 p pb 0])[0]?=some (.frz (ns.map D.int)):=bE hS
  have y:0≠S.length:=by
   have:=(gQs.mp hS).1
   omega
  show Fn fH [.ref S.length,.int (8:Nat)] (S++ [m6 p pb 0]) _
  generalize S.length=kp at f y⊢
  generalize S++ [m6 p pb 0]=S1 at f j⊢
  refine DF f (by decide) λB S2 u _ hl ok x2 _ _=> ?_
  obtain⟨a,b,c,d,l,rfl⟩:∃a b c d l,B=a::b::c::d::l:=by
   match B,hl with
   |a::b::c::d::l,_=>exact⟨a,b,c,d,l,rfl⟩
  have q:S2.length≠kp:=by have:=x2.lt;omega
  refine aP (eC (HK (vX (uz (gK (aZ (aL rfl (aZ (aL rfl (eJ ?_))))))))))
  have H:Ex kp (S2++ [O.lst ((a::b::c::d::l).map D.str)]) (S2++ [O.lst ((a::b::c::d::l).map D.str)]):=by obtain⟨_,_,_,M⟩:=(x2.app (G:= [O.lst ((a::b::c::d::l).map D.str)])).pot;exact Ex.refl M
  refine Hi H q aI u ok λP w=>lz ?_
  refine bf (λc=>by cases c) (λ_=> ?_)
  refine vX (uz (gK (aZ (aL rfl (aZ (aL rfl (eJ ?_)))))))
  refine Kc w q (w.keep _ _ q aI) u ok λQ A=>lz ?_
  refine bf (λc=>by cases c) (λ_=>cB ?_)
  refine eC (vX (uz (gK (aZ (aL rfl (aZ (aL rfl (eJ ?_))))))))
  refine Hb A q (A.keep _ _ q aI) u ok λN I=>lz ?_
  refine bf (λc=>by cases c) (λ_=>cB ?_)
  exact⟨⟨_,_,_,rfl⟩,(x2.app.trans I).keep _ _ y j⟩
 ·rintro i g ⟨⟨t,v,s,rfl⟩,hS⟩
  symm
  have hl:=(gQs.mp hS).1
  refine gw (S2:= [.frz (ns.map D.int)]) ⟨by show 1<=g.length;omega,λk o x e=> ?_⟩ ?_ (λk z=>(nomatch z)) rfl rfl
  ·have x:k<1:=x
   have:k=0:=by omega
   subst this
   rw[hS] at e
   exact .inl e
  ·cases g with
   |nil=>simp at hl
   | cons a l=>
     simp at hS
     subst hS
     rfl
end W28
open PySem PySem.W PyProof.Rows L2 DL
theorem PySem.Challenge.cw_calledroom_k44_lost_known_by_hand_holds : PySem.Challenge.rw_calledroom_k44_lost_known_by_hand.Holds := by
  w_on; o_law; k_head; (case hw => w_witness2)
  k_fill
  refine DL.wK (l := PySem.Challenge.rw_calledroom_k44_lost_known_by_hand) (k := 17) rfl rfl ⟨rfl, by decide, by decide⟩ (λw h Y => PySem.W.kIn_of Y) (λw => ?nl) ?F
  case nl => rfl
  case F =>
    intro w mg fa h KX G hmg
    refine' W28.all_mk KX G hmg ?_ ?_ ?_ ?_ ?_ ?_ ?_ ?_ ?_ ?_ ?_ ?_ ?_ ?_ ?_ ?_ ?_ ?_ ?_ ?_ ?_ ?_ ?_ ?_ ?_ ?_ ?_ ?_ ?_ ?_ ?_ ?_ ?_ ?_ ?_ ?_ ?_ ?_ ?_ ?_ ?_ ?_ ?_ ?_ ?_ ?_ ?_ ?_ ?_ ?_ ?_ ?_ ?_ ?_ ?_ ?_ ?_ ?_ ?_ ?_ ?_ ?_ ?_ ?_ ?_ ?_ ?_ ?_ ?_ ?_ ?_ ?_ ?_ ?_ ?_ ?_ ?_ ?_ ?_ ?_ ?_ W28.Ew
    any_goals first | exact DL.aR.of (by k_is) (by k_is) (by k_is) (by k_is) | k_is
