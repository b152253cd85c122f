import PyProof.Rows.All
import Wide.All
import OpenK.AllK
import Wide.FinOn
import Lean
import PyProof.EqAt
import PyProof.EqKinds
import PyProof.TupleCall
import PyProof.NeKinds
import PyProof.ListRange
import PyProof.ConsumeWalk
import PyProof.StrWalks
import PyProof.Rows.StrJoin2
import PyProof.Rows.SetFrom
import PyProof.SetNew
import PyProof.DictUpdate
import PyProof.FactsAll.dict_0
import PyProof.FactsAll.dict_1
import PyProof.FactsAll.dict_2
import PyProof.FactsAll.dict_3
import PyProof.FactsAll.dict_4
import PyProof.AttrMissSeq
import PyProof.AttrMissHeap
import KE.KEqDict
import PyProof.TupleKey
import PyProof.SetRoads
import PyProof.SetScanFacts
import PyProof.ForWalkI
import PyProof.FactsAll.set_0
import PyProof.FactsAll.set_1
import PyProof.FactsAll.set_2
import PyProof.CollectWalk
import PyProof.Rows.SortStr
import PyProof.Rows.SortShellK
import PyProof.ZipIter
import KE.KSortTup
import PyProof.ReprRoads
import PyProof.StrLawsRepr
import PyProof.CallFns
import PyProof.FactsAll.zip
import PyProof.DictCompW
import PyProof.EnumFor
import PyProof.EnumStmt
import PyProof.Draws
import PyProof.P3Eq
import PyProof.NeData
import PySem.Challenge.RW_calledroom_k17_called_otherwise
set_option Elab.async false
set_option linter.all false
set_option compiler.extract_closed false
set_option maxRecDepth 100000
set_option maxHeartbeats 8000000
namespace PySem.W.Fast
def tw12211466916719296330:=trivial
def tw4061860442043139031:=trivial
def tw7201547354970440847:=trivial
def tw363012019633664528:=trivial
def tw13657896625975942148:=trivial
def tw1404246913395148339:=trivial
def tw6849944761245005498:=trivial
def tw15388943316809789702:=trivial
def tw640024545207333313:=trivial
def tw9469344702512016192:=trivial
def tw2867576317516895883:=trivial
def tw12682514893458873957:=trivial
def tw1650061568866583503:=trivial
def tw10286205792764203236:=trivial
def tw7227464205498968059:=trivial
def tw4438337024605750605:=trivial
def tw3171136853744808304:=trivial
def tw4988539661311371:=trivial
def tw13969697264711313883:=trivial
def tw15597921740865287800:=trivial
def tw4733747881786378014:=trivial
def tw17794928941595102907:=trivial
def tw7301035759378865588:=trivial
def tw7279877661572739055:=trivial
def tw14945880418339249193:=trivial
def tw17235056027497712496:=trivial
def tw1380644639644960698:=trivial
def tw3480149730330896223:=trivial
def tw14762402222475489519:=trivial
def tw6705813515862027515:=trivial
def tw1283153821403411958:=trivial
def tw13730870222667685235:=trivial
def tw8110635585968931879:=trivial
def tw6839181385114454192:=trivial
def tw15035469532819943889:=trivial
def tw13451250609118862369:=trivial
def tw8026205600478719539:=trivial
def tw3448163553190791834:=trivial
def tw8921982698764506801:=trivial
def tw13521614472969786455:=trivial
def tw17136070400187338233:=trivial
def tw15846527628282494581:=trivial
def tw3662912281522788483:=trivial
def tw17303328568698466456:=trivial
def tw626525032339912104:=trivial
def tw7919085475024528388:=trivial
def tw15745261683505596761:=trivial
def tw6102560372578250174:=trivial
def tw12160317192886168959:=trivial
def tw6126002942481020889:=trivial
def tw17372997141854708564:=trivial
def tw6122226310783012888:=trivial
def tw18257452632517939680:=trivial
def tw13586304450592902122:=trivial
def tw1188771370237421441:=trivial
def tw3653977614675259565:=trivial
def tw2660198824134593100:=trivial
def tw116350745318961843:=trivial
def tw7374974055055960671:=trivial
def tw14689619311245988755:=trivial
def tw9131186117418806234:=trivial
def tw13774313073588110794:=trivial
def tw10931211287203847274:=trivial
def tw5471132995577409652:=trivial
def tw2484834481295628666:=trivial
def tw17086697609691573202:=trivial
def tw16324167547363250416:=trivial
def tw6004932856307686489:=trivial
def tw6751811518766389084:=trivial
def tw2175329233341108244:=trivial
def tw5819902759086762739:=trivial
def tw7210422046132051274:=trivial
def tw14190820303712385982:=trivial
def tw8228873290585283476:=trivial
def tw98806276525715418:=trivial
def tw17405845951250877348:=trivial
def tw4497739362254470006:=trivial
def tw4825259541908674685:=trivial
def tw1299576772580302503:=trivial
def tw11535448765417042374:=trivial
def tw9305100321799700685:=trivial
def tw2162990633102868026:=trivial
def tw3064635174856280217:=trivial
def tw12356518362317379432:=trivial
def tw2491975327702791564:=trivial
def tw4842126911307146868:=trivial
def tw8623352065521711329:=trivial
def tw986784776870636036:=trivial
def tw7336399275777874455:=trivial
def tw6811539278724330265:=trivial
def tw15442519486583983694:=trivial
def tw12579213409251433854:=trivial
def tw6406715440886282430:=trivial
def tw2594631583323846857:=trivial
def tw6332235214476631378:=trivial
def tw9051611403240203252:=trivial
def tw4765217482810415594:=trivial
def tw2825685281644073927:=trivial
def tw16549856861308405170:=trivial
def tw436527485993444103:=trivial
def tw14778437611614671519:=trivial
def tw12589977932556740339:=trivial
def tw17244075093499411877:=trivial
def tw16806380640002042562:=trivial
def tw3100912477071849205:=trivial
def tw6320255550584553097:=trivial
def tw11579955081116065439:=trivial
def tw17912359203438711846:=trivial
def tw6883224537119026431:=trivial
def tw17778082181693042796:=trivial
def tw9079788006301651716:=trivial
def tw12076366214831393238:=trivial
def tw2557067590328596430:=trivial
def tw2326722945472091344:=trivial
def tw10930024909580876998:=trivial
def tw10316165781727716892:=trivial
def tw13156199904937005894:=trivial
def tw14019413182552171545:=trivial
def tw6017791448468003788:=trivial
def tw2642630392976286654:=trivial
def tw5279567808993557094:=trivial
def tw6737978519503080040:=trivial
def tw4264731038532027374:=trivial
def tw2902416223463864524:=trivial
def tw11226098525533053508:=trivial
def tw15766416526360670084:=trivial
def tw5515946494300414685:=trivial
def tw11757791407521566214:=trivial
def tw2396960957884043640:=trivial
def tw18002126216255153006:=trivial
def tw6928009098469684344:=trivial
def tw18256307048812248841:=trivial
def tw16162539934326929924:=trivial
def tw16804227041010589839:=trivial
def tw12610838081027808538:=trivial
def tw12171754887402909119:=trivial
def tw14873222549871104299:=trivial
def tw9673553793713660140:=trivial
def tw6423236469010981943:=trivial
def tw5504957067662096869:=trivial
def tw14760349878311935053:=trivial
def tw15732734623927611368:=trivial
def tw4692120241911347914:=trivial
def tw4956226858435062442:=trivial
def tw10835554076681188646:=trivial
def tw10321095304602012580:=trivial
def tw11638615457683699697:=trivial
def tw2581319472020962296:=trivial
def tw14558046980995303100:=trivial
def tw7624240227417742082:=trivial
def tw9042457159155057588:=trivial
def tw8910474480223810945:=trivial
def tw12706075184142770520:=trivial
def tw6121221219853383800:=trivial
def tw5133047464749116819:=trivial
def tw18446678819989105172:=trivial
def tw2520601773433916658:=trivial
def tw10665765368486243841:=trivial
def tw9590812808740630196:=trivial
def tw895696510075654652:=trivial
def tw6389823385326514293:=trivial
def tw12338768367759175399:=trivial
def tw3747804193914166461:=trivial
def tw15890149283369245609:=trivial
def tw8519424814985650005:=trivial
def tw6966775928508754793:=trivial
def tw13381309972908728570:=trivial
def tw9396636005795622060:=trivial
def tw2944728105690574228:=trivial
def tw1154946585824867504:=trivial
def tw3629848324176924386:=trivial
def tw5120383250177831803:=trivial
def tw13601528975172152942:=trivial
def tw1125515423910489415:=trivial
def tw238863586961909790:=trivial
def tw4334017546725990381:=trivial
def tw2075254866779138698:=trivial
def tw16957458446937440873:=trivial
def tw10758460089517128942:=trivial
def tw17215729279291540880:=trivial
def tw9214928019873333957:=trivial
def tw17557254631643368511:=trivial
def tw7103890262309695700:=trivial
def tw11847690106219415161:=trivial
def tw14296179370820996360:=trivial
def tw10544334071819437284:=trivial
def tw14977691975664972335:=trivial
def tw11625629609125557833:=trivial
def tw15112882679504123229:=trivial
def tw9810368935325440056:=trivial
def tw7703539627239355955:=trivial
def tw10382524737307080857:=trivial
def tw292682904142222342:=trivial
def tw11841695467760317399:=trivial
def tw12757506672295086634:=trivial
def tw8354504757715538773:=trivial
def tw1528848528183770620:=trivial
def tw2316511448699512473:=trivial
def tw14884622490522265231:=trivial
def tw9322602480211817962:=trivial
def tw11946445795882052790:=trivial
def tw12818619438681772118:=trivial
def tw1718396221386762395:=trivial
def tw4053342986386692929:=trivial
def tw767833067218335478:=trivial
def tw11524790001526230700:=trivial
def tw3503057048594537790:=trivial
def tw15651612017751764851:=trivial
def tw8560498318638067191:=trivial
def tw11621972418726920730:=trivial
def tw1408226168980916039:=trivial
def tw3880217165122812534:=trivial
def tw10468007641697836763:=trivial
def tw4371040382426353530:=trivial
def tw15977591429044230368:=trivial
def tw14263903934208161335:=trivial
def tw14914445955935083863:=trivial
def tw15199138394632832172:=trivial
def tw5470162106096231277:=trivial
def tw6106635126840695974:=trivial
def tw11502953426990070190:=trivial
def tw5740385645558955189:=trivial
def tw13063857385042500189:=trivial
def tw12076039790412019660:=trivial
def tw2679090350727038260:=trivial
def tw15791789212774831352:=trivial
def tw14847898899496606079:=trivial
def tw8894060712981216751:=trivial
def tw8941805139987425281:=trivial
def tw12856493231843410159:=trivial
def tw13124720732012060453:=trivial
def tw15926155532585010833:=trivial
def tw12485341581268669151:=trivial
def tw15056776652258718192:=trivial
def tw12047762795919506030:=trivial
def tw475100886275102146:=trivial
def tw14174687392093563162:=trivial
def tw308300057938332422:=trivial
def tw11384707406735727761:=trivial
def tw918564409875215487:=trivial
def tw17383813835328345357:=trivial
def tw7080623514496477273:=trivial
def tw14696964877690349279:=trivial
def tw6304552083407687245:=trivial
def tw1761408431122539139:=trivial
def tw6717269097724323229:=trivial
def tw7410203890240283633:=trivial
def tw17491063801619371391:=trivial
def tw12889366748267130676:=trivial
def tw9212857366619209584:=trivial
def tw6389471821477028934:=trivial
def tw10721256584144483102:=trivial
def tw664874780545259156:=trivial
def tw17244366505845956751:=trivial
def tw11754352620291953063:=trivial
def tw6779103166703417881:=trivial
def tw3548148142169271689:=trivial
def tw17030065453589807880:=trivial
def tw9419600346274377854:=trivial
def tw573461760705686672:=trivial
def tw9874066657767464054:=trivial
def tw1571138389024771828:=trivial
def tw12617586046554575738:=trivial
def tw10317413789768843039:=trivial
def tw4563208466310600417:=trivial
def tw16485328849900940054:=trivial
def tw12852971590787696402:=trivial
def tw844661516618814934:=trivial
def tw17038012599232354653:=trivial
def tw8740145248971735339:=trivial
def tw1645048646779043565:=trivial
def tw1160673116445797439:=trivial
def tw12954476451276854902:=trivial
def tw3000810567335949717:=trivial
def tw17283326703185715167:=trivial
def tw13095106225407995382:=trivial
def tw13787993883763409221:=trivial
def tw10738292415529728653:=trivial
def tw14507067139831185037:=trivial
def tw8696066377441462409:=trivial
def tw326882496603063421:=trivial
def tw10046161962530823950:=trivial
end PySem.W.Fast
set_option bootstrap.genMatcherCode false
noncomputable section
abbrev gQm:=@List.getElem?_map
abbrev lQm:=@List.length_map
abbrev mQg:=@List.mem_of_getElem?
abbrev oQm:=@Option.map_eq_some_iff
abbrev gQe:=@List.getElem?_eq_getElem
abbrev gQs:=@List.getElem?_eq_some_iff
abbrev lQa:=@List.length_append
abbrev nQl:=@Nat.le_of_lt
abbrev mQa:=@List.mem_append
abbrev Qaq:=@PySem.wpAny_bind
abbrev Qbq:=@Option.bind_some
abbrev Qcq:=@PySem.Heap.get?_push_of_some
abbrev Qdq:=@decide_eq_false
abbrev Qeq:=@decide_eq_true
abbrev Qfq:=@List.mem_singleton
abbrev Qgq:=@PySem.wpAny_pure
abbrev Qhq:=@if_pos
abbrev Qiq:=@PySem.Heap.lt_size
abbrev Qjq:=@List.size_toArray
abbrev Qkq:=@List.mem_map
abbrev Qlq:=@List.getD_eq_getElem?_getD
abbrev Qmq:=@Nat.le_refl
abbrev Qnq:=@List.length_cons
abbrev Qoq:=@List.mem_append_right
abbrev Qpq:=@List.mem_cons_of_mem
abbrev Qqq:=@Nat.lt_of_lt_of_le
abbrev Qrq:=@PySem.Heap.get?_push_size
abbrev Qsq:=@List.mem_cons
abbrev Qtq:=@Bool.false_ne_true
abbrev Quq:=@if_neg
abbrev Qvq:=@List.append_assoc
abbrev Qwq:=@Nat.ne_of_lt
abbrev Qxq:=@List.length_take
abbrev Qyq:=@List.getElem?_set_self
abbrev Qzq:=@List.map_append
abbrev QAq:=@Nat.le_trans
abbrev QBq:=@List.mem_cons_self
abbrev QCq:=@Bool.and_eq_true
abbrev QDq:=@List.map_cons
abbrev QEq:=@List.take_length
abbrev QFq:=@PySem.W.mg_none_of
abbrev QGq:=@List.length_nil
abbrev QHq:=@List.getElem?_append_left
abbrev QIq:=@List.length_replicate
abbrev QJq:=@List.Perm.append_right
abbrev QKq:=@List.getElem?_set_ne
abbrev QLq:=@PySem.wpAny_holding
abbrev QMq:=@PySem.wpAny_field
abbrev QNq:=@List.replicate_succ
abbrev QOq:=@List.mem_flatMap
abbrev QPq:=@List.map_map
abbrev QQq:=@List.getElem?_append_right
abbrev QRq:=@PySem.wpAny_mono
abbrev QSq:=@List.flatMap_cons
abbrev QTq:=@List.mem_or_eq_of_mem_set
abbrev QUq:=@List.all_eq_true
abbrev QVq:=@List.length_range
abbrev QWq:=@List.drop_eq_getElem_cons
abbrev QXq:=@List.not_mem_nil
abbrev QYq:=@List.take_add_one
abbrev QZq:=@of_decide_eq_true
abbrev QaQ:=@of_decide_eq_false
abbrev QbQ:=@List.getElem_of_mem
abbrev QcQ:=@List.mem_of_getLast?
abbrev QdQ:=@Option.some.inj
abbrev QeQ:=@List.of_mem_zip
abbrev QfQ:=@List.getLast?_map
abbrev QgQ:=@PySem.wpAny_ite_false
abbrev QhQ:=@PySem.wpAny_newObj_type
abbrev QiQ:=@PySem.wpAny_callSpecial?_slot
abbrev QjQ:=@List.Sublist.refl
abbrev QkQ:=@List.eq_of_mem_replicate
abbrev QlQ:=@List.map_replicate
namespace L2
open PySem PySem.Spec PyProof.Rows
abbrev Key:=Sum Int Str
noncomputable def su:Key->Value->Bool
 |.inl k,v=>Value.isInt k v
 |.inr x,v=>Value.isStrOf x v
noncomputable def On(w:World):Key->Int
 |.inl k=>hashInt k
 |.inr x=>hashStr w x
def d_:∀{k:Key} {v:Value},su k v=true->(∃i t,k=Sum.inl i/\v=Value.int i t)\/(∃x t,k=Sum.inr x/\v=Value.str x t)
 | .inl i,v,h=>by
   obtain⟨t,e⟩:=Value.isInt_shape (k:=i) (v:=v) h
   exact .inl ⟨i,t,rfl,e⟩
 | .inr x,v,h=>by
   obtain⟨t,e⟩:=Value.isStrOf_shape (x:=x) (v:=v) h
   exact .inr ⟨x,t,rfl,e⟩
def EI(i:Int)(t:Tok):su (.inl i) (.int i t)=true:=by simp[su,Value.isInt]
def qt(x:Str)(t:Tok):su (.inr x) (.str x t)=true:=by simp[su,Value.isStrOf]
def KD(a b:Int):decide ((Sum.inl a:Key)=Sum.inl b)=(a==b):=by
 by_cases e:a=b
 ·subst e;simp
 ·have h:¬(Sum.inl a:Key)=Sum.inl b:=λq=>e (Sum.inl.inj q)
  rw[Qdq h]
  exact(beq_eq_false_iff_ne.mpr e).symm
def Ly(a b:Str):decide ((Sum.inr a:Key)=Sum.inr b)=decide (a=b):=by
 by_cases e:a=b
 ·subst e;simp
 ·have h:¬(Sum.inr a:Key)=Sum.inr b:=λq=>e (Sum.inr.inj q)
  rw[Qdq h,Qdq e]
def Kv(a:Int)(b:Str):decide ((Sum.inl a:Key)=Sum.inr b)=false:=Qdq (λq=>nomatch q)
def KN(a:Str)(b:Int):decide ((Sum.inr a:Key)=Sum.inl b)=false:=Qdq (λq=>nomatch q)
noncomputable def cD(prog:Program)(w:World):PySem.KeyKind prog w Key where
 is:=su
 hash:=On w
 inj:=λv a b g f=>by
  rcases d_ g with⟨i,t,rfl,rfl⟩|⟨x,t,rfl,rfl⟩
  ·rcases d_ f with⟨j,u,rfl,e⟩|⟨y,u,rfl,e⟩
   ·injection e with c _;rw[c]
   ·exact nomatch e
  ·rcases d_ f with⟨j,u,rfl,e⟩|⟨y,u,rfl,e⟩
   ·exact nomatch e
   ·injection e with c _;rw[c]
 byValue:=λk v h=>by
  rcases d_ h with⟨i,t,rfl,rfl⟩|⟨x,t,rfl,rfl⟩ <;>rfl
 pyHash:=λd h=>by
  rcases d_ d with⟨i,t,rfl,rfl⟩|⟨x,t,rfl,rfl⟩
  ·exact wpAny_pyHash_int h
  ·exact wpAny_pyHash_str h
 eqBool:=λl d h=>by
  rcases d_ l with⟨i,t,rfl,rfl⟩|⟨x,t,rfl,rfl⟩
  ·rcases d_ d with⟨j,u,rfl,rfl⟩|⟨y,u,rfl,rfl⟩
   ·rw[KD] at h;exact wpAny_eqBool_int h
   ·rw[Kv] at h;exact SeqAt.EqAt.int_str i t y u _ _ _ _ h
  ·rcases d_ d with⟨j,u,rfl,rfl⟩|⟨y,u,rfl,rfl⟩
   ·rw[KN] at h;exact SeqAt.EqAt.str_int x t j u _ _ _ _ h
   ·rw[Ly] at h;exact wpAny_eqBool_str h
 «strs»:=λk x t v h=>by
  rcases d_ h with⟨i,u,rfl,e⟩|⟨y,u,rfl,e⟩
  ·exact nomatch e
  ·injection e with c _
   subst c
   cases v <;>rfl
def Bs(prog:Program)(w:World)(i:Int)(t:Tok):(cD prog w).is (.inl i) (.int i t)=true:=EI i t
def AH(prog:Program)(w:World)(x:Str)(t:Tok):(cD prog w).is (.inr x) (.str x t)=true:=qt x t
inductive V where
 |non|bl (b:Bool)|int (i:Int)|str (x:Str)|byt (b:Array UInt8)|flt (b:UInt64)|ref (a:Addr)|ty (n:String)
 deriving DecidableEq
def RelV:V->Value->Prop
 |.non,u=>u=Value.none
 |.bl b,u=>u=Value.bool b
 |.int i,u=>∃t,u=Value.int i t
 |.str x,u=>∃t,u=Value.str x t
 |.byt b,u=>∃t,u=Value.bytes b t
 |.flt b,u=>∃t,u=Value.float b t
 |.ref a,u=>u=Value.ref a
 |.ty n,u=>u=Value.type n
abbrev bZ:List V->List Value->Prop:=Paired RelV
def bZ.length{xs:List V}{a:List Value}(r:bZ xs a):xs.length=a.length:=Paired.length r
theorem bZ.get:∀{xs:List V} {a:List Value} {i:Nat} {x:V},bZ xs a->xs[i]?=some x->∃u,a[i]?=some u/\RelV x u
 |_,_,_,_,.nil,e=>by simp at e
 |_,_,0,_,.cons r _,e=>by simp at e;subst e;exact⟨_,rfl,r⟩
 | _,_,i+1,x,.cons _ t,e=>by
   obtain⟨u,b,c⟩:=bZ.get (i:=i) (x:=x) t (by simpa using e)
   exact⟨u,by simpa using b,c⟩
theorem bZ.set{x:V}{u:Value}(r:RelV x u):∀{xs:List V} {a:List Value} (i:Nat),bZ xs a->bZ (xs.set i x) (a.set i u)
 |_,_,_,.nil=>.nil
 |_,_,0,.cons _ t=>.cons r t
 |_,_,i+1,.cons q t=>.cons q (bZ.set r i t)
theorem bZ.append:∀{xs ys:List V} {a ws:List Value},bZ xs a->bZ ys ws->bZ (xs++ys) (a++ws)
 |_,_,_,_,.nil,s=>s
 |_,_,_,_,.cons r t,s=>.cons r (bZ.append t s)
theorem bZ.take:∀{xs:List V} {a:List Value} (n:Nat),bZ xs a->bZ (xs.take n) (a.take n)
 |_,_,0,_=>.nil
 |_,_,_+1,.nil=>.nil
 |_,_,n+1,.cons r t=>.cons r (bZ.take n t)
theorem bZ.drop:∀{xs:List V} {a:List Value} (n:Nat),bZ xs a->bZ (xs.drop n) (a.drop n)
 |_,_,0,r=>r
 |_,_,_+1,.nil=>.nil
 |_,_,n+1,.cons _ t=>bZ.drop n t
def vF:Option V->Option Value->Prop
 |some v,some u=>RelV v u
 |none,none=>True
 |_,_=>False
def KV{κ:Type}:List (κ×V)->List (κ×Value)->Prop:=Paired λ(p:κ×V) (q:κ×Value)=>p.1=q.1/\RelV p.2 q.2
noncomputable def kV:Key->V
 |.inl i=>.int i
 |.inr x=>.str x
inductive HO where
 |lst (xs:List V)
 |tup (xs:List V)
 |dK (kvs:List (Key×V))|dT (kvs:List (List Key×V))
 |set (S:Int->Bool) (n:Nat)
 |ins (C dx:Addr) (fs:List (Str×V))
 |own (x:Addr)
 |xd (fs:List (Str×V))
 |met (f x:Addr)
 |rng (lo hi:Int)
 |frz (o:Obj) (u:HO)
 |tbl (ps:Array Value)
 |ext (φ:Heap->Prop)
abbrev Hp:=Addr->Option HO
noncomputable def upd(H:Hp)(a:Addr)(o:HO):Hp:=λb=>if b=a then some o else H b
def cA{H:Hp}{a:Addr}{o:HO}:upd H a o a=some o:=by unfold upd;rw[Qhq rfl]
def bJ{H:Hp}{a b:Addr}{o:HO}(h:b≠a):upd H a o b=H b:=by unfold upd;rw[Quq h]
def Ic{H:Hp}{a b:Addr}{o u:HO}(h:H a=some o)(h':H b=some u)(d:o≠u):a≠b:=by
 intro e;subst e;rw[h] at h';exact d (QdQ h')
def gB{H:Hp}{a b:Addr}{o:HO}(h:H a=some o)(h':H b=none):a≠b:=by
 intro e;subst e;rw[h] at h';cases h'
def AF(h:Heap)(a:Addr)(items:Array Value):Prop:=∃o,h.get? a=some o/\o.cls=.type "tuple" /\o.dict=none/\∃n,o.data=.seq items n
def AF.it{h:Heap}{a:Addr}{items:Array Value}(x:AF h a items):IsTup h a items:=by
 obtain⟨o,e,c,_,d⟩:=x
 exact⟨o,e,c,d⟩
def AF.new(h:Heap)(items:Array Value):AF (h.push {cls:=.type "tuple",data:=.seq items}) h.objs.size items:=⟨_,Qrq _ rfl,rfl,rfl,_,rfl⟩
section
variable(P:Program)(w:World)
def dN(H:Hp)(h:Heap)(a:Addr):HO->Prop
 |.lst d=>d.length<=sizeLine/\∃(b:List Value) (n:Nat),bZ d b/\h.get? a=some {cls:=.type "list",data:=.seq b.toArray n}
 |.tup d=>d.length<=sizeLine/\∃b:List Value,bZ d b/\AF h a b.toArray
 |.dK c=>c.length<=sizeLine/\(a==sysModules)=false/\∃r,KV c r/\h.DictOf (cD P w) a r
 |.dT c=>c.length<=sizeLine/\(a==sysModules)=false/\∃d:List (List Key×Addr×Value),
   Paired (λ(p:List Key×V) (q:List Key×Addr×Value)=>p.1=q.1/\H q.2.1=some (.tup (p.1.map kV))/\RelV p.2 q.2.2) c d∧
   ∃o k s,h.get? a=some o/\o.ExactDict/\o.data=.dict k s/\k.toList=d.map (entryOfKey (tupleKind (cD P w)))/\(d.map (·.1)).Nodup
 |.set S n=>h.SetOf (intKind P w) a S n
 |.ins C i g=>H i=some (.own a)/\g.length<=1000/\i≠a/\h.get? a=some (PySem.W.instObj C i)∧
   ∃e,h.Ns1 i e/\(∀f,vF (g.lookup f) (e f))/\PySem.Within e (g.map (·.1))
 |.own _=>∃o,h.get? a=some o
 |.xd g=>∃e,h.Ns1 a e/\∀f,vF (g.lookup f) (e f)
 |.rng A y=>∃t u v,h.get? a=some {cls:=.type "range",data:=.fields #[.int A t,.int y u,.int 1 v]}
 |.frz o u=>h.get? a=some o/\dN H h a u
 |.tbl z=>h.get? a=some {cls:=.none,data:=.fields z}
 |.met f x=>h.get? a=some (PySem.W.methodObj (.ref f) (.ref x))
 |.ext j=>j h/\(∃o,h.get? a=some o)/\∀m l:Heap,j m->(∀o,m.get? a=some o->l.get? a=some o)->j l
def pd(H:Hp)(h:Heap):Prop:=∀a o,H a=some o->dN P w H h a o
end
section
variable{P:Program}{w:World}{H H':Hp}{h h':Heap}{a:Addr}{o:HO}
theorem dN.lt(x:dN P w H h a o):a<h.objs.size:=by
 cases o with
 |lst d=>obtain⟨_,_,_,_,e⟩:=x;exact Qiq e
 |tup d=>obtain⟨_,_,_,p⟩:=x;exact p.it.lt
 |dK b=>obtain⟨_,_,_,_,o,_,_,e,_⟩:=x;exact Qiq e
 |dT b=>obtain⟨_,_,_,_,o,_,_,e,_⟩:=x;exact Qiq e
 |set S n=>obtain⟨o,_,_,_,e,_⟩:=x;exact Qiq e
 |ins C g c=>obtain⟨_,_,_,e,_⟩:=x;exact Qiq e
 |own y=>obtain⟨_,e⟩:=x;exact Qiq e
 |xd c=>obtain⟨_,⟨_,_,_,e,_⟩,_⟩:=x;exact Qiq e
 |rng m j=>obtain⟨_,_,_,e⟩:=x;exact Qiq e
 |frz i u=>obtain⟨e,_⟩:=x;exact Qiq e
 |tbl l=>exact Qiq (show h.get? a=some _ from x)
 |met f y=>exact Qiq (show h.get? a=some _ from x)
 |ext k=>obtain⟨_,⟨_,e⟩,_⟩:=x;exact Qiq e
theorem Paired.mapP{α e:Type}{F G:α->e->Prop}:∀{d:List α} {c:List e},Paired F d c->(∀a b,F a b->G a b)->Paired G d c
 |_,_,.nil,_=>.nil
 |_,_,.cons r t,f=>.cons (f _ _ r) (Paired.mapP t f)
def dN.stay(x:dN P w H h a o)(k:∀b u,(b=a\/H b=some (.own a))->h.get? b=some u->h'.get? b=some u)
  (G:∀b,H b=some (.own a)->H' b=some (.own a)) (ht:∀b xs,H b=some (.tup xs)->H' b=some (.tup xs)):dN P w H' h' a o:=by
 induction o with
 |lst xs=>obtain⟨z,l,n,r,e⟩:=x;exact⟨z,l,n,r,k _ _ (.inl rfl) e⟩
 |tup xs=>obtain⟨z,l,r,g,e,c⟩:=x;exact⟨z,l,r,g,k _ _ (.inl rfl) e,c⟩
 |dK A=>obtain⟨z,y,L,r,g,i,j,e,c⟩:=x;exact⟨z,y,L,r,g,i,j,k _ _ (.inl rfl) e,c⟩
 | dT A=>
   obtain⟨z,y,xs,r,g,i,j,e,c⟩:=x
   exact⟨z,y,xs,Paired.mapP r λp q z=>⟨z.1,ht _ _ z.2.1,z.2.2⟩,g,i,j,k _ _ (.inl rfl) e,c⟩
 |set S n=>obtain⟨g,i,j,t,e,c⟩:=x;exact⟨g,i,j,t,k _ _ (.inl rfl) e,c⟩
 | ins C N J=>
   obtain⟨d,z,K,e,s,⟨m,i,j,I,c⟩,r⟩:=x
   exact⟨G _ d,z,K,k _ _ (.inl rfl) e,s,⟨m,i,j,k _ _ (.inr d) I,c⟩,r⟩
 |own y=>obtain⟨g,e⟩:=x;exact⟨g,k _ _ (.inl rfl) e⟩
 |xd J=>obtain⟨s,⟨m,i,j,e,c⟩,r⟩:=x;exact⟨s,⟨m,i,j,k _ _ (.inl rfl) e,c⟩,r⟩
 |rng U Q=>obtain⟨t,u,v,e⟩:=x;exact⟨t,u,v,k _ _ (.inl rfl) e⟩
 |frz g u M=>obtain⟨e,q⟩:=x;exact⟨k _ _ (.inl rfl) e,M q⟩
 | tbl F=>
   have e:h.get? a=some {cls:=.none,data:=.fields F}:=x
   show h'.get? a=some {cls:=.none,data:=.fields F}
   exact k a _ (.inl rfl) e
 | met f y=>
   have e:h.get? a=some (PySem.W.methodObj (.ref f) (.ref y)):=x
   show h'.get? a=some (PySem.W.methodObj (.ref f) (.ref y))
   exact k a _ (.inl rfl) e
 |ext R=>obtain⟨p,⟨o,e⟩,B⟩:=x;exact⟨B _ _ p λo q=>k _ _ (.inl rfl) q,⟨o,k _ _ (.inl rfl) e⟩,B⟩
def pd.lt(x:pd P w H h)(e:H a=some o):a<h.objs.size:=(x a o e).lt
def pd.fresh(x:pd P w H h)(e:h.objs.size<=a):H a=none:=by
 cases q:H a with
 |none=>rfl
 |some u=>exact absurd (Qqq (x.lt q) e) (Nat.lt_irrefl _)
def pd.kept(x:pd P w H h)(k:∀b u,h.get? b=some u->h'.get? b=some u):pd P w H h':=λa o e=>
 (x a o e).stay (λb u _ q=>k b u q) (λ_ q=>q) λ_ _ q=>q
def pd.laid(x:pd P w H h)(k:∀b u,h.get? b=some u->h'.get? b=some u)(g:h.objs.size<=a)(new:dN P w (upd H a o) h' a o):pd P w (upd H a o) h':=λb u e=>by
 have f:=x.fresh g
 by_cases d:b=a
 ·subst d;rw[cA] at e;cases e;exact new
 ·rw[bJ d] at e
  exact(x b u e).stay (λc v _ q=>k c v q) (λc q=>by rw[bJ (gB q f)];exact q) λc i q=>by rw[bJ (gB q f)];exact q
end
def Rd(H:Hp)(a:Addr)(u:HO):Prop:=H a=some u\/∃o,H a=some (.frz o u)
def Rd.ok{P:Program}{w:World}{H:Hp}{h:Heap}{a:Addr}{u:HO}(r:Rd H a u)(x:pd P w H h):dN P w H h a u:=by
 rcases r with r|⟨o,r⟩
 ·exact x a u r
 ·obtain⟨_,q⟩:=x a _ r
  exact q
def MK:Option HO->Prop
 |some (.lst _)=>True
 |some (.dK _)=>True
 |some (.dT _)=>True
 |some (.set _ _)=>True
 |some (.ins _ _ _)=>True
 |some (.ext _)=>True
 |_=>False
section
variable{P:Program}{w:World}{H:Hp}{h h':Heap}{x e:Addr}{o':HO}
def pd.write(ok:pd P w H h)(j:MK (H x))(he:e=x\/H e=some (.own x))(k:∀b u,b≠e->h.get? b=some u->h'.get? b=some u)(m:∃u,h'.get? e=some u)
  (new:dN P w (upd H x o') h' x o'):pd P w (upd H x o') h':=λb u q=>by
 have d:∀c y,H c=some (.own y)->c≠x:=λc y r z=>by subst z;rw[r] at j;exact j
 have f:∀c g,H c=some (.tup g)->c≠x:=λc g r z=>by subst z;rw[r] at j;exact j
 by_cases l:b=x
 ·subst l;rw[cA] at q;cases q;exact new
 ·rw[bJ l] at q
  by_cases a:b=e
  ·have n:H b=some (.own x):=by
    rcases he with z|z
    ·exact absurd (a.trans z) l
    ·rw[a];exact z
   rw[q] at n;cases n
   obtain⟨v,o⟩:=m
   exact⟨v,by rw[a];exact o⟩
  ·refine(ok b u q).stay (λc v i r=>k c v ?_ r) (λc r=>by rw[bJ (d c b r)];exact r) λc g r=>by rw[bJ (f c g r)];exact r
   rcases i with rfl|i
   ·exact a
   ·rintro rfl
    rcases he with z|z
    ·exact d c b i z
    ·rw[i] at z;cases z;exact l rfl
end
structure Un(fs ex:List Addr)(H H':Hp)(h h':Heap):Prop where
 keep:∀b o,h.get? b=some o->H b=none->b∉fs->b∉ex->h'.get? b=some o
 slot:∀b o,h.get? b=some o->H b=none->b∈fs->b∉ex->∃sl,h'.get? b=some {o with slots:=sl}
 free:∀b o,h.get? b=some o->H b=none->b∉ex->H' b=none
 there:∀b o,h.get? b=some o->b∉ex->∃o',h'.get? b=some o'
 tups:∀b xs,H b=some (.tup xs)->H' b=some (.tup xs)
 frzs:∀b o u,H b=some (.frz o u)->H' b=some (.frz o u)
 tbls:∀b ps,H b=some (.tbl ps)->∃more,H' b=some (.tbl (ps++more))
section
variable{fs fs' ex ex':List Addr}{H H1 H2:Hp}{h h1 h2 h':Heap}{a x e:Addr}{o:HO}
def Un.any(u:Un fs ex H H1 h h1){b:Addr}{c:Obj}(q:h.get? b=some c)(n:H b=none)(f:b∉ex):∃g,h1.get? b=some {c with slots:=g}:=by
 by_cases d:b∈fs
 ·exact u.slot b c q n d f
 ·exact⟨c.slots,u.keep b c q n d f⟩
def Un.kept(k:∀b u,h.get? b=some u->h'.get? b=some u):Un fs ex H H h h':=
 ⟨λb c q _ _ _=>k b c q,λb c q _ _ _=>⟨c.slots,k b c q⟩,λ_ _ _ n _=>n,λb c q _=>⟨c,k b c q⟩,λ_ _ q=>q,λ_ _ _ q=>q,λ_ d q=>⟨#[],by rw[q];simp⟩⟩
def Un.refl:Un fs ex H H h h:=Un.kept λ_ _ q=>q
def Un.laid(k:∀b u,h.get? b=some u->h'.get? b=some u)(d:h.objs.size<=a)(c:H a=none):Un fs ex H (upd H a o) h h' where
 keep:=λb u q _ _ _=>k b u q
 slot:=λb u q _ _ _=>⟨u.slots,k b u q⟩
 free:=λb u q n _=>by rw[bJ (Qwq (Qqq (Qiq q) d))];exact n
 there:=λb u q _=>⟨u,k b u q⟩
 tups:=λb f q=>by rw[bJ (gB q c)];exact q
 frzs:=λb u f q=>by rw[bJ (gB q c)];exact q
 tbls:=λb g q=>⟨#[],by rw[bJ (gB q c),q];simp⟩
def Un.write(d:MK (H x))(he:e=x\/H e=some (.own x))(k:∀b u,b≠e->h.get? b=some u->h'.get? b=some u)(f:∃u,h'.get? e=some u):Un fs ex H (upd H x o) h h':=by
 have j:∀b,H b=none->b≠x:=λb n z=>by subst z;rw[n] at d;exact d
 have i:∀b,H b=none->b≠e:=λb n z=>by
  subst z
  rcases he with r|r
  ·exact j b n r
  ·rw[n] at r;cases r
 have g:∀b u,H b=some u->¬MK (some u)->b≠x:=λb u q l z=>by subst z;rw[q] at d;exact l d
 refine⟨λb u q n _ _=>k b u (i b n) q,λb u q n _ _=>⟨u.slots,k b u (i b n) q⟩,λb u q n _=>by rw[bJ (j b n)];exact n,λb u q _=> ?_,
  λb m q=>by rw[bJ (g b _ q λz=>z)];exact q,λb u m q=>by rw[bJ (g b _ q λz=>z)];exact q,λb p q=>⟨#[],by rw[bJ (g b _ q λz=>z),q];simp⟩⟩
 by_cases c:b=e
 ·subst c;exact f
 ·exact⟨u,k b u c q⟩
end
noncomputable def NK(h:Heap)(H:Hp):List Addr:=(List.range h.objs.size).filter λa=>(H a).isSome
noncomputable def zo(h:Heap)(H:Hp):Heap:=PySem.W.hideAll h (NK h H)
def Fb(h:Heap)(H:Hp):(zo h H).objs.size=h.objs.size:=PySem.W.hideAll_size _ _
def FZ{h:Heap}{H:Hp}{b:Addr}{o:Obj}(e:h.get? b=some o)(n:H b=none):(zo h H).get? b=some o:=
 PySem.W.hideAll_get _ e λa=>by
  have q:(H b).isSome=true:=(List.mem_filter.mp a).2
  rw[n] at q;simp at q
def JJ{h:Heap}{H:Hp}{b:Addr}{o:Obj}(e:(zo h H).get? b=some o):h.get? b=some o/\H b=none:=by
 have a:h.get? b=some o:=PySem.W.of_hideAll (NK h H) e
 refine⟨a,?_⟩
 cases q:H b with
 |none=>rfl
 | some x=>
   have c:b∈NK h H:=List.mem_filter.mpr ⟨List.mem_range.mpr (Qiq a),by simp[q]⟩
   have z:(zo h H).get? b=none:=PySem.W.hideAll_none (NK h H) c
   rw[z] at e;cases e
structure Mod(K:PySem.W.Frag)(mg:Str->Option Value)(base:Heap):Prop where
 kin:K.In base
 glob:base.Ns mainGlobals mg
 blt:∃mb,base.Ns builtinsNs mb/\∀x:Str,x≠"__name__" ->mb x=bootBuiltins x
 nolimit:base.NoLimit
structure Cx where
 prog:Program
 w:World
 K:PySem.W.Frag
 mg:Str->Option Value
 base:Heap
 A:Around
 N:List Str
 s₀:Shared
 H₀:Hp
 env:Env
 outer:List Env
 stack:List Env
 ex:List Addr
 fn:Str->Bool
 calm:Bool
 pn:List (Addr×Obj)
 xe:Value->Shared->Prop
noncomputable def HB(l:List Env):List Addr:=l.filterMap (·.frame)
noncomputable abbrev Cx.fs(X:Cx):List Addr:=HB X.outer
def Kg(sc:Scope)(x:Str):Prop:=sc.names.lookup x=some .local\/sc.names.lookup x=some .cell\/sc.names.lookup x=some .free
def Loc(sc:Scope)(x:Str):Prop:=sc.names.lookup x=some .local\/sc.names.lookup x=some .cell
def Look(env:Env)(h:Heap)(m:Str->Option Value)(x:Str)(u:Value):Prop:=
 (env.kindOf x=some .local/\m x=some u)\/((env.kindOf x=some .cell\/env.kindOf x=some .free)/\∃c,env.cells.lookup x=some c/\h.IsCell c (some u))
structure Cx.Ok(X:Cx):Prop where
 mod:Mod X.K X.mg X.base
 kind:X.env.scope.kind=.function
 glob:X.env.globals=mainGlobals
 blt:X.env.builtins=builtinsNs
 above:X.s₀.heap.objs.size<=X.env.locals
 inj:∀x y c,X.env.cells.lookup x=some c->X.env.cells.lookup y=some c->x=y
 has:∀x,(X.env.kindOf x=some .cell\/X.env.kindOf x=some .free)->∃c,X.env.cells.lookup x=some c
 cab:∀x c,X.fn x=true->X.env.cells.lookup x=some c->X.s₀.heap.objs.size<=c
 hd:X.calm=true->X.A.handled=none
 frames:X.A.frames=some X.stack
 stk:X.stack=X.outer\/(X.stack=X.env::X.outer/\X.env.frame=some X.env.locals)
 exf:∀b∈X.ex,b≠X.env.locals/\∀x c,X.env.cells.lookup x=some c->c≠b
 bs:∀b o,X.base.get? b=some o->X.s₀.heap.get? b=some o/\X.H₀ b=none
 bsz:X.base.objs.size<=X.s₀.heap.objs.size
 noex:∀b o,X.base.get? b=some o->b∉X.ex
 exfs:∀b∈X.ex,b∉X.fs
 funs:X.s₀.heap.FunFrames X.base X.outer
 frf:∀b∈X.fs,X.H₀ b=none
structure Inv(X:Cx)(pins:List (Addr×Obj))(σ:List (Option V))(H:Hp)(s:Shared):Prop where
 ok:X.Ok
 os:s.os=X.s₀.os
 bare:AllBare s.gens
 base:Un X.fs X.ex X.H₀ H X.s₀.heap s.heap
 loc:∃m,s.heap.Ns X.env.locals m/\∀(i:Nat) (x:Str) (v:V),X.N[i]?=some x->σ[i]?=some (some v)->Kg X.env.scope x->∃u,RelV v u/\Look X.env s.heap m x u
 cell:∀x c,X.env.cells.lookup x=some c->∃v,s.heap.IsCell c v
 free:H X.env.locals=none
 freeC:∀x c,X.env.cells.lookup x=some c->H c=none
 pin:∀p∈X.pn++pins,s.heap.get? p.1=some p.2/\H p.1=none/\p.1≠X.env.locals/\p.1∉X.fs/\∀v,p.2.data≠.cell v
 hok:pd X.prog X.w H s.heap
 len:σ.length=X.N.length
section
variable{X:Cx}{pins:List (Addr×Obj)}{σ:List (Option V)}{H H':Hp}{s:Shared}{h':Heap}
def Cx.Ok.nofr(ok:X.Ok){b:Addr}{o:Obj}(e:X.base.get? b=some o):b∉X.fs:=λa=>by
 have:=(ok.funs.mem a).1
 rw[e] at this;cases this
def Inv.bs(I:Inv X pins σ H s):∀b o,X.base.get? b=some o->s.heap.get? b=some o/\H b=none:=λb o e=>
 ⟨I.base.keep b o (I.ok.bs b o e).1 (I.ok.bs b o e).2 (I.ok.nofr e) (I.ok.noex b o e),I.base.free b o (I.ok.bs b o e).1 (I.ok.bs b o e).2 (I.ok.noex b o e)⟩
def Inv.bk(I:Inv X pins σ H s):∀b o,X.base.get? b=some o->s.heap.get? b=some o:=λb o e=>(I.bs b o e).1
def Inv.mod(I:Inv X pins σ H s):Mod X.K X.mg X.base:=I.ok.mod
def Inv.kIn(I:Inv X pins σ H s):X.K.In s.heap:=I.ok.mod.kin.keeps I.bk
def Inv.lt(I:Inv X pins σ H s):X.env.locals<s.heap.objs.size:=let ⟨_,hn,_⟩:=I.loc;hn.lt
def Inv.sz(I:Inv X pins σ H s):X.s₀.heap.objs.size<=s.heap.objs.size:=QAq I.ok.above (nQl I.lt)
def Inv.nofs(I:Inv X pins σ H s){a:Addr}(h:s.heap.objs.size<=a):a∉X.fs:=λc=>by
 obtain⟨_,o,b,_⟩:=I.ok.funs.mem c
 exact absurd (Qqq (Qiq b) (QAq I.sz h)) (Nat.lt_irrefl _)
def Inv.cne(I:Inv X pins σ H s):∀x c,X.env.cells.lookup x=some c->c≠X.env.locals:=λx c e z=>by
 obtain⟨v,o,f,d⟩:=I.cell x c e
 obtain⟨m,⟨h,g,i,b,a,_⟩,_⟩:=I.loc
 rw[z,b] at f;cases f;rw[a] at d;cases d
theorem Inv.funs(I:Inv X pins σ H s):s.heap.FunFrames X.base X.outer:=by
 have c:∀(l:List Env),(∀b∈HB l,b∈X.fs)->X.s₀.heap.FunFrames X.base l->s.heap.FunFrames X.base l:=by
  intro l
  induction l with
  |nil=>intro _ _;trivial
  | cons p r q=>
    intro g j
    obtain⟨k,⟨L,o,d,m,i,h⟩,n⟩:=j
    have a:L∈X.fs:=g L (by unfold HB;rw[List.filterMap_cons,d];exact QBq)
    obtain⟨t,e⟩:=I.base.slot L o i (I.ok.frf L a) a λz=>I.ok.exfs L z a
    exact⟨k,⟨L,_,d,m,e,h⟩,q (λb f=>g b (by unfold HB;rw[List.filterMap_cons,d];exact Qpq _ f)) n⟩
 exact c X.outer (λ_ f=>f) I.ok.funs
def Inv.stack(I:Inv X pins σ H s):s.heap.FunFrames X.base X.stack:=by
 rcases I.ok.stk with e|⟨e,a⟩
 ·rw[e];exact I.funs
 ·rw[e]
  obtain⟨m,b,_⟩:=I.loc
  refine .cons (by rw[I.ok.kind];decide) a b ?_ I.funs
  exact Heap.get?_none_of_le (QAq I.ok.bsz I.ok.above)
def Inv.stkSub(I:Inv X pins σ H s):∀b∈HB X.stack,b∈X.env.locals::X.fs:=λb a=>by
 rcases I.ok.stk with e|⟨e,c⟩
 ·rw[e] at a;exact Qpq _ a
 ·rw[e] at a
  unfold HB at a
  rw[List.filterMap_cons,c] at a
  exact a
def Inv.stkFree(I:Inv X pins σ H s):∀b∈HB X.stack,H b=none:=λb a=>by
 rcases Qsq.mp (I.stkSub b a) with e|a
 ·rw[e];exact I.free
 ·obtain⟨_,o,c,_⟩:=I.ok.funs.mem a
  exact I.base.free b o c (I.ok.frf b a) λz=>I.ok.exfs b z a
def Inv.step{g':Array GenState}{t':Nat}{d':Drawn}{ch:List Addr}(I:Inv X pins σ H s)
  (f:∀b∈ch,(b∈X.ex\/X.s₀.heap.objs.size<=b)/\b≠X.env.locals/\(∀x c,X.env.cells.lookup x=some c->c≠b)/\∀p∈X.pn++pins,p.1≠b)
  (keep:∀b o,b≠X.env.locals->b∉X.fs->b∉ch->s.heap.get? b=some o->H b=none->h'.get? b=some o)
  (slot:∀b o,b≠X.env.locals->b∈X.fs->b∉ch->s.heap.get? b=some o->H b=none->∃J,h'.get? b=some {o with slots:=J}) (free:∀b o,b∉ch->s.heap.get? b=some o->H b=none->H' b=none)
  (there:∀b o,b∉ch->s.heap.get? b=some o->∃B,h'.get? b=some B)
  (tups:∀b xs,H b=some (.tup xs)->H' b=some (.tup xs)) (frzs:∀b o u,H b=some (.frz o u)->H' b=some (.frz o u)) (tbls:∀b ps,H b=some (.tbl ps)->∃more,H' b=some (.tbl (ps++more)))
  (ns:∀m,s.heap.Ns X.env.locals m->h'.Ns X.env.locals m) (L:pd X.prog X.w H' h') (hg:AllBare g'):
  Inv X pins σ H' {s with heap:=h',gens:=g',drawn:=d',toks:=t'}:=by
 have F:∀b o,X.s₀.heap.get? b=some o->b≠X.env.locals:=λb o e=>Qwq (Qqq (Qiq e) I.ok.above)
 have t:∀b o,X.s₀.heap.get? b=some o->b∉X.ex->b∉ch:=λb o e a y=>by
  rcases(f b y).1 with z|z
  ·exact a z
  ·exact absurd (Qqq (Qiq e) z) (Nat.lt_irrefl _)
 have g:∀x c,X.env.cells.lookup x=some c->∀v,s.heap.IsCell c v->h'.IsCell c v:=λx c e v Z=>by
  obtain⟨o,A,G⟩:=Z
  have h:c∉ch:=λz=>(f c z).2.2.1 x c e rfl
  by_cases P:c∈X.fs
  ·obtain⟨J,q⟩:=slot c o (I.cne x c e) P h A (I.freeC x c e)
   exact⟨_,q,G⟩
  ·exact⟨o,keep c o (I.cne x c e) P h A (I.freeC x c e),G⟩
 refine⟨I.ok,I.os,hg,⟨λb o e n y a=> ?_,λb o e n y a=> ?_,λb o e n a=> ?_,λb o e a=> ?_,λb xs e=>tups b xs (I.base.tups b xs e),λb o xs e=>frzs b o xs (I.base.frzs b o xs e),λb ps e=> ?_⟩,?_,λx c e=> ?_,?_,λx c e=> ?_,λp Q=> ?_,L,I.len⟩
 ·exact keep b o (F b o e) y (t b o e a) (I.base.keep b o e n y a) (I.base.free b o e n a)
 ·obtain⟨J,j⟩:=I.base.slot b o e n y a
  obtain⟨K,C⟩:=slot b _ (F b o e) y (t b o e a) j (I.base.free b o e n a)
  exact⟨K,C⟩
 ·obtain⟨B,j⟩:=I.base.there b o e a
  exact free b B (t b o e a) j (I.base.free b o e n a)
 ·obtain⟨B,j⟩:=I.base.there b o e a
  exact there b B (t b o e a) j
 ·obtain⟨W,j⟩:=I.base.tbls b ps e
  obtain⟨Y,C⟩:=tbls b _ j
  exact⟨W++Y,by rw[C,Array.append_assoc]⟩
 ·obtain⟨m,U,S⟩:=I.loc
  refine⟨m,ns m U,λi x v j C R=> ?_⟩
  obtain⟨u,r,l⟩:=S i x v j C R
  refine⟨u,r,?_⟩
  rcases l with l|⟨k,c,e,z⟩
  ·exact .inl l
  ·exact .inr ⟨k,c,e,g x c e _ z⟩
 ·obtain⟨v,z⟩:=I.cell x c e
  exact⟨v,g x c e v z⟩
 ·obtain⟨m,⟨o,_,_,A,_⟩,_⟩:=I.loc
  exact free _ o (λz=>(f _ z).2.1 rfl) A I.free
 ·obtain⟨v,o,A,G⟩:=I.cell x c e
  exact free c o (λz=>(f c z).2.2.1 x c e rfl) A (I.freeC x c e)
 ·obtain⟨e,n,M,N,d⟩:=I.pin p Q
  have h:p.1∉ch:=λz=>(f p.1 z).2.2.2 p Q rfl
  exact⟨keep p.1 p.2 M N h e n,free p.1 p.2 h e n,M,N,d⟩
def Inv.un{t':Nat}(I:Inv X pins σ H s)(u:Un X.fs [] H H' s.heap h')(d:pd X.prog X.w H' h'):Inv X pins σ H' {s with heap:=h',toks:=t'}:=by
 obtain⟨m,⟨o,l,q,h,r⟩,_⟩:=id I.loc
 obtain⟨t,i⟩:=u.any h I.free (by simp)
 exact I.step (g':=s.gens) (d':=s.drawn) (ch:= []) (λ_ z=>nomatch z) (λb o _ f _ e n=>u.keep b o e n f (by simp)) (λb o _ f _ e n=>u.slot b o e n f (by simp)) (λb o _ e n=>u.free b o e n (by simp)) (λb o _ e=>u.there b o e (by simp)) u.tups u.frzs u.tbls (λv k=>by
  obtain⟨p,c,g,a,j⟩:=k
  rw[h] at a;cases a
  exact⟨_,c,g,i,j⟩) d I.bare
def Inv.call{g':Array GenState}{t':Nat}{d':Drawn}{ch:List Addr}(I:Inv X pins σ H s)(u:Un (HB X.stack) ch H H' s.heap h')(i:pd X.prog X.w H' h')(t:AllBare g')
  (d:∀b∈ch,(b∈X.ex\/X.s₀.heap.objs.size<=b)/\b≠X.env.locals/\(∀x c,X.env.cells.lookup x=some c->c≠b)/\∀p∈X.pn++pins,p.1≠b):
  Inv X pins σ H' {s with heap:=h',gens:=g',drawn:=d',toks:=t'}:=by
 obtain⟨m,⟨o,y,B,k,r⟩,_⟩:=id I.loc
 obtain⟨C,g⟩:=u.any k I.free λz=>(d _ z).2.1 rfl
 exact I.step (ch:=ch) d (λb o g v a e n=>u.keep b o e n (λz=>(Qsq.mp (I.stkSub b z)).elim g v) a) (λb o _ _ a e n=>u.any e n a) (λb o a e n=>u.free b o e n a) (λb o a e=>u.there b o e a) u.tups u.frzs u.tbls (λF q=>by
  obtain⟨A,h,j,f,l⟩:=q
  rw[k] at f;cases f
  exact⟨_,h,j,g,l⟩) i t
def Inv.turned{t':Nat}{it:Addr}(I:Inv X pins σ H s)(k:∀b o,b≠it->s.heap.get? b=some o->h'.get? b=some o)(j:H it=none)(f:it≠X.env.locals)
  (w:it∈X.ex\/X.s₀.heap.objs.size<=it) (t:∀x c,X.env.cells.lookup x=some c->c≠it) (i:∀p∈X.pn++pins,p.1≠it):Inv X pins σ H {s with heap:=h',toks:=t'}:=by
 have d:∀b u,H b=some u->b≠it:=λb u e z=>by rw[z,j] at e;cases e
 refine I.step (g':=s.gens) (d':=s.drawn) (ch:= [it]) (λb A=> ?_) (λb o _ _ a e _=>k b o (λz=>a (by simp[z])) e) (λb o _ _ a e _=>⟨o.slots,k b o (λz=>a (by simp[z])) e⟩) (λ_ _ _ _ n=>n)
  (λb o a e=>⟨o,k b o (λz=>a (by simp[z])) e⟩) (λ_ _ e=>e) (λ_ _ _ e=>e) (λb B e=>⟨#[],by rw[e];simp⟩) (λm y=> ?_) (λb u e=> ?_) I.bare
 ·have e:b=it:=by simpa using A
  subst e
  exact⟨w,f,t,i⟩
 ·obtain⟨o,g,l,h,r⟩:=y
  exact⟨o,g,l,k _ o (Ne.symm f) h,r⟩
 ·refine(I.hok b u e).stay (λc v a q=>k c v ?_ q) (λ_ q=>q) λ_ _ q=>q
  rcases a with z|z
  ·rw[z];exact d b u e
  ·exact d c _ z
def Inv.tok(I:Inv X pins σ H s)(t:Nat):Inv X pins σ H {s with toks:=t}:=I.un (h':=s.heap) (t':=t) Un.refl I.hok
def Inv.kept{t':Nat}(I:Inv X pins σ H s)(k:∀b u,s.heap.get? b=some u->h'.get? b=some u):Inv X pins σ H {s with heap:=h',toks:=t'}:=I.un (Un.kept k) (I.hok.kept k)
def Inv.laid{a:Addr}{o:HO}{t':Nat}(I:Inv X pins σ H s)(k:∀b u,s.heap.get? b=some u->h'.get? b=some u)(c:s.heap.objs.size<=a)(new:dN X.prog X.w (upd H a o) h' a o):
  Inv X pins σ (upd H a o) {s with heap:=h',toks:=t'}:=I.un (Un.laid k c (I.hok.fresh c)) (I.hok.laid k c new)
def Inv.write{x e:Addr}{o:HO}{t':Nat}(I:Inv X pins σ H s)(c:MK (H x))(he:e=x\/H e=some (.own x))(k:∀b u,b≠e->s.heap.get? b=some u->h'.get? b=some u)(a:∃u,h'.get? e=some u)
  (new:dN X.prog X.w (upd H x o) h' x o):Inv X pins σ (upd H x o) {s with heap:=h',toks:=t'}:=I.un (Un.write c he k a) (I.hok.write c he k a new)
def Inv.pins_of{a:List (Addr×Obj)}(I:Inv X pins σ H s)(h:∀p∈a,s.heap.get? p.1=some p.2/\H p.1=none/\p.1≠X.env.locals/\p.1∉X.fs/\∀v,p.2.data≠.cell v):Inv X a σ H s:=
 ⟨I.ok,I.os,I.bare,I.base,I.loc,I.cell,I.free,I.freeC,λp b=>(mQa.mp b).elim (λz=>I.pin p (List.mem_append_left _ z)) (h p),I.hok,I.len⟩
def A2{N:List Str}(c:N.Nodup){i j:Nat}{x:Str}(a:N[i]?=some x)(b:N[j]?=some x):i=j:=by
 obtain⟨f,d⟩:=gQs.mp a
 obtain⟨g,e⟩:=gQs.mp b
 exact(List.getElem_inj c).mp (d.trans e.symm)
def FG{M:Model}{A:Around}{E:Value->Shared->Prop}{i:Nat}{x:Str}{v:V}{u:Value}{Q:Unit->Shared->Prop}(I:Inv X pins σ H s)(hN:X.N.Nodup)(hi:X.N[i]?=some x)(B:Loc X.env.scope x)(r:RelV v u)
  (h:∀s',Inv X pins (σ.set i (some v)) H s'->(∃a,Heap.SameBut a s.heap s'.heap/\(a=X.env.locals\/X.env.cells.lookup x=some a))->Q () s') (hf:X.fn x=true\/X.env.scope.names.lookup x=some .local:=by first|exact .inl rfl|exact .inr rfl|assumption):wpAny M A (storeName X.env x u) Q E s:=by
 obtain⟨m,hn,hl⟩:=id I.loc
 have U:(X.env.scope.kind==.class||(X.env.scope.kind==.module&&X.env.locals !=X.env.globals))=false:=by rw[I.ok.kind];rfl
 have J:i<σ.length:=by rw[I.len];exact(gQs.mp hi).1
 have R:=I.cne
 have g:∀{a:Addr} {h':Heap},(∃o,s.heap.get? a=some o/\H a=none)->Heap.SameBut a s.heap h'->pd X.prog X.w H h':=λ{a h'} ha f b ob e=>by
  obtain⟨_,_,C⟩:=ha
  refine(I.hok b ob e).stay (λc w' t q=>(f.2 c ?_).trans q) (λ_ q=>q) λ_ _ q=>q
  rintro rfl
  rcases t with rfl|t
  ·rw[C] at e;cases e
  ·rw[C] at t;cases t
 rcases B with G|G
 ·refine wpAny_storeName_local G hn (λh' a1 f=> ?_) U
  obtain⟨oL,_,_,a0,_⟩:=id hn
  refine h _ ⟨I.ok,I.os,I.bare,⟨λb o e n P B=> ?_,λb o e n P B=> ?_,I.base.free,λb o e B=> ?_,I.base.tups,I.base.frzs,I.base.tbls⟩,⟨_,a1,λj y v' l F e3=> ?_⟩,λy c e=> ?_,I.free,I.freeC,λp hp=> ?_,g ⟨oL,a0,I.free⟩ f,by simpa using I.len⟩ ⟨_,f,.inl rfl⟩
  ·exact(f.2 b (Qwq (Qqq (Qiq e) I.ok.above))).trans (I.base.keep b o e n P B)
  ·obtain⟨sl,l⟩:=I.base.slot b o e n P B
   exact⟨sl,(f.2 b (Qwq (Qqq (Qiq e) I.ok.above))).trans l⟩
  ·obtain⟨o',l⟩:=I.base.there b o e B
   exact⟨o',(f.2 b (Qwq (Qqq (Qiq e) I.ok.above))).trans l⟩
  ·by_cases K:j=i
   ·subst K
    rw[hi] at l;cases l
    rw[Qyq J] at F
    cases F
    exact⟨u,r,.inl ⟨G,by simp⟩⟩
   ·rw[QKq (Ne.symm K)] at F
    obtain⟨u',r',q⟩:=hl j y v' l F e3
    refine⟨u',r',?_⟩
    rcases q with⟨k,e⟩|⟨k,c,e,z⟩
    ·refine .inl ⟨k,?_⟩
     have:y≠x:=λe=>K (A2 hN l (e▸hi))
     simp[this,e]
    ·exact .inr ⟨k,c,e,z.sameBut f (R y c e)⟩
  ·obtain⟨w',z⟩:=I.cell y c e
   exact⟨w',z.sameBut f (R y c e)⟩
  ·obtain⟨e,n,ne,nf,d⟩:=I.pin p hp
   exact⟨(f.2 p.1 ne).trans e,n,ne,nf,d⟩
 ·have L:X.fn x=true:=by
   rcases hf with z|z
   ·exact z
   ·rw[z] at G;cases G
  obtain⟨c,t⟩:=I.ok.has x (.inl G)
  obtain⟨w',z⟩:=I.cell x c t
  refine wpAny_storeName_cell I.ok.kind G t z (λh' W f=> ?_)
  obtain⟨oc,Z,S⟩:=id z
  refine h {s with heap:=h'} ⟨I.ok,I.os,I.bare,⟨λb o e n P B=> ?_,λb o e n P B=> ?_,I.base.free,λb o e B=> ?_,I.base.tups,I.base.frzs,I.base.tbls⟩,⟨m,hn.sameBut f (Ne.symm (R x c t)),λj y v' l F e3=> ?_⟩,λy c' e=> ?_,I.free,I.freeC,λp hp=> ?_,g ⟨oc,Z,I.freeC x c t⟩ f,by simpa using I.len⟩ ⟨c,f,.inr t⟩
  ·exact(f.2 b (Qwq (Qqq (Qiq e) (I.ok.cab x c L t)))).trans (I.base.keep b o e n P B)
  ·obtain⟨sl,l⟩:=I.base.slot b o e n P B
   exact⟨sl,(f.2 b (Qwq (Qqq (Qiq e) (I.ok.cab x c L t)))).trans l⟩
  ·obtain⟨o',l⟩:=I.base.there b o e B
   exact⟨o',(f.2 b (Qwq (Qqq (Qiq e) (I.ok.cab x c L t)))).trans l⟩
  ·by_cases K:j=i
   ·subst K
    rw[hi] at l;cases l
    rw[Qyq J] at F
    cases F
    exact⟨u,r,.inr ⟨.inl G,c,t,W⟩⟩
   ·rw[QKq (Ne.symm K)] at F
    obtain⟨u',r',q⟩:=hl j y v' l F e3
    refine⟨u',r',?_⟩
    rcases q with q|⟨k,c',e,z'⟩
    ·exact .inl q
    ·refine .inr ⟨k,c',e,z'.sameBut f ?_⟩
     rintro rfl
     exact K (A2 hN l (I.ok.inj _ _ _ e t▸hi))
  ·by_cases Y:c'=c
   ·subst Y;exact⟨_,W⟩
   ·obtain⟨w2,z2⟩:=I.cell y c' e
    exact⟨w2,z2.sameBut f Y⟩
  ·obtain⟨e,n,ne,nf,d⟩:=I.pin p hp
   refine⟨(f.2 p.1 ?_).trans e,n,ne,nf,d⟩
   intro q
   rw[q,Z] at e
   have q':oc=p.2:=QdQ e
   exact d w' (by rw[←q'];exact S)
def qc{M:Model}{A:Around}{E:Value->Shared->Prop}{i:Nat}{x:Str}{v:V}{u:Value}{Q:Unit->Shared->Prop}(I:Inv X pins σ H s)(d:X.N.Nodup)(hi:X.N[i]?=some x)(b:Loc X.env.scope x)(r:RelV v u)
  (h:∀a,Inv X pins (σ.set i (some v)) H a->Q () a) (e:X.fn x=true\/X.env.scope.names.lookup x=some .local:=by first|exact .inl rfl|exact .inr rfl|assumption):wpAny M A (storeName X.env x u) Q E s:=
 FG I d hi b r (λa c _=>h a c) e
def Inv.call'{a:Shared}{ch:List Addr}(I:Inv X pins σ H s)(g:a.os=s.os)(u:Un (HB X.stack) ch H H' s.heap a.heap)(f:pd X.prog X.w H' a.heap)(i:AllBare a.gens)
  (d:∀b∈ch,(b∈X.ex\/X.s₀.heap.objs.size<=b)/\b≠X.env.locals/\(∀x c,X.env.cells.lookup x=some c->c≠b)/\∀p∈X.pn++pins,p.1≠b):Inv X pins σ H' a:=by
 obtain⟨h',h,k,l,j⟩:=a
 have e:j=s.os:=g
 subst e
 exact I.call (g':=h) (t':=l) (d':=k) u f i d
end
abbrev XK:=Value->Option Addr->Hp->Prop
abbrev St:=List (Option V)
abbrev VK:=V->Hp->Prop
abbrev TE:=St->Hp->VK->Prop
abbrev TT:=St->Hp->(Bool->Hp->Prop)->Prop
abbrev TA:=St->Hp->(List V->Hp->Prop)->Prop
structure Ends where
 nx:St->Hp->Prop
 rt:VK
 bk:St->Hp->Prop:=λ_ _=>False
 ct:St->Hp->Prop:=λ_ _=>False
abbrev TS:=Ends->St->Hp->Prop
def EP(X:Cx)(a:List (Addr×Obj))(σ:St)(Q:VK)(u:Value)(c:Shared):Prop:=∃v b,Inv X a σ b c/\RelV v u/\Q v b
def TP(X:Cx)(a:List (Addr×Obj))(σ:St)(Q:Bool->Hp->Prop)(b:Bool)(d:Shared):Prop:=∃c,Inv X a σ c d/\Q b c
def AP(X:Cx)(a:List (Addr×Obj))(σ:St)(Q:List V->Hp->Prop)(d:List Value)(e:Shared):Prop:=∃c b,Inv X a σ b e/\bZ c d/\Q c b
def SP(X:Cx)(b:List (Addr×Obj))(D:Ends)(f:Flow)(d:Shared):Prop:=
 match f with
 |.next=>∃a c,Inv X b a c d/\D.nx a c
 |.brk=>∃a c,Inv X b a c d/\D.bk a c
 |.cont=>∃a c,Inv X b a c d/\D.ct a c
 |.ret u=>∃v a c,Inv X b a c d/\RelV v u/\D.rt v c
def PE(X:Cx)(e:Expr)(t:TE):Prop:=
 ∀(a:List (Addr×Obj)) (s:Shared) (b:St) (H:Hp) (Q:VK),Inv X a b H s->t b H Q->wpAny (model X.prog X.w) X.A (eval e X.env) (EP X a b Q) X.xe s
def PT(X:Cx)(e:Expr)(t:TT):Prop:=
 ∀(a:List (Addr×Obj)) (s:Shared) (b:St) (H:Hp) (Q:Bool->Hp->Prop),Inv X a b H s->t b H Q->wpAny (model X.prog X.w) X.A (isTrue e X.env (eval e X.env)) (TP X a b Q) X.xe s
def PW(X:Cx)(e:Expr)(t:TT):Prop:=
 ∀(b:Sem Value) (a:List (Addr×Obj)) (s:Shared) (c:St) (H:Hp) (Q:Bool->Hp->Prop),Inv X a c H s->t c H Q->wpAny (model X.prog X.w) X.A (isTrue e X.env b) (TP X a c Q) X.xe s
def PW.pt{X:Cx}{e:Expr}{t:TT}(h:PW X e t):PT X e t:=h _
def PA(X:Cx)(d:List Expr)(t:TA):Prop:=
 ∀(c:Pos) (a:List (Addr×Obj)) (s:Shared) (b:St) (H:Hp) (Q:List V->Hp->Prop),Inv X a b H s->t b H Q->wpAny (model X.prog X.w) X.A (spliced (backTo c (starEach d X.env))) (AP X a b Q) X.xe s
def PS(X:Cx)(st:Stmt)(t:TS):Prop:=
 ∀(a:List (Addr×Obj)) (s:Shared) (b:St) (H:Hp) (D:Ends),Inv X a b H s->t D b H->wpAny (model X.prog X.w) X.A (exec st X.env) (SP X a D) X.xe s
def t8(X:Cx)(st:List Stmt)(t:TS):Prop:=
 ∀(a:List (Addr×Obj)) (s:Shared) (b:St) (H:Hp) (D:Ends),Inv X a b H s->t D b H->wpAny (model X.prog X.w) X.A (execs st X.env) (SP X a D) X.xe s
def dC{α:Type}{t:Sem α}{Q b:α->Shared->Prop}{M:Model}{A:Around}{E:Value->Shared->Prop}{s:Shared}(h:wpAny M A t Q E s)(c:∀a s,Q a s->b a s):wpAny M A t b E s:=QRq h c λ_ _ x=>x
section
variable{X:Cx}
def K3(i:Nat):TE:=λa H Q=>∃v,a[i]?=some (some v)/\Q v H
def tC(v:V):TE:=λ_ H Q=>Q v H
def GP{i:Nat}{x:Str}{pos:Pos}(t:X.N[i]?=some x)(n:Kg X.env.scope x)(hd:(x==("__debug__":Str))=false:=by decide)(g:(x==("__classdict__":Str))=false:=by decide):PE X (.Name x pos) (K3 i):=by
 intro f s q H Q I h
 obtain⟨v,e,h⟩:=h
 obtain⟨m,o,k⟩:=I.loc
 obtain⟨u,r,l⟩:=k i x v t e n
 have d:EP X f q Q u s:=⟨v,H,I,r,h⟩
 rcases l with⟨b,p⟩|⟨b,c,j,a⟩
 ·exact wpAny_Name (wpAny_loadName_local I.ok.kind b o p d) hd
 ·rcases b with b|b
  ·exact wpAny_Name (wpAny_loadName_cell I.ok.kind b j a d) hd
  ·exact wpAny_Name (wpAny_loadName_free I.ok.kind b j a d g) hd
def Lv{i j pos}:PE X (.Constant (.int i) j pos) (tC (.int i)):=λ_ _ _ H _ I h=>wpAny_Constant_int ⟨.int i,H,I.tok _,⟨_,rfl⟩,h⟩
def Np{b j pos}:PE X (.Constant (.bool b) j pos) (tC (.bl b)):=λ_ _ _ H _ I h=>Constant_bool ⟨.bl b,H,I,rfl,h⟩
def LP{j pos}:PE X (.Constant .none j pos) (tC .non):=λ_ _ _ H _ I h=>Constant_none ⟨.non,H,I,rfl,h⟩
def Lc{x j pos}:PE X (.Constant (.str x) j pos) (tC (.str x)):=λ_ _ _ H _ I h=>Calls.Constant_str ⟨.str x,H,I.tok _,⟨_,rfl⟩,h⟩
def Gl(X:Cx)(x:Str):Prop:=X.env.kindOf x=some .globalImplicit
def zc{E:Value->Shared->Prop}{a:List (Addr×Obj)}{s:Shared}{σ:St}{H:Hp}{x:Str}{u:Value}{pos:Pos}{Q:Value->Shared->Prop}(I:Inv X a σ H s)(c:Gl X x)(b:X.mg x=some u)(h:Q u s)
  (hd:(x==("__debug__":Str))=false:=by decide):wpAny (model X.prog X.w) X.A (eval (.Name x pos) X.env) Q E s:=
 Calls.Name_function_global I.ok.kind c (Calls.loadGlobal_global (by rw[I.ok.glob];exact I.mod.glob.keeps I.bk) b h) hd
def mf{E:Value->Shared->Prop}{a:List (Addr×Obj)}{s:Shared}{σ:St}{H:Hp}{x:Str}{u:Value}{pos:Pos}{Q:Value->Shared->Prop}(I:Inv X a σ H s)(g:Gl X x)(f:X.mg x=none)(b:bootBuiltins x=some u)(h:Q u s)
  (c:x≠"__name__":=by decide) (hd:(x==("__debug__":Str))=false:=by decide):wpAny (model X.prog X.w) X.A (eval (.Name x pos) X.env) Q E s:=by
 obtain⟨i,e,d⟩:=I.mod.blt
 exact Calls.Name_function_global I.ok.kind g (Calls.loadGlobal_builtin (by rw[I.ok.glob];exact I.mod.glob.keeps I.bk) f (by rw[I.ok.blt];exact e.keeps I.bk) ((d x c).trans b) h) hd
def fT{x:Str}{v:V}{u:Value}{pos:Pos}(a:Gl X x)(b:X.mg x=some u)(r:RelV v u)(hd:(x==("__debug__":Str))=false:=by decide):PE X (.Name x pos) (tC v):=
 λ_ _ _ H _ I h=>zc I a b ⟨v,H,I,r,h⟩ hd
def gX{x:Str}{v:V}{u:Value}{pos:Pos}(a:Gl X x)(d:X.mg x=none)(b:bootBuiltins x=some u)(r:RelV v u)(c:x≠"__name__":=by decide)(hd:(x==("__debug__":Str))=false:=by decide):PE X (.Name x pos) (tC v):=
 λ_ _ _ H _ I h=>mf I a d b ⟨v,H,I,r,h⟩ c hd
variable{a b:Expr}{ta tb:TE}{pos:Pos}
variable{tA tB':TT}{rest:List Expr}
def NQ(t u:TT):TT:=λd H Q=>t d H λc H1=>if c=true then u d H1 Q else Q false H1
def OS(t u:TT):TT:=λd H Q=>t d H λc H1=>if c=true then Q true H1 else u d H1 Q
def Of(t:TT):TT:=λd H Q=>t d H λc H1=>Q (!c) H1
def Iu(f:PT X a tA):PW X (.BoolOp .And [a] pos) tA:=by
 intro i d s g H Q I h
 refine isTrue_and (dC (f d s g H Q I h) λc j e=> ?_)
 cases c with
 |true=>exact isTrue_and_nil e
 |false=>exact e
def K0(f:PT X a tA):PW X (.BoolOp .Or [a] pos) tA:=by
 intro i d s g H Q I h
 refine isTrue_or (dC (f d s g H Q I h) λc j e=> ?_)
 cases c with
 |false=>exact isTrue_or_nil e
 |true=>exact e
def LN(i:PT X a tA)(m:PW X (.BoolOp .And (b::rest) pos) tB'):PW X (.BoolOp .And (a::b::rest) pos) (NQ tA tB'):=by
 intro k d s e H Q I h
 refine isTrue_and (dC (i d s e H _ I h) λc l j=> ?_)
 obtain⟨H1,f,g⟩:=j
 cases c with
 |true=>exact m k d l e H1 Q f g
 |false=>exact⟨H1,f,g⟩
def ME(i:PT X a tA)(m:PW X (.BoolOp .Or (b::rest) pos) tB'):PW X (.BoolOp .Or (a::b::rest) pos) (OS tA tB'):=by
 intro k d s e H Q I h
 refine isTrue_or (dC (i d s e H _ I h) λc l j=> ?_)
 obtain⟨H1,f,g⟩:=j
 cases c with
 |true=>exact⟨H1,f,g⟩
 |false=>exact m k d l e H1 Q f g
def LI(e:PT X a tA):PT X (.UnaryOp .Not a pos) (Of tA):=by
 intro d s f H Q I h
 exact isTrue_not (e d s f H (λc H1=>Q (!c) H1) I h)
def Ng(ta tb:TE):TE:=λd H Q=>ta d H λx H1=>∃c,x=.bl c/\if c=true then tb d H1 Q else Q (.bl false) H1
def MZ(ta:TE):TE:=λd H Q=>ta d H λx H1=>∃c,x=.bl c/\Q (.bl (!c)) H1
def Ln{op}{t:TE}(h:PE X a t):PE X (.BoolOp op [a] pos) t:=λc s d H Q I e=>BoolOp_one (h c s d H Q I e)
def KR(k:PE X a ta)(m:PE X (.BoolOp .And (b::rest) pos) tb):PE X (.BoolOp .And (a::b::rest) pos) (Ng ta tb):=by
 intro d s f H Q I h
 refine BoolOp_and (dC (k d s f H _ I h) λv l i=> ?_)
 obtain⟨x,H1,g,j,e⟩:=i
 obtain⟨c,rfl,e⟩:=e
 cases j
 refine wpAny_truthy_bool ?_
 cases c with
 |true=>exact m d l f H1 Q g e
 |false=>exact⟨.bl false,H1,g,rfl,e⟩
def Lj(f:PE X a ta):PE X (.UnaryOp .Not a pos) (MZ ta):=by
 intro d s g H Q I h
 refine UnaryOp_ (dC (f d s g H _ I h) λv l i=> ?_)
 obtain⟨x,H1,j,k,e⟩:=i
 obtain⟨c,rfl,e⟩:=e
 cases k
 exact not_of (wpAny_truthy_bool ⟨.bl (!c),H1,j,rfl,e⟩)
def OX(t:TT)(ta tb:TE):TE:=λd H Q=>t d H λc H1=>if c=true then ta d H1 Q else tb d H1 Q
def G3{c:Expr}(n:PT X c tA)(k:PE X a ta)(m:PE X b tb):PE X (.IfExp c a b pos) (OX tA ta tb):=by
 intro e s f H Q I h
 refine wpAny_IfExp (dC (n e s f H _ I h) λd i l=> ?_)
 obtain⟨H1,g,j⟩:=l
 cases d with
 |true=>exact k e i f H1 Q g j
 |false=>exact m e i f H1 Q g j
end
def jN(K:PySem.W.Frag)(H:Hp)(a:Addr)(xs:List V):Prop:=
 Rd H a (.lst xs)∨
  ∃(o:Obj) (b:Array Value) (n:Nat),K.lookup a=some o/\o.cls=.type "list" /\o.dict=none/\o.data=.seq b n/\b.size<=sizeLine/\bZ xs b.toList
def jy(K:PySem.W.Frag)(H:Hp)(a:Addr)(xs:List V):Prop:=
 Rd H a (.tup xs)∨
  ∃(o:Obj) (b:Array Value) (n:Nat),K.lookup a=some o/\o.cls=.type "tuple" /\o.data=.seq b n/\b.size<=sizeLine/\bZ xs b.toList
noncomputable def NV:Value->Option V
 |.none=>some .non
 |.bool b=>some (.bl b)
 |.int i _=>some (.int i)
 |.str x _=>some (.str x)
 |.bytes b _=>some (.byt b)
 |.float b _=>some (.flt b)
 |.ref a=>some (.ref a)
 |.type n=>some (.ty n)
 |_=>none
def RelV.abs{x:V}{u:Value}(r:RelV x u):NV u=some x:=by
 cases x with
 |non=>cases r;rfl
 |bl _=>cases r;rfl
 |int _=>obtain⟨t,rfl⟩:=r;rfl
 |str _=>obtain⟨t,rfl⟩:=r;rfl
 |byt _=>obtain⟨t,rfl⟩:=r;rfl
 |flt _=>obtain⟨t,rfl⟩:=r;rfl
 |ref _=>cases r;rfl
 |ty _=>cases r;rfl
def RelV.inj{x y:V}{u:Value}(r:RelV x u)(q:RelV y u):x=y:=QdQ (r.abs.symm.trans q.abs)
theorem bZ.inj:∀{xs ys:List V} {a:List Value},bZ xs a->bZ ys a->xs=ys
 |_,_,_,.nil,.nil=>rfl
 |_,_,_,.cons r t,.cons r' t'=>by rw[r.inj r',bZ.inj t t']
section
variable{X:Cx}{pins:List (Addr×Obj)}{σ:St}{H:Hp}{s:Shared}{a:Addr}{xs ys:List V}
def jN.of{K:PySem.W.Frag}(h:H a=some (.lst xs)):jN K H a xs:=.inl (.inl h)
def jy.of{K:PySem.W.Frag}(h:H a=some (.tup xs)):jy K H a xs:=.inl (.inl h)
def Inv.list(I:Inv X pins σ H s)(h:jN X.K H a xs):∃b:List Value,bZ xs b/\PlainL s.heap a b.toArray/\xs.length<=sizeLine:=by
 rcases h with h|⟨o,b,n,d,g,c,f,i,r⟩
 ·obtain⟨z,b,n,r,e⟩:=h.ok I.hok
  exact⟨b,r,⟨_,n,e,rfl,rfl,rfl⟩,z⟩
 ·refine⟨b.toList,r,⟨o,n,I.kIn a o d,g,c,by simpa using f⟩,?_⟩
  have e:=r.length
  simp only[Array.length_toList] at e
  omega
def Inv.tuple(I:Inv X pins σ H s)(h:jy X.K H a xs):∃b:List Value,bZ xs b/\IsTup s.heap a b.toArray/\xs.length<=sizeLine:=by
 rcases h with h|⟨o,b,n,c,f,d,g,r⟩
 ·obtain⟨z,b,r,p⟩:=h.ok I.hok
  exact⟨b,r,p.it,z⟩
 ·refine⟨b.toList,r,⟨o,I.kIn a o c,f,n,by simpa using d⟩,?_⟩
  have e:=r.length
  simp only[Array.length_toList] at e
  omega
def Inv.list_inj(I:Inv X pins σ H s)(h:jN X.K H a xs)(h':jN X.K H a ys):xs=ys:=by
 obtain⟨c,r,⟨o,n,e,_,_,d⟩,_⟩:=I.list h
 obtain⟨b,i,⟨l,k,g,_,_,f⟩,_⟩:=I.list h'
 rw[e] at g;cases g
 rw[d] at f
 injection f with j _
 have:c=b:=by simpa using congrArg Array.toList j
 subst this
 exact r.inj i
def Inv.tuple_inj(I:Inv X pins σ H s)(h:jy X.K H a xs)(h':jy X.K H a ys):xs=ys:=by
 obtain⟨c,r,⟨o,e,_,n,d⟩,_⟩:=I.tuple h
 obtain⟨b,i,⟨l,g,_,k,f⟩,_⟩:=I.tuple h'
 rw[e] at g;cases g
 rw[d] at f
 injection f with j _
 have:c=b:=by simpa using congrArg Array.toList j
 subst this
 exact r.inj i
end
noncomputable abbrev Cx.wish(X:Cx)(E:Value->Shared->Prop):Cx:={X with xe:=E}
noncomputable abbrev Cx.nox(X:Cx):Cx:=X.wish λ_ _=>False
def Cx.Ok.wish{X:Cx}(ok:X.Ok)(E:Value->Shared->Prop):(X.wish E).Ok:=
 ⟨ok.mod,ok.kind,ok.glob,ok.blt,ok.above,ok.inj,ok.has,ok.cab,ok.hd,ok.frames,ok.stk,ok.exf,ok.bs,ok.bsz,ok.noex,ok.exfs,ok.funs,ok.frf⟩
def Cx.Ok.unwish{X:Cx}{E:Value->Shared->Prop}(ok:(X.wish E).Ok):X.Ok:=
 ⟨ok.mod,ok.kind,ok.glob,ok.blt,ok.above,ok.inj,ok.has,ok.cab,ok.hd,ok.frames,ok.stk,ok.exf,ok.bs,ok.bsz,ok.noex,ok.exfs,ok.funs,ok.frf⟩
section
variable{X:Cx}{pins:List (Addr×Obj)}{σ:St}{H:Hp}{s:Shared}{E:Value->Shared->Prop}
def Inv.wish(I:Inv X pins σ H s)(E:Value->Shared->Prop):Inv (X.wish E) pins σ H s:=⟨I.ok.wish E,I.os,I.bare,I.base,I.loc,I.cell,I.free,I.freeC,I.pin,I.hok,I.len⟩
def Inv.unwish(I:Inv (X.wish E) pins σ H s):Inv X pins σ H s:=⟨I.ok.unwish,I.os,I.bare,I.base,I.loc,I.cell,I.free,I.freeC,I.pin,I.hok,I.len⟩
theorem SP.unwish{D:Ends}{f:Flow}{c:Shared}(h:SP (X.wish E) pins D f c):SP X pins D f c:=by
 cases f with
 |next=>obtain⟨a,b,I,q⟩:=h;exact⟨a,b,I.unwish,q⟩
 |brk=>obtain⟨a,b,I,q⟩:=h;exact⟨a,b,I.unwish,q⟩
 |cont=>obtain⟨a,b,I,q⟩:=h;exact⟨a,b,I.unwish,q⟩
 |ret u=>obtain⟨v,a,b,I,r,q⟩:=h;exact⟨v,a,b,I.unwish,r,q⟩
def t8.nox{st:List Stmt}{t:TS}(h:t8 X.nox st t):t8 X st t:=λpins s σ H D I a=>
 QRq (h pins s σ H D (I.wish _) a) (λ_ _ q=>q.unwish) λ_ _ z=>False.elim z
end
section
variable{X:Cx}{st:Stmt}{rest:List Stmt}{t u:TS}{e:Expr}{te:TE}{pos:Pos}
def Mv:TS:=λD a H=>D.nx a H
def Ol(t u:TS):TS:=λD a H=>t {D with nx:=u D} a H
def JV:t8 X [] Mv:=λ_ _ a H _ I h=>wpAny_execs_nil ⟨a,H,I,h⟩
def GL(c:PS X st t)(k:t8 X rest u):t8 X (st::rest) (Ol t u):=by
 intro a s d H D I h
 refine wpAny_execs_cons (dC (c a s d H {D with nx:=u D} I h) λf i q=> ?_)
 cases f with
 | next=>
   obtain⟨b,g,j,q⟩:=q
   exact k a i b g D j q
 |ret v=>exact q
 |brk=>exact q
 |cont=>exact q
def JM(b:PS X st t):t8 X [st] t:=by
 intro a s c H D I h
 refine wpAny_execs_cons (dC (b a s c H D I h) λf d q=> ?_)
 cases f with
 |next=>exact wpAny_execs_nil q
 |ret v=>exact q
 |brk=>exact q
 |cont=>exact q
def Inv.quiet{a:List (Addr×Obj)}{σ:St}{H:Hp}{s:Shared}(I:Inv X a σ H s):interactive X.env=false:=by simp[interactive,I.ok.kind]
def M7(te:TE):TS:=λD a H=>te a H λ_ H1=>D.nx a H1
def JB(he:PE X e te)(d:swapsWith e none pos.line X.env=pure false:=by rfl):PS X (.Expr e pos) (M7 te):=by
 intro a s b H D I h
 exact wpAny_Expr_any (dC (he a s b H _ I h) λv i ⟨x,H1,c,g,f⟩=>⟨b,H1,c,f⟩) I.quiet d
def Oc(te:TE):TS:=λD a H=>te a H D.rt
def FY(he:PE X e te):PS X (.Return (some e) pos) (Oc te):=by
 intro a s b H D I h
 exact wpAny_Return_some (dC (he a s b H _ I h) λv g ⟨x,H1,c,d,f⟩=>⟨x,b,H1,c,d,f⟩)
def Oq(c:TT)(t u:TS):TS:=λD a H=>c a H λb H1=>if b=true then t D a H1 else u D a H1
def MG{c:Expr}{a b:List Stmt}{i:TT}(o:PT X c i)(n:t8 X a t)(p:t8 X b u):PS X (.If c a b pos) (Oq i t u):=by
 intro f s g H D I h
 refine wpAny_If (dC (o f s g H _ I h) λd j m=> ?_)
 obtain⟨H1,k,l⟩:=m
 cases d with
 |true=>exact n f j g H1 D k l
 |false=>exact p f j g H1 D k l
def K5:TS:=λ_ _ _=>False
def GX:PS X st K5:=λ_ _ _ _ _ _ h=>h.elim
end
abbrev TG:=V->St->Hp->(St->Hp->Prop)->Prop
abbrev IA:=List V->St->Hp->(St->Hp->Prop)->Prop
def PG(X:Cx)(a:Expr)(t:TG):Prop:=
 ∀ (b:List (Addr×Obj)) (s:Shared) (d:St) (H:Hp) (v:V) (u:Value) (Q:St->Hp->Prop),Inv X b d H s->RelV v u->t v d H Q→
   wpAny (model X.prog X.w) X.A (assign a X.env u) (λ_ f=>∃c e,Inv X b c e f/\Q c e) X.xe s
def Ij(X:Cx)(ts:List Expr)(t:IA):Prop:=
 ∀ (a:List (Addr×Obj)) (s:Shared) (c:St) (H:Hp) (f:List V) (d:List Value) (Q:St->Hp->Prop),Inv X a c H s->bZ f d->t f c H Q→
   wpAny (model X.prog X.w) X.A (assignInOrder ((assignEach ts X.env).map (·.2)) d) (λ_ g=>∃b e,Inv X a b e g/\Q b e) X.xe s
abbrev Gd:=V->V->V->Hp->(Hp->Prop)->Prop
def Kq(X:Cx)(t:Gd):Prop:=
 ∀ (a:List (Addr×Obj)) (s:Shared) (b:St) (H:Hp) (o i v:V) (c e u:Value) (Q:Hp->Prop),Inv X a b H s->RelV o c->RelV i e->RelV v u->t o i v H Q→
   wpAny (model X.prog X.w) X.A (setItem c e u) (λ_ f=>∃d,Inv X a b d f/\Q d) X.xe s
abbrev ND:=V->V->Hp->VK->Prop
def OH(X:Cx)(c:Operator)(t:ND):Prop:=
 ∀ (a:List (Addr×Obj)) (s:Shared) (b:St) (H:Hp) (x y:V) (v u:Value) (Q:VK),Inv X a b H s->RelV x v->RelV y u->t x y H Q→
   wpAny (model X.prog X.w) X.A (inplaceOp c v u) (EP X a b Q) X.xe s
section
variable{X:Cx}{pos:Pos}
def ve(i:Nat):TG:=λv a H Q=>Q (a.set i (some v)) H
def yd{i:Nat}{x:Str}(b:X.N.Nodup)(hi:X.N[i]?=some x)(e:Loc X.env.scope x)(c:X.fn x=true\/X.env.scope.names.lookup x=some .local:=by first|exact .inl rfl|exact .inr rfl|assumption):PG X (.Name x pos) (ve i):=by
 intro a s f H v u Q I r h
 exact wpAny_assign_Name (qc I b hi e r (λg d=>⟨_,H,d,h⟩) c)
def N1:IA:=λa b H Q=>a= []/\Q b H
def Mn(t:TG)(u:IA):IA:=λd b H Q=>∃v r,d=v::r/\t v b H λa c=>u r a c Q
def IM:Ij X [] N1:=by
 intro a s b H d c Q I r h
 obtain⟨e,h⟩:=h
 subst e
 cases r
 exact assignInOrder_nil ⟨b,H,I,h⟩
def HC{e:Expr}{b:List Expr}{t:TG}{u:IA}(i:PG X e t)(f:Ij X b u)
  (g:(assignEach (e::b) X.env).map (·.2)=assign e X.env::(assignEach b X.env).map (·.2):=by rfl):Ij X (e::b) (Mn t u):=by
 intro a s k H w p Q I r h
 obtain⟨v,q,n,h⟩:=h
 subst n
 cases r with
 | cons r m=>
   rw[g]
   refine assignInOrder_cons (dC (i a s k H _ _ _ I r h) λ_ j d=> ?_)
   obtain⟨c,H1,l,o⟩:=d
   exact f a j c H1 _ _ Q l m o
def N8(K:PySem.W.Frag)(n:Nat)(t:IA):TG:=λv c H Q=>∃a b,v=.ref a/\jy K H a b/\b.length=n/\t b c H Q
def LR{d:List Expr}{k:Nat}{t:IA}{n:Nat}(A:X.calm=true)(h:Ij X d t)
  (m:(assignEach d X.env).length=n:=by rfl) (f:(assignEach d X.env).findIdx? (·.1)=none:=by rfl):PG X (.Tuple d k pos) (N8 X.K n t):=by
 intro c s j H v u Q I r g
 obtain⟨a,x,C,y,l,g⟩:=g
 subst C
 cases r
 obtain⟨z,i,w,F⟩:=I.tuple y
 refine assign_Tuple_tuple (I.ok.hd A) w (by simp[m,←l,i.length]) f λq p=> ?_
 have B:Inv X c j H {s with heap:=q}:=I.kept (t':=s.toks) λb o e=>p b o (Qwq (Qiq e)) e
 exact h c _ j H x _ Q B (by simpa using i) g
def Mm(c b:TE)(t:Gd):TG:=λv a H Q=>c a H λo H1=>b a H1 λi H2=>t o i v H2 λH3=>Q a H3
def La{o i:Expr}{g f:TE}{t:Gd}(j:PE X o g)(hi:PE X i f)(p:Kq X t)
  (q:∀v,assign (.Subscript o i pos) X.env v=(do
   let b←holding [v] (eval o X.env)
   let d←holding [v,b] (eval i X.env)
   standAt pos
   holding [v,b,d] (setItem b d v)
   release [v,b,d] []):=by intro _;rfl):PG X (.Subscript o i pos) (Mm g f t):=by
 intro a s e H v u Q I r h
 rw[q]
 refine Qaq (QLq (dC (j a s e H _ I h) λb w c=> ?_))
 obtain⟨x,H1,A,l,C⟩:=c
 refine Qaq (QLq (dC (hi a w e H1 _ A C) λd k c=> ?_))
 obtain⟨y,H2,z,F,m⟩:=c
 refine Qaq (wpAny_standAt (Qaq (QLq (dC (p a k e H2 x y v b d u _ z l F r m) λ_ G c=> ?_))))
 obtain⟨H3,n,B⟩:=c
 exact wpAny_release ⟨e,H3,n,B⟩
def Ez(b:TE)(g:TG):TS:=λD a H=>b a H λx H1=>g x a H1 D.nx
def Lr{tg e:Expr}{b:TE}{g:TG}(he:PE X e b)(m:PG X tg g)(f:swapsWithSole [tg] e pos.line X.env=pure false:=by rfl)(i:swappedStores [tg] e X.env=pure none:=by rfl)
  (j:(assignEach [tg] X.env).map (·.2)= [assign tg X.env]:=by rfl):PS X (.Assign [tg] e pos) (Ez b g):=by
 intro a s c H D I h
 refine wpAny_Assign_stores (dC (he a s c H _ I h) λv k ⟨x,H1,l,d,n⟩=> ?_) f i
 rw[j]
 exact dC (m a k c H1 x v _ l d n) λ_ o q=>q
def Lo{i:Nat}{x:Str}{e:Expr}{c:TE}{a:Pos}(n:X.N.Nodup)(hi:X.N[i]?=some x)(f:Loc X.env.scope x)(he:PE X e c)(g:swapsWith e (some (.Name x a)) pos.line X.env=pure false:=by rfl)(j:X.fn x=true\/X.env.scope.names.lookup x=some .local:=by first|exact .inl rfl|exact .inr rfl|assumption):
  PS X (.Assign [.Name x a] e pos) (Ez c (ve i)):=by
 intro b s l H D I h
 refine wpAny_Assign_Name (dC (he b s l H _ I h) λv q ⟨y,H1,m,d,o⟩=> ?_) g
 exact qc m n hi f d (λp k=>⟨_,H1,k,o⟩) j
def Na(i j:Nat)(b:TA):TS:=λD a H=>b a H λc H1=>∃v w,c= [v,w]/\D.nx ((a.set i (some v)).set j (some w)) H1
def Kl{i j:Nat}{x y:Str}{a b:Expr}{C:TA}{m r l:Pos}{kt k2 pt2}(hc:X.calm=true)(G:X.N.Nodup)(hi:X.N[i]?=some x)(L:X.N[j]?=some y)(n:i≠j)
  (z:X.env.scope.names.lookup x=some .local) (B:X.env.scope.names.lookup y=some .local) (W:PA X [a,b] C)
  (S:swappedStores [.Tuple [.Name x m,.Name y r] kt l] (.Tuple [a,b] k2 pt2) X.env=pure (some [x,y]))
  (R:swapsWithSole [.Tuple [.Name x m,.Name y r] kt l] (.Tuple [a,b] k2 pt2) pos.line X.env=pure false:=by rfl):
  PS X (.Assign [.Tuple [.Name x m,.Name y r] kt l] (.Tuple [a,b] k2 pt2) pos) (Na i j C):=by
 intro c s F H D I h
 rw[exec_Assign_arm]
 refine Qaq (wpAny_standAt ?_)
 rw[R]
 refine Qaq (Qgq ?_)
 rw[Quq (by decide)]
 refine Qaq (Tuple_ (dC (W _ c s F H _ I h) λP f J=> ?_))
 obtain⟨vs,H1,I1,K,t⟩:=J
 obtain⟨v,w,e1,t⟩:=t
 subst e1
 obtain⟨g,d,rfl,rv,rw'⟩:∃g d,P= [g,d]/\RelV v g/\RelV w d:=by
  cases K with
  | cons p q=>
    cases q with
    | cons M q'=>
      cases q'
      exact⟨_,_,rfl,p,M⟩
 refine QhQ ?_ (by show 2<=_;decide)
 have Z:Inv X c F H1 {f with heap:=f.heap.push {cls:=.type "tuple",data:=.seq [g,d].toArray}}:=I1.kept (t':=f.toks) λb o e=>Qcq _ e
 rw[S]
 refine Qaq (Qgq ?_)
 show wpAny (model X.prog X.w) X.A (do rule "assign.swapped-stores";let items←unpackItems (.ref f.heap.objs.size) 2 none;assignInOrder [λv=>bindName X.env y v,λv=>bindName X.env x v] items.reverse;pure Flow.next) _ _ _
 refine Qaq (wpAny_rule (Qaq (unpackItems_tuple (items:= #[g,d]) (I.ok.hd hc) (IsTup.new f.heap _) λY k=> ?_)))
 have Q:=Z.kept (h':=Y) (t':=f.toks) λb o e=>k b o (Qwq (Qiq e)) e
 show wpAny _ _ (assignInOrder [λv=>bindName X.env y v,λv=>bindName X.env x v] [d,g] >>= λ_=>pure Flow.next) _ _ _
 refine Qaq (assignInOrder_cons (wpAny_bindName (qc Q G L (.inl B) rw' (λs2 U=> ?_) (.inr B))))
 refine assignInOrder_cons (wpAny_bindName (qc U G hi (.inl z) rv (λs3 u=>assignInOrder_nil (Qgq ?_)) (.inr z)))
 rw[List.set_comm _ _ (Ne.symm n)] at u
 exact⟨_,H1,u,t⟩
def Mq(g f e:TE)(b:V->V->Hp->VK->Prop)(d:ND)(a:Gd):TS:=λD c H=>g c H λo H1=>f c H1 λi H2=>b o i H2 λx H3=>e c H3 λy H4=>d x y H4 λz H5=>a o i z H5 λh=>D.nx c h
def MX(X:Cx)(t:V->V->Hp->VK->Prop):Prop:=
 ∀ (a:List (Addr×Obj)) (s:Shared) (b:St) (H:Hp) (o i:V) (c d:Value) (Q:VK),Inv X a b H s->RelV o c->RelV i d->t o i H Q→
   wpAny (model X.prog X.w) X.A (getItem c d) (EP X a b Q) X.xe s
def Iz{o i e:Expr}{r q n:TE}{c:V->V->Hp->VK->Prop}{k:ND}{b:Gd}{u:Operator}{l:Pos}(z:PE X o r)(hi:PE X i q)(hg:MX X c)(he:PE X e n)(hp:OH X u k)(N:Kq X b)
  (W:∀f g new,augStore i f g new=(do holding [new,f,g] (setItem f g new);release [new,f,g] [];pure .next):=by intros;rfl):PS X (.AugAssign (.Subscript o i l) u e pos) (Mq r q n c k b):=by
 intro a s j H D I h
 refine wpAny_AugAssign_SubscriptAny (dC (z a s j H _ I h) λf s1 ⟨w,H1,I1,p,q1⟩=> ?_) W
 refine dC (hi a s1 j H1 _ I1 q1) λg A d=> ?_
 obtain⟨t,H2,I2,x,L⟩:=d
 refine dC (hg a A j H2 w t f g _ I2 p x L) λm J d=> ?_
 obtain⟨P,H3,M,r3,q3⟩:=d
 refine dC (he a J j H3 _ M q3) λv y d=> ?_
 obtain⟨B,H4,Q,K,G⟩:=d
 refine dC (hp a y j H4 P B m v _ Q r3 K G) λnew Z d=> ?_
 obtain⟨x5,H5,C,R,Y⟩:=d
 exact dC (N a Z j H5 w t x5 f g new _ C p x R Y) λ_ s6 ⟨U,F,S⟩=>⟨j,U,F,S⟩
def OU(f:Int->Int->Int):ND:=λx y H Q=>∃i j,x=.int i/\y=.int j/\Q (.int (f i j)) H
def LD:OH X .Add (OU λi j=>i+j):=by
 intro a s g H x y v u Q I b e h
 obtain⟨i,j,d,c,q⟩:=h
 subst d;subst c
 obtain⟨t,rfl⟩:=b
 obtain⟨f,rfl⟩:=e
 exact iadd_int ⟨.int _,H,I.tok _,⟨_,rfl⟩,q⟩
end
section
variable{X:Cx}{pos:Pos}
def Lh(c:TT)(g:TS):TS:=λD a H=>∃W:Nat->St->Hp->Prop,(∃m,W m a H)/\∀m a H,W m a H→
 c a H λb H1=>if b=true then∃N:St->Hp->Prop,(∀d e,N d e->∃f,f<m/\W f d e)/\g {D with nx:=N,ct:=N,bk:=D.nx} a H1 else D.nx a H1
def F1{c:Expr}{g:List Stmt}{t:TT}{y:TS}(x:PassesOwn (model X.prog X.w) X.A X.env X.xe)(M:PT X c t)(S:t8 X g y):PS X (.While c g [] pos) (Lh t y):=by
 intro a s Q H D I h
 obtain⟨W,⟨G,P⟩,i⟩:=h
 refine wpAny_While (codeAny_whileLoop (λn J=>∃j z,Inv X a j z J/\W n j z) ?_ G ⟨Q,H,I,P⟩)
 rintro n L ⟨e,H1,R,K⟩
 refine wpAny_passesOwn x (dC (M a L e H1 _ R (i n e H1 K)) λb F C=> ?_)
 obtain⟨H2,u,k⟩:=C
 cases b with
 | true=>
   obtain⟨N,B,k⟩:=k
   rw[Qhq rfl]
   refine wpAny_passesOwn x (dC (S a F e H2 _ u k) λf U l=> ?_)
   cases f with
   | next=>
     obtain⟨d,H3,m,o⟩:=l
     obtain⟨p,r,q⟩:=B d H3 o
     exact⟨p,r,d,H3,m,q⟩
   | cont=>
     obtain⟨d,H3,m,o⟩:=l
     obtain⟨p,r,q⟩:=B d H3 o
     exact⟨p,r,d,H3,m,q⟩
   |brk=>exact l
   |ret v=>exact l
 | false=>
   rw[Quq Qtq]
   exact wpAny_execs_nil ⟨e,H2,u,k⟩
end
structure It where
 go:Nat->Hp->Prop
 yld:Nat->Hp->V->Hp->Prop
 stop:Nat->Hp->Prop
def qD(X:Cx)(a:List (Addr×Obj))(H:Hp)(b:Addr):Prop:=
 H b=none/\b≠X.env.locals/\b∉X.fs/\(b∈X.ex\/X.s₀.heap.objs.size<=b)/\(∀x c,X.env.cells.lookup x=some c->c≠b)/\∀p∈X.pn++a,p.1≠b
def Inv.fpOk{X:Cx}{a:List (Addr×Obj)}{σ:St}{H f:Hp}{s:Shared}{b:Addr}(I:Inv X a σ H s)(d:s.heap.objs.size<=b)(h:f b=none):qD X a f b:=by
 refine⟨h,Nat.ne_of_gt (Qqq I.lt d),I.nofs d,.inr (QAq I.sz d),λx c e z=> ?_,λp g z=> ?_⟩
 ·obtain⟨v,q⟩:=I.cell x c e
  exact absurd (Qqq q.lt (by rw[z];exact d)) (Nat.lt_irrefl _)
 ·exact absurd (Qqq (Qiq (I.pin p g).1) (by rw[z];exact d)) (Nat.lt_irrefl _)
structure Turn(P:Program)(w:World)(K:PySem.W.Frag)(tg:Expr)(J:It)(fp:List Addr)(it:Addr)(tn:Nat->Heap->Prop):Prop where
 mem:it∈fp
 obj:∀i h,tn i h->∀b∈fp,∃o,h.get? b=some o/\∀v,o.data≠.cell v
 keep:∀i h h',tn i h->(∀b∈fp,∀o,h.get? b=some o->h'.get? b=some o)->tn i h'
 item:∀(X:Cx),X.prog=P->X.w=w->X.K=K->X.calm=true->∀(i:Nat) (pins:List (Addr×Obj)) (s:Shared) (σ:St) (H:Hp) (E:Value->Shared->Prop),Inv X pins σ H s->(∀b∈fp,qD X pins H b)->tn i s.heap->J.go i H→
  wpAny (model P w) X.A (pyNext (.ref it)) (λr s1=>∃u,r=some u∧
   wpAny (model P w) X.A (letOwnedTupleGo tg (.ref it) u) (λ_ s2=>∃x H',Inv X pins σ H' s2/\RelV x u/\J.yld i H x H'/\tn (i+1) s2.heap/\∀b∈fp,H' b=none) E s1) E s
 done:∀(X:Cx),X.prog=P->X.w=w->X.K=K->X.calm=true->∀(i:Nat) (pins:List (Addr×Obj)) (s:Shared) (σ:St) (H:Hp) (E:Value->Shared->Prop),Inv X pins σ H s->(∀b∈fp,qD X pins H b)->tn i s.heap->J.stop i H→
  wpAny (model P w) X.A (pyNext (.ref it)) (λr s1=>r=none/\Inv X pins σ H s1) E s
 self:∀(A:Around) (i:Nat) (s:Shared) (Q:Value->Shared->Prop) (E:Value->Shared->Prop),tn i s.heap->Q (.ref it) s->wpAny (model P w) A (pyIter (.ref it)) Q E s
abbrev TI:=St->Hp->(It->Hp->Prop)->Prop
def Ow(X:Cx)(a:List (Addr×Obj))(σ:St)(tg:Expr)(R:It->Hp->Prop)(c:Value)(f:Shared):Prop:=
 ∃(e:Addr) (h:List Addr) (g:Nat->Heap->Prop) (J:It) (d:Hp),c=.ref e/\Inv X a σ d f/\Turn X.prog X.w X.K tg J h e g/\g 0 f.heap/\(∀b∈h,qD X a d b)/\R J d
def PI(X:Cx)(tg b:Expr)(d:TI):Prop:=
 ∀ (a:List (Addr×Obj)) (s:Shared) (c:St) (H:Hp) (R:It->Hp->Prop),Inv X a c H s->d c H R→
   wpAny (model X.prog X.w) X.A (eval b X.env) (λv e=>wpAny (model X.prog X.w) X.A (pyIter v) (Ow X a c tg R) X.xe e) X.xe s
def Gm{M:Model}{A:Around}{E:Value->Shared->Prop}{s:Shared}{tg:Expr}{it:Addr}{u:Value}{o:Obj}{n:String}{vs:Array Value}{Q:Unit->Shared->Prop}(b:s.heap.get? it=some o)(c:o.cls=.type n)(hd:o.data=.fields vs)
    (d: ["enumerate","zip","dict_itemiterator","dict_reverseitemiterator","odict_iterator","itertools.zip_longest","itertools.pairwise"].contains n=false) (a:Q () s):wpAny M A (letOwnedTupleGo tg (.ref it) u) Q E s:=by
  unfold letOwnedTupleGo
  cases tg <;>first
    |exact Qgq a
    |(cases u <;>first
        |exact Qgq a
        |(refine Qaq (wpAny_load b ?_)
          rw[c,hd]
          show wpAny M A (if (["enumerate","zip","dict_itemiterator","dict_reverseitemiterator","odict_iterator","itertools.zip_longest","itertools.pairwise"].contains n&&vs[0]? ==some (rawInt _))=true then _ else _) Q E s
          rw[Quq (by intro h;rw[d,Bool.false_and] at h;cases h)]
          exact Qgq a))
noncomputable def OC(K:PySem.W.Frag)(a:Addr):It:=
 ⟨λi H=>∃b x,jN K H a b/\b[i]?=some x,λi H x c=>c=H/\∀b,jN K H a b->b[i]?=some x,λi H=>∃b,jN K H a b/\b.length<=i⟩
noncomputable def OM(K:PySem.W.Frag)(a:Addr):It:=
 ⟨λi H=>∃b x,jy K H a b/\b[i]?=some x,λi H x c=>c=H/\∀b,jy K H a b->b[i]?=some x,λi H=>∃b,jy K H a b/\b.length<=i⟩
noncomputable def NI(lo:Int)(n:Nat):It:=⟨λi _=>i<n,λi H x a=>a=H/\x=.int (lo+i),λi _=>n<=i⟩
def Ft{P:Program}{w:World}{K:PySem.W.Frag}{tg:Expr}(a it:Addr):Turn P w K tg (OC K a) [it] it (λi h=>h.IsListIter it a i) where
 mem:=by simp
 obj:=λi h f b j=>by
  have e:b=it:=by simpa using j
  subst e
  obtain⟨o,e,c,d⟩:=f
  exact⟨o,e,λv z=>by rw[d] at z;cases z⟩
 keep:=λi h n f k=>f.at λo e=>k it (by simp) o e
 item:=by
  intro X G J t Q i g s R H E I m f N
  subst G J t
  obtain⟨xs,x,q,B⟩:=N
  obtain⟨L,C,p,Z⟩:=I.list q
  obtain⟨u,hu,S⟩:=C.get B
  obtain⟨A,M,Y,r,y,F⟩:=m it (by simp)
  refine wpAny_pyNext_list_item f p.isList (x:=u) (by simpa using hu) λn l sb=> ?_
  have I1:Inv X g R H {s with heap:=n}:=I.turned (t':=s.toks) (λb o j e=>(sb.2 b j).trans e) A M r y F
  obtain⟨o,e,c,d⟩:=id l
  exact⟨u,rfl,Gm (s:={s with heap:=n}) e c d (by decide) ⟨x,H,I1,S,⟨rfl,λys U=>by rw[I.list_inj U q];exact B⟩,l,λb j=>(m b j).1⟩⟩
 done:=by
  intro X G J t Q i g s R H E I m f N
  subst G J t
  obtain⟨xs,q,B⟩:=N
  obtain⟨L,C,p,Z⟩:=I.list q
  obtain⟨A,M,Y,r,y,F⟩:=m it (by simp)
  have hl:=C.length
  exact wpAny_pyNext_list_end (I.ok.hd Q) f p.isList (by simp;omega) λn eb=>⟨rfl,I.turned (t':=s.toks) (λb o j e=>eb b o j e) A M r y F⟩
 self:=λ_ _ _ _ _ f h=>wpAny_pyIter_listiter f h
def B4{P:Program}{w:World}{K:PySem.W.Frag}{tg:Expr}(a it:Addr):Turn P w K tg (OM K a) [it] it (λi h=>h.IsTupleIter it a i) where
 mem:=by simp
 obj:=λi h f b l=>by
  have e:b=it:=by simpa using l
  subst e
  obtain⟨o,e,c,d⟩:=f
  exact⟨o,e,λv z=>by rw[d] at z;cases z⟩
 keep:=λi h q f k=>f.at λo e=>k it (by simp) o e
 item:=by
  intro X J L y Q i g s R H E I n f N
  subst J L y
  obtain⟨xs,x,r,C⟩:=N
  obtain⟨j,F,p,Z⟩:=I.tuple r
  obtain⟨u,hu,S⟩:=F.get C
  obtain⟨B,M,Y,t,A,G⟩:=n it (by simp)
  refine wpAny_pyNext_tuple_item f (show s.heap.IsTuple a j.toArray from p) (x:=u) (by simpa using hu) λq m sb=> ?_
  have I1:Inv X g R H {s with heap:=q}:=I.turned (t':=s.toks) (λb o l e=>(sb.2 b l).trans e) B M t A G
  obtain⟨o,e,c,d⟩:=id m
  exact⟨u,rfl,Gm (s:={s with heap:=q}) e c d (by decide) ⟨x,H,I1,S,⟨rfl,λys U=>by rw[I.tuple_inj U r];exact C⟩,m,λb l=>(n b l).1⟩⟩
 done:=by
  intro X J L y Q i g s R H E I n f N
  subst J L y
  obtain⟨xs,r,C⟩:=N
  obtain⟨j,F,p,Z⟩:=I.tuple r
  obtain⟨B,M,Y,t,A,G⟩:=n it (by simp)
  have hl:=F.length
  exact wpAny_pyNext_tuple_end (I.ok.hd Q) f (show s.heap.IsTuple a j.toArray from p) (by simp;omega) λq eb=>⟨rfl,I.turned (t':=s.toks) (λb o l e=>eb b o l e) B M t A G⟩
 self:=λ_ _ _ _ _ f h=>wpAny_pyIter_tupleiter f h
def BJ{P:Program}{w:World}{K:PySem.W.Frag}{tg:Expr}(it:Addr)(lo:Int)(n:Nat):Turn P w K tg (NI lo n) [it] it (λi h=>IsRangeIter h it (lo+(i:Nat)*1) ((n:Int)-(i:Nat)) 1) where
 mem:=by simp
 obj:=λi h a b d=>by
  have e:b=it:=by simpa using d
  subst e
  exact⟨_,a,λv z=>by
   have Q:Data.fields _=Data.cell v:=z
   cases Q⟩
 keep:=λi h j a k=>k it (by simp) _ a
 item:=by
  intro X u x m y i c s F H E I g a B
  subst u x m
  obtain⟨q,A,J,l,p,r⟩:=g it (by simp)
  have W:=Walks.range (prog:=X.prog) (w:=X.w) (I.ok.hd y) it lo 1 n
  refine W.item i s _ _ B a λv j C G f L=> ?_
  obtain⟨t,rfl⟩:=G
  have N:Inv X c F H {s with heap:=j,toks:=C}:=I.turned (λb o d e=>L b o (by simpa using d) e) q A l p r
  refine⟨_,rfl,Gm (s:={s with heap:=j,toks:=C}) (n:="range_iterator") f rfl rfl (by decide) ⟨.int (lo+i),H,N,⟨t,?_⟩,⟨rfl,rfl⟩,f,λb d=>(g b d).1⟩⟩
  rw[Int.mul_one]
 done:=by
  intro X u x m y i c s F H E I g a B
  subst u x m
  obtain⟨q,A,J,l,p,r⟩:=g it (by simp)
  exact wpAny_pyNext_range_end (I.ok.hd y) a (by have:n<=i:=B;omega) λj M=>⟨rfl,I.turned (t':=s.toks) (λb o d e=>M b o d e) q A l p r⟩
 self:=λ_ _ _ _ _ a h=>wpAny_pyIter_rangeiter a h
section
variable{X:Cx}{tg:Expr}
def Gp{a:List (Addr×Obj)}{σ:St}{H:Hp}{s:Shared}{R:It->Hp->Prop}{E:Value->Shared->Prop}{lo hi:Int}{t u v:Tok}{c:Nat}(I:Inv X a σ H s)(j: -(2^62)<=lo)(i:lo<2^62)(f: -(2^62)<=hi)(h:hi<2^62)
  (q:R (NI lo (hi-lo).toNat) H):wpAny (model X.prog X.w) X.A (pyIter (.ref s.heap.objs.size)) (Ow X a σ tg R) E {s with heap:=s.heap.push {cls:=.type "range",data:=.fields #[.int lo t,.int hi u,.int 1 v]},toks:=c}:=by
 refine wpAny_pyIter_range (IsRange.new ..) (small_one j i f h) ?_
 have d:Inv X a σ H {s with heap:=s.heap.push {cls:=.type "range",data:=.fields #[.int lo t,.int hi u,.int 1 v]},toks:=c}:=I.kept λb o e=>Qcq _ e
 refine⟨(s.heap.push {cls:=.type "range",data:=.fields #[.int lo t,.int hi u,.int 1 v]}).objs.size,[(s.heap.push {cls:=.type "range",data:=.fields #[.int lo t,.int hi u,.int 1 v]}).objs.size],_,_,H,rfl,
  d.kept (t':=c) λb o e=>Qcq _ e,BJ _ lo (hi-lo).toNat,?_,λb k=> ?_,q⟩
 ·have l:lo+((0:Nat):Int)*1=lo:=by simp
  have g:(((hi-lo).toNat:Nat):Int)-((0:Nat):Int)=Builtin.Range.rangeSize lo hi 1:=by rw[rangeSize_one];split <;>omega
  show IsRangeIter _ _ (lo+((0:Nat):Int)*1) ((((hi-lo).toNat:Nat):Int)-((0:Nat):Int)) 1
  rw[l,g]
  exact Qrq _ rfl
 ·have e:b=(s.heap.push {cls:=.type "range",data:=.fields #[.int lo t,.int hi u,.int 1 v]}).objs.size:=by simpa using k
  subst e
  exact d.fpOk (Qmq _) (d.hok.fresh (Qmq _))
def Nc(b:TA):TI:=λa H R=>b a H λc H1=>∃j:Int,c= [.int j]/\ -(2^62)<=j/\j<2^62/\R (NI 0 j.toNat) H1
def Fk{a:Expr}{d:TA}{p pos:Pos}(o:Gl X "range")(l:X.mg "range"=none)(k:PA X [a] d)(i:starEach [a] X.env= [(false,eval a X.env)]:=by rfl):PI X tg (.Call (.Name "range" p) [a] [] pos) (Nc d):=by
 intro b s m H R I h
 refine Call_ (mf I o l boot_range (PyProof.Rows.callWith_type1 (dC (k pos b s m H _ I h) λv w ⟨x,H1,n,f,c⟩=> ?_) i rfl))
 obtain⟨j,e,c,g,q⟩:=c
 subst e
 cases f with
 | cons r u=>
   cases u
   obtain⟨t,rfl⟩:=r
   exact call_range_1 (Gp n (by omega) (by omega) c g (by simpa using q))
def Oe(f:TI)(g:TG)(h:TS):TS:=λD a H=>f a H λJ H1=>∃W:Nat->Nat->St->Hp->Prop,(∃m,W 0 m a H1)/\∀i m a H,W i m a H→
 (J.stop i H/\D.nx a H)\/(J.go i H/\∃N:St->Hp->Prop,(∀b c,N b c->∃e,e<m/\W (i+1) e b c)/\∀x c,J.yld i H x c->g x a c λd H2=>h {D with nx:=N,ct:=N,bk:=D.nx} d H2)
noncomputable def oG(fp:List Addr)(h:Heap):List (Addr×Obj):=fp.filterMap λb=>(h.get? b).map λo=>(b,o)
def eD{fp:List Addr}{h:Heap}{b:Addr}{o:Obj}(a:b∈fp)(e:h.get? b=some o):(b,o)∈oG fp h:=List.mem_filterMap.mpr ⟨b,a,by rw[e];rfl⟩
def FF{fp:List Addr}{h:Heap}{p:Addr×Obj}(a:p∈oG fp h):p.1∈fp/\h.get? p.1=some p.2:=by
 obtain⟨b,d,e⟩:=List.mem_filterMap.mp a
 cases q:h.get? b with
 |none=>rw[q] at e;cases e
 | some o=>
   rw[q] at e
   have c:(b,o)=p:=QdQ e
   subst c
   exact⟨d,q⟩
def Inv.pinned{a:List (Addr×Obj)}{σ:St}{H:Hp}{s:Shared}{fp:List Addr}(I:Inv X a σ H s)(j:∀b∈fp,qD X a H b)(g:∀b∈fp,∃o,s.heap.get? b=some o/\∀v,o.data≠.cell v):Inv X (a++oG fp s.heap) σ H s:=
 I.pins_of λp k=>(mQa.mp k).elim (λz=>I.pin p (Qoq _ z)) λz=>by
  obtain⟨f,e⟩:=FF z
  obtain⟨h,l,i,_⟩:=j p.1 f
  obtain⟨o,c,d⟩:=g p.1 f
  rw[e] at c;cases c
  exact⟨e,h,l,i,d⟩
def Inv.unpinned{a c:List (Addr×Obj)}{σ:St}{H:Hp}{s:Shared}(I:Inv X (a++c) σ H s):Inv X a σ H s:=I.pins_of λp b=>I.pin p (Qoq _ (List.mem_append_left _ b))
def Lp{l:Expr}{B:List Stmt}{wi:TI}{g:TG}{tb:TS}{pos:Pos}(Q:PassesOwn (model X.prog X.w) X.A X.env X.xe)(hc:X.calm=true)(hi:PI X tg l wi)(hg:PG X tg g)(k:t8 X B tb)
  (hs:∀x,foldedSetIterable l X.env x=pure x:=by intro _;rfl):PS X (.For tg l B [] pos) (Oe wi g tb):=by
 intro a s σ H D I h
 refine wpAny_For (dC (hi a s σ H _ I h) λv s1 h1=>dC h1 λa3 s2 h2=> ?_) hs
 obtain⟨it,M,tn,J,H2,e,I2,T,Z,f2,W,⟨m0,w0⟩,L⟩:=h2
 subst e
 have t:∀{z:Hp},(∀b∈M,z b=none)->∀b∈M,qD X a z b:=λhn b k=>⟨hn b k,(f2 b k).2⟩
 refine codeAny_forLoop_any (λn s'=>∃i y z,Inv X a y z s'/\tn i s'.heap/\(∀b∈M,z b=none)/\W i n y z) ?_ m0 ⟨0,σ,H2,I2,Z,λb k=>(f2 b k).1,w0⟩
 rintro n s3 ⟨i,j,H3,I3,R,P,w3⟩
 rcases L i n j H3 w3 with⟨stop,qn⟩|⟨go,N,hN,S⟩
 ·refine wpAny_passesOwn Q (dC (T.done X rfl rfl rfl hc i a s3 j H3 X.xe I3 (t P) R stop) λr s4 F=> ?_)
  obtain⟨Y,I4⟩:=F
  subst Y
  exact wpAny_execs_nil ⟨j,H3,I4,qn⟩
 ·refine wpAny_passesOwn Q (dC (T.item X rfl rfl rfl hc i a s3 j H3 X.xe I3 (t P) R go) λr s4 F=> ?_)
  obtain⟨u,Y,h4⟩:=F
  subst Y
  refine wpAny_passesOwn Q (dC h4 λ_ s5 F=> ?_)
  obtain⟨x,H5,I5,r5,y5,G,a0⟩:=F
  have a2:=I5.pinned (t a0) (T.obj _ _ G)
  refine wpAny_passesOwn Q (dC (hg _ s5 j H5 x u _ a2 r5 (S x H5 y5)) λ_ s6 F=> ?_)
  obtain⟨a1,H6,I6,q6⟩:=F
  refine wpAny_passesOwn Q (dC (k _ s6 a1 H6 _ I6 q6) λf U C=> ?_)
  have again:∀{c:St} {p:Hp},Inv X (a++oG M s5.heap) c p U->N c p->∃m,m<n/\∃i y z,Inv X a y z U/\tn i U.heap/\(∀b∈M,z b=none)/\W i m y z:=λ{c p} q K=>by
   obtain⟨m',hm,w7⟩:=hN c p K
   refine⟨m',hm,i+1,c,p,q.unpinned,T.keep _ _ _ G λb k o e=>(q.pin (b,o) (Qoq _ (Qoq _ (eD k e)))).1,λb k=> ?_,w7⟩
   obtain⟨o,e,d⟩:=T.obj _ _ G b k
   exact(q.pin (b,o) (Qoq _ (Qoq _ (eD k e)))).2.1
  cases f with
  |next=>obtain⟨c,p,q,K⟩:=C;exact again q K
  |cont=>obtain⟨c,p,q,K⟩:=C;exact again q K
  |brk=>obtain⟨c,p,q,C⟩:=C;exact⟨c,p,q.unpinned,C⟩
  |ret v=>obtain⟨x7,c,p,q,r7,C⟩:=C;exact⟨x7,c,p,q.unpinned,r7,C⟩
end
abbrev R2:=V->V->Hp->VK->Prop
def lN(X:Cx)(f:Value->Value->Sem Value)(r:R2):Prop:=
 ∀ (a:List (Addr×Obj)) (s:Shared) (b:St) (H:Hp) (x y:V) (v u:Value) (Q:VK),Inv X a b H s->RelV x v->RelV y u->r x y H Q→
   wpAny (model X.prog X.w) X.A (f v u) (EP X a b Q) X.xe s
def NO(X:Cx)(f:Value->Sem Value)(r:V->Hp->VK->Prop):Prop:=
 ∀ (a:List (Addr×Obj)) (s:Shared) (b:St) (H:Hp) (x:V) (v:Value) (Q:VK),Inv X a b H s->RelV x v->r x H Q→
   wpAny (model X.prog X.w) X.A (f v) (EP X a b Q) X.xe s
def ij(X:Cx)(f:Value)(r:List V->Hp->VK->Prop):Prop:=
 ∀ (a:List (Addr×Obj)) (s:Shared) (b:St) (H:Hp) (d:List V) (c:List Value) (Q:VK),Inv X a b H s->bZ d c->r d H Q→
   wpAny (model X.prog X.w) X.A (call f c) (EP X a b Q) X.xe s
def Oa(X:Cx)(r:V->Hp->(Bool->Hp->Prop)->Prop):Prop:=
 ∀ (a:List (Addr×Obj)) (s:Shared) (b:St) (H:Hp) (x:V) (v:Value) (Q:Bool->Hp->Prop),Inv X a b H s->RelV x v->r x H Q→
   wpAny (model X.prog X.w) X.A (truthy v) (TP X a b Q) X.xe s
def Ka(r:R2)(c b:TE):TE:=λa H Q=>c a H λx H1=>b a H1 λy H2=>r x y H2 Q
def OQ(r:V->Hp->VK->Prop)(b:TE):TE:=λa H Q=>b a H λx H1=>r x H1 Q
def rI(C:Int->Int->Prop)(g:Int->Int->V):R2:=λx y H Q=>∃i j,x=.int i/\y=.int j/\C i j/\Q (g i j) H
def Fq(g:Int->Int->V):R2:=λx y H Q=>∃i j,x=.int i/\y=.int j/\Q (g i j) H
def rU(g:Int->V):V->Hp->VK->Prop:=λx H Q=>∃i,x=.int i/\Q (g i) H
section
variable{X:Cx}{a b c:Expr}{ta tb tc:TE}{pos:Pos}
def K1(n:PE X a ta)(r:PE X b tb){d:List (Addr×Obj)}{s:Shared}{σ:St}{H:Hp}{R:V->V->Hp->Prop}(I:Inv X d σ H s)
  (h:ta σ H λx H1=>tb σ H1 λy H2=>R x y H2) {Q:Value->Shared->Prop} {f:Value->Value->Sem Value}
  (m:∀v u i x y H2,Inv X d σ H2 i->RelV x v->RelV y u->R x y H2->wpAny (model X.prog X.w) X.A (f v u) Q X.xe i):
  wpAny (model X.prog X.w) X.A (eval a X.env) (λv g=>wpAny (model X.prog X.w) X.A (eval b X.env) (λu e=>wpAny (model X.prog X.w) X.A (f v u) Q X.xe e) X.xe g) X.xe s:=by
 refine dC (n d s σ H _ I h) λv o j=> ?_
 obtain⟨x,H1,q,k,t⟩:=j
 refine dC (r d o σ H1 _ q t) λu i j=> ?_
 obtain⟨y,H2,p,z,l⟩:=j
 exact m v u i x y H2 p k z l
def rN{e:Operator}{r:R2}(f:lN X (binaryOp e) r)(i:PE X a ta)(n:PE X b tb):PE X (.BinOp a e b pos) (Ka r ta tb):=by
 intro d s k H Q I h
 exact wpAny_BinOp (K1 i n I h λv u g x y H2 j m l q=>f d g k H2 x y v u Q j m l q)
def Mg{e:UnaryOp}{r:V->Hp->VK->Prop}(i:NO X (unaryOp e) r)(g:PE X a ta):PE X (.UnaryOp e a pos) (OQ r ta):=by
 intro d s f H Q I h
 exact UnaryOp_ (dC (g d s f H _ I h) λv l ⟨x,H1,j,k,m⟩=>i d l f H1 x v Q j k m)
def Nv{f:Value->Value->Sem Value}{C:Int->Int->Prop}{g:Int->Int->Int}
  (d:∀(i j:Int) (t u:Tok) (s:Shared) (Q:Value->Shared->Prop) (E:Value->Shared->Prop),C i j->Q (.int (g i j) s.toks) {s with toks:=s.toks+1}->wpAny (model X.prog X.w) X.A (f (.int i t) (.int j u)) Q E s):
  lN X f (rI C λi j=>.int (g i j)):=by
 intro e s n H x y v u Q I l k h
 obtain⟨i,j,rfl,rfl,hc,q⟩:=h
 obtain⟨t,rfl⟩:=l
 obtain⟨m,rfl⟩:=k
 exact d i j t m s _ _ hc ⟨.int (g i j),H,I.tok _,⟨_,rfl⟩,q⟩
def MW{f:Value->Value->Sem Value}{g:Int->Int->Int}
  (d:∀(i j:Int) (t u:Tok) (s:Shared) (Q:Value->Shared->Prop) (E:Value->Shared->Prop),Q (.int (g i j) s.toks) {s with toks:=s.toks+1}->wpAny (model X.prog X.w) X.A (f (.int i t) (.int j u)) Q E s):
  lN X f (Fq λi j=>.int (g i j)):=by
 intro e s n H x y v u Q I l k h
 obtain⟨i,j,rfl,rfl,q⟩:=h
 obtain⟨t,rfl⟩:=l
 obtain⟨m,rfl⟩:=k
 exact d i j t m s _ _ ⟨.int (g i j),H,I.tok _,⟨_,rfl⟩,q⟩
def JF{f:Value->Value->Sem Value}{g:Int->Int->Bool}
  (d:∀(i j:Int) (t u:Tok) (s:Shared) (Q:Value->Shared->Prop) (E:Value->Shared->Prop),Q (.bool (g i j)) s->wpAny (model X.prog X.w) X.A (f (.int i t) (.int j u)) Q E s):
  lN X f (Fq λi j=>.bl (g i j)):=by
 intro e s n H x y v u Q I l k h
 obtain⟨i,j,rfl,rfl,q⟩:=h
 obtain⟨t,rfl⟩:=l
 obtain⟨m,rfl⟩:=k
 exact d i j t m s _ _ ⟨.bl (g i j),H,I,rfl,q⟩
def Gk(i j:Int):Prop:=0<j/\j<1073741824
def HR(i j:Int):Prop:=0<=j/\j<=1000000/\i.natAbs<2^64
def Je(i j:Int):Prop:=(-(2^64)<i/\i<2^64)\/(-(2^64)<j/\j<2^64)
def Je.ok{i j:Int}(h:Je i j):IntMulOk i j:=by
 rcases h with⟨d,e⟩|⟨d,e⟩
 ·exact .of_left (intBits_le_64 d e)
 ·exact .of_right (intBits_le_64 d e)
def Km:lN X (binaryOp .Add) (Fq λi j=>.int (i+j)):=MW λ_ _ _ _ _ _ _ q=>add_int q
def LL:lN X (binaryOp .Sub) (Fq λi j=>.int (i-j)):=MW λ_ _ _ _ _ _ _ q=>sub_int q
def Ji:lN X (binaryOp .FloorDiv) (rI Gk λi j=>.int (i/j)):=Nv λi j _ _ _ _ _ d q=>by
 have e:(0:Int)<j:=d.1
 have f:j<1073741824:=d.2
 exact floordiv_int (by omega) (by rw[Int.fdiv_eq_ediv_of_nonneg i (by omega)];exact q) (.inl (PyProof.noPylong_small (by omega)))
def K_:lN X (binaryOp .Mod) (rI (λ_ j=>0<j) λi j=>.int (i%j)):=Nv λi j _ _ _ _ _ d q=>by
 have e:(0:Int)<j:=d
 exact mod_int' (by omega) (by rw[Int.fmod_eq_emod_of_nonneg i (by omega)];exact q)
def KB:lN X (binaryOp .Pow) (rI HR λi j=>.int (i^j.toNat)):=Nv λ_ _ _ _ _ _ _ d q=>pow_int_small d.1 d.2.1 d.2.2 q
def OV{f:Value->Sem Value}{g:Int->Int}
  (d:∀(i:Int) (t:Tok) (s:Shared) (Q:Value->Shared->Prop) (E:Value->Shared->Prop),Q (.int (g i) s.toks) {s with toks:=s.toks+1}->wpAny (model X.prog X.w) X.A (f (.int i t)) Q E s):
  NO X f (rU λi=>.int (g i)):=by
 intro e s k H x v Q I j h
 obtain⟨i,rfl,q⟩:=h
 obtain⟨t,rfl⟩:=j
 exact d i t s _ _ ⟨.int (g i),H,I.tok _,⟨_,rfl⟩,q⟩
def Ko:NO X (unaryOp .USub) (rU λi=>.int (-i)):=OV λ_ _ _ _ _ q=>neg_int q
end
noncomputable def CB:V->V->Bool
 |.non,.non=>true|.non,.int _=>true|.int _,.non=>true|.non,.bl _=>true|.bl _,.non=>true|.non,.str _=>true|.str _,.non=>true
 |.int _,.int _=>true|.bl _,.bl _=>true|.str _,.str _=>true|.byt _,.byt _=>true
 |.int _,.str _=>true|.str _,.int _=>true|.bl _,.str _=>true|.str _,.bl _=>true
 |_,_=>false
def Ov:R2:=λx y H Q=>CB x y=true/\Q (.bl (decide (x=y))) H
def OL:R2:=λx y H Q=>CB x y=true/\Q (.bl (!decide (x=y))) H
def DW{i j:Int}:decide (V.int i=V.int j)=(i==j):=by
 rw[Bool.eq_iff_iff]
 simp
def Ha{i j:Bool}:decide (V.bl i=V.bl j)=(i==j):=by
 rw[Bool.eq_iff_iff]
 simp
def Da{i j:Str}:decide (V.str i=V.str j)=(i==j):=by
 rw[Bool.eq_iff_iff]
 simp
def C6{i j:Array UInt8}:decide (V.byt i=V.byt j)=(i.toList==j.toList):=by
 rw[Bool.eq_iff_iff]
 cases i
 cases j
 simp
section
variable{X:Cx}{a b c:Expr}{ta tb tc:TE}{pos:Pos}
def cI{d:List (Addr×Obj)}{σ:St}{H:Hp}{s:Shared}{Q:VK}{k f:Bool}(I:Inv X d σ H s)(q:Q (.bl k) H)(e:k=f):EP X d σ Q (.bool f) s:=by
 subst e
 exact⟨.bl k,H,I,rfl,q⟩
def cP:lN X (compareOp .Eq) Ov:=by
 intro k s l H x y v u Q I g d h
 obtain⟨f,q⟩:=h
 cases x with
 | non=>
   cases g
   cases y with
   |non=>cases d;exact PySem.EqNone.eq_none_none (cI I q (by simp))
   |bl j=>cases d;exact PySem.EqNone.eq_none_bool (cI I q (by simp))
   |int j=>obtain⟨e,rfl⟩:=d;exact PySem.EqNone.eq_none_int (cI I q (by simp))
   |str j=>obtain⟨e,rfl⟩:=d;exact PySem.EqNone.eq_none_str (cI I q (by simp))
   |_=>exact absurd (show false=true from f) Qtq
 | bl i=>
   cases g
   cases y with
   |non=>cases d;exact PySem.EqNone.eq_bool_none (cI I q (by simp))
   |bl j=>cases d;exact eq_bool (cI I q Ha)
   |str j=>obtain⟨e,rfl⟩:=d;exact PySem.EqMixed.eq_bool_str (cI I q (by simp))
   |_=>exact absurd (show false=true from f) Qtq
 | int i=>
   obtain⟨t,rfl⟩:=g
   cases y with
   |non=>cases d;exact PySem.EqNone.eq_int_none (cI I q (by simp))
   |int j=>obtain⟨e,rfl⟩:=d;exact eq_int (cI I q DW)
   |str j=>obtain⟨e,rfl⟩:=d;exact PySem.EqMixed.eq_int_str (cI I q (by simp))
   |_=>exact absurd (show false=true from f) Qtq
 | str i=>
   obtain⟨t,rfl⟩:=g
   cases y with
   |non=>cases d;exact PySem.EqNone.eq_str_none (cI I q (by simp))
   |bl j=>cases d;exact PySem.EqMixed.eq_str_bool (cI I q (by simp))
   |int j=>obtain⟨e,rfl⟩:=d;exact PySem.EqMixed.eq_str_int (cI I q (by simp))
   |str j=>obtain⟨e,rfl⟩:=d;exact eq_str (cI I q Da)
   |_=>exact absurd (show false=true from f) Qtq
 | byt i=>
   obtain⟨t,rfl⟩:=g
   cases y with
   |byt j=>obtain⟨e,rfl⟩:=d;exact PySem.W.eq_bytes (cI I q C6)
   |_=>exact absurd (show false=true from f) Qtq
 |_=>cases y <;>exact absurd (show false=true from f) Qtq
def xX:lN X (compareOp .NotEq) OL:=by
 intro k s l H x y v u Q I g d h
 obtain⟨f,q⟩:=h
 cases x with
 | non=>
   cases g
   cases y with
   |non=>cases d;exact PySem.EqNone.ne_none_none (cI I q (by simp))
   |bl j=>cases d;exact PySem.EqNone.ne_none_bool (cI I q (by simp))
   |int j=>obtain⟨e,rfl⟩:=d;exact PySem.EqNone.ne_none_int (cI I q (by simp))
   |str j=>obtain⟨e,rfl⟩:=d;exact PySem.EqNone.ne_none_str (cI I q (by simp))
   |_=>exact absurd (show false=true from f) Qtq
 | bl i=>
   cases g
   cases y with
   |non=>cases d;exact PySem.EqNone.ne_bool_none (cI I q (by simp))
   |bl j=>cases d;exact ne_bool (cI I q (congrArg not Ha))
   |str j=>obtain⟨e,rfl⟩:=d;exact PySem.EqMixed.ne_bool_str (cI I q (by simp))
   |_=>exact absurd (show false=true from f) Qtq
 | int i=>
   obtain⟨t,rfl⟩:=g
   cases y with
   |non=>cases d;exact PySem.EqNone.ne_int_none (cI I q (by simp))
   |int j=>obtain⟨e,rfl⟩:=d;exact ne_int (cI I q (congrArg not DW))
   |str j=>obtain⟨e,rfl⟩:=d;exact PySem.EqMixed.ne_int_str (cI I q (by simp))
   |_=>exact absurd (show false=true from f) Qtq
 | str i=>
   obtain⟨t,rfl⟩:=g
   cases y with
   |non=>cases d;exact PySem.EqNone.ne_str_none (cI I q (by simp))
   |bl j=>cases d;exact PySem.EqMixed.ne_str_bool (cI I q (by simp))
   |int j=>obtain⟨e,rfl⟩:=d;exact PySem.EqMixed.ne_str_int (cI I q (by simp))
   |str j=>obtain⟨e,rfl⟩:=d;exact ne_str (cI I q (congrArg not Da))
   |_=>exact absurd (show false=true from f) Qtq
 | byt i=>
   obtain⟨t,rfl⟩:=g
   cases y with
   |byt j=>obtain⟨e,rfl⟩:=d;exact PySem.W.ne_bytes (cI I q (congrArg not C6))
   |_=>exact absurd (show false=true from f) Qtq
 |_=>cases y <;>exact absurd (show false=true from f) Qtq
def rP:lN X (compareOp .Lt) (Fq λi j=>.bl (decide (i<j))):=JF λ_ _ _ _ _ _ _ q=>lt_int q
def M0:lN X (compareOp .LtE) (Fq λi j=>.bl (decide (i<=j))):=JF λ_ _ _ _ _ _ _ q=>le_int q
def C1:lN X (compareOp .Gt) (Fq λi j=>.bl (decide (j<i))):=JF λ_ _ _ _ _ _ _ q=>gt_int q
def Nd:lN X (compareOp .GtE) (Fq λi j=>.bl (decide (j<=i))):=JF λ_ _ _ _ _ _ _ q=>ge_int q
def HH:lN X (compareOp .Is) (λx y H Q=>y=.non/\Q (.bl (decide (x=.non))) H):=by
 intro e s g H x y v u Q I d f h
 obtain⟨rfl,q⟩:=h
 cases f
 refine is_none_gen (cI I q ?_)
 cases x <;>first
  |(cases d;rfl)
  |(obtain⟨t,rfl⟩:=d;rfl)
def tM:lN X (compareOp .IsNot) (λx y H Q=>y=.non/\Q (.bl (!decide (x=.non))) H):=by
 intro e s g H x y v u Q I d f h
 obtain⟨rfl,q⟩:=h
 cases f
 refine isnot_none_gen (cI I q ?_)
 cases x <;>first
  |(cases d;rfl)
  |(obtain⟨t,rfl⟩:=d;rfl)
def lN.or{f:Value->Value->Sem Value}{r j:R2}(h:lN X f r)(h':lN X f j):lN X f (λx y H Q=>r x y H Q\/j x y H Q):=by
 intro d s e H x y v u Q I i g q
 rcases q with q|q
 ·exact h d s e H x y v u Q I i g q
 ·exact h' d s e H x y v u Q I i g q
def aV(b:Expr){d:CmpOp}(h:d≠.In:=by decide)(g:d≠.NotIn:=by decide):behindInMarks d b=false:=by
 have e:(d==CmpOp.In)=false:=by cases d <;>first|rfl|exact absurd rfl h
 have f:(d==CmpOp.NotIn)=false:=by cases d <;>first|rfl|exact absurd rfl g
 cases b <;>simp[behindInMarks,e,f]
def IE{e:CmpOp}{r:R2}(f:lN X (compareOp e) r)(i:PE X a ta)(o:PE X b tb)(k:behindInMarks e b=false):PE X (.Compare a [e] [b] pos) (Ka r ta tb):=by
 intro d s l H Q I h
 exact wpAny_Compare1 (K1 i o I h λv u g x y H2 j n m q=>f d g l H2 x y v u Q j n m q) k
def GR(t:TE):TT:=λd H Q=>t d H λx e=>∃k,x=.bl k/\Q k e
def tY{f:CmpOp}{r:R2}(i:lN X (compareOp f) r)(o:PE X a ta)(B:PE X b tb)(w:behindInMarks f b=false):PT X (.Compare a [f] [b] pos) (GR (Ka r ta tb)):=by
 intro d s g H Q I h
 refine wpAny_isTrue_Compare1 (dC (o d s g H _ I h) λv p ⟨x,H1,A,l,F⟩=>dC (B d p g H1 _ A F) λu j ⟨y,H2,t,G,m⟩=>
  dC (i d j g H2 x y v u _ t l G m) λc J ⟨z,H3,n,q,k,e,C⟩=> ?_) w
 subst e
 cases q
 exact wpAny_truthy_bool ⟨H3,n,C⟩
def KQ(K:PySem.W.Frag)(x:V)(H:Hp)(k:Bool):Prop:=
 match x with
 |.non=>k=false
 |.bl b=>k=b
 |.int i=>k=(i !=0)
 |.str y=>y.length<=sizeLine/\k=((y.length:Int) !=0)
 |.byt y=>y.size<=sizeLine/\k=((y.size:Int) !=0)
 |.ref p=>(∃d,jN K H p d/\k= !d.isEmpty)\/(∃d,jy K H p d/\k= !d.isEmpty)\/∃e,H p=some (.dK e)/\k= !e.isEmpty
 |_=>False
def CA{κ:Type}{kvs:List (κ×V)}{vs:List (κ×Value)}(r:KV kvs vs):(!vs.isEmpty)= !kvs.isEmpty:=by
 cases r <;>rfl
def uU{xs:List V}{d:List Value}(r:bZ xs d):(!d.toArray.isEmpty)= !xs.isEmpty:=by
 cases r <;>simp
def lA:(sizeLine:Nat)<2^63:=by rw[sizeLine_eq];decide
def KY:Oa X (λx H Q=>∃k,KQ X.K x H k/\Q k H):=by
 intro A s L H x v Q I l h
 obtain⟨k,e,q⟩:=h
 have G:=lA
 have J:sizeLine=16777216:=sizeLine_eq
 cases x with
 | non=>
   cases l
   have d:k=false:=e
   subst d
   exact truthy_none ⟨H,I,q⟩
 | bl b=>
   cases l
   have d:k=b:=e
   subst d
   exact wpAny_truthy_bool ⟨H,I,q⟩
 | int i=>
   obtain⟨t,rfl⟩:=l
   have d:k=(i !=0):=e
   subst d
   exact PySem.P.truthy_int ⟨H,I,q⟩
 | str y=>
   obtain⟨t,rfl⟩:=l
   obtain⟨C,d⟩:y.length<=sizeLine/\k=((y.length:Int) !=0):=e
   subst d
   exact PySem.P.truthy_str (by omega) ⟨H,I.tok _,q⟩
 | byt y=>
   obtain⟨t,rfl⟩:=l
   obtain⟨C,d⟩:y.size<=sizeLine/\k=((y.size:Int) !=0):=e
   subst d
   exact PySem.W.truthy_bytes (by omega) ⟨H,I.tok _,q⟩
 | ref p=>
   cases l
   have d:(∃j,jN X.K H p j/\k= !j.isEmpty)\/(∃j,jy X.K H p j/\k= !j.isEmpty)\/∃f,H p=some (.dK f)/\k= !f.isEmpty:=e
   rcases d with⟨j,n,d⟩|⟨j,n,d⟩|⟨f,n,d⟩
   · subst d
     obtain⟨z,r,u,B⟩:=I.list n
     have g:=r.length
     exact wpAny_truthy_list u.isList (by simp only[Qjq];omega) ⟨H,I.tok _,by rw[uU r];exact q⟩
   · subst d
     obtain⟨z,r,u,B⟩:=I.tuple n
     have g:=r.length
     exact truthy_tuple u (by simp only[Qjq];omega) ⟨H,I.tok _,by rw[uU r];exact q⟩
   · subst d
     obtain⟨B,F,o,r,m⟩:f.length<=sizeLine/\(p==sysModules)=false/\∃o,KV f o/\s.heap.DictOf (cD X.prog X.w) p o:=I.hok p _ n
     have g:f.length=o.length:=Paired.length r
     exact wpAny_truthy_dict F m (by omega) ⟨H,I.tok _,by rw[CA r];exact q⟩
 |_=>exact(show False from e).elim
def H_(i:PE X a ta)(he:∀d,isTrue a X.env d=(do let v←d;standAt a.pos;holding [v] (truthy v))):
  PT X a (λσ H Q=>ta σ H λx f=>∃k,KQ X.K x f k/\Q k f):=by
 intro e s σ H Q I h
 exact isTrue_plain (dC (i e s σ H _ I h) λv j ⟨x,H1,l,g,m⟩=>KY e j σ H1 x v Q l g m) (he _)
def Cm:lN X (binaryOp .Add) (λx y H Q=>∃i j,x=.str i/\y=.str j/\i.length+j.length<=sizeLine/\Q (.str (i++j)) H):=by
 intro d s k H x y v u Q I f e h
 obtain⟨i,j,rfl,rfl,hz,q⟩:=h
 obtain⟨t,rfl⟩:=f
 obtain⟨g,rfl⟩:=e
 exact add_str (λg l=>⟨.str (i++j),H,I.tok _,⟨_,rfl⟩,q⟩) hz
def vals1{x:V}{d:List Value}(r:bZ [x] d):∃u,d= [u]/\RelV x u:=by
 cases r with
 |cons e f=>cases f;exact⟨_,rfl,e⟩
def vals2{x y:V}{d:List Value}(r:bZ [x,y] d):∃u e,d= [u,e]/\RelV x u/\RelV y e:=by
 cases r with
 | cons f i=>
   cases i with
   |cons g h=>cases h;exact⟨_,_,rfl,f,g⟩
def Hl:ij X (.builtin "abs") (λxs H Q=>∃i,xs= [.int i]/\Q (.int (if i<0 then -i else i)) H):=by
 intro d s e H xs f Q I r h
 obtain⟨i,rfl,q⟩:=h
 obtain⟨u,rfl,t,rfl⟩:=vals1 r
 exact call_abs_int λu g=>⟨.int (if i<0 then -i else i),H,I.tok _,⟨_,rfl⟩,q⟩
def xc(f:X.calm=true):ij X (.builtin "max") (λxs H Q=>∃i j,xs= [.int i,.int j]/\Q (.int (if j>i then j else i)) H):=by
 intro e s n H xs g Q I r h
 obtain⟨i,j,rfl,q⟩:=h
 obtain⟨u,o,rfl,⟨t,rfl⟩,⟨t',rfl⟩⟩:=vals2 r
 refine max_two_ints (I.ok.hd f) λm l k=>⟨_,H,I.kept k,?_,q⟩
 by_cases d:j>i
 ·rw[Qhq d,Qhq d];exact⟨_,rfl⟩
 ·rw[Quq d,Quq d];exact⟨_,rfl⟩
def qJ(f:X.calm=true):ij X (.builtin "min") (λxs H Q=>∃i j,xs= [.int i,.int j]/\Q (.int (if j<i then j else i)) H):=by
 intro e s n H xs g Q I r h
 obtain⟨i,j,rfl,q⟩:=h
 obtain⟨u,o,rfl,⟨t,rfl⟩,⟨t',rfl⟩⟩:=vals2 r
 refine min_two_ints (I.ok.hd f) λm l k=>⟨_,H,I.kept k,?_,q⟩
 by_cases d:j<i
 ·rw[Qhq d,Qhq d];exact⟨_,rfl⟩
 ·rw[Quq d,Quq d];exact⟨_,rfl⟩
def mZ:ij X (.type "int") (λxs H Q=>(∃i,xs= [.int i]/\Q (.int i) H)\/∃k,xs= [.bl k]/\Q (.int (if k then 1 else 0)) H):=by
 intro d s e H xs f Q I r h
 rcases h with⟨i,rfl,q⟩|⟨k,rfl,q⟩
 ·obtain⟨u,rfl,t,rfl⟩:=vals1 r
  exact call_int_int ⟨.int i,H,I,⟨_,rfl⟩,q⟩
 ·obtain⟨u,rfl,r1⟩:=vals1 r
  cases r1
  exact call_int_bool ⟨.int (if k then 1 else 0),H,I.tok _,⟨_,rfl⟩,q⟩
end
structure Ld(h:Heap)(x dx C:Addr)(mA:Str->Option Value):Prop where
 obj:h.get? x=some (PySem.W.instObj C dx)
 ns:h.Ns1 dx mA
 ne:dx≠x
def FA{h:Heap}{f:Addr}{g:Str->Option Value}(n:h.Ns1 f g):∃d,h.get? f=some d/\∀name,PySem.W.lookIn name d=some (g name):=by
 obtain⟨o,c,r,j,i,k,_,p⟩:=n
 refine⟨o,j,λname=> ?_⟩
 have e:=p name
 unfold nsFind findBy at e
 rw[←Array.find?_toList] at e
 unfold PySem.W.lookIn
 rw[i]
 dsimp only
 split
 ·rename_i y q
  rw[q] at e
  exact congrArg some e
 ·rename_i q
  rw[q] at e
  have a:c.toList.any (·.refKey)=false:=by
   rw[List.any_eq_false]
   intro y l
   obtain⟨z,t,b⟩:=k y (Array.mem_toList_iff.mp l)
   simp[DictEntry.refKey,b]
  have m:¬c.toList.any (·.refKey)=true:=by rw[a];exact Qtq
  rw[Quq m]
  exact congrArg some e
def Ld.look{h:Heap}{x b C:Addr}{c:Str->Option Value}(I:Ld h x b C c):∃a,PySem.W.InstAt h x (PySem.W.instObj C b) C (some a)/\∀name,PySem.W.lookIn name a=some (c name):=
 let ⟨a,ho,hl⟩:=FA I.ns
 ⟨a,⟨I.obj,rfl,rfl,ho⟩,hl⟩
def vF.some_of{v:V}{o:Option Value}(r:vF (some v) o):∃u,o=some u/\RelV v u:=by
 cases o with
 |none=>exact(show False from r).elim
 |some u=>exact⟨u,rfl,r⟩
section
variable{P:Program}{w:World}{H H':Hp}{h h':Heap}{a C dx:Addr}{fs fs':List (Str×V)}
def Jt(c:pd P w H h)(e:H a=some (.ins C dx fs)):∃b,Ld h a dx C b/\(∀f,vF (fs.lookup f) (b f))/\PySem.Within b (fs.map (·.1))/\fs.length<=1000/\H dx=some (.own a):=by
 obtain⟨d,z,i,g,b,n,r,q⟩:=(show dN P w H h a (.ins C dx fs) from c a _ e)
 exact⟨b,⟨g,n,i⟩,r,q,z,d⟩
end
structure N7(K:PySem.W.Frag)(C:Addr):Prop where
 pg:PySem.W.plainGet K C Str.empty=true
 hd:PySem.W.hasDictIn K C=true
 po:PySem.W.plainOver K C=true
 sa:PySem.W.findIn K (.ref C) "__setattr__"=some (some (.builtin "object.__setattr__"))
def N7.get{K:PySem.W.Frag}{C:Addr}(c:N7 K C)(f:Str):PySem.W.plainGet K C f=true:=c.pg
section
variable{X:Cx}{pins:List (Addr×Obj)}{σ:St}{H:Hp}{s:Shared}{A:Around}{E:Value->Shared->Prop}{Q:Value->Shared->Prop}{c:Value}{b:Bool}
inductive rF(K:PySem.W.Frag)(H:Hp):V->Value->Prop where
 |non:rF K H .non (.type "NoneType")
 |bl (x:Bool):rF K H (.bl x) (.type "bool")
 |int (i:Int):rF K H (.int i) (.type "int")
 |str (x:Str):rF K H (.str x) (.type "str")
 |flt (x:UInt64):rF K H (.flt x) (.type "float")
 |lst {a:Addr} {xs:List V} (e:H a=some (.lst xs)):rF K H (.ref a) (.type "list")
 |frz {a:Addr} {o:Obj} {xs:List V} (e:H a=some (.frz o (.lst xs))):rF K H (.ref a) (.type "list")
 |tup {a:Addr} {xs:List V} (e:H a=some (.tup xs)):rF K H (.ref a) (.type "tuple")
 |dK {a:Addr} {kvs:List (Key×V)} (e:H a=some (.dK kvs)):rF K H (.ref a) (.type "dict")
 |dT {a:Addr} {kvs:List (List Key×V)} (e:H a=some (.dT kvs)):rF K H (.ref a) (.type "dict")
 |ins {a C dx:Addr} {fs:List (Str×V)} (e:H a=some (.ins C dx fs)) (cl:N7 K C) (ha:PySem.W.findIn K (.ref C) "__class__"=some (some (.builtin "object.__class__")))
   (hn:PySem.W.specialIn K (.builtin "object.__class__") "__get__"=some (some (.builtin "getset_descriptor.__get__"))) (htk:PySem.W.takesIn K (.builtin "object.__class__")=some true)
   (hm:PySem.W.mroIn K C (.type "object")=some true):rF K H (.ref a) (.ref C)
def Fz{x:V}{u t:Value}(I:Inv X pins σ H s)(d:RelV x u)(l:rF X.K H x t)(e:PySem.W.kitOne X.K t c=some b)(h:∀r,Q (.bool b) {s with toks:=r}):
  wpAny (model X.prog X.w) A (call (.builtin "isinstance") [u,c]) Q E s:=by
 cases l with
 |non=>cases (show u=Value.none from d);exact PySem.W.kia_one PySem.W.kitx_none I.kIn True.intro e (λz=>nomatch z) h
 |bl y=>cases (show u=Value.bool y from d);exact PySem.W.kia_one PySem.W.kitx_bool I.kIn True.intro e (λz=>nomatch z) h
 |int i=>obtain⟨t,q⟩:=(show∃t,u=Value.int i t from d);cases q;exact PySem.W.kia_one PySem.W.kitx_int I.kIn True.intro e (λz=>nomatch z) h
 |str y=>obtain⟨t,q⟩:=(show∃t,u=Value.str y t from d);cases q;exact PySem.W.kia_one PySem.W.kitx_str I.kIn True.intro e (λz=>nomatch z) h
 |flt y=>obtain⟨t,q⟩:=(show∃t,u=Value.float y t from d);cases q;exact PySem.W.kia_one PySem.W.kitx_float I.kIn True.intro e (λz=>nomatch z) h
 | @lst a g ea=>
   cases (show u=Value.ref a from d)
   obtain⟨_,_,n,_,f⟩:=(show dN X.prog X.w H s.heap a (.lst g) from I.hok a _ ea)
   exact PySem.W.kia_one PySem.W.kitx_list I.kIn ⟨_,f,rfl⟩ e (λz=>nomatch z) h
 | @frz a ob g ea=>
   cases (show u=Value.ref a from d)
   obtain⟨_,_,_,n,_,f⟩:=(show dN X.prog X.w H s.heap a (.frz ob (.lst g)) from I.hok a _ ea)
   exact PySem.W.kia_one PySem.W.kitx_list I.kIn ⟨_,f,rfl⟩ e (λz=>nomatch z) h
 | @tup a g ea=>
   cases (show u=Value.ref a from d)
   obtain⟨_,_,_,p⟩:=(show dN X.prog X.w H s.heap a (.tup g) from I.hok a _ ea)
   obtain⟨o,f,j,_⟩:=p
   exact PySem.W.kia_one PySem.W.kitx_tuple I.kIn ⟨o,f,j⟩ e (λz=>nomatch z) h
 | @dK a kvs ea=>
   cases (show u=Value.ref a from d)
   obtain⟨_,_,F,_,p⟩:=(show dN X.prog X.w H s.heap a (.dK kvs) from I.hok a _ ea)
   obtain⟨o,k,m,f,j,_⟩:=p
   exact PySem.W.kia_one PySem.W.kitx_dict I.kIn ⟨o,f,j.1⟩ e (λz=>nomatch z) h
 | @dT a kvs ea=>
   cases (show u=Value.ref a from d)
   obtain⟨_,_,g,_,o,k,m,f,j,_⟩:=(show dN X.prog X.w H s.heap a (.dT kvs) from I.hok a _ ea)
   exact PySem.W.kia_one PySem.W.kitx_dict I.kIn ⟨o,f,j.1⟩ e (λz=>nomatch z) h
 | @ins a C dx fs ea cl ha hn htk hm=>
   cases (show u=Value.ref a from d)
   obtain⟨B,O,_⟩:=Jt I.hok ea
   obtain⟨v,J,_⟩:=O.look
   exact PySem.W.kia_one (PySem.W.kitx_own (cl.get _) cl.hd ha hn htk hm) I.kIn J e (λz=>nomatch z) h
end
structure gN(k:Nat)(A:Around):Prop where
 hd:A.handled=none
 dp:A.depth+3*k+5<recursionLimit
 un:A.units+16*k+200<cLine
def gN.mono{j k:Nat}{A:Around}(r:gN k A)(h:j<=k):gN j A:=⟨r.hd,by have:=r.dp;omega,by have:=r.un;omega⟩
def gN.deeper{k:Nat}{A:Around}(r:gN (k+1) A)(env:Env):gN k (A.deeper env):=
 ⟨r.hd,by have:=r.dp;show A.depth+1+3*k+5<_;omega,by have:=r.un;show A.units+3+16*k+200<_;omega⟩
def gN.depth{k:Nat}{A:Around}(r:gN k A):A.depth<recursionLimit:=by have:=r.dp;omega
def gN.units{k:Nat}{A:Around}(r:gN k A):A.units+64<cLine:=by have:=r.un;omega
def gN.units0{k:Nat}{A:Around}(r:gN k A):A.units<cLine:=by have:=r.un;omega
def KF:TA:=λ_ H Q=>Q [] H
def HI(c:TE)(tr:TA):TA:=λa H Q=>c a H λx H1=>tr a H1 λb H2=>Q (x::b) H2
section
variable{X:Cx}{e:Expr}{es:List Expr}{te:TE}{t:TA}{pos:Pos}
def hJ:PA X [] KF:=λ_ _ _ _ H Q I h=>Calls.spliced_nil ⟨[],H,I,.nil,h⟩
def eG(i:PE X e te)(j:PA X es t)(g:starEach (e::es) X.env=(false,eval e X.env)::starEach es X.env:=by rfl):PA X (e::es) (HI te t):=by
 intro pos a s b H Q I h
 rw[g]
 show wpAny _ _ (spliced ((false,eval e X.env)::backTo pos (starEach es X.env))) _ _ s
 refine Calls.spliced_cons (dC (i a s b H _ I h) λu l c=> ?_)
 obtain⟨x,H1,n,d,o⟩:=c
 exact dC (j pos a l b H1 _ n o) λr q ⟨k,H2,m,p,f⟩=>⟨x::k,H2,m,.cons d p,f⟩
def NT(t:TA):TE:=λb H Q=>t b H λa H1=>a.length<=sizeLine/\∀p,H1 p=none->Q (.ref p) (upd H1 p (.tup a))
def Oj(t:TA):TE:=λb H Q=>t b H λa H1=>a.length<=sizeLine/\∀p,H1 p=none->Q (.ref p) (upd H1 p (.lst a))
def Lf{x1}(h:PA X es t):PE X (.Tuple es x1 pos) (NT t):=by
 intro a s k H Q I j
 refine wpAny_Tuple_spliced (dC (h pos a s k H _ I j) λf c ⟨i,H1,d,r,z,q⟩=>⟨by rw[←r.length];exact z,?_⟩)
 have g:H1 c.heap.objs.size=none:=d.hok.fresh (Qmq _)
 refine⟨.ref c.heap.objs.size,upd H1 c.heap.objs.size (.tup i),d.laid (t':=c.toks) (λb u e=>Qcq _ e) (Qmq _) ?_,rfl,q _ g⟩
 exact⟨z,f,r,⟨_,Qrq _ rfl,rfl,rfl,_,rfl⟩⟩
def LB(h:PA X es t):PE X (.List es pos) (Oj t):=by
 intro a s k H Q I j
 refine wpAny_List_spliced (dC (h pos a s k H _ I j) λf c ⟨i,H1,d,r,z,q⟩=>⟨by rw[←r.length];exact z,?_⟩)
 have g:H1 c.heap.objs.size=none:=d.hok.fresh (Qmq _)
 refine⟨.ref c.heap.objs.size,upd H1 c.heap.objs.size (.lst i),d.laid (t':=c.toks) (λb u e=>Qcq _ e) (Qmq _) ?_,rfl,q _ g⟩
 exact⟨z,f,0,r,Qrq _ rfl⟩
end
abbrev Sp:=List V->Hp->VK->XK->Prop
abbrev FS:=List Env->Hp->Shared->XK->Value->Shared->Prop
structure Ir(P:Program)(w:World)(K:PySem.W.Frag)(mg:Str->Option Value)(base:Heap)(A:Around)(outer:List Env)(s:Shared)(H:Hp):Prop where
 frames:A.frames=some outer
 mod:Mod K mg base
 bs:∀b o,base.get? b=some o->s.heap.get? b=some o/\H b=none
 bsz:base.objs.size<=s.heap.objs.size
 funs:s.heap.FunFrames base outer
 frf:∀b∈HB outer,H b=none
 hok:pd P w H s.heap
 bare:AllBare s.gens
def CE(outer:List Env)(P:Program)(w:World)(H:Hp)(s:Shared)(Q:VK)(u:Value)(a:Shared):Prop:=
 ∃v b,a.os=s.os/\AllBare a.gens/\Un (HB outer) [] H b s.heap a.heap/\pd P w b a.heap/\RelV v u/\Q v b
def CR(CX:FS)(outer:List Env)(P:Program)(w:World)(H:Hp)(s:Shared)(Q:VK)(E:XK)(r:Result)(a:Shared):Prop:=
 match r with
 |.ok (.ret u)=>CE outer P w H s Q u a
 |.ok _=>False
 |.error e=>CX outer H s E e a
structure bO(P:Program)(w:World)(K:PySem.W.Frag)(mg:Str->Option Value)(base:Heap)(CX:FS)(k:Nat)(f:Addr)(fd:FuncData)(ps:List Str)(sp:Sp):Prop where
 len:∀vs H Q E,sp vs H Q E->vs.length=ps.length
 run:∀(A:Around) (outer:List Env) (s:Shared) (H:Hp) (args:Args) (us:List Value) (vs:List V) (Q:VK) (E:XK),gN k A->Ir P w K mg base A outer s H->BindsTo s fd args (ps.zip us)->bZ vs us->sp vs H Q E→
  codeAny (model P w) A (.call (.ref f) args) (CR CX outer P w H s Q E) s
def bO.mono{P:Program}{w:World}{K:PySem.W.Frag}{mg:Str->Option Value}{base:Heap}{CX:FS}{j k:Nat}{f:Addr}{c:FuncData}{ps:List Str}{sp:Sp}(F:bO P w K mg base CX j f c ps sp)(h:j<=k):
  bO P w K mg base CX k f c ps sp:=⟨F.len,λA a s H b d g Q E e=>F.run A a s H b d g Q E (e.mono h)⟩
def bO.imp{P:Program}{w:World}{K:PySem.W.Frag}{mg:Str->Option Value}{base:Heap}{CX:FS}{k:Nat}{f:Addr}{d:FuncData}{ps:List Str}{sp c:Sp}(F:bO P w K mg base CX k f d ps sp)
  (h:∀vs H Q E,c vs H Q E->sp vs H Q E):bO P w K mg base CX k f d ps c:=
 ⟨λvs H Q E q=>F.len vs H Q E (h _ _ _ _ q),λA a s H b i vs Q E l e m g j=>F.run A a s H b i vs Q E l e m g (h _ _ _ _ j)⟩
section
variable{X:Cx}{pins:List (Addr×Obj)}{σ:St}{H:Hp}{s s':Shared}
def Inv.env0(I:Inv X pins σ H s):Ir X.prog X.w X.K X.mg X.base X.A X.stack s H:=
 ⟨I.ok.frames,I.ok.mod,I.bs,QAq I.ok.bsz I.sz,I.stack,I.stkFree,I.hok,I.bare⟩
def Inv.after{Q:VK}{u:Value}(I:Inv X pins σ H s)(h:CE X.stack X.prog X.w H s Q u s'):EP X pins σ Q u s':=by
 obtain⟨v,k,f,a,i,e,r,q⟩:=h
 obtain⟨j,g,d,t,c⟩:=s'
 obtain rfl:c=s.os:=f
 exact⟨v,k,I.call (h':=j) (g':=g) (d':=d) (t':=t) (ch:= []) i e a (λb z=>absurd z (by simp)),r,q⟩
end
def GJ(sp:Sp)(a:List V)(E:XK)(t:TA):TE:=λb H Q=>t b H λc H1=>sp (c++a) H1 Q E
def Binds(K:PySem.W.Frag)(b:FuncData)(ps:List Str)(ds:List Value):Prop:=
 ∀(s:Shared) (a:List Value),K.In s.heap->(a++ds).length=ps.length->BindsTo s b ⟨a,[]⟩ (ps.zip (a++ds))
def Binds.all{K:PySem.W.Frag}{c:FuncData}{ps:List Str}(h:∀a:List Value,a.length=ps.length->bindArgs c ⟨a,[]⟩=pure (ps.zip a)):Binds K c ps []:=λs a _ b=>by
 rw[List.append_nil] at b⊢
 exact .of_eq (h a b)
def BS(CX:FS)(X:Cx)(E:XK):Prop:=∀(a:List (Addr×Obj)) (c:St) (H:Hp) (s:Shared) (e:Value) (b:Shared),Inv X a c H s->CX X.stack H s E e b->X.xe e b
section
variable{X:Cx}{CX:FS}{k:Nat}{f C:Addr}{fd:FuncData}{ps:List Str}{sp:Sp}{dvs:List V}{ds:List Value}{E:XK}{x m:Str}{p pos apos:Pos}{e o:Expr}{es:List Expr}{ta:TE}{t:TA}
def Ga{a:List (Addr×Obj)}{σ:St}{H:Hp}{s:Shared}{Q:VK}{b:List Value}{vs:List V}(F:bO X.prog X.w X.K X.mg X.base CX k f fd ps sp)(l:gN k X.A)(q:Binds X.K fd ps ds)(hd:bZ dvs ds)(i:BS CX X E)
  (I:Inv X a σ H s) (r:bZ vs b) (h:sp (vs++dvs) H Q E):wpAny (model X.prog X.w) X.A (call (.ref f) b) (EP X a σ Q) X.xe s:=by
 have d:bZ (vs++dvs) (b++ds):=r.append hd
 have g:(b++ds).length=ps.length:=by rw[←d.length];exact F.len _ _ _ _ h
 refine wpAny_call (codeAny_mono (F.run X.A X.stack s H ⟨b,[]⟩ (b++ds) (vs++dvs) Q E l I.env0 (q s b I.kIn g) d h) λr j c=> ?_)
 cases r with
 |error e=>exact i a σ H s e j I c
 | ok n=>
   cases n with
   |ret u=>exact I.after c
   |next=>exact False.elim c
   |brk=>exact False.elim c
   |cont=>exact False.elim c
def Em(F:bO X.prog X.w X.K X.mg X.base CX k f fd ps sp)(j:gN k X.A)(u:Gl X x)(l:X.mg x=some (.ref f))(d:PySem.W.keepIn X.K (.ref f)=true)(v:Binds X.K fd ps ds)(hd:bZ dvs ds)(g:BS CX X E)
  (i:PA X (e::es) t) (b:(x==("__debug__":Str))=false:=by decide) (he:starEach (e::es) X.env=(false,eval e X.env)::starEach es X.env:=by rfl) (hpl:(backTo pos (starEach es X.env)).any (·.1)=false:=by rfl):
  PE X (.Call (.Name x p) (e::es) [] pos) (GJ sp dvs E t):=by
 intro a s n H Q I h
 refine wpAny_Call_Name_kw (zc I u l ?_ b)
 refine PySem.W.callWith_K (h₀:=X.base) I.ok.mod.kin d (dC (i pos a s n H _ I h) λy z ⟨B,H1,c,r,q⟩=>⟨c.kIn,?_⟩) he hpl
 exact Ga F j v hd g c r q
end
structure aN(N P:List Str)(sc:Scope):Prop where
 kind:sc.kind=.function
 co:sc.isCoroutine=false
 gen:sc.isGenerator=false
 nd:N.Nodup
 pre:N.take P.length=P
 par:∀x∈P,sc.names.lookup x=some .local\/sc.names.lookup x=some .cell
 nofree:∀y∈sc.names,y.2≠.free
theorem xG{b:Str->Option NameKind}{x:Str}:∀{a:List (Str×Value)} {m:Str->Option Value},(∀v,(x,v)∉a)->bindL b a m x=m x
 | [],_,_=>rfl
 | (n,v)::r,m,h=>by
   unfold bindL
   rw[xG λw c=>h w (Qpq _ c)]
   split
   · have:x≠n:=by rintro rfl;exact h v QBq
     simp[this]
   · rfl
theorem w9{b:Str->Option NameKind}{x:Str}:∀{a:List (Str×Value)} {m:Str->Option Value},(∀v,(x,v)∉a)->bindC b a m x=m x
 | [],_,_=>rfl
 | (n,v)::r,m,h=>by
   unfold bindC
   rw[w9 λw c=>h w (Qpq _ c)]
   split
   · rfl
   · have:x≠n:=by rintro rfl;exact h v QBq
     simp[this]
theorem xv{a:Str->Option NameKind}{x:Str}{v:Value}:∀{P:List Str} {vs:List Value} {i:Nat} {m:Str->Option Value},P.Nodup->P[i]?=some x->vs[i]?=some v->a x=some .local→
  bindL a (P.zip vs) m x=some v
 | [],_,_,_,_,h,_,_=>by simp at h
 |_::_,[],_,_,_,_,h,_=>by simp at h
 | p::P,w::vs,0,m,nd,h1,h2,hk=>by
   simp at h1 h2;subst h1;subst h2
   show bindL a ((p,w)::P.zip vs) m p=_
   unfold bindL
   rw[xG λv b=>(List.nodup_cons.mp nd).1 (QeQ b).1,Qhq hk]
   simp
 | p::P,w::vs,i+1,m,nd,h1,h2,hk=>by
   show bindL a ((p,w)::P.zip vs) m x=_
   unfold bindL
   exact xv (i:=i) (List.nodup_cons.mp nd).2 (by simpa using h1) (by simpa using h2) hk
theorem xZ{a:Str->Option NameKind}{x:Str}{v:Value}:∀{P:List Str} {vs:List Value} {i:Nat} {m:Str->Option Value},P.Nodup->P[i]?=some x->vs[i]?=some v->a x≠some .local→
  bindC a (P.zip vs) m x=some v
 | [],_,_,_,_,h,_,_=>by simp at h
 |_::_,[],_,_,_,_,h,_=>by simp at h
 | p::P,w::vs,0,m,nd,h1,h2,hk=>by
   simp at h1 h2;subst h1;subst h2
   show bindC a ((p,w)::P.zip vs) m p=_
   unfold bindC
   rw[w9 λv b=>(List.nodup_cons.mp nd).1 (QeQ b).1,Quq hk]
   simp
 | p::P,w::vs,i+1,m,nd,h1,h2,hk=>by
   show bindC a ((p,w)::P.zip vs) m x=_
   unfold bindC
   exact xZ (i:=i) (List.nodup_cons.mp nd).2 (by simpa using h1) (by simpa using h2) hk
noncomputable def start(N:List Str)(vs:List V):St:=vs.map some++List.replicate (N.length-vs.length) none
noncomputable def CJ(CX:FS)(P:Program)(w:World)(K:PySem.W.Frag)(mg:Str->Option Value)(base:Heap)(N:List Str)(b:Str)(a:Scope)(f:Addr)(d:Value)(A:Around)(outer:List Env)(s:Shared)(H:Hp)(E:XK):Cx where
 prog:=P
 w:=w
 K:=K
 mg:=mg
 base:=base
 A:=A.deeper (envOfC b a s.heap.objs.size f d)
 N:=N
 s₀:=s
 H₀:=H
 env:=envOfC b a s.heap.objs.size f d
 outer:=outer
 stack:=envOfC b a s.heap.objs.size f d::outer
 ex:= []
 calm:=true
 fn:=λ_=>true
 pn:= []
 xe:=λe h=>wpAny (model P w) (A.deeper (envOfC b a s.heap.objs.size f d)) (leaving (envOfC b a s.heap.objs.size f d) e) (λ_ c=>CX outer H s E e c) (λg c=>CX outer H s E g c) h
def A6{sc:Scope}{n:Nat}{x:Str}(h:sc.names.lookup x=some .cell):∃c,(cellsFrom n sc.names []).lookup x=some c:=by
 have q:=PySem.W.cellsFrom_some sc.names n [] (.inl h)
 exact Option.isSome_iff_exists.mp q
def EA{CX:FS}{P:Program}{w:World}{K:PySem.W.Frag}{mg:Str->Option Value}{base:Heap}{N ps:List Str}{g:Str}{d:Scope}{f:Addr}{G:Value}{A:Around}{outer:List Env}{s J:Shared}{H:Hp}{E:XK}{I:List Value}{vs:List V}
  (S:aN N ps d) (hd:A.handled=none) (l:Ir P w K mg base A outer s H) (U:vs.length=ps.length) (r:bZ vs I)
  (x:InCallC s s.heap.objs.size (bindL (envOfC g d s.heap.objs.size f G).kindOf (ps.zip I) λ_=>none) (cellsFrom (s.heap.objs.size+1) d.names []) (bindC (envOfC g d s.heap.objs.size f G).kindOf (ps.zip I) λ_=>none) J):
  Inv (CJ CX P w K mg base N g d f G A outer s H E) [] (start N vs) H J:=by
 have R:ps.length<=N.length:=by have:=congrArg List.length S.pre;rw[Qxq] at this;omega
 obtain⟨F,Y,rfl,hk⟩:=x.done
 have o:∀b:Addr,b∉(CJ CX P w K mg base N g d f G A outer s H E).ex:=λb z=>absurd (show b∈([]:List Addr) from z) (by simp)
 refine⟨⟨l.mod,S.kind,rfl,rfl,Qmq _,λy z c F j=> ?_,λy m=> ?_,λy c _ h=> ?_,λ_=>hd,Around.frames_deeper l.frames,.inr ⟨rfl,rfl⟩,λb z=>absurd z (o b),l.bs,l.bsz,λb _ _=>o b,λb z=>absurd z (o b),l.funs,l.frf⟩,
  rfl,l.bare,Un.kept hk,⟨_,x.toInCall.ns,λi y v F j X=> ?_⟩,λy c h=>⟨_,x.cell y c h⟩,l.hok.fresh (Qmq _),λy c h=> ?_,λp B=>absurd (show p∈([]:List (Addr×Obj)) from B) (by simp),l.hok.kept hk,?_⟩
 ·exact name_of_addr x.apart (PySem.mem_of_lookup F) (PySem.mem_of_lookup j)
 ·have m:d.names.lookup y=some .cell\/d.names.lookup y=some .free:=m
  rcases m with m|m
  ·exact A6 m
  ·exact absurd rfl (S.nofree _ (PySem.mem_of_lookup m))
 ·exact nQl (x.above y c (PySem.mem_of_lookup h))
 ·have C:i<vs.length:=by
   unfold start at j
   by_cases C:i<vs.length
   ·exact C
   ·rw[QQq (by simpa using C)] at j
    rw[List.getElem?_replicate] at j
    split at j <;>cases j
  have Q:vs[i]?=some v:=by
   unfold start at j
   rw[QHq (by simpa using C),gQm] at j
   cases e:vs[i]? with
   |none=>rw[e] at j;cases j
   |some a=>rw[e] at j;cases j;rfl
  obtain⟨u,L,M⟩:=r.get Q
  have B:ps[i]?=some y:=by
   rw[←S.pre,List.getElem?_take_of_lt (by omega)];exact F
  have t:ps.Nodup:=by rw[←S.pre];exact S.nd.sublist (List.take_sublist _ _)
  refine⟨u,M,?_⟩
  rcases S.par y (mQg B) with k|k
  ·exact .inl ⟨k,xv t B L k⟩
  ·obtain⟨c,e⟩:=A6 (n:=s.heap.objs.size+1) k
   refine .inr ⟨.inl k,c,e,?_⟩
   have q:=x.cell y c e
   rw[xZ t B L (by show d.names.lookup y≠_;rw[k];decide)] at q
   exact q
 ·exact l.hok.fresh (nQl (x.above y c (PySem.mem_of_lookup h)))
 ·unfold start
  show _=N.length
  rw[lQa,lQm,QIq]
  omega
def MO{CX:FS}{P:Program}{w:World}{K:PySem.W.Frag}{mg:Str->Option Value}{base:Heap}{k:Nat}{f:Addr}{name c:Str}{g:Arguments}{h:List Stmt}{a:Scope}{dV kV C pm d ct oc:Value}{Z od:Option Addr}
  {R:Array (Option Value)} {N ps:List Str} {sp:Sp} (lk:K.lookup f=some ⟨oc,od,.func (PySem.W.fnOf name c g h a dV kV C pm Z d ct),R⟩) (G:PySem.W.codeIn K d c=true) (S:aN N ps a)
  (len:∀vs H Q E,sp vs H Q E->vs.length=ps.length)
  (l:∀(A:Around) (outer:List Env) (s:Shared) (H:Hp) (vs:List V) (Q:VK) (E:XK),gN k (A.deeper (envOfC c a s.heap.objs.size f d))->sp vs H Q E→
   ∃t,t8 (CJ CX P w K mg base N c a f d A outer s H E) h t/\t {nx:=λ_ j=>Q .non j,rt:=Q} (start N vs) H):
  bO P w K mg base CX (k+1) f (PySem.W.fnOf name c g h a dV kV C pm Z d ct) ps sp:=by
 refine⟨len,λA outer s H Y us vs Q E X F hb r z=> ?_⟩
 have hl:=len _ _ _ _ z
 have KX:K.In s.heap:=F.mod.kin.keeps λb o e=>(F.bs b o e).1
 have U:s.heap.NoLimit:=F.mod.nolimit.keeps λb o e=>(F.bs b o e).1
 have m:∀y∈ps.zip us,a.names.lookup y.1=some .local\/(a.names.lookup y.1=some .cell/\((cellsFrom (s.heap.objs.size+1) a.names []).lookup y.1).isSome=true):=λ⟨n,v⟩ hy=>by
  rcases S.par n (QeQ hy).1 with q|q
  ·exact .inl q
  ·exact .inr ⟨q,PySem.W.cellsFrom_some _ _ _ (.inl q)⟩
 refine codeAny_call_function X.depth (KX _ _ lk) rfl S.co S.gen rfl (PySem.W.codeRec_of KX G) (hb _ _ _ _ ?_)
 refine wpAny_newFunctionEnv_cells S.kind m λa0 he s1 x=> ?_
 subst he
 refine⟨U.keeps x.toInCall.keep,codeAny_func ?_⟩
 obtain⟨t,ht,hq⟩:=l A outer s H vs Q E (X.deeper _) z
 have I:Inv (CJ CX P w K mg base N c a f d A outer s H E) [] (start N vs) H s1:=EA S X.hd F hl r x
 refine QRq (ht [] s1 (start N vs) H _ I hq) (λfl L p=> ?_) λe L p=>p
 have B:∀{i:St} {j:Hp} {v:V} {u:Value},Inv (CJ CX P w K mg base N c a f d A outer s H E) [] i j L->RelV v u->Q v j->CE outer P w H s Q u L:=
  λ{i j v u} J M q=>⟨v,j,J.os,J.bare,J.base,J.hok,M,q⟩
 cases fl with
 | ret u=>
   obtain⟨v,i,j,J,M,q⟩:=p
   exact B J M q
 | next=>
   obtain⟨i,j,J,q⟩:=p
   exact B (v:=V.non) (u:=Value.none) J rfl q
 | brk=>
   obtain⟨_,_,_,q⟩:=p
   exact False.elim q
 | cont=>
   obtain⟨_,_,_,q⟩:=p
   exact False.elim q
section
variable{X:Cx}{x:Str}{p pos:Pos}{e:Expr}{es:List Expr}{t:TA}{id T:String}{r:List V->Hp->VK->Prop}
def Ny(r:List V->Hp->VK->Prop)(t:TA):TE:=λa H Q=>t a H λb H1=>r b H1 Q
def fc(l:ij X (.builtin id) r)(o:Gl X x)(m:X.mg x=none)(f:bootBuiltins x=some (.builtin id))(j:PA X (e::es) t)(g:x≠"__name__":=by decide)(b:(x==("__debug__":Str))=false:=by decide)
  (he:starEach (e::es) X.env=(false,eval e X.env)::starEach es X.env:=by rfl) (hpl:(backTo pos (starEach es X.env)).any (·.1)=false:=by rfl):PE X (.Call (.Name x p) (e::es) [] pos) (Ny r t):=by
 intro a s c H Q I h
 refine wpAny_Call_Name_kw (mf I o m f ?_ g b)
 exact PyProof.Rows.callWith_builtin1 (dC (j pos a s c H _ I h) λi k ⟨u,H1,n,d,q⟩=>l a k c H1 u i Q n d q) he hpl
def j_(l:ij X (.type T) r)(o:Gl X x)(m:X.mg x=none)(f:bootBuiltins x=some (.type T))(j:PA X (e::es) t)(g:x≠"__name__":=by decide)(b:(x==("__debug__":Str))=false:=by decide)
  (he:starEach (e::es) X.env=(false,eval e X.env)::starEach es X.env:=by rfl) (hpl:(backTo pos (starEach es X.env)).any (·.1)=false:=by rfl):PE X (.Call (.Name x p) (e::es) [] pos) (Ny r t):=by
 intro a s c H Q I h
 refine wpAny_Call_Name_kw (mf I o m f ?_ g b)
 exact PyProof.Rows.callWith_type1 (dC (j pos a s c H _ I h) λi k ⟨u,H1,n,d,q⟩=>l a k c H1 u i Q n d q) he hpl
end
section
variable{κ:Type}[DecidableEq κ]
noncomputable def qY(kvs:List (κ×V))(k:κ):Option V:=(kvs.find? λa=>decide (a.1=k)).map (·.2)
noncomputable def putK(kvs:List (κ×V))(k:κ)(v:V):List (κ×V):=
 if (kvs.any λa=>decide (a.1=k))=true then kvs.map (λa=>if a.1=k then(a.1,v) else a) else kvs++ [(k,v)]
def v5{p:κ×V}{r:List (κ×V)}{k:κ}(e:p.1=k):qY (p::r) k=some p.2:=by simp[qY,List.find?_cons,e]
def uZ{p:κ×V}{r:List (κ×V)}{k:κ}(e:¬p.1=k):qY (p::r) k=qY r k:=by simp[qY,List.find?_cons,e]
theorem Bv(k:κ):∀kvs:List (κ×V),(kvs.any λkv=>decide (kv.1=k))=(qY kvs k).isSome
 | []=>rfl
 | p::r=>by
   rw[List.any_cons]
   by_cases e:p.1=k
   · simp only[v5 e,Qeq e,Bool.true_or,Option.isSome_some]
   · rw[uZ e,Qdq e,Bool.false_or];exact Bv k r
def jL(kvs:List (κ×V))(k:κ)(v:V):(putK kvs k v).length<=kvs.length+1:=by
 unfold putK
 split
 ·rw[lQm];omega
 ·rw[lQa,Qnq,QGq];omega
def vF.isSome_eq{o:Option V}{u:Option Value}(r:vF o u):o.isSome=u.isSome:=by
 cases o with
 | none=>cases u with
   |none=>rfl
   |some _=>exact(show False from r).elim
 | some _=>cases u with
   |none=>exact(show False from r).elim
   |some _=>rfl
def KV.val{kvs:List (κ×V)}{vs:List (κ×Value)}(r:KV kvs vs)(k:κ):vF (qY kvs k) (valueAt vs k):=by
 unfold KV at r
 induction r with
 |nil=>exact True.intro
 | @cons p q ps qs h t ih=>
   obtain⟨c,d⟩:=h
   by_cases e:p.1=k
   · have a:q.1=k:=c.symm.trans e
     have b:valueAt (q::qs) k=some q.2:=by simp[valueAt,List.find?_cons,a]
     rw[v5 e,b];exact d
   · have a:¬q.1=k:=λz=>e (c.trans z)
     have b:valueAt (q::qs) k=valueAt qs k:=by simp[valueAt,List.find?_cons,a]
     rw[uZ e,b];exact ih
theorem KV.any{kvs:List (κ×V)}{vs:List (κ×Value)}(r:KV kvs vs)(k:κ):(kvs.any λkv=>decide (kv.1=k))=vs.any λkv=>decide (kv.1=k):=by
 unfold KV at r
 induction r with
 |nil=>rfl
 |cons h t a=>rw[List.any_cons,List.any_cons,a,h.1]
def KV.repl{kvs:List (κ×V)}{vs:List (κ×Value)}(r:KV kvs vs)(k:κ){y:V}{u:Value}(b:RelV y u):
  KV (kvs.map λkv=>if kv.1=k then(kv.1,y) else kv) (vs.map λkv=>if kv.1=k then(kv.1,u) else kv):=by
 unfold KV at r⊢
 induction r with
 |nil=>exact .nil
 | @cons p q ps qs h t ih=>
   rw[QDq,QDq]
   refine .cons ?_ ih
   obtain⟨a,c⟩:=h
   by_cases e:p.1=k
   · rw[Qhq e,Qhq (a.symm.trans e)];exact⟨a,b⟩
   · rw[Quq e,Quq (λz=>e (a.trans z))];exact⟨a,c⟩
def KV.put{kvs:List (κ×V)}{vs:List (κ×Value)}(r:KV kvs vs)(k:κ){y:V}{u:Value}(a:RelV y u):KV (putK kvs k y) (stored vs k u):=by
 unfold putK stored
 rw[r.any k]
 by_cases e:(vs.any λb=>decide (b.1=k))=true
 ·rw[Qhq e,Qhq e];exact r.repl k a
 ·rw[Quq e,Quq e];exact Paired.snoc r ⟨rfl,a⟩
def KV.length{kvs:List (κ×V)}{vs:List (κ×Value)}(r:KV kvs vs):kvs.length=vs.length:=Paired.length r
end
def Aq{P:Program}{w:World}{k:Key}{u:Value}(r:RelV (kV k) u):(cD P w).is k u=true:=by
 cases k with
 |inl i=>obtain⟨t,e⟩:=(show∃t,u=Value.int i t from r);subst e;exact Bs P w i t
 |inr x=>obtain⟨t,e⟩:=(show∃t,u=Value.str x t from r);subst e;exact AH P w x t
theorem x_{P:Program}{w:World}:∀{a:List Key} {b:List Value},bZ (a.map kV) b->ItemsAre (cD P w) a b
 | [],_,r=>by rw[List.map_nil] at r;cases r;exact .nil
 | k::a,_,r=>by
   rw[QDq] at r
   cases r with
   |cons h t=>exact .cons (Aq h) (x_ t)
abbrev KT(H:Hp):List (List Key×V)->List (List Key×Addr×Value)->Prop:=Paired λp q=>p.1=q.1/\H q.2.1=some (.tup (p.1.map kV))/\RelV p.2 q.2.2
def KT.val{H:Hp}{kvs:List (List Key×V)}{xs:List (List Key×Addr×Value)}(r:KT H kvs xs)(k:List Key):vF (qY kvs k) ((atKey xs k).map (·.2)):=by
 induction r with
 |nil=>exact True.intro
 | @cons p q ps qs h t ih=>
   obtain⟨c,_,d⟩:=h
   by_cases e:p.1=k
   · have a:q.1=k:=c.symm.trans e
     have b:atKey (q::qs) k=some q.2:=by simp[atKey,List.find?_cons,a]
     rw[v5 e,b];exact d
   · have a:¬q.1=k:=λz=>e (c.trans z)
     have b:atKey (q::qs) k=atKey qs k:=by simp[atKey,List.find?_cons,a]
     rw[uZ e,b];exact ih
def KT.repl{H:Hp}{kvs:List (List Key×V)}{xs:List (List Key×Addr×Value)}(r:KT H kvs xs)(k:List Key){y:V}{u:Value}(c:RelV y u):
  KT H (kvs.map λkv=>if kv.1=k then(kv.1,y) else kv) (xs.map (putAt k u)):=by
 induction r with
 |nil=>exact .nil
 | @cons p q ps qs h t ih=>
   rw[QDq,QDq]
   refine .cons ?_ ih
   obtain⟨a,b,d⟩:=h
   unfold putAt
   by_cases e:p.1=k
   · rw[Qhq e,Qhq (a.symm.trans e)];exact⟨a,b,c⟩
   · rw[Quq e,Quq (λz=>e (a.trans z))];exact⟨a,b,d⟩
def KT.put{H:Hp}{kvs:List (List Key×V)}{xs:List (List Key×Addr×Value)}(r:KT H kvs xs)(k:List Key){b:Addr}{y:V}{u:Value}(c:H b=some (.tup (k.map kV)))(a:RelV y u):
  KT H (putK kvs k y) (storedH xs k b u):=by
 have e:(kvs.any λd=>decide (d.1=k))=(atKey xs k).isSome:=by
  rw[Bv,(r.val k).isSome_eq,Option.isSome_map]
 unfold putK storedH
 rw[e]
 by_cases q:(atKey xs k).isSome=true
 ·rw[Qhq q,Qhq q];exact r.repl k a
 ·rw[Quq q,Quq q];exact Paired.snoc r ⟨rfl,c,a⟩
def KT.keeps{H a:Hp}{kvs:List (List Key×V)}{xs:List (List Key×Addr×Value)}(r:KT H kvs xs)(ht:∀b ys,H b=some (.tup ys)->a b=some (.tup ys)):KT a kvs xs:=
 Paired.mapP r λ_ _ z=>⟨z.1,ht _ _ z.2.1,z.2.2⟩
section
variable{P:Program}{w:World}{H:Hp}{h:Heap}{a:Addr}
def Kb{u:HO}(ok:pd P w H h)(e:Rd H a u):dN P w H h a u:=e.ok ok
def Hi{kvs:List (Key×V)}(ok:pd P w H h)(e:Rd H a (.dK kvs)):kvs.length<=sizeLine/\(a==sysModules)=false/\∃vs,KV kvs vs/\h.DictOf (cD P w) a vs:=
 show dN P w H h a (.dK kvs) from Kb ok e
def AN{kvs:List (Key×V)}(ok:pd P w H h)(e:H a=some (.dK kvs)):kvs.length<=sizeLine/\(a==sysModules)=false/\∃vs,KV kvs vs/\h.DictOf (cD P w) a vs:=Hi ok (.inl e)
def CI{b:List Key}(ok:pd P w H h)(e:H a=some (.tup (b.map kV))):(tupleKind (cD P w)).is h b a:=by
 obtain⟨_,c,r,o,d,g,_,n,f⟩:=(show dN P w H h a (.tup (b.map kV)) from ok a _ e)
 exact⟨o,c.toArray,n,d,g,f,by simpa using x_ r⟩
def GI{kvs:List (List Key×V)}(ok:pd P w H h)(e:Rd H a (.dT kvs)):kvs.length<=sizeLine/\(a==sysModules)=false∧
  ∃xs,KT H kvs xs/\h.DictOfH (tupleKind (cD P w)) a xs:=by
 obtain⟨z,y,xs,r,o,d,g,k,j,f,i,n⟩:=(show dN P w H h a (.dT kvs) from Kb ok e)
 refine⟨z,y,xs,r,o,d,g,k,j,f,i,λx b=> ?_,n⟩
 have c:∀{l:List (List Key×V)} {m:List (List Key×Addr×Value)},KT H l m->∀x∈m,(tupleKind (cD P w)).is h x.1 x.2.1:=by
  intro l m q
  induction q with
  |nil=>intro x b;exact nomatch b
  | @cons p q ps qs hq t ih=>
    intro x b
    rcases Qsq.mp b with e|b
    · subst e
      exact CI ok (by rw[←hq.1];exact hq.2.1)
    · exact ih x b
 exact c r x b
def MJ{kvs:List (List Key×V)}(ok:pd P w H h)(e:H a=some (.dT kvs)):kvs.length<=sizeLine/\(a==sysModules)=false∧
  ∃xs,KT H kvs xs/\h.DictOfH (tupleKind (cD P w)) a xs:=GI ok (.inl e)
end
def Fg(H:Hp)(a:Addr)(y:V)(r:Option V):Prop:=
 (∃c k,Rd H a (.dK c)/\y=kV k/\r=qY c k)\/∃c k b,Rd H a (.dT c)/\y=.ref b/\H b=some (.tup (k.map kV))/\r=qY c k
def HD(H:Hp)(a:Addr)(y v:V)(d:Hp):Prop:=
 (∃c k,H a=some (.dK c)/\y=kV k/\c.length<sizeLine/\d=upd H a (.dK (putK c k v)))∨
 ∃c k b,H a=some (.dT c)/\y=.ref b/\H b=some (.tup (k.map kV))/\c.length<sizeLine/\d=upd H a (.dT (putK c k v))
def Fg.k{H:Hp}{a:Addr}{kvs:List (Key×V)}{k:Key}(e:H a=some (.dK kvs)):Fg H a (kV k) (qY kvs k):=.inl ⟨kvs,k,.inl e,rfl,rfl⟩
def HD.k{H:Hp}{a:Addr}{kvs:List (Key×V)}{k:Key}{v:V}(e:H a=some (.dK kvs))(b:kvs.length<sizeLine):HD H a (kV k) v (upd H a (.dK (putK kvs k v))):=.inl ⟨kvs,k,e,rfl,b,rfl⟩
section
variable{X:Cx}{pins:List (Addr×Obj)}{σ:St}{H:Hp}{s:Shared}{a:Addr}{y v:V}{u r:Value}{o:Option V}{A:Around}{E:Value->Shared->Prop}
def Inv.big(I:Inv X pins σ H s):sysModules<s.heap.objs.size:=by
 have h:mainGlobals<s.heap.objs.size:=(I.mod.glob.keeps I.bk).lt
 exact Nat.lt_trans (by decide) h
def FO{Q:Value->Shared->Prop}(J:A.units+1<cLine)(I:Inv X pins σ H s)(g:Fg H a y (some v))(x:RelV y u)(h:∀f t,Inv X pins σ H t->RelV v f->Q f t):
  wpAny (model X.prog X.w) A (getItem (.ref a) u) Q E s:=by
 rcases g with⟨q,k,e,m,l⟩|⟨q,k,b,e,m,F,l⟩
 ·subst m
  obtain⟨z,B,K,c,n⟩:=Hi I.hok e
  obtain⟨f,j,d⟩:=vF.some_of (v:=v) (o:=valueAt K k) (by rw[l];exact c.val k)
  exact wpAny_getItem_of (Aq x) n.mapOf j (h f _ (I.tok _) d)
 ·subst m
  cases (show u=Value.ref b from x)
  obtain⟨z,B,C,c,n⟩:=GI I.hok e
  obtain⟨f,j,d⟩:=vF.some_of (v:=v) (o:=(atKey C k).map (·.2)) (by rw[l];exact c.val k)
  obtain⟨p,G,i⟩:=oQm.mp j
  refine wpAny_getItem_heap (tupleKind_room_in1 J) (CI I.hok F) n G ?_
  rw[i]
  exact h f _ (I.tok _) d
def t6{h':Heap}{t':Nat}{c:HO}(I:Inv X pins σ H s)(d:MK (H a))(f:Heap.SameBut a s.heap h')(he:∃q,h'.get? a=some q)(new:dN X.prog X.w (upd H a c) h' a c):
  Inv X pins σ (upd H a c) {s with heap:=h',toks:=t'}:=
 I.write (x:=a) (e:=a) d (.inl rfl) (λb q g z=>(f.2 b g).trans z) he new
def um{P:Program}{w:World}{d:Hp}{h':Heap}{kvs:List (Key×V)}{vs:List (Key×Value)}(z:kvs.length<=sizeLine)(hd:(a==sysModules)=false)(b:KV kvs vs)(c:h'.DictOf (cD P w) a vs):
  dN P w d h' a (.dK kvs):=⟨z,hd,vs,b,c⟩
def Fo{M:Hp}{Q:Unit->Shared->Prop}(hu:A.units+1<cLine)(I:Inv X pins σ H s)(g:HD H a y v M)(N:RelV y u)(F:RelV v r)(h:∀G,Inv X pins σ M G->Q () G):
  wpAny (model X.prog X.w) A (setItem (.ref a) u r) Q E s:=by
 rcases g with⟨f,k,e,B,l,p⟩|⟨f,k,b,e,B,L,l,p⟩
 ·subst B p
  obtain⟨z,m,vs,d,C⟩:=AN I.hok e
  have x:vs.length<=sizeLine:=by rw[←d.length];exact z
  have n:(putK f k v).length<=sizeLine:=by have:=jL f k v;omega
  refine wpAny_setItem_pairs (hsz:=x) (Aq N) C λK i t=>h _ ?_
  have R:∃q,K.get? a=some q:=let ⟨q,_,_,j,_⟩:=i;⟨q,j⟩
  exact t6 I (by rw[e];exact True.intro) t R (um n m (d.put k F) i)
 ·subst B p
  cases (show u=Value.ref b from N)
  obtain⟨z,m,Z,d,C⟩:=MJ I.hok e
  have x:Z.length<=sizeLine:=by rw[←Paired.length d];exact z
  have n:(putK f k v).length<=sizeLine:=by have:=jL f k v;omega
  refine wpAny_setItem_heap (hsz:=x) (tupleKind_room_in1 hu) (CI I.hok L) C λK i t=>h _ ?_
  obtain⟨q,P,U,j,Y,S,W,_,h5⟩:=i
  refine t6 I (by rw[e];exact True.intro) t ⟨q,j⟩ ⟨n,m,_,(d.put k L F).keeps λc ys J=> ?_,q,P,U,j,Y,S,W,h5⟩
  rw[bJ (Ic J e (λz=>nomatch z))]
  exact J
end
def Ju(i:Expr):Prop:=∀b a,subscripted i false b a=operate [b,a] (getItem b a)
def DP{prog:Program}{w:World}{A:Around}{E:Value->Shared->Prop}{s:Shared}{env:Env}{b a:Expr}{pos:Pos}{T id:String}{Q:Value->Shared->Prop}
  (m:typeLookup (.type T) "__getitem__"=pure (some (.builtin id))) (n:Ju a)
  (h:wpAny (model prog w) A (eval b env) (λo e=>wpAny (model prog w) A (eval a env) (λi c=>c.TypeIs o T/\wpAny (model prog w) A (getItem o i) Q E c) E e) E s):
  wpAny (model prog w) A (eval (.Subscript b a pos) env) Q E s:=by
 refine Subscript_ (QRq h (λo e k=>QRq k (λi c d=> ?_) λ_ _ x=>x) λ_ _ x=>x)
 obtain⟨l,d⟩:=d
 unfold subscriptTail
 refine Qaq ?_
 rw[getitemInPython_of_ne l.not_modules]
 refine Qaq (wpAny_specialOf l m ?_)
 have g:wpAny (model prog w) A (subscripted a false o i) (λr f=>wpAny (model prog w) A (letTemporaryGo b o r >>= λ_=>pure r) Q E f) E c:=by
  rw[n o i]
  exact wpAny_operating (QRq d (λr f j=>Qaq (wpAny_letTemporaryGo (Qgq j))) λ_ _ x=>x)
 first
  |exact Qgq (Qaq g)
  |exact Qaq (Qgq (Qaq g))
  |exact Qaq g
def Bk{X:Cx}{c:List (Addr×Obj)}{σ:St}{H:Hp}{s:Shared}{a:Addr}{y:V}{o:Option V}(I:Inv X c σ H s)(g:Fg H a y o):s.TypeIs (.ref a) "dict":=by
 rcases g with⟨f,k,e,_,_⟩|⟨f,k,b,e,_,_,_⟩
 ·obtain⟨_,_,h,_,d⟩:=Hi I.hok e
  exact d.typeIs
 ·obtain⟨_,_,i,_,d⟩:=GI I.hok e
  exact d.typeIs
def Mp(d c:TE):TE:=λb H Q=>d b H λx H1=>c b H1 λy H2=>∃a v,x=.ref a/\Fg H2 a y (some v)/\Q v H2
def MF(e c d:TE):TS:=λD b H=>d b H λv H1=>e b H1 λx H2=>c b H2 λy H3=>∃a H4,x=.ref a/\HD H3 a y v H4/\D.nx b H4
section
variable{X:Cx}{o i e value:Expr}{pos pos' tpos:Pos}{td ty tv:TE}
def Jy(z:X.A.units+1<cLine)(j:PE X o td)(hi:PE X i ty)(n:Ju i):PE X (.Subscript o i pos) (Mp td ty):=by
 intro b s f H Q I h
 refine DP PySem.F.slot_dict_getitem.lookup n (dC (j b s f H _ I h) λu p ⟨x,H1,q,w,B⟩=>dC (hi b p f H1 _ q B) λJ C k=> ?_)
 obtain⟨y,H2,d,t,a,v,r,g,l⟩:=k
 subst r
 obtain rfl:u=Value.ref a:=w
 exact⟨Bk d g,FO z d g t λK G m c=>⟨v,H2,m,c,l⟩⟩
def Iy(F:X.A.units+1<cLine)(d:PE X o td)(hi:PE X i ty)(j:PE X value tv)(n:swapsWith value (some (.Subscript o i pos')) pos.line X.env=pure false):
  PS X (.Assign [.Subscript o i pos'] value pos) (MF td ty tv):=by
 intro b s c H D I h
 refine wpAny_Assign_Subscript (dC (j b s c H _ I h) λr q ⟨v,H1,w,k,J⟩=>dC (d b q c H1 _ w J) λu f ⟨x,H2,t,C,l⟩=>dC (hi b f c H2 _ t l) λM L ⟨y,H3,m,B,a,H4,z,g,G⟩=> ?_) n
 subst z
 obtain rfl:u=Value.ref a:=C
 exact Fo F m g B k λK p=>⟨c,H4,p,G⟩
end
def G4{P:Program}{w:World}{H:Hp}(h:Heap)(a:sysModules<h.objs.size):dN P w H (h.push {cls:=.type "dict",data:=.dict #[]}) h.objs.size (.dK []):=
 ⟨Nat.zero_le _,beq_eq_false_iff_ne.mpr (Ne.symm (Qwq a)),[],.nil,Heap.DictOf.new h⟩
def Lu:TE:=λ_ H Q=>∀p,H p=none->Q (.ref p) (upd H p (.dK []))
section
variable{X:Cx}{pos:Pos}
def Gx:PE X (.Dict [] [] pos) Lu:=λb s c H Q I h=>
 wpAny_Dict_empty ⟨.ref s.heap.objs.size,_,I.laid (a:=s.heap.objs.size) (o:=.dK []) (t':=s.toks) (λ_ _ q=>Qcq _ q) (Qmq _) (G4 s.heap I.big),rfl,h _ (I.hok.fresh (Qmq _))⟩
end
noncomputable def kP(kvs more:List (Key×V)):List (Key×V):=more.foldl (λa b=>putK a b.1 b.2) kvs
def KV.merge:∀{more:List (Key×V)} {rs:List (Key×Value)} {kvs:List (Key×V)} {vs:List (Key×Value)},KV more rs->KV kvs vs->KV (kP kvs more) (merged vs rs):=by
 intro more rs kvs vs r
 unfold KV at r
 induction r generalizing kvs vs with
 |nil=>intro q;exact q
 | @cons p q ps qs h t ih=>
   intro a
   have e:KV (putK kvs p.1 p.2) (stored vs q.1 q.2):=by
     have:=a.put p.1 h.2
     rw[←h.1];exact this
   exact ih e
theorem jR:∀(more kvs:List (Key×V)),(kP kvs more).length<=kvs.length+more.length
 | [],kvs=>by show kvs.length<=kvs.length+0;omega
 | p::r,kvs=>by
   have a:=jR r (putK kvs p.1 p.2)
   have b:=jL kvs p.1 p.2
   show(kP (putK kvs p.1 p.2) r).length<=_
   rw[Qnq];omega
end L2
namespace HT
open PySem PyProof.Rows
section
open PySem.SeqAt
open PySem.AutoSeq1 (wpAny_loadPart')
open PySem.MeetsSeq PySem.MeetsSeq2 PySem.MeetsSeq3
end
section
variable{prog:Program}{w:World}{A:Around}{E:Value->Shared->Prop}{s:Shared}
def IK{t b:Addr}{vs ws:List Value}{Q:Value->Shared->Prop}(ht:IsTup s.heap t vs.toArray)(z:IsTup s.heap b ws.toArray)(l:vs≠[])
  (y:ws= []->Q (.ref t) s) (v:ws≠[]->Q (.ref s.heap.objs.size) {s with heap:=s.heap.push {cls:=.type "tuple",data:=.seq (vs++ws).toArray}})
  (hsz:vs.length+ws.length<=sizeLine):wpAny (model prog w) A (binaryOp .Add (.ref t) (.ref b)) Q E s:=by
 obtain⟨⟨x,q,p,m⟩,h,u,n,k⟩:=id ht
 obtain⟨⟨o,f,j,d⟩,a,g,r,c⟩:=id z
 simp only at u k g c
 subst u k g c
 have e:vs.toArray++ws.toArray=(vs++ws).toArray:=by simp
 by_cases i:ws= []
 ·exact concat_meets ⟨_,h,rfl⟩ ⟨_,a,rfl⟩ noFill_tuple_add seq_tuple_add PySem.F.slot_tuple_add PySem.F.entry_tuple_add (PySem.F.args_tuple_add_2 _ _)
   (tuple_addW1 t b vs.toArray ws.toArray n r q f m d (by simpa using l) (by simp[i])) ⟨h,a,y i⟩
 ·refine concat_meets ⟨_,h,rfl⟩ ⟨_,a,rfl⟩ noFill_tuple_add seq_tuple_add PySem.F.slot_tuple_add PySem.F.entry_tuple_add (PySem.F.args_tuple_add_2 _ _)
   (tuple_addW2 t b vs.toArray ws.toArray n r q f m d (by simpa using l) (by simpa using i) (by rw[Qjq,Qjq];exact hsz)) ⟨h,a,?_⟩
  rw[e]
  exact v i
noncomputable def gC(n d:Nat):Option Int->Nat
 |none=>d
 |some v=>if v<0 then(v+(n:Int)).toNat else min v.toNat n
def vc(n d:Nat):gC n d none=d:=rfl
def DI(n d k:Nat):gC n d (some (k:Int))=min k n:=by
 show(if (k:Int)<0 then((k:Int)+(n:Int)).toNat else min (k:Int).toNat n)=min k n
 rw[Quq (by omega),Int.toNat_natCast]
def KI(n d:Nat)(hd:d<=n)(o:Option Int):gC n d o<=n:=by
 cases o with
 |none=>exact hd
 | some v=>
   show(if v<0 then(v+(n:Int)).toNat else min v.toNat n)<=n
   by_cases a:v<0
   · rw[Qhq a];omega
   · rw[Quq a];exact Nat.min_le_right _ _
def Dg(v:Int)(n d:Nat):(if v<0 then max (v+(n:Int)) 0 else min v (n:Int))=((gC n d (some v):Nat):Int):=by
 show(if v<0 then max (v+(n:Int)) 0 else min v (n:Int))=(((if v<0 then(v+(n:Int)).toNat else min v.toNat n):Nat):Int)
 by_cases a:v<0
 ·simp only[Qhq a];omega
 ·simp only[Quq a];omega
def CP(lo hi:Option Int)(n:Nat):Builtin.Slice.sliceAdjust lo hi 1 (n:Int)=(((gC n 0 lo:Nat):Int),((gC n n hi:Nat):Int)):=by
 have a:¬((1:Int)<0):=by omega
 unfold Builtin.Slice.sliceAdjust
 simp only[a,if_false]
 refine Prod.ext ?_ ?_
 ·cases lo with
  |none=>rfl
  |some v=>exact Dg v n 0
 ·cases hi with
  |none=>rfl
  |some v=>exact Dg v n n
def BO(i j:Nat):Builtin.Slice.slicePlaces (i:Int) (j:Int) 1=j-i:=by
 unfold Builtin.Slice.slicePlaces
 have a:(1:Int)>0:=by omega
 simp only[a,if_true,Int.ediv_one]
 split <;>omega
def uY{v:Value}{o:Option Int}{Q:Option Int->Shared->Prop}(p:IsPart v o)(h:Q o s):wpAny (model prog w) A (Builtin.Slice.slicePartIndex v) Q E s:=by
 cases p with
 |none=>exact slicePart_none h
 |int i t=>exact slicePart_int h
def kb{e:Addr}{c d:Value}{lo hi:Option Int}{n:Nat}{Q:Int×Int×Nat->Shared->Prop}(i:s.heap.IsSliceOf e c d .none)(g:IsPart c lo)(f:IsPart d hi)
  (h:Q (((gC n 0 lo:Nat):Int),1,gC n n hi-gC n 0 lo) s):wpAny (model prog w) A (Builtin.Slice.sliceApplied (.ref e) (pure (n:Int))) Q E s:=by
 obtain⟨k,b,j,a⟩:=id i
 unfold Builtin.Slice.sliceApplied Builtin.Slice.sliceFields
 refine Qaq (Qaq (QMq b a (x:=c) rfl (Qaq (QMq b a (x:=d) rfl (Qaq (QMq b a (x:=.none) rfl (Qgq ?_)))))))
 refine Qaq (slicePart_none ?_)
 show wpAny _ _ (if ((1:Int)==0)=true then _ else _) _ _ s
 rw[Quq (by decide)]
 refine Qaq (uY g (Qaq (uY f (Qaq (Qgq ?_)))))
 show wpAny _ _ (match Builtin.Slice.sliceAdjust lo hi 1 (n:Int) with|(lo,hi)=>pure (lo,(1:Int),Builtin.Slice.slicePlaces lo hi 1)) _ _ s
 rw[CP lo hi n]
 show wpAny _ _ (pure (((gC n 0 lo:Nat):Int),(1:Int),Builtin.Slice.slicePlaces ((gC n 0 lo:Nat):Int) ((gC n n hi:Nat):Int) 1)) _ _ s
 rw[BO]
 exact Qgq h
def GA(xs:Array Value)(i k:Nat):((List.range k).filterMap λ(m:Nat)=>xs[((i:Int)+(m:Int)*1).toNat]?).toArray=((xs.toList.drop i).take k).toArray:=by
 have e:(λ(m:Nat)=>xs[((i:Int)+(m:Int)*1).toNat]?)=λm=>xs[i+m]? :=by
  funext m
  have:((i:Int)+(m:Int)*1).toNat=i+m:=by omega
  rw[this]
 rw[e]
 have:=pick_run xs i k
 rw[List.filterMap_map] at this
 have a:((λx=>xs[x]?)∘λx=>i+x)=λm=>xs[i+m]? :=rfl
 rw[a] at this
 rw[this]
def pR{t d:Addr}{items:Array Value}{g j:Value}{lo hi:Option Int}{Q:Value->Shared->Prop}(ht:IsTup s.heap t items)(i:s.heap.IsSliceOf d g j .none)(l:IsPart g lo)(o:IsPart j hi)
  (p:¬(gC items.size 0 lo=0/\gC items.size items.size hi=items.size))
  (h:Q (.ref s.heap.objs.size) {s with heap:=s.heap.push {cls:=.type "tuple",data:=.seq ((items.toList.drop (gC items.size 0 lo)).take (gC items.size items.size hi-gC items.size 0 lo)).toArray}})
  (hsz:items.size<=sizeLine):wpAny (model prog w) A (getItem (.ref t) (.ref d)) Q E s:=by
 have a:sizeOk (.seq ((items.toList.drop (gC items.size 0 lo)).take (gC items.size items.size hi-gC items.size 0 lo)).toArray):=by
  show((items.toList.drop (gC items.size 0 lo)).take (gC items.size items.size hi-gC items.size 0 lo)).toArray.size<=sizeLine
  rw[Qjq,Qxq,List.length_drop,Array.length_toList]
  omega
 have r:gC items.size items.size hi<=items.size:=KI _ _ (Qmq _) hi
 obtain⟨k,c,e,n⟩:=id i
 have b:s.TypeIs (.ref d) "slice":=⟨k,c,e⟩
 unfold getItem
 try with_reducible refine QLq ?_
 first|refine Qaq (Qgq ?_)|skip
 refine Qaq (wpAny_sequenceKey ht.typeIs (by decide) ?_)
 refine Qaq (QiQ (name:=Str.ofString "__getitem__") ht.typeIs PyProof.Rows.slot_tuple_getitem
  (wpAny_call_entry PyProof.Rows.slot_tuple_getitem ht.typeIs entry_tuple_getitem ?_ (args_tuple_getitem _ _)))
 show wpAny _ _ (Builtin.Tuple.tupleItemsOf (.ref t) >>= _) _ _ s
 refine Qaq (tupleItemsOf_ ht ?_)
 refine Qaq (wpAny_typeOf b ?_)
 rw[Qhq (by decide)]
 refine Qaq (kb i l o ?_)
 have f:¬((((gC items.size 0 lo:Nat):Int)==0&&(1:Int)==1&&(gC items.size items.size hi-gC items.size 0 lo)==items.size)=true):=by
  intro q
  rw[QCq,QCq] at q
  have v:((gC items.size 0 lo:Nat):Int)=0:=eq_of_beq q.1.1
  have u:gC items.size items.size hi-gC items.size 0 lo=items.size:=eq_of_beq q.2
  exact p ⟨by omega,by omega⟩
 show wpAny _ _ (if (((gC items.size 0 lo:Nat):Int)==0&&(1:Int)==1&&(gC items.size items.size hi-gC items.size 0 lo)==items.size)=true then _ else _) _ _ s
 rw[Quq f,GA]
 first
  |exact Qaq (m:=Builtin.Tuple.tupleExact _) (QhQ (Qgq ⟨_,rfl,Qgq h⟩) a)
  |exact Qaq (m:=Builtin.Tuple.tupleExact _) (QhQ (Qaq (Qgq (Qgq ⟨_,rfl,Qgq h⟩))) a)
  |exact Qaq (Qaq (m:=Builtin.Tuple.tupleExact _) (QhQ (Qgq (Qgq ⟨_,rfl,Qgq h⟩)) a))
  |exact Qaq (Qaq (m:=Builtin.Tuple.tupleExact _) (QhQ (Qgq ⟨_,rfl,Qgq h⟩) a))
end
end HT
namespace L2
open PySem PySem.Spec PyProof.Rows
abbrev TO:=St->Hp->(Option Int->Hp->Prop)->Prop
def PO(X:Cx)(e:Option Expr)(t:TO):Prop:=
 ∀ (a:List (Addr×Obj)) (s:Shared) (b:St) (H:Hp) (Q:Option Int->Hp->Prop),Inv X a b H s->t b H Q→
   wpAny (model X.prog X.w) X.A (evalPart e X.env) (λu d=>∃o c,Inv X a b c d/\IsPart u o/\Q o c) X.xe s
def JR:TO:=λ_ H Q=>Q none H
def L9(t:TE):TO:=λa H Q=>t a H λx H1=>∃i,x=.int i/\Q (some i) H1
section
variable{X:Cx}{e:Expr}{te:TE}{lo hi:Option Expr}{tl th:TO}{pos p2:Pos}
def JH:PO X none JR:=by
 intro a s b H Q I h
 rw[evalPart_none]
 exact Qgq ⟨none,H,I,.none,h⟩
def JG(h:PE X e te):PO X (some e) (L9 te):=by
 intro a s b H Q I g
 rw[evalPart_some]
 refine dC (h a s b H _ I g) λu k c=> ?_
 obtain⟨x,H1,d,f,j⟩:=c
 obtain⟨i,rfl,q⟩:=j
 obtain⟨t,rfl⟩:=f
 exact⟨some i,H1,d,.int i t,q⟩
def NU(X:Cx)(r:V->Option Int->Option Int->Hp->VK->Prop):Prop:=
 ∀ (a:List (Addr×Obj)) (s:Shared) (c:St) (H:Hp) (x:V) (v d f:Value) (lo hi:Option Int) (b:Addr) (Q:VK),Inv X a c H s->RelV x v->s.heap.IsSliceOf b d f .none->IsPart d lo->IsPart f hi->r x lo hi H Q→
   ∃T id,typeLookup (.type T) "__getitem__"=pure (some (.builtin id))/\s.TypeIs v T/\wpAny (model X.prog X.w) X.A (getItem v (.ref b)) (EP X a c Q) X.xe s
def OY(r:V->Option Int->Option Int->Hp->VK->Prop)(te:TE)(tl th:TO):TE:=λa H Q=>te a H λx H1=>tl a H1 λl H2=>th a H2 λu H3=>r x l u H3 Q
def Hy{r:V->Option Int->Option Int->Hp->VK->Prop}(z:NU X r)(he:PE X e te)(k:PO X lo tl)(G:PO X hi th):PE X (.Subscript e (.Slice lo hi none p2) pos) (OY r te tl th):=by
 intro a s d H Q I h
 refine Subscript_ (dC (he a s d H _ I h) λv B i=> ?_)
 obtain⟨x,H1,F,m,K⟩:=i
 refine wpAny_Slice (dC (k a B d H1 _ F K) λf j ⟨l,H2,C,n,p⟩=>dC (G a j d H2 _ C p) λg c i=> ?_)
 obtain⟨u,H3,t,o,J⟩:=i
 rw[evalPart_none]
 refine Qgq ?_
 have y:Inv X a d H3 {c with heap:=c.heap.push {cls:=.type "slice",data:=.fields #[f,g,.none]}}:=t.kept (t':=c.toks) λb L q=>Qcq _ q
 obtain⟨T,id,hT,ht,hg⟩:=z a {c with heap:=c.heap.push {cls:=.type "slice",data:=.fields #[f,g,.none]}} d H3 x v f g l u c.heap.objs.size Q y m (Heap.IsSliceOf.new ..) n o J
 show wpAny (model X.prog X.w) X.A (subscriptTail e (.Slice lo hi none p2) v (.ref c.heap.objs.size)) (EP X a d Q) X.xe {c with heap:=c.heap.push {cls:=.type "slice",data:=.fields #[f,g,.none]}}
 exact tail_any (ops:= [.ref c.heap.objs.size,v]) ht hT hg (by with_unfolding_all rfl)
noncomputable def Cc(xs:List V)(lo hi:Option Int):List V:=(xs.drop (HT.gC xs.length 0 lo)).take (HT.gC xs.length xs.length hi-HT.gC xs.length 0 lo)
def A9(xs:List V)(lo hi:Option Int):(Cc xs lo hi).length<=xs.length:=by
 unfold Cc
 rw[Qxq,List.length_drop]
 omega
def Oh(K:PySem.W.Frag):V->Option Int->Option Int->Hp->VK->Prop:=λx lo hi H Q=>∃a b,x=.ref a/\jy K H a b∧
 ¬(HT.gC b.length 0 lo=0/\HT.gC b.length b.length hi=b.length)/\∀p,H p=none->Q (.ref p) (upd H p (.tup (Cc b lo hi)))
def Lm:NU X (Oh X.K):=by
 intro g s w H x v p y lo hi t Q I n m k l h
 obtain⟨a,d,rfl,hx,hw,q⟩:=h
 cases n
 obtain⟨f,r,j,i⟩:=I.tuple hx
 have c:f.toArray.size=d.length:=by rw[Qjq];exact r.length.symm
 refine⟨"tuple",_,PyProof.Rows.slot_tuple_getitem.lookup,j.typeIs,?_⟩
 refine HT.pR j m k l (by rw[c];exact hw) ?_ (by rw[c];exact i)
 rw[c]
 refine⟨.ref s.heap.objs.size,_,I.laid (t':=s.toks) (o:=.tup (Cc d lo hi)) (λb u q=>Qcq _ q) (Qmq _) ?_,rfl,q _ (I.hok.fresh (Qmq _))⟩
 exact⟨QAq (A9 d lo hi) i,_,(r.drop (HT.gC d.length 0 lo)).take (HT.gC d.length d.length hi-HT.gC d.length 0 lo),AF.new _ _⟩
def J7(K:PySem.W.Frag):R2:=λx y H Q=>∃a b d c,x=.ref a/\y=.ref b/\jy K H a d/\jy K H b c/\d≠[]/\d.length+c.length<=sizeLine∧
 (c= []->Q (.ref a) H)/\(c≠[]->∀p,H p=none->Q (.ref p) (upd H p (.tup (d++c))))
def bZ.nil_iff{xs:List V}{a:List Value}(r:bZ xs a):a= []↔xs= []:=by
 cases r with
 |nil=>simp
 |cons _ _=>simp
def IY:lN X (binaryOp .Add) (J7 X.K):=by
 intro f s r H x y v u Q I m l h
 obtain⟨a,b,j,n,rfl,rfl,ha,hb,hx,hz,q1,q2⟩:=h
 cases m
 cases l
 obtain⟨k,d,i,_⟩:=I.tuple ha
 obtain⟨g,c,p2,_⟩:=I.tuple hb
 refine HT.IK i p2 (λz=>hx (d.nil_iff.mp z)) (λz=>⟨.ref a,H,I,rfl,q1 (c.nil_iff.mp z)⟩) (λz=> ?_) (by rw[←d.length,←c.length];exact hz)
 refine⟨.ref s.heap.objs.size,_,I.laid (t':=s.toks) (o:=.tup (j++n)) (λb p q=>Qcq _ q) (Qmq _) ?_,rfl,q2 (λw=>z (c.nil_iff.mpr w)) _ (I.hok.fresh (Qmq _))⟩
 exact⟨by rw[lQa];exact hz,_,d.append c,AF.new _ _⟩
end
noncomputable def FJ(n:Nat)(i:Int):Option Nat:=if 0<=i then(if i<n then some i.toNat else none) else if -(n:Int)<=i then some (i+n).toNat else none
noncomputable def lL{α:Type}(xs:List α)(i:Int):Option α:=(FJ xs.length i).bind λj=>xs[j]?
def yp{n:Nat}{i:Int}{j:Nat}(h:FJ n i=some j):seqIndex? i n=some j/\j<n/\ -(n:Int)<=i/\i<n:=by
 unfold FJ at h
 by_cases b:0<=i
 ·rw[Qhq b] at h
  by_cases a:i<n
  ·rw[Qhq a] at h
   have e:i.toNat=j:=QdQ h
   exact⟨by rw[seqIndex_of b a,e],by omega,by omega,a⟩
  ·rw[Quq a] at h;cases h
 ·rw[Quq b] at h
  by_cases a: -(n:Int)<=i
  ·rw[Qhq a] at h
   have e:(i+n).toNat=j:=QdQ h
   exact⟨by rw[seqIndex_neg (by omega) a,e],by omega,a,by omega⟩
  ·rw[Quq a] at h;cases h
def yF{α:Type}{xs:List α}{i:Int}{v:α}(h:lL xs i=some v):∃j,seqIndex? i xs.length=some j/\xs[j]?=some v/\j<xs.length/\ -(xs.length:Int)<=i/\i<xs.length:=by
 unfold lL at h
 cases e:FJ xs.length i with
 |none=>rw[e] at h;cases h
 | some j=>
   rw[e] at h
   obtain⟨a,d,c,b⟩:=yp e
   exact⟨j,a,h,d,c,b⟩
def D_(b:Expr):Prop:=∀o i,subscripted b false o i=operate [o,i] (getItem o i)
def Ja(X:Cx)(r:R2):Prop:=
 ∀ (c a:Expr) (b:List (Addr×Obj)) (s:Shared) (d:St) (H:Hp) (x y:V) (v u:Value) (Q:VK),Inv X b d H s->RelV x v->RelV y u->r x y H Q→
   subscripted a false v u=operate [v,u] (getItem v u)->wpAny (model X.prog X.w) X.A (subscriptTail c a v u) (EP X b d Q) X.xe s
def NZ(X:Cx)(id:String)(r:V->List V->Hp->VK->Prop):Prop:=
 ∀ (a:List (Addr×Obj)) (s:Shared) (b:St) (H:Hp) (x:V) (d:List V) (v:Value) (c:List Value) (Q:VK),Inv X a b H s->RelV x v->bZ d c->r x d H Q→
   wpAny (model X.prog X.w) X.A (call (.builtin id) (v::c)) (EP X a b Q) X.xe s
section
variable{X:Cx}{a b:Expr}{ta tb:TE}{pos:Pos}
def Ja.or{r g:R2}(h:Ja X r)(h':Ja X g):Ja X (λx y H Q=>r x y H Q\/g x y H Q):=by
 intro c d e s i H x y v u Q I k j q f
 rcases q with q|q
 ·exact h c d e s i H x y v u Q I k j q f
 ·exact h' c d e s i H x y v u Q I k j q f
def Mw{r:R2}(g:Ja X r)(f:PE X a ta)(m:PE X b tb)(e:D_ b):PE X (.Subscript a b pos) (Ka r ta tb):=by
 intro c s j H Q I h
 exact Subscript_ (K1 f m I h λv u d x y H2 i l k q=>g a b c d j H2 x y v u Q i l k q (e _ _))
def MM(K:PySem.W.Frag):R2:=λx y H Q=>∃p c i v,x=.ref p/\y=.int i/\jN K H p c/\lL c i=some v/\Q v H
def Nk(K:PySem.W.Frag):R2:=λx y H Q=>∃p c i v,x=.ref p/\y=.int i/\jy K H p c/\lL c i=some v/\Q v H
def L_:R2:=λx y H Q=>∃z i c,x=.str z/\y=.int i/\z.length<=sizeLine/\lL z.cps.toList i=some c/\Q (.str ⟨#[c]⟩) H
def IW:Ja X (MM X.K):=by
 intro l n c s C H x y v u Q I P N h o
 obtain⟨p,W,i,z,rfl,rfl,hq,he,q⟩:=h
 cases P
 obtain⟨t,rfl⟩:=N
 obtain⟨m,r,f,U⟩:=I.list hq
 obtain⟨j,e,J,R,G,M⟩:=yF he
 obtain⟨w,B,k⟩:=r.get J
 have F:=r.length
 have S:=lA
 have d:EP X c C Q w s:=⟨z,H,I,k,q⟩
 by_cases A:0<=i
 ·have g:i.toNat=j:=by
   rw[seqIndex_of A M] at e
   exact QdQ e
  exact item_listR f.isList A (by omega) (by rw[g];simpa using B) d o
 ·have g:(i+(m.toArray.size:Int)).toNat=j:=by
   rw[seqIndex_neg (by omega) G] at e
   rw[Qjq,←F]
   exact QdQ e
  exact subscriptTail_builtinR (x:=w) f.isList.typeIs slot_list_getitem.lookup
   (wpAny_getItem_list_neg (Q:=λr L=>r=w/\EP X c C Q r L) f.isList (by omega) (by rw[Qjq] <;>omega) (by omega) (by rw[g];simpa using B) ⟨rfl,d⟩) o
def LG:Ja X (Nk X.K):=by
 intro e g c s l H x y v u Q I J G h o
 obtain⟨p,R,i,z,rfl,rfl,hq,he,q⟩:=h
 cases J
 obtain⟨t,rfl⟩:=G
 obtain⟨C,r,k,P⟩:=I.tuple hq
 obtain⟨j,B,n,L,N,S⟩:=yF he
 obtain⟨w,F,d⟩:=r.get n
 have m:=r.length
 have M:=lA
 have f:EP X c l Q w s:=⟨z,H,I,d,q⟩
 exact subscriptTail_builtinR (x:=w) k.typeIs slot_tuple_getitem.lookup
  (getItem_tuple (j:=j) (Q:=λr A=>r=w/\EP X c l Q r A) k (by omega) (by omega) (by rw[Qjq,←m];exact B) (by simpa using F) ⟨rfl,f⟩) o
def Kw:Ja X L_:=by
 intro d e f s F H x y v u Q I w r h o
 obtain⟨z,i,c,rfl,rfl,hz,he,q⟩:=h
 obtain⟨t,rfl⟩:=w
 obtain⟨G,rfl⟩:=r
 obtain⟨j,g,n,B,m,p⟩:=yF he
 have k:z.cps.toList.length=z.length:=by simp[Str.length]
 rw[k] at g m p
 have C:=lA
 exact tail_any (typeIs_str s z t) slot_str_getitem.lookup (getItem_str (c:=c) (by
  have A:decide (i< -(2^63:Int))=false:=Qdq (by omega)
  have l:decide (i>=2^63)=false:=Qdq (by omega)
  rw[A,l,Bool.or_false]) (by rw[g];simpa using n) ⟨.str ⟨#[c]⟩,H,I.tok _,⟨_,rfl⟩,q⟩) o
def Oy(K:PySem.W.Frag):R2:=λx y H Q=>MM K x y H Q\/Nk K x y H Q\/L_ x y H Q
def Ll:Ja X (Oy X.K):=IW.or (LG.or Kw)
def CD(c:List Value)(n j:Nat)(u:Value):Obj.mapSeq (·.setIfInBounds j u) {cls:=.type "list",data:=.seq c.toArray n}={cls:=.type "list",data:=.seq (c.set j u).toArray n}:=by
 simp[Obj.mapSeq]
def Inv.lst{d:List (Addr×Obj)}{σ:St}{H:Hp}{s:Shared}{p:Addr}{xs:List V}(I:Inv X d σ H s)(h:H p=some (.lst xs)):
  ∃(c:List Value) (n:Nat),bZ xs c/\s.heap.get? p=some {cls:=.type "list",data:=.seq c.toArray n}/\xs.length<=sizeLine:=by
 obtain⟨z,c,n,r,e⟩:=I.hok p _ h
 exact⟨c,n,r,e,z⟩
def Inv.lstUpd{c:List (Addr×Obj)}{σ:St}{H:Hp}{s:Shared}{p:Addr}{xs ys:List V}{d its':List Value}{n g:Nat}{f:Obj->Obj}(I:Inv X c σ H s)(h:H p=some (.lst xs))
  (j:s.heap.get? p=some {cls:=.type "list",data:=.seq d.toArray n}) (i:f {cls:=.type "list",data:=.seq d.toArray n}={cls:=.type "list",data:=.seq its'.toArray g}) (r:bZ ys its') (hz:ys.length<=sizeLine) (t:Nat):
  Inv X c σ (upd H p (.lst ys)) {s with heap:=s.heap.update p f,toks:=t}:=by
 have e:(s.heap.update p f).get? p=some {cls:=.type "list",data:=.seq its'.toArray g}:=by
  rw[Heap.get?_update_self f j (by rw[i] <;>rfl),i]
 refine I.write (x:=p) (e:=p) (by rw[h];trivial) (.inl rfl) (λb u k q=>(Heap.get?_update_other _ _ (Ne.symm k)).trans q) ⟨_,e⟩ ?_
 exact⟨hz,its',g,r,e⟩
def J1:V->V->V->Hp->(Hp->Prop)->Prop:=λo i v H Q=>∃p c k j,o=.ref p/\i=.int k/\H p=some (.lst c)/\FJ c.length k=some j/\Q (upd H p (.lst (c.set j v)))
def set_list:Kq X J1:=by
 intro c s G H o i v L M u Q I z B A h
 obtain⟨p,F,k,j,rfl,rfl,hp,hj,q⟩:=h
 cases z
 obtain⟨t,rfl⟩:=B
 obtain⟨d,n,r,f,C⟩:=I.lst hp
 obtain⟨e,K,m,w⟩:=yp hj
 have g:=r.length
 have J:=lA
 have x:Inv X c G (upd H p (.lst (F.set j v))) {s with heap:=s.heap.update p (Obj.mapSeq (·.setIfInBounds j u))}:=
  I.lstUpd hp f (CD d n j u) (r.set A j) (by rw[List.length_set];exact C) s.toks
 by_cases y:0<=k
 ·have l:k.toNat=j:=by
   rw[seqIndex_of y w] at e
   exact QdQ e
  exact PySem.W.ki_setAt f y (by omega) (by rw[Qjq,←g];exact w) (by rw[l];exact⟨_,x,q⟩)
 ·have l:(k+(d.toArray.size:Int)).toNat=j:=by
   rw[seqIndex_neg (by omega) m] at e
   rw[Qjq,←g]
   exact QdQ e
  exact PySem.W.ki_setBack f (by omega) (by rw[Qjq,←g];exact m) (by omega) (by rw[l];exact⟨_,x,q⟩)
noncomputable def iW:V->Bool
 |.non=>true
 |.bl _=>true
 |.int _=>true
 |.str _=>true
 |_=>false
noncomputable def ph:V->V->Bool
 |.non,.non=>true
 |.bl a,.bl b=>a==b
 |.bl a,.int b=>(if a then 1 else 0)==b
 |.int a,.bl b=>a==(if b then 1 else 0)
 |.int a,.int b=>a==b
 |.str a,.str b=>a==b
 |_,_=>false
def Hj{A:Around}{s:Shared}{y x:V}{u v:Value}(e:RelV y u)(c:RelV x v)(g:iW y=true)(f:iW x=true):SeqAt.EqAt A s u v (ph y x):=by
 cases y with
 | non=>
   cases e
   cases x with
   |non=>cases c;exact SeqAt.EqAt.same _
   |bl b=>cases c;exact SeqAt.EqAt.none_bool b
   |int b=>obtain⟨t,rfl⟩:=c;exact SeqAt.EqAt.none_int b t
   |str b=>obtain⟨t,rfl⟩:=c;exact SeqAt.EqAt.none_str b t
   |_=>exact absurd (show false=true from f) Qtq
 | bl a=>
   cases e
   cases x with
   |non=>cases c;exact SeqAt.EqAt.bool_none a
   |bl b=>cases c;exact SeqAt.EqAt.bool_bool a b
   |int b=>obtain⟨t,rfl⟩:=c;exact SeqAt.EqAt.bool_int a b t
   |str b=>obtain⟨t,rfl⟩:=c;exact SeqAt.EqAt.bool_str a b t
   |_=>exact absurd (show false=true from f) Qtq
 | int a=>
   obtain⟨d,rfl⟩:=e
   cases x with
   |non=>cases c;exact SeqAt.EqAt.int_none a d
   |bl b=>cases c;exact SeqAt.EqAt.int_bool a d b
   |int b=>obtain⟨t,rfl⟩:=c;exact SeqAt.EqAt.int_int a d b t
   |str b=>obtain⟨t,rfl⟩:=c;exact SeqAt.EqAt.int_str a d b t
   |_=>exact absurd (show false=true from f) Qtq
 | str a=>
   obtain⟨d,rfl⟩:=e
   cases x with
   |non=>cases c;exact SeqAt.EqAt.str_none a d
   |bl b=>cases c;exact SeqAt.EqAt.str_bool a d b
   |int b=>obtain⟨t,rfl⟩:=c;exact SeqAt.EqAt.str_int a d b t
   |str b=>obtain⟨t,rfl⟩:=c;exact SeqAt.EqAt.str_str a d b t
   |_=>exact absurd (show false=true from f) Qtq
 |_=>exact absurd (show false=true from g) Qtq
noncomputable def BI(x:V)(u:Value):Bool:=match u with
 |.none=>ph .non x
 |.bool b=>ph (.bl b) x
 |.int i _=>ph (.int i) x
 |.str z _=>ph (.str z) x
 |_=>false
def zL{x y:V}{u:Value}(r:RelV y u)(f:iW y=true):BI x u=ph y x:=by
 cases y with
 |non=>cases r;rfl
 |bl b=>cases r;rfl
 |int i=>obtain⟨t,rfl⟩:=r;rfl
 |str z=>obtain⟨t,rfl⟩:=r;rfl
 |_=>exact absurd (show false=true from f) Qtq
theorem p0{x:V}:∀{xs:List V} {c:List Value},bZ xs c->xs.all iW=true->c.any (BI x)=xs.any λy=>ph y x
 |_,_,.nil,_=>rfl
 | y::xs,u::c,.cons r t,f=>by
   rw[List.all_cons,QCq] at f
   rw[List.any_cons,List.any_cons,zL r f.1,p0 t f.2]
theorem kc{A:Around}{s:Shared}{x:V}{v:Value}(g:RelV x v)(e:iW x=true):∀{xs:List V} {d:List Value},bZ xs d->xs.all iW=true->∀u∈d,SeqAt.EqAt A s u v (BI x u)
 |_,_,.nil,_=>λu c=>by cases c
 | y::xs,u::d,.cons r t,f=>λh c=>by
   rw[List.all_cons,QCq] at f
   rcases Qsq.mp c with rfl|c
   · rw[zL r f.1];exact Hj r g f.1 e
   · exact kc g e t f.2 h c
noncomputable def FR(x:V)(xs:List V):Bool:=xs.any λy=>ph y x
def Oi(K:PySem.W.Frag)(d:Bool):R2:=λx y H Q=>∃p c,y=.ref p/\(jN K H p c\/jy K H p c)/\iW x=true/\c.all iW=true/\Q (.bl (if d then !FR x c else FR x c)) H
def ED:lN X (compareOp .In) (Oi X.K false):=by
 intro g s m H x y v u Q I i k h
 obtain⟨p,l,rfl,d,fx,fs,q⟩:=h
 cases k
 rcases d with d|d
 ·obtain⟨c,r,e,j⟩:=I.list d
  refine SeqAt.in_listAt (BI x) e.isList (λw f=>kc i fx r fs w (by simpa using f)) ⟨.bl _,H,I,rfl,?_⟩
  rw[show c.toArray.any (BI x)=c.any (BI x) by simp,p0 r fs]
  exact q
 ·obtain⟨c,r,e,j⟩:=I.tuple d
  refine SeqAt.in_tupleAt (BI x) e (λw f=>kc i fx r fs w (by simpa using f)) ⟨.bl _,H,I,rfl,?_⟩
  rw[show c.toArray.any (BI x)=c.any (BI x) by simp,p0 r fs]
  exact q
def zF:lN X (compareOp .NotIn) (Oi X.K true):=by
 intro g s m H x y v u Q I i k h
 obtain⟨p,l,rfl,d,fx,fs,q⟩:=h
 cases k
 rcases d with d|d
 ·obtain⟨c,r,e,j⟩:=I.list d
  refine SeqAt.notIn_listAt (BI x) e.isList (λw f=>kc i fx r fs w (by simpa using f)) ⟨.bl _,H,I,rfl,?_⟩
  rw[show c.toArray.any (BI x)=c.any (BI x) by simp,p0 r fs]
  exact q
 ·obtain⟨c,r,e,j⟩:=I.tuple d
  refine SeqAt.notIn_tupleAt (BI x) e (λw f=>kc i fx r fs w (by simpa using f)) ⟨.bl _,H,I,rfl,?_⟩
  rw[show c.toArray.any (BI x)=c.any (BI x) by simp,p0 r fs]
  exact q
def pV:ij X (.builtin "len") (λxs H Q=>∃p ys,xs= [.ref p]/\(jN X.K H p ys\/jy X.K H p ys)/\Q (.int ys.length) H):=by
 intro i s m H xs l Q I r h
 obtain⟨p,ys,rfl,d,q⟩:=h
 obtain⟨u,rfl,rx⟩:=vals1 r
 cases rx
 have k:=lA
 rcases d with d|d
 ·obtain⟨g,f,e,j⟩:=I.list d
  have c:=f.length
  exact Calls.call_len_list e.isList (by simp only[Qjq] <;>omega) ⟨.int ys.length,H,I.tok _,⟨s.toks+1,by rw[Qjq,c]⟩,q⟩
 ·obtain⟨g,f,e,j⟩:=I.tuple d
  have c:=f.length
  exact len_tuple e (by simp only[Qjq] <;>omega) ⟨.int ys.length,H,I.tok _,⟨s.toks+1,by rw[Qjq,c]⟩,q⟩
def yC:ij X (.builtin "len") (λxs H Q=>∃z,xs= [.str z]/\z.length<=sizeLine/\Q (.int z.length) H):=by
 intro c s d H xs e Q I r h
 obtain⟨z,rfl,hz,q⟩:=h
 obtain⟨u,rfl,t,rfl⟩:=vals1 r
 have f:=lA
 exact len_str (by omega) ⟨.int z.length,H,I.tok _,⟨_,rfl⟩,q⟩
def ij.or{f:Value}{r i:List V->Hp->VK->Prop}(h:ij X f r)(h':ij X f i):ij X f (λxs H Q=>r xs H Q\/i xs H Q):=by
 intro c s d H xs e Q I g q
 rcases q with q|q
 ·exact h c s d H xs e Q I g q
 ·exact h' c s d H xs e Q I g q
def wF:ij X (.type "tuple") (λxs H Q=>∃p ys,xs= [.ref p]/\((jN X.K H p ys/\∀l,H l=none->Q (.ref l) (upd H l (.tup ys)))\/(jy X.K H p ys/\Q (.ref p) H))):=by
 intro c s n H xs y Q I r h
 obtain⟨p,ys,rfl,h⟩:=h
 obtain⟨u,rfl,rx⟩:=vals1 r
 cases rx
 rcases h with⟨j,q⟩|⟨j,q⟩
 ·obtain⟨d,i,g,m⟩:=I.list j
  have k:=i.length
  refine call_tuple_list g.isList (λf x=> ?_) (by simp only[Qjq] <;>omega)
  have t:Inv X c n H {s with heap:=f}:=I.kept (t':=s.toks) x
  have v:Inv X c n (upd H f.objs.size (.tup ys)) {s with heap:=f.push {cls:=.type "tuple",data:=.seq d.toArray}}:=
   t.laid (t':=s.toks) (λb o e=>Qcq _ e) (Qmq _) (show dN X.prog X.w _ _ _ (.tup ys) from⟨m,d,i,AF.new _ _⟩)
  exact⟨.ref f.objs.size,_,v,rfl,q _ (t.hok.fresh (Qmq _))⟩
 ·obtain⟨d,i,g,m⟩:=I.tuple j
  exact call_tuple_same g ⟨.ref p,H,I,rfl,q⟩
def OB(K:PySem.W.Frag)(T:String)(x:V)(H:Hp):Prop:=match x with
 |.str _=>T="str"
 |.int _=>T="int"
 |.ref p=>(T="list" /\∃d,jN K H p d)\/(T="tuple" /\∃o,K.lookup p=some o/\o.cls=.type "tuple" /\o.dict=none)∨
   (T="dict" /\((∃c,H p=some (.dK c))\/∃c,H p=some (.dT c)))\/(T="set" /\∃S n,H p=some (.set S n))
 |_=>False
def K4{g:List (Addr×Obj)}{σ:St}{H:Hp}{s:Shared}{T:String}{x:V}{v:Value}(I:Inv X g σ H s)(r:RelV x v)(h:OB X.K T x H):
  s.TypeIs v T/\∀a,v=.ref a->∃q,s.heap.get? a=some q/\q.dict=none:=by
 cases x with
 | str z=>
   obtain⟨t,rfl⟩:=r
   cases (show T="str" from h)
   exact⟨typeIs_str s z t,λ_ e=>nomatch e⟩
 | int i=>
   obtain⟨t,rfl⟩:=r
   cases (show T="int" from h)
   exact⟨typeIs_int s i t,λ_ e=>nomatch e⟩
 | ref p=>
   cases r
   rcases h with⟨rfl,xs,hq⟩|⟨rfl,o,d,hc,j⟩|⟨rfl,d⟩|⟨rfl,S,n,d⟩
   · obtain⟨u,_,m,_⟩:=I.list hq
     refine⟨m.isList.typeIs,λa e=> ?_⟩
     cases e
     obtain⟨o,n,e,c,j,_⟩:=m
     exact⟨o,e,j⟩
   · refine⟨⟨o,I.kIn p o d,hc⟩,λa e=> ?_⟩
     cases e
     exact⟨o,I.kIn _ o d,j⟩
   · have z:∃o,s.heap.get? p=some o/\o.ExactDict:=by
       rcases d with⟨l,d⟩|⟨l,d⟩
       · obtain⟨_,_,_,_,o,_,_,e,f,_⟩:=I.hok p _ d
         exact⟨o,e,f⟩
       · obtain⟨_,_,_,_,o,_,_,e,f,_⟩:=I.hok p _ d
         exact⟨o,e,f⟩
     obtain⟨o,e,f⟩:=z
     refine⟨⟨o,e,f.1⟩,λa k=> ?_⟩
     cases k
     exact⟨o,e,f.2.1⟩
   · obtain⟨o,_,_,_,e,f,_⟩:=I.hok p _ d
     refine⟨⟨o,e,f.1⟩,λa k=> ?_⟩
     cases k
     exact⟨o,e,f.2.1⟩
 |_=>exact False.elim h
def Nz(K:PySem.W.Frag)(T:String)(r:V->List V->Hp->VK->Prop)(e:TE)(t:TA):TE:=λc H Q=>e c H λx H1=>OB K T x H1/\t c H1 λd H2=>r x d H2 Q
variable{o e:Expr}{es:List Expr}{to:TE}{t:TA}{name:Str}{apos cpos:Pos}{T id:String}{r:V->List V->Hp->VK->Prop}
def wR(G:PlainAttrs T)(slot:Slot T name id)(j:typeOf (.builtin id)=pure (.type "method_descriptor"))(N:NZ X id r)(q:PE X o to)(F:PA X (e::es) t)
  (g:attributeBase o name X.env (eval o X.env)=eval o X.env:=by rfl)
  (i:((backTo cpos (starEach (e::es) X.env)).all (λx=> !x.1)&&(backToKw cpos (keywordEach [] X.env)).all (λx=>x.1.isSome)
   &&decide ((e::es).length+([]:List Keyword).length+(if ([]:List Keyword).isEmpty then 0 else 1)<30))=true:=by rfl)
  (f:(apos.endLine==cpos.line)=true:=by rfl) (C:starEach (e::es) X.env=(false,eval e X.env)::starEach es X.env:=by rfl) (d:(backTo cpos (starEach es X.env)).any (·.1)=false:=by rfl):
  PE X (.Call (.Attribute o name apos) (e::es) [] cpos) (Nz X.K T r to t):=by
 intro c s k H Q I h
 refine wpAny_Call_method_late g i f rfl (dC (q c s k H _ I h) λv L u=> ?_)
 obtain⟨x,H1,n,l,p,P⟩:=u
 obtain⟨J,y⟩:=K4 n l p
 refine⟨T,id,G,slot,j,J,y,?_⟩
 have m:=F cpos c L k H1 _ n P
 rw[C] at m⊢
 refine Calls.callWith_builtin (by show(false||(backTo cpos (starEach es X.env)).any (·.1))=false;rw[d] <;>rfl) (Calls.evalArgs_plain ?_)
 exact dC m λB w ⟨z,H2,M,R,A⟩=>N c w k H2 x z v B Q M l R A
end
def NC(X:Cx)(id:String)(r:V->List V->Hp->VK->Prop):Prop:=
 ∀ (a:List (Addr×Obj)) (s:Shared) (b:St) (H:Hp) (x:V) (d:List V) (v:Value) (c:List Value) (Q:VK),Inv X a b H s->RelV x v->bZ d c->r x d H Q→
   wpAny (model X.prog X.w) X.A (call (.builtin id) (v::c)) (EP X a b Q) X.xe s
def bZ.one:∀{x:V} {a:List Value},bZ [x] a->∃u,a= [u]/\RelV x u
 |_,_,.cons r .nil=>⟨_,rfl,r⟩
theorem bZ.eraseIdx:∀{xs:List V} {a:List Value} (i:Nat),bZ xs a->bZ (xs.eraseIdx i) (a.eraseIdx i)
 |_,_,_,.nil=>.nil
 |_,_,0,.cons _ t=>t
 |_,_,i+1,.cons r t=>.cons r (bZ.eraseIdx i t)
theorem bZ.rep{xs:List V}{a:List Value}(h:bZ xs a):∀k:Nat,bZ (List.replicate k xs).flatten (List.replicate k a).flatten
 |0=>.nil
 | k+1=>by
   rw[QNq,QNq,List.flatten_cons,List.flatten_cons]
   exact bZ.append h (bZ.rep h k)
theorem xm{α:Type}:∀(l:List α) (i:Nat),(l.eraseIdx i).length<=l.length
 | [],_=>Qmq _
 |_::_,0=>Nat.le_succ _
 |_::r,i+1=>Nat.succ_le_succ (xm r i)
theorem foldl_rep(a:List Value):∀(k:Nat) (b:List Value),
  List.foldl (λc f=>c++f) b.toArray (List.replicate k a.toArray)=(b++(List.replicate k a).flatten).toArray
 |0,b=>by simp
 | k+1,b=>by
   have e:b.toArray++a.toArray=(b++a).toArray:=by simp
   have d:(b++a)++(List.replicate k a).flatten=b++(List.replicate (k+1) a).flatten:=by
     rw[QNq,List.flatten_cons,Qvq]
   rw[←d,←foldl_rep a k (b++a),←e,QNq,List.foldl_cons]
section
variable{X:Cx}{pins:List (Addr×Obj)}{σ:St}{H:Hp}{s:Shared}{l b:Addr}{xs ys zs:List V}
def Inv.lset{a its':List Value}{n:Nat}{f:Array Value->Array Value}{t':Nat}(I:Inv X pins σ H s)(i:H l=some (.lst xs))
  (e:s.heap.get? l=some {cls:=.type "list",data:=.seq a.toArray n}) (g:f a.toArray=its'.toArray) (h:bZ ys its') (hz:ys.length<=sizeLine):
  Inv X pins σ (upd H l (.lst ys)) {s with heap:=s.heap.update l (Obj.mapSeq f),toks:=t'}:=by
 have q:=PySem.IsL.update e f
 rw[g] at q
 refine I.write (x:=l) (e:=l) (by rw[i];exact trivial) (.inl rfl) (λj u c d=>(Heap.get?_update_other s.heap (Obj.mapSeq f) (Ne.symm c)).trans d) ⟨_,q⟩ ?_
 exact⟨hz,its',_,h,q⟩
def Inv.lnew{a:List Value}{t':Nat}(I:Inv X pins σ H s)(c:bZ ys a)(hz:ys.length<=sizeLine):
  Inv X pins σ (upd H s.heap.objs.size (.lst ys)) {s with heap:=s.heap.push {cls:=.type "list",data:=.seq a.toArray},toks:=t'}:=
 I.laid (λ_ _ q=>Qcq _ q) (Qmq _) ⟨hz,a,0,c,Qrq _ rfl⟩
def Inv.fresh(I:Inv X pins σ H s):H s.heap.objs.size=none:=I.hok.fresh (Qmq _)
def Inv.lstM(I:Inv X pins σ H s)(c:H l=some (.lst xs)):xs.length<=sizeLine/\∃(a:List Value) (n:Nat),bZ xs a/\xs.length=a.length/\s.heap.get? l=some {cls:=.type "list",data:=.seq a.toArray n}:=by
 obtain⟨z,a,n,r,e⟩:=I.hok l _ c
 exact⟨z,a,n,r,r.length,e⟩
def vm{n:Nat}(h:n<=sizeLine):Builtin.List.listTooLong n=false:=by
 unfold Builtin.List.listTooLong
 exact Qdq (by omega)
end
section
variable{X:Cx}
def DT:V->List V->Hp->VK->Prop:=λx b H Q=>∃l a y,x=.ref l/\b= [y]/\H l=some (.lst a)/\a.length<sizeLine/\Q .non (upd H l (.lst (a++ [y])))
def rG:NC X "list.append" DT:=by
 intro b s j H x k v g Q I d c h
 obtain⟨l,i,y,rfl,rfl,hH,hz,q⟩:=h
 cases d
 obtain⟨u,rfl,ru⟩:=c.one
 obtain⟨z,a,n,r,f,e⟩:=I.lstM hH
 refine call_meets F.slot_list_append ⟨_,e,rfl⟩ F.entry_list_append (F.args_list_append_2 _ _) (PySem.list_append l a.toArray n u (by rw[Qjq];omega)) ⟨e,?_⟩
 refine⟨.non,_,I.lset (its':=a++ [u]) hH e (by simp) (r.append (.cons ru .nil)) ?_,rfl,q⟩
 rw[lQa,List.length_singleton]
 omega
def Dc:V->List V->Hp->VK->Prop:=λx d H Q=>∃l b c a,x=.ref l/\d= [.ref b]/\H l=some (.lst c)/\H b=some (.lst a)/\c.length+a.length<=sizeLine/\Q .non (upd H l (.lst (c++a)))
def Fc:NC X "list.extend" Dc:=by
 intro g s C H x G v A Q I o j h
 obtain⟨l,b,B,t,rfl,rfl,hH,hB,hz,q⟩:=h
 cases o
 obtain⟨u,rfl,ru⟩:=j.one
 cases ru
 obtain⟨z,c,n,r,w,e⟩:=I.lstM hH
 obtain⟨y,a,m,p,k,i⟩:=I.lstM hB
 have f:c.toArray.size+a.toArray.size<=sizeLine:=by rw[Qjq,Qjq];omega
 have d:¬(!c.toArray.isEmpty&&Builtin.List.listTooLong (c.toArray.size+a.toArray.size))=true:=by
  rw[vm f,Bool.and_false]
  exact Qtq
 refine call_meets F.slot_list_extend ⟨_,e,rfl⟩ F.entry_list_extend (F.args_list_extend_2 _ _)
  (AutoSeq1.list_extend_list_list_0 l c.toArray n b a.toArray m d (by rw[Qjq];omega) (by omega)) ⟨e,i,?_⟩
 refine⟨.non,_,I.lset (its':=c++a) hH e (by simp) (r.append p) ?_,rfl,q⟩
 rw[lQa]
 omega
def Ho:V->List V->Hp->VK->Prop:=λx b H Q=>∃l a i k y,x=.ref l/\b= [.int i]/\H l=some (.lst a)/\ -(2^63)<=i/\i<2^63/\seqIndex? i a.length=some k/\a[k]?=some y/\Q y (upd H l (.lst (a.eraseIdx k)))
def Hh:NC X "list.pop" Ho:=by
 intro c s p H x A v o Q I m f h
 obtain⟨l,j,i,k,y,rfl,rfl,hH,h1,h2,hk,hy,q⟩:=h
 cases m
 obtain⟨u,rfl,ru⟩:=f.one
 obtain⟨t,rfl⟩:=ru
 obtain⟨z,a,n,r,d,e⟩:=I.lstM hH
 obtain⟨w,g,b⟩:=r.get hy
 refine call_meets F.slot_list_pop ⟨_,e,rfl⟩ F.entry_list_pop (F.args_list_pop_2 _ _)
  (MeetsSeq.list_pop_at l a.toArray n i t k w (fitsIndex_both h1 h2) (by rw[Qjq,←d];exact hk) (by rw[←Array.getElem?_toList];exact g) (by rw[Qjq];omega)) ⟨e,?_⟩
 refine⟨y,_,I.lset (its':=a.eraseIdx k) hH e ?_ (r.eraseIdx k) ?_,b,q⟩
 ·show a.toArray.eraseIdxIfInBounds k=(a.eraseIdx k).toArray
  rw[List.eraseIdxIfInBounds_toArray]
 ·have:=xm j k
  omega
def N4:R2:=λx y H Q=>∃l b c a,x=.ref l/\y=.ref b/\H l=some (.lst c)/\H b=some (.lst a)/\c.length+a.length<=sizeLine/\∀p,H p=none->Q (.ref p) (upd H p (.lst (c++a)))
def Ky:lN X (binaryOp .Add) N4:=by
 intro d s B H x y v u Q I j i h
 obtain⟨l,b,w,o,rfl,rfl,hH,hB,hz,q⟩:=h
 cases j
 cases i
 obtain⟨z,c,n,r,p,e⟩:=I.lstM hH
 obtain⟨t,a,A,m,g,f⟩:=I.lstM hB
 refine PySem.P.add_list e f ?_ (by rw[Qjq,Qjq];omega)
 have k:c.toArray++a.toArray=(c++a).toArray:=by simp
 rw[k]
 exact⟨.ref _,_,I.lnew (t':=s.toks) (r.append m) (by rw[lQa];omega),rfl,q _ I.fresh⟩
def Od:R2:=λx y H Q=>∃l k a,x=.ref l/\y=.int k/\H l=some (.lst a)/\ -(2^63)<=k/\k<2^63/\a.length*k.toNat<=sizeLine∧
 ∀p,H p=none->Q (.ref p) (upd H p (.lst (List.replicate k.toNat a).flatten))
def len_rep{α:Type}(xs:List α)(k:Nat):(List.replicate k xs).flatten.length=k*xs.length:=by
 induction k with
 |zero=>simp
 |succ k a=>rw[QNq,List.flatten_cons,lQa,a,Nat.succ_mul,Nat.add_comm]
def Ki:lN X (binaryOp .Mult) Od:=by
 intro p s L H x y v u Q I G C h
 obtain⟨l,k,K,rfl,rfl,hH,h1,h2,hz,q⟩:=h
 cases G
 obtain⟨t,rfl⟩:=C
 obtain⟨z,b,n,r,w,e⟩:=I.lstM hH
 have d:b.toArray.size*k.toNat<=sizeLine:=by rw[Qjq,←w];exact hz
 have i:¬b.toArray.size*k.toNat>(2^63-1)/8:=by
  have:(sizeLine:Nat)<=(2^63-1)/8:=by decide
  omega
 have g:¬(!Builtin.List.listFitsIndex k)=true:=by
  rw[fitsIndex_both h1 h2]
  exact Qtq
 have c:¬Builtin.List.listTooLong (b.toArray.size*k.toNat)=true:=by
  rw[vm d]
  exact Qtq
 have f:List.foldl (λo j=>o++j) #[] (List.replicate (if b.toArray.isEmpty=true then 0 else k.toNat) b.toArray)=(List.replicate k.toNat b).flatten.toArray:=by
  have A:∀m:Nat,List.foldl (λo j=>o++j) #[] (List.replicate m b.toArray)=(List.replicate m b).flatten.toArray:=λm=>by
   have:=foldl_rep b m []
   rw[List.nil_append] at this
   exact this
  rw[A]
  cases b with
  |nil=>simp
  |cons a J=>rw[Quq (by simp)]
 refine wpAny_binaryOp_repeat_ref (T:="list") (U:="int") (by decide) ⟨_,e,rfl⟩ (λB=>typeIs_int B k t) noFill_list_mul F.fills_int_mul F.slot_int_rmul repeat_list F.slot_int_index.lookup
  (call_meets F.slot_int_rmul (typeIs_int s k t) F.entry_int_rmul (F.args_int_rmul_2 _ _) (int___rmul___int_list k t l b.toArray n)
   ⟨e,rfl,⟨_,e,rfl⟩,call_meets F.slot_list_mul ⟨_,e,rfl⟩ F.entry_list_mul (F.args_list_mul_2 _ _) (AutoListH.list___mul___list_int_3 l b.toArray n k t g i c) ⟨e,?_⟩⟩)
 rw[f]
 exact⟨.ref _,_,I.lnew (t':=s.toks) (r.rep k.toNat) (by rw[len_rep,Nat.mul_comm];exact hz),rfl,q _ I.fresh⟩
end
end L2
namespace Att
open PySem PySem.W PySem.Calls PyProof.Rows
def sU{P:Params}{h:Heap}:∀(ns:List Int) (vs:List Value),WellAll P h vs (ns.map WData.int)->IntsAre vs ns:=by
 intro ns
 induction ns with
 | nil=>
   intro vs w
   rw[List.map_nil] at w
   cases w
   exact .nil
 | cons n ns c=>
   intro vs w
   rw[QDq] at w
   cases w with
   | cons a b=>
     cases a
     exact .cons _ _ (c _ b)
def EE{l:OpenLaw}{n:Nat}(o:l.most=some n){P:Params}{h:Heap}{args:List WData}{vals:List Value}
  (b:l.row.toRowW.claim.pre args=true) (j:WellAll P h vals args):
  ∃a vs ns,vals= [Value.ref a]/\args= [WData.list (ns.map WData.int)]/\h.get? a=some {cls:=.type "list",data:=.seq vs.toArray}/\IntsAre vs ns/\ns.length<=n:=by
 have i:WShape.hasAll [] args [.list .int]=true:=(pre_splitW b).1
 have k:l.pre.holds [] {args:=args}=true:=(pre_splitW b).2
 obtain⟨d,r,rfl,h1,h2⟩:=hasAllW_cons i
 obtain rfl:=hasAllW_nil h2
 obtain⟨u,rfl,h3⟩:=hasW_list h1
 obtain⟨ns,rfl⟩:=items_int h3
 have e:ns.length<=n:=by
  unfold OpenLaw.pre at k
  have f:(WTm.not (.lt (.lit (.int (n:Int))) (.len (.arg 0)))).holds [] {args:= [.list (ns.map .int)]}=true:=by
   have f:=(holds_andW k).1
   rw[o] at f
   exact f
  have g:=condW_of f (w_not (w_lt w_lit (w_len_list (w_arg rfl))))
  rw[lQm] at g
  refine Nat.le_of_not_lt λq=> ?_
  have t:(n:Int)<((ns.length:Nat):Int):=by omega
  first
   |(rw[Qeq t] at g;exact absurd g (by decide))
   |(simp at g;omega)
 cases j with
 | cons s p=>
   cases p
   cases s with
   |list m c=>exact⟨_,_,ns,rfl,rfl,m,sU ns _ c,e⟩
def Fi(l:OpenLaw)(args:List WData):l.row.toRowW.claim.post args (.bool true) args=true:=
 postW_of (r:=l.row.toRowW) (X:=(true==true))
  (show WShape.has [] (.bool true) .bool=true by first|rfl|decide|simp[WShape.has,WShape.arms,WShape.armsAll])
  (show(WTm.eq .res (.lit (.bool true))).value [] {args:=args,res:=some (.bool true),after:=args}=some (.bool (true==true)) from w_eq_bool (w_res rfl) w_lit) rfl
def AR{l:OpenLaw}{n:Nat}{q:Program}{c:List Str}{z:(Str->Option Value)->Heap->Prop}{x:World->Heap->Prop}{d:DefRec}
  (J:l.most=some n) (v:d.params.defaults= [])
  (h:∀(w:World) (s₀ b:Shared) (mg p:Str->Option Value) (g:Addr) (o:Obj) (s k e:Value) (a:Addr) (vs:List Value) (ns:List Int),
   Ground q c [] z w s₀ mg p b.heap->x w b.heap→
   b.heap.get? g=some o->o.data=.func (docDef d.name d.params d.body d.scope s k e)->b.heap.CodeRec k d.name->mg d.name=some (.ref g)→
   b.heap.get? a=some {cls:=.type "list",data:=.seq vs.toArray}->IntsAre vs ns->ns.length<=n->b.gens= #[]→
   codeAny (model l.prog w) callerA (.call (.ref g) ⟨[.ref a],[]⟩) (λr j=>r=.ok (.ret (.bool true))/\OldK b.heap j.heap/\j.os=b.os/\AllBare j.gens) b):
  WalkO q c z x l.row.toRowW d [] (λf vs=>PySem.call f vs):=by
 intro w s₀ b mg p G Y g o s k e K kV H F m y t P A B Q i C I u L
 obtain rfl:K=.none:=Dflts.none y v
 obtain rfl:kV=.none:=Dflts.noKw y
 obtain⟨a,vs,ns,rfl,rfl,hobj,hints,hlen⟩:=EE J i u
 refine enter_call (codeAny_mono (h w s₀ b mg p g o s k e a vs ns G Y H (fd_plain F) m t hobj hints hlen P) λr j M=> ?_)
 obtain⟨rfl,h2,h3,h4⟩:=M
 exact⟨.inl ⟨.bool true,.bool true,[],rfl,λ_=>rfl,.bool true,Fi l _,λ_=>⟨List.Pairwise.nil,λ_ N=>(nomatch N)⟩⟩,h2,h3,h4⟩
end Att
namespace L2
open PySem PySem.Spec PyProof.Rows
theorem xC:∀{vs:List Value} {ns:List Int},IntsAre vs ns->bZ (ns.map V.int) vs
 |_,_,.nil=>.nil
 |_,_,.cons n t h=>.cons ⟨t,rfl⟩ (xC h)
def IU(H:Hp):Prop:=∀b,H b=none\/∃o a,H b=some (.frz o (.lst a))
def Hq{P:Program}{w:World}{K:PySem.W.Frag}{mg S:Str->Option Value}{CX:FS}{k:Nat}{Y a:Addr}{fd:FuncData}{x:Str}{sp:Sp}{c:Shared}{vs:List Value}{ns:List Int}
  (KX:K.In c.heap) (t:c.heap.Ns mainGlobals mg) (g:c.heap.Ns builtinsNs S) (R:∀x:Str,x≠"__name__" ->S x=bootBuiltins x) (M:c.heap.NoLimit) (hg:c.gens= #[])
  (N:c.heap.get? a=some {cls:=.type "list",data:=.seq vs.toArray}) (hi:IntsAre vs ns) (hl:ns.length<=sizeLine) (hr:gN k callerA)
  (F:∀base:Heap,K.In base->base.Ns mainGlobals mg->bO P w K mg base CX k Y fd [x] sp) (p:∀(s:Shared) (u:Value),BindsTo s fd ⟨[u],[]⟩ [(x,u)])
  (X:∀H:Hp,IU H->jN K H a (ns.map V.int)->sp [.ref a] H (λv _=>v=.bl true) λ_ _ _=>False)
  (U:∀H e i,CX [] H c (λ_ _ _=>False) e i->False):
  codeAny (model P w) callerA (.call (.ref Y) ⟨[.ref a],[]⟩) (λr i=>r=.ok (.ret (.bool true))/\OldK c.heap i.heap/\i.os=c.os/\AllBare i.gens) c:=by
 have rv:=xC hi
 have G:=hi.length
 have l:∀H:Hp,IU H->jN K H a (ns.map V.int)->pd P w H c.heap->(∀b,H b≠none->b=a)->(H a≠none->K.lookup a=none)→
   codeAny (model P w) callerA (.call (.ref Y) ⟨[.ref a],[]⟩) (λr i=>r=.ok (.ret (.bool true))/\OldK c.heap i.heap/\i.os=c.os/\AllBare i.gens) c:=by
  intro H hO hS A hA hK
  have f:∀{b:Addr} {o:Obj},c.heap.get? b=some o->H b=none->(zo c.heap H).get? b=some o:=λe n=>FZ e n
  have Q:∀{b:Addr} {o:Obj} {I:Array DictEntry} {B:Nat},c.heap.get? b=some o->o.data=.dict I B->H b=none:=λ{b o I B} e d=>by
   cases q:H b with
   |none=>rfl
   | some u=>
     have Z:b=a:=hA b (by rw[q];simp)
     subst Z
     rw[N] at e;cases e
     have d':Data.seq vs.toArray _=Data.dict I B:=d
     cases d'
  have j:∀{b:Addr} {m:Str->Option Value},c.heap.Ns b m->(zo c.heap H).Ns b m:=λ{b m} ⟨o,I,B,e,d,r⟩=>⟨o,I,B,f e (Q e d),d,r⟩
  have J:K.In (zo c.heap H):=λb o e=>f (KX b o e) (by
   cases q:H b with
   |none=>rfl
   | some u=>
     have Z:b=a:=hA b (by rw[q];simp)
     subst Z
     rw[hK (by rw[q];simp)] at e;cases e)
  have hM:Mod K mg (zo c.heap H):=⟨J,j t,⟨S,j g,R⟩,let ⟨mc,h1,h2⟩:=M;⟨mc,j h1,h2⟩⟩
  have e0:Ir P w K mg (zo c.heap H) callerA [] c H:=⟨rfl,hM,λb o e=>JJ e,Nat.le_of_eq (Fb _ _),trivial,λb g=>absurd (show b∈([]:List Addr) from g) (by simp),A,.of_eq hg⟩
  refine codeAny_mono ((F _ J (j t)).run callerA [] c H ⟨[.ref a],[]⟩ [.ref a] [.ref a] _ _ hr e0 (p c (.ref a)) (.cons rfl .nil) (X H hO hS)) λr i h=> ?_
  cases r with
  |error e=>exact(U H e i h).elim
  | ok fl=>
    cases fl with
    |next=>exact False.elim h
    |brk=>exact False.elim h
    |cont=>exact False.elim h
    | ret u=>
      obtain⟨v,H',os,y,un,L,r',q⟩:=h
      have q':v=.bl true:=q
      subst q'
      obtain rfl:u=Value.bool true:=r'
      refine⟨rfl,OldK.of_keep λb o e=> ?_,os,y⟩
      cases q:H b with
      |none=>exact un.keep b o e q (by intro z;exact absurd (show b∈([]:List Addr) from z) (by simp)) (by simp)
      | some u=>
        rcases hO b with z|⟨ob,xs,z⟩
        · rw[q] at z;cases z
        · have z2:=un.frzs b ob _ z
          obtain⟨e1,_⟩:=A b _ z
          obtain⟨e2,_⟩:=L b _ z2
          rw[e] at e1;cases e1
          exact e2
 cases hk:K.lookup a with
 | some o=>
   have e:=KX a o hk
   rw[N] at e
   cases e
   refine l (λ_=>none) (λ_=>.inl rfl) (.inr ⟨_,vs.toArray,_,hk,rfl,rfl,rfl,by rw[Qjq,G];exact hl,by simpa using rv⟩) (λb u z=>by have C:(none:Option HO)=some u:=z;cases C) (λb z=>absurd rfl z) λz=>absurd rfl z
 | none=>
   refine l (λb=>if b=a then some (.frz {cls:=.type "list",data:=.seq vs.toArray} (.lst (ns.map V.int))) else none) (λb=> ?_) (.inl (.inr ⟨{cls:=.type "list",data:=.seq vs.toArray},Qhq rfl⟩)) (λb u z=> ?_) (λb z=> ?_) λ_=>hk
   · by_cases g:b=a
     · exact .inr ⟨_,_,Qhq g⟩
     · exact .inl (Quq g)
   · by_cases g:b=a
     · have C:=(Qhq g).symm.trans z
       cases C
       subst g
       exact⟨N,by rw[lQm];exact hl,vs,_,rv,N⟩
     · have C:=(Quq g).symm.trans z
       cases C
   · by_cases g:b=a
     · exact g
     · exact absurd (Quq g) z
def Jx{l:PySem.W.OpenLaw}{n k:Nat}{q:Program}{i:List Str}{R:(Str->Option Value)->Heap->Prop}{J:World->Heap->Prop}{d:DefRec}{K:Params->PySem.W.Frag}{CX:World->FS}{sp:World->Sp}{x:Str}
  (S:l.most=some n) (B:n<=sizeLine) (I:d.params.defaults= []) (X:gN k callerA)
  (N:∀(w:World) (h:Heap),J w h->(K w.params).In h)
  (F:∀(w:World) (mg:Str->Option Value) (r:Addr) (h:Heap),(K w.params).In h->h.Ns mainGlobals mg->mg d.name=some (.ref r)→
   ∃ A:FuncData,(∀(s:Shared) (u:Value),BindsTo s A ⟨[u],[]⟩ [(x,u)])∧
     ∀base:Heap,(K w.params).In base->base.Ns mainGlobals mg->bO l.prog w (K w.params) mg base (CX w) k r A [x] (sp w))
  (t:∀(w:World) (H:Hp) (a:Addr) (ns:List Int),ns.length<=n->IU H->jN (K w.params) H a (ns.map V.int)->sp w [.ref a] H (λv _=>v=.bl true) λ_ _ _=>False)
  (z:∀(w:World) (H:Hp) (s:Shared) (e:Value) (y:Shared),CX w [] H s (λ_ _ _=>False) e y->False):
  PySem.W.WalkO q i R J l.row.toRowW d [] (λf vs=>PySem.call f vs):=by
 refine Att.AR S I λw L m mg mb r o pm cd Z a vs ns G Y ho hd P C p j c hg=> ?_
 have M:=N w _ Y
 obtain⟨A,hb,hF⟩:=F w mg r _ M G.T.g C
 exact Hq M G.T.g G.T.b G.T.builtins G.T.nolimit hg p j (QAq c B) X hF hb (λH Q U=>t w H a ns c Q U) λH e y=>z w H m e y
noncomputable def iZ(s:Stmt):Arguments:=match s with
 |.FunctionDef _ a _ _ _ _ _ _ _ _=>a
 |_=>{posonlyargs:= [],args:= [],vararg:=none,kwonlyargs:= [],kw_defaults:= [],kwarg:=none,defaults:= []}
noncomputable def gV(s:Stmt):List Stmt:=match s with
 |.FunctionDef _ _ b _ _ _ _ _ _ _=>b
 |_=> []
noncomputable def aF(s:Stmt):Scope:=match s with
 |.FunctionDef _ _ _ _ _ _ a _ _ _=>a
 |_=>{kind:=.function,names:= [],isGenerator:=false,isCoroutine:=false}
abbrev eN:FS:=λ_ _ _ _ _ _=>False
abbrev E0:XK:=λ_ _ _=>False
def Gj{X:Cx}:BS eN X E0:=λ_ _ _ _ _ _ _ h=>h.elim
structure fq(K:PySem.W.Frag)(x qual:Str)(st:Stmt)(f:Addr)(fd:FuncData):Prop where
 ex:∃(oc:Value) (od:Option Addr) (kV doc pm:Value) (an:Option Addr) (cdv ct:Value) (osl:Array (Option Value)),
  fd=PySem.W.fnOf x qual (iZ st) (gV st) (aF st) .none kV doc pm an cdv ct/\K.lookup f=some ⟨oc,od,.func fd,osl⟩/\PySem.W.codeIn K cdv qual=true
 kp:PySem.W.keepIn K (.ref f)=true
section
variable{P:Program}{w:World}{K:PySem.W.Frag}{mg:Str->Option Value}{base:Heap}
def fq.ok{x a:Str}{st:Stmt}{f:Addr}{e:FuncData}{N ps:List Str}{k:Nat}{sp:Sp}(F:fq K x a st f e)(S:aN N ps (aF st))(len:∀vs H Q E,sp vs H Q E->vs.length=ps.length)
  (c:∀(b:Value) (A:Around) (outer:List Env) (s:Shared) (H:Hp) (vs:List V) (Q:VK) (E:XK),gN k (A.deeper (envOfC a (aF st) s.heap.objs.size f b))->sp vs H Q E→
   ∃t,t8 (CJ eN P w K mg base N a (aF st) f b A outer s H E).nox (gV st) t/\t {nx:=λ_ l=>Q .non l,rt:=Q} (start N vs) H):bO P w K mg base eN (k+1) f e ps sp:=by
 obtain⟨r,n,kV,j,p,o,b,m,g,rfl,lk,hcd⟩:=F.ex
 refine MO lk hcd S len λA outer s H vs Q E i d=> ?_
 obtain⟨t,h,q⟩:=c b A outer s H vs Q E i d
 exact⟨t,h.nox,q⟩
def fq.binds{x a:Str}{st:Stmt}{f:Addr}{i:FuncData}{ps:List Str}(F:fq K x a st f i)
  (h:∀(kV b e:Value) (g:Option Addr) (c ct:Value) (d:List Value),d.length=ps.length->bindArgs (PySem.W.fnOf x a (iZ st) (gV st) (aF st) .none kV b e g c ct) ⟨d,[]⟩=pure (ps.zip d)):Binds K i ps []:=by
 obtain⟨l,k,kV,b,e,g,c,ct,j,rfl,lk,hcd⟩:=F.ex
 exact .all (h kV b e g c ct)
def B6{x a:Str}{st:Stmt}{f:Addr}{j:Value}{i h:Option Addr}{e:Array (Option Value)}{kV d g b ct:Value}(l:K.lookup f=some ⟨j,i,.func (PySem.W.fnOf x a (iZ st) (gV st) (aF st) .none kV d g h b ct),e⟩)
  (c:PySem.W.codeIn K b a=true) (k:PySem.W.keepIn K (.ref f)=true):fq K x a st f (PySem.W.fnOf x a (iZ st) (gV st) (aF st) .none kV d g h b ct):=⟨⟨j,i,kV,d,g,h,b,ct,e,rfl,l,c⟩,k⟩
end
def J8{A:Around}{k:Nat}(a:gN k A):A.units+1<cLine:=Nat.lt_of_le_of_lt (Nat.add_le_add_left (by decide:1<=64) _) a.units
def bu{n:Nat}(h:n<=1000):n<sizeLine:=Nat.lt_of_le_of_lt h (by decide)
section
variable{X:Cx}
def pv(i:Nat){x:Str}{pos:Pos}(b:X.N[i]?=some x:=by rfl)(c:Kg X.env.scope x:=by first|exact Or.inl rfl|exact Or.inr (Or.inl rfl)|exact Or.inr (Or.inr rfl))(hd:(x==("__debug__":Str))=false:=by decide)
  (a:(x==("__classdict__":Str))=false:=by decide):PE X (.Name x pos) (K3 i):=GP b c hd a
end
section
variable{prog:Program}{w:World}{A:Around}{s:Shared}
def pL{o a g:Expr}{q:List Expr}{f:Scope}{pos:Pos}{it p:Value}{env:Env}{R:Result->Shared->Prop}(I:Nat->Shared->Prop)
  (u:∀n s,I n s->wpAny (model prog w) A (pyNext it) (λr d=>match r with
   |none=>R (.ok .next) d
   |some v=>wpAny (model prog w) A (letOwnedTupleGo a it v) (λ_ b=>wpAny (model prog w) A (assign a env v) (λ_ j=>
     wpAny (model prog w) A (forIn q true λc r=>if r=true then do let ok←isTrue c env (eval c env);pure (ForInStep.yield ok) else pure (ForInStep.yield r)) (λok s₃=>
      if ok=true then wpAny (model prog w) A (eval o env) (λx k=>
       wpAny (model prog w) A (call (.builtin "list.append") [p,x]) (λ_ i=>∃m,m<n/\I m i) (λ_ _=>False) k) (λ_ _=>False) s₃
      else∃m,m<n/\I m s₃) (λ_ _=>False) j) (λ_ _=>False) b) (λ_ _=>False) d) (λ_ _=>False) s)
  (n:Nat) (h:I n s):codeAny (model prog w) A (.compLoop (.ListComp o [⟨a,g,q,0⟩] f pos) 0 it p env) R s:=by
 refine codeAny_loop rfl I (λn s C=> ?_) n h
 show wpAny _ A ((compTurn (.ListComp o [⟨a,g,q,0⟩] f pos) 0 it p env).onRaise (λx=>do noteFrame x env;theTreesLotGoes x)) _ _ s
 refine wpAny_noted ?_
 rw[compTurn_list]
 refine Qaq (wpAny_standAt (Qaq (QRq (u n s C) (λr d l=> ?_) λ_ _ e=>e.elim)))
 cases r with
 |none=>exact Qgq l
 | some v=>
   refine Qaq (QRq l (λ_ b t=> ?_) λ_ _ e=>e.elim)
   refine Qaq (QRq t (λ_ j B=>Qaq (QRq B (λok s₃ h₃=> ?_) λ_ _ e=>e.elim)) λ_ _ e=>e.elim)
   cases ok with
   |false=>exact Qgq ⟨rfl,h₃⟩
   | true=>
     exact Qaq (Qaq (QRq h₃ (λx k y=>Qaq (QRq y (λ_ i z=>Qgq (Qgq ⟨rfl,z⟩)) λ_ _ e=>e.elim)) λ_ _ e=>e.elim))
end
noncomputable def bB(X:Cx)(N:List Str)(a:Scope)(b:List (Str×Addr))(C:Addr)(s:Shared)(H:Hp)(fp:List Addr):Cx where
 prog:=X.prog
 w:=X.w
 K:=X.K
 mg:=X.mg
 base:=X.base
 A:=X.A
 N:=N
 s₀:=s
 H₀:=H
 env:=compEnvC a b C X.env
 outer:=X.stack
 stack:=X.stack
 ex:=fp
 fn:=λ_=>false
 calm:=X.calm
 pn:= []
 xe:=λ_ _=>False
noncomputable def kY(js:List (Option Nat))(σ:St):St:=js.map λo=>o.bind λj=>σ.getD j none
structure aZ(X:Cx)(N:List Str)(js:List (Option Nat))(scope:Scope)(cl:List (Str×Addr)):Prop where
 kind:scope.kind=.function
 nocell:∀y∈scope.names,y.2≠.cell
 names:∀y∈scope.names,y.2=.local->scope.names.lookup y.1=some .local
 clos:closureFor scope X.env=pure cl
 sub:∀x c,cl.lookup x=some c->X.env.cells.lookup x=some c
 has:∀x,((relabel scope X.env).names.lookup x=some .cell\/(relabel scope X.env).names.lookup x=some .free)->∃c,cl.lookup x=some c
 cap:∀(k j:Nat) (x:Str),js[k]?=some (some j)->N[k]?=some x->X.N[j]?=some x/\(X.env.kindOf x=some .cell\/X.env.kindOf x=some .free)/\((relabel scope X.env).names.lookup x=some .cell\/(relabel scope X.env).names.lookup x=some .free)
 len:js.length=N.length
def tq(X:Cx)(d:List Expr)(t:TT):Prop:=
 ∀ (a:List (Addr×Obj)) (s:Shared) (b:St) (H:Hp) (Q:Bool->Hp->Prop),Inv X a b H s->t b H Q→
   wpAny (model X.prog X.w) X.A (forIn d true λc r=>if r=true then do let ok←isTrue c X.env (eval c X.env);pure (ForInStep.yield ok) else pure (ForInStep.yield r)) (TP X a b Q) X.xe s
def K6{X:Cx}:tq X [] (λ_ H Q=>Q true H):=λ_ _ _ H _ I h=>wpAny_tests_nil ⟨H,I,h⟩
def LJ{X:Cx}{c:Expr}{t:TT}(d:PT X c t):tq X [c] t:=λa s b H Q I h=>
 wpAny_tests_one (dC (d a s b H Q I h) λok s' h'=>h')
def Mf(J:It)(g:TG)(l:TT)(k:TE)(Q:VK)(D:Addr)(σ:St)(H:Hp):Prop:=
 ∃ W:Nat->Nat->St->Hp->Prop,(∃m,W 0 m σ H)/\∀i m d e,W i m d e→
   (J.stop i e/\Q (.ref D) e)\/(J.go i e/\∃h:St->Hp->Prop,(∀b c,h b c->∃j,j<m/\W (i+1) j b c)∧
     ∀ x H2,J.yld i e x H2->g x d H2 λa H3=>l a H3 λok H4=>
       if ok=true then k a H4 λy H5=>∃f,H5 D=some (.lst f)/\f.length<sizeLine/\h a (upd H5 D (.lst (f++ [y]))) else h a H4)
def HJ(js:List (Option Nat))(b:TI)(g:TG)(c:TT)(d:TE):TE:=λa H Q=>b a H λJ H1=>∀D,H1 D=none->Mf J g c d Q D (kY js a) (upd H1 D (.lst []))
def IT{X:Cx}{N:List Str}{js:List (Option Nat)}{a:Scope}{R:List (Str×Addr)}{tg P a9:Expr}{b0:List Expr}{pos:Pos}{wi:TI}{g:TG}{tt:TT}{te:TE}
  (S:aZ X N js a R) (hc:X.calm=true) (hi:PI X tg P wi)
  (hg:∀C s H fp,PG (bB X N a R C s H fp) tg g) (ht:∀C s H fp,tq (bB X N a R C s H fp) b0 tt) (he:∀C s H fp,PE (bB X N a R C s H fp) a9 te)
  (hs:∀x,foldedSetIterable P X.env x=pure x:=by intro _;rfl):PE X (.ListComp a9 [⟨tg,P,b0,0⟩] a pos) (HJ js wi g tt te):=by
 intro a5 s σ H Q I h
 rw[eval_ListComp]
 refine wpAny_comprehension_free (use:=none) rfl hs S.clos S.kind S.names (dC (hi a5 s σ H _ I h) λv s1 h1=>dC h1 λd3 f h2=> ?_)
 obtain⟨it,fp,tn,J,H2,e,B,T,b1,f2,hD⟩:=h2
 subst e
 refine QhQ (wpAny_newFunctionEnv S.nocell (by intro y hy;simp at hy) (λK G t=> ?_) S.kind)
 dsimp only at G t⊢
 generalize b3:f.heap.push {cls:=.type "list",dict:=none,data:=.seq ([]:List Value).toArray}=P2 at G t⊢
 have hC:P2.objs.size=f.heap.objs.size+1:=by rw[←b3,Heap.size_push]
 have b9:f.heap.objs.size≠P2.objs.size:=by rw[hC];exact Qwq (Nat.lt_succ_self _)
 have a6:f.heap.objs.size<=P2.objs.size:=by rw[hC];exact Nat.le_succ _
 have F:∀b,b<f.heap.objs.size->b≠P2.objs.size:=λb k=>by rw[hC];exact Qwq (Nat.lt_succ_of_lt k)
 have U:∀b o,f.heap.get? b=some o->K.get? b=some o:=λb o e=>t.extBut b o (F b (Qiq e)) (Qcq _ (b3▸Qcq _ e))
 have b8:K.get? f.heap.objs.size=some {cls:=.type "list",dict:=none,data:=.seq ([]:List Value).toArray}:=t.extBut _ _ b9 (Qcq _ (b3▸Qrq _ rfl))
 have nD:H2 f.heap.objs.size=none:=B.fresh
 have nC:H2 P2.objs.size=none:=B.hok.fresh a6
 have a8:∀b∈fp,b<f.heap.objs.size:=λb k=>by
  obtain⟨o,e,_⟩:=T.obj _ _ b1 b k
  exact Qiq e
 obtain⟨W,⟨m0,w0⟩,b4⟩:=hD f.heap.objs.size nD
 have c4:(bB X N a R P2.objs.size f H2 fp).Ok:=by
  refine⟨B.ok.mod,S.kind,B.ok.glob,B.ok.blt,a6,λx y c h1 h2=>B.ok.inj x y c (S.sub x c h1) (S.sub y c h2),S.has,(λx c h=>by cases h),B.ok.hd,B.ok.frames,.inl rfl,
   λb k=>⟨F b (a8 b k),λx c h=>(f2 b k).2.2.2.2.1 x c (S.sub x c h)⟩,B.bs,QAq B.ok.bsz B.sz,λb o e k=> ?_,λb k z=> ?_,B.stack,B.stkFree⟩
  ·rcases(f2 b k).2.2.2.1 with z|z
   ·exact B.ok.noex b o e z
   ·exact absurd (Qqq (Qqq (Qiq e) B.ok.bsz) z) (Nat.lt_irrefl _)
  ·rcases Qsq.mp (B.stkSub b z) with q|q
   ·exact(f2 b k).2.1 q
   ·exact(f2 b k).2.2.1 q
 have b6:dN X.prog X.w (upd H2 f.heap.objs.size (.lst [])) K f.heap.objs.size (.lst []):=⟨Nat.zero_le _,[],0,.nil,b8⟩
 have I4:Inv (bB X N a R P2.objs.size f H2 fp) [] (kY js σ) (upd H2 f.heap.objs.size (.lst [])) {f with heap:=K,toks:=f.toks+([]:List (Str×Value)).length}:=by
  refine⟨c4,rfl,B.bare,Un.laid U (Qmq _) nD,⟨_,G,λi x v h1 h2 h3=> ?_⟩,λx c h=> ?_,by show upd H2 _ _ P2.objs.size=none;rw[bJ b9.symm];exact nC,λx c h=> ?_,λp hp=>absurd (show p∈([]:List (Addr×Obj)) from hp) (by simp),B.hok.laid U (Qmq _) b6,by show(kY js σ).length=N.length;unfold kY;rw[lQm];exact S.len⟩
  ·unfold kY at h2
   rw[gQm] at h2
   cases e:js[i]? with
   |none=>rw[e] at h2;cases h2
   | some o=>
     rw[e] at h2
     cases o with
     |none=>cases h2
     | some j=>
       have a1:σ.getD j none=some v:=QdQ h2
       have hj:σ[j]?=some (some v):=by
         rw[Qlq] at a1
         cases q:σ[j]? with
         |none=>rw[q] at a1;cases a1
         |some y=>rw[q] at a1;exact congrArg some a1
       obtain⟨c1,c2,c3⟩:=S.cap i j x e h1
       obtain⟨m,hn,hl⟩:=B.loc
       have c6:Kg X.env.scope x:=by
         rcases c2 with z|z
         · exact .inr (.inl z)
         · exact .inr (.inr z)
       obtain⟨u,r,l⟩:=hl j x v c1 hj c6
       refine⟨u,r,.inr ⟨c3,?_⟩⟩
       obtain⟨c,b7⟩:=S.has x c3
       refine⟨c,b7,?_⟩
       rcases l with⟨z,_⟩|⟨_,c',e',z⟩
       · rcases c2 with y|y <;>rw[y] at z <;>cases z
       · rw[S.sub x c b7] at e'
         cases e'
         obtain⟨o,ho,hd⟩:=z
         exact⟨o,U _ _ ho,hd⟩
  ·obtain⟨v,o,ho,hd⟩:=B.cell x c (S.sub x c h)
   exact⟨v,o,U _ _ ho,hd⟩
  ·obtain⟨v,o,ho,hd⟩:=B.cell x c (S.sub x c h)
   rw[bJ (Qwq (Qiq ho))]
   exact B.freeC x c (S.sub x c h)
 have a0:∀{M:List (Addr×Obj)} {Z:Hp},M= []->(∀b∈fp,Z b=none)->∀b∈fp,qD (bB X N a R P2.objs.size f H2 fp) M Z b:=λ{M Z} ep hn b k=>by
  subst ep
  refine⟨hn b k,F b (a8 b k),λz=>c4.exfs b k z,.inl k,λx c h=>(f2 b k).2.2.2.2.1 x c (S.sub x c h),λp hp=>absurd (show p∈([]:List (Addr×Obj)) from hp) (by simp)⟩
 have a7:codeAny (model X.prog X.w) X.A (.compLoop (.ListComp a9 [⟨tg,P,b0,0⟩] a pos) 0 (.ref it) (.ref f.heap.objs.size) (compEnvC a R P2.objs.size X.env))
   (compPost (model X.prog X.w) X.A X.xe none (EP X a5 σ Q) (.ref f.heap.objs.size) P2.objs.size) {f with heap:=K,toks:=f.toks+([]:List (Str×Value)).length}:=by
  refine pL (λn s'=>∃i a2 Z,Inv (bB X N a R P2.objs.size f H2 fp) [] a2 Z s'/\tn i s'.heap/\(∀b∈fp,Z b=none)/\W i n a2 Z) ?_ m0
   ⟨0,_,_,I4,T.keep _ _ _ b1 λb _ o e=>U b o e,λb k=>by rw[bJ (Qwq (a8 b k))];exact(f2 b k).1,w0⟩
  rintro n s3 ⟨i,a3,H3,I3,c0,b5,w3⟩
  rcases b4 i n a3 H3 w3 with⟨stop,q⟩|⟨go,Nx,hN,c5⟩
  ·refine dC (T.done (bB X N a R P2.objs.size f H2 fp) rfl rfl rfl hc i [] s3 a3 H3 _ I3 (a0 rfl b5) c0 stop) λr s4 Y=> ?_
   obtain⟨hr,I5⟩:=Y
   subst hr
   obtain⟨m,hn,_⟩:=id I5.loc
   refine⟨m,hn,λh' a4=>⟨.ref f.heap.objs.size,H3,?_,rfl,q⟩⟩
   have u:=I5.base
   have ne:∀b o,f.heap.get? b=some o->b≠P2.objs.size:=λb o e=>F b (Qiq e)
   refine B.call' (ch:=fp) I5.os ⟨λb o e n k hx=>(a4.2 b (ne b o e)).trans (u.keep b o e n k hx),λb o e n k hx=> ?_,u.free,λb o e hx=> ?_,u.tups,u.frzs,u.tbls⟩ (λb ob e=> ?_) I5.bare λb k=>⟨(f2 b k).2.2.2.1,(f2 b k).2.1,(f2 b k).2.2.2.2.1,(f2 b k).2.2.2.2.2⟩
   ·obtain⟨sl,e1⟩:=u.slot b o e n k hx
    exact⟨sl,(a4.2 b (ne b o e)).trans e1⟩
   ·obtain⟨o',e1⟩:=u.there b o e hx
    exact⟨o',(a4.2 b (ne b o e)).trans e1⟩
   ·refine(I5.hok b ob e).stay (λc w' hc q=>(a4.2 c ?_).trans q) (λ_ q=>q) λ_ _ q=>q
    have fC:H3 P2.objs.size=none:=I5.free
    rintro rfl
    rcases hc with z|z
    ·rw[←z,fC] at e;cases e
    ·rw[fC] at z;cases z
  ·refine dC (T.item (bB X N a R P2.objs.size f H2 fp) rfl rfl rfl hc i [] s3 a3 H3 _ I3 (a0 rfl b5) c0 go) λr s4 Y=> ?_
   obtain⟨u,hr,h4⟩:=Y
   subst hr
   refine dC h4 λ_ s5 Y=> ?_
   obtain⟨x,H5,I5,r5,y5,b2,d1⟩:=Y
   have d2:=I5.pinned (a0 rfl d1) (T.obj _ _ b2)
   refine dC (hg P2.objs.size f H2 fp _ s5 a3 H5 x u _ d2 r5 (c5 x H5 y5)) λ_ s6 Y=> ?_
   obtain⟨L,H6,I6,q6⟩:=Y
   refine dC (ht P2.objs.size f H2 fp _ s6 L H6 _ I6 q6) λok s7 Y=> ?_
   obtain⟨H7,I7,q7⟩:=Y
   have again:∀{s8:Shared} {H8:Hp},Inv (bB X N a R P2.objs.size f H2 fp) ([]++oG fp s5.heap) L H8 s8->Nx L H8->∃m,m<n/\∃i a2 Z,Inv (bB X N a R P2.objs.size f H2 fp) [] a2 Z s8/\tn i s8.heap/\(∀b∈fp,Z b=none)/\W i m a2 Z:=λ{s8 H8} I8 n8=>by
    obtain⟨m',hm,w8⟩:=hN L H8 n8
    refine⟨m',hm,i+1,L,H8,I8.unpinned,T.keep _ _ _ b2 λb k o e=>(I8.pin (b,o) (Qoq _ (Qoq _ (eD k e)))).1,λb k=> ?_,w8⟩
    obtain⟨o,e,d⟩:=T.obj _ _ b2 b k
    exact(I8.pin (b,o) (Qoq _ (Qoq _ (eD k e)))).2.1
   cases ok with
   |false=>exact again I7 q7
   | true=>
     refine dC (he P2.objs.size f H2 fp _ s7 L H7 _ I7 q7) λyv s8 Y=> ?_
     obtain⟨y,H8,I8,ry,xs,hx,hl,n8⟩:=Y
     refine dC (rG (X:=bB X N a R P2.objs.size f H2 fp) _ s8 L H8 (.ref f.heap.objs.size) [y] (.ref f.heap.objs.size) [yv] (λ_ Z=>Nx L Z) I8 rfl (.cons ry .nil) ⟨_,xs,y,rfl,rfl,hx,hl,n8⟩) λ_ s9 Y=> ?_
     obtain⟨z,H9,I9,_,q9⟩:=Y
     exact again I9 q9
 exact codeAny_compStart_list a7 (T.self _ 0 _ _ _ (T.keep _ _ _ b1 λb _ o e=>U b o e) a7)
section
variable{X:Cx}
def GV:ij X (.builtin "isinstance") (λxs H Q=>∃x T t b,xs= [x,.ty T]/\rF X.K H x t/\PySem.W.kitOne X.K t (.type T)=some b/\Q (.bl b) H):=by
 intro a s f H xs g Q I r h
 obtain⟨x,T,t,b,rfl,ty,e,q⟩:=h
 obtain⟨u,d,rfl,rx,rt⟩:=vals2 r
 cases (show d=Value.type T from rt)
 exact Fz I rx ty e λc=>⟨.bl b,H,I.tok c,rfl,q⟩
noncomputable def Kc:List V->List V->Bool
 | [],[]=>true
 |x::xs,y::ys=>ph x y&&Kc xs ys
 |_,_=>false
theorem DY:∀{xs ys:List V},xs.length≠ys.length->Kc xs ys=false
 | [],[],h=>absurd rfl h
 | [],_::_,_=>rfl
 |_::_,[],_=>rfl
 | x::xs,y::ys,h=>by
   have:=DY (xs:=xs) (ys:=ys) λe=>h (by simp[e])
   show(ph x y&&Kc xs ys)=false
   rw[this,Bool.and_false]
theorem Eh:∀{xs ys:List V},xs.length=ys.length->(List.range xs.length).all (λj=>ph (xs.getD j .non) (ys.getD j .non))=Kc xs ys
 | [],[],_=>rfl
 | [],_::_,h=>by cases h
 |_::_,[],h=>by cases h
 | x::xs,y::ys,h=>by
   have a:=Eh (xs:=xs) (ys:=ys) (Nat.succ.inj h)
   rw[Qnq,List.range_succ_eq_map,List.all_cons,List.all_map]
   show(ph x y&&_)=(ph x y&&Kc xs ys)
   rw[←a]
   rfl
def LF{A:Around}{s:Shared}{xs ys:List V}{a vs:List Value}(r:bZ xs a)(d:bZ ys vs)(f:xs.all iW=true)(f':ys.all iW=true)(j:Nat)(l:j<a.toArray.size)(i:j<vs.toArray.size):
  SeqAt.EqAt A s a.toArray[j] vs.toArray[j] (ph (xs.getD j .non) (ys.getD j .non)):=by
 have e:=r.length
 have g:=d.length
 have b:j<xs.length:=by rw[e];simpa using l
 have c:j<ys.length:=by rw[g];simpa using i
 obtain⟨u,q,t⟩:=r.get (gQe b)
 obtain⟨v,h,k⟩:=d.get (gQe c)
 have m:xs.getD j .non=xs[j]:=by rw[Qlq,gQe b];rfl
 have p:ys.getD j .non=ys[j]:=by rw[Qlq,gQe c];rfl
 have o:a.toArray[j]=u:=by
  have:=(gQs.mp q).2
  simpa using this
 have n:vs.toArray[j]=v:=by
  have:=(gQs.mp h).2
  simpa using this
 rw[o,n,m,p]
 exact Hj t k (QUq.mp f _ (List.getElem_mem b)) (QUq.mp f' _ (List.getElem_mem c))
def N2(K:PySem.W.Frag)(e:Bool):R2:=λx y H Q=>∃a b c d,x=.ref a/\y=.ref b/\jN K H a c/\jN K H b d/\c.all iW=true/\d.all iW=true/\Q (.bl (if e then !Kc c d else Kc c d)) H
def KM(p:X.A.units<cLine):lN X (compareOp .NotEq) (N2 X.K true):=by
 intro o s J H x y v u Q I F C h
 obtain⟨a,b,g,m,rfl,rfl,ha,hb,fa,fb,q⟩:=h
 cases F
 cases C
 obtain⟨d,r,n,G⟩:=I.list ha
 obtain⟨l,i,c,z⟩:=I.list hb
 by_cases f:g.length=m.length
 ·have k:d.toArray.size=l.toArray.size:=by simp[←r.length,←i.length,f]
  refine SeqAt.RcNeAt.lists (e:=λj=>ph (g.getD j .non) (m.getD j .non)) n.isList c.isList k p (λj B w=>LF r i fa fb j B w) _ _ _ _ ⟨.bl _,H,I,rfl,?_⟩
  rw[show d.toArray.size=g.length by simp[r.length],Eh f]
  exact q
 ·refine SeqAt.RcNeAt.lists_lengths n.isList c.isList (by simpa [←r.length,←i.length] using f) p _ _ _ _ ⟨.bl _,H,I,rfl,?_⟩
  have t:Q (.bl (!Kc g m)) H:=q
  rw[DY f] at t
  exact t
end
section
variable{X:Cx}
def GT{bs:List Bool}{a:List Value}(r:bZ (bs.map V.bl) a){i:Nat}{v:Value}(h:a.toArray[i]?=some v):v=.bool (bs.getD i false):=by
 have f:i<a.length:=by
  have:=(Array.getElem?_eq_some_iff.mp h).1
  simpa using this
 have l:=r.length
 rw[lQm] at l
 have c:i<bs.length:=by omega
 obtain⟨u,e,q⟩:=r.get (i:=i) (x:=V.bl bs[i]) (by rw[gQm,gQe c];rfl)
 have b:a[i]?=some v:=by simpa using h
 rw[e] at b
 cases b
 have d:bs.getD i false=bs[i]:=by rw[Qlq,gQe c];rfl
 rw[d]
 exact q
theorem Bp:∀bs:List Bool,(List.range bs.length).all (λi=>bs.getD i false)=bs.all id
 | []=>rfl
 | b::bs=>by
   rw[Qnq,List.range_succ_eq_map,List.all_cons,List.all_map,List.all_cons,←Bp bs]
   rfl
def Mb(K:PySem.W.Frag)(f:List Bool->Bool):List V->Hp->VK->Prop:=λc H Q=>∃a b,c= [.ref a]/\jN K H a (b.map V.bl)/\Q (.bl (f b)) H
def E1(t:X.calm=true):ij X (.builtin "all") (Mb X.K λbs=>bs.all id):=by
 intro g s G H F y Q I r h
 obtain⟨a,bs,rfl,ha,q⟩:=h
 obtain⟨u,rfl,rx⟩:=vals1 r
 cases (show u=Value.ref a from rx)
 obtain⟨c,j,d,C⟩:=I.list ha
 have k:c.toArray.size=bs.length:=by have:=j.length;simp at this;simp[this]
 have f:a<s.heap.objs.size:=by obtain⟨o,e,_⟩:=d.isList;exact Qiq e
 refine call_all_walk (wpAny_pyIter_list d.isList ⟨s.heap.objs.size,_,_,_,_,_,λi=>bs.getD i false,rfl,Walks.list (A:=X.A.in1) (show X.A.in1.handled=none from I.ok.hd t) s.heap.objs.size a (Qwq f) c.toArray,⟨⟨_,Qrq _ rfl,rfl,rfl⟩,d.isList.at λo e=>Qcq _ e⟩,?_,λn z l=> ?_⟩)
 ·intro i v B w x m p
  rw[GT j m]
  exact wpAny_truthy_bool p
 ·rw[k,Bp]
  refine⟨.bl _,H,I.kept (h':=n) λb o e=>l b o ?_ (Qcq _ e),rfl,q⟩
  have:=Qiq e
  simp
  exact Qwq this
end
end L2
namespace Dk
open PySem
def vC:mroOf (Value.type "dict")=pure [Value.type "dict",Value.type "object"]:=by
 rw[mroOf_type]
 rfl
def sW:typeLookup (Value.type "dict") (Str.ofString "__new__")=pure (some (Value.builtin "dict.__new__")):=by
 rw[typeLookup_type,builtinLookup_eq_fast]
 rfl
def Aa:isSubtype (Value.type "dict") (Value.type "dict")=pure true:=by
 rw[isSubtype_type]
 rfl
def jj:plainId "dict.__new__"=true:=by decide +kernel
def d0:TypeCalled "dict" "dict.__new__" "dict.__init__" where
 notType:=by decide +kernel
 canCreate:=by decide +kernel
 mro:=⟨_,_,vC⟩
 made:=madeBy_type vC sW (by decide +kernel)
 plain:=jj
 sub:=Aa
 init:=F.slot_dict_init
def s_(a:Value):checkTypeCall "dict" {pos:= [a]}=pure ():=by rfl
def vS(a:Value):checkBuiltinCall "dict.__new__" {pos:= [Value.type "dict",a]}=pure ():=by with_unfolding_all rfl
def vn:entryFor table "dict.__new__"=some Builtin.«dict.__new__»:=by rfl
def sY{prog:Program}{w:World}{A:Around}{E:Value->Shared->Prop}{s:Shared}(a:Value){Q₁:Value->Shared->Prop}
  (h:Q₁ (.ref s.heap.objs.size) {s with heap:=s.heap.push {cls:=.type "dict",data:=.dict #[]}}):
  codeAny (model prog w) A (.call (.builtin "dict.__new__") {pos:= [.type "dict",a]}) (wants Q₁ E) s:=by
 refine codeAny_of_tree ?_
 show wpAny _ _ (do checkBuiltinCall "dict.__new__" _;_) _ _ _
 refine Qaq (wpAny_of_eq (vS a) (Qgq ⟨plainId_quiet jj _,codeAny_builtin vn ?_⟩))
 rw[Around.under_plainId jj]
 refine Qaq (Qgq (QgQ rfl (Qaq (wpAny_of_eq Aa (QgQ rfl (Qaq (wpAny_of_eq vC (QgQ ?_ ?_))))))))
 ·rfl
 ·refine Qaq ?_
  have e:newObj (.type "dict") (.dict #[])=newObjAsIs (.type "dict") (.dict #[]):=by
   unfold newObj
   simp
  rw[e]
  exact Qaq (wpAny_alloc (Qgq (Qgq h)))
def z9{prog:Program}{w:World}{A:Around}{E:Value->Shared->Prop}{s:Shared}{a:Value}{Q:Value->Shared->Prop}
  (h:wpAny (model prog w) A.in1.in1 (Builtin.«dict.__init__» {pos:= [.ref s.heap.objs.size,a]})
   (λt l=>match t with|.done f=>wants (λr b=>r=.none/\Q (.ref s.heap.objs.size) b) E (.ok f) l|.again x=>x.quiet=true/\codeAny (model prog w) A.in1 x (wants (λr b=>r=.none/\Q (.ref s.heap.objs.size) b) E) l)
   (λe l=>wants (λr b=>r=.none/\Q (.ref s.heap.objs.size) b) E (.error e) l) {s with heap:=s.heap.push {cls:=.type "dict",data:=.dict #[]}}):
  wpAny (model prog w) A (call (.type "dict") [a]) Q E s:=by
 obtain⟨c,G,j⟩:=d0.mro
 have g:=d0.made
 have k:=d0.sub
 refine wpAny_call (codeAny_of_tree ?_)
 refine Qgq ⟨Code.quiet_builtin _ (by decide +kernel),codeAny_builtin F.entry_type_call ?_⟩
 rw[Around.under_plain (weight_type_call_type "dict" [a] []) rfl]
 have C:=d0.notType
 have z:=d0.canCreate
 have p:=s_ a
 unfold Builtin.«type.__call__»
 dsimp only
 refine QgQ rfl ?_
 refine QgQ (by rw[z];rfl) ?_
 refine Qaq (wpAny_of_eq p (Qaq (wpAny_of_eq j (QgQ rfl (Qaq (wpAny_of_eq g (Qaq (Qgq (Qaq (QLq (wpAny_call (codeAny_mono (sY (E:=E) (Q₁:=λv d=>v=.ref s.heap.objs.size/\d={s with heap:=s.heap.push {cls:=.type "dict",data:=.dict #[]}}) a ⟨rfl,rfl⟩) λr d i=> ?_))))))))))))
 cases r with
 |error e=>exact i
 | ok u=>
   cases u with
   | ret y=>
     obtain⟨rfl,rfl⟩:=i
     have B:=Qrq s.heap (o:={cls:=.type "dict",data:=.dict #[]}) rfl
     have n:Shared.TypeIs {s with heap:=s.heap.push {cls:=.type "dict",data:=.dict #[]}} (.ref s.heap.objs.size) "dict":=⟨_,B,rfl⟩
     have m:=d0.init.lookup
     have q:=d0.init.bind (.ref s.heap.objs.size)
     refine Qaq (wpAny_isInstance n k (QgQ rfl (Qaq (QLq ?_))))
     unfold callSpecial?
     refine Qaq (wpAny_specialOf n m (QLq (Qaq (wpAny_of_eq q (Qaq (wpAny_call (codeAny_mono (codeAny_call_builtin d0.init.plain F.entry_dict_init (d0.init.check _ _ _ _ _ [a] [] _ n (F.args_dict_init_2 _ _) h)) λr b i=> ?_)))))))
     cases r with
     |error e=>exact i
     | ok u=>
       cases u with
       | ret v=>
         obtain⟨rfl,hq⟩:=i
         exact Qgq (QgQ rfl (Qgq hq))
       |_=>exact i.elim
   |_=>exact i.elim
def lG:entryFor table "dict.update.loop"=some Builtin.«dict.update.loop»:=by rfl
def iP:plainId "dict.update.loop"=true:=by decide +kernel
section
variable{prog:Program}{w:World}{K:Type}[DecidableEq K]{knd:KeyKind prog w K}
def B0(kvs:List (K×Value))(k:K)(v:Value):(stored kvs k v).length<=kvs.length+1:=by
 unfold stored
 split
 ·rw[lQm];omega
 ·rw[lQa];simp
noncomputable def KL(a:Nat->K)(b:Nat->Value):Nat->List (K×Value)
 |0=> []
 |i+1=>stored (KL a b i) (a i) (b i)
theorem Eo(a:Nat->K)(b:Nat->Value):∀i,(KL a b i).length<=i
 |0=>Qmq _
 |i+1=>QAq (B0 _ _ _) (Nat.succ_le_succ (Eo a b i))
end
end Dk
namespace L2
open PySem PySem.Spec PyProof.Rows
section
variable{X:Cx}
def key_is{k:Key}{u:Value}(r:RelV (kV k) u)(P:Program)(w:World):(cD P w).is k u=true:=by
 cases k with
 |inl i=>obtain⟨t,rfl⟩:=(show∃t,u=Value.int i t from r);simp[cD,su,Value.isInt]
 |inr x=>obtain⟨t,rfl⟩:=(show∃t,u=Value.str x t from r);simp[cD,su,Value.isStrOf]
end
end L2
namespace Dk
open PySem
end Dk
namespace L2
open PySem PySem.Spec PyProof.Rows
def IB{X:Cx}{N:List Str}{js:List (Option Nat)}{a:Scope}{Y:List (Str×Addr)}{tg P a5 K:Expr}{a7:List Expr}{pos a9:Pos}{wi:TI}{g gt:TG}{tt:TT}{te:TE}
  (S:aZ X N js a Y) (hc:X.calm=true) (hi:PI X tg P wi)
  (hg:∀C s H fp,PG (bB X N a Y C s H fp) tg g) (ht:∀C s H fp,tq (bB X N a Y C s H fp) a7 tt) (he:∀C s H fp,PE (bB X N a Y C s H fp) a5 te) (d8:PG X K gt)
  (hs:∀x,foldedSetIterable P X.env x=pure x:=by intro _;rfl) (d5:swapsWithSole [K] (.ListComp a5 [⟨tg,P,a7,0⟩] a pos) a9.line X.env=pure true:=by rfl)
  (h1:(assignEach [K] X.env).map (·.2)= [assign K X.env]:=by rfl):PS X (.Assign [K] (.ListComp a5 [⟨tg,P,a7,0⟩] a pos) a9) (Ez (HJ js wi g tt te) gt):=by
 intro U s σ H Dn I h
 rw[exec_Assign_arm]
 refine Qaq (wpAny_standAt (Qaq (wpAny_of_eq d5 (wpAny_ite_true rfl (Qaq ?_)))))
 rw[h1]
 show wpAny _ _ (do let _←comprehension _ _ _ _ _ _ _ (some λv=>assignAll v [assign K X.env]);pure ()) _ _ _
 refine Qaq ?_
 refine wpAny_comprehension_free (use:=some λv=>assignAll v [assign K X.env]) rfl hs S.clos S.kind S.names (dC (hi U s σ H _ I h) λv s1 h1=>dC h1 λe2 k h2=> ?_)
 obtain⟨it,fp,tn,J,H2,e,B,T,b2,f2,hD⟩:=h2
 subst e
 refine QhQ (wpAny_newFunctionEnv S.nocell (by intro y hy;simp at hy) (λM L t=> ?_) S.kind)
 dsimp only at L t⊢
 generalize b4:k.heap.push {cls:=.type "list",dict:=none,data:=.seq ([]:List Value).toArray}=P2 at L t⊢
 have hC:P2.objs.size=k.heap.objs.size+1:=by rw[←b4,Heap.size_push]
 have c5:k.heap.objs.size≠P2.objs.size:=by rw[hC];exact Qwq (Nat.lt_succ_self _)
 have a1:k.heap.objs.size<=P2.objs.size:=by rw[hC];exact Nat.le_succ _
 have G:∀b,b<k.heap.objs.size->b≠P2.objs.size:=λb f=>by rw[hC];exact Qwq (Nat.lt_succ_of_lt f)
 have Z:∀b o,k.heap.get? b=some o->M.get? b=some o:=λb o e=>t.extBut b o (G b (Qiq e)) (Qcq _ (b4▸Qcq _ e))
 have c4:M.get? k.heap.objs.size=some {cls:=.type "list",dict:=none,data:=.seq ([]:List Value).toArray}:=t.extBut _ _ c5 (Qcq _ (b4▸Qrq _ rfl))
 have nD:H2 k.heap.objs.size=none:=B.fresh
 have nC:H2 P2.objs.size=none:=B.hok.fresh a1
 have b1:∀b∈fp,b<k.heap.objs.size:=λb f=>by
  obtain⟨o,e,_⟩:=T.obj _ _ b2 b f
  exact Qiq e
 obtain⟨W,⟨m0,w0⟩,b6⟩:=hD k.heap.objs.size nD
 have d1:(bB X N a Y P2.objs.size k H2 fp).Ok:=by
  refine⟨B.ok.mod,S.kind,B.ok.glob,B.ok.blt,a1,λx y c h1 h2=>B.ok.inj x y c (S.sub x c h1) (S.sub y c h2),S.has,(λx c h=>by cases h),B.ok.hd,B.ok.frames,.inl rfl,
   λb f=>⟨G b (b1 b f),λx c h=>(f2 b f).2.2.2.2.1 x c (S.sub x c h)⟩,B.bs,QAq B.ok.bsz B.sz,λb o e f=> ?_,λb f z=> ?_,B.stack,B.stkFree⟩
  ·rcases(f2 b f).2.2.2.1 with z|z
   ·exact B.ok.noex b o e z
   ·exact absurd (Qqq (Qqq (Qiq e) B.ok.bsz) z) (Nat.lt_irrefl _)
  ·rcases Qsq.mp (B.stkSub b z) with q|q
   ·exact(f2 b f).2.1 q
   ·exact(f2 b f).2.2.1 q
 have b8:dN X.prog X.w (upd H2 k.heap.objs.size (.lst [])) M k.heap.objs.size (.lst []):=⟨Nat.zero_le _,[],0,.nil,c4⟩
 have I4:Inv (bB X N a Y P2.objs.size k H2 fp) [] (kY js σ) (upd H2 k.heap.objs.size (.lst [])) {k with heap:=M,toks:=k.toks+([]:List (Str×Value)).length}:=by
  refine⟨d1,rfl,B.bare,Un.laid Z (Qmq _) nD,⟨_,L,λi x v h1 h2 h3=> ?_⟩,λx c h=> ?_,by show upd H2 _ _ P2.objs.size=none;rw[bJ c5.symm];exact nC,λx c h=> ?_,λp hp=>absurd (show p∈([]:List (Addr×Obj)) from hp) (by simp),B.hok.laid Z (Qmq _) b8,by show(kY js σ).length=N.length;unfold kY;rw[lQm];exact S.len⟩
  ·unfold kY at h2
   rw[gQm] at h2
   cases e:js[i]? with
   |none=>rw[e] at h2;cases h2
   | some o=>
     rw[e] at h2
     cases o with
     |none=>cases h2
     | some j=>
       have a3:σ.getD j none=some v:=QdQ h2
       have hj:σ[j]?=some (some v):=by
         rw[Qlq] at a3
         cases q:σ[j]? with
         |none=>rw[q] at a3;cases a3
         |some y=>rw[q] at a3;exact congrArg some a3
       obtain⟨c1,c2,c3⟩:=S.cap i j x e h1
       obtain⟨m,hn,hl⟩:=B.loc
       have d3:Kg X.env.scope x:=by
         rcases c2 with z|z
         · exact .inr (.inl z)
         · exact .inr (.inr z)
       obtain⟨u,r,l⟩:=hl j x v c1 hj d3
       refine⟨u,r,.inr ⟨c3,?_⟩⟩
       obtain⟨c,c0⟩:=S.has x c3
       refine⟨c,c0,?_⟩
       rcases l with⟨z,_⟩|⟨_,c',e',z⟩
       · rcases c2 with y|y <;>rw[y] at z <;>cases z
       · rw[S.sub x c c0] at e'
         cases e'
         obtain⟨o,ho,hd⟩:=z
         exact⟨o,Z _ _ ho,hd⟩
  ·obtain⟨v,o,ho,hd⟩:=B.cell x c (S.sub x c h)
   exact⟨v,o,Z _ _ ho,hd⟩
  ·obtain⟨v,o,ho,hd⟩:=B.cell x c (S.sub x c h)
   rw[bJ (Qwq (Qiq ho))]
   exact B.freeC x c (S.sub x c h)
 have a2:∀{R:List (Addr×Obj)} {H':Hp},R= []->(∀b∈fp,H' b=none)->∀b∈fp,qD (bB X N a Y P2.objs.size k H2 fp) R H' b:=λ{R H'} ep hn b f=>by
  subst ep
  refine⟨hn b f,G b (b1 b f),λz=>d1.exfs b f z,.inl f,λx c h=>(f2 b f).2.2.2.2.1 x c (S.sub x c h),λp hp=>absurd (show p∈([]:List (Addr×Obj)) from hp) (by simp)⟩
 have b0:codeAny (model X.prog X.w) X.A (.compLoop (.ListComp a5 [⟨tg,P,a7,0⟩] a pos) 0 (.ref it) (.ref k.heap.objs.size) (compEnvC a Y P2.objs.size X.env))
   (compPost (model X.prog X.w) X.A X.xe (some λv=>assignAll v [assign K X.env]) (λ_ s9=>wpAny (model X.prog X.w) X.A (pure ()) (λ_ d4=>wpAny (model X.prog X.w) X.A (pure Flow.next) (SP X U Dn) X.xe d4) X.xe s9) (.ref k.heap.objs.size) P2.objs.size) {k with heap:=M,toks:=k.toks+([]:List (Str×Value)).length}:=by
  refine pL (λn s'=>∃i a4 H',Inv (bB X N a Y P2.objs.size k H2 fp) [] a4 H' s'/\tn i s'.heap/\(∀b∈fp,H' b=none)/\W i n a4 H') ?_ m0
   ⟨0,_,_,I4,T.keep _ _ _ b2 λb _ o e=>Z b o e,λb f=>by rw[bJ (Qwq (b1 b f))];exact(f2 b f).1,w0⟩
  rintro n s3 ⟨i,a8,H3,I3,c6,b7,w3⟩
  rcases b6 i n a8 H3 w3 with⟨stop,q⟩|⟨go,Nx,hN,d2⟩
  ·refine dC (T.done (bB X N a Y P2.objs.size k H2 fp) rfl rfl rfl hc i [] s3 a8 H3 _ I3 (a2 rfl b7) c6 stop) λr s4 Q=> ?_
   obtain⟨hr,I5⟩:=Q
   subst hr
   obtain⟨m,hn,_⟩:=id I5.loc
   have d9:∀h',Heap.SameBut P2.objs.size s4.heap h'->Inv X U σ H3 {s4 with heap:=h'}:=by
    intro h' a0
    have u:=I5.base
    have ne:∀b o,k.heap.get? b=some o->b≠P2.objs.size:=λb o e=>G b (Qiq e)
    refine B.call' (ch:=fp) I5.os ⟨λb o e n f hx=>(a0.2 b (ne b o e)).trans (u.keep b o e n f hx),λb o e n f hx=> ?_,u.free,λb o e hx=> ?_,u.tups,u.frzs,u.tbls⟩ (λb ob e=> ?_) I5.bare λb f=>⟨(f2 b f).2.2.2.1,(f2 b f).2.1,(f2 b f).2.2.2.2.1,(f2 b f).2.2.2.2.2⟩
    ·obtain⟨sl,e1⟩:=u.slot b o e n f hx
     exact⟨sl,(a0.2 b (ne b o e)).trans e1⟩
    ·obtain⟨o',e1⟩:=u.there b o e hx
     exact⟨o',(a0.2 b (ne b o e)).trans e1⟩
    ·refine(I5.hok b ob e).stay (λc w' hc q=>(a0.2 c ?_).trans q) (λ_ q=>q) λ_ _ q=>q
     have fC:H3 P2.objs.size=none:=I5.free
     rintro rfl
     rcases hc with z|z
     ·rw[←z,fC] at e;cases e
     ·rw[fC] at z;cases z
   have IX:=d9 s4.heap ⟨rfl,λ_ _=>rfl⟩
   have a6:qD X U H3 P2.objs.size:=B.fpOk a1 I5.free
   obtain⟨oC,es,ep,b9,b5,d6⟩:=hn
   have IP:=IX.pinned (fp:= [P2.objs.size]) (λb f=>by rw[Qfq] at f;rw[f];exact a6) (λb f=>by rw[Qfq] at f;rw[f];exact⟨oC,b9,λv=>by rw[b5];simp⟩)
   show wpAny _ _ (assignAll (.ref k.heap.objs.size) [assign K X.env]) _ _ _
   rw[assignAll.eq_2]
   refine dC (d8 _ s4 σ H3 (.ref k.heap.objs.size) (.ref k.heap.objs.size) _ IP rfl q) λ_ s6 Q=> ?_
   obtain⟨F,H6,I6,q6⟩:=Q
   have pC:=I6.pin (P2.objs.size,oC) (Qoq _ (Qoq _ (eD (Qfq.mpr rfl) b9)))
   refine⟨m,⟨oC,es,ep,pC.1,b5,d6⟩,λh' a0=>Qgq (Qgq ⟨F,H6,?_,q6⟩)⟩
   exact I6.unpinned.turned (it:=P2.objs.size) (t':=s6.toks) (λb o' f e=>(a0.2 b f).trans e) pC.2.1 pC.2.2.1 a6.2.2.2.1 a6.2.2.2.2.1 a6.2.2.2.2.2
  ·refine dC (T.item (bB X N a Y P2.objs.size k H2 fp) rfl rfl rfl hc i [] s3 a8 H3 _ I3 (a2 rfl b7) c6 go) λr s4 Q=> ?_
   obtain⟨u,hr,h4⟩:=Q
   subst hr
   refine dC h4 λ_ s5 Q=> ?_
   obtain⟨x,H5,I5,r5,y5,b3,d7⟩:=Q
   have e0:=I5.pinned (a2 rfl d7) (T.obj _ _ b3)
   refine dC (hg P2.objs.size k H2 fp _ s5 a8 H5 x u _ e0 r5 (d2 x H5 y5)) λ_ s6 Q=> ?_
   obtain⟨F,H6,I6,q6⟩:=Q
   refine dC (ht P2.objs.size k H2 fp _ s6 F H6 _ I6 q6) λok s7 Q=> ?_
   obtain⟨H7,I7,q7⟩:=Q
   have again:∀{s8:Shared} {H8:Hp},Inv (bB X N a Y P2.objs.size k H2 fp) ([]++oG fp s5.heap) F H8 s8->Nx F H8->∃m,m<n/\∃i a4 H',Inv (bB X N a Y P2.objs.size k H2 fp) [] a4 H' s8/\tn i s8.heap/\(∀b∈fp,H' b=none)/\W i m a4 H':=λ{s8 H8} I8 n8=>by
    obtain⟨m',hm,w8⟩:=hN F H8 n8
    refine⟨m',hm,i+1,F,H8,I8.unpinned,T.keep _ _ _ b3 λb f o e=>(I8.pin (b,o) (Qoq _ (Qoq _ (eD f e)))).1,λb f=> ?_,w8⟩
    obtain⟨o,e,d⟩:=T.obj _ _ b3 b f
    exact(I8.pin (b,o) (Qoq _ (Qoq _ (eD f e)))).2.1
   cases ok with
   |false=>exact again I7 q7
   | true=>
     refine dC (he P2.objs.size k H2 fp _ s7 F H7 _ I7 q7) λyv s8 Q=> ?_
     obtain⟨y,H8,I8,ry,xs,hx,hl,n8⟩:=Q
     refine dC (rG (X:=bB X N a Y P2.objs.size k H2 fp) _ s8 F H8 (.ref k.heap.objs.size) [y] (.ref k.heap.objs.size) [yv] (λ_ H'=>Nx F H') I8 rfl (.cons ry .nil) ⟨_,xs,y,rfl,rfl,hx,hl,n8⟩) λ_ s9 Q=> ?_
     obtain⟨z,H9,I9,_,q9⟩:=Q
     exact again I9 q9
 exact codeAny_compStart_list b0 (T.self _ 0 _ _ _ (T.keep _ _ _ b2 λb _ o e=>Z b o e) b0)
end L2
namespace Dk
open PySem
end Dk
namespace L2
open PySem PySem.Spec PyProof.Rows
section
variable{X:Cx}
def Js(K:PySem.W.Frag):List V->Hp->VK->Prop:=λd H Q=>∃(a:Addr) (c:List Str),d= [.ref a]/\jN K H a (c.map V.str)/\c.length<64/\∀(l:Addr) (b:List Str),H l=none->sortedS b=true->b.Perm c->Q (.ref l) (upd H l (.lst (b.map V.str)))
theorem xq:∀{ys:List Str} {a:List Value},bZ (ys.map V.str) a->StrsAre a ys
 | [],_,r=>by cases r;exact .nil
 | y::ys,_,r=>by
   cases r with
   | cons h t=>
     obtain⟨b,rfl⟩:=h
     exact .cons y b (xq t)
def yO{ss:List Str}{vs:List Value}(h:StrsAre vs ss):bZ (ss.map V.str) vs:=by
 induction h with
 |nil=>exact .nil
 |cons y t _ a=>exact .cons ⟨t,rfl⟩ a
def zm:ij X (.builtin "sorted") (Js X.K):=by
 intro j s B H A y Q I r h
 obtain⟨a,l,rfl,ha,h64,q⟩:=h
 obtain⟨u,rfl,rx⟩:=vals1 r
 cases (show u=Value.ref a from rx)
 obtain⟨d,k,p,z⟩:=I.list ha
 have w:d.length=l.length:=by have:=k.length;simpa using this.symm
 have i:s.heap.objs.size<=s.heap.objs.size+1:=Nat.le_succ _
 refine sorted_strs p.isList (xq k) (by omega) λc f t m v=> ?_
 obtain⟨e,n⟩:=sortedAll_at s.heap d c
 have g:f.length=l.length:=m.length_eq
 refine⟨.ref (s.heap.objs.size+1),_,I.laid (a:=s.heap.objs.size+1) (o:=.lst (f.map V.str)) (h':=sortedAll s.heap d c) (t':=s.toks) (λb o x=> ?_) i ⟨?_,c.toList,e,yO t,?_⟩,rfl,q _ f (I.hok.fresh i) v m⟩
 ·exact sortedAll_old x
 ·rw[lQm,g]
  exact QAq (nQl h64) (by decide)
 ·simpa using n
end
end L2
namespace Zp
open PySem
section
variable{prog:Program}{w:World}{A:Around}{E:Value->Shared->Prop}{s:Shared}
def Nh{i t:Addr}{k:Nat}{vs:Array Value}{v:Value}{Q:Value->Shared->Prop}(c:s.heap.IsTupleIter i t k)(d:s.heap.IsTuple t vs)(e:vs[k]?=some v)
  (q:∀h',h'.IsTupleIter i t (k+1)->Heap.SameBut i s.heap h'->Q v {s with heap:=h'}):wpAny (model prog w) A (Builtin.SmallTypes.nextOf (.ref i)) Q E s:=by
 obtain⟨l,b,f,a⟩:=id c
 obtain⟨j,h,_,m,g⟩:=d
 unfold Builtin.SmallTypes.nextOf
 refine Qaq (QiQ (name:=Str.ofString "__next__") c.typeIs F.slot_tuple_iterator_next (wpAny_call_entry F.slot_tuple_iterator_next c.typeIs F.entry_tuple_iterator_next ?_ (F.args_tuple_iterator_next_1 _)))
 refine(?_:wpAny _ _ (field (.ref i) 0 >>= _) _ _ s)
 refine Qaq (QMq b a (x:=.ref t) rfl ?_)
 refine(?_:wpAny _ _ (if (Value.ref t==Value.none)=true then _ else _) _ _ s)
 rw[Quq (λz=>by cases (show false=true from z))]
 refine(?_:wpAny _ _ (field (.ref i) 1 >>= _) _ _ s)
 refine Qaq (QMq b a (x:=.int k 0) rfl ?_)
 refine(?_:wpAny _ _ (seqItems? (.ref t) >>= _) _ _ s)
 refine Qaq (wpAny_seqItems h g ?_)
 simp only[Int.toNat_natCast,e]
 refine Qaq (wpAny_setField b a (by simp) (Qgq ⟨v,rfl,Qgq (q _ ⟨_,Heap.get?_update_self _ b (Obj.isFreed_of_fields (Obj.data_mapFields a _)),(Obj.cls_mapFields ..).trans f,?_⟩ (Heap.SameBut.update ..))⟩))
 rw[Obj.data_mapFields a]
 simp[rawInt]
def Mo{i t:Addr}{k:Nat}{vs:Array Value}{Q:Value->Shared->Prop}(f:A.handled=none)(d:s.heap.IsTupleIter i t k)(g:s.heap.IsTuple t vs)(h:vs[k]?=none)
  (q:∀h' e,Heap.ExtBut i s.heap h'->(∃o,h'.get? e=some o/\o.cls=.type "StopIteration")->E (.ref e) {s with heap:=h'}):wpAny (model prog w) A (Builtin.SmallTypes.nextOf (.ref i)) Q E s:=by
 obtain⟨r,c,p,b⟩:=id d
 obtain⟨n,l,_,u,j⟩:=g
 unfold Builtin.SmallTypes.nextOf
 refine Qaq (QiQ (name:=Str.ofString "__next__") d.typeIs F.slot_tuple_iterator_next (wpAny_call_entry F.slot_tuple_iterator_next d.typeIs F.entry_tuple_iterator_next ?_ (F.args_tuple_iterator_next_1 _)))
 refine(?_:wpAny _ _ (field (.ref i) 0 >>= _) _ _ s)
 refine Qaq (QMq c b (x:=.ref t) rfl ?_)
 refine(?_:wpAny _ _ (if (Value.ref t==Value.none)=true then _ else _) _ _ s)
 rw[Quq (λz=>by cases (show false=true from z))]
 refine(?_:wpAny _ _ (field (.ref i) 1 >>= _) _ _ s)
 refine Qaq (QMq c b (x:=.int k 0) rfl ?_)
 refine(?_:wpAny _ _ (seqItems? (.ref t) >>= _) _ _ s)
 refine Qaq (wpAny_seqItems l j ?_)
 simp only[Int.toNat_natCast,h]
 refine Qaq (wpAny_rule (Qaq (wpAny_setField c b (by simp) ?_)))
 refine(?_:wpAny _ _ (newExc (.type "StopIteration") [] >>= _) _ _ _)
 refine Qaq ?_
 simp only[newExc,newTuple]
 refine Qaq (QhQ ?_ (by size_fits))
 refine Qaq (m:=firstArgMember _ _) (wpAny_of_eq (a:=Value.none) (by first|rfl|(simp only[firstArgMember];rfl)) (QhQ ?_ (by size_fits)))
 simp only[raiseNew]
 refine Qaq (wpAny_handled ?_)
 first|rw[show A.in1.handled=none from f]|rw[f]
 exact Qaq (Qgq (wpAny_throw (q _ _ (((Heap.SameBut.update ..).extBut.push _).push _) ⟨_,Qrq _ rfl,rfl⟩)))
end
def Rest(z O i j:Addr)(h h':Heap):Prop:=∀c o,c≠z->c≠O->c≠i->c≠j->h.get? c=some o->h'.get? c=some o
end Zp
namespace L2
open PySem PySem.Spec PyProof.Rows
section
variable{X:Cx}{pins:List (Addr×Obj)}{σ:St}{H:Hp}{s:Shared}{h':Heap}
def Inv.turnedL{t':Nat}{fp:List Addr}(I:Inv X pins σ H s)(d:∀b∈fp,qD X pins H b)(k:∀b o,b∉fp->s.heap.get? b=some o->h'.get? b=some o):Inv X pins σ H {s with heap:=h',toks:=t'}:=by
 have f:∀b u,H b=some u->b∉fp:=λb u e z=>by rw[(d b z).1] at e;cases e
 refine I.step (g':=s.gens) (d':=s.drawn) (ch:=fp) (λb g=>⟨(d b g).2.2.2.1,(d b g).2.1,(d b g).2.2.2.2.1,(d b g).2.2.2.2.2⟩) (λb o _ _ a e _=>k b o a e) (λb o _ _ a e _=>⟨o.slots,k b o a e⟩) (λ_ _ _ _ n=>n)
  (λb o a e=>⟨o,k b o a e⟩) (λ_ _ e=>e) (λ_ _ _ e=>e) (λb p e=>⟨#[],by rw[e];simp⟩) (λm l=> ?_) (λb u e=> ?_) I.bare
 ·obtain⟨o,h,j,i,r⟩:=l
  exact⟨o,h,j,k _ o (λz=>(d _ z).2.1 rfl) i,r⟩
 ·refine(I.hok b u e).stay (λc v a q=>k c v ?_ q) (λ_ q=>q) λ_ _ q=>q
  rcases a with z|z
  ·rw[z];exact f b u e
  ·exact f c _ z
def Inv.turnedNew{t':Nat}{fp:List Addr}{p:Addr}{o:HO}(I:Inv X pins σ H s)(f:∀b∈fp,qD X pins H b)(k:∀b u,b∉fp->s.heap.get? b=some u->h'.get? b=some u)(i:s.heap.objs.size<=p)
  (new:dN X.prog X.w (upd H p o) h' p o):Inv X pins σ (upd H p o) {s with heap:=h',toks:=t'}:=by
 have t:=I.hok.fresh i
 have g:∀b u,H b=some u->b∉fp:=λb u e z=>by rw[(f b z).1] at e;cases e
 have h:∀b u,H b=some u->upd H p o b=some u:=λb u e=>by rw[bJ (gB e t)];exact e
 refine I.step (g':=s.gens) (d':=s.drawn) (ch:=fp) (λb d=>⟨(f b d).2.2.2.1,(f b d).2.1,(f b d).2.2.2.2.1,(f b d).2.2.2.2.2⟩) (λb o _ _ a e _=>k b o a e) (λb o _ _ a e _=>⟨o.slots,k b o a e⟩)
  (λb u _ e n=>by rw[bJ (λz=>Nat.lt_irrefl _ (Qqq (Qiq e) (by rw[z];exact i)))];exact n)
  (λb o a e=>⟨o,k b o a e⟩) (λb A e=>h b _ e) (λb u v e=>h b _ e) (λb B e=>⟨#[],by rw[h b _ e];simp⟩) (λm y=> ?_) (λb u e=> ?_) I.bare
 ·obtain⟨o,j,x,l,r⟩:=y
  exact⟨o,j,x,k _ o (λz=>(f _ z).2.1 rfl) l,r⟩
 ·by_cases d:b=p
  ·subst d
   rw[cA] at e
   cases e
   exact new
  ·rw[bJ d] at e
   refine(I.hok b u e).stay (λc v a q=>k c v ?_ q) (λc q=>h c _ q) λc _ q=>h c _ q
   rcases a with z|z
   ·rw[z];exact g b u e
   ·exact g c _ z
end
end L2
namespace Zp
open PySem PySem.W PyProof.Rows
noncomputable def qy:KasT (Array Nat)->List (Array Nat)
 |.ret p=> [p]
 |.ask _ _ k=>qy (k true)++qy (k false)
noncomputable def uL(n:Nat):KasT (Array Nat)->Bool
 |.ret _=>true
 |.ask i j k=>decide (i<n)&&decide (j<n)&&decide (i≠j)&&uL n (k true)&&uL n (k false)
def tR:∀n:Nat,n<=3->2<=n->uL n (kas_sort n)=true/\(qy (kas_sort n)).all (λp=>p.toList.isPerm (List.range n))=true:=by
 intro n a b
 have:n=2\/n=3:=by omega
 rcases this with rfl|rfl
 ·decide +kernel
 ·decide +kernel
inductive fK(h:Heap):List Value->List Str->Prop
 |nil:fK h [] []
 |cons {a:Addr} {o:Obj} {xs:Array Value} {n:Nat} {x:Str} {t:Tok} {vs:List Value} {fs:List Str}:h.get? a=some o->o.cls=.type "tuple" ->o.data=.seq xs n->xs[0]?=some (.str x t)->fK h vs fs->fK h (.ref a::vs) (x::fs)
theorem fK.keep{h h':Heap}(k:∀a o,h.get? a=some o->o.cls=.type "tuple" ->h'.get? a=some o):∀{vs:List Value} {fs:List Str},fK h vs fs->fK h' vs fs
 |_,_,.nil=>.nil
 |_,_,.cons e c d f r=>.cons (k _ _ e c) c d f (r.keep k)
theorem fK.len{h:Heap}:∀{vs:List Value} {fs:List Str},fK h vs fs->vs.length=fs.length
 |_,_,.nil=>rfl
 |_,_,.cons _ _ _ _ r=>congrArg (·+1) r.len
theorem fK.get{h:Heap}:∀{vs:List Value} {fs:List Str} {i:Nat},fK h vs fs->i<fs.length->∃a o xs n t,vs.getD i Value.none=.ref a/\h.get? a=some o/\o.data=.seq xs n/\xs[0]?=some (.str (fs.getD i "") t)
 |_,_,0,.cons e c d f r,_=>⟨_,_,_,_,_,rfl,e,d,f⟩
 | _,_,i+1,.cons e c d f r,hi=>by
   have:=r.get (i:=i) (by simpa using hi)
   simpa using this
 |_,_,_,.nil,hi=>by simp at hi
theorem fK.firsts{h:Heap}:∀{vs:List Value} {fs:List Str},fK h vs fs->∃a:List Value,KatTups h vs a/\a.length=fs.length/\∀v∈a,∃x t,v=.str x t
 |_,_,.nil=>⟨[],KatTups.nil,rfl,by simp⟩
 | _,_,.cons e c d f r=>by
   obtain⟨a,k,l,m⟩:=r.firsts
   exact⟨_::a,KatTups.cons e c d f k,by simp[l],λv b=>by
     rcases Qsq.mp b with z|z
     · exact⟨_,_,z⟩
     · exact m v z⟩
end Zp
namespace L2
open PySem PySem.Spec PyProof.Rows
mutual
inductive sO(N:Addr->Prop)(H:Hp):PyData->V->Prop
 |non:sO N H .none .non
 |bl (b:Bool):sO N H (.bool b) (.bl b)
 |int (i:Int):sO N H (.int i) (.int i)
 |str (x:Str):sO N H (.str x) (.str x)
 |tup {a:Addr} {us:List V} {xs:List PyData}:H a=some (.tup us)->uv N H xs us->sO N H (.tuple xs) (.ref a)
 |lst {a:Addr} {us:List V} {xs:List PyData}:H a=some (.lst us)->N a->uv N H xs us->sO N H (.list xs) (.ref a)
 |dct {a:Addr}:H a=some (.dK [])->sO N H (.dict []) (.ref a)
inductive uv(N:Addr->Prop)(H:Hp):List PyData->List V->Prop
 |nil:uv N H [] []
 |cons {x:PyData} {u:V} {xs:List PyData} {us:List V}:sO N H x u->uv N H xs us->uv N H (x::xs) (u::us)
end
section
variable{X:Cx}
mutual
theorem uA{c:List (Addr×Obj)}{σ:St}{H:Hp}{s:Shared}{N:Addr->Prop}(I:Inv X c σ H s)(q:∀a,N a->a≠sysModules):∀{d:PyData} {v:V} {u:Value},sO N H d v->RelV v u->∃as,Reads s.heap u d as/\sysModules∉as
 |_,_,_,.non,r=>by cases r;exact⟨_,.none,by simp⟩
 |_,_,_,.bl b,r=>by cases r;exact⟨_,.bool b,by simp⟩
 |_,_,_,.int i,r=>by obtain⟨t,rfl⟩:=r;exact⟨_,.int i t,by simp⟩
 |_,_,_,.str x,r=>by obtain⟨t,rfl⟩:=r;exact⟨_,.str x t,by simp⟩
 | _,_,_,.tup (a:=a) h hs,r=>by
   cases r
   obtain⟨m,k,⟨o,g,f,n,j⟩,F⟩:=I.tuple (jy.of h)
   obtain⟨as,l,p⟩:=qA I q hs k
   exact⟨as,.tuple g f j (by simpa using l),p⟩
 | _,_,_,.lst (a:=a) h n hs,r=>by
   cases r
   obtain⟨m,k,B,F⟩:=I.list (jN.of h)
   obtain⟨o,g,f,L,j⟩:=B.isList
   obtain⟨as,l,p⟩:=qA I q hs k
   exact⟨_,.list g f j (by simpa using l),by rw[Qsq];exact λe=>e.elim (λe=>q _ n e.symm) p⟩
 | _,_,_,.dct (a:=a) h,r=>by
   cases r
   obtain⟨_,w,M,J,A⟩:=AN I.hok h
   cases J
   obtain⟨o,z,K,g,C,f,_,G,_⟩:=A
   have y:z.toList= []:=List.eq_nil_of_length_eq_zero G.length
   exact⟨_,.dict (as:= []) (bs:= []) (kvs:= []) g C.1 f (by rw[y];exact .nil) (by rw[y];exact .nil),by
     simp
     intro e
     rw[e] at w
     simp at w⟩
theorem qA{b:List (Addr×Obj)}{σ:St}{H:Hp}{s:Shared}{N:Addr->Prop}(I:Inv X b σ H s)(d:∀a,N a->a≠sysModules):∀{xs:List PyData} {c:List V} {vs:List Value},uv N H xs c->bZ c vs->∃as,ReadsAll s.heap vs xs as/\sysModules∉as
 |_,_,_,.nil,r=>by cases r;exact⟨_,.nil,by simp⟩
 | _,_,_,.cons h hs,r=>by
   cases r with
   | cons r j=>
     obtain⟨as,f,i⟩:=uA I d h r
     obtain⟨l,g,k⟩:=qA I d hs j
     exact⟨_,.cons f g,by rw[mQa];exact λe=>e.elim i k⟩
end
end
section
variable{X:Cx}
def JE:lN X (binaryOp .Mult) (rI IntMulOk λi j=>.int (i*j)):=Nv λ_ _ _ _ _ _ _ a q=>mul_int q a
inductive xW(H:Hp):List Addr->List Str->Prop
 |nil:xW H [] []
 |cons {a:Addr} {x:Str} {us:List V} {rs:List Addr} {ss:List Str}:H a=some (.tup (.str x::us))->xW H rs ss->xW H (a::rs) (x::ss)
theorem zW{b:List (Addr×Obj)}{σ:St}{H:Hp}{s:Shared}(I:Inv X b σ H s):∀{rs:List Addr} {ss:List Str},xW H rs ss->Zp.fK s.heap (rs.map Value.ref) ss
 |_,_,.nil=>.nil
 | _,_,.cons (a:=a) h r=>by
   obtain⟨f,g,⟨o,c,i,n,d⟩,j⟩:=I.tuple (jy.of h)
   cases g with
   | cons e k=>
     obtain⟨t,rfl⟩:=e
     exact .cons (t:=t) c i d (by simp) (zW I r)
theorem w_:∀{rs:List Addr} {b:List Value},bZ (rs.map V.ref) b->b=rs.map Value.ref
 | [],_,r=>by cases r;rfl
 | a::rs,_,r=>by
   cases r with
   | cons h t=>
     cases h
     rw[w_ t]
     rfl
theorem vL:∀(rs:List Addr),bZ (rs.map V.ref) (rs.map Value.ref)
 | []=>.nil
 |a::rs=>.cons rfl (vL rs)
end
section
variable{X:Cx}
def GY:MX X (λx y H Q=>∃p xs k v,x=.ref p/\y=.int ((k:Nat):Int)/\jN X.K H p xs/\xs[k]?=some v/\Q v H):=by
 intro b s n H x y v u Q I g f h
 obtain⟨p,xs,k,z,rfl,rfl,hq,he,q⟩:=h
 cases g
 obtain⟨t,rfl⟩:=f
 obtain⟨d,r,c,m⟩:=I.list hq
 obtain⟨i,e,a⟩:=r.get he
 have j:k<xs.length:=(gQs.mp he).1
 have l:=lA
 exact wpAny_getItem_list c.isList (x:=i) (Int.natCast_nonneg k) (by omega) (by simpa using e) ⟨z,H,I,a,q⟩
end
section
variable{X:Cx}
def G_(K:PySem.W.Frag):R2:=λx y H Q=>∃a b c,x=.ref a/\y=.ref b/\jN K H a c/\jN K H b []/\Q (.bl (!c.isEmpty)) H
def HF(g:X.A.units<cLine):lN X (compareOp .NotEq) (G_ X.K):=by
 intro c s t H x y v u Q I f e h
 obtain⟨a,b,n,rfl,rfl,ha,hb,q⟩:=h
 cases n with
 |nil=>exact KM g c s t H _ _ v u Q I f e ⟨a,b,[],[],rfl,rfl,ha,hb,rfl,rfl,q⟩
 | cons z w=>
   cases f
   cases e
   obtain⟨o,r,j,B⟩:=I.list ha
   obtain⟨p,m,d,l⟩:=I.list hb
   have i:=r.length
   have k:=m.length
   exact SeqAt.RcNeAt.lists_lengths j.isList d.isList (by simp[←i,←k]) g _ _ _ _ ⟨.bl true,H,I,rfl,q⟩
end
end L2
namespace HT
open PySem PySem.Spec PyProof.Rows
section
variable{prog:Program}{w:World}{A:Around}{E:Value->Shared->Prop}{s:Shared}
def ni{t d:Addr}{items:Array Value}{f j:Value}{lo hi:Option Int}{Q:Value->Shared->Prop}(ht:IsTup s.heap t items)(g:s.heap.IsSliceOf d f j .none)(l:IsPart f lo)(o:IsPart j hi)
  (i:gC items.size 0 lo=0/\gC items.size items.size hi=items.size) (h:Q (.ref t) s):wpAny (model prog w) A (getItem (.ref t) (.ref d)) Q E s:=by
 obtain⟨k,c,e,n⟩:=id g
 have b:s.TypeIs (.ref d) "slice":=⟨k,c,e⟩
 unfold getItem
 try with_reducible refine QLq ?_
 first|refine Qaq (Qgq ?_)|skip
 refine Qaq (wpAny_sequenceKey ht.typeIs (by decide) ?_)
 refine Qaq (QiQ (name:=Str.ofString "__getitem__") ht.typeIs PyProof.Rows.slot_tuple_getitem
  (wpAny_call_entry PyProof.Rows.slot_tuple_getitem ht.typeIs entry_tuple_getitem ?_ (args_tuple_getitem _ _)))
 show wpAny _ _ (Builtin.Tuple.tupleItemsOf (.ref t) >>= _) _ _ s
 refine Qaq (tupleItemsOf_ ht ?_)
 refine Qaq (wpAny_typeOf b ?_)
 rw[Qhq (by decide)]
 refine Qaq (kb g l o ?_)
 have a:(((gC items.size 0 lo:Nat):Int)==0&&(1:Int)==1&&(gC items.size items.size hi-gC items.size 0 lo)==items.size)=true:=by
  rw[i.1,i.2]
  simp
 show wpAny _ _ (if (((gC items.size 0 lo:Nat):Int)==0&&(1:Int)==1&&(gC items.size items.size hi-gC items.size 0 lo)==items.size)=true then _ else _) _ _ s
 rw[Qhq a]
 have p:∀{A:Around} {E:Value->Shared->Prop} {R:Bool->Shared->Prop},R true s->wpAny (model prog w) A (Builtin.Tuple.tupleIsExact (.ref t)) R E s:=λ{A E R} h=>by
  unfold Builtin.Tuple.tupleIsExact
  exact Qaq (wpAny_typeOf ht.typeIs (Qgq h))
 refine Qaq (m:=Builtin.Tuple.tupleIsExact _) (p ?_)
 rw[Qhq rfl]
 refine Qaq (wpAny_rule ?_)
 exact Qgq ⟨_,rfl,Qgq h⟩
end
end HT
namespace L2
open PySem PySem.Spec PyProof.Rows
def NP(K:PySem.W.Frag):V->Option Int->Option Int->Hp->VK->Prop:=λx c d H Q=>∃a b,x=.ref a/\jy K H a b∧
 (HT.gC b.length 0 c=0/\HT.gC b.length b.length d=b.length->Q (.ref a) H)/\(¬(HT.gC b.length 0 c=0/\HT.gC b.length b.length d=b.length)->∀p,H p=none->Q (.ref p) (upd H p (.tup (Cc b c d))))
def Jc{X:Cx}:NU X (NP X.K):=by
 intro c s q H x v o t n k p Q I m j g i h
 obtain⟨a,b,rfl,hx,q1,q2⟩:=h
 by_cases e:HT.gC b.length 0 n=0/\HT.gC b.length b.length k=b.length
 ·cases m
  obtain⟨f,r,l,u⟩:=I.tuple hx
  have d:f.toArray.size=b.length:=by rw[Qjq];exact r.length.symm
  refine⟨"tuple",_,PyProof.Rows.slot_tuple_getitem.lookup,l.typeIs,?_⟩
  exact HT.ni l j g i (by rw[d];exact e) ⟨.ref a,H,I,rfl,q1 e⟩
 ·exact Lm c s q H _ v o t n k p Q I m j g i ⟨a,b,rfl,hx,e,q2 e⟩
end L2
namespace DL
open PySem PySem.Spec PyProof.Rows L2
inductive D where
 |non|bl (b:Bool)|int (i:Int)|str (x:Str)|tup (xs:List D)|ref (k:Nat)|fn (x:Str)
inductive O where
 |lst (xs:List D)|frz (xs:List D)|dct (kvs:List (Key×D))
abbrev aL:=List O
abbrev dw:=List (Option D)
structure Md where
 K:PySem.W.Frag
 mg:Str->Option Value
mutual
inductive Rel(M:Md)(ρ:List Addr)(H:Hp):D->V->Prop
 |non:Rel M ρ H .non .non
 |bl (b:Bool):Rel M ρ H (.bl b) (.bl b)
 |int (i:Int):Rel M ρ H (.int i) (.int i)
 |str (x:Str):Rel M ρ H (.str x) (.str x)
 |tup {a:Addr} {vs:List V} {ds:List D}:H a=some (.tup vs)->bC M ρ H ds vs->Rel M ρ H (.tup ds) (.ref a)
 |ref {k:Nat} {a:Addr}:ρ[k]?=some a->Rel M ρ H (.ref k) (.ref a)
 |fn {x:Str} {a:Addr}:M.mg x=some (.ref a)->Rel M ρ H (.fn x) (.ref a)
inductive bC(M:Md)(ρ:List Addr)(H:Hp):List D->List V->Prop
 |nil:bC M ρ H [] []
 |cons {d:D} {v:V} {ds:List D} {vs:List V}:Rel M ρ H d v->bC M ρ H ds vs->bC M ρ H (d::ds) (v::vs)
end
section
variable{M:Md}{ρ ρ':List Addr}{H H':Hp}
def OD:HO->Prop
 |.tup _=>True
 |.frz _ _=>True
 |_=>False
structure cU(ρ:List Addr)(H:Hp)(ρ':List Addr)(H':Hp):Prop where
 pre:ρ <+: ρ'
 new:∀a∈ρ',a∈ρ\/H a=none
 keep:∀a o,H a=some o->a∉ρ\/OD o->H' a=some o
 grow:∀a,H' a=none->H a=none
def cU.refl:cU ρ H ρ H:=⟨List.prefix_refl _,λ_ h=>.inl h,λ_ _ h _=>h,λ_ h=>h⟩
def cU.trans{b d:List Addr}{H1 H2:Hp}(e:cU ρ H b H1)(f:cU b H1 d H2):cU ρ H d H2 where
 pre:=e.pre.trans f.pre
 new:=λa h=>(f.new a h).elim (λh=>e.new a h) λh=>.inr (e.grow a h)
 keep:=λa o h c=>f.keep a o (e.keep a o h c) (c.imp (λn m=>(e.new a m).elim n λz=>by rw[z] at h;cases h) id)
 grow:=λa h=>e.grow a (f.grow a h)
def cU.laid{a:Addr}{o:HO}(h:H a=none):cU ρ H ρ (upd H a o) where
 pre:=List.prefix_refl _
 new:=λ_ h=>.inl h
 keep:=λb c e _=>by rw[bJ];exact e;intro z;subst z;rw[h] at e;cases e
 grow:=λb e=>by
  by_cases z:b=a
  ·subst z;exact h
  ·rw[bJ z] at e;exact e
theorem mv{α:Type}:∀{l:List α},l.Nodup->∀{i j:Nat} {a:α},l[i]?=some a->l[j]?=some a->i=j
 | [],_,_,_,_,h,_=>by simp at h
 |x::l,n,0,0,_,_,_=>rfl
 | x::l,n,0,j+1,a,h1,h2=>by
   rw[List.nodup_cons] at n
   simp at h1 h2
   subst h1
   exact absurd (mQg h2) n.1
 | x::l,n,i+1,0,a,h1,h2=>by
   rw[List.nodup_cons] at n
   simp at h1 h2
   subst h2
   exact absurd (mQg h1) n.1
 | x::l,n,i+1,j+1,a,h1,h2=>by
   rw[List.nodup_cons] at n
   simp at h1 h2
   exact congrArg (·+1) (mv n.2 h1 h2)
def da{α e:Type}{a c:α}{b d:e}(h:some (a,b)=some (c,d)):a=c/\b=d:=by cases h;exact⟨rfl,rfl⟩
def dF{α:Type}{l b:List α}(h:l <+: b){k:Nat}{a:α}(e:l[k]?=some a):b[k]?=some a:=by
 obtain⟨t,rfl⟩:=h
 rw[QHq (gQs.mp e).1]
 exact e
mutual
theorem Rel.ext(e:cU ρ H ρ' H'):∀{d:D} {v:V},Rel M ρ H d v->Rel M ρ' H' d v
 |_,_,.non=>.non
 |_,_,.bl b=>.bl b
 |_,_,.int i=>.int i
 |_,_,.str x=>.str x
 |_,_,.tup h hs=>.tup (e.keep _ _ h (.inr trivial)) (bC.ext e hs)
 |_,_,.ref h=>.ref (dF e.pre h)
 |_,_,.fn h=>.fn h
theorem bC.ext(e:cU ρ H ρ' H'):∀{ds:List D} {vs:List V},bC M ρ H ds vs->bC M ρ' H' ds vs
 |_,_,.nil=>.nil
 |_,_,.cons h hs=>.cons (Rel.ext e h) (bC.ext e hs)
end
mutual
theorem Rel.pre(e:ρ <+: ρ'):∀{d:D} {v:V},Rel M ρ H d v->Rel M ρ' H d v
 |_,_,.non=>.non
 |_,_,.bl b=>.bl b
 |_,_,.int i=>.int i
 |_,_,.str x=>.str x
 |_,_,.tup h hs=>.tup h (bC.pre e hs)
 |_,_,.ref h=>.ref (dF e h)
 |_,_,.fn h=>.fn h
theorem bC.pre(e:ρ <+: ρ'):∀{ds:List D} {vs:List V},bC M ρ H ds vs->bC M ρ' H ds vs
 |_,_,.nil=>.nil
 |_,_,.cons h hs=>.cons (Rel.pre e h) (bC.pre e hs)
end
theorem bC.length:∀{ds:List D} {vs:List V},bC M ρ H ds vs->ds.length=vs.length
 |_,_,.nil=>rfl
 |_,_,.cons _ h=>congrArg (·+1) h.length
theorem bC.append:∀{ds a:List D} {vs ws:List V},bC M ρ H ds vs->bC M ρ H a ws->bC M ρ H (ds++a) (vs++ws)
 |_,_,_,_,.nil,h=>h
 |_,_,_,_,.cons h hs,h'=>.cons h (hs.append h')
theorem bC.get:∀{ds:List D} {vs:List V} {i:Nat} {d:D},bC M ρ H ds vs->ds[i]?=some d->∃v,vs[i]?=some v/\Rel M ρ H d v
 |_,_,0,_,.cons h _,e=>by cases e;exact⟨_,rfl,h⟩
 |_,_,i+1,_,.cons _ hs,e=>hs.get (i:=i) (by simpa using e)
 |_,_,_,_,.nil,e=>by simp at e
theorem bC.set{d:D}{v:V}(h:Rel M ρ H d v):∀{ds:List D} {vs:List V} (i:Nat),bC M ρ H ds vs->bC M ρ H (ds.set i d) (vs.set i v)
 |_,_,_,.nil=>.nil
 |_,_,0,.cons _ t=>.cons h t
 |_,_,i+1,.cons q t=>.cons q (bC.set h i t)
theorem bC.take:∀{ds:List D} {vs:List V} (n:Nat),bC M ρ H ds vs->bC M ρ H (ds.take n) (vs.take n)
 |_,_,0,_=>.nil
 |_,_,_+1,.nil=>.nil
 |_,_,n+1,.cons h hs=>.cons h (hs.take n)
theorem bC.drop:∀{ds:List D} {vs:List V} (n:Nat),bC M ρ H ds vs->bC M ρ H (ds.drop n) (vs.drop n)
 |_,_,0,h=>h
 |_,_,_+1,.nil=>.nil
 |_,_,n+1,.cons _ hs=>hs.drop n
theorem bC.eraseIdx:∀{ds:List D} {vs:List V} (n:Nat),bC M ρ H ds vs->bC M ρ H (ds.eraseIdx n) (vs.eraseIdx n)
 |_,_,_,.nil=>.nil
 |_,_,0,.cons _ h=>h
 |_,_,n+1,.cons h hs=>.cons h (hs.eraseIdx n)
theorem bC.rep{ds:List D}{vs:List V}(h:bC M ρ H ds vs):∀k:Nat,bC M ρ H (List.replicate k ds).flatten (List.replicate k vs).flatten
 |0=>.nil
 |k+1=>by rw[QNq,QNq,List.flatten_cons,List.flatten_cons];exact h.append (h.rep k)
def cY(M:Md)(ρ:List Addr)(H:Hp):List (Key×D)->List (Key×V)->Prop
 | [],kv=>kv= []
 |(k,d)::r,kv=>∃v t,kv=(k,v)::t/\Rel M ρ H d v/\cY M ρ H r t
theorem cY.imp{ρ':List Addr}{H':Hp}(f:∀d v,Rel M ρ H d v->Rel M ρ' H' d v):∀{l:List (Key×D)} {kv:List (Key×V)},cY M ρ H l kv->cY M ρ' H' l kv
 | [],_,h=>h
 |(_,_)::_,_,⟨v,t,e,h,hs⟩=>⟨v,t,e,f _ _ h,cY.imp f hs⟩
theorem cY.length:∀{l:List (Key×D)} {kv:List (Key×V)},cY M ρ H l kv->l.length=kv.length
 | [],_,h=>by cases h;rfl
 |(_,_)::_,_,⟨v,t,e,h,hs⟩=>by subst e;exact congrArg (·+1) hs.length
def qj(M:Md)(ρ:List Addr)(H:Hp)(a:Addr):O->Prop
 |.lst c=>∃b,H a=some (.lst b)/\bC M ρ H c b
 |.frz c=>∃b o,H a=some (.frz o (.lst b))/\bC M ρ H c b
 |.dct d=>∃e,H a=some (.dK e)/\cY M ρ H d e
structure g9(M:Md)(ρ:List Addr)(S:aL)(H:Hp):Prop where
 len:ρ.length=S.length
 nd:ρ.Nodup
 obj:∀(k:Nat) (a:Addr) (o:O),ρ[k]?=some a->S[k]?=some o->qj M ρ H a o
def qj.lay{a b:Addr}{o:O}{u:HO}(h:qj M ρ H a o)(i:H b=none):qj M ρ (upd H b u) a o:=by
 have e:cU ρ H ρ (upd H b u):=cU.laid i
 have f:∀{x},H a=some x->upd H b u a=some x:=λ{x} h=>by rw[bJ];exact h;intro z;subst z;rw[i] at h;cases h
 cases o with
 |lst j=>obtain⟨g,c,d⟩:=h;exact⟨g,f c,d.ext e⟩
 |frz j=>obtain⟨g,o,c,d⟩:=h;exact⟨g,o,f c,d.ext e⟩
 |dct k=>obtain⟨l,c,d⟩:=h;exact⟨l,f c,d.imp λ_ _ r=>r.ext e⟩
def g9.lay{S:aL}{b:Addr}{u:HO}(h:g9 M ρ S H)(d:H b=none):g9 M ρ S (upd H b u):=⟨h.len,h.nd,λk a o c e=>(h.obj k a o c e).lay d⟩
theorem qj.pre{a:Addr}{o:O}(e:ρ <+: ρ')(h:qj M ρ H a o):qj M ρ' H a o:=by
 cases o with
 |lst f=>obtain⟨d,b,c⟩:=h;exact⟨d,b,c.pre e⟩
 |frz f=>obtain⟨d,o,b,c⟩:=h;exact⟨d,o,b,c.pre e⟩
 |dct g=>obtain⟨i,b,c⟩:=h;exact⟨i,b,c.imp λ_ _ r=>r.pre e⟩
def g9.box{S:aL}{a:Addr}{o:O}(h:g9 M ρ S H)(j:a∉ρ)(g:qj M (ρ++ [a]) H a o):g9 M (ρ++ [a]) (S++ [o]) H where
 len:=by rw[lQa,lQa,h.len];rfl
 nd:=by rw[List.nodup_append];exact⟨h.nd,by simp,λx l y f=>by rw[Qfq] at f;subst f;exact λz=>j (z▸l)⟩
 obj:=λk b u d e=>by
  by_cases c:k<ρ.length
  ·rw[QHq c] at d
   rw[QHq (h.len▸c)] at e
   exact(h.obj k b u d e).pre (List.prefix_append _ _)
  ·have c:ρ.length<=k:=Nat.le_of_not_lt c
   rw[QQq c] at d
   rw[QQq (h.len▸c)] at e
   have z:k-ρ.length=0:=by
    have:=(gQs.mp d).1
    simp at this
    omega
   have i:k-S.length=0:=by rw[←h.len];exact z
   rw[z] at d
   rw[i] at e
   cases d
   cases e
   exact g
def g9.put{S:aL}{k:Nat}{a:Addr}{o w:O}{u:HO}(h:g9 M ρ S H)(i:ρ[k]?=some a)(B:S[k]?=some o)(K:qj M ρ (upd H a u) a w)(G:∀x,H a=some x->¬OD x):g9 M ρ (S.set k w) (upd H a u)/\cU ρ H ρ (upd H a u):=by
 have J:a∈ρ:=mQg i
 have e:cU ρ H ρ (upd H a u):=by
  refine⟨List.prefix_refl _,λ_ h=>.inl h,λb x A c=> ?_,λb m=> ?_⟩
  ·rw[bJ]
   ·exact A
   ·intro z
    subst z
    exact c.elim (λn=>n J) λF=>G _ A F
  ·by_cases z:b=a
   ·subst z;rw[cA] at m;cases m
   ·rw[bJ z] at m;exact m
 refine⟨⟨by rw[List.length_set];exact h.len,h.nd,λj b p f l=> ?_⟩,e⟩
 by_cases c:j=k
 ·subst c
  rw[i] at f
  cases f
  rw[Qyq (gQs.mp B).1] at l
  cases l
  exact K
 ·rw[QKq (Ne.symm c)] at l
  have s:b≠a:=by
   intro z
   subst z
   have v:=(gQs.mp f)
   have y:=(gQs.mp i)
   obtain⟨v,P⟩:=v
   obtain⟨y,N⟩:=y
   exact c (mv h.nd f i)
  have q:=h.obj j b p f l
  cases p with
  |lst C=>obtain⟨t,g,d⟩:=q;exact⟨t,by rw[bJ s];exact g,d.ext e⟩
  |frz C=>obtain⟨t,o,g,d⟩:=q;exact⟨t,o,by rw[bJ s];exact g,d.ext e⟩
  |dct I=>obtain⟨L,g,d⟩:=q;exact⟨L,by rw[bJ s];exact g,d.imp λ_ _ r=>r.ext e⟩
end
structure En(M:Md)(ρ:List Addr)(H:Hp)(Γ:dw)(σ:L2.St):Prop where
 len:σ.length=Γ.length
 get:∀(i:Nat) (d:D),Γ[i]?=some (some d)->∃v,σ[i]?=some (some v)/\Rel M ρ H d v
def En.ext{M:Md}{ρ a:List Addr}{H b:Hp}{c:dw}{σ:L2.St}(h:En M ρ H c σ)(e:cU ρ H a b):En M a b c σ:=⟨h.len,λi d q=>by obtain⟨v,f,g⟩:=h.get i d q;exact⟨v,f,g.ext e⟩⟩
def En.set{M:Md}{ρ:List Addr}{H:Hp}{a:dw}{σ:L2.St}{i:Nat}{d:D}{v:V}(h:En M ρ H a σ)(r:Rel M ρ H d v):En M ρ H (a.set i (some d)) (σ.set i (some v)) where
 len:=by rw[List.length_set,List.length_set];exact h.len
 get:=λj e q=>by
  by_cases c:i=j
  ·subst c
   have l:i<a.length:=by
    have:=(gQs.mp q).1
    rwa [List.length_set] at this
   rw[Qyq l] at q
   cases q
   exact⟨v,Qyq (h.len▸l),r⟩
  ·rw[QKq c] at q⊢
   exact h.get j e q
structure Ok(M:Md)(ρ:List Addr)(Γ:dw)(S:aL)(σ:L2.St)(H:Hp):Prop where
 en:En M ρ H Γ σ
 st:g9 M ρ S H
def Ok.to{M:Md}{ρ a:List Addr}{d:dw}{S c:aL}{σ:L2.St}{H b:Hp}(h:Ok M ρ d S σ H)(e:cU ρ H a b)(s:g9 M a c b):Ok M a d c σ b:=⟨h.en.ext e,s⟩
abbrev bV:=dw->aL->Option (D×aL)
abbrev iH:=dw->aL->Option (List D×aL)
abbrev kR:=dw->aL->Option (Bool×aL)
def tD(M:Md)(f:bV):TE:=λh H Q=>∃c g S d e,Ok M c g S h H/\f g S=some (d,e)/\∀a v b,cU c H a b->g9 M a e b->Rel M a b d v->Q v b
def tL(M:Md)(f:iH):TE:=λj H Q=>∃e h S d g,Ok M e h S j H/\f h S=some (d,g)∧
 ∀b a i c,cU e H b c->g9 M b g c->H a=none->a∉b->c a=some (.lst i)->bC M b c d i->Q (.ref a) c
def Bn(M:Md)(f:iH):TA:=λi H Q=>∃d g S c e,Ok M d g S i H/\f g S=some (c,e)/\∀a h b,cU d H a b->g9 M a e b->bC M a b c h->Q h b
def tB(M:Md)(f:kR):TT:=λh H Q=>∃d g S b e,Ok M d g S h H/\f g S=some (b,e)/\∀a c,cU d H a c->g9 M a e c->Q b c
section
variable{X:Cx}
noncomputable abbrev md(X:Cx):Md:=⟨X.K,X.mg⟩
def lO{e:Expr}{t t':TE}(h:PE X e t)(w:∀σ H Q,t' σ H Q->t σ H Q):PE X e t':=λa s σ H Q I q=>h a s σ H Q I (w _ _ _ q)
def NF{e:Expr}{t t':TT}(h:PT X e t)(w:∀σ H Q,t' σ H Q->t σ H Q):PT X e t':=λa s σ H Q I q=>h a s σ H Q I (w _ _ _ q)
def Oz{e:Expr}{t t':TT}(h:PW X e t)(w:∀σ H Q,t' σ H Q->t σ H Q):PW X e t':=λb a s σ H Q I q=>h b a s σ H Q I (w _ _ _ q)
def OO{c:List Expr}{t t':TA}(h:PA X c t)(w:∀σ H Q,t' σ H Q->t σ H Q):PA X c t':=λb a s σ H Q I q=>h b a s σ H Q I (w _ _ _ q)
def Dd{e:Stmt}{t t':TS}(h:PS X e t)(w:∀D σ H,t' D σ H->t D σ H):PS X e t':=λa s σ H D I q=>h a s σ H D I (w _ _ _ q)
def Mi{e:List Stmt}{t t':TS}(h:t8 X e t)(w:∀D σ H,t' D σ H->t D σ H):t8 X e t':=λa s σ H D I q=>h a s σ H D I (w _ _ _ q)
noncomputable def au(i:Nat):bV:=λa S=>match a[i]? with
 |some (some d)=>some (d,S)
 |_=>none
def EK{i:Nat}{b:dw}{S:aL}{d:D}{a:aL}(h:au i b S=some (d,a)):b[i]?=some (some d)/\a=S:=by
 unfold au at h
 split at h
 ·cases h;exact⟨by assumption,rfl⟩
 ·cases h
def Mx{e:Expr}{i:Nat}(h:PE X e (K3 i)):PE X e (tD (md X) (au i)):=lO h λj H Q b=>by
 obtain⟨c,l,S,d,k,ok,e,q⟩:=b
 obtain⟨f,rfl⟩:=EK e
 obtain⟨v,a,g⟩:=ok.en.get i d f
 exact⟨v,a,q c v H cU.refl ok.st g⟩
noncomputable def cF(d:D):bV:=λ_ S=>some (d,S)
def dU{e:Expr}{v:V}{d:D}(h:PE X e (tC v))(r:∀ρ H,Rel (md X) ρ H d v):PE X e (tD (md X) (cF d)):=lO h λb H Q a=>by
 obtain⟨ρ,f,S,g,c,ok,e,q⟩:=a
 cases e
 exact q ρ v H cU.refl ok.st (r _ _)
def ax{i:Int}{j pos}:PE X (.Constant (.int i) j pos) (tD (md X) (cF (.int i))):=dU Lv λ_ _=>.int i
def JN{b:Bool}{j pos}:PE X (.Constant (.bool b) j pos) (tD (md X) (cF (.bl b))):=dU Np λ_ _=>.bl b
def mM{j pos}:PE X (.Constant .none j pos) (tD (md X) (cF .non)):=dU LP λ_ _=>.non
def bp{x:Str}{j pos}:PE X (.Constant (.str x) j pos) (tD (md X) (cF (.str x))):=dU Lc λ_ _=>.str x
noncomputable def c8(f:iH):bV:=λc S=>(f c S).bind λ(b,a)=>some (.ref a.length,a++ [.lst b])
def cN{e:Expr}{f:iH}(h:PE X e (tL (md X) f)):PE X e (tD (md X) (c8 f)):=lO h λA H Q t=>by
 obtain⟨v,k,S,d,z,ok,e,q⟩:=t
 unfold c8 at e
 cases j:f k S with
 |none=>rw[j] at e;cases e
 | some p=>
   obtain⟨n,m⟩:=p
   rw[j] at e
   obtain⟨rfl,rfl⟩:=da e
   refine⟨v,k,S,n,m,ok,j,λg a y u x l r o s w=> ?_⟩
   have i:=w.pre (List.prefix_append g [a])
   refine q (g++ [a]) (.ref a) u ⟨x.pre.trans (List.prefix_append _ _),λb c=> ?_,x.keep,x.grow⟩ (l.box o ⟨y,s,i⟩) (.ref ?_)
   · rcases mQa.mp c with c|c
     · exact x.new b c
     · rw[Qfq] at c;subst c;exact .inr r
   · rw[←l.len,QQq (Qmq _)]
     simp
noncomputable def ay:iH:=λ_ S=>some ([],S)
noncomputable def ar(f:bV)(g:iH):iH:=λa S=>(f a S).bind λ(d,c)=>(g a c).bind λ(e,b)=>some (d::e,b)
def aw{α c:Type}{o:Option α}{f:α->Option c}{b:c}(h:o.bind f=some b):∃a,o=some a/\f a=some b:=by
 cases o with
 |none=>cases h
 |some a=>exact⟨a,rfl,h⟩
def av:PA X [] (Bn (md X) ay):=OO hJ λc H Q a=>by
 obtain⟨b,g,S,d,f,ok,e,q⟩:=a
 cases e
 exact q b [] H cU.refl ok.st .nil
def aq{e:Expr}{a:List Expr}{f:bV}{g:iH}(s:PE X e (tD (md X) f))(t:PA X a (Bn (md X) g))(r:starEach (e::a) X.env=(false,eval e X.env)::starEach a X.env:=by rfl):PA X (e::a) (Bn (md X) (ar f g)):=
 OO (eG s t r) λF H Q w=>by
  obtain⟨y,k,S,d,C,ok,e,q⟩:=w
  obtain⟨⟨x,j⟩,z,e⟩:=aw e
  obtain⟨⟨u,p⟩,o,e⟩:=aw e
  obtain⟨rfl,rfl⟩:=da e
  refine⟨y,k,S,x,j,ok,z,λh v H1 m c n=>⟨h,k,j,u,p,ok.to m c,o,λb A H2 l i B=> ?_⟩⟩
  exact q b (v::A) H2 (m.trans l) i (.cons (n.ext l) B)
noncomputable def bc(f:iH):bV:=λc S=>(f c S).bind λ(a,b)=>if a.length<=sizeLine then some (.tup a,b) else none
def aS{i:List Expr}{f:iH}{k pos}(h:PA X i (Bn (md X) f)):PE X (.Tuple i k pos) (tD (md X) (bc f)):=lO (Lf h) λv H Q o=>by
 obtain⟨r,n,S,d,u,ok,e,q⟩:=o
 obtain⟨⟨m,l⟩,t,e⟩:=aw e
 dsimp only at e
 split at e
 ·rename_i c
  obtain⟨rfl,rfl⟩:=da e
  refine⟨r,n,S,m,l,ok,t,λg w H1 s a j=>⟨j.length▸c,λp b=> ?_⟩⟩
  exact q g (.ref p) _ (s.trans (cU.laid b)) (a.lay b) (.tup cA (j.ext (cU.laid b)))
 ·cases e
noncomputable def cp(f:iH):iH:=λc S=>(f c S).bind λ(a,b)=>if a.length<=sizeLine then some (a,b) else none
def eQ{M:Md}{ρ a:List Addr}{S:aL}{H c:Hp}{p:Addr}(x:cU ρ H a c)(st:g9 M a S c)(b:c p=none):p∉a:=λm=>by
 obtain⟨k,f⟩:=List.getElem?_of_mem m
 have l:k<S.length:=st.len▸(gQs.mp f).1
 have:=st.obj k p _ f (gQe l)
 cases e:S[k] with
 |lst d=>rw[e] at this;obtain⟨g,h,_⟩:=this;rw[b] at h;cases h
 |frz d=>rw[e] at this;obtain⟨g,o,h,_⟩:=this;rw[b] at h;cases h
 |dct d=>rw[e] at this;obtain⟨g,h,_⟩:=this;rw[b] at h;cases h
def df{j:List Expr}{f:iH}{pos}(h:PA X j (Bn (md X) f)):PE X (.List j pos) (tL (md X) (cp f)):=lO (LB h) λv H Q o=>by
 obtain⟨r,n,S,d,u,ok,e,q⟩:=o
 obtain⟨⟨m,l⟩,s,e⟩:=aw e
 dsimp only at e
 split at e
 ·rename_i c
  obtain⟨rfl,rfl⟩:=da e
  refine⟨r,n,S,m,l,ok,s,λg t H1 i a k=>⟨k.length▸c,λp b=> ?_⟩⟩
  exact q g p t _ (i.trans (cU.laid b)) (a.lay b) (i.grow p b) (eQ i a b) cA (k.ext (cU.laid b))
 ·cases e
end
section
variable{X:Cx}{a b c e:Expr}{pos:Pos}
def Gz:lN X (binaryOp .Add) (λx y H Q=>∃a b ys,x=.ref a/\y=.ref b/\jy X.K H a []/\jy X.K H b ys/\Q (.ref b) H):=by
 intro r s R H x y v u Q I N P h
 obtain⟨a,b,ys,rfl,rfl,ha,m,q⟩:=h
 cases N
 cases P
 obtain⟨M,A,J,_⟩:=I.tuple ha
 obtain⟨g,S,m,_⟩:=I.tuple m
 cases A
 obtain⟨⟨G,C,w,B⟩,p,z,n,o⟩:=id J
 obtain⟨⟨t,l,k,j⟩,d,i,L,f⟩:=id m
 simp only at z o i f
 subst z o i f
 exact concat_meets ⟨_,p,rfl⟩ ⟨_,d,rfl⟩ noFill_tuple_add seq_tuple_add PySem.F.slot_tuple_add PySem.F.entry_tuple_add (PySem.F.args_tuple_add_2 _ _)
   (tuple_addW0 a b _ g.toArray n L C l B j (by simp)) ⟨p,d,.ref b,H,I,rfl,q⟩
abbrev v9:=aL->D->D->Option D
def mR(M:Md)(r:R2)(o:v9):Prop:=∀{f:List Addr} {S:aL} {H:Hp} {x y d:D} {u v:V} {Q:VK},g9 M f S H->Rel M f H x u->Rel M f H y v->o S x y=some d->(∀w g,cU f H f g->g9 M f S g->Rel M f g d w->Q w g)->r u v H Q
noncomputable def aI(o:v9)(f g:bV):bV:=λi S=>(f i S).bind λ(x,j)=>(g i j).bind λ(y,h)=>(o h x y).bind λd=>some (d,h)
def sJ{r:R2}{o:v9}{f g:bV}(z:mR (md X) r o)(h:PE X e (Ka r (tD (md X) f) (tD (md X) g))):PE X e (tD (md X) (aI o f g)):=lO h λR H Q I=>by
 obtain⟨J,p,S,d,P,ok,e,q⟩:=I
 obtain⟨⟨x,n⟩,K,e⟩:=aw e
 obtain⟨⟨y,C⟩,B,e⟩:=aw e
 obtain⟨N,u,e⟩:=aw e
 obtain⟨rfl,rfl⟩:=da e
 refine⟨J,p,S,x,n,ok,K,λl v H1 t k A=>⟨l,p,n,y,C,ok.to t k,B,λj w H2 s m M=> ?_⟩⟩
 exact z m (A.ext s) M u λL H3 F i G=>q j L H3 ((t.trans s).trans F) i G
noncomputable def b_:v9:=λ_ x y=>match x,y with
 |.int i,.int j=>some (.int (i+j))
 |.str i,.str j=>if i.length+j.length<=sizeLine then some (.str (i++j)) else none
 |.tup i,.tup j=>if i.length+j.length<=sizeLine then some (.tup (i++j)) else none
 |_,_=>none
abbrev Nq(K:PySem.W.Frag):R2:=λx y H Q=>(∃i j,x=.int i/\y=.int j/\Q (.int (i+j)) H)\/(∃i j,x=.str i/\y=.str j/\i.length+j.length<=sizeLine/\Q (.str (i++j)) H)∨
 (∃a b d,x=.ref a/\y=.ref b/\jy K H a []/\jy K H b d/\Q (.ref b) H)\/J7 K x y H Q
def Jm:lN X (binaryOp .Add) (Nq X.K):=Km.or (Cm.or (Gz.or IY))
def Le{M:Md}:mR M (Nq M.K) b_:=by
 intro w S H x y d u v Q f r n e q
 cases r with
 |int i=>cases n <;>simp only[b_,reduceCtorEq] at e;cases e;exact .inl ⟨_,_,rfl,rfl,q _ _ cU.refl f (.int _)⟩
 | str i=>
   cases n <;>simp only[b_,reduceCtorEq] at e
   split at e <;>cases e
   exact .inr (.inl ⟨_,_,rfl,rfl,by assumption,q _ _ cU.refl f (.str _)⟩)
 | tup l g=>
   cases n with
   | tup k j=>
     simp only[b_] at e
     split at e <;>cases e
     rename_i s
     have o:=g.length
     have t:=j.length
     cases g with
     |nil=>exact .inr (.inr (.inl ⟨_,_,_,rfl,rfl,jy.of l,jy.of k,q _ _ cU.refl f (.tup k j)⟩))
     | cons g h=>
       refine .inr (.inr (.inr ⟨_,_,_,_,rfl,rfl,jy.of l,jy.of k,by simp,by rw[←o,←t];exact s,λz=> ?_,λz p m=> ?_⟩))
       · subst z
         cases j
         rw[List.append_nil] at q
         exact q _ _ cU.refl f (.tup l (.cons g h))
       · exact q _ _ (cU.laid m) (f.lay m) (.tup cA ((bC.append (.cons g h) j).ext (cU.laid m)))
   |_=>simp only[b_,reduceCtorEq] at e
 |_=>simp only[b_,reduceCtorEq] at e
def bS{f g:bV}(d:PE X a (tD (md X) f))(h:PE X b (tD (md X) g)):PE X (.BinOp a .Add b pos) (tD (md X) (aI b_ f g)):=sJ Le (rN Jm d h)
noncomputable def intD(C:Int->Int->Prop)[∀i j,Decidable (C i j)](k:Int->Int->D):v9:=λ_ x y=>match x,y with
 |.int i,.int j=>if C i j then some (k i j) else none
 |_,_=>none
def zA{M:Md}{C:Int->Int->Prop}[∀i j,Decidable (C i j)]{k:Int->Int->D}{g:Int->Int->V}(f:∀i j ρ H,Rel M ρ H (k i j) (g i j)):mR M (rI C g) (intD C k):=by
 intro ρ S H x y d u v Q l h m e q
 cases h <;>cases m <;>simp only[intD,reduceCtorEq] at e
 split at e <;>cases e
 exact⟨_,_,rfl,rfl,by assumption,q _ _ cU.refl l (f _ _ _ _)⟩
def p7{M:Md}{k:Int->Int->D}{g:Int->Int->V}(f:∀i j ρ H,Rel M ρ H (k i j) (g i j)):mR M (Fq g) (intD (λ_ _=>True) k):=by
 intro ρ S H x y d u v Q l h m e q
 cases h <;>cases m <;>simp only[intD,reduceCtorEq] at e
 rw[Qhq trivial] at e
 cases e
 exact⟨_,_,rfl,rfl,q _ _ cU.refl l (f _ _ _ _)⟩
instance{i j:Int}:Decidable (Gk i j):=by unfold Gk;infer_instance
instance{i j:Int}:Decidable (HR i j):=by unfold HR;infer_instance
open Classical in
noncomputable instance{i j:Int}:Decidable (IntMulOk i j):=Classical.propDecidable _
noncomputable abbrev nc:v9:=intD (λ_ _=>True) λi j=>.int (i-j)
noncomputable abbrev oS:v9:=intD IntMulOk λi j=>.int (i*j)
noncomputable abbrev sV:v9:=intD (λ_ j=>0<j) λi j=>.int (i%j)
noncomputable abbrev Be:v9:=intD Gk λi j=>.int (i/j)
noncomputable abbrev yn:v9:=intD HR λi j=>.int (i^j.toNat)
def vZ{f g:bV}(d:PE X a (tD (md X) f))(h:PE X b (tD (md X) g)):PE X (.BinOp a .Sub b pos) (tD (md X) (aI nc f g)):=sJ (p7 λi j _ _=>.int _) (rN LL d h)
def vE{f g:bV}(d:PE X a (tD (md X) f))(h:PE X b (tD (md X) g)):PE X (.BinOp a .Mult b pos) (tD (md X) (aI oS f g)):=sJ (zA λi j _ _=>.int _) (rN JE d h)
def uV{f g:bV}(d:PE X a (tD (md X) f))(h:PE X b (tD (md X) g)):PE X (.BinOp a .Mod b pos) (tD (md X) (aI sV f g)):=sJ (zA λi j _ _=>.int _) (rN K_ d h)
def Gu{f g:bV}(d:PE X a (tD (md X) f))(h:PE X b (tD (md X) g)):PE X (.BinOp a .FloorDiv b pos) (tD (md X) (aI Be f g)):=sJ (zA λi j _ _=>.int _) (rN Ji d h)
def F6{f g:bV}(d:PE X a (tD (md X) f))(h:PE X b (tD (md X) g)):PE X (.BinOp a .Pow b pos) (tD (md X) (aI yn f g)):=sJ (zA λi j _ _=>.int _) (rN KB d h)
noncomputable def wI(f:bV):bV:=λh S=>(f h S).bind λ(d,g)=>match d with
 |.int i=>some (.int (-i),g)
 |_=>none
def vt{f:bV}(k:PE X a (tD (md X) f)):PE X (.UnaryOp .USub a pos) (tD (md X) (wI f)):=lO (Mg Ko k) λs H Q l=>by
 obtain⟨n,j,S,d,r,ok,e,q⟩:=l
 obtain⟨⟨x,h⟩,p,e⟩:=aw e
 dsimp only at e
 split at e
 ·obtain⟨rfl,rfl⟩:=da e
  refine⟨n,j,S,_,h,ok,p,λm v H1 o g i=> ?_⟩
  cases i
  exact⟨_,rfl,q _ _ _ o g (.int _)⟩
 ·cases e
noncomputable def yi:D->Option V
 |.non=>some .non
 |.bl b=>some (.bl b)
 |.int i=>some (.int i)
 |.str x=>some (.str x)
 |_=>none
def oq{M:Md}{ρ:List Addr}{H:Hp}{d:D}{u v:V}(r:Rel M ρ H d u)(e:yi d=some v):u=v:=by
 cases r <;>simp[yi] at e <;>exact e
noncomputable def fB(d:Bool):v9:=λ_ x y=>match yi x,yi y with
 |some u,some v=>if CB u v=true then some (.bl (if d then !decide (u=v) else decide (u=v))) else none
 |_,_=>none
def Ax{f:Bool}{S:aL}{x y d:D}(e:fB f S x y=some d):∃u v,yi x=some u/\yi y=some v/\CB u v=true/\d=.bl (if f then !decide (u=v) else decide (u=v)):=by
 unfold fB at e
 split at e
 ·split at e <;>cases e
  exact⟨_,_,by assumption,by assumption,by assumption,rfl⟩
 ·cases e
def cO{M:Md}:mR M Ov (fB false):=by
 intro m S H x y d u v Q h f k e q
 obtain⟨n,l,j,i,g,rfl⟩:=Ax e
 cases oq f j
 cases oq k i
 exact⟨g,q _ _ cU.refl h (.bl _)⟩
def w6{M:Md}:mR M OL (fB true):=by
 intro m S H x y d u v Q h f k e q
 obtain⟨n,l,j,i,g,rfl⟩:=Ax e
 cases oq f j
 cases oq k i
 exact⟨g,q _ _ cU.refl h (.bl _)⟩
noncomputable abbrev Il:v9:=intD (λ_ _=>True) λi j=>.bl (decide (i<j))
noncomputable abbrev N6:v9:=intD (λ_ _=>True) λi j=>.bl (decide (i<=j))
noncomputable abbrev L4:v9:=intD (λ_ _=>True) λi j=>.bl (decide (j<i))
noncomputable abbrev Om:v9:=intD (λ_ _=>True) λi j=>.bl (decide (j<=i))
def rZ{M:Md}:mR M (Fq λi j=>.bl (decide (i<j))) Il:=p7 λi j _ _=>.bl _
def Nu{M:Md}:mR M (Fq λi j=>.bl (decide (i<=j))) N6:=p7 λi j _ _=>.bl _
def DU{M:Md}:mR M (Fq λi j=>.bl (decide (j<i))) L4:=p7 λi j _ _=>.bl _
def MQ{M:Md}:mR M (Fq λi j=>.bl (decide (j<=i))) Om:=p7 λi j _ _=>.bl _
noncomputable def isNone:D->Bool
 |.non=>true
 |_=>false
noncomputable def uF(d:Bool):v9:=λ_ x y=>match y with
 |.non=>some (.bl (if d then !isNone x else isNone x))
 |_=>none
def xI{M:Md}{ρ:List Addr}{H:Hp}{d:D}{u:V}(r:Rel M ρ H d u):decide (u=V.non)=isNone d:=by
 cases r <;>simp[isNone]
def HS{M:Md}:mR M (λx y H Q=>y=.non/\Q (.bl (decide (x=.non))) H) (uF false):=by
 intro i S H x y d u v Q g f h e q
 cases h <;>simp only[uF,reduceCtorEq] at e
 cases e
 rw[xI f]
 exact⟨rfl,q _ _ cU.refl g (.bl _)⟩
def tT{M:Md}:mR M (λx y H Q=>y=.non/\Q (.bl (!decide (x=.non))) H) (uF true):=by
 intro i S H x y d u v Q g f h e q
 cases h <;>simp only[uF,reduceCtorEq] at e
 cases e
 rw[xI f]
 exact⟨rfl,q _ _ cU.refl g (.bl _)⟩
def nQ{d:CmpOp}{r:R2}{o:v9}{f g:bV}(i:lN X (compareOp d) r)(j:mR (md X) r o)(h:PE X a (tD (md X) f))(k:PE X b (tD (md X) g))(l:behindInMarks d b=false):PE X (.Compare a [d] [b] pos) (tD (md X) (aI o f g)):=sJ j (IE i h k l)
noncomputable def aP(f:bV):kR:=λh S=>(f h S).bind λ(d,g)=>match d with
 |.bl k=>some (k,g)
 |_=>none
def uh{f:bV}{h:dw}{S g:aL}{k:Bool}(e:aP f h S=some (k,g)):f h S=some (.bl k,g):=by
 obtain⟨⟨d,j⟩,i,e⟩:=aw e
 dsimp only at e
 split at e
 ·cases e;exact i
 ·cases e
def Nf{r:R2}{o:v9}{f g:bV}(z:mR (md X) r o)(h:PT X e (GR (Ka r (tD (md X) f) (tD (md X) g)))):PT X e (tB (md X) (aP (aI o f g))):=NF h λP H Q I=>by
 obtain⟨J,p,S,d,N,ok,e,q⟩:=I
 have e:=uh e
 obtain⟨⟨x,n⟩,K,e⟩:=aw e
 obtain⟨⟨y,C⟩,B,e⟩:=aw e
 obtain⟨M,u,e⟩:=aw e
 obtain⟨rfl,rfl⟩:=da e
 refine⟨J,p,S,x,n,ok,K,λl v H1 t k A=>⟨l,p,n,y,C,ok.to t k,B,λj w H2 s m L=> ?_⟩⟩
 exact z m (A.ext s) L u λR H3 F i G=>by cases G;exact⟨_,rfl,q j H3 ((t.trans s).trans F) i⟩
def bN{d:CmpOp}{r:R2}{o:v9}{f g:bV}(i:lN X (compareOp d) r)(j:mR (md X) r o)(h:PE X a (tD (md X) f))(k:PE X b (tD (md X) g))(l:behindInMarks d b=false):PT X (.Compare a [d] [b] pos) (tB (md X) (aP (aI o f g))):=Nf j (tY i h k l)
noncomputable def BV(S:aL):D->Option Bool
 |.non=>some false
 |.bl b=>some b
 |.int i=>some (i !=0)
 |.str y=>if y.length<=sizeLine then some ((y.length:Int) !=0) else none
 |.tup d=>some (!d.isEmpty)
 | .ref k=>match S[k]? with
   |some (.lst d)=>some (!d.isEmpty)
   |some (.dct d)=>some (!d.isEmpty)
   |_=>none
 |.fn _=>none
def bC.isEmpty{M:Md}{ρ:List Addr}{H:Hp}{ds:List D}{vs:List V}(h:bC M ρ H ds vs):ds.isEmpty=vs.isEmpty:=by cases h <;>rfl
theorem cY.isEmpty{M:Md}{ρ:List Addr}{H:Hp}{ds:List (Key×D)}{vs:List (Key×V)}(h:cY M ρ H ds vs):ds.isEmpty=vs.isEmpty:=by
 cases ds with
 |nil=>cases h;rfl
 |cons p r=>obtain⟨v,t,e,_⟩:=h;subst e;rfl
def Jh{M:Md}{ρ:List Addr}{S:aL}{H:Hp}{d:D}{u:V}{k:Bool}(st:g9 M ρ S H)(r:Rel M ρ H d u)(e:BV S d=some k):KQ M.K u H k:=by
 cases r with
 |non=>cases e;rfl
 |bl=>cases e;rfl
 |int=>cases e;rfl
 |str=>simp only[BV] at e;split at e <;>cases e;exact⟨by assumption,rfl⟩
 |tup h j=>cases e;exact .inr (.inl ⟨_,jy.of h,by rw[j.isEmpty]⟩)
 |fn=>cases e
 | ref h=>
   simp only[BV] at e
   split at e
   · cases e
     obtain⟨g,f,i⟩:=st.obj _ _ _ h (by assumption)
     exact .inl ⟨g,jN.of f,by rw[i.isEmpty]⟩
   · cases e
     obtain⟨g,f,i⟩:=st.obj _ _ _ h (by assumption)
     exact .inr (.inr ⟨g,f,by rw[i.isEmpty]⟩)
   · cases e
noncomputable def lM(f:bV):kR:=λh S=>(f h S).bind λ(d,g)=>(BV g d).bind λk=>some (k,g)
def jO{f:bV}(m:PE X a (tD (md X) f))(he:∀d,isTrue a X.env d=(do let v←d;standAt a.pos;holding [v] (truthy v)):=by intro _;rfl):PT X a (tB (md X) (lM f)):=NF (H_ m he) λw H Q o=>by
 obtain⟨r,j,S,k,u,ok,e,q⟩:=o
 obtain⟨⟨x,h⟩,t,e⟩:=aw e
 obtain⟨n,l,e⟩:=aw e
 obtain⟨rfl,rfl⟩:=da e
 exact⟨r,j,S,x,h,ok,t,λp v H1 s g i=>⟨n,Jh g i l,q _ _ s g⟩⟩
noncomputable def AU(f:kR):kR:=λg S=>(f g S).bind λ(k,d)=>some (!k,d)
def BB{f:kR}(j:PT X a (tB (md X) f)):PT X (.UnaryOp .Not a pos) (tB (md X) (AU f)):=NF (LI j) λs H Q l=>by
 obtain⟨n,h,S,k,r,ok,e,q⟩:=l
 obtain⟨⟨i,g⟩,p,e⟩:=aw e
 obtain⟨rfl,rfl⟩:=da e
 exact⟨n,h,S,i,g,ok,p,λm H1 o d=>q _ _ o d⟩
noncomputable def jo(f g:kR):kR:=λh S=>(f h S).bind λ(k,d)=>if k=true then g h d else some (false,d)
noncomputable def Ke(f g:kR):kR:=λh S=>(f h S).bind λ(k,d)=>if k=true then some (true,d) else g h d
def gR{f:kR}(d:PT X a (tB (md X) f)):PW X (.BoolOp .And [a] pos) (tB (md X) f):=Iu d
def Dl{f:kR}(d:PT X a (tB (md X) f)):PW X (.BoolOp .Or [a] pos) (tB (md X) f):=K0 d
def w_and{d:List Expr}{f g:kR}(t:PT X a (tB (md X) f))(w:PW X (.BoolOp .And (b::d) pos) (tB (md X) g)):PW X (.BoolOp .And (a::b::d) pos) (tB (md X) (jo f g)):=Oz (LN t w) λy H Q u=>by
 obtain⟨v,n,S,k,p,ok,e,q⟩:=u
 obtain⟨⟨o,m⟩,x,e⟩:=aw e
 refine⟨v,n,S,o,m,ok,x,λi H1 l h=> ?_⟩
 dsimp only at e
 split at e
 ·rename_i c
  rw[Qhq c]
  exact⟨i,n,m,k,p,ok.to l h,e,λs H2 r j=>q _ _ (l.trans r) j⟩
 ·rename_i c
  rw[Quq c]
  obtain⟨rfl,rfl⟩:=da e
  exact q _ _ l h
def w_or{d:List Expr}{f g:kR}(t:PT X a (tB (md X) f))(w:PW X (.BoolOp .Or (b::d) pos) (tB (md X) g)):PW X (.BoolOp .Or (a::b::d) pos) (tB (md X) (Ke f g)):=Oz (ME t w) λy H Q u=>by
 obtain⟨v,n,S,k,p,ok,e,q⟩:=u
 obtain⟨⟨o,m⟩,x,e⟩:=aw e
 refine⟨v,n,S,o,m,ok,x,λi H1 l h=> ?_⟩
 dsimp only at e
 split at e
 ·rename_i c
  rw[Qhq c]
  obtain⟨rfl,rfl⟩:=da e
  exact q _ _ l h
 ·rename_i c
  rw[Quq c]
  exact⟨i,n,m,k,p,ok.to l h,e,λs H2 r j=>q _ _ (l.trans r) j⟩
noncomputable def wx(f g:bV):bV:=λi S=>(f i S).bind λ(d,h)=>match d with
 |.bl true=>g i h
 |.bl false=>some (.bl false,h)
 |_=>none
noncomputable def Jv(f:bV):bV:=λh S=>(f h S).bind λ(d,g)=>match d with
 |.bl k=>some (.bl (!k),g)
 |_=>none
def Dr{op}{f:bV}(h:PE X a (tD (md X) f)):PE X (.BoolOp op [a] pos) (tD (md X) f):=Ln h
def zT{h:List Expr}{f g:bV}(t:PE X a (tD (md X) f))(z:PE X (.BoolOp .And (b::h) pos) (tD (md X) g)):PE X (.BoolOp .And (a::b::h) pos) (tD (md X) (wx f g)):=lO (KR t z) λC H Q u=>by
 obtain⟨y,o,S,d,p,ok,e,q⟩:=u
 obtain⟨⟨x,m⟩,A,e⟩:=aw e
 refine⟨y,o,S,x,m,ok,A,λj v H1 l i n=> ?_⟩
 dsimp only at e
 split at e
 ·cases n
  refine⟨_,rfl,?_⟩
  rw[Qhq rfl]
  exact⟨j,o,m,d,p,ok.to l i,e,λs w H2 r k B=>q _ _ _ (l.trans r) k B⟩
 ·cases n
  refine⟨_,rfl,?_⟩
  rw[Quq Qtq]
  obtain⟨rfl,rfl⟩:=da e
  exact q _ _ _ l i (.bl _)
 ·cases e
def Mz{f:bV}(k:PE X a (tD (md X) f)):PE X (.UnaryOp .Not a pos) (tD (md X) (Jv f)):=lO (Lj k) λs H Q l=>by
 obtain⟨n,j,S,d,r,ok,e,q⟩:=l
 obtain⟨⟨x,h⟩,p,e⟩:=aw e
 refine⟨n,j,S,x,h,ok,p,λm v H1 o g i=> ?_⟩
 dsimp only at e
 split at e
 ·cases i
  obtain⟨rfl,rfl⟩:=da e
  exact⟨_,rfl,q _ _ _ o g (.bl _)⟩
 ·cases e
noncomputable def vA(c:kR)(f g:bV):bV:=λd S=>(c d S).bind λ(k,h)=>if k=true then f d h else g d h
def uk{h:kR}{f g:bV}(v:PT X c (tB (md X) h))(u:PE X a (tD (md X) f))(z:PE X b (tD (md X) g)):PE X (.IfExp c a b pos) (tD (md X) (vA h f g)):=lO (G3 v u z) λB H Q x=>by
 obtain⟨y,n,S,d,s,ok,e,q⟩:=x
 obtain⟨⟨t,m⟩,A,e⟩:=aw e
 refine⟨y,n,S,t,m,ok,A,λk H1 l j=> ?_⟩
 dsimp only at e
 split at e
 ·rename_i c
  rw[Qhq c]
  exact⟨k,n,m,d,s,ok.to l j,e,λp w H2 o i r=>q _ _ _ (l.trans o) i r⟩
 ·rename_i c
  rw[Quq c]
  exact⟨k,n,m,d,s,ok.to l j,e,λp w H2 o i r=>q _ _ _ (l.trans o) i r⟩
noncomputable def bg:v9:=λS x y=>match x,y with
 |.tup xs,.int i=>lL xs i
 |.str z,.int i=>if z.length<=sizeLine then(lL z.cps.toList i).map λc=>.str ⟨#[c]⟩ else none
 | .ref k,.int i=>match S[k]? with
   |some (.lst xs)=>lL xs i
   |some (.frz xs)=>lL xs i
   |_=>none
 |_,_=>none
def Jf{α f:Type}{xs:List α}{ys:List f}{i:Int}{x:α}(h:lL xs i=some x)(l:xs.length=ys.length):∃j:Nat,xs[j]?=some x/\∀y,ys[j]?=some y->lL ys i=some y:=by
 unfold lL at h
 obtain⟨j,e,h⟩:=aw h
 exact⟨j,h,λy d=>by unfold lL;rw[←l,e];exact d⟩
def bC.atI{M:Md}{ρ:List Addr}{H:Hp}{ds:List D}{vs:List V}{i:Int}{d:D}(h:bC M ρ H ds vs)(e:L2.lL ds i=some d):∃v,L2.lL vs i=some v/\Rel M ρ H d v:=by
 obtain⟨j,g,l⟩:=Jf e h.length
 obtain⟨v,k,f⟩:=h.get g
 exact⟨v,l v k,f⟩
def ML{M:Md}:mR M (Oy M.K) bg:=by
 intro r S H x y d u v Q i l p e q
 cases p <;>cases l <;>simp only[bg,reduceCtorEq] at e
 ·split at e
  ·obtain⟨c,g,f⟩:=oQm.mp e
   subst f
   exact .inr (.inr ⟨_,_,c,rfl,rfl,by assumption,g,q _ _ cU.refl i (.str _)⟩)
  ·cases e
 ·rename_i h m
  obtain⟨v,g,f⟩:=m.atI e
  exact .inr (.inl ⟨_,_,_,v,rfl,rfl,jy.of h,g,q _ _ cU.refl i f⟩)
 ·rename_i h
  split at e
  ·obtain⟨n,j,k⟩:=i.obj _ _ _ h (by assumption)
   obtain⟨v,g,f⟩:=k.atI e
   exact .inl ⟨_,_,_,v,rfl,rfl,jN.of j,g,q _ _ cU.refl i f⟩
  ·obtain⟨n,o,j,k⟩:=i.obj _ _ _ h (by assumption)
   obtain⟨v,g,f⟩:=k.atI e
   exact .inl ⟨_,_,_,v,rfl,rfl,.inl (.inr ⟨o,j⟩),g,q _ _ cU.refl i f⟩
  ·cases e
def aJ{f g:bV}(d:PE X a (tD (md X) f))(i:PE X b (tD (md X) g))(h:D_ b:=by intro _ _;rfl):PE X (.Subscript a b pos) (tD (md X) (aI bg f g)):=sJ ML (Mw Ll d i h)
end
inductive Tag where
 |tu|fr|st (k:Nat)|fz (k:Nat)
def B5(M:Md)(ρ:List Addr)(H:Hp)(a:Addr)(vs:List V):Tag->Prop
 |.tu=>jy M.K H a vs
 |.fr=>H a=some (.lst vs)/\a∉ρ
 |.st k=>ρ[k]?=some a/\H a=some (.lst vs)
 |.fz k=>ρ[k]?=some a/\∃o,H a=some (.frz o (.lst vs))
abbrev gu:=dw->aL->Option ((List D×Tag)×aL)
def tQ(M:Md)(f:gu):TE:=λj H Q=>∃e h S d t g,Ok M e h S j H/\f h S=some ((d,t),g)∧
 ∀b a i c,cU e H b c->g9 M b g c->B5 M b c a i t->bC M b c d i->Q (.ref a) c
def B5.sq{M:Md}{ρ:List Addr}{H:Hp}{a:Addr}{vs:List V}{t:Tag}(h:B5 M ρ H a vs t):jN M.K H a vs\/jy M.K H a vs:=by
 cases t with
 |tu=>exact .inr h
 |fr=>exact .inl (jN.of h.1)
 |st k=>exact .inl (jN.of h.2)
 |fz k=>obtain⟨_,o,h⟩:=h;exact .inl (.inl (.inr ⟨o,h⟩))
noncomputable def Tag.isL:Tag->Bool
 |.tu=>false
 |_=>true
noncomputable def Tag.isM:Tag->Bool
 |.fr=>true
 |.st _=>true
 |_=>false
def B5.sqL{M:Md}{ρ:List Addr}{H:Hp}{a:Addr}{vs:List V}{t:Tag}(h:B5 M ρ H a vs t)(c:t.isL=true):jN M.K H a vs:=by
 cases t with
 |tu=>cases c
 |fr=>exact jN.of h.1
 |st k=>exact jN.of h.2
 |fz k=>obtain⟨_,o,h⟩:=h;exact .inl (.inr ⟨o,h⟩)
def B5.sqM{M:Md}{ρ:List Addr}{H:Hp}{a:Addr}{vs:List V}{t:Tag}(h:B5 M ρ H a vs t)(c:t.isM=true):H a=some (.lst vs):=by
 cases t with
 |tu=>cases c
 |fr=>exact h.1
 |st k=>exact h.2
 |fz k=>cases c
def B5.sqT{M:Md}{ρ:List Addr}{H:Hp}{a:Addr}{vs:List V}{t:Tag}(h:B5 M ρ H a vs t)(c:t.isL=false):jy M.K H a vs:=by
 cases t with
 |tu=>exact h
 |fr=>cases c
 |st k=>cases c
 |fz k=>cases c
def Tag.stays(S:aL)(ds:List D):Tag->Prop
 |.st k=>S[k]?=some (.lst ds)
 |.fz k=>S[k]?=some (.frz ds)
 |_=>True
def jy.ext{K:PySem.W.Frag}{ρ b:List Addr}{H c:Hp}{a:Addr}{vs:List V}(e:cU ρ H b c)(h:jy K H a vs):jy K c a vs:=by
 rcases h with(h|⟨o,h⟩)|h
 ·exact .inl (.inl (e.keep _ _ h (.inr trivial)))
 ·exact .inl (.inr ⟨o,e.keep _ _ h (.inr trivial)⟩)
 ·exact .inr h
def B5.to{M:Md}{ρ d:List Addr}{S:aL}{H i:Hp}{a:Addr}{vs:List V}{ds:List D}{t:Tag}(h:B5 M ρ H a vs t)(r:bC M ρ H ds vs)(e:cU ρ H d i)(st:g9 M d S i)(c:t.stays S ds):∃b,B5 M d i a b t/\bC M d i ds b:=by
 cases t with
 |tu=>exact⟨vs,jy.ext e h,r.ext e⟩
 |fr=>exact⟨vs,⟨e.keep _ _ h.1 (.inl h.2),λm=>(e.new a m).elim h.2 λz=>by have f:=h.1;rw[z] at f;cases f⟩,r.ext e⟩
 | st k=>
   have g:=dF e.pre h.1
   obtain⟨b,f,j⟩:=st.obj k a _ g c
   exact⟨b,⟨g,f⟩,j⟩
 | fz k=>
   have g:=dF e.pre h.1
   obtain⟨b,o,f,j⟩:=st.obj k a _ g c
   exact⟨b,⟨g,o,f⟩,j⟩
section
variable{X:Cx}{a b c e:Expr}{pos:Pos}
noncomputable def iV(f:iH):gu:=λh S=>(f h S).bind λ(g,d)=>some ((g,.fr),d)
def j9{f:iH}(h:PE X e (tL (md X) f)):PE X e (tQ (md X) (iV f)):=lO h λy H Q n=>by
 obtain⟨p,i,S,u,t,v,ok,e,q⟩:=n
 obtain⟨⟨d,g⟩,r,e⟩:=aw e
 obtain⟨j,rfl⟩:=da e
 obtain⟨rfl,rfl⟩:=Prod.mk.inj j
 exact⟨p,i,S,d,g,ok,r,λo a A z x k w l m s=>q _ _ _ _ x k ⟨m,l⟩ s⟩
noncomputable def pz(S:aL):D->Option (List D×Tag)
 |.tup d=>some (d,.tu)
 | .ref k=>match S[k]? with
   |some (.lst d)=>some (d,.st k)
   |some (.frz d)=>some (d,.fz k)
   |_=>none
 |_=>none
noncomputable def bx(f:bV):gu:=λh S=>(f h S).bind λ(d,g)=>(pz g d).bind λp=>some (p,g)
def DF{M:Md}{ρ:List Addr}{S:aL}{H:Hp}{d:D}{v:V}{ds:List D}{t:Tag}(st:g9 M ρ S H)(r:Rel M ρ H d v)(e:pz S d=some (ds,t)):∃a vs,v=.ref a/\B5 M ρ H a vs t/\bC M ρ H ds vs:=by
 cases r with
 |tup h i=>simp only[pz] at e;cases e;exact⟨_,_,rfl,jy.of h,i⟩
 | ref h=>
   simp only[pz] at e
   split at e
   · rename_i q
     cases e
     obtain⟨vs,g,f⟩:=st.obj _ _ _ h q
     exact⟨_,vs,rfl,⟨h,g⟩,f⟩
   · rename_i q
     cases e
     obtain⟨vs,o,g,f⟩:=st.obj _ _ _ h q
     exact⟨_,vs,rfl,⟨h,o,g⟩,f⟩
   · cases e
 |_=>simp only[pz,reduceCtorEq] at e
def dM{f:bV}(h:PE X e (tD (md X) f)):PE X e (tQ (md X) (bx f)):=lO h λy H Q n=>by
 obtain⟨p,l,S,u,t,w,ok,e,q⟩:=n
 obtain⟨⟨d,i⟩,s,e⟩:=aw e
 obtain⟨⟨j,B⟩,m,e⟩:=aw e
 obtain⟨k,rfl⟩:=da e
 obtain⟨rfl,rfl⟩:=Prod.mk.inj k
 refine⟨p,l,S,d,i,ok,s,λo v z x g r=> ?_⟩
 obtain⟨a,A,rfl,h1,h2⟩:=DF g r m
 exact q _ _ _ _ x g h1 h2
def iD{f:gu}{p:Pos}(w:Gl X "len")(o:X.mg "len"=none)(n:PE X a (tQ (md X) f))(j:starEach [a] X.env= [(false,eval a X.env)]:=by rfl):
  PE X (.Call (.Name "len" p) [a] [] pos) (tD (md X) λi S=>(f i S).bind λ(p,g)=>some (.int p.1.length,g)):=
 lO (fc pV w o PySem.boot_len (eG n hJ j) (he:=j)) λA H Q s=>by
  obtain⟨v,i,S,d,z,ok,e,q⟩:=s
  obtain⟨⟨⟨l,t⟩,g⟩,y,e⟩:=aw e
  obtain⟨rfl,rfl⟩:=da e
  refine⟨v,i,S,l,t,g,ok,y,λu a k B x m h r=>⟨a,k,rfl,h.sq,?_⟩⟩
  have:=q _ (.int k.length) _ x m (by rw[←r.length];exact .int _)
  exact this
noncomputable def kh(f:gu):bV:=λg S=>(f g S).bind λ(p,d)=>some (.int p.1.length,d)
noncomputable def tupQ(f:gu):bV:=λg S=>(f g S).bind λ(p,d)=>some (.tup p.1,d)
def cC{f:gu}{p:Pos}(z:Gl X "tuple")(u:X.mg "tuple"=none)(s:PE X a (tQ (md X) f))(j:starEach [a] X.env= [(false,eval a X.env)]:=by rfl)(ht:∀i S ds t k,f i S=some ((ds,t),k)->t.isL=true):
  PE X (.Call (.Name "tuple" p) [a] [] pos) (tD (md X) (tupQ f)):=
 lO (j_ wF z u (by rfl) (eG s hJ j) (he:=j)) λB H Q v=>by
  obtain⟨y,i,S,d,k,ok,e,q⟩:=v
  obtain⟨⟨⟨ds,t⟩,n⟩,m,e⟩:=aw e
  obtain⟨rfl,rfl⟩:=da e
  refine⟨y,i,S,ds,t,n,ok,m,λw a A C x o h r=>⟨a,A,rfl,.inl ⟨h.sqL (ht _ _ _ _ _ m),λl g=> ?_⟩⟩⟩
  exact q _ _ _ (x.trans (cU.laid g)) (o.lay g) (.tup cA (r.ext (cU.laid g)))
def dA{f:iH}:∀g S ds t d,iV f g S=some ((ds,t),d)->t.isL=true:=λg S ds t d e=>by
 obtain⟨⟨h,i⟩,j,e⟩:=aw e
 cases e
 rfl
noncomputable def gk(f:gu):gu:=λg S=>(f g S).bind λ(p,d)=>if p.2.isL=true then some (p,d) else none
def fG{f:gu}:∀g S ds t d,gk f g S=some ((ds,t),d)->t.isL=true:=λg S ds t d e=>by
 obtain⟨⟨⟨h,k⟩,i⟩,j,e⟩:=aw e
 dsimp only at e
 split at e <;>cases e
 assumption
def uq{f:gu}(h:PE X e (tQ (md X) f)):PE X e (tQ (md X) (gk f)):=lO h λo H Q j=>by
 obtain⟨k,l,S,p,t,r,ok,e,q⟩:=j
 obtain⟨⟨⟨d,n⟩,g⟩,m,e⟩:=aw e
 dsimp only at e
 split at e
 ·obtain⟨i,rfl⟩:=da e
  obtain⟨rfl,rfl⟩:=Prod.mk.inj i
  exact⟨k,l,S,d,n,g,ok,m,q⟩
 ·cases e
noncomputable def Kp:List D->Option (List Bool)
 | []=>some []
 |.bl b::r=>(Kp r).bind λd=>some (b::d)
 |_::_=>none
theorem G9{M:Md}{ρ:List Addr}{H:Hp}:∀{ds:List D} {vs:List V} {bs:List Bool},bC M ρ H ds vs->Kp ds=some bs->vs=bs.map V.bl
 | [],_,_,h,e=>by cases h;cases e;rfl
 | d::ds,_,_,h,e=>by
   cases d with
   | bl b=>
     simp only[Kp] at e
     obtain⟨g,i,e⟩:=aw e
     cases e
     cases h with
     | cons h f=>
       cases h
       rw[G9 f i]
       rfl
   |_=>cases e
noncomputable def IH(f:gu):bV:=λg S=>(f g S).bind λ(p,d)=>if p.2.isL=true then(Kp p.1).bind λh=>some (.bl (h.all id),d) else none
def Nj{f:gu}{p:Pos}(s:X.calm=true)(z:Gl X "all")(u:X.mg "all"=none)(o:PE X a (tQ (md X) f))(g:starEach [a] X.env= [(false,eval a X.env)]:=by rfl):
  PE X (.Call (.Name "all" p) [a] [] pos) (tD (md X) (IH f)):=
 lO (fc (E1 s) z u (by rfl) (eG o hJ g) (he:=g)) λC H Q v=>by
  obtain⟨y,k,S,d,B,ok,e,q⟩:=v
  obtain⟨⟨⟨j,t⟩,i⟩,A,e⟩:=aw e
  dsimp only at e
  split at e
  ·rename_i c
   obtain⟨l,m,e⟩:=aw e
   obtain⟨rfl,rfl⟩:=da e
   refine⟨y,k,S,j,t,i,ok,A,λw a G F x n h r=>⟨a,l,rfl,?_,q _ _ _ x n (.bl _)⟩⟩
   rw[←G9 r m]
   exact h.sqL c
  ·cases e
noncomputable def Iw(S:aL)(T:String):D->Option Bool
 |.non=>some (T=="NoneType")
 |.bl _=>some (T=="bool" ||T=="int")
 |.int _=>some (T=="int")
 |.str _=>some (T=="str")
 |.tup _=>some (T=="tuple")
 | .ref k=>match S[k]? with
   |some (.lst _)=>some (T=="list")
   |some (.frz _)=>some (T=="list")
   |some (.dct _)=>some (T=="dict")
   |_=>none
 |.fn _=>none
def MD(K:PySem.W.Frag)(T:String):Prop:=(PySem.W.kitOne K (.type "NoneType") (.type T)=some (T=="NoneType"))/\(PySem.W.kitOne K (.type "bool") (.type T)=some (T=="bool" ||T=="int"))/\(PySem.W.kitOne K (.type "int") (.type T)=some (T=="int"))/\(PySem.W.kitOne K (.type "str") (.type T)=some (T=="str"))∧
 (PySem.W.kitOne K (.type "tuple") (.type T)=some (T=="tuple"))/\(PySem.W.kitOne K (.type "list") (.type T)=some (T=="list"))/\(PySem.W.kitOne K (.type "dict") (.type T)=some (T=="dict"))
noncomputable def nV(T:String)(f:bV):bV:=λh S=>(f h S).bind λ(d,g)=>(Iw g T d).bind λk=>some (.bl k,g)
def mQ{T:String}{l:Expr}{f:bV}{p:Pos}(z:MD X.K T)(U:Gl X "isinstance")(M:X.mg "isinstance"=none)(I:PE X a (tD (md X) f))(ht:PE X l (tC (.ty T)))(t:starEach [a,l] X.env= [(false,eval a X.env),(false,eval l X.env)]:=by rfl)(j:starEach [l] X.env= [(false,eval l X.env)]:=by rfl):
  PE X (.Call (.Name "isinstance" p) [a,l] [] pos) (tD (md X) (nV T f)):=
 lO (fc GV U M boot_isinstance (eG I (eG ht hJ j) (by rw[t,j])) (he:=by rw[t,j]) (hpl:=by rw[j];rfl)) λσ H Q N=>by
  obtain⟨R,A,S,d,Z,ok,e,q⟩:=N
  obtain⟨⟨C,y⟩,Y,e⟩:=aw e
  obtain⟨k,i,e⟩:=aw e
  obtain⟨rfl,rfl⟩:=da e
  obtain⟨G,B,J,F,L,u,W⟩:=z
  refine⟨R,A,S,C,y,ok,Y,λP v H' x s r=> ?_⟩
  have g:=q _ _ _ x s (.bl _)
  cases r with
  |non=>cases i;exact⟨_,_,_,_,rfl,.non,G,g⟩
  |bl=>cases i;exact⟨_,_,_,_,rfl,.bl _,B,g⟩
  |int=>cases i;exact⟨_,_,_,_,rfl,.int _,J,g⟩
  |str=>cases i;exact⟨_,_,_,_,rfl,.str _,F,g⟩
  |tup h t=>cases i;exact⟨_,_,_,_,rfl,.tup h,L,g⟩
  |fn=>cases i
  | ref h=>
    simp only[Iw] at i
    split at i
    · rename_i n;cases i;obtain⟨w,m,_⟩:=s.obj _ _ _ h n;exact⟨_,_,_,_,rfl,.lst m,u,g⟩
    · rename_i n;cases i;obtain⟨w,o,m,_⟩:=s.obj _ _ _ h n;exact⟨_,_,_,_,rfl,.frz m,u,g⟩
    · rename_i n;cases i;obtain⟨w,m,_⟩:=s.obj _ _ _ h n;exact⟨_,_,_,_,rfl,.dK m,W,g⟩
    · cases i
abbrev Kf:=List D->Option D
def Hz(M:Md)(r:List V->Hp->VK->Prop)(o:Kf):Prop:=∀{f:List Addr} {S:aL} {H:Hp} {h:List D} {d:D} {g:List V} {Q:VK},g9 M f S H->bC M f H h g->o h=some d->(∀w,Rel M f H d w->Q w H)->r g H Q
noncomputable def Bw(o:Kf)(f:iH):bV:=λi S=>(f i S).bind λ(h,g)=>(o h).bind λd=>some (d,g)
def wz{r:List V->Hp->VK->Prop}{o:Kf}{f:iH}(l:Hz (md X) r o)(h:PE X e (Ny r (Bn (md X) f))):PE X e (tD (md X) (Bw o f)):=lO h λA H Q t=>by
 obtain⟨u,n,S,d,z,ok,e,q⟩:=t
 obtain⟨⟨p,j⟩,x,e⟩:=aw e
 obtain⟨y,k,e⟩:=aw e
 obtain⟨rfl,rfl⟩:=da e
 exact⟨u,n,S,p,j,ok,x,λi B H1 v g m=>l g m k λw s=>q i w H1 v g s⟩
noncomputable def Jg:Kf
 | [.int i]=>some (.int (if i<0 then -i else i))
 |_=>none
noncomputable def maxD:Kf
 | [.int i,.int j]=>some (.int (if j>i then j else i))
 |_=>none
noncomputable def minD:Kf
 | [.int i,.int j]=>some (.int (if j<i then j else i))
 |_=>none
noncomputable def intOfD:Kf
 | [.int i]=>some (.int i)
 | [.bl k]=>some (.int (if k then 1 else 0))
 |_=>none
def KO{M:Md}:Hz M (λxs H Q=>∃i,xs= [.int i]/\Q (.int (if i<0 then -i else i)) H) Jg:=by
 intro h S H xs d g Q j r e q
 unfold Jg at e
 split at e <;>cases e
 cases r with|cons r f=>cases f;cases r;exact⟨_,rfl,q _ (.int _)⟩
def GU{M:Md}:Hz M (λxs H Q=>∃i j,xs= [.int i,.int j]/\Q (.int (if j>i then j else i)) H) maxD:=by
 intro k S H xs d h Q l r e q
 unfold maxD at e
 split at e <;>cases e
 cases r with|cons r f=>cases f with|cons g f=>cases f;cases r;cases g;exact⟨_,_,rfl,q _ (.int _)⟩
def Cv{M:Md}:Hz M (λxs H Q=>∃i j,xs= [.int i,.int j]/\Q (.int (if j<i then j else i)) H) minD:=by
 intro k S H xs d h Q l r e q
 unfold minD at e
 split at e <;>cases e
 cases r with|cons r f=>cases f with|cons g f=>cases f;cases r;cases g;exact⟨_,_,rfl,q _ (.int _)⟩
def pW{M:Md}:Hz M (λxs H Q=>(∃i,xs= [.int i]/\Q (.int i) H)\/∃k,xs= [.bl k]/\Q (.int (if k then 1 else 0)) H) intOfD:=by
 intro h S H xs d g Q j r e q
 unfold intOfD at e
 split at e <;>cases e
 ·cases r with|cons r f=>cases f;cases r;exact .inl ⟨_,rfl,q _ (.int _)⟩
 ·cases r with|cons r f=>cases f;cases r;exact .inr ⟨_,rfl,q _ (.int _)⟩
noncomputable def pX:List D->Option (List V)
 | []=>some []
 |d::r=>(yi d).bind λv=>(pX r).bind λf=>some (v::f)
def uj{d:D}{v:V}(e:yi d=some v):iW v=true:=by
 cases d <;>simp[yi] at e <;>subst e <;>rfl
theorem uM{M:Md}{ρ:List Addr}{H:Hp}:∀{ds:List D} {d vs:List V},bC M ρ H ds d->pX ds=some vs->d=vs/\vs.all iW=true
 |_,_,_,.nil,e=>by cases e;exact⟨rfl,rfl⟩
 | _,_,_,.cons h hs,e=>by
   obtain⟨v,f,e⟩:=aw e
   obtain⟨vs,i,e⟩:=aw e
   cases e
   obtain⟨g,j⟩:=uM hs i
   rw[oq h f,g]
   exact⟨rfl,by rw[List.all_cons,uj f,j];rfl⟩
noncomputable def zr(d:Bool)(f:bV)(g:gu):bV:=λh S=>(f h S).bind λ(x,k)=>(g h k).bind λ(p,j)=>(yi x).bind λv=>(pX p.1).bind λi=>some (.bl (if d then !FR v i else FR v i),j)
def Cp{f:bV}{t:TE}(j:∀σ H Q,tD (md X) f σ H Q->t σ H Q)(h:PT X e (GR t)):PT X e (tB (md X) (aP f)):=NF h λσ H Q ⟨g,l,S,k,i,ok,e,q⟩=>
 j _ _ _ ⟨g,l,S,.bl k,i,ok,uh e,λd v n x m r=>by cases r;exact⟨k,rfl,q _ _ x m⟩⟩
def J6{h:Bool}{f:bV}{g:gu}:∀σ H Q,tD (md X) (zr h f g) σ H Q->Ka (Oi X.K h) (tD (md X) f) (tQ (md X) g) σ H Q:=λσ H Q G=>by
 obtain⟨I,n,S,d,N,ok,e,q⟩:=G
 obtain⟨⟨x,l⟩,J,e⟩:=aw e
 obtain⟨⟨⟨p,t⟩,L⟩,w,e⟩:=aw e
 obtain⟨v,m,e⟩:=aw e
 obtain⟨P,z,e⟩:=aw e
 obtain⟨rfl,rfl⟩:=da e
 refine⟨I,n,S,x,l,ok,J,λj u H1 o i r=>⟨j,n,l,p,t,L,ok.to o i,w,λF a B H2 C k A M=> ?_⟩⟩
 cases oq r m
 obtain⟨s,y⟩:=uM M z
 subst s
 exact⟨a,B,rfl,A.sq,uj m,y,q _ _ _ (o.trans C) k (.bl _)⟩
def Bq{f:bV}{g:gu}(d:PE X a (tD (md X) f))(h:PE X b (tQ (md X) g))(i:behindInMarks .In b=false:=by rfl):PT X (.Compare a [.In] [b] pos) (tB (md X) (aP (zr false f g))):=Cp J6 (tY ED d h i)
def y6{f:bV}{g:gu}(d:PE X a (tD (md X) f))(h:PE X b (tQ (md X) g))(i:behindInMarks .NotIn b=false:=by rfl):PT X (.Compare a [.NotIn] [b] pos) (tB (md X) (aP (zr true f g))):=Cp J6 (tY zF d h i)
end
inductive Out where
 |nx (Γ:dw) (S:aL)|bk (Γ:dw) (S:aL)|ct (Γ:dw) (S:aL)|rt (d:D) (S:aL)|rl (ds:List D) (S:aL)
abbrev dm:=dw->aL->Option Out
def zk(M:Md)(ρ:List Addr)(H:Hp)(D:Ends):Out->Prop
 |.nx f g=>∀b e c,cU ρ H b c->Ok M b f g e c->D.nx e c
 |.bk f g=>∀b e c,cU ρ H b c->Ok M b f g e c->D.bk e c
 |.ct f g=>∀b e c,cU ρ H b c->Ok M b f g e c->D.ct e c
 |.rt d g=>∀b v c,cU ρ H b c->g9 M b g c->Rel M b c d v->D.rt v c
 |.rl i g=>∀b a h c,cU ρ H b c->g9 M b g c->H a=none->a∉b->c a=some (.lst h)->bC M b c i h->D.rt (.ref a) c
def zk.to{M:Md}{ρ d:List Addr}{H H1:Hp}{D:Ends}{o:Out}(h:zk M ρ H D o)(e:cU ρ H d H1):zk M d H1 D o:=by
 cases o with
 |nx=>exact λb c f x ok=>h _ _ _ (e.trans x) ok
 |bk=>exact λb c f x ok=>h _ _ _ (e.trans x) ok
 |ct=>exact λb c f x ok=>h _ _ _ (e.trans x) ok
 |rt=>exact λb v f x g r=>h _ _ _ (e.trans x) g r
 |rl=>exact λb a l f x g j i k r=>h _ _ _ _ (e.trans x) g (e.grow _ j) i k r
def tS(M:Md)(g:dm):TS:=λD c H=>∃a b S o,Ok M a b S c H/\g b S=some o/\zk M a H D o
section
variable{X:Cx}{a b c e:Expr}{pos:Pos}{st:Stmt}{rest body other:List Stmt}
noncomputable def fX:dm:=λd S=>some (.nx d S)
def bP:t8 X [] (tS (md X) fX):=Mi JV λD d H ⟨f,g,S,o,ok,e,q⟩=>by cases e;exact q _ _ _ cU.refl ok
noncomputable def aK(f g:dm):dm:=λi S=>(f i S).bind λo=>match o with
 |.nx d h=>g d h
 |o=>some o
def az{f g:dm}(n:PS X st (tS (md X) f))(m:t8 X rest (tS (md X) g)):t8 X (st::rest) (tS (md X) (aK f g)):=Mi (GL n m) λD v H p=>by
 obtain⟨r,l,S,o,ok,e,q⟩:=p
 obtain⟨j,t,e⟩:=aw e
 refine⟨r,l,S,j,ok,t,?_⟩
 cases j with
 |nx i k=>exact λh u H1 s d=>⟨h,i,k,o,d,e,q.to s⟩
 |bk=>cases e;exact q
 |ct=>cases e;exact q
 |rt=>cases e;exact q
 |rl=>cases e;exact q
def aG{f:dm}(d:PS X st (tS (md X) f)):t8 X [st] (tS (md X) f):=JM d
noncomputable def never:dm:=λ_ _=>none
def DB:PS X st (tS (md X) never):=Dd GX λD d H ⟨f,g,S,o,ok,e,q⟩=>by cases e
noncomputable def nE(f:bV):dm:=λd S=>(f d S).bind λ(_,g)=>some (.nx d g)
def c_{f:bV}(h:PE X e (tD (md X) f))(j:swapsWith e none pos.line X.env=pure false:=by rfl):PS X (.Expr e pos) (tS (md X) (nE f)):=Dd (JB h j) λD p H k=>by
 obtain⟨m,i,S,o,ok,e,q⟩:=k
 obtain⟨⟨d,g⟩,n,e⟩:=aw e
 cases e
 exact⟨m,i,S,d,g,ok,n,λl v s x st r=>q _ _ _ x (ok.to x st)⟩
noncomputable def cQ(f:bV):dm:=λh S=>(f h S).bind λ(d,g)=>some (.rt d g)
def aQ{f:bV}(h:PE X e (tD (md X) f)):PS X (.Return (some e) pos) (tS (md X) (cQ f)):=Dd (FY h) λD m H i=>by
 obtain⟨j,k,S,o,ok,e,q⟩:=i
 obtain⟨⟨d,g⟩,l,e⟩:=aw e
 cases e
 exact⟨j,k,S,d,g,ok,l,q⟩
noncomputable def GW(f:iH):dm:=λh S=>(f h S).bind λ(g,d)=>some (.rl g d)
def oE{f:iH}(h:PE X e (tL (md X) f)):PS X (.Return (some e) pos) (tS (md X) (GW f)):=Dd (FY h) λD m H i=>by
 obtain⟨j,k,S,o,ok,e,q⟩:=i
 obtain⟨⟨d,g⟩,l,e⟩:=aw e
 cases e
 exact⟨j,k,S,d,g,ok,l,q⟩
noncomputable def eU(c:kR)(f g:dm):dm:=λd S=>(c d S).bind λ(k,h)=>if k=true then f d h else g d h
def cB{h:kR}{f g:dm}(p:PT X c (tB (md X) h))(n:t8 X body (tS (md X) f))(t:t8 X other (tS (md X) g)):PS X (.If c body other pos) (tS (md X) (eU h f g)):=Dd (MG p n t) λD v H r=>by
 obtain⟨s,m,S,o,ok,e,q⟩:=r
 obtain⟨⟨k,l⟩,u,e⟩:=aw e
 refine⟨s,m,S,k,l,ok,u,λi H1 j d=> ?_⟩
 dsimp only at e
 split at e
 ·rename_i c
  rw[Qhq c]
  exact⟨i,m,l,o,ok.to j d,e,q.to j⟩
 ·rename_i c
  rw[Quq c]
  exact⟨i,m,l,o,ok.to j d,e,q.to j⟩
abbrev o_:=D->dw->aL->Option (dw×aL)
abbrev tw:=List D->dw->aL->Option (dw×aL)
def tG(M:Md)(g:o_):TG:=λv n H Q=>∃k m S d f l,Ok M k m S n H/\Rel M k H d v/\g d m S=some (f,l)/\∀h i j,cU k H h j->Ok M h f l i j->Q i j
def NJ(M:Md)(g:tw):IA:=λo n H Q=>∃j m S k d l,Ok M j m S n H/\bC M j H k o/\g k m S=some (d,l)/\∀f h i,cU j H f i->Ok M f d l h i->Q h i
def N3{t t':TG}(h:PG X e t)(w:∀v σ H Q,t' v σ H Q->t v σ H Q):PG X e t':=λd s σ H v u Q I r q=>h d s σ H v u Q I r (w _ _ _ _ q)
def Mk{f:List Expr}{t t':IA}(h:Ij X f t)(w:∀v σ H Q,t' v σ H Q->t v σ H Q):Ij X f t':=λd s σ H v u Q I r q=>h d s σ H v u Q I r (w _ _ _ _ q)
noncomputable def cu(i:Nat):o_:=λd f S=>some (f.set i (some d),S)
def GO{i:Nat}(h:PG X e (ve i)):PG X e (tG (md X) (cu i)):=N3 h λv j H Q g=>by
 obtain⟨k,m,S,d,f,l,ok,r,e,q⟩:=g
 cases e
 exact q _ _ _ cU.refl ⟨ok.en.set r,ok.st⟩
noncomputable def eB:tw:=λd f S=>match d with
 | []=>some (f,S)
 |_=>none
noncomputable def aR(f:o_)(g:tw):tw:=λj k S=>match j with
 |d::r=>(f d k S).bind λ(h,i)=>g r h i
 | []=>none
def bT:Ij X [] (NJ (md X) eB):=Mk IM λl g H Q f=>by
 obtain⟨i,k,S,h,d,j,ok,r,e,q⟩:=f
 cases r with
 |nil=>cases e;exact⟨rfl,q _ _ _ cU.refl ok⟩
 |cons=>cases e
def aD{h:List Expr}{f:o_}{g:tw}(x:PG X e (tG (md X) f))(p:Ij X h (NJ (md X) g))(t:(assignEach (e::h) X.env).map (·.2)=assign e X.env::(assignEach h X.env).map (·.2):=by rfl):Ij X (e::h) (NJ (md X) (aR f g)):=
 Mk (HC x p t) λI G H Q y=>by
  obtain⟨z,o,S,F,k,u,ok,r,e,q⟩:=y
  cases r with
  |nil=>cases e
  | cons r B=>
    obtain⟨⟨d,m⟩,A,e⟩:=aw e
    refine⟨_,_,rfl,z,o,S,_,d,m,ok,r,A,λl C H1 n j=>⟨l,d,m,_,k,u,j,B.ext n,e,λw s H2 v i=>q _ _ _ (n.trans v) i⟩⟩
noncomputable def jJ(g:tw):o_:=λd h S=>match d with
 |.tup f=>g f h S
 |_=>none
noncomputable def nG(n:Nat)(g:tw):tw:=λd f S=>if d.length=n then g d f S else none
def cV{f:List Expr}{k:Nat}{g:tw}{n:Nat}(s:X.calm=true)(h:Ij X f (NJ (md X) g))(o:(assignEach f X.env).length=n:=by rfl)(i:(assignEach f X.env).findIdx? (·.1)=none:=by rfl):
  PG X (.Tuple f k pos) (tG (md X) (jJ (nG n g))):=N3 (LR s h o i) λv u H Q ⟨t,m,S,d,j,p,ok,r,e,q⟩=>by
 cases r with
 | tup h l=>
   simp only[jJ,nG] at e
   split at e
   · rename_i c
     exact⟨_,_,rfl,jy.of h,by rw[←l.length];exact c,t,m,S,_,j,p,ok,l,e,q⟩
   · cases e
 |_=>cases e
noncomputable def sx(f:bV)(g:o_):dm:=λi S=>(f i S).bind λ(d,j)=>(g d i j).bind λ(h,k)=>some (.nx h k)
def Mh{f:bV}{g:o_}:∀D σ H,tS (md X) (sx f g) D σ H->Ez (tD (md X) f) (tG (md X) g) D σ H:=λD σ H w=>by
 obtain⟨x,m,S,o,ok,e,q⟩:=w
 obtain⟨⟨d,l⟩,y,e⟩:=aw e
 obtain⟨⟨i,z⟩,r,e⟩:=aw e
 cases e
 exact⟨x,m,S,d,l,ok,y,λk v H1 n j p=>⟨k,m,l,d,i,z,ok.to n j,p,r,λu s H2 t h=>q _ _ _ (n.trans t) h⟩⟩
def fY{tg:Expr}{f:bV}{g:o_}(he:PE X e (tD (md X) f))(i:PG X tg (tG (md X) g))(h:swapsWithSole [tg] e pos.line X.env=pure false:=by rfl)(j:swappedStores [tg] e X.env=pure none:=by rfl)
  (d:(assignEach [tg] X.env).map (·.2)= [assign tg X.env]:=by rfl):PS X (.Assign [tg] e pos) (tS (md X) (sx f g)):=Dd (Lr he i h j d) Mh
noncomputable def bt(i:Nat)(f:bV):dm:=λg S=>(f g S).bind λ(d,h)=>some (.nx (g.set i (some d)) h)
def L6{i:Nat}{f:bV}(h:PS X st (Ez (tD (md X) f) (ve i))):PS X st (tS (md X) (bt i f)):=Dd h λD t H n=>by
 obtain⟨r,m,S,o,ok,e,q⟩:=n
 obtain⟨⟨d,k⟩,s,e⟩:=aw e
 cases e
 exact⟨r,m,S,d,k,ok,s,λp v H1 j g l=>q _ _ _ j ⟨(ok.en.ext j).set l,g⟩⟩
abbrev zM:=dw->aL->Option ((List D×(aL->Prop))×aL)
def Walks(M:Md)(J:It)(ρ:List Addr)(H:Hp)(ds:List D)(W:aL->Prop):Prop:=∀(i:Nat) (f:List Addr) (j:aL) (h:Hp),cU ρ H f h->g9 M f j h->W j→
 (∀d,ds[i]?=some d->J.go i h/\∀x g,J.yld i h x g->cU f h f g/\g9 M f j g/\Rel M f g d x)/\(i=ds.length->J.stop i h)
def tI(M:Md)(f:zM):TI:=λl H R=>∃i k S h W j,Ok M i k S l H/\f k S=some ((h,W),j)/\∀d J g,cU i H d g->g9 M d j g->Walks M J d g h W->R J g
def NL{tg:Expr}{t t':TI}(h:PI X tg e t)(w:∀σ H R,t' σ H R->t σ H R):PI X tg e t':=λd s σ H R I q=>h d s σ H R I (w _ _ _ q)
def KE{tg l:Expr}{n:TE}(t:PE X l n):PI X tg l (λσ H R=>n σ H λx H1=>∃a,x=.ref a/\((∃xs,jN X.K H1 a xs)/\R (OC X.K a) H1\/(∃xs,jy X.K H1 a xs)/\R (OM X.K a) H1)):=by
 intro g s σ H R I h
 refine dC (t g s σ H _ I h) λv d r=> ?_
 obtain⟨x,H1,f,u,m⟩:=r
 obtain⟨a,e,m⟩:=m
 subst e
 cases u
 rcases m with⟨⟨xs,j⟩,q⟩|⟨⟨xs,j⟩,q⟩
 ·obtain⟨i,w,p,y⟩:=f.list j
  refine wpAny_pyIter_list p.isList ?_
  refine⟨d.heap.objs.size,[d.heap.objs.size],_,_,H1,rfl,f.kept (t':=d.toks) λb o e=>Qcq _ e,Ft a _,⟨_,Qrq _ rfl,rfl,rfl⟩,λb k=> ?_,q⟩
  have e:b=d.heap.objs.size:=by simpa using k
  subst e
  exact f.fpOk (Qmq _) (f.hok.fresh (Qmq _))
 ·obtain⟨i,w,p,y⟩:=f.tuple j
  refine wpAny_pyIter_tuple (show d.heap.IsTuple a i.toArray from p) ?_
  refine⟨d.heap.objs.size,[d.heap.objs.size],_,_,H1,rfl,f.kept (t':=d.toks) λb o e=>Qcq _ e,B4 a _,⟨_,Qrq _ rfl,rfl,rfl⟩,λb k=> ?_,q⟩
  have e:b=d.heap.objs.size:=by simpa using k
  subst e
  exact f.fpOk (Qmq _) (f.hok.fresh (Qmq _))
noncomputable def jw(f:gu):zM:=λh S=>(f h S).bind λ(p,d)=>some ((p.1,λg=>p.2.stays g p.1),d)
def dv{tg l:Expr}{f:gu}(G:PE X l (tQ (md X) f)):PI X tg l (tI (md X) (jw f)):=NL (KE G) λY H R K=>by
 obtain⟨M,I,S,Q,W,U,ok,e,q⟩:=K
 obtain⟨⟨⟨s,t⟩,F⟩,N,e⟩:=aw e
 obtain⟨J,rfl⟩:=da e
 obtain⟨rfl,rfl⟩:=Prod.mk.inj J
 refine⟨M,I,S,s,t,F,ok,N,λL a C Z x st h r=>⟨a,rfl,?_⟩⟩
 cases c:t.isL with
 | true=>
   refine .inl ⟨⟨C,h.sqL c⟩,q _ _ _ x st λi z P H2 y j w=> ?_⟩
   obtain⟨g,A,o⟩:=h.to r y j w
   have m:=A.sqL c
   refine⟨λd p=> ?_,λB=>⟨g,m,by rw[B,o.length];exact Qmq _⟩⟩
   obtain⟨v,n,u⟩:=o.get p
   refine⟨⟨g,v,m,n⟩,λx H3 k=> ?_⟩
   obtain⟨rfl,k⟩:=k
   have:=k g m
   rw[n] at this
   cases this
   exact⟨cU.refl,j,u⟩
 | false=>
   refine .inr ⟨⟨C,h.sqT c⟩,q _ _ _ x st λi z P H2 y j w=> ?_⟩
   obtain⟨g,A,o⟩:=h.to r y j w
   have m:=A.sqT c
   refine⟨λd p=> ?_,λB=>⟨g,m,by rw[B,o.length];exact Qmq _⟩⟩
   obtain⟨v,n,u⟩:=o.get p
   refine⟨⟨g,v,m,n⟩,λx H3 k=> ?_⟩
   obtain⟨rfl,k⟩:=k
   have:=k g m
   rw[n] at this
   cases this
   exact⟨cU.refl,j,u⟩
noncomputable def jx(lo hi:Int):List D:=(List.range (hi-lo).toNat).map λ(i:Nat)=>D.int (lo+(i:Int))
noncomputable def u5(f:bV):zM:=λh S=>(f h S).bind λ(d,g)=>match d with
 |.int j=>if -(2^62)<=j/\j<2^62 then some ((jx 0 j,λ_=>True),g) else none
 |_=>none
def E8{M:Md}{ρ:List Addr}{H:Hp}{lo hi:Int}:Walks M (NI lo (hi-lo).toNat) ρ H (jx lo hi) (λ_=>True):=λi n p H2 o g w=>by
 unfold jx
 refine⟨λd h=> ?_,λhi=>by rw[lQm,QVq] at hi;exact Nat.le_of_eq hi.symm⟩
 rw[gQm] at h
 obtain⟨k,l,rfl⟩:=oQm.mp h
 have f:=(gQs.mp l)
 obtain⟨f,j⟩:=f
 rw[List.getElem_range] at j
 subst j
 rw[QVq] at f
 refine⟨f,λx H3 m=> ?_⟩
 obtain⟨rfl,rfl⟩:=m
 exact⟨cU.refl,g,.int _⟩
def mr{tg a:Expr}{f:bV}{p:Pos}(v:Gl X "range")(o:X.mg "range"=none)(n:PE X a (tD (md X) f))(i:starEach [a] X.env= [(false,eval a X.env)]:=by rfl):PI X tg (.Call (.Name "range" p) [a] [] pos) (tI (md X) (u5 f)):=
 NL (Fk v o (aq n av i) i) λB H R s=>by
  obtain⟨u,l,S,z,W,A,ok,e,q⟩:=s
  obtain⟨⟨d,k⟩,y,e⟩:=aw e
  dsimp only at e
  split at e
  ·rename_i j
   split at e
   ·rename_i h
    obtain⟨m,rfl⟩:=da e
    obtain⟨rfl,rfl⟩:=Prod.mk.inj m
    refine⟨u,l,S,[.int j],k,ok,by unfold ar ay;rw[y];rfl,λg C t x st r=> ?_⟩
    cases r with
    | cons r w=>
      cases w
      cases r
      refine⟨j,rfl,h.1,h.2,q _ _ _ x st ?_⟩
      have:=E8 (M:=md X) (ρ:=g) (H:=t) (lo:=0) (hi:=j)
      rw[Int.sub_zero] at this
      exact this
   ·cases e
  ·cases e
open Classical in
def forL(g:o_)(b:dm)(W:aL->Prop):List D->dw->aL->Option Out
 | [],Γ,S=>if W S then some (.nx Γ S) else none
 |d ::ds,Γ,S=>if W S then(g d Γ S).bind λ(i,j)=>(b i j).bind λo=>match o with
    |.nx f h=>forL g b W ds f h
    |.ct f h=>forL g b W ds f h
    |.bk f h=>some (.nx f h)
    |.rt x h=>some (.rt x h)
    |.rl x h=>some (.rl x h)
  else none
def jz(i:zM)(g:o_)(b:dm):dm:=λd S=>(i d S).bind λ(p,f)=>forL g b p.2 p.1 d f
def hG{tg k:Expr}{i:zM}{g:o_}{f:dm}(hp:PassesOwn (model X.prog X.w) X.A X.env X.xe)(hc:X.calm=true)(hi:PI X tg k (tI (md X) i))(hg:PG X tg (tG (md X) g))(hb:t8 X body (tS (md X) f))
  (hs:∀x,foldedSetIterable k X.env x=pure x:=by intro _;rfl):PS X (.For tg k body [] pos) (tS (md X) (jz i g f)):=Dd (Lp hp hc hi hg hb hs) λD σ H ⟨ρ,Γ,S,o,ok,e,q⟩=>by
 obtain⟨⟨⟨h,W⟩,Z⟩,e1,e⟩:=aw e
 refine⟨ρ,Γ,S,h,W,Z,ok,e1,λv J H1 x1 Q wk=> ?_⟩
 have L:=q.to x1
 have P:=ok.to x1 Q
 refine⟨λi m s B=>m=h.length-i/\i<=h.length/\∃d p y,cU v H1 d B/\Ok (md X) d p y s B/\forL g f W (h.drop i) p y=some o,⟨h.length,by simp,Nat.zero_le _,v,Γ,Z,cU.refl,P,e⟩,?_⟩
 rintro i m a1 H2 ⟨rfl,hi,d,p,y,x2,ok2,e2⟩
 by_cases u:i<h.length
 ·have hd:h[i]?=some h[i]:=gQe u
  rw[QWq u] at e2
  unfold forL at e2
  split at e2
  ·rename_i w
   obtain⟨w1,w2⟩:=wk i d y H2 x2 ok2.st w
   obtain⟨go,N⟩:=w1 _ hd
   refine .inr ⟨go,λs B=>∃n t M,cU v H1 n B/\Ok (md X) n t M s B/\forL g f W (h.drop (i+1)) t M=some o,λs B ⟨n,t,M,h1,h2,h3⟩=>⟨h.length-(i+1),by omega,rfl,u,n,t,M,h1,h2,h3⟩,λx H3 hy=> ?_⟩
   obtain⟨x3,U,r3⟩:=N x H3 hy
   obtain⟨⟨K,S4⟩,e4,e5⟩:=aw e2
   refine⟨d,p,y,_,K,S4,ok2.to x3 U,r3,e4,λY a0 H4 x4 R=> ?_⟩
   obtain⟨o5,e6,F⟩:=aw e5
   have G:=(x2.trans x3).trans x4
   refine⟨Y,K,S4,o5,R,e6,?_⟩
   cases o5 with
   |nx r z=>exact λl I H6 C j=>⟨l,r,z,G.trans C,j,F⟩
   |ct r z=>exact λl I H6 C j=>⟨l,r,z,G.trans C,j,F⟩
   |bk r z=>cases F;exact λl I H6 C j=>L _ _ _ (G.trans C) j
   |rt d6 z=>cases F;exact L.to G
   |rl d6 z=>cases F;exact L.to G
  ·cases e2
 ·have e3:i=h.length:=by omega
  subst e3
  rw[List.drop_length] at e2
  unfold forL at e2
  split at e2
  ·rename_i w
   cases e2
   obtain⟨w1,w2⟩:=wk h.length d y H2 x2 ok2.st w
   exact .inl ⟨w2 rfl,L _ _ _ x2 ok2⟩
  ·cases e2
end
section
variable{M:Md}{ρ:List Addr}{H:Hp}{b:Addr}{us ws:List V}
mutual
theorem Rel.off(a:H b=some (.lst us)):∀{d:D} {v:V},Rel M ρ H d v->Rel M ρ (upd H b (.lst ws)) d v
 |_,_,.non=>.non
 |_,_,.bl x=>.bl x
 |_,_,.int i=>.int i
 |_,_,.str x=>.str x
 |_,_,.tup h hs=>.tup (by rw[bJ (Ic h a (by intro z;cases z))];exact h) (bC.off a hs)
 |_,_,.ref h=>.ref h
 |_,_,.fn h=>.fn h
theorem bC.off(a:H b=some (.lst us)):∀{ds:List D} {vs:List V},bC M ρ H ds vs->bC M ρ (upd H b (.lst ws)) ds vs
 |_,_,.nil=>.nil
 |_,_,.cons h hs=>.cons (Rel.off a h) (bC.off a hs)
end
theorem g9.off{S:aL}(st:g9 M ρ S H)(f:H b=some (.lst us))(n:b∉ρ):g9 M ρ S (upd H b (.lst ws)):=⟨st.len,st.nd,λk a o h j=>by
 have q:=st.obj k a o h j
 have e:a≠b:=λz=>n (z▸mQg h)
 cases o with
 |lst i=>obtain⟨g,d,c⟩:=q;exact⟨g,by rw[bJ e];exact d,c.off f⟩
 |frz i=>obtain⟨g,o,d,c⟩:=q;exact⟨g,o,by rw[bJ e];exact d,c.off f⟩
 |dct l=>obtain⟨m,d,c⟩:=q;exact⟨m,by rw[bJ e];exact d,c.imp λ_ _ r=>r.off f⟩⟩
def En.off{a:dw}{σ:L2.St}(h:En M ρ H a σ)(e:H b=some (.lst us)):En M ρ (upd H b (.lst ws)) a σ:=⟨h.len,λi d q=>by obtain⟨v,c,f⟩:=h.get i d q;exact⟨v,c,f.off e⟩⟩
def cU.off{d:List Addr}{f:Hp}(e:cU d f ρ H)(g:f b=none)(u:HO):cU d f ρ (upd H b u):=⟨e.pre,e.new,λa o h c=>by rw[bJ (gB h g)];exact e.keep a o h c,λa h=>by
 by_cases z:a=b
 ·subst z;exact g
 ·rw[bJ z] at h;exact e.grow a h⟩
end
noncomputable def oY(js:List (Option Nat))(a:dw):dw:=js.map λo=>o.bind λj=>a.getD j none
def En.sig{M:Md}{ρ:List Addr}{H:Hp}{a:dw}{σ:L2.St}(js:List (Option Nat))(h:En M ρ H a σ):En M ρ H (oY js a) (kY js σ) where
 len:=by unfold oY kY;rw[lQm,lQm]
 get:=λi d q=>by
  unfold oY at q
  unfold kY
  rw[gQm] at q⊢
  cases e:js[i]? with
  |none=>rw[e] at q;cases q
  | some o=>
    rw[e] at q
    cases o with
    |none=>cases q
    | some j=>
      have b:a.getD j none=some d:=QdQ q
      have c:a[j]?=some (some d):=by
        rw[Qlq] at b
        cases z:a[j]? with
        |none=>rw[z] at b;cases b
        |some y=>rw[z] at b;exact congrArg some b
      obtain⟨v,g,f⟩:=h.get j d c
      refine⟨v,?_,f⟩
      show some (σ.getD j none)=some (some v)
      rw[Qlq,g]
      rfl
open Classical in
def nu(g:o_)(t:kR)(f:bV)(W:aL->Prop):List D->dw->aL->List D->Option (List D×aL)
 | [],Γ,S,acc=>if W S then some (acc,S) else none
 |d ::ds,Γ,S,acc=>if W S then(g d Γ S).bind λ(a,c)=>(t a c).bind λ(k,b)=>
    if k=true then(f a b).bind λ(y,e)=>if acc.length<sizeLine then nu g t f W ds a e (acc++ [y]) else none
    else nu g t f W ds a b acc
  else none
def cG(js:List (Option Nat))(i:zM)(g:o_)(t:kR)(f:bV):iH:=λa S=>(i a S).bind λ(p,b)=>nu g t f p.2 p.1 (oY js a) b []
section
variable{M:Md}
def F4{js:List (Option Nat)}{i:zM}{g:o_}{t:kR}{f:bV}:∀σ H Q,tL M (cG js i g t f) σ H Q->HJ js (tI M i) (tG M g) (tB M t) (tD M f) σ H Q:=λσ H Q qq=>by
 obtain⟨ρ,Γ,S,rs,S',ok,e,q⟩:=qq
 obtain⟨⟨⟨j,W⟩,S1⟩,e1,e⟩:=aw e
 refine⟨ρ,Γ,S,j,W,S1,ok,e1,λl J H1 U P wk D L=> ?_⟩
 have n1:D∉l:=eQ U P L
 have a2:Ok M l (oY js Γ) S1 (kY js σ) (upd H1 D (.lst [])):=⟨((ok.en.ext U).ext (cU.laid L)).sig js,P.lay L⟩
 refine⟨λi m A d=>m=j.length-i/\i<=j.length/\∃c s K b h,cU l H1 c d/\Ok M c s K A d/\D∉c/\d D=some (.lst h)/\bC M c d b h/\nu g t f W (j.drop i) s K b=some (rs,S'),
  ⟨j.length,by simp,Nat.zero_le _,l,_,S1,[],[],cU.laid L,a2,n1,cA,.nil,e⟩,?_⟩
 rintro i m a8 H2 ⟨rfl,hi,c,s,K,b,h,x2,ok2,n2,hD2,racc,e2⟩
 by_cases G:i<j.length
 ·have hd:j[i]?=some j[i]:=gQe G
  rw[QWq G] at e2
  unfold nu at e2
  split at e2
  ·rename_i w
   obtain⟨w1,w2⟩:=wk i c K H2 x2 ok2.st w
   obtain⟨go,a0⟩:=w1 _ hd
   refine .inr ⟨go,λA d=>∃a B o b h,cU l H1 a d/\Ok M a B o A d/\D∉a/\d D=some (.lst h)/\bC M a d b h/\nu g t f W (j.drop (i+1)) B o b=some (rs,S'),
    λA d ⟨a,B,o,b,h,h1,h2,h3,h4,h5,h6⟩=>⟨j.length-(i+1),by omega,rfl,G,a,B,o,b,h,h1,h2,h3,h4,h5,h6⟩,λx H3 hy=> ?_⟩
   obtain⟨x3,a4,r3⟩:=a0 x H3 hy
   obtain⟨⟨n,S4⟩,e4,e5⟩:=aw e2
   refine⟨c,s,K,_,n,S4,ok2.to x3 a4,r3,e4,λa5 a7 H4 x4 u=> ?_⟩
   obtain⟨⟨k,S5⟩,e6,Y⟩:=aw e5
   refine⟨a5,n,S4,k,S5,u,e6,λN H5 Z R=> ?_⟩
   have r:=(x3.trans x4).trans Z
   have C:∀{a d},cU c H2 a d->d D=some (.lst h)/\D∉a:=λ{a d} x=>⟨x.keep _ _ hD2 (.inl n2),λm=>(x.new _ m).elim n2 λz=>by rw[z] at hD2;cases hD2⟩
   dsimp only at Y⊢
   split at Y
   ·rename_i ck
    rw[Qhq ck]
    obtain⟨⟨y,S6⟩,e8,X⟩:=aw Y
    refine⟨N,n,S5,y,S6,u.to Z R,e8,λa1 v H6 x6 a3 r6=> ?_⟩
    have F:=r.trans x6
    obtain⟨p,n6⟩:=C F
    have I:=racc.ext F
    dsimp only at X
    split at X
    ·rename_i cl
     refine⟨h,p,by rw[←racc.length];exact cl,a1,n,S6,b++ [y],h++ [v],(x2.trans F).off L _,⟨((u.en.ext Z).ext x6).off p,a3.off p n6⟩,n6,cA,(I.append (.cons r6 .nil)).off p,X⟩
    ·cases X
   ·rename_i ck
    rw[Quq ck]
    obtain⟨a6,n5⟩:=C r
    exact⟨N,n,S5,b,h,x2.trans r,u.to Z R,n5,a6,racc.ext r,Y⟩
  ·cases e2
 ·have e3:i=j.length:=by omega
  subst e3
  rw[List.drop_length] at e2
  unfold nu at e2
  split at e2
  ·rename_i w
   obtain⟨rfl,rfl⟩:=da e2
   obtain⟨w1,w2⟩:=wk j.length c K H2 x2 ok2.st w
   exact .inl ⟨w2 rfl,q c D h H2 (U.trans x2) ok2.st (U.grow _ L) n2 hD2 racc⟩
  ·cases e2
end
section
variable{X:Cx}{a b c e:Expr}{pos:Pos}{st:Stmt}{rest body other:List Stmt}
noncomputable def cW:kR:=λ_ S=>some (true,S)
def MV{f:List Expr}{t t':TT}(h:tq X f t)(w:∀σ H Q,t' σ H Q->t σ H Q):tq X f t':=λd s σ H Q I q=>h d s σ H Q I (w _ _ _ q)
def eR:tq X [] (tB (md X) cW):=MV K6 λd H Q ⟨f,h,S,k,g,ok,e,q⟩=>by cases e;exact q _ _ cU.refl ok.st
def Gq{f:kR}(d:PT X c (tB (md X) f)):tq X [c] (tB (md X) f):=LJ d
def de{N:List Str}{js:List (Option Nat)}{d:Scope}{l:List (Str×Addr)}{tg h j:Expr}{k:List Expr}{i:zM}{g:o_}{t:kR}{f:bV}
  (S:aZ X N js d l) (n:X.calm=true) (hi:PI X tg h (tI (md X) i))
  (o:∀C s H fp,PG (bB X N d l C s H fp) tg (tG (md X) g)) (ht:∀C s H fp,tq (bB X N d l C s H fp) k (tB (md X) t)) (he:∀C s H fp,PE (bB X N d l C s H fp) j (tD (md X) f))
  (m:∀x,foldedSetIterable h X.env x=pure x:=by intro _;rfl):PE X (.ListComp j [⟨tg,h,k,0⟩] d pos) (tL (md X) (cG js i g t f)):=lO (IT S n hi o ht he m) F4
def Ku{N:List Str}{js:List (Option Nat)}{h:Scope}{v:List (Str×Addr)}{tg j m k:Expr}{p:List Expr}{i:zM}{g:o_}{t:kR}{f:bV}{n:Nat}{l:Pos}
  (S:aZ X N js h v) (Y:X.calm=true) (hi:PI X tg j (tI (md X) i))
  (hg:∀C s H fp,PG (bB X N h v C s H fp) tg (tG (md X) g)) (ht:∀C s H fp,tq (bB X N h v C s H fp) p (tB (md X) t)) (he:∀C s H fp,PE (bB X N h v C s H fp) m (tD (md X) f)) (w:PG X k (ve n))
  (Q:∀x,foldedSetIterable j X.env x=pure x:=by intro _;rfl) (A:swapsWithSole [k] (.ListComp m [⟨tg,j,p,0⟩] h pos) l.line X.env=pure true:=by rfl)
  (W:(assignEach [k] X.env).map (·.2)= [assign k X.env]:=by rfl):PS X (.Assign [k] (.ListComp m [⟨tg,j,p,0⟩] h pos) l) (tS (md X) (bt n (c8 (cG js i g t f)))):=
 Dd (IB S Y hi hg ht he w Q A W) λD Z H qq=>by
  obtain⟨I,K,S,o,ok,e,q⟩:=qq
  obtain⟨⟨d,S1⟩,e1,e⟩:=aw e
  cases e
  obtain⟨⟨B,P⟩,L,J⟩:=aw e1
  obtain⟨rfl,rfl⟩:=da J
  refine F4 Z H _ ⟨I,K,S,B,P,ok,L,λr a vs G x st R M U rs=> ?_⟩
  have z:=rs.pre (List.prefix_append r [a])
  have y:=st.box (o:=.lst B) M ⟨vs,U,z⟩
  have F:cU I H (r++ [a]) G:=⟨x.pre.trans (List.prefix_append _ _),λb u=>by
   rcases mQa.mp u with u|u
   ·exact x.new b u
   ·rw[Qfq] at u;subst u;exact .inr R,x.keep,x.grow⟩
  refine q (r++ [a]) _ G F ⟨((ok.en.ext F).set (.ref ?_)),y⟩
  rw[←st.len,QQq (Qmq _)]
  simp
noncomputable def Ik(c:kR)(b:dm):Nat->dw->aL->Option Out
 |0,_,_=>none
 |n +1,Γ,S=>(c Γ S).bind λ(k,g)=>if k=true then(b Γ g).bind λo=>match o with
    |.nx d f=>Ik c b n d f
    |.ct d f=>Ik c b n d f
    |.bk d f=>some (.nx d f)
    |.rt x f=>some (.rt x f)
    |.rl x f=>some (.rl x f)
  else some (.nx Γ g)
def JK{h:kR}{f:dm}(n:Nat)(hp:PassesOwn (model X.prog X.w) X.A X.env X.xe)(hc:PT X c (tB (md X) h))(hb:t8 X body (tS (md X) f)):PS X (.While c body [] pos) (tS (md X) (Ik h f n)):=Dd (F1 hp hc hb) λD σ H qq=>by
 obtain⟨I,W,S,o,ok,e,q⟩:=qq
 refine⟨λm p v=>∃g d t,cU I H g v/\Ok (md X) g d t p v/\Ik h f m d t=some o,⟨n,I,W,S,cU.refl,ok,e⟩,?_⟩
 rintro m a0 H1 ⟨J,C,Q,x1,z,i⟩
 cases m with
 |zero=>cases i
 | succ m=>
   unfold Ik at i
   obtain⟨⟨k,P⟩,Y,i⟩:=aw i
   refine⟨J,C,Q,k,P,z,Y,λF H2 M K=> ?_⟩
   dsimp only at i⊢
   have x:=z.to M K
   have j:=x1.trans M
   split at i
   · rename_i G
     rw[Qhq G]
     obtain⟨L,R,i⟩:=aw i
     refine⟨λp v=>∃g d t,cU I H g v/\Ok (md X) g d t p v/\Ik h f m d t=some o,λp v ⟨g,d,t,h1,Z,U⟩=>⟨m,Nat.lt_succ_self _,g,d,t,h1,Z,U⟩,F,C,P,L,x,R,?_⟩
     cases L with
     |nx r u=>exact λs y N B l=>⟨s,r,u,j.trans B,l,i⟩
     |ct r u=>exact λs y N B l=>⟨s,r,u,j.trans B,l,i⟩
     |bk r u=>cases i;exact λs y N B l=>q _ _ _ (j.trans B) l
     |rt d6 u=>cases i;exact q.to j
     |rl d6 u=>cases i;exact q.to j
   · rename_i G
     rw[Quq G]
     cases i
     exact q _ _ _ j x
end
inductive Res where
 |d (x:D)|l (ds:List D)
abbrev dP:=List D->aL->Option (Res×aL)
def Lk(M:Md)(ρ:List Addr)(H b:Hp)(v:V):Res->Prop
 |.d x=>Rel M ρ b x v
 |.l e=>∃a c,v=.ref a/\H a=none/\a∉ρ/\b a=some (.lst c)/\bC M ρ b e c
def fm(M:Md)(n:Nat)(F:dP):Sp:=λf H Q _=>∃d S c r e,c.length=n/\bC M d H c f/\g9 M d S H/\F c S=some (r,e)/\∀a v b,cU d H a b->g9 M a e b->Lk M a H b v r->Q v b
mutual
noncomputable def cq(m:Nat):D->Bool
 |.ref k=>decide (k<m)
 |.tup a=>cj m a
 |_=>true
noncomputable def cj(m:Nat):List D->Bool
 | []=>true
 |d::ds=>cq m d&&cj m ds
end
noncomputable def IQ(m:Nat):O->Bool
 |.lst a=>cj m a
 |.frz a=>cj m a
 |.dct b=>cj m (b.map (·.2))
section
variable{M:Md}{ρ ρ':List Addr}{H:Hp}
mutual
theorem Rel.cut(e:ρ <+: ρ'):∀{d:D} {v:V},Rel M ρ' H d v->cq ρ.length d=true->Rel M ρ H d v
 |_,_,.non,_=>.non
 |_,_,.bl x,_=>.bl x
 |_,_,.int i,_=>.int i
 |_,_,.str x,_=>.str x
 |_,_,.tup h hs,b=>.tup h (bC.cut e hs (by simpa [cq] using b))
 | _,_,.ref (k:=k) (a:=a) h,b=>.ref (by
   obtain⟨t,rfl⟩:=e
   have c:k<ρ.length:=by simpa [cq] using b
   rwa [QHq c] at h)
 |_,_,.fn h,_=>.fn h
theorem bC.cut(e:ρ <+: ρ'):∀{ds:List D} {vs:List V},bC M ρ' H ds vs->cj ρ.length ds=true->bC M ρ H ds vs
 |_,_,.nil,_=>.nil
 | _,_,.cons h hs,b=>by
   have a:=b
   simp only[cj,QDq,QCq] at a
   exact .cons (Rel.cut e h a.1) (bC.cut e hs a.2)
end
theorem cY.cut(e:ρ <+: ρ'):∀{l:List (Key×D)} {kv:List (Key×V)},cY M ρ' H l kv->cj ρ.length (l.map (·.2))=true->cY M ρ H l kv
 | [],_,h,_=>h
 | (_,_)::_,_,⟨v,t,q,h,hs⟩,b=>by
   have a:=b
   simp only[cj,QDq,QCq] at a
   exact⟨v,t,q,h.cut e a.1,cY.cut e hs a.2⟩
theorem qj.cut{a:Addr}{o:O}(e:ρ <+: ρ')(h:qj M ρ' H a o)(b:IQ ρ.length o=true):qj M ρ H a o:=by
 cases o with
 |lst g=>obtain⟨f,c,d⟩:=h;exact⟨f,c,d.cut e b⟩
 |frz g=>obtain⟨f,o,c,d⟩:=h;exact⟨f,o,c,d.cut e b⟩
 |dct i=>obtain⟨j,c,d⟩:=h;exact⟨j,c,d.cut e b⟩
mutual
theorem Rel.low:∀{d:D} {v:V},Rel M ρ H d v->cq ρ.length d=true
 |_,_,.non=>rfl
 |_,_,.bl x=>rfl
 |_,_,.int i=>rfl
 |_,_,.str x=>rfl
 |_,_,.tup h hs=>by simp only[cq];exact bC.low hs
 |_,_,.ref h=>by simp only[cq];exact Qeq (gQs.mp h).1
 |_,_,.fn h=>rfl
theorem bC.low:∀{ds:List D} {vs:List V},bC M ρ H ds vs->cj ρ.length ds=true
 |_,_,.nil=>rfl
 |_,_,.cons h hs=>by simp only[cj];rw[Rel.low h,bC.low hs];rfl
end
theorem cY.low:∀{l:List (Key×D)} {kv:List (Key×V)},cY M ρ H l kv->cj ρ.length (l.map (·.2))=true
 | [],_,_=>rfl
 |(_,_)::_,_,⟨v,t,q,h,hs⟩=>by simp only[QDq,cj];rw[h.low,cY.low hs];rfl
theorem qj.low{a:Addr}{o:O}(h:qj M ρ H a o):IQ ρ.length o=true:=by
 cases o with
 |lst d=>obtain⟨f,c,b⟩:=h;exact b.low
 |frz d=>obtain⟨f,o,c,b⟩:=h;exact b.low
 |dct e=>obtain⟨g,c,b⟩:=h;exact b.low
end
def qi(S a:aL):Prop:=S.length<=a.length/\∀k o,k<S.length->a[k]?=some o->S[k]?=some o\/IQ S.length o=true
open Classical in
def settle(S:aL)(d:D)(a:aL):Option (Res×aL):=if qi S a then match d with
  | .ref k=>if k<S.length then some (.d (.ref k),a.take S.length) else match a[k]? with
    |some (.lst ds)=>if cj S.length ds=true then some (.l ds,a.take S.length) else none
    |_=>none
  |d=>if cq S.length d=true then some (.d d,a.take S.length) else none
 else none
open Classical in
def eX(S:aL)(ds:List D)(a:aL):Option (Res×aL):=if qi S a/\cj S.length ds=true then some (.l ds,a.take S.length) else none
noncomputable def fA(n:Nat)(b:dm):dP:=λc S=>(b (c.map some++List.replicate (n-c.length) none) S).bind λo=>match o with
 |.nx _ a=>settle S .non a
 |.rt d a=>settle S d a
 |.rl l a=>eX S l a
 |_=>none
def g9.clean{M:Md}{ρ d:List Addr}{S g:aL}{H e:Hp}(st:g9 M ρ S H)(x:cU ρ H d e)(i:g9 M d g e)(c:qi S g):g9 M ρ (g.take S.length) e/\cU ρ H ρ e:=by
 refine⟨⟨?_,st.nd,λk a o j f=> ?_⟩,List.prefix_refl _,λ_ h=>.inl h,x.keep,x.grow⟩
 ·rw[Qxq,st.len]
  have:=c.1
  omega
 ·have l:k<ρ.length:=(gQs.mp j).1
  have b:k<S.length:=st.len▸l
  rw[List.getElem?_take_of_lt b] at f
  refine(i.obj k a o (dF x.pre j) f).cut x.pre ?_
  rcases c.2 k o b f with z|z
  ·exact(st.obj k a o j z).low
  ·rw[st.len];exact z
def xS{M:Md}{ρ f:List Addr}{S t h:aL}{H g:Hp}{d:D}{v:V}{r:Res}(st:g9 M ρ S H)(x:cU ρ H f g)(b:g9 M f t g)(n:Rel M f g d v)(e:settle S d t=some (r,h)):
  cU ρ H ρ g/\g9 M ρ h g/\Lk M ρ H g v r:=by
 unfold settle at e
 split at e
 ·rename_i c
  obtain⟨o,p⟩:=st.clean x b c
  cases d with
  | ref k=>
    dsimp only at e
    split at e
    · rename_i i
      obtain⟨rfl,rfl⟩:=da e
      exact⟨p,o,n.cut x.pre (by simp only[cq];rw[st.len];exact Qeq i)⟩
    · rename_i i
      split at e
      · rename_i B y
        split at e
        · rename_i q
          obtain⟨rfl,rfl⟩:=da e
          cases n with
          | ref l=>
            rename_i a
            obtain⟨A,z,w⟩:=b.obj k a _ l y
            have u:a∉ρ:=λm=>by
              obtain⟨j,s⟩:=List.getElem?_of_mem m
              have:=mv b.nd (dF x.pre s) l
              subst this
              exact i (st.len▸(gQs.mp s).1)
            refine⟨p,o,a,A,rfl,(x.new a (mQg l)).resolve_left u,u,z,w.cut x.pre (by rw[st.len];exact q)⟩
        · cases e
      · cases e
  | _=>
    dsimp only at e
    split at e
    · rename_i q
      obtain⟨rfl,rfl⟩:=da e
      exact⟨p,o,n.cut x.pre (by rw[st.len];exact q)⟩
    · cases e
 ·cases e
def CL{M:Md}{ρ b:List Addr}{S h f:aL}{H d:Hp}{ds:List D}{a:Addr}{vs:List V}{r:Res}(st:g9 M ρ S H)(x:cU ρ H b d)(g:g9 M b h d)(i:H a=none)(n:a∉b)(j:d a=some (.lst vs))(k:bC M b d ds vs)(e:eX S ds h=some (r,f)):
  cU ρ H ρ d/\g9 M ρ f d/\Lk M ρ H d (.ref a) r:=by
 unfold eX at e
 split at e
 ·rename_i c
  obtain⟨l,o⟩:=st.clean x g c.1
  obtain⟨rfl,rfl⟩:=da e
  exact⟨o,l,a,vs,rfl,i,λm=>n (x.pre.subset m),j,k.cut x.pre (by rw[st.len];exact c.2)⟩
 ·cases e
def Hu{M:Md}{ρ:List Addr}{H:Hp}{ds:List D}{vs:List V}{N:List Str}(r:bC M ρ H ds vs):En M ρ H (ds.map some++List.replicate (N.length-ds.length) none) (L2.start N vs) where
 len:=by unfold L2.start;simp[r.length]
 get:=λi d q=>by
  unfold L2.start
  by_cases c:i<ds.length
  ·rw[QHq (by rw[lQm];exact c),gQm] at q
   obtain⟨g,a,f⟩:=oQm.mp q
   cases f
   obtain⟨v,e,b⟩:=r.get a
   exact⟨v,by rw[QHq (by rw[lQm,←r.length];exact c),gQm,e];rfl,b⟩
  ·rw[QQq (by rw[lQm];omega)] at q
   have:=mQg q
   rw[List.mem_replicate] at this
   cases this.2
section
variable{P:Program}{w:World}{K:PySem.W.Frag}{mg:Str->Option Value}{base:Heap}
def bF{x c:Str}{st:Stmt}{f:Addr}{G:FuncData}{N ps:List Str}{k:Nat}{b:dm}(F:fq K x c st f G)(S:aN N ps (aF st))
  (h:∀(g:Value) (A:Around) (outer:List Env) (s:Shared) (H:Hp) (E:XK),gN k (A.deeper (envOfC c (aF st) s.heap.objs.size f g))→
   t8 (CJ eN P w K mg base N c (aF st) f g A outer s H E).nox (gV st) (tS ⟨K,mg⟩ b)):bO P w K mg base eN (k+1) f G ps (fm ⟨K,mg⟩ ps.length (fA N.length b)):=by
 refine F.ok S (λL H Q E ⟨J,S,M,r,U,C,y,_⟩=>by rw[←y.length];exact C) λg A outer s H L Q E Z ⟨J,S,M,r,U,C,y,t,R,q⟩=>⟨_,h g A outer s H E Z,?_⟩
 obtain⟨o,e1,e⟩:=aw R
 refine⟨J,_,S,o,⟨Hu y,t⟩,e1,?_⟩
 cases o with
 |nx a0 B=>exact λn W I m u=>by obtain⟨l,j,p⟩:=xS t m u.st .non e;exact q _ _ _ l j p
 |rt d B=>exact λn v I m i z=>by obtain⟨l,j,p⟩:=xS t m i z e;exact q _ _ _ l j p
 |rl d B=>exact λn a L I m i X na Y z=>by obtain⟨l,j,p⟩:=CL t m i X na Y z e;exact q _ _ _ l j p
 |bk=>cases e
 |ct=>cases e
end
section
variable{X:Cx}{x:Str}{k n:Nat}{f:Addr}{fd:FuncData}{ps:List Str}{F:dP}{e:Expr}{es:List Expr}{g:iH}{p pos:Pos}
noncomputable def aB(F:dP)(g:iH):bV:=λh S=>(g h S).bind λ(c,b)=>(F c b).bind λ(r,a)=>match r with
 |.d x=>some (x,a)
 |.l _=>none
noncomputable def eF(F:dP)(g:iH):iH:=λh S=>(g h S).bind λ(a,c)=>(F a c).bind λ(r,b)=>match r with
 |.d _=>none
 |.l a=>some (a,b)
def nA(n:Nat)(g:iH):Prop:=∀c S a b,g c S=some (a,b)->a.length=n
def CY:nA 0 ay:=λ_ _ _ _ e=>by cases e;rfl
def mW{n:Nat}{f:bV}{g:iH}(h:nA n g):nA (n+1) (ar f g):=λm S j l e=>by
 obtain⟨⟨d,i⟩,o,e⟩:=aw e
 obtain⟨⟨a,c⟩,b,e⟩:=aw e
 cases e
 rw[Qnq,h _ _ _ _ b]
def Ee{M:Md}(s:nA n g):∀σ H Q,tD M (aB F g) σ H Q->GJ (fm M n F) [] E0 (Bn M g) σ H Q:=λσ H Q y=>by
 obtain⟨z,o,S,d,G,ok,e,q⟩:=y
 obtain⟨⟨a,i⟩,j,e⟩:=aw e
 obtain⟨⟨r,B⟩,t,e⟩:=aw e
 refine⟨z,o,S,a,i,ok,j,λc I H1 A b m=>⟨c,i,a,r,B,s _ _ _ _ j,by rw[List.append_nil];exact m,b,t,λw v H2 u h C=> ?_⟩⟩
 cases r with
 |d x=>obtain⟨rfl,rfl⟩:=da e;exact q _ _ _ (A.trans u) h C
 |l a=>cases e
def Jl{M:Md}(u:nA n g):∀σ H Q,tL M (eF F g) σ H Q->GJ (fm M n F) [] E0 (Bn M g) σ H Q:=λσ H Q A=>by
 obtain⟨B,t,S,d,J,ok,e,q⟩:=A
 obtain⟨⟨b,j⟩,o,e⟩:=aw e
 obtain⟨⟨r,C⟩,w,e⟩:=aw e
 refine⟨B,t,S,b,j,ok,o,λh G H1 m c s=>⟨h,j,b,r,C,u _ _ _ _ o,by rw[List.append_nil];exact s,c,w,λz v H2 y i I=> ?_⟩⟩
 cases r with
 |d x=>cases e
 | l b=>
   obtain⟨rfl,rfl⟩:=da e
   obtain⟨a,G,rfl,fr,na,ha,rr⟩:=I
   exact q _ _ _ _ (m.trans y) i (m.grow _ fr) na ha rr
def Kt(G:bO X.prog X.w X.K X.mg X.base eN k f fd ps (fm (md X) n F))(c:gN k X.A)(h:Gl X x)(l:X.mg x=some (.ref f))(d:PySem.W.keepIn X.K (.ref f)=true)(i:Binds X.K fd ps [])(b:PA X (e::es) (Bn (md X) g))(j:nA n g)
  (a:(x==("__debug__":Str))=false:=by decide) (he:starEach (e::es) X.env=(false,eval e X.env)::starEach es X.env:=by rfl) (hpl:(backTo pos (starEach es X.env)).any (·.1)=false:=by rfl):
  PE X (.Call (.Name x p) (e::es) [] pos) (tD (md X) (aB F g)):=lO (Em G c h l d i .nil Gj b a he hpl) (Ee j)
def K7(G:bO X.prog X.w X.K X.mg X.base eN k f fd ps (fm (md X) n F))(c:gN k X.A)(h:Gl X x)(l:X.mg x=some (.ref f))(d:PySem.W.keepIn X.K (.ref f)=true)(i:Binds X.K fd ps [])(b:PA X (e::es) (Bn (md X) g))(j:nA n g)
  (a:(x==("__debug__":Str))=false:=by decide) (he:starEach (e::es) X.env=(false,eval e X.env)::starEach es X.env:=by rfl) (hpl:(backTo pos (starEach es X.env)).any (·.1)=false:=by rfl):
  PE X (.Call (.Name x p) (e::es) [] pos) (tL (md X) (eF F g)):=lO (Em G c h l d i .nil Gj b a he hpl) (Jl j)
end
noncomputable def jh{α:Type}(xs:List α)(lo hi:Option Int):List α:=(xs.drop (HT.gC xs.length 0 lo)).take (HT.gC xs.length xs.length hi-HT.gC xs.length 0 lo)
def bC.cut3{M:Md}{ρ:List Addr}{H:Hp}{ds:List D}{vs:List V}{lo hi:Option Int}(h:bC M ρ H ds vs):bC M ρ H (jh ds lo hi) (Cc vs lo hi):=by
 unfold jh Cc
 rw[h.length]
 exact(h.drop _).take _
def Jk{α:Type}{xs:List α}{lo hi:Option Int}(b:HT.gC xs.length 0 lo=0)(a:HT.gC xs.length xs.length hi=xs.length):jh xs lo hi=xs:=by
 unfold jh
 rw[b,a]
 simp
abbrev LW:=dw->aL->Option (Option Int×aL)
def NG(M:Md)(f:LW):TO:=λg H Q=>∃c e S o d,Ok M c e S g H/\f e S=some (o,d)/\∀a b,cU c H a b->g9 M a d b->Q o b
section
variable{X:Cx}{a b c e:Expr}{pos:Pos}{st:Stmt}
noncomputable def qm:LW:=λ_ S=>some (none,S)
noncomputable def pA(f:bV):LW:=λh S=>(f h S).bind λ(d,g)=>match d with
 |.int i=>some (some i,g)
 |_=>none
def OK{o:Option Expr}{t t':TO}(h:PO X o t)(w:∀σ H Q,t' σ H Q->t σ H Q):PO X o t':=λd s σ H Q I q=>h d s σ H Q I (w _ _ _ q)
def dH:PO X none (NG (md X) qm):=OK JH λd H Q ⟨f,h,S,o,g,ok,e,q⟩=>by cases e;exact q _ _ cU.refl ok.st
def dG{f:bV}(h:PE X e (tD (md X) f)):PO X (some e) (NG (md X) (pA f)):=OK (JG h) λp H Q j=>by
 obtain⟨l,i,S,o,n,ok,e,q⟩:=j
 obtain⟨⟨d,g⟩,m,e⟩:=aw e
 dsimp only at e
 split at e
 ·obtain⟨rfl,rfl⟩:=da e
  refine⟨l,i,S,_,g,ok,m,λk v s x st r=> ?_⟩
  cases r
  exact⟨_,rfl,q _ _ x st⟩
 ·cases e
noncomputable def pE(f:bV)(lo hi:LW):bV:=λg S=>(f g S).bind λ(d,i)=>(lo g i).bind λ(l,m)=>(hi g m).bind λ(h,k)=>match d with
 |.tup j=>some (.tup (jh j l h),k)
 |_=>none
def cX{lo hi:Option Expr}{G:Pos}{f:bV}{l h:LW}(he:PE X e (tD (md X) f))(J:PO X lo (NG (md X) l))(M:PO X hi (NG (md X) h)):PE X (.Subscript e (.Slice lo hi none G) pos) (tD (md X) (pE f l h)):=
 lO (Hy Jc he J M) λσ H Q P=>by
  obtain⟨R,m,S,d,Z,ok,e,q⟩:=P
  obtain⟨⟨x,w⟩,W,e⟩:=aw e
  obtain⟨⟨C,F⟩,L,e⟩:=aw e
  obtain⟨⟨A,U⟩,I,e⟩:=aw e
  cases x with
  | tup y=>
    dsimp only at e
    obtain⟨rfl,rfl⟩:=da e
    refine⟨R,m,S,_,w,ok,W,λs v H1 u j K=>⟨s,m,w,C,F,ok.to u j,L,λo H2 n t=>⟨o,m,F,A,U,(ok.to u j).to n t,I,λY H3 z g=> ?_⟩⟩⟩
    have i:=(u.trans n).trans z
    have N:=K.ext (n.trans z)
    cases N with
    | tup B k=>
      refine⟨_,_,rfl,jy.of B,λc=> ?_,λc p r=> ?_⟩
      · have:jh y C A=y:=Jk (by rw[k.length];exact c.1) (by rw[k.length];exact c.2)
        rw[this] at q
        exact q _ _ _ i g (.tup B k)
      · exact q _ _ _ (i.trans (cU.laid r)) (g.lay r) (.tup cA (k.cut3.ext (cU.laid r)))
  |_=>cases e
open Classical in
def CT(f g:gu):iH:=λh S=>(f h S).bind λ(p,i)=>(g h i).bind λ(r,d)=>if p.2.isM=true/\r.2.isM=true/\p.2.stays d p.1/\p.1.length+r.1.length<=sizeLine then some (p.1++r.1,d) else none
def Dz{f g:gu}(G:PE X a (tQ (md X) f))(N:PE X b (tQ (md X) g)):PE X (.BinOp a .Add b pos) (tL (md X) (CT f g)):=lO (rN Ky G N) λU H Q K=>by
 obtain⟨L,o,S,d,R,ok,e,q⟩:=K
 obtain⟨⟨⟨x,t⟩,n⟩,P,e⟩:=aw e
 obtain⟨⟨⟨w,J⟩,C⟩,A,e⟩:=aw e
 dsimp only at e
 split at e
 ·rename_i c
  obtain⟨rfl,rfl⟩:=da e
  refine⟨L,o,S,x,t,n,ok,P,λl a W H1 u k I y=>⟨l,o,n,w,J,C,ok.to u k,A,λF b M H2 r i B v=> ?_⟩⟩
  obtain⟨m,z,s⟩:=I.to y r i c.2.2.1
  have h:=u.trans r
  refine⟨_,_,m,M,rfl,rfl,z.sqM c.1,B.sqM c.2.1,by rw[←s.length,←v.length];exact c.2.2.2,λp j=> ?_⟩
  exact q _ _ _ _ (h.trans (cU.laid j)) (i.lay j) (h.grow _ j) (eQ h i j) cA ((s.append v).ext (cU.laid j))
 ·cases e
open Classical in
def Iq(f:gu)(g:bV):iH:=λh S=>(f h S).bind λ(p,i)=>(g h i).bind λ(r,d)=>match r with
 |.int k=>if p.2.isM=true/\p.2.stays d p.1/\ -(2^63)<=k/\k<2^63/\p.1.length*k.toNat<=sizeLine then some ((List.replicate k.toNat p.1).flatten,d) else none
 |_=>none
def M8{f:gu}{g:bV}(G:PE X a (tQ (md X) f))(L:PE X b (tD (md X) g)):PE X (.BinOp a .Mult b pos) (tL (md X) (Iq f g)):=lO (rN Ki G L) λR H Q J=>by
 obtain⟨K,s,S,d,P,ok,e,q⟩:=J
 obtain⟨⟨⟨y,t⟩,o⟩,M,e⟩:=aw e
 obtain⟨⟨r,C⟩,B,e⟩:=aw e
 cases r with
 | int k=>
   dsimp only at e
   split at e
   · rename_i c
     obtain⟨rfl,rfl⟩:=da e
     refine⟨K,s,S,y,t,o,ok,M,λm a U H1 x l I z=>⟨m,s,o,_,C,ok.to x l,B,λF w H2 u i N=> ?_⟩⟩
     obtain⟨n,A,v⟩:=I.to z u i c.2.1
     have h:=x.trans u
     cases N
     refine⟨_,k,n,rfl,rfl,A.sqM c.1,c.2.2.1,c.2.2.2.1,by rw[←v.length];exact c.2.2.2.2,λp j=> ?_⟩
     exact q _ _ _ _ (h.trans (cU.laid j)) (i.lay j) (h.grow _ j) (eQ h i j) cA ((v.rep _).ext (cU.laid j))
   · cases e
 |_=>cases e
open Classical in
def eK(f:gu):bV:=λg S=>(f g S).bind λ(p,d)=>if p.2.isL=true/\p.2.stays d p.1 then some (.bl (!p.1.isEmpty),d) else none
def Jq{f:gu}:∀σ H Q,tD (md X) (eK f) σ H Q->Ka (G_ X.K) (tQ (md X) f) (tL (md X) (cp ay)) σ H Q:=λσ H Q w=>by
 obtain⟨x,l,S,d,G,ok,e,q⟩:=w
 obtain⟨⟨⟨o,t⟩,h⟩,z,e⟩:=aw e
 dsimp only at e
 split at e
 ·rename_i c
  obtain⟨rfl,rfl⟩:=da e
  refine⟨x,l,S,o,t,h,ok,z,λk a F H1 n i u p=>⟨k,l,h,[],h,ok.to n i,rfl,λs b B H2 m g I C y A=> ?_⟩⟩
  obtain⟨j,r,v⟩:=u.to p m g c.2
  cases A
  refine⟨a,b,j,rfl,rfl,r.sqL c.1,jN.of y,?_⟩
  rw[←v.isEmpty]
  exact q _ _ _ (n.trans m) g (.bl _)
 ·cases e
def L8:PE X (.List [] pos) (tL (md X) (cp ay)):=df av
def gq{f:gu}{p:Pos}(g:X.A.units<cLine)(d:PE X a (tQ (md X) f)):PT X (.Compare a [.NotEq] [.List [] p] pos) (tB (md X) (aP (eK f))):=Cp Jq (tY (HF g) d L8 (aV _))
def g9.putL{M:Md}{ρ:List Addr}{S:aL}{H:Hp}{k:Nat}{a:Addr}{ds d:List D}{ws:List V}(st:g9 M ρ S H)(h:ρ[k]?=some a)(i:S[k]?=some (.lst ds))(r:bC M ρ H d ws):g9 M ρ (S.set k (.lst d)) (upd H a (.lst ws))/\cU ρ H ρ (upd H a (.lst ws)):=by
 obtain⟨j,g,l⟩:=st.obj k a _ h i
 exact st.put h i ⟨ws,cA,r.off g⟩ λx f=>by rw[g] at f;cases f;exact id
noncomputable def qo(m:List D->List D->Option (List D×D))(f:bV)(g:iH):bV:=λj S=>(f j S).bind λ(x,i)=>match x with
 | .ref k=>(g j i).bind λ(n,h)=>match i[k]?,h[k]? with
   |some (.lst _),some (.lst ds)=>(m ds n).bind λ(l,d)=>some (d,h.set k (.lst l))
   |_,_=>none
 |_=>none
def Lb(M:Md)(r:V->List V->Hp->VK->Prop)(m:List D->List D->Option (List D×D)):Prop:=∀{f:List Addr} {H:Hp} {a:Addr} {i k g:List D} {d:D} {l h:List V} {Q:VK},H a=some (.lst l)->bC M f H i l->bC M f H k h->m i k=some (g,d)→
 (∀j w,bC M f H g j->Rel M f H d w->Q w (upd H a (.lst j)))->r (.ref a) h H Q
def Nl{m:List D->List D->Option (List D×D)}{r:V->List V->Hp->VK->Prop}{f:bV}{g:iH}(F:Lb (md X) r m):∀σ H Q,tD (md X) (qo m f g) σ H Q->Nz X.K "list" r (tD (md X) f) (Bn (md X) g) σ H Q:=λσ H Q U=>by
 obtain⟨W,u,S,d,S',ok,e,q⟩:=U
 obtain⟨⟨x,t⟩,Z,e⟩:=aw e
 cases x with
 | ref k=>
   dsimp only at e
   obtain⟨⟨Y,L⟩,I,e⟩:=aw e
   dsimp only at e
   split at e
   · rename_i R ds s j
     obtain⟨⟨es,d'⟩,C,e⟩:=aw e
     obtain⟨rfl,rfl⟩:=da e
     refine⟨W,u,S,_,t,ok,Z,λp v H1 B i G=> ?_⟩
     cases G with
     | ref A=>
       rename_i a
       obtain⟨o,M,_⟩:=i.obj k a _ A s
       refine⟨.inl ⟨rfl,o,jN.of M⟩,p,u,t,Y,L,ok.to B i,I,λN us H2 z l r2=> ?_⟩
       have h:=dF z.pre A
       obtain⟨vs,P,J⟩:=l.obj k a _ h j
       refine F P J r2 C λws w rw rd=> ?_
       obtain⟨n,y⟩:=l.putL h j rw
       exact q _ _ _ ((B.trans z).trans y) n (rd.ext y)
   · cases e
 |_=>cases e
noncomputable def g6:List D->List D->Option (List D×D):=λd f=>match f with
 | [y]=>if d.length<sizeLine then some (d++ [y],.non) else none
 |_=>none
def LC{M:Md}:Lb M DT g6:=by
 intro o H a n p l d k m Q h g f e q
 unfold g6 at e
 split at e
 ·split at e
  ·rename_i i
   obtain⟨rfl,rfl⟩:=da e
   cases f with
   | cons f j=>
     cases j
     exact⟨a,k,_,rfl,rfl,h,by rw[←g.length];exact i,q _ _ (g.append (.cons f .nil)) .non⟩
  ·cases e
 ·cases e
def cR{f:bV}{g:bV}{o:Expr}{h d:Pos}(n:PE X o (tD (md X) f))(m:PE X e (tD (md X) g))(i:attributeBase o "append" X.env (eval o X.env)=eval o X.env:=by rfl) (k:((backTo d (starEach [e] X.env)).all (λx=> !x.1)&&(backToKw d (keywordEach [] X.env)).all (λx=>x.1.isSome)
   &&decide ([e].length+([]:List Keyword).length+(if ([]:List Keyword).isEmpty then 0 else 1)<30))=true:=by rfl)
  (j:(h.endLine==d.line)=true:=by rfl) (l:starEach [e] X.env= [(false,eval e X.env)]:=by rfl):PE X (.Call (.Attribute o "append" h) [e] [] d) (tD (md X) (qo g6 f (ar g ay))):=
 lO (wR PySem.F.plainAttrs_list PySem.F.slot_list_append PySem.F.type_list_append rG n (aq m av l) i k j l) (Nl LC)
end
section
variable{X:Cx}{a b c e:Expr}{pos:Pos}{st:Stmt}
noncomputable def oJ:List D->List D->Option (List D×D):=λd f=>match f with
 | [.int i]=>if -(2^63)<=i/\i<2^63 then(seqIndex? i d.length).bind λk=>(d[k]?).bind λy=>some (d.eraseIdx k,y) else none
 |_=>none
def HM{M:Md}:Lb M Ho oJ:=by
 intro w H a t x s d r u Q p g f e q
 unfold oJ at e
 split at e
 ·split at e
  ·rename_i i h
   obtain⟨k,j,e⟩:=aw e
   obtain⟨y,l,e⟩:=aw e
   obtain⟨rfl,rfl⟩:=da e
   cases f with
   | cons f m=>
     cases m
     cases f
     obtain⟨v,n,o⟩:=g.get l
     rw[g.length] at j
     exact⟨a,r,i,k,v,rfl,rfl,p,h.1,h.2,j,n,q _ _ (g.eraseIdx k) o⟩
  ·cases e
 ·cases e
def D7{f:bV}{g:bV}{o:Expr}{h d:Pos}(n:PE X o (tD (md X) f))(m:PE X e (tD (md X) g))(i:attributeBase o "pop" X.env (eval o X.env)=eval o X.env:=by rfl) (k:((backTo d (starEach [e] X.env)).all (λx=> !x.1)&&(backToKw d (keywordEach [] X.env)).all (λx=>x.1.isSome)
   &&decide ([e].length+([]:List Keyword).length+(if ([]:List Keyword).isEmpty then 0 else 1)<30))=true:=by rfl)
  (j:(h.endLine==d.line)=true:=by rfl) (l:starEach [e] X.env= [(false,eval e X.env)]:=by rfl):PE X (.Call (.Attribute o "pop" h) [e] [] d) (tD (md X) (qo oJ f (ar g ay))):=
 lO (wR PySem.F.plainAttrs_list PySem.F.slot_list_pop PySem.F.type_list_pop Hh n (aq m av l) i k j l) (Nl HM)
noncomputable def ze(f:bV)(g:gu):bV:=λi S=>(f i S).bind λ(x,h)=>match x with
 | .ref k=>(g i h).bind λ(p,d)=>match h[k]?,d[k]? with
   |some (.lst _),some (.lst ds)=>if p.2.isM=true/\ds.length+p.1.length<=sizeLine then some (.non,d.set k (.lst (ds++p.1))) else none
   |_,_=>none
 |_=>none
def Ml{f:bV}{g:gu}:∀σ H Q,tD (md X) (ze f g) σ H Q->Nz X.K "list" Dc (tD (md X) f) (HI (tQ (md X) g) KF) σ H Q:=λσ H Q P=>by
 obtain⟨R,s,S,d,S',ok,e,q⟩:=P
 obtain⟨⟨x,r⟩,W,e⟩:=aw e
 cases x with
 | ref k=>
   dsimp only at e
   obtain⟨⟨⟨U,t⟩,Y⟩,F,e⟩:=aw e
   dsimp only at e
   split at e
   · rename_i N ds p j
     split at e
     · rename_i c
       obtain⟨rfl,rfl⟩:=da e
       refine⟨R,s,S,_,r,ok,W,λo v H1 z i B=> ?_⟩
       cases B with
       | ref y=>
         rename_i a
         obtain⟨n,J,_⟩:=i.obj k a _ y p
         refine⟨.inl ⟨rfl,n,jN.of J⟩,o,s,r,U,t,Y,ok.to z i,F,λM b I H2 w l G A=> ?_⟩
         have h:=dF w.pre y
         obtain⟨Z,C,u⟩:=l.obj k a _ h j
         refine⟨a,b,Z,I,rfl,rfl,C,G.sqM c.1,by rw[←u.length,←A.length];exact c.2,?_⟩
         obtain⟨m,L⟩:=l.putL h j (u.append A)
         exact q _ _ _ ((z.trans w).trans L) m .non
     · cases e
   · cases e
 |_=>cases e
def pS{f:bV}{g:gu}{o:Expr}{h d:Pos}(n:PE X o (tD (md X) f))(m:PE X e (tQ (md X) g))(i:attributeBase o "extend" X.env (eval o X.env)=eval o X.env:=by rfl) (k:((backTo d (starEach [e] X.env)).all (λx=> !x.1)&&(backToKw d (keywordEach [] X.env)).all (λx=>x.1.isSome)
   &&decide ([e].length+([]:List Keyword).length+(if ([]:List Keyword).isEmpty then 0 else 1)<30))=true:=by rfl)
  (j:(h.endLine==d.line)=true:=by rfl) (l:starEach [e] X.env= [(false,eval e X.env)]:=by rfl):PE X (.Call (.Attribute o "extend" h) [e] [] d) (tD (md X) (ze f g)):=
 lO (wR PySem.F.plainAttrs_list PySem.F.slot_list_extend PySem.F.type_list_extend Fc n (eG m hJ l) i k j l) Ml
noncomputable def L1(f g:bV):o_:=λd h S=>(f h S).bind λ(x,m)=>(g h m).bind λ(y,l)=>match x,y with
 | .ref k,.int i=>match l[k]? with
   |some (.lst ds)=>(FJ ds.length i).bind λj=>some (h,l.set k (.lst (ds.set j d)))
   |_=>none
 |_,_=>none
def NY{f g:bV}:∀v σ H Q,tG (md X) (L1 f g) v σ H Q->Mm (tD (md X) f) (tD (md X) g) J1 v σ H Q:=λv σ H Q L=>by
 obtain⟨M,t,S,d,K,Z,ok,r,e,q⟩:=L
 obtain⟨⟨x,s⟩,N,e⟩:=aw e
 obtain⟨⟨y,P⟩,I,e⟩:=aw e
 cases x with
 | ref k=>
   cases y with
   | int i=>
     dsimp only at e
     split at e
     · rename_i W w
       obtain⟨j,F,e⟩:=aw e
       obtain⟨rfl,rfl⟩:=da e
       refine⟨M,t,S,_,s,ok,N,λp v1 H1 C o m=>⟨p,t,s,_,P,ok.to C o,I,λJ Y H2 A l U=> ?_⟩⟩
       cases U
       have m:=m.ext A
       cases m with
       | ref B=>
         obtain⟨R,G,u⟩:=l.obj k _ _ B w
         have h:=C.trans A
         obtain⟨n,z⟩:=l.putL B w (bC.set (r.ext h) j u)
         exact⟨_,R,i,j,rfl,rfl,G,by rw[←u.length];exact F,q _ _ _ (h.trans z) ((ok.to h l).to z n)⟩
     · cases e
   |_=>cases e
 |_=>cases e
def JX{o i:Expr}{f g:bV}(h:PE X o (tD (md X) f))(hi:PE X i (tD (md X) g))
  (d:∀v,assign (.Subscript o i pos) X.env v=(do
   let ov←holding [v] (eval o X.env)
   let iv←holding [v,ov] (eval i X.env)
   standAt pos
   holding [v,ov,iv] (setItem ov iv v)
   release [v,ov,iv] []):=by intro _;rfl):PG X (.Subscript o i pos) (tG (md X) (L1 f g)):=N3 (La h hi set_list d) NY
noncomputable def NH(f g h:bV):dm:=λd S=>(f d S).bind λ(x,p)=>(g d p).bind λ(y,l)=>match x,y with
 | .ref k,.int i=>match l[k]? with
   | some (.lst ds)=>if 0<=i then(ds[i.toNat]?).bind λz=>(h d l).bind λ(w,o)=>match z,w,o[k]? with
     |.int m,.int n,some (.lst es)=>(FJ es.length i).bind λj=>some (.nx d (o.set k (.lst (es.set j (.int (m+n))))))
     |_,_,_=>none
     else none
   |_=>none
 |_,_=>none
def Kx{o i e:Expr}{f g h:bV}{t:Pos}(ho:PE X o (tD (md X) f))(hi:PE X i (tD (md X) g))(he:PE X e (tD (md X) h))
  (B:∀A C new,augStore i A C new=(do holding [new,A,C] (setItem A C new);release [new,A,C] [];pure .next):=by intros;rfl):PS X (.AugAssign (.Subscript o i t) .Add e pos) (tS (md X) (NH f g h)):=
 Dd (Iz ho hi GY he LD set_list B) λD σ H qq=>by
  obtain⟨ρ,I,S,o,ok,e,q⟩:=qq
  obtain⟨⟨x,N⟩,e1,e⟩:=aw e
  obtain⟨⟨y,Q⟩,e2,e⟩:=aw e
  cases x with
  | ref k=>
    cases y with
    | int i=>
      dsimp only at e
      split at e
      · rename_i ds hs
        split at e
        · rename_i hi
          obtain⟨z,e3,e⟩:=aw e
          obtain⟨⟨w,Z⟩,e4,e⟩:=aw e
          cases z with
          | int m=>
            cases w with
            | int n=>
              cases d:Z[k]? with
              |none=>rw[d] at e;cases e
              | some o3=>
                rw[d] at e
                cases o3 with
                | lst es=>
                  dsimp only at e
                  obtain⟨j,e5,e⟩:=aw e
                  cases e
                  refine⟨ρ,I,S,_,N,ok,e1,λM v1 H1 Y K G=>⟨M,I,N,_,Q,ok.to Y K,e2,λJ v2 H2 U u r2=> ?_⟩⟩
                  cases r2
                  have G:=G.ext U
                  cases G with
                  | ref B=>
                    have s:=Y.trans U
                    obtain⟨vs,h3,h4⟩:=u.obj k _ _ B hs
                    obtain⟨v,h5,h6⟩:=h4.get e3
                    cases h6
                    refine⟨_,vs,i.toNat,_,rfl,by rw[Int.toNat_of_nonneg hi],jN.of h3,h5,J,I,Q,_,Z,ok.to s u,e4,λa0 v3 H3 R l r3=> ?_⟩
                    cases r3
                    have p:=dF R.pre B
                    obtain⟨F,g3,P⟩:=l.obj k _ _ p d
                    have r:=s.trans R
                    obtain⟨L,W⟩:=l.putL p d (bC.set (.int (m+n)) j P)
                    exact⟨m,n,rfl,rfl,_,F,i,j,rfl,rfl,g3,by rw[←P.length];exact e5,q _ _ _ (r.trans W) ((ok.to r l).to W L)⟩
                |_=>cases e
            |_=>cases e
          |_=>cases e
        · cases e
      · cases e
    |_=>cases e
  |_=>cases e
noncomputable def I0(i j:Nat)(f:iH):dm:=λd S=>(f d S).bind λ(h,g)=>match h with
 | [v,w]=>some (.nx ((d.set i (some v)).set j (some w)) g)
 |_=>none
def M5{i j:Nat}{f:iH}(h:PS X st (Na i j (Bn (md X) f))):PS X st (tS (md X) (I0 i j f)):=Dd h λD u H m=>by
 obtain⟨p,k,S,o,ok,e,q⟩:=m
 obtain⟨⟨t,g⟩,s,e⟩:=aw e
 dsimp only at e
 split at e
 ·cases e
  refine⟨p,k,S,_,g,ok,s,λn w v x st r=> ?_⟩
  cases r with
  | cons r d=>
    cases d with
    | cons l d=>
      cases d
      exact⟨_,_,rfl,q _ _ _ x ⟨((ok.en.ext x).set r).set l,st⟩⟩
 ·cases e
end
noncomputable def fj(cells:List (Str×Addr)):List (Str×NameKind)->List (Str×Addr)->List (Str×Addr)
 | [],acc=>acc
 |(n,k)::r,acc=>if (k==.free)=true then fj cells r ((n,(cells.lookup n).getD 0)::acc) else fj cells r acc
theorem qR{env:Env}:∀(names:List (Str×NameKind)) (b:List (Str×Addr)),(∀y∈names,y.2=.free->(env.cells.lookup y.1).isSome=true)→
  (forIn names b λ(x:Str×NameKind) (f:List (Str×Addr))=>(do
   if (x.2==NameKind.free)=true then do
    let c←cellOf env x.1
    pure (ForInStep.yield ((x.1,c)::f))
   else pure (ForInStep.yield f):Sem (ForInStep (List (Str×Addr)))))=(pure (fj env.cells names b):Sem _)
 | [],b,_=>rfl
 | (n,k)::r,b,h=>by
   rw[List.forIn_cons]
   unfold fj
   by_cases c:(k==NameKind.free)=true
   · obtain⟨a,e⟩:=Option.isSome_iff_exists.mp (h (n,k) QBq (by simpa using c))
     simp only[c,if_true]
     have g:cellOf env n=pure a:=by
       unfold cellOf
       rw[e]
     rw[g,pure_bind,pure_bind,e]
     exact qR r _ λy d=>h y (Qpq _ d)
   · simp only[c,Bool.false_eq_true,if_false]
     rw[pure_bind]
     exact qR r _ λy d=>h y (Qpq _ d)
def Hw{a:Scope}{env:Env}(h:∀y∈a.names,y.2=.free->(env.cells.lookup y.1).isSome=true):closureFor a env=pure (fj env.cells a.names []):=by
 unfold closureFor
 have:=qR a.names [] h
 rw[bind_pure]
 exact this
theorem uG{cells:List (Str×Addr)}:∀(names:List (Str×NameKind)) (a:List (Str×Addr)) (p:Str×Addr),p∈fj cells names a->p∈a\/∃n,(n,NameKind.free)∈names/\p=(n,(cells.lookup n).getD 0)
 | [],a,p,h=>.inl h
 | (n,k)::r,a,p,h=>by
   unfold fj at h
   split at h
   · rename_i c
     rcases uG r _ p h with h|⟨m,b,d⟩
     · rcases Qsq.mp h with h|h
       · exact .inr ⟨n,by rw[show k=NameKind.free by simpa using c];exact QBq,h⟩
       · exact .inl h
     · exact .inr ⟨m,Qpq _ b,d⟩
   · rcases uG r _ p h with h|⟨m,b,d⟩
     · exact .inl h
     · exact .inr ⟨m,Qpq _ b,d⟩
theorem u7{cells:List (Str×Addr)}{x:Str}:∀(names:List (Str×NameKind)) (a:List (Str×Addr)),((x,NameKind.free)∈names\/∃c,(x,c)∈a)->∃c,(x,c)∈fj cells names a
 | [],a,h=>by
   rcases h with h|h
   · cases h
   · exact h
 | (n,k)::r,a,h=>by
   unfold fj
   split
   · rename_i c
     refine u7 r _ ?_
     rcases h with h|⟨c,h⟩
     · rcases Qsq.mp h with h|h
       · cases h;exact .inr ⟨_,QBq⟩
       · exact .inl h
     · exact .inr ⟨c,Qpq _ h⟩
   · rename_i c
     refine u7 r _ ?_
     rcases h with h|h
     · rcases Qsq.mp h with h|h
       · cases h;exact absurd rfl c
       · exact .inl h
     · exact .inr h
theorem nR{x:Str}{c:Addr}:∀{l:List (Str×Addr)},(x,c)∈l->∃b,l.lookup x=some b
 | [],h=>by cases h
 | (n,d)::r,h=>by
   unfold List.lookup
   by_cases e:(x==n)=true
   · rw[e];exact⟨d,rfl⟩
   · have a:(x==n)=false:=by simpa using e
     rw[a]
     rcases Qsq.mp h with h|h
     · cases h;simp at e
     · exact nR h
noncomputable def uW(b:List Str)(a:Str->Option NameKind)(names:List (Str×NameKind)):List (Option Nat)->List Str->Bool
 |some j::js,x::N=>(b[j]? ==some x)&&(a x==some .cell||a x==some .free)&&(names.lookup x==some .free)&&uW b a names js N
 |none::js,_::N=>uW b a names js N
 |_,_=>true
theorem ue{b:List Str}{a:Str->Option NameKind}{names:List (Str×NameKind)}:∀{js:List (Option Nat)} {N:List Str} {k j:Nat} {x:Str},uW b a names js N=true->js[k]?=some (some j)->N[k]?=some x->b[j]?=some x/\(a x=some .cell\/a x=some .free)/\names.lookup x=some .free
 | some i::js,y::N,0,j,x,h,h1,h2=>by
   cases h1
   cases h2
   simp only[uW,QCq,Bool.or_eq_true,beq_iff_eq] at h
   exact⟨h.1.1.1,h.1.1.2,h.1.2⟩
 | some i::js,y::N,k+1,j,x,h,h1,h2=>by
   simp only[uW,QCq] at h
   exact ue h.2 (by simpa using h1) (by simpa using h2)
 |none::js,y::N,0,j,x,h,h1,h2=>by cases h1
 |none::js,y::N,k+1,j,x,h,h1,h2=>ue (k:=k) (by simpa [uW] using h) (by simpa using h1) (by simpa using h2)
 | [],N,k,j,x,h,h1,h2=>by simp at h1
 |some i::js,[],k,j,x,h,h1,h2=>by simp at h2
 |none::js,[],k,j,x,h,h1,h2=>by simp at h2
theorem pY{env:Env}{x:Str}:∀{names:List (Str×NameKind)},names.lookup x=some .free->(names.map λ(n,k)=>if (k==NameKind.free&&env.scope.kind==.function&&env.kindOf n==some .cell) then(n,NameKind.cell) else(n,k)).lookup x=some .cell∨
  (names.map λ(n,k)=>if (k==NameKind.free&&env.scope.kind==.function&&env.kindOf n==some .cell) then(n,NameKind.cell) else(n,k)).lookup x=some .free
 | [],h=>by cases h
 | (n,k)::r,h=>by
   unfold List.lookup at h
   rw[QDq]
   by_cases e:(x==n)=true
   · rw[e] at h
     cases h
     dsimp only
     split
     · left;unfold List.lookup;rw[e]
     · right;unfold List.lookup;rw[e]
   · have a:(x==n)=false:=by simpa using e
     rw[a] at h
     have b:=pY (env:=env) h
     dsimp only
     split <;>(unfold List.lookup;rw[a];exact b)
def aZ.gen{X:Cx}{N:List Str}{js:List (Option Nat)}{d:Scope}(k:d.kind=.function)(p:d.names.all (λy=>y.2 !=.cell)=true)(u:d.names.all (λy=>y.2 !=.local||d.names.lookup y.1==some .local)=true)
  (o:d.names.all (λy=>y.2 !=.free||(X.env.cells.lookup y.1).isSome)=true) (t:uW X.N X.env.kindOf d.names js N=true) (A:js.length=N.length):aZ X N js d (fj X.env.cells d.names []) where
 kind:=k
 nocell:=λy f=>by
  have:=QUq.mp p y f
  simpa using this
 names:=λy f e=>by
  have:=QUq.mp u y f
  rw[e] at this
  simpa using this
 clos:=Hw λy f e=>by
  have:=QUq.mp o y f
  rw[e] at this
  simpa using this
 sub:=λx c h=>by
  rcases uG _ _ _ (PySem.mem_of_lookup h) with h|⟨n,m,e⟩
  ·cases h
  ·cases e
   have:=QUq.mp o _ m
   have v:(X.env.cells.lookup x).isSome=true:=by simpa using this
   obtain⟨c,g⟩:=Option.isSome_iff_exists.mp v
   rw[g]
   rfl
 has:=λx h=>by
  have l:(x,NameKind.free)∈d.names:=by
   have:∃k,(relabel d X.env).names.lookup x=some k/\(k=.cell\/k=.free):=by
    rcases h with h|h
    ·exact⟨_,h,.inl rfl⟩
    ·exact⟨_,h,.inr rfl⟩
   obtain⟨B,r,g⟩:=this
   have q:=PySem.mem_of_lookup r
   unfold relabel at q
   obtain⟨⟨n,w⟩,f,i⟩:=Qkq.mp q
   dsimp only at i
   split at i
   ·rename_i c
    cases i
    simp only[QCq] at c
    have:w=NameKind.free:=by simpa using c.1.1
    rw[←this]
    exact f
   ·cases i
    rcases g with z|z
    ·have:=QUq.mp p _ f
     rw[z] at this
     simp at this
    ·rw[←z];exact f
  obtain⟨c,g⟩:=u7 (cells:=X.env.cells) d.names [] (.inl l)
  exact nR g
 cap:=λk j x s m=>by
  obtain⟨a,b,c⟩:=ue t s m
  refine⟨a,b,?_⟩
  unfold relabel
  exact pY c
 len:=A
structure fL(P:Program)(w:World)(K:PySem.W.Frag)(mg:Str->Option Value)(base:Heap)(k:Nat)(x:Str)(ps:List Str)(F:dP):Prop where
 ex:∃f fd,bO P w K mg base eN k f fd ps (fm ⟨K,mg⟩ ps.length F)/\Binds K fd ps []/\PySem.W.keepIn K (.ref f)=true/\mg x=some (.ref f)
section
variable{X:Cx}{x:Str}{k n:Nat}{ps:List Str}{F:dP}{e:Expr}{es:List Expr}{g:iH}{p pos:Pos}
def M1(C:fL X.prog X.w X.K X.mg X.base k x ps F)(d:gN k X.A)(i:Gl X x)(c:PA X (e::es) (Bn (md X) g))(j:nA ps.length g)
  (a:(x==("__debug__":Str))=false:=by decide) (he:starEach (e::es) X.env=(false,eval e X.env)::starEach es X.env:=by rfl) (hpl:(backTo pos (starEach es X.env)).any (·.1)=false:=by rfl):
  PE X (.Call (.Name x p) (e::es) [] pos) (tD (md X) (aB F g)):=by
 obtain⟨f,l,G,b,h,m⟩:=C.ex
 exact Kt G d i m h b c j a he hpl
def MA(C:fL X.prog X.w X.K X.mg X.base k x ps F)(d:gN k X.A)(i:Gl X x)(c:PA X (e::es) (Bn (md X) g))(j:nA ps.length g)
  (a:(x==("__debug__":Str))=false:=by decide) (he:starEach (e::es) X.env=(false,eval e X.env)::starEach es X.env:=by rfl) (hpl:(backTo pos (starEach es X.env)).any (·.1)=false:=by rfl):
  PE X (.Call (.Name x p) (e::es) [] pos) (tL (md X) (eF F g)):=by
 obtain⟨f,l,G,b,h,m⟩:=C.ex
 exact K7 G d i m h b c j a he hpl
end
def fL.mono{P:Program}{w:World}{K:PySem.W.Frag}{mg:Str->Option Value}{base:Heap}{j k:Nat}{x:Str}{ps:List Str}{F:dP}(C:fL P w K mg base j x ps F)(h:j<=k):fL P w K mg base k x ps F:=by
 obtain⟨f,c,G,b,a,m⟩:=C.ex
 exact⟨f,c,G.mono h,b,a,m⟩
structure Bl(mg:Str->Option Value):Prop where
 len:mg "len"=none
 tuple:mg "tuple"=none
 list:mg "list"=none
 dict:mg "dict"=none
 set:mg "set"=none
 int:mg "int"=none
 str:mg "str"=none
 bool:mg "bool"=none
 all:mg "all"=none
 any:mg "any"=none
 range:mg "range"=none
 zip:mg "zip"=none
 sorted:mg "sorted"=none
 isi:mg "isinstance"=none
 min:mg "min"=none
 max:mg "max"=none
 abs:mg "abs"=none
 enum:mg "enumerate"=none
open AutoSeq1 in
def oW(l:Addr)(items:Array Value)(n:Nat)(b:Addr)(a:Array Value)(p:Nat)(o:Option Addr)(m:Array (Option Value))(k:¬(!items.isEmpty&&Builtin.List.listTooLong (items.size+a.size))=true)(f:items.size<=sizeLine)(e:items.size+a.size<=sizeLine+1):
  Meets (Builtin.«list.extend» ⟨[.ref l,.ref b],[]⟩) (λ_ R s=>s.heap.get? l=some {cls:=.type "list",dict:=none,data:=.seq items n,slots:= #[]}/\s.heap.get? b=some {cls:=.type "tuple",dict:=o,data:=.seq a p,slots:=m}/\R (.ok (.ret Value.none)) {s with heap:=s.heap.update l (Obj.mapSeq λx=>x++a),toks:=s.toks}):=
 .of_wp λj w A R s h=>by
  obtain⟨B,g,d,y,r⟩:=s;obtain⟨i,q,h⟩:=h;have C:=idx_int;have z:=AutoSeq1.sub_tuple_tuple;have t:=AutoSeq1.sub_list_list;have u:=AutoSeq1.sub_tuple_list;have v:=AutoSeq1.sub_list_tuple;
  have c:(items++a).size<=sizeLine+1:=by rw[Array.size_append];exact e
  wp_walk using (wpAny_updateSeq i rfl (hz:=f) (_hz':=c)),AutoSeq1.wpAny_loadPart' i,AutoSeq1.wpAny_loadPart' q;exact⟨_,rfl,h⟩
section
variable{X:Cx}{a b c e:Expr}{pos:Pos}{st:Stmt}
def Iv:NC X "list.extend" (λx vs H Q=>∃l b xs i,x=.ref l/\vs= [.ref b]/\H l=some (.lst xs)/\jy X.K H b i/\xs.length+i.length<=sizeLine/\Q .non (upd H l (.lst (xs++i)))):=by
 intro m s R H x vs v P Q I M w h
 obtain⟨l,b,xs,i,rfl,rfl,hH,hB,hz,q⟩:=h
 cases M
 obtain⟨u,rfl,ru⟩:=w.one
 cases ru
 obtain⟨z,f,n,r,N,e⟩:=I.lstM hH
 obtain⟨d,p,⟨⟨G,C,A,y⟩,t,o,J,k⟩,L⟩:=I.tuple hB
 have B:=p.length
 simp only at o k
 subst o k
 have j:f.toArray.size+d.toArray.size<=sizeLine:=by rw[Qjq,Qjq];omega
 have g:¬(!f.toArray.isEmpty&&Builtin.List.listTooLong (f.toArray.size+d.toArray.size))=true:=by
  rw[vm j,Bool.and_false]
  exact Qtq
 refine call_meets F.slot_list_extend ⟨_,e,rfl⟩ F.entry_list_extend (F.args_list_extend_2 _ _)
  (oW l f.toArray n b d.toArray J C y g (by rw[Qjq];omega) (by omega)) ⟨e,t,?_⟩
 refine⟨.non,_,I.lset (its':=f++d) hH e (by simp) (r.append p) ?_,rfl,q⟩
 rw[lQa]
 omega
noncomputable def wW(f:bV)(g:gu):bV:=λi S=>(f i S).bind λ(x,h)=>match x with
 | .ref k=>(g i h).bind λ(p,d)=>match h[k]?,d[k]? with
   |some (.lst _),some (.lst ds)=>if p.2.isL=false/\ds.length+p.1.length<=sizeLine then some (.non,d.set k (.lst (ds++p.1))) else none
   |_,_=>none
 |_=>none
def KG{f:bV}{g:gu}:∀σ H Q,tD (md X) (wW f g) σ H Q->Nz X.K "list" (λx vs H Q=>∃l b xs n,x=.ref l/\vs= [.ref b]/\H l=some (.lst xs)/\jy X.K H b n/\xs.length+n.length<=sizeLine/\Q .non (upd H l (.lst (xs++n)))) (tD (md X) f) (HI (tQ (md X) g) KF) σ H Q:=λσ H Q W=>by
 obtain⟨Y,w,S,d,S',ok,e,q⟩:=W
 obtain⟨⟨x,u⟩,e1,e⟩:=aw e
 cases x with
 | ref k=>
   dsimp only at e
   obtain⟨⟨⟨Z,t⟩,L⟩,I,e⟩:=aw e
   dsimp only at e
   split at e
   · rename_i U ds s j
     split at e
     · rename_i c
       obtain⟨rfl,rfl⟩:=da e
       refine⟨Y,w,S,_,u,ok,e1,λr v H1 B i F=> ?_⟩
       cases F with
       | ref A=>
         rename_i a
         obtain⟨p,N,_⟩:=i.obj k a _ A s
         refine⟨.inl ⟨rfl,p,jN.of N⟩,r,w,u,Z,t,L,ok.to B i,I,λR b M H2 z m J C=> ?_⟩
         have h:=dF z.pre A
         obtain⟨vs,G,y⟩:=m.obj k a _ h j
         refine⟨a,b,vs,M,rfl,rfl,G,J.sqT c.1,by rw[←y.length,←C.length];exact c.2,?_⟩
         obtain⟨o,P⟩:=m.putL h j (y.append C)
         exact q _ _ _ ((B.trans z).trans P) o .non
     · cases e
   · cases e
 |_=>cases e
def xa{f:bV}{g:gu}{o:Expr}{h d:Pos}(n:PE X o (tD (md X) f))(m:PE X e (tQ (md X) g))(i:attributeBase o "extend" X.env (eval o X.env)=eval o X.env:=by rfl) (k:((backTo d (starEach [e] X.env)).all (λx=> !x.1)&&(backToKw d (keywordEach [] X.env)).all (λx=>x.1.isSome)
   &&decide ([e].length+([]:List Keyword).length+(if ([]:List Keyword).isEmpty then 0 else 1)<30))=true:=by rfl)
  (j:(h.endLine==d.line)=true:=by rfl) (l:starEach [e] X.env= [(false,eval e X.env)]:=by rfl):PE X (.Call (.Attribute o "extend" h) [e] [] d) (tD (md X) (wW f g)):=
 lO (wR PySem.F.plainAttrs_list PySem.F.slot_list_extend PySem.F.type_list_extend Iv n (eG m hJ l) i k j l) KG
noncomputable def mB(x:V):List V->Option Nat
 | []=>none
 |y::r=>if ph y x=true then some 0 else(mB x r).map (·+1)
theorem Ep{x:V}:∀{xs:List V} {j:Nat},mB x xs=some j->(∃y,xs[j]?=some y/\ph y x=true)/\∀m y,m<j->xs[m]?=some y->ph y x=false
 | [],_,h=>by cases h
 | y::r,j,h=>by
   unfold mB at h
   split at h
   · rename_i c
     cases h
     exact⟨⟨y,rfl,c⟩,λm _ f=>absurd f (Nat.not_lt_zero _)⟩
   · rename_i c
     obtain⟨i,n,rfl⟩:=oQm.mp h
     obtain⟨⟨z,k,g⟩,l⟩:=Ep n
     refine⟨⟨z,by simpa using k,g⟩,λm w f d=> ?_⟩
     cases m with
     |zero=>cases d;simpa using c
     |succ m=>exact l m w (by omega) (by simpa using d)
def F7:NZ X "list.index" (λx vs H Q=>∃a xs y j,x=.ref a/\vs= [y]/\jN X.K H a xs/\iW y=true/\xs.all iW=true/\mB y xs=some j/\Q (.int (j:Nat)) H):=by
 intro C s σ H x vs v us Q I rx P h
 obtain⟨a,xs,y,j,rfl,rfl,hq,fy,fs,hj,q⟩:=h
 cases rx
 obtain⟨u,rfl,ru⟩:=P.one
 obtain⟨d,r,L,hz⟩:=I.list hq
 obtain⟨⟨Y,dd,W,R⟩,n,e,J,g,B⟩:=L
 simp only at J g B
 subst J g B
 obtain⟨⟨z,t,S⟩,M⟩:=Ep hj
 have hl:=r.length
 have U:j<xs.length:=(gQs.mp t).1
 obtain⟨w,l,o⟩:=r.get t
 have i:d.toArray[j]'(by rw[Qjq];omega)=w:=by
  have:=(gQs.mp l).2
  simpa using this
 have G:=lA
 refine call_meets PySem.F.slot_list_index ⟨_,e,rfl⟩ PySem.F.entry_list_index (PySem.F.args_list_index_2 _ _)
  (SeqAt.list_indexAt a d.toArray n none R u (BI y) j (by rw[Qjq];omega) (by omega) (by rw[i,zL o (QUq.mp fs z (mQg t))];exact S) λm hm k=> ?_)
  ⟨e,λw l=>kc ru fy r fs w (by simpa using l),⟨.int j,H,I.tok _,⟨_,rfl⟩,q⟩⟩
 have f:m<xs.length:=by rw[Qjq] at hm;omega
 obtain⟨Z,A,p⟩:=r.get (gQe f)
 have N:d.toArray[m]=Z:=by
  have:=(gQs.mp A).2
  simpa using this
 rw[N,zL p (QUq.mp fs _ (List.getElem_mem f))]
 exact M m _ k (gQe f)
end
end DL
namespace Zq
open PySem
def It(t:Bool)(h:Heap)(i a:Addr)(k:Nat):Prop:=if t=true then h.IsTupleIter i a k else h.IsListIter i a k
def Sq(t:Bool)(h:Heap)(a:Addr)(xs:Array Value):Prop:=if t=true then h.IsTuple a xs else h.IsList a xs
section
variable{t t2:Bool}{h h':Heap}{i j a b z O T:Addr}{k:Nat}{xs ys:Array Value}
theorem It.at(g:It t h i a k)(f:∀o,h.get? i=some o->h'.get? i=some o):It t h' i a k:=by
 cases t with
 |true=>exact(show h.IsTupleIter i a k from g).at f
 |false=>exact(show h.IsListIter i a k from g).at f
def It.ext{c:Addr}(g:It t h i a k)(f:Heap.ExtBut c h h')(n:i≠c):It t h' i a k:=g.at λo e=>f i o n e
def Sq.at(g:Sq t h a xs)(f:∀o,h.get? a=some o->h'.get? a=some o):Sq t h' a xs:=by
 cases t with
 |true=>obtain⟨o,e,r⟩:=(show h.IsTuple a xs from g);exact(show h'.IsTuple a xs from⟨o,f o e,r⟩)
 |false=>obtain⟨o,e,r⟩:=(show h.IsList a xs from g);exact(show h'.IsList a xs from⟨o,f o e,r⟩)
def Sq.ext{c:Addr}(g:Sq t h a xs)(f:Heap.ExtBut c h h')(n:a≠c):Sq t h' a xs:=g.at λo e=>f a o n e
def It.obj(g:It t h i a k):∃o,h.get? i=some o/\∀v,o.data≠.cell v:=by
 cases t with
 |true=>obtain⟨o,e,_,d⟩:=(show h.IsTupleIter i a k from g);exact⟨o,e,λv n=>by rw[d] at n;cases n⟩
 |false=>obtain⟨o,e,_,d⟩:=(show h.IsListIter i a k from g);exact⟨o,e,λv n=>by rw[d] at n;cases n⟩
end
section
variable{prog:Program}{w:World}{A:Around}{E:Value->Shared->Prop}{s:Shared}{t t2:Bool}{z T O i j a b:Addr}{k:Nat}{xs ys:Array Value}{x y u v:Value}
def draw{Q:Value->Shared->Prop}(e:It t s.heap i a k)(c:Sq t s.heap a xs)(d:xs[k]?=some v)
  (q:∀h',It t h' i a (k+1)->Heap.SameBut i s.heap h'->Q v {s with heap:=h'}):wpAny (model prog w) A (Builtin.SmallTypes.nextOf (.ref i)) Q E s:=by
 cases t with
 |true=>exact Zp.Nh e c d q
 |false=>exact wpAny_nextOf_list_item e c d q
def Ec{Q:Value->Shared->Prop}(d:A.handled=none)(g:It t s.heap i a k)(c:Sq t s.heap a xs)(f:xs[k]?=none)
  (q:∀h' e,Heap.ExtBut i s.heap h'->(∃o,h'.get? e=some o/\o.cls=.type "StopIteration")->E (.ref e) {s with heap:=h'}):wpAny (model prog w) A (Builtin.SmallTypes.nextOf (.ref i)) Q E s:=by
 cases t with
 |true=>exact Zp.Mo d g c f q
 |false=>exact wpAny_nextOf_list_end d g c f q
abbrev v8(h:Heap)(z T O:Addr)(d c:Value):Prop:=
 h.get? z=some {cls:=.type "zip",dict:=none,data:=.fields #[d,c,.bool false,.ref T,.ref O],slots:= #[]}
def item(D:ZipApart z T O i j a b){Q:Value->Shared->Prop}(m:v8 s.heap z T O .none (.bool false))(gT:IsPair s.heap T (.ref i) (.ref j))(gO:IsPair s.heap O u v)(gi:It t s.heap i a k)(gj:It t2 s.heap j b k)
  (ga:Sq t s.heap a xs) (gb:Sq t2 s.heap b ys) (ex:xs[k]?=some x) (ey:ys[k]?=some y)
  (q:∀h',v8 h' z T O (rawInt s.heap.objs.size) (.bool false)->IsPair h' O x y->It t h' i a (k+1)->It t2 h' j b (k+1)->IsPair h' s.heap.objs.size x y->Zp.Rest z O i j s.heap h'->Q (.ref s.heap.objs.size) {s with heap:=h'}):
  wpAny (model prog w) A (Builtin.«zip.__next__» ⟨[.ref z],[]⟩) (λM s'=>∃r,M=.done (.ret r)/\Q r s') E s:=by
 refine(?_:wpAny _ _ (field (.ref z) 2 >>= _) _ _ _)
 refine Qaq (QMq m rfl (x:=.bool false) rfl ?_)
 refine(?_:wpAny _ _ (field (.ref z) 3 >>= _) _ _ _)
 refine Qaq (QMq m rfl (x:=.ref T) rfl (Qaq (wpAny_seqItems gT rfl ?_)))
 refine(?_:wpAny _ _ (Builtin.SmallTypes.ownedTupleIsFree (.ref z) >>= _) _ _ _)
 refine Qaq ?_
 unfold Builtin.SmallTypes.ownedTupleIsFree
 refine Qaq (QMq m rfl (x:=.none) rfl (Qgq ?_))
 simp only[if_true]
 refine Qaq (wpAny_rule (Qaq (QMq m rfl (x:=.ref O) rfl (Qaq (wpAny_setField_rec m (by simp) λh1 J f=> ?_)))))
 replace J:v8 h1 z T O .ellipsis (.bool false):=J
 refine Qaq ?_
 simp only[List.zipIdx_cons,List.zipIdx_nil,List.forIn_nil,List.forIn_cons]
 refine Qaq (Qaq (wpAny_onRaise ?_))
 refine(?_:wpAny _ _ (Builtin.SmallTypes.nextOf (.ref i) >>= _) _ _ _)
 refine Qaq (draw (gi.ext f.extBut D.i1z) (ga.ext f.extBut D.l1z) ex λh2 i2 l=>Qgq ?_)
 have X:IsPair h2 O u v:=l.extBut _ _ D.TOi1 (f.extBut _ _ D.TOz gO)
 refine Qaq (wpAny_seqItems X rfl (Qaq (wpAny_updateSeq_pair X λh3 I h=>Qaq (wpAny_letGo (Qgq ?_)))))
 replace I:IsPair h3 O x v:=I
 refine Qaq (Qaq (wpAny_onRaise ?_))
 refine(?_:wpAny _ _ (Builtin.SmallTypes.nextOf (.ref j) >>= _) _ _ _)
 refine Qaq (draw (((gj.ext f.extBut D.i2z).ext l.extBut D.i12.symm).ext h.extBut D.TOi2.symm) (((gb.ext f.extBut D.l2z).ext l.extBut D.l2i1).ext h.extBut D.l2TO) ey λh4 j4 p=>Qgq ?_)
 have S:IsPair h4 O x v:=p.extBut _ _ D.TOi2 I
 refine Qaq (wpAny_seqItems S rfl (Qaq (wpAny_updateSeq_pair S λd C n=>Qaq (wpAny_letGo (Qgq (Qgq ?_))))))
 replace C:IsPair d O x y:=C
 refine Qaq (wpAny_seqItems C rfl (Qaq (wpAny_newTuple ?_)))
 have R:d.objs.size=s.heap.objs.size:=by rw[n.1,p.1,h.1,l.1,f.1]
 have W:v8 d z T O .ellipsis (.bool false):=n.extBut _ _ D.TOz.symm (p.extBut _ _ D.i2z.symm (h.extBut _ _ D.TOz.symm (l.extBut _ _ D.i1z.symm J)))
 have r5:Zp.Rest z O i j s.heap d:=λc o g F L K e=>n.extBut _ _ F (p.extBut _ _ K (h.extBut _ _ F (l.extBut _ _ L (f.extBut _ _ g e))))
 have i5:It t d i a (k+1):=((i2.ext h.extBut D.TOi1.symm).ext p.extBut D.i12).ext n.extBut D.TOi1.symm
 have j5:It t2 d j b (k+1):=j4.ext n.extBut D.TOi2.symm
 have Y:z<d.objs.size:=Qiq W
 refine(?_:wpAny _ _ (Builtin.SmallTypes.ownedTupleHandOut (.ref z) (.ref d.objs.size) >>= _) _ _ _)
 refine Qaq ?_
 unfold Builtin.SmallTypes.ownedTupleHandOut
 have z6:v8 (d.push {cls:=.type "tuple",data:=.seq #[x,y]}) z T O .ellipsis (.bool false):=Qcq _ W
 refine Qaq (wpAny_setField_rec z6 (by simp) λh7 N P=> ?_)
 replace N:v8 h7 z T O (rawInt d.objs.size) (.bool false):=N
 refine wpAny_setField_rec N (by simp) λH G Z=> ?_
 replace G:v8 H z T O (rawInt d.objs.size) (.bool false):=G
 have B:∀c o,c≠z->d.get? c=some o->H.get? c=some o:=λc o g e=>Z.extBut _ _ g (P.extBut _ _ g (Qcq _ e))
 have U:IsPair H d.objs.size x y:=Z.extBut _ _ (Nat.ne_of_gt Y) (P.extBut _ _ (Nat.ne_of_gt Y) (Qrq _ rfl))
 rw[R] at G U
 refine Qgq ⟨_,rfl,?_⟩
 refine(?_:Q (.ref d.objs.size) _)
 rw[R]
 exact q H G (B _ _ D.TOz C) (i5.at λo e=>B _ o D.i1z e) (j5.at λo e=>B _ o D.i2z e) U λc o g F L K e=>B c o g (r5 c o g F L K e)
def alive{α:Addr}{Q:Option Obj->Shared->Prop}(h:Q (s.heap.get? α) s):wpAny (model prog w) A (loadIfAlive α) Q E s:=λ_ _ _=>h
def again(D:ZipApart z T O i j a b){p:Addr}{S:Obj}{n:Value}{Q:Value->Shared->Prop}(g:v8 s.heap z T O (rawInt p) n)(Z:s.heap.get? p=some S)(L:IsPair s.heap T (.ref i) (.ref j))(X:It t s.heap i a k)(W:It t2 s.heap j b k)
  (ga:Sq t s.heap a xs) (M:Sq t2 s.heap b ys) (ex:xs[k]?=some x) (P:ys[k]?=some y)
  (q:∀h',v8 h' z T O (rawInt p) (.bool true)->It t h' i a (k+1)->It t2 h' j b (k+1)->IsPair h' s.heap.objs.size x y->Zp.Rest z O i j s.heap h'->Q (.ref s.heap.objs.size) {s with heap:=h'}):
  wpAny (model prog w) A (Builtin.«zip.__next__» ⟨[.ref z],[]⟩) (λH F=>∃r,H=.done (.ret r)/\Q r F) E s:=by
 refine(?_:wpAny _ _ (field (.ref z) 2 >>= _) _ _ _)
 refine Qaq (QMq g rfl (x:=.bool false) rfl ?_)
 refine(?_:wpAny _ _ (field (.ref z) 3 >>= _) _ _ _)
 refine Qaq (QMq g rfl (x:=.ref T) rfl (Qaq (wpAny_seqItems L rfl ?_)))
 refine(?_:wpAny _ _ (Builtin.SmallTypes.ownedTupleIsFree (.ref z) >>= _) _ _ _)
 refine Qaq ?_
 unfold Builtin.SmallTypes.ownedTupleIsFree
 refine Qaq (QMq g rfl (x:=rawInt p) rfl ?_)
 refine(?_:wpAny _ _ (loadIfAlive ((p:Int).toNat) >>= _) _ _ _)
 refine Qaq ?_
 rw[Int.toNat_natCast]
 refine alive ?_
 rw[Z]
 refine(?_:wpAny _ _ (field (.ref z) 1 >>= _) _ _ _)
 refine Qaq (QMq g rfl (x:=n) rfl ?_)
 have G:wpAny (model prog w) A (if (n !=Value.bool true)=true then(do let _←setField (.ref z) 1 (.bool true);pure false) else pure false)
   (λr F=>r=false/\∃l,F={s with heap:=l}/\v8 l z T O (rawInt p) (.bool true)/\Heap.SameBut z s.heap l) E s:=by
  by_cases c:(n !=Value.bool true)=true
  ·rw[Qhq c]
   exact Qaq (wpAny_setField_rec g (by simp) λl I d=>Qgq ⟨rfl,l,rfl,I,d⟩)
  ·rw[Quq c]
   have e:n=Value.bool true:=by simpa using c
   subst e
   exact Qgq ⟨rfl,s.heap,rfl,g,Heap.SameBut.refl _ _⟩
 refine QRq G (λr F J=> ?_) λ_ _ h=>h
 obtain⟨rfl,l,rfl,I,d⟩:=J
 simp only[Bool.false_eq_true,if_false]
 refine Qaq ?_
 simp only[List.forIn_toArray,List.forIn_cons,List.forIn_nil]
 refine Qaq (Qaq (QLq ?_))
 refine(?_:wpAny _ _ (Builtin.SmallTypes.nextOf (.ref i) >>= _) _ _ _)
 refine Qaq (draw (X.ext d.extBut D.i1z) (ga.ext d.extBut D.l1z) ex λh2 Y m=>Qgq (Qgq ?_))
 refine Qaq (Qaq (QLq ?_))
 refine(?_:wpAny _ _ (Builtin.SmallTypes.nextOf (.ref j) >>= _) _ _ _)
 refine Qaq (draw ((W.ext d.extBut D.i2z).ext m.extBut D.i12.symm) ((M.ext d.extBut D.l2z).ext m.extBut D.l2i1) P λf j4 B=>Qgq (Qgq (Qgq ?_)))
 refine Qaq (wpAny_newTuple ?_ (by show 2<=_;decide))
 have N:f.objs.size=s.heap.objs.size:=by rw[B.1,m.1,d.1]
 have C:∀c o,f.get? c=some o->(f.push {cls:=.type "tuple",data:=.seq #[x,y]}).get? c=some o:=λc o e=>Qcq _ e
 have K:IsPair (f.push {cls:=.type "tuple",data:=.seq #[x,y]}) f.objs.size x y:=Qrq _ rfl
 have z8:v8 (f.push {cls:=.type "tuple",data:=.seq #[x,y]}) z T O (rawInt p) (.bool true):=C _ _ (B.extBut _ _ D.i2z.symm (m.extBut _ _ D.i1z.symm I))
 refine Qgq ⟨_,rfl,?_⟩
 refine(?_:Q (.ref f.objs.size) _)
 rw[N] at K⊢
 exact q _ z8 ((Y.ext B.extBut D.i12).at λo e=>C _ o e) (j4.at λo e=>C _ o e) K λc o c1 c2 U R e=>C c o (B.extBut _ _ R (m.extBut _ _ U (d.extBut _ _ c1 e)))
def stop(D:ZipApart z T O i j a b){Q:Fin->Shared->Prop}(G:A.handled=none)(d:v8 s.heap z T O .none (.bool false))(H:IsPair s.heap T (.ref i) (.ref j))(N:It t s.heap i a k)(P:Sq t s.heap a xs)(ex:xs[k]?=none)
  (q:∀h' e,Zp.Rest z O i j s.heap h'->(∃o,h'.get? e=some o/\o.cls=.type "StopIteration")->E (.ref e) {s with heap:=h'}):
  wpAny (model prog w) A (Builtin.«zip.__next__» ⟨[.ref z],[]⟩) Q E s:=by
 refine(?_:wpAny _ _ (field (.ref z) 2 >>= _) _ _ _)
 refine Qaq (QMq d rfl (x:=.bool false) rfl ?_)
 refine(?_:wpAny _ _ (field (.ref z) 3 >>= _) _ _ _)
 refine Qaq (QMq d rfl (x:=.ref T) rfl (Qaq (wpAny_seqItems H rfl ?_)))
 refine(?_:wpAny _ _ (Builtin.SmallTypes.ownedTupleIsFree (.ref z) >>= _) _ _ _)
 refine Qaq ?_
 unfold Builtin.SmallTypes.ownedTupleIsFree
 refine Qaq (QMq d rfl (x:=.none) rfl (Qgq ?_))
 simp only[if_true]
 refine Qaq (wpAny_rule (Qaq (QMq d rfl (x:=.ref O) rfl (Qaq (wpAny_setField_rec d (by simp) λJ g h=> ?_)))))
 replace g:v8 J z T O .ellipsis (.bool false):=g
 refine Qaq ?_
 simp only[List.zipIdx_cons,List.zipIdx_nil,List.forIn_nil,List.forIn_cons]
 refine Qaq (Qaq (wpAny_onRaise ?_))
 refine(?_:wpAny _ _ (Builtin.SmallTypes.nextOf (.ref i) >>= _) _ _ _)
 refine Qaq (Ec G (N.ext h.extBut D.i1z) (P.ext h.extBut D.l1z) ex λI e r C=> ?_)
 obtain⟨L,f,p⟩:=C
 have l:v8 I z T O .ellipsis (.bool false):=r _ _ D.i1z.symm g
 have M:e≠z:=λn=>by rw[n,l] at f;cases f;simp at p
 exact wpAny_setField_rec l (by simp) λF _ m=>q F e (λc o B _ K _ n=>m.extBut _ _ B (r _ _ K (h.extBut _ _ B n))) ⟨L,m.extBut _ _ M f,p⟩
def MI(D:ZipApart z T O i j a b){p:Addr}{K:Obj}{l:Value}{Q:Fin->Shared->Prop}(H:A.handled=none)(d:v8 s.heap z T O (rawInt p) l)(P:s.heap.get? p=some K)(I:IsPair s.heap T (.ref i) (.ref j))(N:It t s.heap i a k)(S:Sq t s.heap a xs)(ex:xs[k]?=none)
  (q:∀h' e,Zp.Rest z O i j s.heap h'->(∃o,h'.get? e=some o/\o.cls=.type "StopIteration")->E (.ref e) {s with heap:=h'}):
  wpAny (model prog w) A (Builtin.«zip.__next__» ⟨[.ref z],[]⟩) Q E s:=by
 refine(?_:wpAny _ _ (field (.ref z) 2 >>= _) _ _ _)
 refine Qaq (QMq d rfl (x:=.bool false) rfl ?_)
 refine(?_:wpAny _ _ (field (.ref z) 3 >>= _) _ _ _)
 refine Qaq (QMq d rfl (x:=.ref T) rfl (Qaq (wpAny_seqItems I rfl ?_)))
 refine(?_:wpAny _ _ (Builtin.SmallTypes.ownedTupleIsFree (.ref z) >>= _) _ _ _)
 refine Qaq ?_
 unfold Builtin.SmallTypes.ownedTupleIsFree
 refine Qaq (QMq d rfl (x:=rawInt p) rfl ?_)
 refine(?_:wpAny _ _ (loadIfAlive ((p:Int).toNat) >>= _) _ _ _)
 refine Qaq ?_
 rw[Int.toNat_natCast]
 refine alive ?_
 rw[P]
 refine(?_:wpAny _ _ (field (.ref z) 1 >>= _) _ _ _)
 refine Qaq (QMq d rfl (x:=l) rfl ?_)
 have m:wpAny (model prog w) A (if (l !=Value.bool true)=true then(do let _←setField (.ref z) 1 (.bool true);pure false) else pure false)
   (λr C=>r=false/\∃f,C={s with heap:=f}/\v8 f z T O (rawInt p) (.bool true)/\Heap.SameBut z s.heap f) E s:=by
  by_cases c:(l !=Value.bool true)=true
  ·rw[Qhq c]
   exact Qaq (wpAny_setField_rec d (by simp) λf F g=>Qgq ⟨rfl,f,rfl,F,g⟩)
  ·rw[Quq c]
   have e:l=Value.bool true:=by simpa using c
   subst e
   exact Qgq ⟨rfl,s.heap,rfl,d,Heap.SameBut.refl _ _⟩
 refine QRq m (λr C B=> ?_) λ_ _ h=>h
 obtain⟨rfl,f,rfl,F,g⟩:=B
 simp only[Bool.false_eq_true,if_false]
 refine Qaq ?_
 simp only[List.forIn_toArray,List.forIn_cons,List.forIn_nil]
 refine Qaq (Qaq (QLq ?_))
 refine(?_:wpAny _ _ (Builtin.SmallTypes.nextOf (.ref i) >>= _) _ _ _)
 refine Qaq (Ec H (N.ext g.extBut D.i1z) (S.ext g.extBut D.l1z) ex λJ e M G=> ?_)
 exact q J e (λc o R _ L _ n=>M _ _ L (g.extBut _ _ R n)) G
def Zs(h:Heap)(z T O i j:Addr):Prop:=v8 h z T O .none (.bool false)/\(∃u v,IsPair h O u v)\/∃(p:Addr) (c:Obj) (d:Value),v8 h z T O (rawInt (p:Nat)) d/\h.get? p=some c/\p≠z/\p≠O/\p≠i/\p≠j
def Zs.but{h h':Heap}{S:Addr}(g:Zs h z T O i j)(f:∀c o,c≠S->h.get? c=some o->h'.get? c=some o)(e:z≠S)(C:O≠S)(r:∃o,h'.get? S=some o):Zs h' z T O i j:=by
 rcases g with⟨d,u,v,m⟩|⟨p,B,l,d,F,n⟩
 ·exact .inl ⟨f _ _ e d,u,v,f _ _ C m⟩
 ·by_cases c:p=S
  ·subst c
   obtain⟨o,q⟩:=r
   exact .inr ⟨p,o,l,f _ _ e d,q,n⟩
  ·exact .inr ⟨p,B,l,f _ _ e d,f _ _ c F,n⟩
def Ih(D:ZipApart z T O i j a b){Q:Option Value->Shared->Prop}(d:Zs s.heap z T O i j)(I:IsPair s.heap T (.ref i) (.ref j))(B:It t s.heap i a k)(r:It t2 s.heap j b k)
  (R:Sq t s.heap a xs) (J:Sq t2 s.heap b ys) (ex:xs[k]?=some x) (K:ys[k]?=some y)
  (q:∀h',Zs h' z T O i j->It t h' i a (k+1)->It t2 h' j b (k+1)->IsPair h' s.heap.objs.size x y->Zp.Rest z O i j s.heap h'->Q (some (.ref s.heap.objs.size)) {s with heap:=h'}):
  wpAny (model prog w) A (pyNext (.ref z)) Q E s:=by
 unfold pyNext
 have l:∀{c o},s.heap.get? c=some o->s.heap.objs.size≠c:=λe=>Nat.ne_of_gt (Qiq e)
 obtain⟨Y,W,_⟩:=B.obj
 obtain⟨Z,S,_⟩:=r.obj
 rcases d with⟨d,u,v,G⟩|⟨p,U,f1,d,P,L,H,M,N⟩
 ·have f:s.TypeIs (.ref z) "zip":=⟨_,d,rfl⟩
  exact Qaq (wpAny_attempt (QiQ (name:=Str.ofString "__next__") f F.slot_zip_next (wpAny_call_entry F.slot_zip_next f F.entry_zip_next
   (item D d I G B r R J ex K λh' C X m n g h=>Qgq (q h' (.inr ⟨_,_,_,C,g,l d,l G,l W,l S⟩) m n g h)) (F.args_zip_next_1 _))))
 ·have f:s.TypeIs (.ref z) "zip":=⟨_,d,rfl⟩
  exact Qaq (wpAny_attempt (QiQ (name:=Str.ofString "__next__") f F.slot_zip_next (wpAny_call_entry F.slot_zip_next f F.entry_zip_next
   (again D d P I B r R J ex K λh' C m n g h=>Qgq (q h' (.inr ⟨p,U,_,C,h _ _ L H M N P,L,H,M,N⟩) m n g h)) (F.args_zip_next_1 _))))
def AC(D:ZipApart z T O i j a b){Q:Option Value->Shared->Prop}(h:A.handled=none)(c:Zs s.heap z T O i j)(l:IsPair s.heap T (.ref i) (.ref j))(m:It t s.heap i a k)(n:Sq t s.heap a xs)(ex:xs[k]?=none)
  (q:∀h',Zp.Rest z O i j s.heap h'->Q none {s with heap:=h'}):wpAny (model prog w) A (pyNext (.ref z)) Q E s:=by
 unfold pyNext
 rcases c with⟨c,u,v,C⟩|⟨p,G,H,c,B,_⟩
 ·have d:s.TypeIs (.ref z) "zip":=⟨_,c,rfl⟩
  exact Qaq (wpAny_attempt (QiQ (name:=Str.ofString "__next__") d F.slot_zip_next (wpAny_call_entry F.slot_zip_next d F.entry_zip_next
   (stop D h c l m n ex λh' e r ⟨o,f,g⟩=>Qaq (wpAny_isInstance (T:="StopIteration") (b:=true) ⟨o,f,g⟩ isSubtype_stop (Qgq (q _ r)))) (F.args_zip_next_1 _))))
 ·have d:s.TypeIs (.ref z) "zip":=⟨_,c,rfl⟩
  exact Qaq (wpAny_attempt (QiQ (name:=Str.ofString "__next__") d F.slot_zip_next (wpAny_call_entry F.slot_zip_next d F.entry_zip_next
   (MI D h c B l m n ex λh' e r ⟨o,f,g⟩=>Qaq (wpAny_isInstance (T:="StopIteration") (b:=true) ⟨o,f,g⟩ isSubtype_stop (Qgq (q _ r)))) (F.args_zip_next_1 _))))
end
noncomputable def Oo(t:Bool):String:=if t=true then "tuple_iterator" else "list_iterator"
noncomputable abbrev H1(t:Bool)(h:Heap)(a:Addr):Heap:=h.push {cls:=.type (Oo t),data:=.fields #[.ref a,.int 0 0]}
noncomputable abbrev H2(t t2:Bool)(h:Heap)(a b:Addr):Heap:=(H1 t h a).push {cls:=.type (Oo t2),data:=.fields #[.ref b,.int 0 0]}
noncomputable abbrev H3(t t2:Bool)(h:Heap)(a b:Addr):Heap:=(H2 t t2 h a b).push {cls:=.type "tuple",data:=.seq #[.ref h.objs.size,.ref (H1 t h a).objs.size]}
noncomputable abbrev H4(t t2:Bool)(h:Heap)(a b:Addr):Heap:=(H3 t t2 h a b).push {cls:=.type "tuple",data:=.seq #[.none,.none]}
noncomputable abbrev H5(t t2:Bool)(h:Heap)(a b:Addr):Heap:=(H4 t t2 h a b).push {cls:=.type "zip",data:=.fields #[.none,.bool false,.bool false,.ref (H2 t t2 h a b).objs.size,.ref (H3 t t2 h a b).objs.size]}
def Sq.push{t:Bool}{h:Heap}{a:Addr}{xs:Array Value}(g:Sq t h a xs)(o:Obj):Sq t (h.push o) a xs:=g.at λ_ e=>Qcq _ e
def EN(t t2:Bool)(a b:Addr)(xs ys:Array Value):Meets (Builtin.«zip.__new__» ⟨[.type "zip",.ref a,.ref b],[]⟩) (λ_ R s=>Sq t s.heap a xs/\Sq t2 s.heap b ys/\R (.ok (.ret (.ref (H4 t t2 s.heap a b).objs.size))) {s with heap:=H5 t t2 s.heap a b}):=
 .of_wp λm w A R s h=>by
  obtain⟨i,g,d,f,e⟩:=s
  obtain⟨l,n,h⟩:=h
  have o:=sub_zip
  have c:=n.push {cls:=.type (Oo t),data:=.fields #[.ref a,.int 0 0]}
  cases t <;>cases t2
  ·have j:Heap.IsList (Shared.heap ⟨i,g,d,f,e⟩) a xs:=l
   have k:Heap.IsList (Shared.heap ⟨i.push {cls:=.type "list_iterator",data:=.fields #[.ref a,.int 0 0]},g,d,f,e⟩) b ys:=c
   wp_walk using wpAny_pyIter_list j,wpAny_pyIter_list k
   exact⟨_,rfl,h⟩
  ·have j:Heap.IsList (Shared.heap ⟨i,g,d,f,e⟩) a xs:=l
   have k:Heap.IsTuple (Shared.heap ⟨i.push {cls:=.type "list_iterator",data:=.fields #[.ref a,.int 0 0]},g,d,f,e⟩) b ys:=c
   wp_walk using wpAny_pyIter_list j,wpAny_pyIter_tuple k
   exact⟨_,rfl,h⟩
  ·have j:Heap.IsTuple (Shared.heap ⟨i,g,d,f,e⟩) a xs:=l
   have k:Heap.IsList (Shared.heap ⟨i.push {cls:=.type "tuple_iterator",data:=.fields #[.ref a,.int 0 0]},g,d,f,e⟩) b ys:=c
   wp_walk using wpAny_pyIter_tuple j,wpAny_pyIter_list k
   exact⟨_,rfl,h⟩
  ·have j:Heap.IsTuple (Shared.heap ⟨i,g,d,f,e⟩) a xs:=l
   have k:Heap.IsTuple (Shared.heap ⟨i.push {cls:=.type "tuple_iterator",data:=.fields #[.ref a,.int 0 0]},g,d,f,e⟩) b ys:=c
   wp_walk using wpAny_pyIter_tuple j,wpAny_pyIter_tuple k
   exact⟨_,rfl,h⟩
section
variable{prog:Program}{w:World}{A:Around}{E:Value->Shared->Prop}{s:Shared}
def Kd{t t2:Bool}{a b:Addr}{xs ys:Array Value}{Q:Value->Shared->Prop}(r:Sq t s.heap a xs)(m:Sq t2 s.heap b ys)
  (q:∀h',v8 h' (s.heap.objs.size+4) (s.heap.objs.size+2) (s.heap.objs.size+3) .none (.bool false)->IsPair h' (s.heap.objs.size+2) (.ref s.heap.objs.size) (.ref (s.heap.objs.size+1))->IsPair h' (s.heap.objs.size+3) .none .none→
   It t h' s.heap.objs.size a 0->It t2 h' (s.heap.objs.size+1) b 0->(∀c o,s.heap.get? c=some o->h'.get? c=some o)->Q (.ref (s.heap.objs.size+4)) {s with heap:=h'}):
  wpAny (model prog w) A (call (.type "zip") [.ref a,.ref b]) Q E s:=by
 refine callType_new F.called_zip (by decide) (F.typeCall_zip_2 _ _) (F.newCall_zip_2 _ _) (λd=>F.args_object_init_3 d _ _) F.entry_zip_new (EN t t2 a b xs ys) ⟨r,m,?_⟩
 have h:(H1 t s.heap a).objs.size=s.heap.objs.size+1:=Heap.size_push ..
 have f:(H2 t t2 s.heap a b).objs.size=s.heap.objs.size+2:=by rw[Heap.size_push,h]
 have e:(H3 t t2 s.heap a b).objs.size=s.heap.objs.size+3:=by rw[Heap.size_push,f]
 have j:(H4 t t2 s.heap a b).objs.size=s.heap.objs.size+4:=by rw[Heap.size_push,e]
 have g:(H5 t t2 s.heap a b).get? (H4 t t2 s.heap a b).objs.size=some _:=Qrq _ rfl
 have k:(H5 t t2 s.heap a b).get? (H3 t t2 s.heap a b).objs.size=some _:=Qcq _ (Qrq _ rfl)
 have l:(H5 t t2 s.heap a b).get? (H2 t t2 s.heap a b).objs.size=some _:=Qcq _ (Qcq _ (Qrq _ rfl))
 have i:(H5 t t2 s.heap a b).get? (H1 t s.heap a).objs.size=some _:=Qcq _ (Qcq _ (Qcq _ (Qrq _ rfl)))
 have p:(H5 t t2 s.heap a b).get? s.heap.objs.size=some _:=Qcq _ (Qcq _ (Qcq _ (Qcq _ (Qrq _ rfl))))
 refine(?_:_/\_)
 rw[f,e,j] at g
 rw[h,f] at l
 rw[e] at k
 rw[h] at i
 rw[j]
 refine⟨⟨_,g,rfl⟩,q _ g l k ?_ ?_ λc o n=>Qcq _ (Qcq _ (Qcq _ (Qcq _ (Qcq _ n))))⟩
 ·cases t <;>exact⟨_,p,rfl,rfl⟩
 ·cases t2 <;>exact⟨_,i,rfl,rfl⟩
end
def qu:typeLookup (.type "zip") "__getattr__"=pure none:=by rw[typeLookup_type,builtinLookup_eq_fast];kernel_rfl
def kI:entryFor table "zip.__getattribute__"=some Builtin.«object.__getattribute__»:=
 entryFor_alias (id':="object.__getattribute__") (by kernel_rfl) (by decide +kernel) (by decide +kernel) (by kernel_rfl)
def sS:typeLookup (Value.type "zip") (Str.ofString "keys")=pure none:=by
 rw[typeLookup_type,builtinLookup_eq_fast]
 rfl
def uJ(a:Addr)(fs:Array Value)(name:Str)(u:Tok)(e:typeLookup (.type "zip") name=pure none)(b:(["__module__","__name__","__qualname__","__doc__","__annotations__"]:List Str).contains name=false)(hsz:name.length+100<=sizeLine:=by size_fits):
  Meets (Builtin.«object.__getattribute__» ⟨[.ref a,.str name u],[]⟩) (λA R s=>s.heap.get? a=some {cls:=.type "zip",dict:=none,data:=.fields fs,slots:= #[]}/\raisesAttr (.ref a) name A R s):=
 Meets.of_wp λf w A R s c=>by
  obtain⟨k,g,d,j,h⟩:=s
  obtain⟨i,c⟩:=c
  have l:(⟨k,g,d,j,h⟩:Shared).TypeIs (.ref a) "zip":=⟨_,i,rfl⟩
  unfold Builtin.«object.__getattribute__»
  repeat (any_goals (first|assumption|wp_step))
  simp only[b,Bool.false_eq_true,if_false]
  repeat (any_goals (first|assumption|wp_step))
  exact wpAny_raiseAttrError c.1 c.2 (attrMsg_fits (by decide +kernel) hsz)
def EG{prog:Program}{w:World}{A:Around}{E:Value->Shared->Prop}{s:Shared}{a:Addr}{fs:Array Value}{Q:Option Value->Shared->Prop}
  (j:s.heap.get? a=some {cls:=.type "zip",dict:=none,data:=.fields fs,slots:= #[]}) (r:A.handled=none)
  (h:∀(h':Heap) (i:Nat),(∀b o,s.heap.get? b=some o->h'.get? b=some o)->Q none {s with heap:=h',toks:=i}):
  wpAny (model prog w) A (getAttr? (.ref a) (Str.ofString "keys")) Q E s:=by
 obtain⟨v,g,d,i,k⟩:=s
 have t:∀x,Shared.TypeIs ⟨v,g,d,x,k⟩ (.ref a) "zip":=λx=>⟨_,j,rfl⟩
 have m:=sub_AttributeError
 have p:=F.slot_zip_getattribute.lookup
 have q:=F.slot_zip_getattribute.bind (Value.ref a)
 have u:=qu
 unfold getAttr? mkText getAttrBy? getAttrBy
 refine Qaq (Qaq (wpAny_fresh' (Qgq (Qaq (wpAny_attempt (QLq ?_))))))
 unfold typeOf
 refine Qaq (Qaq (wpAny_loadPart' j (Qgq (Qaq (wpAny_of_eq p (QgQ rfl ?_))))))
 unfold getAttrByItsOwn hookBefore
 refine Qaq (QgQ rfl (Qgq (Qaq (wpAny_attempt (QLq ?_)))))
 unfold callGetattribute
 refine QgQ rfl ?_
 unfold boundAndCalled
 refine Qaq (wpAny_of_eq q ?_)
 refine call_meets F.slot_zip_getattribute (t (i+1)) kI (F.args_zip_getattribute_2 (Value.ref a) _) (uJ a fs (Str.ofString "keys") i sS (by decide +kernel) (by decide +kernel)) ⟨j,r,λh' f e c=> ?_⟩
 obtain⟨z,y,n⟩:=c.there
 have l:Shared.TypeIs ⟨h',g,d,f,k⟩ (.ref e) "AttributeError":=⟨_,n,rfl⟩
 show wpAny _ _ (getattributeRaised _ _ _ _ _ _ _) _ _ _
 unfold getattributeRaised
 refine Qaq (wpAny_isInstance l m (wpAny_ite_true rfl ?_))
 unfold hookBehind hookOrError
 refine Qaq (QgQ rfl (wpAny_of_eq u ?_))
 show wpAny _ _ (attributeErrorLeaves _ _ _ _ _) _ _ _
 unfold attributeErrorLeaves
 refine wpAny_ite_true rfl (wpAny_throw ?_)
 exact Qaq (wpAny_isInstance l m (wpAny_ite_true rfl (Qgq (h h' f c.keeps))))
def we{prog:Program}{w:World}{A:Around}{E:Value->Shared->Prop}{s:Shared}{z:Addr}{fs:Array Value}{Q:Value->Shared->Prop}
  (l:s.heap.get? z=some {cls:=.type "zip",dict:=none,data:=.fields fs,slots:= #[]}) (i:A.handled=none)
  (h:∀(h':Heap) (d:Nat),(∀b o,(s.heap.push {cls:=.type "dict",data:=.dict #[]}).get? b=some o->h'.get? b=some o)→
   wpAny (model prog w) A.in1.in1 (pyIter (.ref z)) (λit f=>codeAny (model prog w) A.in1 (.builtin "dict.update.loop" {pos:= [.ref s.heap.objs.size,it,rawInt 0,.none]}) (wants (λr a=>r=.none/\Q (.ref s.heap.objs.size) a) E) f) E {s with heap:=h',toks:=d}):
  wpAny (model prog w) A (call (.type "dict") [.ref z]) Q E s:=by
 refine Dk.z9 ?_
 have m:=Qrq s.heap (o:={cls:=.type "dict",data:=.dict #[]}) rfl
 have j:Shared.TypeIs {s with heap:=s.heap.push {cls:=.type "dict",data:=.dict #[]}} (.ref s.heap.objs.size) "dict":=⟨_,m,rfl⟩
 have c:=Qcq {cls:=.type "dict",data:=.dict #[]} l
 have k:Shared.TypeIs {s with heap:=s.heap.push {cls:=.type "dict",data:=.dict #[]}} (.ref z) "zip":=⟨_,c,rfl⟩
 unfold Builtin.«dict.__init__» Builtin.Dict.selfAndRest
 refine Qaq (Qaq (wpAny_notOrdered_dict j ?_))
 refine Qaq (Qgq (Qgq ?_))
 show wpAny _ _ (Builtin.Dict.updateFrom _ _ _ _ _) _ _ _
 unfold Builtin.Dict.updateFrom
 refine Qaq (wpAny_typeOf k (wpAny_ite_true (by decide +kernel) (Qaq (EG c (by simpa using i) λh' d g=> ?_))))
 refine wpAny_ite_true rfl ?_
 refine Qaq (wpAny_rule (Qaq (QRq (h h' d g) (λit f q=> ?_) λe f q=>q)))
 exact Qgq ⟨plainId_quiet (by decide +kernel) _,q⟩
end Zq
namespace Zq
open PySem Dk
section
variable{prog:Program}{w:World}{K:Type}[DecidableEq K]{knd:KeyKind prog w K}{z T O i j a b S:Addr}{t t2:Bool}{xs ys:Array Value}
def Cj{A:Around}{R:Result->Shared->Prop}(hA:A.in1.handled=none)(D:ZipApart z T O i j a b)(nS:S≠z/\S≠T/\S≠O/\S≠i/\S≠j/\S≠a/\S≠b)(a4:a≠T/\b≠T)(f:Nat->K)(x:∀(n:Nat) v,xs[n]?=some v->knd.is (f n) v=true)(a3:xs.size<=ys.size)(hn:xs.size<=sizeLine):
  ∀ (m n:Nat) (c:Int) (s:Shared),xs.size-n=m->n<=xs.size->Zs s.heap z T O i j->IsPair s.heap T (.ref i) (.ref j)->It t s.heap i a n->It t2 s.heap j b n->Sq t s.heap a xs->Sq t2 s.heap b ys->Heap.DictOf knd s.heap S (KL f (λn=>ys.getD n .none) n)→
    (∀h' Y,Heap.DictOf knd h' S (KL f (λn=>ys.getD n .none) xs.size)->(∀c o,c≠z->c≠O->c≠i->c≠j->c≠S->s.heap.get? c=some o->h'.get? c=some o)->R (.ok (.ret .none)) {s with heap:=h',toks:=Y})→
    codeAny (model prog w) A (.builtin "dict.update.loop" {pos:= [.ref S,.ref z,rawInt c,.none]}) R s:=by
 obtain⟨L,n2,n3,n4,n5,n6,n7⟩:=nS
 intro m
 induction m with
 | zero=>
   intro n c s hm W G y gi gj F X H h
   have e:n=xs.size:=by omega
   subst e
   refine codeAny_builtin lG ?_
   rw[Around.under_plainId iP]
   show wpAny _ _ (do let __x←pyNext (.ref z);_) _ _ _
   refine Qaq (AC D hA G y gi F (by simp) λh' r=> ?_)
   refine Qaq (Qgq (Qgq (h h' s.toks ?_ λc o p l k g _ e=>r c o p l k g e)))
   obtain⟨o,I,P,h1,Q⟩:=H
   exact⟨o,I,P,r _ _ L n3 n4 n5 h1,Q⟩
 | succ m ih=>
   intro n c s hm W G y gi gj F X H h
   have q:n<xs.size:=by omega
   have ex:xs[n]?=some xs[n]:=by simp[q]
   have ey:ys[n]?=some ys[n]:=by simp[show n<ys.size by omega]
   refine codeAny_builtin lG ?_
   rw[Around.under_plainId iP]
   show wpAny _ _ (do let __x←pyNext (.ref z);_) _ _ _
   refine Qaq (Ih D G y gi gj F X ex ey λhp Z U a1 gp r=> ?_)
   have J:Heap.DictOf knd hp S (KL f (λn=>ys.getD n .none) n):=by
     obtain⟨o,I,P,h1,Q⟩:=H
     exact⟨o,I,P,r _ _ L n3 n4 n5 h1,Q⟩
   refine Qaq (QLq (Qaq (wpAny_tryCatch ?_)))
   unfold Builtin.Dict.pairItems
   refine Qaq (wpAny_typeOf (T:="tuple") ⟨_,gp,rfl⟩ (wpAny_ite_true rfl (Qaq ?_)))
   unfold seqItems?
   refine Qaq (wpAny_load' gp (Qgq (Qgq (QLq (wpAny_dictSet_pairs (x n _ ex) J (λh' u hs=> ?_) (QAq (Eo f _ n) (by omega)))))))
   have ev:ys.getD n .none=ys[n]:=by simp[Array.getD,show n<ys.size by omega]
   have B:∀c o,c≠S->hp.get? c=some o->h'.get? c=some o:=λc o hc e=>by rw[hs.2 c hc];exact e
   have d:∀c o,c≠z->c≠O->c≠i->c≠j->c≠S->s.heap.get? c=some o->h'.get? c=some o:=λc o p l k g C e=>B c o C (r c o p l k g e)
   have a2:∃o,h'.get? S=some o:=by obtain⟨o,_,_,e,_⟩:=u;exact⟨o,e⟩
   have M:Heap.DictOf knd h' S (KL f (λn=>ys.getD n .none) (n+1)):=by
     show Heap.DictOf knd h' S (stored _ (f n) (ys.getD n .none))
     rw[ev]
     exact u
   refine Qgq ⟨plainId_quiet iP _,ih (n+1) (c+1) _ (by omega) q (Z.but B L.symm n3.symm a2) ?_ (U.at λo e=>B _ o n4.symm e) (a1.at λo e=>B _ o n5.symm e) ?_ ?_ M λa0 Y N k4=>h a0 Y N λc o p l k g C e=>k4 c o p l k g C (d c o p l k g C e)⟩
   · exact d _ _ D.TIz D.TITO D.TIi1 D.TIi2 n2.symm y
   · exact F.at λo e=>d _ o D.l1z D.l1TO D.l1i1 D.l1i2 n6.symm e
   · exact X.at λo e=>d _ o D.l2z D.l2TO D.l2i1 D.l2i2 n7.symm e
end
end Zq
namespace L2
open PySem PySem.Spec PyProof.Rows Zq
section
variable{X:Cx}
def AK(K:PySem.W.Frag)(t:Bool)(H:Hp)(a:Addr)(xs:List V):Prop:=if t=true then jy K H a xs else jN K H a xs
def Inv.sq{c:List (Addr×Obj)}{σ:St}{H:Hp}{s:Shared}{t:Bool}{a:Addr}{xs:List V}(I:Inv X c σ H s)(h:AK X.K t H a xs):∃b:List Value,bZ xs b/\Sq t s.heap a b.toArray/\xs.length<=sizeLine:=by
 cases t with
 | true=>
   obtain⟨b,r,p,z⟩:=I.tuple h
   exact⟨b,r,(show s.heap.IsTuple a b.toArray from p),z⟩
 | false=>
   obtain⟨b,r,p,z⟩:=I.list h
   exact⟨b,r,(show s.heap.IsList a b.toArray from p.isList),z⟩
def Sq.lt{t:Bool}{h:Heap}{a:Addr}{xs:Array Value}(g:Sq t h a xs):a<h.objs.size:=by
 cases t with
 |true=>obtain⟨o,e,_⟩:=(show h.IsTuple a xs from g);exact Qiq e
 |false=>obtain⟨o,e,_⟩:=(show h.IsList a xs from g);exact Qiq e
def LU(K:PySem.W.Frag):List V->Hp->VK->Prop:=λf H Q=>∃(t e:Bool) (a b:Addr) (c:List Key) (d:List V),f= [.ref a,.ref b]/\AK K t H a (c.map kV)/\AK K e H b d/\c.length=d.length/\∀p,H p=none->Q (.ref p) (upd H p (.dK (kP [] (c.zip d))))
def BN{x y:Expr}{ta:TA}{p1 S c1 M:Pos}(F:X.calm=true)(a2:Gl X "dict")(a4:X.mg "dict"=none)(hg:Gl X "zip")(hm:X.mg "zip"=none)(ha:PA X [x,y] ta)(hs:starEach [x,y] X.env= [(false,eval x X.env),(false,eval y X.env)]:=by rfl)(N:starEach [y] X.env= [(false,eval y X.env)]:=by rfl)
  (he:starEach [Expr.Call (.Name "zip" S) [x,y] [] M] X.env= [(false,eval (Expr.Call (.Name "zip" S) [x,y] [] M) X.env)]:=by rfl):
  PE X (.Call (.Name "dict" p1) [.Call (.Name "zip" S) [x,y] [] M] [] c1) (Ny (LU X.K) ta):=by
 intro C s σ H Q I h
 refine wpAny_Call_Name_kw (mf I a2 a4 (by rfl) ?_)
 refine PyProof.Rows.callWith_type1 ?_ he rfl
 rw[he]
 show wpAny _ _ (spliced ((false,eval (Expr.Call (.Name "zip" S) [x,y] [] M) X.env)::backTo c1 (starEach [] X.env))) _ _ s
 refine Calls.spliced_cons ?_
 refine wpAny_Call_Name_kw (mf I hg hm (by rfl) ?_)
 refine PyProof.Rows.callWith_type1 (dC (ha M C s σ H _ I h) λus m ⟨vs,H1,G,r1,q1⟩=> ?_) (by rw[hs,N]) (by rw[N];rfl)
 obtain⟨t,t2,a,b,d,g,e,qa,qb,hl,q⟩:=q1
 subst e
 cases r1 with
 | cons r rr=>
   cases rr with
   | cons r' rr=>
     cases rr
     cases r
     cases r'
     obtain⟨z,ra,pa,za⟩:=G.sq qa
     obtain⟨B,rb,pb,zb⟩:=G.sq qb
     have lx:=Sq.lt pa
     have ly:=Sq.lt pb
     have la:=ra.length
     have lb:=rb.length
     rw[lQm] at la
     refine Zq.Kd pa pb λj Z gT gO gi gj U=>Calls.spliced_nil ?_
     have I2:Inv X C σ H1 {m with heap:=j}:=G.kept (t':=m.toks) U
     refine Zq.we Z (G.ok.hd F) λW tk k2=> ?_
     have p:∀c o,j.get? c=some o->W.get? c=some o:=λc o e=>k2 c o (Qcq _ e)
     have a5:W.get? j.objs.size=some {cls:=.type "dict",data:=.dict #[]}:=k2 _ _ (Qrq j rfl)
     refine wpAny_pyIter_zip (p _ _ Z) ?_
     have DD:=PyProof.Rows.zipApart_new lx ly
     have f:m.heap.objs.size+4<j.objs.size:=Qiq Z
     have P:∀(n:Nat) k,d[n]?=some k->d.getD n (.inl 0)=k:=λn k e=>by rw[Qlq,e];rfl
     have J:∀c,c<m.heap.objs.size->c≠m.heap.objs.size+4/\c≠m.heap.objs.size+3/\c≠m.heap.objs.size/\c≠m.heap.objs.size+1/\c≠j.objs.size:=λc F=>
       ⟨Qwq (Qqq F (Nat.le_add_right _ _)),Qwq (Qqq F (Nat.le_add_right _ _)),Qwq F,Qwq (Qqq F (Nat.le_add_right _ _)),Qwq (Nat.lt_trans (Qqq F (Nat.le_add_right _ 4)) f)⟩
     refine Zq.Cj (knd:=cD X.prog X.w) (t:=t) (t2:=t2) (xs:=z.toArray) (ys:=B.toArray) (show X.A.in1.in1.handled=none from G.ok.hd F) DD ?_ ?_ (λn=>d.getD n (.inl 0)) ?_ (by simp;omega) (by simp;omega) z.toArray.size 0 0 _ rfl (Nat.zero_le _)
       (.inl ⟨p _ _ Z,_,_,p _ _ gO⟩) (p _ _ gT) (gi.at λo e=>p _ o e) (gj.at λo e=>p _ o e) (pa.at λo e=>p _ o (U _ o e)) (pb.at λo e=>p _ o (U _ o e)) ?_ ?_
     · refine⟨Nat.ne_of_gt f,Nat.ne_of_gt (Nat.lt_trans ?_ f),Nat.ne_of_gt (Nat.lt_trans ?_ f),Nat.ne_of_gt (Nat.lt_trans ?_ f),Nat.ne_of_gt (Nat.lt_trans ?_ f),(J _ lx).2.2.2.2.symm,(J _ ly).2.2.2.2.symm⟩ <;>(show _<m.heap.objs.size+4) <;>omega
     · exact⟨Qwq (Qqq lx (Nat.le_add_right _ _)),Qwq (Qqq ly (Nat.le_add_right _ _))⟩
     · intro n v hv
       have L:z[n]?=some v:=by simpa using hv
       have hn:n<d.length:=by
         have:=(gQs.mp L).1
         omega
       have R:=gQe hn
       obtain⟨u,Y,ru⟩:=ra.get (i:=n) (x:=kV d[n]) (by rw[gQm,R];rfl)
       rw[L] at Y
       cases Y
       show(cD X.prog X.w).is (d.getD n (.inl 0)) v=true
       rw[P n _ R]
       exact key_is ru _ _
     · obtain⟨o,es,ep,e1,e2⟩:=Heap.DictOf.new (knd:=cD X.prog X.w) j
       exact⟨o,es,ep,k2 _ _ e1,e2⟩
     · intro h3 a3 dd k3
       have a1:j.objs.size≠sysModules:=by
         have:=I2.big
         exact Nat.ne_of_gt this
       have le:m.heap.objs.size<=j.objs.size:=nQl (Nat.lt_of_le_of_lt (Nat.le_add_right _ 4) f)
       refine⟨rfl,.ref j.objs.size,_,G.laid (a:=j.objs.size) (o:=.dK (kP [] (d.zip g))) (t':=a3) (h':=h3) (λc o e=> ?_) le (um ?_ (beq_eq_false_iff_ne.mpr a1) ?_ dd),rfl,q _ (G.hok.fresh le)⟩
       · obtain⟨o1,o2,o3,o4,o5⟩:=J c (Qiq e)
         exact k3 c o o1 o2 o3 o4 o5 (p c o (U c o e))
       · have:=jR (d.zip g) []
         rw[QGq,List.length_zip] at this
         omega
       · have a0:∀n,n<=d.length->KV (kP [] ((d.zip g).take n)) (Dk.KL (λn=>d.getD n (.inl 0)) (λn=>B.toArray.getD n .none) n):=by
           intro n
           induction n with
           |zero=>intro _;exact .nil
           | succ n ih=>
             intro hn
             have R:=gQe (l:=d) (i:=n) (by omega)
             have hy:=gQe (l:=g) (i:=n) (by omega)
             obtain⟨u,Y,ru⟩:=rb.get hy
             have ez:(d.zip g)[n]?=some (d[n],g[n]):=by rw[List.getElem?_zip_eq_some];exact⟨R,hy⟩
             have e3:(d.zip g).take (n+1)=(d.zip g).take n++ [(d[n],g[n])]:=by rw[QYq,ez];rfl
             have eu:B.toArray.getD n .none=u:=by
               have:=(gQs.mp Y)
               obtain⟨j,W⟩:=this
               simp[Array.getD,j,W]
             rw[e3]
             show KV (List.foldl _ [] ((d.zip g).take n++ [(d[n],g[n])])) (stored _ (d.getD n (.inl 0)) (B.toArray.getD n .none))
             rw[List.foldl_append,P n _ R,eu]
             exact(ih (by omega)).put d[n] ru
         have:=a0 d.length (Qmq _)
         have e4:(d.zip g).take d.length=d.zip g:=by
           have:(d.zip g).length=d.length:=by rw[List.length_zip];omega
           rw[←this,QEq]
         rw[e4] at this
         have e5:z.toArray.size=d.length:=by simp;omega
         rw[e5]
         exact this
end
end L2
namespace Zq
open PySem
section
variable{prog:Program}{w:World}{A:Around}{E:Value->Shared->Prop}{s:Shared}{t t2:Bool}{z T O i j a b:Addr}{k:Nat}{xs ys:Array Value}{x y u v:Value}
def ER(D:ZipApart z T O i j a b){Q:Option Value->Shared->Prop}(c:v8 s.heap z T O .none (.bool false))(g:IsPair s.heap T (.ref i) (.ref j))(e:IsPair s.heap O u v)(p:It t s.heap i a k)(n:It t2 s.heap j b k)
  (G:Sq t s.heap a xs) (h:Sq t2 s.heap b ys) (ex:xs[k]?=some x) (m:ys[k]?=some y)
  (q:∀h',v8 h' z T O (rawInt s.heap.objs.size) (.bool false)->IsPair h' O x y->It t h' i a (k+1)->It t2 h' j b (k+1)->IsPair h' s.heap.objs.size x y->Zp.Rest z O i j s.heap h'->Q (some (.ref s.heap.objs.size)) {s with heap:=h'}):
  wpAny (model prog w) A (pyNext (.ref z)) Q E s:=by
 have d:s.TypeIs (.ref z) "zip":=⟨_,c,rfl⟩
 unfold pyNext
 exact Qaq (wpAny_attempt (QiQ (name:=Str.ofString "__next__") d F.slot_zip_next (wpAny_call_entry F.slot_zip_next d F.entry_zip_next
  (item D c g e p n G h ex m λh' r o f l B C=>Qgq (q h' r o f l B C)) (F.args_zip_next_1 _))))
end
end Zq
namespace L2
open PySem PySem.Spec PyProof.Rows Zq
def Inv.sq_inj{X:Cx}{b:List (Addr×Obj)}{σ:St}{H:Hp}{s:Shared}{t:Bool}{a:Addr}{xs ys:List V}(I:Inv X b σ H s)(h:AK X.K t H a xs)(h':AK X.K t H a ys):xs=ys:=by
 cases t with
 |true=>exact I.tuple_inj h h'
 |false=>exact I.list_inj h h'
noncomputable def OI(K:PySem.W.Frag)(t t2:Bool)(a b:Addr):It:=
  ⟨λi H=>∃c d x y,AK K t H a c/\AK K t2 H b d/\c[i]?=some x/\d[i]?=some y,
   λi H v e=>∃p,v=.ref p/\H p=none/\∀c d x y,AK K t H a c->AK K t2 H b d->c[i]?=some x->d[i]?=some y->e=upd H p (.tup [x,y]),
   λi H=>∃c,AK K t H a c/\c.length<=i⟩
def EO{P:Program}{w:World}{K:PySem.W.Frag}{A:List Expr}{x1:Nat}{tp:Pos}{t t2:Bool}{z T O i j a b:Addr}(D:ZipApart z T O i j a b):
  Turn P w K (.Tuple A x1 tp) (OI K t t2 a b) [z,T,O,i,j] z (λn h=>v8 h z T O .none (.bool false)/\IsPair h T (.ref i) (.ref j)/\(∃u v,IsPair h O u v)/\Zq.It t h i a n/\Zq.It t2 h j b n) where
 mem:=by simp
 obj:=λn h ⟨f,g,⟨u,v,p⟩,m,q⟩ c d=>by
  simp at d
  rcases d with rfl|rfl|rfl|rfl|rfl
  ·exact⟨_,f,λv n=>by cases n⟩
  ·exact⟨_,g,λv n=>by cases n⟩
  ·exact⟨_,p,λv n=>by cases n⟩
  ·exact m.obj
  ·exact q.obj
 keep:=λn h h' ⟨f,g,⟨u,v,p⟩,m,q⟩ k=>⟨k z (by simp) _ f,k T (by simp) _ g,⟨u,v,k O (by simp) _ p⟩,m.at λo e=>k i (by simp) o e,q.at λo e=>k j (by simp) o e⟩
 item:=by
  rintro X S N hK d n l s σ H E I F ⟨f,g,⟨u,v,p⟩,m,q⟩ Z
  subst S N hK
  obtain⟨xs,ys,x,y,J,qb,L,hy⟩:=Z
  obtain⟨U,M,Y,_⟩:=I.sq J
  obtain⟨a1,rb,pb,_⟩:=I.sq qb
  obtain⟨ux,ex,rx⟩:=M.get L
  obtain⟨uy,ey,ry⟩:=rb.get hy
  have C:∀{c o},s.heap.get? c=some o->c≠s.heap.objs.size:=λe=>Qwq (Qiq e)
  have B:∀c∈[z,T,O,i,j],c≠s.heap.objs.size:=λc d=>by
   obtain⟨oi,e1,_⟩:=m.obj
   obtain⟨oj,e2,_⟩:=q.obj
   simp at d
   rcases d with rfl|rfl|rfl|rfl|rfl
   ·exact C f
   ·exact C g
   ·exact C p
   ·exact C e1
   ·exact C e2
  refine Zq.ER D f g p m q Y pb (x:=ux) (y:=uy) (by simpa using ex) (by simpa using ey) λh1 z1 O1 i1 j1 n1 G=>⟨_,rfl,?_⟩
  have T1:=G _ _ D.TIz D.TITO D.TIi1 D.TIi2 g
  refine wpAny_letOwnedTupleGo_zip z1 λh2 z2 r=> ?_
  have I2:Inv X l σ (upd H s.heap.objs.size (.tup [x,y])) {s with heap:=h2}:=I.turnedNew (t':=s.toks) (fp:= [z,T,O,i,j]) F (λc o d e=> ?_) (Qmq _) ?_
  ·refine⟨.ref s.heap.objs.size,_,I2,rfl,⟨s.heap.objs.size,rfl,I.hok.fresh (Qmq _),λa0 a2 x' y' q1 q2 Q R=> ?_⟩,⟨z2,r.extBut _ _ D.TIz T1,⟨_,_,r.extBut _ _ D.TOz O1⟩,i1.ext r.extBut D.i1z,j1.ext r.extBut D.i2z⟩,λc d=> ?_⟩
   ·rw[I.sq_inj q1 J] at Q
    rw[I.sq_inj q2 qb] at R
    rw[L] at Q
    rw[hy] at R
    cases Q
    cases R
    rfl
   ·rw[bJ (B c d)]
    exact(F c d).1
  ·simp at d
   exact r.extBut _ _ d.1 (G c o d.1 d.2.2.1 d.2.2.2.1 d.2.2.2.2 e)
  ·exact⟨by show 2<=_;decide,[ux,uy],.cons rx (.cons ry .nil),_,r.extBut _ _ (λe=>B z (by simp) e.symm) n1,rfl,rfl,0,rfl⟩
 done:=by
  rintro X S N hK d n l s σ H E I F ⟨f,g,⟨u,v,p⟩,m,q⟩ Z
  subst S N hK
  obtain⟨xs,J,L⟩:=Z
  obtain⟨U,M,Y,_⟩:=I.sq J
  have hl:=M.length
  refine Zq.AC D (I.ok.hd d) (.inl ⟨f,u,v,p⟩) g m Y (by simp;omega) λh1 G=>⟨rfl,I.turnedL (t':=s.toks) (fp:= [z,T,O,i,j]) F λc o d e=> ?_⟩
  simp at d
  exact G c o d.1 d.2.2.1 d.2.2.2.1 d.2.2.2.2 e
 self:=λ_ _ _ _ _ ⟨f,_⟩ h=>wpAny_pyIter_zip f h
section
variable{X:Cx}
def OZ(K:PySem.W.Frag)(g:TA):TI:=λd H R=>g d H λh H1=>∃(t c:Bool) (a b:Addr) (e f:List V),h= [.ref a,.ref b]/\AK K t H1 a e/\AK K c H1 b f/\R (OI K t c a b) H1
def Jr{f:List Expr}{x1:Nat}{B:Pos}{a b:Expr}{o:TA}{p pos:Pos}(hg:Gl X "zip")(W:X.mg "zip"=none)(N:PA X [a,b] o)(L:starEach [a,b] X.env= [(false,eval a X.env),(false,eval b X.env)]:=by rfl)(g:starEach [b] X.env= [(false,eval b X.env)]:=by rfl):
  PI X (.Tuple f x1 B) (.Call (.Name "zip" p) [a,b] [] pos) (OZ X.K o):=by
 intro d s Z H R I h
 refine Call_ (mf I hg W (by rfl) (PyProof.Rows.callWith_type1 (dC (N pos d s Z H _ I h) λus u ⟨vs,H1,i,C,q1⟩=> ?_) (by rw[L,g]) (by rw[g];rfl)))
 obtain⟨t,t2,x,y,xs,ys,e,z,F,q⟩:=q1
 subst e
 cases C with
 | cons r j=>
   cases j with
   | cons M j=>
     cases j
     cases r
     cases M
     obtain⟨Q,ra,n,_⟩:=i.sq z
     obtain⟨S,rb,m,_⟩:=i.sq F
     have Y:=Sq.lt n
     have G:=Sq.lt m
     refine Zq.Kd n m λh' l J A U P k=> ?_
     refine wpAny_pyIter_zip l ⟨_,_,_,_,H1,rfl,i.kept (t':=u.toks) k,EO (PyProof.Rows.zipApart_new Y G),⟨l,J,⟨_,_,A⟩,U,P⟩,λc v=> ?_,q⟩
     have w:u.heap.objs.size<=c:=by
       simp only[Qsq,QXq,or_false] at v
       rcases v with e|e|e|e|e <;>(rw[e];first|exact Qmq _|exact Nat.le_add_right _ _)
     exact i.fpOk w (i.hok.fresh w)
end
end L2
namespace DL
open PySem PySem.Spec PyProof.Rows L2
def B5.sqB{M:Md}{ρ:List Addr}{H:Hp}{a:Addr}{vs:List V}{t:Tag}(h:B5 M ρ H a vs t):L2.AK M.K (!t.isL) H a vs:=by
 cases c:t.isL with
 |true=>exact h.sqL c
 |false=>exact h.sqT c
noncomputable def wG(xs ys:List D):List D:=List.zipWith (λx y=>D.tup [x,y]) xs ys
open Classical in
def BF(f g:gu):zM:=λb S=>(f b S).bind λ(p,c)=>(g b c).bind λ(r,a)=>if p.2.stays a p.1/\p.1.length<=r.1.length then some ((wG p.1 r.1,λS=>p.2.stays S p.1/\r.2.stays S r.1),a) else none
section
variable{X:Cx}{a b c e:Expr}{pos:Pos}{st:Stmt}
def zN{m:List Expr}{s:Nat}{tp p:Pos}{f g:gu}(hg:Gl X "zip")(hm:X.mg "zip"=none)(ha:PE X a (tQ (md X) f))(hb:PE X b (tQ (md X) g))(Z:starEach [a,b] X.env= [(false,eval a X.env),(false,eval b X.env)]:=by rfl)(j:starEach [b] X.env= [(false,eval b X.env)]:=by rfl):
  PI X (.Tuple m s tp) (.Call (.Name "zip" p) [a,b] [] pos) (tI (md X) (BF f g)):=NL (Jr hg hm (eG ha (eG hb hJ j) (by rw[Z,j])) Z j) λσ H R ⟨ρ,U,S,ds,W,S',ok,e,q⟩=>by
 obtain⟨⟨⟨o,t1⟩,I⟩,e1,e⟩:=aw e
 obtain⟨⟨⟨l,t2⟩,S2⟩,e2,e⟩:=aw e
 dsimp only at e
 split at e
 ·rename_i c
  obtain⟨e3,rfl⟩:=da e
  obtain⟨rfl,rfl⟩:=Prod.mk.inj e3
  refine⟨ρ,U,S,o,t1,I,ok,e1,λG a1 a2 H1 s F h1 r1=>⟨G,U,I,l,t2,S2,ok.to s F,e2,λa0 b1 ws H2 x2 n L r2=> ?_⟩⟩
  obtain⟨A,Q,r3⟩:=h1.to r1 x2 n c.1
  refine⟨_,_,a1,b1,A,ws,rfl,Q.sqB,L.sqB,q _ _ _ (s.trans x2) n λi a3 S3 H3 M k w=> ?_⟩
  obtain⟨C,t,Y⟩:=Q.to r3 M k w.1
  obtain⟨P,K,g4⟩:=L.to r2 M k w.2
  refine⟨λd h=> ?_,λhi=>⟨C,t.sqB,?_⟩⟩
  ·unfold wG at h
   rw[List.getElem?_zipWith] at h
   cases r:o[i]? with
   |none=>rw[r] at h;cases h
   | some x=>
     cases B:l[i]? with
     |none=>rw[r,B] at h;cases h
     | some y=>
       rw[r,B] at h
       cases h
       obtain⟨u,N,ru⟩:=Y.get r
       obtain⟨z,J,rz⟩:=g4.get B
       refine⟨⟨C,P,u,z,t.sqB,K.sqB,N,J⟩,λv H4 hv=> ?_⟩
       obtain⟨p,rfl,hp,hq⟩:=hv
       have:=hq C P u z t.sqB K.sqB N J
       subst this
       exact⟨cU.laid hp,k.lay hp,.tup cA ((bC.cons ru (.cons rz .nil)).ext (cU.laid hp))⟩
  ·rw[hi]
   unfold wG
   rw[List.length_zipWith,Y.length.symm]
   have:=c.2
   omega
 ·cases e
end
noncomputable def wL:D->Option Key
 |.int i=>some (.inl i)
 |.str x=>some (.inr x)
 |_=>none
def tW{M:Md}{ρ:List Addr}{H:Hp}{d:D}{v:V}{k:Key}(r:Rel M ρ H d v)(e:wL d=some k):v=kV k:=by
 cases r <;>simp[wL] at e <;>subst e <;>rfl
noncomputable def Ao:List D->Option (List Key)
 | []=>some []
 |d::r=>(wL d).bind λk=>(Ao r).bind λa=>some (k::a)
theorem AJ{M:Md}{ρ:List Addr}{H:Hp}:∀{ds:List D} {vs:List V} {a:List Key},bC M ρ H ds vs->Ao ds=some a->vs=a.map kV
 |_,_,_,.nil,e=>by cases e;rfl
 | _,_,_,.cons h hs,e=>by
   obtain⟨k,b,e⟩:=aw e
   obtain⟨a,c,e⟩:=aw e
   cases e
   rw[tW h b,AJ hs c]
   rfl
noncomputable def pN(kvs:List (Key×D))(k:Key):Option D:=(kvs.find? λa=>decide (a.1=k)).map (·.2)
noncomputable def putD(kvs:List (Key×D))(k:Key)(v:D):List (Key×D):=
 if (kvs.any λa=>decide (a.1=k))=true then kvs.map (λa=>if a.1=k then(a.1,v) else a) else kvs++ [(k,v)]
noncomputable def c9(kvs more:List (Key×D)):List (Key×D):=more.foldl (λa b=>putD a b.1 b.2) kvs
section
variable{M:Md}{ρ:List Addr}{H:Hp}
theorem cY.append:∀{l m:List (Key×D)} {kv kw:List (Key×V)},cY M ρ H l kv->cY M ρ H m kw->cY M ρ H (l++m) (kv++kw)
 | [],_,_,_,h,h'=>by cases h;exact h'
 |(_,_)::_,_,_,_,⟨v,t,e,h,hs⟩,h'=>by subst e;exact⟨v,_,rfl,h,cY.append hs h'⟩
theorem cY.any:∀{l:List (Key×D)} {kv:List (Key×V)} (k:Key),cY M ρ H l kv->(l.any λp=>decide (p.1=k))=kv.any λp=>decide (p.1=k)
 | [],_,_,h=>by cases h;rfl
 |(_,_)::_,_,k,⟨v,t,e,h,hs⟩=>by subst e;simp only[List.any_cons,cY.any k hs]
theorem cY.mapP{d:D}{v:V}{k:Key}(r:Rel M ρ H d v):∀{l:List (Key×D)} {kv:List (Key×V)},cY M ρ H l kv->cY M ρ H (l.map λp=>if p.1=k then(p.1,d) else p) (kv.map λp=>if p.1=k then(p.1,v) else p)
 | [],_,h=>by cases h;rfl
 | (k',_)::_,_,⟨u,t,e,h,hs⟩=>by
   subst e
   simp only[QDq]
   by_cases c:k'=k
   · simp only[c,if_true];exact⟨v,_,rfl,r,cY.mapP r hs⟩
   · simp only[c,if_false];exact⟨u,_,rfl,h,cY.mapP r hs⟩
def cY.put{l:List (Key×D)}{kv:List (Key×V)}{k:Key}{d:D}{v:V}(h:cY M ρ H l kv)(r:Rel M ρ H d v):cY M ρ H (putD l k d) (putK kv k v):=by
 unfold putD putK
 rw[h.any k]
 split
 ·exact h.mapP r
 ·exact h.append ⟨v,[],rfl,r,rfl⟩
theorem cY.merge:∀{m:List (Key×D)} {kw:List (Key×V)} {l:List (Key×D)} {kv:List (Key×V)},cY M ρ H m kw->cY M ρ H l kv->cY M ρ H (c9 l m) (kP kv kw)
 | [],_,_,_,h,h'=>by cases h;exact h'
 | (k,d)::m,_,_,_,⟨v,t,e,h,hs⟩,h'=>by
   subst e
   unfold c9 kP
   rw[List.foldl_cons,List.foldl_cons]
   exact cY.merge (m:=m) (kw:=t) hs (h'.put h)
theorem cY.zip:∀{a:List Key} {ds:List D} {vs:List V},bC M ρ H ds vs->cY M ρ H (a.zip ds) (a.zip vs)
 | [],_,_,_=>rfl
 |_::_,_,_,.nil=>rfl
 |k::a,_,_,.cons h hs=>⟨_,_,rfl,h,cY.zip hs⟩
theorem cY.val:∀{l:List (Key×D)} {kv:List (Key×V)} {k:Key} {d:D},cY M ρ H l kv->pN l k=some d->∃v,qY kv k=some v/\Rel M ρ H d v
 | [],_,_,_,_,e=>by cases e
 | (k',d')::_,_,k,d,⟨v,t,e,h,hs⟩,e'=>by
   subst e
   unfold pN at e'
   unfold qY
   rw[List.find?_cons] at e'⊢
   by_cases c:k'=k
   · simp only[c,decide_true] at e'⊢
     cases e'
     exact⟨v,rfl,h⟩
   · simp only[c,decide_false] at e'⊢
     exact cY.val hs e'
def cY.ext'{a:List Addr}{b:Hp}{l:List (Key×D)}{kv:List (Key×V)}(h:cY M ρ H l kv)(e:cU ρ H a b):cY M a b l kv:=h.imp λ_ _ r=>r.ext e
def cY.pre'{a:List Addr}{l:List (Key×D)}{kv:List (Key×V)}(h:cY M ρ H l kv)(e:ρ <+: a):cY M a H l kv:=h.imp λ_ _ r=>r.pre e
end
section
variable{X:Cx}{a b c e:Expr}{pos:Pos}{st:Stmt}
def Mr{M:Md}{ρ d:List Addr}{H h:Hp}{k:aL}{l:List (Key×D)}{kv:List (Key×V)}{p:Addr}{Q:VK}(x:cU ρ H d h)(st:g9 M d k h)(j:h p=none)(r:cY M d h l kv)
  (q:∀f v g,cU ρ H f g->g9 M f (k++ [.dct l]) g->Rel M f g (.ref k.length) v->Q v g):Q (.ref p) (upd h p (.dK kv)):=by
 have s:p∉d:=eQ x st j
 have n:cU d h d (upd h p (.dK kv)):=cU.laid j
 have m:=(st.lay (u:=.dK kv) j).box (o:=.dct l) s ⟨kv,cA,(r.ext' n).pre' (List.prefix_append _ _)⟩
 refine q (d++ [p]) (.ref p) _ ⟨x.pre.trans (List.prefix_append _ _),λc i=> ?_,(x.trans n).keep,(x.trans n).grow⟩ m (.ref ?_)
 ·rcases mQa.mp i with i|i
  ·exact x.new c i
  ·rw[Qfq] at i;subst i;exact .inr (x.grow _ j)
 ·rw[←st.len,QQq (Qmq _)]
  simp
open Classical in
def LY(f g:gu):bV:=λh S=>(f h S).bind λ(p,i)=>(g h i).bind λ(r,d)=>if p.2.stays d p.1/\p.1.length=r.1.length then(Ao p.1).bind λj=>some (.ref d.length,d++ [.dct (c9 [] (j.zip r.1))]) else none
def qV{U j c1 o:Pos}{f g:gu}(hc:X.calm=true)(s:Gl X "dict")(t:X.mg "dict"=none)(hg:Gl X "zip")(Z:X.mg "zip"=none)(P:PE X a (tQ (md X) f))(hb:PE X b (tQ (md X) g))(x:starEach [a,b] X.env= [(false,eval a X.env),(false,eval b X.env)]:=by rfl)(h:starEach [b] X.env= [(false,eval b X.env)]:=by rfl)
  (he:starEach [Expr.Call (.Name "zip" j) [a,b] [] o] X.env= [(false,eval (Expr.Call (.Name "zip" j) [a,b] [] o) X.env)]:=by rfl):
  PE X (.Call (.Name "dict" U) [.Call (.Name "zip" j) [a,b] [] o] [] c1) (tD (md X) (LY f g)):=lO (BN hc s t hg Z (eG P (eG hb hJ h) (by rw[x,h])) x h he) λσ H Q ⟨ρ,w,S,d,S',ok,e,q⟩=>by
 obtain⟨⟨⟨k,t1⟩,u⟩,e1,e⟩:=aw e
 obtain⟨⟨⟨m,Y⟩,L⟩,I,e⟩:=aw e
 dsimp only at e
 split at e
 ·rename_i c
  obtain⟨ks,C,e⟩:=aw e
  obtain⟨rfl,rfl⟩:=da e
  refine⟨ρ,w,S,k,t1,u,ok,e1,λr a1 M H1 A n W F=>⟨r,w,u,m,Y,L,ok.to A n,I,λN R ws H2 y i K B=> ?_⟩⟩
  obtain⟨a0,G,z⟩:=W.to F y i c.1
  have J:=AJ z C
  subst J
  have v:=z.length
  rw[lQm] at v
  refine⟨_,_,a1,R,ks,ws,rfl,G.sqB,K.sqB,by rw[←v,←B.length];exact c.2,λp hp=> ?_⟩
  exact Mr (A.trans y) i hp (cY.merge (l:= []) (cY.zip B) rfl) q
 ·cases e
noncomputable def N_:bV:=λ_ S=>some (.ref S.length,S++ [.dct []])
def Kz:PE X (.Dict [] [] pos) (tD (md X) N_):=lO Gx λh H Q g=>by
 obtain⟨i,k,S,d,j,ok,e,q⟩:=g
 obtain⟨rfl,rfl⟩:=da e
 exact λp f=>Mr cU.refl ok.st f (l:= []) (kv:= []) rfl q
noncomputable def MY(f g:bV):bV:=λi S=>(f i S).bind λ(x,j)=>(g i j).bind λ(y,h)=>match x with
 | .ref k=>match h[k]? with
   |some (.dct l)=>(wL y).bind λm=>(pN l m).bind λd=>some (d,h)
   |_=>none
 |_=>none
def Hg{f g:bV}(M:X.A.units+1<cLine)(m:PE X a (tD (md X) f))(N:PE X b (tD (md X) g))(j:Ju b):PE X (.Subscript a b pos) (tD (md X) (MY f g)):=lO (Jy M m N j) λσ H Q K=>by
 obtain⟨L,r,S,d,Z,ok,e,q⟩:=K
 obtain⟨⟨x,p⟩,P,e⟩:=aw e
 obtain⟨⟨y,G⟩,z,e⟩:=aw e
 cases x with
 | ref k=>
   dsimp only at e
   split at e
   · rename_i l j
     obtain⟨U,u,e⟩:=aw e
     obtain⟨Y,C,e⟩:=aw e
     obtain⟨rfl,rfl⟩:=da e
     refine⟨L,r,S,_,p,ok,P,λo v1 H1 t n i=>⟨o,r,p,y,G,ok.to t n,z,λI W H2 s h R=> ?_⟩⟩
     cases tW R u
     have i:=i.ext s
     cases i with
     | ref m=>
       obtain⟨kv,J,F⟩:=h.obj k _ _ m j
       obtain⟨v,w,B⟩:=F.val C
       exact⟨_,v,rfl,by rw[←w];exact Fg.k J,q _ _ _ (t.trans s) h B⟩
   · cases e
 |_=>cases e
noncomputable def NM(f g h:bV):dm:=λi S=>(h i S).bind λ(d,n)=>(f i n).bind λ(x,m)=>(g i m).bind λ(y,j)=>match x with
 | .ref k=>match j[k]? with
   |some (.dct l)=>(wL y).bind λo=>if l.length<sizeLine then some (.nx i (j.set k (.dct (putD l o d)))) else none
   |_=>none
 |_=>none
mutual
theorem Rel.offK{M:Md}{ρ:List Addr}{H:Hp}{b:Addr}{g:List (Key×V)}{o:HO}(f:H b=some (.dK g)):∀{d:D} {v:V},Rel M ρ H d v->Rel M ρ (upd H b o) d v
 |_,_,.non=>.non
 |_,_,.bl x=>.bl x
 |_,_,.int i=>.int i
 |_,_,.str x=>.str x
 |_,_,.tup h hs=>.tup (by rw[bJ (Ic h f (by intro z;cases z))];exact h) (bC.offK f hs)
 |_,_,.ref h=>.ref h
 |_,_,.fn h=>.fn h
theorem bC.offK{M:Md}{ρ:List Addr}{H:Hp}{b:Addr}{f:List (Key×V)}{o:HO}(d:H b=some (.dK f)):∀{ds:List D} {vs:List V},bC M ρ H ds vs->bC M ρ (upd H b o) ds vs
 |_,_,.nil=>.nil
 |_,_,.cons h hs=>.cons (Rel.offK d h) (bC.offK d hs)
end
def g9.putKd{M:Md}{ρ:List Addr}{S:aL}{H:Hp}{k:Nat}{a:Addr}{l i:List (Key×D)}{kw:List (Key×V)}(st:g9 M ρ S H)(d:ρ[k]?=some a)(g:S[k]?=some (.dct l))(r:cY M ρ H i kw):g9 M ρ (S.set k (.dct i)) (upd H a (.dK kw))/\cU ρ H ρ (upd H a (.dK kw)):=by
 obtain⟨m,h,j⟩:=st.obj k a _ d g
 exact st.put d g ⟨kw,cA,r.imp λ_ _ q=>q.offK h⟩ λx f=>by rw[h] at f;cases f;exact id
def Ls{f g h:bV}{i:Pos}{v:Expr}(hu:X.A.units+1<cLine)(r:PE X a (tD (md X) f))(hb:PE X b (tD (md X) g))(R:PE X v (tD (md X) h))(p:swapsWith v (some (.Subscript a b i)) pos.line X.env=pure false:=by rfl):PS X (.Assign [.Subscript a b i] v pos) (tS (md X) (NM f g h)):=
 Dd (Iy hu r hb R p) λD σ H qq=>by
  obtain⟨ρ,t,S,o,ok,e,q⟩:=qq
  obtain⟨⟨d,J⟩,e1,e⟩:=aw e
  obtain⟨⟨x,M⟩,U,e⟩:=aw e
  obtain⟨⟨y,S3⟩,P,e⟩:=aw e
  cases x with
  | ref k=>
    dsimp only at e
    split at e
    · rename_i l p
      obtain⟨N,W,e⟩:=aw e
      split at e
      · rename_i Q
        cases e
        refine⟨ρ,t,S,d,J,ok,e1,λC v1 H1 G n s=>⟨C,t,J,_,M,ok.to G n,U,λz v2 H2 w F I=>⟨z,t,M,y,S3,(ok.to G n).to w F,P,λa0 v3 H3 u j Z=> ?_⟩⟩⟩
        cases tW Z W
        have I:=I.ext u
        have s:=s.ext (w.trans u)
        have m:=(G.trans w).trans u
        cases I with
        | ref r=>
          obtain⟨kv,Y,L⟩:=j.obj k _ _ r p
          obtain⟨B,K⟩:=j.putKd r p (L.put (k:=N) s)
          exact⟨_,_,rfl,HD.k Y (by rw[←L.length];exact Q),q _ _ _ (m.trans K) ((ok.to m j).to K B)⟩
      · cases e
    · cases e
  |_=>cases e
open Classical in
def LK(f:gu)(g:bV):bV:=λh S=>(f h S).bind λ(p,i)=>if p.2.isL=true then(g h i).bind λ(y,d)=>if p.2.stays d p.1 then(yi y).bind λv=>(pX p.1).bind λk=>(mB v k).bind λj=>some (.int (j:Nat),d) else none else none
def JT{f:gu}{g:bV}{o:Expr}{i h:Pos}(K:PE X o (tQ (md X) f))(ha:PE X e (tD (md X) g))(l:attributeBase o "index" X.env (eval o X.env)=eval o X.env:=by rfl) (n:((backTo h (starEach [e] X.env)).all (λx=> !x.1)&&(backToKw h (keywordEach [] X.env)).all (λx=>x.1.isSome)
   &&decide ([e].length+([]:List Keyword).length+(if ([]:List Keyword).isEmpty then 0 else 1)<30))=true:=by rfl)
  (k:(i.endLine==h.line)=true:=by rfl) (B:starEach [e] X.env= [(false,eval e X.env)]:=by rfl):PE X (.Call (.Attribute o "index" i) [e] [] h) (tD (md X) (LK f g)):=
 lO (wR PySem.F.plainAttrs_list PySem.F.slot_list_index PySem.F.type_list_index F7 K (aq ha av B) l n k B) λσ H Q qq=>by
  obtain⟨ρ,A,S,d,S',ok,e,q⟩:=qq
  obtain⟨⟨⟨L,t⟩,w⟩,e1,e⟩:=aw e
  dsimp only at e
  split at e
  ·rename_i I
   obtain⟨⟨y,W⟩,R,e⟩:=aw e
   dsimp only at e
   split at e
   ·rename_i M
    obtain⟨v,z,e⟩:=aw e
    obtain⟨vs,U,e⟩:=aw e
    obtain⟨j,e5,e⟩:=aw e
    obtain⟨rfl,rfl⟩:=da e
    refine⟨ρ,A,S,L,t,w,ok,e1,λs a Y H1 J r G N=>⟨.inl ⟨rfl,Y,G.sqL I⟩,s,A,w,[y],W,ok.to J r,by simp only[ar,ay,R,Qbq],λZ ws H2 C m u=> ?_⟩⟩
    obtain⟨p,P,r3⟩:=G.to N C m M
    cases u with
    | cons u rr=>
      cases rr
      cases oq u z
      obtain⟨rfl,f1⟩:=uM r3 U
      exact⟨a,p,_,j,rfl,rfl,P.sqL I,uj z,f1,e5,q _ _ _ (J.trans C) m (.int _)⟩
   ·cases e
  ·cases e
end
section
variable{X:Cx}{a b c e:Expr}{pos:Pos}{st:Stmt}
def N5:V->List V->Hp->VK->Prop:=λx g H Q=>∃a b f d,x=.ref a/\g= [.ref b]/\a≠b/\H a=some (.dK f)/\H b=some (.dK d)/\f.length+d.length<=sizeLine/\Q .non (upd H a (.dK (kP f d)))
def EU:NZ X "dict.update" N5:=by
 intro m s L H x M v K Q I C t h
 obtain⟨a,b,l,f,rfl,rfl,ab,ha,hb,hz,q⟩:=h
 cases C
 obtain⟨u,rfl,ru⟩:=t.one
 cases ru
 obtain⟨z,o,B,g,n⟩:=AN I.hok ha
 obtain⟨J,j,r,d,k⟩:=AN I.hok hb
 refine call_meetsIn PySem.F.slot_dict_update n.typeIs PySem.F.entry_dict_update (PySem.F.args_dict_update_2 _ _) (meets_dict_update (cD X.prog X.w) a b ab j) ⟨B,r,n,k,by rw[←g.length,←d.length];exact hz,λA i _ y=> ?_⟩
 have p:∃q,A.get? a=some q:=let ⟨q,_,_,hq,_⟩:=i;⟨q,hq⟩
 have G:=jR f l
 exact⟨.non,_,t6 I (by rw[ha];exact True.intro) y p (um (by omega) o (KV.merge d g) i),rfl,q⟩
noncomputable def JQ(f g:bV):bV:=λi S=>(f i S).bind λ(x,h)=>(g i h).bind λ(y,d)=>match x,y with
 | .ref k,.ref j=>if k≠j then match h[k]?,d[k]?,d[j]? with
   |some (.dct _),some (.dct l),some (.dct m)=>if l.length+m.length<=sizeLine then some (.non,d.set k (.dct (c9 l m))) else none
   |_,_,_=>none
   else none
 |_,_=>none
def GM{f g:bV}{o:Expr}{n h:Pos}(ho:PE X o (tD (md X) f))(A:PE X e (tD (md X) g))(s:attributeBase o "update" X.env (eval o X.env)=eval o X.env:=by rfl) (u:((backTo h (starEach [e] X.env)).all (λx=> !x.1)&&(backToKw h (keywordEach [] X.env)).all (λx=>x.1.isSome)
   &&decide ([e].length+([]:List Keyword).length+(if ([]:List Keyword).isEmpty then 0 else 1)<30))=true:=by rfl)
  (r:(n.endLine==h.line)=true:=by rfl) (R:starEach [e] X.env= [(false,eval e X.env)]:=by rfl):PE X (.Call (.Attribute o "update" n) [e] [] h) (tD (md X) (JQ f g)):=
 lO (wR PySem.F.plainAttrs_dict PySem.F.slot_dict_update PySem.F.type_dict_update EU ho (aq A av R) s u r R) λσ H Q qq=>by
  obtain⟨ρ,N,S,d,S',ok,e,q⟩:=qq
  obtain⟨⟨x,B⟩,e1,e⟩:=aw e
  obtain⟨⟨y,I⟩,e2,e⟩:=aw e
  cases x with
  | ref k=>
    cases y with
    | ref j=>
      dsimp only at e
      split at e
      · rename_i ne
        cases J:B[k]? with
        |none=>rw[J] at e;cases e
        | some o1=>
          rw[J] at e
          cases o1 with
          | dct l0=>
            cases w:I[k]? with
            |none=>rw[w] at e;cases e
            | some o2=>
              rw[w] at e
              cases o2 with
              | dct l=>
                cases C:I[j]? with
                |none=>rw[C] at e;cases e
                | some o3=>
                  rw[C] at e
                  cases o3 with
                  | dct m=>
                    dsimp only at e
                    split at e
                    · rename_i hl
                      obtain⟨rfl,rfl⟩:=da e
                      refine⟨ρ,N,S,_,B,ok,e1,λK v H1 Y t r1=> ?_⟩
                      cases r1 with
                      | ref A=>
                        rename_i a
                        obtain⟨L,g0,_⟩:=t.obj k a _ A J
                        refine⟨.inr (.inr (.inl ⟨rfl,.inl ⟨L,g0⟩⟩)),K,N,B,[.ref j],I,ok.to Y t,by simp only[ar,ay,e2,Qbq],λa0 ws H2 U i M=> ?_⟩
                        cases M with
                        | cons M rr=>
                          cases rr
                          cases M with
                          | ref Z=>
                            rename_i b
                            have p:=dF U.pre A
                            obtain⟨kv,g1,W⟩:=i.obj k a _ p w
                            obtain⟨kw,g3,P⟩:=i.obj j b _ Z C
                            have ab:a≠b:=λz=>by subst z;exact ne (mv i.nd p Z)
                            obtain⟨G,x3⟩:=i.putKd p w (cY.merge P W)
                            exact⟨a,b,kv,kw,rfl,rfl,ab,g1,g3,by rw[←W.length,←P.length];exact hl,q _ _ _ ((Y.trans U).trans x3) G .non⟩
                    · cases e
                  |_=>cases e
              |_=>cases e
          |_=>cases e
      · cases e
    |_=>cases e
  |_=>cases e
end
end DL
namespace L2
open PySem PySem.Spec PyProof.Rows
section
variable{prog:Program}{w:World}{A:Around}{s:Shared}
def wN{G F a g:Expr}{p:List Expr}{f:Scope}{pos:Pos}{it:Value}{D:Addr}{env:Env}{R:Result->Shared->Prop}(I:Nat->Shared->Prop)
  (t:∀n s,I n s->wpAny (model prog w) A (pyNext it) (λr e=>match r with
   |none=>R (.ok .next) e
   |some v=>wpAny (model prog w) A (letOwnedTupleGo a it v) (λ_ d=>wpAny (model prog w) A (assign a env v) (λ_ j=>
     wpAny (model prog w) A (forIn p true λc r=>if r=true then do let ok←isTrue c env (eval c env);pure (ForInStep.yield ok) else pure (ForInStep.yield r)) (λok s₃=>
      if ok=true then wpAny (model prog w) A (eval G env) (λx l=>wpAny (model prog w) A (eval F env) (λy i=>
       wpAny (model prog w) A (dictSet D x y) (λ_ k=>∃m,m<n/\I m k) (λ_ _=>False) i) (λ_ _=>False) l) (λ_ _=>False) s₃
      else∃m,m<n/\I m s₃) (λ_ _=>False) j) (λ_ _=>False) d) (λ_ _=>False) e) (λ_ _=>False) s)
  (n:Nat) (h:I n s):codeAny (model prog w) A (.compLoop (.DictComp G F [⟨a,g,p,0⟩] f pos) 0 it (.ref D) env) R s:=by
 refine codeAny_loop rfl I (λn s H=> ?_) n h
 show wpAny _ A ((compTurn (.DictComp G F [⟨a,g,p,0⟩] f pos) 0 it (.ref D) env).onRaise (λx=>do noteFrame x env;theTreesLotGoes x)) _ _ s
 refine wpAny_noted ?_
 rw[compTurn_dict]
 refine Qaq (wpAny_standAt (Qaq (QRq (t n s H) (λr e o=> ?_) λ_ _ b=>b.elim)))
 cases r with
 |none=>exact Qgq o
 | some v=>
   refine Qaq (QRq o (λ_ d q=> ?_) λ_ _ b=>b.elim)
   refine Qaq (QRq q (λ_ j C=>Qaq (QRq C (λok s₃ h₃=> ?_) λ_ _ b=>b.elim)) λ_ _ b=>b.elim)
   cases ok with
   |false=>exact Qgq ⟨rfl,h₃⟩
   | true=>
     exact Qaq (Qaq (QRq h₃ (λx l u=>Qaq (QLq (QRq u (λy i B=>Qaq (wpAny_standAt (QLq (QRq B (λ_ k z=>Qgq ⟨rfl,z⟩) λ_ _ b=>b.elim)))) λ_ _ b=>b.elim))) λ_ _ b=>b.elim))
end
def Lq(J:It)(g:TG)(p:TT)(o q:TE)(Q:VK)(D:Addr)(σ:St)(H:Hp):Prop:=
 ∃ W:Nat->Nat->St->Hp->Prop,(∃m,W 0 m σ H)/\∀i m e f,W i m e f→
   (J.stop i f/\Q (.ref D) f)\/(J.go i f/\∃h:St->Hp->Prop,(∀b d,h b d->∃n,n<m/\W (i+1) n b d)∧
     ∀ x H2,J.yld i f x H2->g x e H2 λa H3=>p a H3 λok H4=>
       if ok=true then o a H4 λk H5=>q a H5 λy l=>∃c j,k=kV j/\l D=some (.dK c)/\c.length<sizeLine/\h a (upd l D (.dK (putK c j y))) else h a H4)
def Hk(js:List (Option Nat))(b:TI)(g:TG)(c:TT)(d e:TE):TE:=λa H Q=>b a H λJ H1=>∀D,H1 D=none->Lq J g c d e Q D (kY js a) (upd H1 D (.dK []))
def G1{X:Cx}{N:List Str}{js:List (Option Nat)}{a:Scope}{cl:List (Str×Addr)}{tg Q kx vx K:Expr}{a6:List Expr}{pos a9:Pos}{wi:TI}{g gt:TG}{tt:TT}{tk tv:TE}
  (S:aZ X N js a cl) (hc:X.calm=true) (hi:PI X tg Q wi)
  (hg:∀C s H fp,PG (bB X N a cl C s H fp) tg g) (ht:∀C s H fp,tq (bB X N a cl C s H fp) a6 tt) (hk:∀C s H fp,PE (bB X N a cl C s H fp) kx tk) (hv:∀C s H fp,PE (bB X N a cl C s H fp) vx tv) (d9:PG X K gt)
  (hs:∀x,foldedSetIterable Q X.env x=pure x:=by intro _;rfl) (d6:swapsWithSole [K] (.DictComp kx vx [⟨tg,Q,a6,0⟩] a pos) a9.line X.env=pure true:=by rfl)
  (h1:(assignEach [K] X.env).map (·.2)= [assign K X.env]:=by rfl):PS X (.Assign [K] (.DictComp kx vx [⟨tg,Q,a6,0⟩] a pos) a9) (Ez (Hk js wi g tt tk tv) gt):=by
 intro Z s σ H Dn I h
 rw[exec_Assign_arm]
 refine Qaq (wpAny_standAt (Qaq (wpAny_of_eq d6 (wpAny_ite_true rfl (Qaq ?_)))))
 rw[h1]
 show wpAny _ _ (do let _←comprehension _ _ _ _ _ _ _ (some λv=>assignAll v [assign K X.env]);pure ()) _ _ _
 refine Qaq ?_
 refine wpAny_comprehension_free (use:=some λv=>assignAll v [assign K X.env]) rfl hs S.clos S.kind S.names (dC (hi Z s σ H _ I h) λv s1 h1=>dC h1 λe5 t h2=> ?_)
 obtain⟨it,fp,tn,J,H2,e,F,T,b2,f2,hD⟩:=h2
 subst e
 refine QhQ (wpAny_newFunctionEnv S.nocell (by intro y hy;simp at hy) (λP M B=> ?_) S.kind)
 dsimp only at M B⊢
 generalize a8:t.heap.push {cls:=.type "dict",data:=.dict #[]}=P2 at M B⊢
 have hC:P2.objs.size=t.heap.objs.size+1:=by rw[←a8,Heap.size_push]
 have b3:t.heap.objs.size≠P2.objs.size:=by rw[hC];exact Qwq (Nat.lt_succ_self _)
 have a1:t.heap.objs.size<=P2.objs.size:=by rw[hC];exact Nat.le_succ _
 have G:∀b,b<t.heap.objs.size->b≠P2.objs.size:=λb f=>by rw[hC];exact Qwq (Nat.lt_succ_of_lt f)
 have a0:∀b o,t.heap.get? b=some o->P.get? b=some o:=λb o e=>B.extBut b o (G b (Qiq e)) (Qcq _ (a8▸Qcq _ e))
 have e4:P.get? t.heap.objs.size=some {cls:=.type "dict",data:=.dict #[]}:=B.extBut _ _ b3 (Qcq _ (a8▸Qrq _ rfl))
 have nD:H2 t.heap.objs.size=none:=F.fresh
 have nC:H2 P2.objs.size=none:=F.hok.fresh a1
 have b1:∀b∈fp,b<t.heap.objs.size:=λb f=>by
  obtain⟨o,e,_⟩:=T.obj _ _ b2 b f
  exact Qiq e
 obtain⟨W,⟨m0,w0⟩,b6⟩:=hD t.heap.objs.size nD
 have c6:(bB X N a cl P2.objs.size t H2 fp).Ok:=by
  refine⟨F.ok.mod,S.kind,F.ok.glob,F.ok.blt,a1,λx y c h1 h2=>F.ok.inj x y c (S.sub x c h1) (S.sub y c h2),S.has,(λx c h=>by cases h),F.ok.hd,F.ok.frames,.inl rfl,
   λb f=>⟨G b (b1 b f),λx c h=>(f2 b f).2.2.2.2.1 x c (S.sub x c h)⟩,F.bs,QAq F.ok.bsz F.sz,λb o e f=> ?_,λb f z=> ?_,F.stack,F.stkFree⟩
  ·rcases(f2 b f).2.2.2.1 with z|z
   ·exact F.ok.noex b o e z
   ·exact absurd (Qqq (Qqq (Qiq e) F.ok.bsz) z) (Nat.lt_irrefl _)
  ·rcases Qsq.mp (F.stkSub b z) with q|q
   ·exact(f2 b f).2.1 q
   ·exact(f2 b f).2.2.1 q
 have b9:dN X.prog X.w (upd H2 t.heap.objs.size (.dK [])) P t.heap.objs.size (.dK []):=by
  obtain⟨o,es,ep,e1,e2⟩:=Heap.DictOf.new (knd:=cD X.prog X.w) t.heap
  exact um (Nat.zero_le _) (beq_eq_false_iff_ne.mpr (Ne.symm (Qwq F.big))) .nil ⟨o,es,ep,B.extBut _ _ b3 (Qcq _ (a8▸e1)),e2⟩
 have I4:Inv (bB X N a cl P2.objs.size t H2 fp) [] (kY js σ) (upd H2 t.heap.objs.size (.dK [])) {t with heap:=P,toks:=t.toks+([]:List (Str×Value)).length}:=by
  refine⟨c6,rfl,F.bare,Un.laid a0 (Qmq _) nD,⟨_,M,λi x v h1 h2 h3=> ?_⟩,λx c h=> ?_,by show upd H2 _ _ P2.objs.size=none;rw[bJ b3.symm];exact nC,λx c h=> ?_,λp hp=>absurd (show p∈([]:List (Addr×Obj)) from hp) (by simp),F.hok.laid a0 (Qmq _) b9,by show(kY js σ).length=N.length;unfold kY;rw[lQm];exact S.len⟩
  ·unfold kY at h2
   rw[gQm] at h2
   cases e:js[i]? with
   |none=>rw[e] at h2;cases h2
   | some o=>
     rw[e] at h2
     cases o with
     |none=>cases h2
     | some j=>
       have a3:σ.getD j none=some v:=QdQ h2
       have hj:σ[j]?=some (some v):=by
         rw[Qlq] at a3
         cases q:σ[j]? with
         |none=>rw[q] at a3;cases a3
         |some y=>rw[q] at a3;exact congrArg some a3
       obtain⟨c1,c2,c3⟩:=S.cap i j x e h1
       obtain⟨m,hn,hl⟩:=F.loc
       have d3:Kg X.env.scope x:=by
         rcases c2 with z|z
         · exact .inr (.inl z)
         · exact .inr (.inr z)
       obtain⟨u,r,l⟩:=hl j x v c1 hj d3
       refine⟨u,r,.inr ⟨c3,?_⟩⟩
       obtain⟨c,c4⟩:=S.has x c3
       refine⟨c,c4,?_⟩
       rcases l with⟨z,_⟩|⟨_,c',e',z⟩
       · rcases c2 with y|y <;>rw[y] at z <;>cases z
       · rw[S.sub x c c4] at e'
         cases e'
         obtain⟨o,ho,hd⟩:=z
         exact⟨o,a0 _ _ ho,hd⟩
  ·obtain⟨v,o,ho,hd⟩:=F.cell x c (S.sub x c h)
   exact⟨v,o,a0 _ _ ho,hd⟩
  ·obtain⟨v,o,ho,hd⟩:=F.cell x c (S.sub x c h)
   rw[bJ (Qwq (Qiq ho))]
   exact F.freeC x c (S.sub x c h)
 have a2:∀{Y:List (Addr×Obj)} {H':Hp},Y= []->(∀b∈fp,H' b=none)->∀b∈fp,qD (bB X N a cl P2.objs.size t H2 fp) Y H' b:=λ{Y H'} ep hn b f=>by
  subst ep
  refine⟨hn b f,G b (b1 b f),λz=>c6.exfs b f z,.inl f,λx c h=>(f2 b f).2.2.2.2.1 x c (S.sub x c h),λp hp=>absurd (show p∈([]:List (Addr×Obj)) from hp) (by simp)⟩
 have b0:codeAny (model X.prog X.w) X.A (.compLoop (.DictComp kx vx [⟨tg,Q,a6,0⟩] a pos) 0 (.ref it) (.ref t.heap.objs.size) (compEnvC a cl P2.objs.size X.env))
   (compPost (model X.prog X.w) X.A X.xe (some λv=>assignAll v [assign K X.env]) (λ_ s9=>wpAny (model X.prog X.w) X.A (pure ()) (λ_ d5=>wpAny (model X.prog X.w) X.A (pure Flow.next) (SP X Z Dn) X.xe d5) X.xe s9) (.ref t.heap.objs.size) P2.objs.size) {t with heap:=P,toks:=t.toks+([]:List (Str×Value)).length}:=by
  refine wN (λn s'=>∃i a4 H',Inv (bB X N a cl P2.objs.size t H2 fp) [] a4 H' s'/\tn i s'.heap/\(∀b∈fp,H' b=none)/\W i n a4 H') ?_ m0
   ⟨0,_,_,I4,T.keep _ _ _ b2 λb _ o e=>a0 b o e,λb f=>by rw[bJ (Qwq (b1 b f))];exact(f2 b f).1,w0⟩
  rintro n s3 ⟨i,a7,H3,I3,c5,b8,w3⟩
  rcases b6 i n a7 H3 w3 with⟨stop,q⟩|⟨go,Nx,hN,d2⟩
  ·refine dC (T.done (bB X N a cl P2.objs.size t H2 fp) rfl rfl rfl hc i [] s3 a7 H3 _ I3 (a2 rfl b8) c5 stop) λr s4 U=> ?_
   obtain⟨hr,I5⟩:=U
   subst hr
   obtain⟨m,hn,_⟩:=id I5.loc
   have e0:∀h',Heap.SameBut P2.objs.size s4.heap h'->Inv X Z σ H3 {s4 with heap:=h'}:=by
    intro h' R
    have u:=I5.base
    have ne:∀b o,t.heap.get? b=some o->b≠P2.objs.size:=λb o e=>G b (Qiq e)
    refine F.call' (ch:=fp) I5.os ⟨λb o e n f hx=>(R.2 b (ne b o e)).trans (u.keep b o e n f hx),λb o e n f hx=> ?_,u.free,λb o e hx=> ?_,u.tups,u.frzs,u.tbls⟩ (λb ob e=> ?_) I5.bare λb f=>⟨(f2 b f).2.2.2.1,(f2 b f).2.1,(f2 b f).2.2.2.2.1,(f2 b f).2.2.2.2.2⟩
    ·obtain⟨sl,e1⟩:=u.slot b o e n f hx
     exact⟨sl,(R.2 b (ne b o e)).trans e1⟩
    ·obtain⟨o',e1⟩:=u.there b o e hx
     exact⟨o',(R.2 b (ne b o e)).trans e1⟩
    ·refine(I5.hok b ob e).stay (λc w' hc q=>(R.2 c ?_).trans q) (λ_ q=>q) λ_ _ q=>q
     have fC:H3 P2.objs.size=none:=I5.free
     rintro rfl
     rcases hc with z|z
     ·rw[←z,fC] at e;cases e
     ·rw[fC] at z;cases z
   have IX:=e0 s4.heap ⟨rfl,λ_ _=>rfl⟩
   have a5:qD X Z H3 P2.objs.size:=F.fpOk a1 I5.free
   obtain⟨oC,es,ep,c0,b5,d7⟩:=hn
   have IP:=IX.pinned (fp:= [P2.objs.size]) (λb f=>by rw[Qfq] at f;rw[f];exact a5) (λb f=>by rw[Qfq] at f;rw[f];exact⟨oC,c0,λv=>by rw[b5];simp⟩)
   show wpAny _ _ (assignAll (.ref t.heap.objs.size) [assign K X.env]) _ _ _
   rw[assignAll.eq_2]
   refine dC (d9 _ s4 σ H3 (.ref t.heap.objs.size) (.ref t.heap.objs.size) _ IP rfl q) λ_ s6 U=> ?_
   obtain⟨L,H6,I6,q6⟩:=U
   have pC:=I6.pin (P2.objs.size,oC) (Qoq _ (Qoq _ (eD (Qfq.mpr rfl) c0)))
   refine⟨m,⟨oC,es,ep,pC.1,b5,d7⟩,λh' R=>Qgq (Qgq ⟨L,H6,?_,q6⟩)⟩
   exact I6.unpinned.turned (it:=P2.objs.size) (t':=s6.toks) (λb o' f e=>(R.2 b f).trans e) pC.2.1 pC.2.2.1 a5.2.2.2.1 a5.2.2.2.2.1 a5.2.2.2.2.2
  ·refine dC (T.item (bB X N a cl P2.objs.size t H2 fp) rfl rfl rfl hc i [] s3 a7 H3 _ I3 (a2 rfl b8) c5 go) λr s4 U=> ?_
   obtain⟨u,hr,h4⟩:=U
   subst hr
   refine dC h4 λ_ s5 U=> ?_
   obtain⟨x,H5,I5,r5,y5,b4,d8⟩:=U
   have e3:=I5.pinned (a2 rfl d8) (T.obj _ _ b4)
   refine dC (hg P2.objs.size t H2 fp _ s5 a7 H5 x u _ e3 r5 (d2 x H5 y5)) λ_ s6 U=> ?_
   obtain⟨L,H6,I6,q6⟩:=U
   refine dC (ht P2.objs.size t H2 fp _ s6 L H6 _ I6 q6) λok s7 U=> ?_
   obtain⟨H7,I7,q7⟩:=U
   have again:∀{s8:Shared} {H8:Hp},Inv (bB X N a cl P2.objs.size t H2 fp) ([]++oG fp s5.heap) L H8 s8->Nx L H8->∃m,m<n/\∃i a4 H',Inv (bB X N a cl P2.objs.size t H2 fp) [] a4 H' s8/\tn i s8.heap/\(∀b∈fp,H' b=none)/\W i m a4 H':=λ{s8 H8} I8 n8=>by
    obtain⟨m',hm,w8⟩:=hN L H8 n8
    refine⟨m',hm,i+1,L,H8,I8.unpinned,T.keep _ _ _ b4 λb f o e=>(I8.pin (b,o) (Qoq _ (Qoq _ (eD f e)))).1,λb f=> ?_,w8⟩
    obtain⟨o,e,d⟩:=T.obj _ _ b4 b f
    exact(I8.pin (b,o) (Qoq _ (Qoq _ (eD f e)))).2.1
   cases ok with
   |false=>exact again I7 q7
   | true=>
     refine dC (hk P2.objs.size t H2 fp _ s7 L H7 _ I7 q7) λkv s8 U=> ?_
     obtain⟨k,H8,I8,rk,q8⟩:=U
     refine dC (hv P2.objs.size t H2 fp _ s8 L H8 _ I8 q8) λyv s9 U=> ?_
     obtain⟨y,H9,I9,ry,d4,ky,ek,hx,hl,n9⟩:=U
     subst ek
     obtain⟨z,hd,vs,d1,dd⟩:=AN I9.hok hx
     refine wpAny_dictSet_pairs (Aq rk) dd (λh' b7 R=> ?_) (by rw[←d1.length];exact z)
     have he:∃q,h'.get? t.heap.objs.size=some q:=let ⟨q,_,_,hq,_⟩:=b7;⟨q,hq⟩
     have e6:=jL d4 ky y
     exact again (t6 I9 (by rw[hx];exact True.intro) R he (um (by omega) hd (d1.put ky ry) b7)) n9
 exact codeAny_compStart_dict b0 (T.self _ 0 _ _ _ (T.keep _ _ _ b2 λb _ o e=>a0 b o e) b0)
end L2
namespace DL
open PySem PySem.Spec PyProof.Rows L2
section
variable{M:Md}{ρ:List Addr}{H:Hp}{b:Addr}{us:List (Key×V)}{o:HO}
theorem g9.offK{S:aL}(st:g9 M ρ S H)(f:H b=some (.dK us))(n:b∉ρ):g9 M ρ S (upd H b o):=⟨st.len,st.nd,λk a p h j=>by
 have q:=st.obj k a p h j
 have e:a≠b:=λz=>n (z▸mQg h)
 cases p with
 |lst i=>obtain⟨g,d,c⟩:=q;exact⟨g,by rw[bJ e];exact d,c.offK f⟩
 |frz i=>obtain⟨g,o,d,c⟩:=q;exact⟨g,o,by rw[bJ e];exact d,c.offK f⟩
 |dct l=>obtain⟨m,d,c⟩:=q;exact⟨m,by rw[bJ e];exact d,c.imp λ_ _ r=>r.offK f⟩⟩
def En.offK{a:dw}{σ:L2.St}(h:En M ρ H a σ)(e:H b=some (.dK us)):En M ρ (upd H b o) a σ:=⟨h.len,λi d q=>by obtain⟨v,c,f⟩:=h.get i d q;exact⟨v,c,f.offK e⟩⟩
end
open Classical in
def jW(g:o_)(t:kR)(b c:bV)(W:aL->Prop):List D->dw->aL->List (Key×D)->Option (List (Key×D)×aL)
 | [],Γ,S,acc=>if W S then some (acc,S) else none
 |d ::ds,Γ,S,acc=>if W S then(g d Γ S).bind λ(a,f)=>(t a f).bind λ(k,e)=>
    if k=true then(b a e).bind λ(x,i)=>(c a i).bind λ(y,j)=>(wL x).bind λh=>if acc.length<sizeLine then jW g t b c W ds a j (putD acc h y) else none
    else jW g t b c W ds a e acc
  else none
def vz(js:List (Option Nat))(i:zM)(g:o_)(t:kR)(c d:bV):dw->aL->Option (List (Key×D)×aL):=λa S=>(i a S).bind λ(p,b)=>jW g t c d p.2 p.1 (oY js a) b []
def JL{M:Md}{js:List (Option Nat)}{i:zM}{g:o_}{t:kR}{fk fv:bV}{σ:L2.St}{H:Hp}{Q:VK}{ρ:List Addr}{Γ:dw}{S S':aL}{l:List (Key×D)}(ok:Ok M ρ Γ S σ H)(e:vz js i g t fk fv Γ S=some (l,S'))
  (q:∀b a kv f,cU ρ H b f->g9 M b S' f->H a=none->a∉b->f a=some (.dK kv)->cY M b f l kv->Q (.ref a) f):Hk js (tI M i) (tG M g) (tB M t) (tD M fk) (tD M fv) σ H Q:=by
 obtain⟨⟨⟨n,W⟩,S1⟩,e1,e⟩:=aw e
 refine⟨ρ,Γ,S,n,W,S1,ok,e1,λo J H1 x1 Y wk D U=> ?_⟩
 have n1:D∉o:=eQ x1 Y U
 have a4:Ok M o (oY js Γ) S1 (kY js σ) (upd H1 D (.dK [])):=⟨((ok.en.ext x1).ext (cU.laid U)).sig js,Y.lay U⟩
 refine⟨λi m C f=>m=n.length-i/\i<=n.length/\∃d B R c j,cU o H1 d f/\Ok M d B R C f/\D∉d/\f D=some (.dK j)/\cY M d f c j/\jW g t fk fv W (n.drop i) B R c=some (l,S'),
  ⟨n.length,by simp,Nat.zero_le _,o,_,S1,[],[],cU.laid U,a4,n1,cA,rfl,e⟩,?_⟩
 rintro i m b3 H2 ⟨rfl,hi,d,B,R,c,j,x2,ok2,n2,hD2,racc,e2⟩
 by_cases K:i<n.length
 ·have hd:n[i]?=some n[i]:=gQe K
  rw[QWq K] at e2
  unfold jW at e2
  split at e2
  ·rename_i w
   obtain⟨w1,w2⟩:=wk i d R H2 x2 ok2.st w
   obtain⟨go,a0⟩:=w1 _ hd
   refine .inr ⟨go,λC f=>∃b F u c j,cU o H1 b f/\Ok M b F u C f/\D∉b/\f D=some (.dK j)/\cY M b f c j/\jW g t fk fv W (n.drop (i+1)) F u c=some (l,S'),
    λC f ⟨b,F,u,c,j,h1,h2,h3,h4,h5,h6⟩=>⟨n.length-(i+1),by omega,rfl,K,b,F,u,c,j,h1,h2,h3,h4,h5,h6⟩,λx H3 hy=> ?_⟩
   obtain⟨x3,a8,r3⟩:=a0 x H3 hy
   obtain⟨⟨h,S4⟩,e4,e5⟩:=aw e2
   refine⟨d,B,R,_,h,S4,ok2.to x3 a8,r3,e4,λa9 b2 H4 x4 p=> ?_⟩
   obtain⟨⟨k,S5⟩,e6,e7⟩:=aw e5
   refine⟨a9,h,S4,k,S5,p,e6,λX H5 Z P=> ?_⟩
   have A:=(x3.trans x4).trans Z
   have G:∀{b f},cU d H2 b f->f D=some (.dK j)/\D∉b:=λ{b f} x=>⟨x.keep _ _ hD2 (.inl n2),λm=>(x.new _ m).elim n2 λz=>by rw[z] at hD2;cases hD2⟩
   dsimp only at e7⊢
   split at e7
   ·rename_i ck
    rw[Qhq ck]
    obtain⟨⟨kx,S6⟩,e8,e9⟩:=aw e7
    obtain⟨⟨y,S7⟩,a2,a5⟩:=aw e9
    obtain⟨kk,a6,N⟩:=aw a5
    refine⟨X,h,S5,kx,S6,p.to Z P,e8,λa1 kv H6 x6 a7 r6=>⟨a1,h,S6,y,S7,(p.to Z P).to x6 a7,a2,λb0 v H7 x7 a3 r7=> ?_⟩⟩
    have I:=(A.trans x6).trans x7
    obtain⟨s,n7⟩:=G I
    have L:=racc.ext' I
    split at N
    ·rename_i cl
     refine⟨j,kk,tW r6 a6,s,by rw[←racc.length];exact cl,b0,h,S7,putD c kk y,_,(x2.trans I).off U _,⟨(((p.en.ext Z).ext x6).ext x7).offK s,a3.offK s n7⟩,n7,cA,(L.put r7).imp λ_ _ r=>r.offK s,N⟩
    ·cases N
   ·rename_i ck
    rw[Quq ck]
    obtain⟨b1,n5⟩:=G A
    exact⟨X,h,S5,c,j,x2.trans A,p.to Z P,n5,b1,racc.ext' A,e7⟩
  ·cases e2
 ·have e3:i=n.length:=by omega
  subst e3
  rw[List.drop_length] at e2
  unfold jW at e2
  split at e2
  ·rename_i w
   obtain⟨rfl,rfl⟩:=da e2
   obtain⟨w1,w2⟩:=wk n.length d R H2 x2 ok2.st w
   exact .inl ⟨w2 rfl,q d D j H2 (x1.trans x2) ok2.st (x1.grow _ U) n2 hD2 racc⟩
  ·cases e2
noncomputable def NN(n:Nat)(f:dw->aL->Option (List (Key×D)×aL)):dm:=λb S=>(f b S).bind λ(l,a)=>some (.nx (b.set n (some (.ref a.length))) (a++ [.dct l]))
section
variable{X:Cx}{pos:Pos}
def IJ{N:List Str}{js:List (Option Nat)}{c:Scope}{p:List (Str×Addr)}{tg d v r f:Expr}{j:List Expr}{i:zM}{g:o_}{t:kR}{F z:bV}{n:Nat}{h:Pos}
  (S:aZ X N js c p) (R:X.calm=true) (hi:PI X tg d (tI (md X) i))
  (Y:∀C s H fp,PG (bB X N c p C s H fp) tg (tG (md X) g)) (ht:∀C s H fp,tq (bB X N c p C s H fp) j (tB (md X) t)) (I:∀C s H fp,PE (bB X N c p C s H fp) v (tD (md X) F)) (J:∀C s H fp,PE (bB X N c p C s H fp) r (tD (md X) z)) (u:PG X f (ve n))
  (L:∀x,foldedSetIterable d X.env x=pure x:=by intro _;rfl) (y:swapsWithSole [f] (.DictComp v r [⟨tg,d,j,0⟩] c pos) h.line X.env=pure true:=by rfl)
  (Q:(assignEach [f] X.env).map (·.2)= [assign f X.env]:=by rfl):PS X (.Assign [f] (.DictComp v r [⟨tg,d,j,0⟩] c pos) h) (tS (md X) (NN n (vz js i g t F z))):=
 Dd (G1 S R hi Y ht I J u L y Q) λD σ H U=>by
  obtain⟨W,Γ,S,o,ok,e,q⟩:=U
  obtain⟨⟨l,S1⟩,e1,e⟩:=aw e
  cases e
  refine JL ok e1 λk a Z G x A M K P rs=> ?_
  have w:=A.box (o:=.dct l) K ⟨Z,P,rs.pre' (List.prefix_append k [a])⟩
  have B:cU W H (k++ [a]) G:=⟨x.pre.trans (List.prefix_append _ _),λb m=>by
   rcases mQa.mp m with m|m
   ·exact x.new b m
   ·rw[Qfq] at m;subst m;exact .inr M,x.keep,x.grow⟩
  refine q (k++ [a]) _ G B ⟨((ok.en.ext B).set (.ref ?_)),w⟩
  rw[←A.len,QQq (Qmq _)]
  simp
end
end DL
namespace Zp
open PySem PySem.W PyProof.Rows
noncomputable def j7(a:Nat->Nat->Bool):KasT (Array Nat)->Array Nat
 |.ret p=>p
 |.ask i j k=>j7 a (k (a i j))
theorem jn(a:Nat->Nat->Bool):∀t:KasT (Array Nat),j7 a t∈qy t
 |.ret p=>by simp[j7,qy]
 | .ask i j k=>by
   unfold j7 qy
   cases a i j with
   |true=>exact List.mem_append_left _ (jn a (k true))
   |false=>exact Qoq _ (jn a (k false))
theorem zv{a:Nat->Nat->(Bool->Shared->Prop)->Shared->Prop}{Q:Array Nat->Shared->Prop}{s:Shared}{n:Nat}{c:Nat->Nat->Bool}(b:∀i j C,i<n->j<n->i≠j->C (c i j) s->a i j C s):
  ∀t:KasT (Array Nat),uL n t=true->Q (j7 c t) s->t.kasWp a Q s
 |.ret p,_,h=>h
 | .ask i j k,ha,h=>by
   simp only[uL,QCq,decide_eq_true_eq] at ha
   obtain⟨⟨⟨⟨f,d⟩,g⟩,m⟩,l⟩:=ha
   refine b i j _ f d g ?_
   cases e:c i j with
   |true=>exact zv b (k true) m (by unfold j7 at h;rw[e] at h;exact h)
   |false=>exact zv b (k false) l (by unfold j7 at h;rw[e] at h;exact h)
noncomputable def L0(fs:List Str)(i j:Nat):Bool:=decide ((fs.getD i "").cps.toList<(fs.getD j "").cps.toList)
noncomputable def sortBy{α:Type}(fs:List Str)(d:α)(xs:List α):List α:=if xs.length<2 then xs else(j7 (L0 fs) (kas_sort xs.length)).toList.map λi=>xs.getD i d
def fH{α:Type}{d:α}(fs:List Str)(xs:List α)(h:xs.length<=3):(sortBy fs d xs).Perm xs:=by
 unfold sortBy
 split
 ·exact List.Perm.refl _
 ·rename_i b
  obtain⟨_,a⟩:=tR xs.length h (by omega)
  have c:(j7 (L0 fs) (kas_sort xs.length)).toList.Perm (List.range xs.length):=List.isPerm_iff.mp (QUq.mp a _ (jn _ _))
  have e:(List.range xs.length).map (λi=>xs.getD i d)=xs:=by
   apply List.ext_getElem
   ·simp
   ·intro i f b
    simp[Qlq,b]
  have:=c.map λi=>xs.getD i d
  rw[e] at this
  exact this
section
variable{prog:Program}{w:World}{A:Around}{E:Value->Shared->Prop}{s:Shared}
def BW{a:Addr}{vs:List Value}{fs:List Str}{n:Nat}{P:PySem.Fin->Shared->Prop}(H:s.heap.get? a=some (seqObj "list" vs.toArray n))(h3:vs.length<=3)(ht:fK s.heap vs fs)(hd:fs.Nodup)
  (q:∀I:Array Value,I.toList=sortBy fs Value.none vs->P (.done (.ret .none)) {s with heap:=sortedHeap s.heap a vs I}):wpAny (model prog w) A (Builtin.«list.sort» ⟨[.ref a],[]⟩) P E s:=by
 rw[list_sort_plain]
 have ha:a<s.heap.objs.size:=Qiq H
 refine Qaq (listItems_at H rfl (Qaq (listUpdate_at H rfl ?_ (by rw[Qjq,sizeLine_eq];omega) (Nat.zero_le _))))
 obtain⟨W,J⟩:∃W,(s.heap.update a (Obj.mapSeq λ_=> #[])).get? a=some (seqObj "list" #[] W):=⟨_,get?_update_seq H (λ_=> #[])⟩
 refine Qaq (seqEpoch_at J rfl (Qaq (wpAny_newTuple ?_ (by show vs.length<=_;rw[sizeLine_eq];omega))))
 refine Qaq (wpAny_newList (QLq ?_) (Nat.zero_le _))
 have h:(((s.heap.update a (Obj.mapSeq λ_=> #[])).push (seqObj "tuple" vs.toArray 0)).push (seqObj "list" #[] 0)).get? a=some (seqObj "list" #[] W):=Qcq _ (Qcq _ J)
 have m:fK (((s.heap.update a (Obj.mapSeq λ_=> #[])).push (seqObj "tuple" vs.toArray 0)).push (seqObj "list" #[] 0)) vs fs:=ht.keep λb o e c=>by
  have nb:b≠a:=λz=>by rw[z,H] at e;cases e;simp[seqObj] at c
  exact Qcq _ (Qcq _ (by rw[Heap.get?_update_ne _ _ _ _ nb];exact e))
 refine(?_:wpAny (model prog w) A _ P E {s with heap:=((s.heap.update a (Obj.mapSeq λ_=> #[])).push (seqObj "tuple" vs.toArray 0)).push (seqObj "list" #[] 0)})
 dsimp only
 by_cases F:vs.toArray.size<2
 ·rw[Qhq F,Qhq F]
  refine Qaq (Qgq ?_)
  rw[StateT.run_pure]
  refine Qaq (Qgq ?_)
  dsimp only
  have e2:((vs.toArray.zip vs.toArray).map (·.2))=vs.toArray:=by
   apply Array.toList_inj.mp
   simp
   exact List.map_snd_zip (Qmq _)
  refine Qaq (seqEpoch_at h rfl (Qaq (listUpdate_at h rfl ?_ (hsz2:=by
   refine QAq (Nat.le_of_eq (congrArg Array.size e2)) ?_
   rw[Qjq,sizeLine_eq]
   omega))))
  simp only[bne_self_eq_false,Bool.false_eq_true,if_false]
  refine Qgq ?_
  have:=q vs.toArray (by unfold sortBy;rw[Qhq (by simpa using F)])
  rw[←e2] at this
  exact this
 ·rw[Quq F,Quq F]
  have hn:2<=vs.length:=by simpa using F
  obtain⟨gs,kt,lg,mg⟩:=m.firsts
  have lf:=ht.len
  refine Qaq (kat_kind (T:=.type "str") kt (by omega) (λv hv=> ?_) rfl ?_)
  ·obtain⟨x,t,rfl⟩:=mg v hv
   exact .now
  obtain⟨ok,perm⟩:=tR vs.length h3 hn
  have L:SortSt.mk' (tuples' true) (vs.toArray.zip vs.toArray) #[] 7 none=kas_st (tuples' true) (pairsOf vs) (List.toArray (List.range vs.length)):=by
   have e:=kas_range (pairsOf vs)
   rw[pairsOf_size] at e
   refine(?_:SortSt.mk' (tuples' true) (pairsOf vs) #[] 7 none=SortSt.mk' (tuples' true) ((List.toArray (List.range vs.length)).map (kas_item (pairsOf vs))) #[] 7 none)
   rw[e]
  refine(?_:wpAny (model prog w) A (StateT.run sortRuns' (SortSt.mk' (tuples' true) (vs.toArray.zip vs.toArray) #[] 7 none) >>= _) P E _)
  rw[L]
  have S:=kas_runs (prog:=prog) (w:=w) (A:=A) (E:=E) (κ:=tuples' true) (it:=pairsOf vs) (n:=vs.length)
   (s:={s with heap:=((s.heap.update a (Obj.mapSeq λ_=> #[])).push (seqObj "tuple" vs.toArray 0)).push (seqObj "list" #[] 0)})
   (G:=λp K=>p=j7 (L0 fs) (kas_sort vs.length)/\K={s with heap:=((s.heap.update a (Obj.mapSeq λ_=> #[])).push (seqObj "tuple" vs.toArray 0)).push (seqObj "list" #[] 0)})
   (Q:=λ_ f K=>K={s with heap:=((s.heap.update a (Obj.mapSeq λ_=> #[])).push (seqObj "tuple" vs.toArray 0)).push (seqObj "list" #[] 0)}/\failedOf f=none/\∃p,p=j7 (L0 fs) (kas_sort vs.length)/\arrOf f=p.map (kas_item (pairsOf vs)))
   hn (by omega) (λp' f K a1 a2 a3 a4=>⟨a4.2,a3,p',a4.1,a2⟩) (zv (n:=vs.length) (λi j C hi hj N hC=> ?_) _ ok ⟨rfl,rfl⟩)
  ·refine Qaq (QRq S ?_ λ_ _ e=>e)
   rintro⟨⟨⟩,f⟩ K ⟨rfl,hf,p,hp,har⟩
   dsimp only
   have l:((arrOf f).map (·.2)).toList=sortBy fs Value.none vs:=by
    unfold sortBy
    rw[Quq (by omega),har,Array.map_map,Array.toList_map,hp]
    refine List.map_congr_left λk _=> ?_
    show(kas_item (pairsOf vs) k).2=_
    rw[kas_item_eq]
   have g:=fH (d:=Value.none) fs vs h3
   have U:((arrOf f).map (·.2)).size=vs.length:=by
    have:=congrArg List.length l
    rw[g.length_eq] at this
    simpa using this
   refine Qaq (seqEpoch_at h rfl (Qaq (listUpdate_at h rfl ?_ (hsz2:=by
    refine QAq (Nat.le_of_eq U) ?_
    rw[sizeLine_eq]
    omega))))
   rw[hf]
   simp only[bne_self_eq_false,Bool.false_eq_true,if_false]
   exact Qgq (q _ l)
  ·unfold kas_cmp
   rw[kas_item_eq,kas_item_eq]
   obtain⟨x,ox,Z,nx,tx,ex,gx,dx,fx⟩:=m.get (i:=i) (by omega)
   obtain⟨y,oy,ys,ny,ty,ey,gy,dy,fy⟩:=m.get (i:=j) (by omega)
   dsimp only
   rw[ex,ey]
   have R:¬fs.getD i ""=fs.getD j "":=λz=>by
    have B:i<fs.length:=by omega
    have u:j<fs.length:=by omega
    rw[Qlq,Qlq,gQe B,gQe u] at z
    have z':fs[i]=fs[j]:=z
    rcases Nat.lt_or_gt_of_ne N with X|X
    ·exact List.pairwise_iff_getElem.mp hd i j B u X z'
    ·exact List.pairwise_iff_getElem.mp hd j i u B X z'.symm
   refine kat_lt gx dx gy dy ?_
   obtain⟨xr,M⟩:∃r,Z.toList=.str (fs.getD i "") tx::r:=by
    cases e:Z.toList with
    |nil=>have:=congrArg (·[0]?) e;simp[fx] at this
    |cons v r=>have:=congrArg (·[0]?) e;simp[fx] at this;exact⟨r,by rw[Qlq,this]⟩
   obtain⟨yr,Y⟩:∃r,ys.toList=.str (fs.getD j "") ty::r:=by
    cases e:ys.toList with
    |nil=>have:=congrArg (·[0]?) e;simp[fy] at this
    |cons v r=>have:=congrArg (·[0]?) e;simp[fy] at this;exact⟨r,by rw[Qlq,this]⟩
   rw[M,Y,List.zip_cons_cons]
   refine kat_cons (wpAny_eqBool_str ?_)
   rw[Qdq R]
   exact kat_no (oneLt_str hC)
def yX{l:Addr}{vs:List Value}{fs:List Str}{Q:Value->Shared->Prop}(g:s.heap.IsList l vs.toArray)(h:vs.length<=3)(ht:fK s.heap vs fs)(hd:fs.Nodup)
  (q:∀a:Array Value,a.toList=sortBy fs Value.none vs->Q (.ref (s.heap.objs.size+1)) {s with heap:=sortedAll s.heap vs a}):wpAny (model prog w) A (call (.builtin "sorted") [.ref l]) Q E s:=by
 refine Calls.call_function_entry kind_sorted plain_sorted entry_sorted (args_sorted1 _) ?_
 unfold Builtin.«sorted»
 refine Qaq (m:=checkCount "sorted" 1 1 _) (Qgq (Qaq (collect_list g (Qaq (wpAny_newList ?_ (by rw[sizeLine_eq];omega))) (by rw[sizeLine_eq];omega))))
 have d:((s.heap.push (seqObj "list" #[] 0)).update s.heap.objs.size (Obj.mapSeq (·++vs.toArray))).objs.size=s.heap.objs.size+1:=by rw[Heap.size_update,size_push']
 have f:(((s.heap.push (seqObj "list" #[] 0)).update s.heap.objs.size (Obj.mapSeq (·++vs.toArray))).push (seqObj "list" vs.toArray 0)).get? (s.heap.objs.size+1)=some (seqObj "list" vs.toArray 0):=by
  rw[←d]
  exact Qrq _ rfl
 have c:fK (((s.heap.push (seqObj "list" #[] 0)).update s.heap.objs.size (Obj.mapSeq (·++vs.toArray))).push (seqObj "list" vs.toArray 0)) vs fs:=ht.keep λb o e _=>by
  have j:b<s.heap.objs.size:=Qiq e
  refine Qcq _ ?_
  rw[Heap.get?_update_ne _ _ _ _ (Qwq j)]
  exact Qcq _ e
 refine(?_:wpAny _ _ _ _ _ {s with heap:=((s.heap.push (seqObj "list" #[] 0)).update s.heap.objs.size (Obj.mapSeq (·++vs.toArray))).push (seqObj "list" vs.toArray 0)})
 rw[d]
 refine Qaq (QLq (wpAny_call_entry slot_list_sort ⟨_,f,rfl⟩ entry_list_sort (BW f h c hd λa i=>⟨_,rfl,?_⟩) (args_list_sort _)))
 exact Qgq ⟨_,rfl,q a i⟩
end
end Zp
namespace L2
open PySem PySem.Spec PyProof.Rows
section
variable{X:Cx}
def Io(K:PySem.W.Frag):List V->Hp->VK->Prop:=λd H Q=>∃(a:Addr) (b:List Addr) (c:List Str),d= [.ref a]/\jN K H a (b.map V.ref)/\b.length<=3/\xW H b c/\c.Nodup/\∀(l:Addr),H l=none->Q (.ref l) (upd H l (.lst ((Zp.sortBy c 0 b).map V.ref)))
def wK:ij X (.builtin "sorted") (Io X.K):=by
 intro l s G H F B Q I r h
 obtain⟨a,c,g,rfl,ha,h3,hF,hd,q⟩:=h
 obtain⟨u,rfl,rx⟩:=vals1 r
 cases (show u=Value.ref a from rx)
 obtain⟨w,t,n,C⟩:=I.list ha
 cases w_ t
 have j:s.heap.objs.size<=s.heap.objs.size+1:=Nat.le_succ _
 refine Zp.yX n.isList (by simpa using h3) (zW I hF) hd λd x=> ?_
 have z:d.toList=(Zp.sortBy g 0 c).map Value.ref:=by
  rw[x]
  unfold Zp.sortBy
  rw[lQm]
  split
  ·rfl
  ·rename_i A
   rw[QPq]
   obtain⟨_,k⟩:=Zp.tR c.length h3 (by omega)
   have f:(Zp.j7 (Zp.L0 g) (PySem.W.kas_sort c.length)).toList.Perm (List.range c.length):=List.isPerm_iff.mp (QUq.mp k _ (Zp.jn _ _))
   refine List.map_congr_left λi v=> ?_
   have p:i<c.length:=List.mem_range.mp (f.mem_iff.mp v)
   show(c.map Value.ref).getD i Value.none=Value.ref (c.getD i 0)
   rw[Qlq,Qlq,gQm,gQe p]
   rfl
 obtain⟨e,m⟩:=sortedAll_at s.heap (c.map Value.ref) d
 refine⟨.ref (s.heap.objs.size+1),_,I.laid (a:=s.heap.objs.size+1) (o:=.lst ((Zp.sortBy g 0 c).map V.ref)) (h':=sortedAll s.heap (c.map Value.ref) d) (t':=s.toks) (λb o y=>sortedAll_old y) j ⟨?_,d.toList,e,?_,?_⟩,rfl,q _ (I.hok.fresh j)⟩
 ·rw[lQm,(Zp.fH g c h3).length_eq]
  exact QAq h3 (by decide)
 ·have:=vL (Zp.sortBy g 0 c)
  rw[←z] at this
  exact this
 ·simpa using m
end
end L2
namespace DL
open PySem PySem.Spec PyProof.Rows L2
def xu(a b:Str):Prop:=¬(b.cps.toList<a.cps.toList)
instance(a b:Str):Decidable (xu a b):=by unfold xu;infer_instance
def Et(a b:Str):xu a b\/xu b a:=by
 by_cases h:b.cps.toList<a.cps.toList
 ·exact .inr λc=>List.lt_asymm h c
 ·exact .inl h
def xD{a b c:Str}(d:xu a b)(e:xu b c):xu a c:=by
 unfold xu at *
 rw[List.not_lt] at *
 exact List.le_trans d e
def HZ{a b:Str}(c:xu a b)(d:xu b a):a=b:=by
 unfold xu at *
 rw[List.not_lt] at *
 have:=List.le_antisymm c d
 cases a
 cases b
 simp only[Str.mk.injEq]
 exact Array.toList_inj.mp this
noncomputable def CH(x:Str):List Str->List Str
 | []=> [x]
 |y::r=>if xu x y then x::y::r else y::CH x r
noncomputable def qF:List Str->List Str
 | []=> []
 |x::r=>CH x (qF r)
theorem qw(x:Str):∀l:List Str,(CH x l).Perm (x::l)
 | []=>List.Perm.refl _
 | y::r=>by
   unfold CH
   split
   · exact List.Perm.refl _
   · exact((qw x r).cons y).trans (List.Perm.swap _ _ _)
theorem jM:∀l:List Str,(qF l).Perm l
 | []=>List.Perm.refl _
 |x::r=>(qw x _).trans ((jM r).cons x)
theorem sf{x:Str}:∀{l:List Str},l.Pairwise xu->(CH x l).Pairwise xu
 | [],_=>by simp[CH]
 | y::r,h=>by
   rw[List.pairwise_cons] at h
   unfold CH
   split
   · rename_i c
     refine List.pairwise_cons.mpr ⟨λz a=> ?_,List.pairwise_cons.mpr h⟩
     rcases Qsq.mp a with rfl|a
     · exact c
     · exact xD c (h.1 z a)
   · rename_i c
     refine List.pairwise_cons.mpr ⟨λz a=> ?_,sf h.2⟩
     rcases Qsq.mp ((qw x r).mem_iff.mp a) with rfl|a
     · exact(Et _ _).resolve_left c
     · exact h.1 z a
theorem nj:∀l:List Str,(qF l).Pairwise xu
 | []=>List.Pairwise.nil
 |x::r=>sf (nj r)
def y9:∀{l:List Str},sortedS l=true->l.Pairwise xu
 | [],_=>List.Pairwise.nil
 | x::r,h=>by
   have d:∀(r:List Str) (x:Str),risingS x r=true->(x::r).Pairwise xu:=by
     intro r
     induction r with
     |nil=>intro x _;simp
     | cons y r e=>
       intro x h
       unfold risingS at h
       simp only[QCq] at h
       have c:=e y h.2
       have b:xu x y:=by
         have:=h.1
         unfold xu
         rw[ltCps_eq] at this
         simpa using this
       refine List.pairwise_cons.mpr ⟨λz a=> ?_,c⟩
       rcases Qsq.mp a with rfl|a
       · exact b
       · exact xD b ((List.pairwise_cons.mp c).1 z a)
   exact d r x h
def FB{c ss:List Str}(h:sortedS c=true)(p:c.Perm ss):c=qF ss:=
 List.Perm.eq_of_pairwise (le:=xu) (λa b _ _ d e=>HZ d e) (y9 h) (nj ss) (p.trans (jM ss).symm)
end DL
namespace L2
open PySem PySem.Spec PyProof.Rows
end L2
namespace DL
open PySem PySem.Spec L2
section
variable{X:Cx}{a b e:Expr}{pos:Pos}
noncomputable def xU:List D->Option (List Str)
 | []=>some []
 |.str x::r=>(xU r).bind λc=>some (x::c)
 |_::_=>none
theorem Ab{M:Md}{ρ:List Addr}{H:Hp}:∀{ds:List D} {vs:List V} {xs:List Str},bC M ρ H ds vs->xU ds=some xs->vs=xs.map V.str
 | [],_,_,h,e=>by cases h;cases e;rfl
 | d::ds,_,_,h,e=>by
   cases d with
   | str b=>
     simp only[xU] at e
     obtain⟨c,g,e⟩:=aw e
     cases e
     cases h with
     | cons h f=>
       cases h
       rw[Ab f g]
       rfl
   |_=>cases e
theorem xJ{M:Md}{ρ:List Addr}{H:Hp}:∀ss:List Str,bC M ρ H (ss.map D.str) (ss.map V.str)
 | []=>.nil
 |s::ss=>.cons (.str s) (xJ ss)
noncomputable def Df(f:gu):iH:=λg S=>(f g S).bind λ(p,d)=>if p.2.isL=true then(xU p.1).bind λc=>if c.length<64 then some ((qF c).map D.str,d) else none else none
def Gf{f:gu}{p:Pos}(G:Gl X "sorted")(A:X.mg "sorted"=none)(w:PE X a (tQ (md X) f))(j:starEach [a] X.env= [(false,eval a X.env)]:=by rfl):
  PE X (.Call (.Name "sorted" p) [a] [] pos) (tL (md X) (Df f)):=
 lO (fc zm G A PyProof.Rows.boot_sorted (eG w hJ j) (he:=j)) λK H Q B=>by
  obtain⟨F,n,S,d,J,ok,e,q⟩:=B
  obtain⟨⟨⟨m,t⟩,k⟩,I,e⟩:=aw e
  dsimp only at e
  split at e
  ·rename_i c
   obtain⟨s,o,e⟩:=aw e
   split at e
   ·rename_i z
    obtain⟨rfl,rfl⟩:=da e
    refine⟨F,n,S,m,t,k,ok,I,λC a M L x i h r=>⟨a,s,rfl,?_,z,λl v g y u=> ?_⟩⟩
    ·rw[←Ab r o];exact h.sqL c
    ·cases FB y u
     exact q _ _ _ _ (x.trans (cU.laid g)) (i.lay g) (x.grow _ g) (eQ x i g) cA (xJ _)
   ·cases e
  ·cases e
noncomputable def rY:List D->Option (List Str)
 | []=>some []
 |.tup (.str x::_)::r=>(rY r).bind λc=>some (x::c)
 |_::_=>none
theorem AE{M:Md}{ρ:List Addr}{H:Hp}:∀{ds:List D} {vs:List V} {xs:List Str},bC M ρ H ds vs->rY ds=some xs->∃rs:List Addr,vs=rs.map V.ref/\xW H rs xs
 | [],_,_,h,e=>by cases h;cases e;exact⟨[],rfl,.nil⟩
 | .tup (.str x::us)::r,_,_,h,e=>by
   simp only[rY] at e
   obtain⟨f,g,e⟩:=aw e
   cases e
   cases h with
   | cons h d=>
     cases h with
     | tup h c=>
       obtain⟨rs,rfl,F⟩:=AE d g
       cases c with
       | cons i c=>
         cases i
         exact⟨_::rs,rfl,.cons h F⟩
 |.tup (.non::_)::_,_,_,_,e=>by cases e
 |.tup (.bl _::_)::_,_,_,_,e=>by cases e
 |.tup (.int _::_)::_,_,_,_,e=>by cases e
 |.tup (.tup _::_)::_,_,_,_,e=>by cases e
 |.tup (.ref _::_)::_,_,_,_,e=>by cases e
 |.tup (.fn _::_)::_,_,_,_,e=>by cases e
 |.tup []::_,_,_,_,e=>by cases e
 |.non::_,_,_,_,e=>by cases e
 |.bl _::_,_,_,_,e=>by cases e
 |.int _::_,_,_,_,e=>by cases e
 |.str _::_,_,_,_,e=>by cases e
 |.ref _::_,_,_,_,e=>by cases e
 |.fn _::_,_,_,_,e=>by cases e
noncomputable def vd(ss:List Str)(ds:List D):List D:=Zp.sortBy ss .non ds
def vI{α l:Type}{R:α->l->Prop}{ss:List Str}{xs:List α}{ys:List l}{d:α}{d':l}(n:xs.length=ys.length)(o:xs.length<=3)(h:∀(i:Nat) (x:α),xs[i]?=some x->∃y,ys[i]?=some y/\R x y):
  ∀(i:Nat) (x:α),(Zp.sortBy ss d xs)[i]?=some x->∃y,(Zp.sortBy ss d' ys)[i]?=some y/\R x y:=by
 intro i x e
 unfold Zp.sortBy at *
 rw[←n]
 split at e
 ·rename_i c;rw[Qhq c];exact h i x e
 ·rename_i s
  obtain⟨_,j⟩:=Zp.tR xs.length o (by omega)
  have f:(Zp.j7 (Zp.L0 ss) (PySem.W.kas_sort xs.length)).toList.Perm (List.range xs.length):=List.isPerm_iff.mp (QUq.mp j _ (Zp.jn _ _))
  rw[gQm] at e
  obtain⟨k,m,e⟩:=oQm.mp e
  have g:k<xs.length:=List.mem_range.mp (f.mem_iff.mp (mQg m))
  have q:xs[k]?=some x:=by
   rw[Qlq,gQe g] at e
   rw[gQe g]
   exact congrArg some e
  obtain⟨y,p,r⟩:=h k x q
  refine⟨y,?_,r⟩
  rw[Quq (by omega),gQm,m]
  simp[Qlq,p]
theorem bC.of_get{M:Md}{ρ:List Addr}{H:Hp}:∀{ds:List D} {vs:List V},ds.length=vs.length->(∀(i:Nat) (d:D),ds[i]?=some d->∃v,vs[i]?=some v/\Rel M ρ H d v)->bC M ρ H ds vs
 | [],[],_,_=>.nil
 | [],_::_,h,_=>by cases h
 |_::_,[],h,_=>by cases h
 | d::ds,v::vs,h,g=>by
   obtain⟨f,e,r⟩:=g 0 d rfl
   cases e
   exact .cons r (bC.of_get (Nat.succ.inj h) λi d c=>by
     obtain⟨v,e,r⟩:=g (i+1) d (by simpa using c)
     exact⟨v,by simpa using e,r⟩)
noncomputable def yR(f:gu):iH:=λg S=>(f g S).bind λ(p,d)=>if p.2.isL=true then(rY p.1).bind λc=>if p.1.length<=3/\c.Nodup then some (vd c p.1,d) else none else none
def E7{f:gu}{p:Pos}(W:Gl X "sorted")(M:X.mg "sorted"=none)(L:PE X a (tQ (md X) f))(B:starEach [a] X.env= [(false,eval a X.env)]:=by rfl):
  PE X (.Call (.Name "sorted" p) [a] [] pos) (tL (md X) (yR f)):=
 lO (fc wK W M PyProof.Rows.boot_sorted (eG L hJ B) (he:=B)) λσ H Q N=>by
  obtain⟨U,G,S,d,Z,ok,e,q⟩:=N
  obtain⟨⟨⟨k,t⟩,C⟩,Y,e⟩:=aw e
  dsimp only at e
  split at e
  ·rename_i c
   obtain⟨m,I,e⟩:=aw e
   split at e
   ·rename_i o
    obtain⟨rfl,rfl⟩:=da e
    refine⟨U,G,S,k,t,C,ok,Y,λs a vs P x A h r=> ?_⟩
    obtain⟨u,rfl,F⟩:=AE r I
    have w:k.length=u.length:=by have:=r.length;simpa using this
    refine⟨a,u,m,rfl,h.sqL c,by omega,F,o.2,λl g=> ?_⟩
    refine q _ _ _ _ (x.trans (cU.laid g)) (A.lay g) (x.grow _ g) (eQ x A g) cA (bC.ext (cU.laid g) ?_)
    refine bC.of_get ?_ λi d j=> ?_
    ·rw[lQm]
     unfold vd
     rw[(Zp.fH m k o.1).length_eq,(Zp.fH m u (by omega)).length_eq,w]
    ·obtain⟨y,n,K⟩:=vI (R:=λ(d:D) (a:Addr)=>Rel (md X) s P d (.ref a)) (d':=0) w o.1 (λi d j=>by
      obtain⟨v,z,J⟩:=r.get j
      rw[gQm] at z
      obtain⟨y,n,rfl⟩:=oQm.mp z
      exact⟨y,n,J⟩) i d j
     exact⟨.ref y,by rw[gQm,n];rfl,K⟩
   ·cases e
  ·cases e
end
def tZ{P:Program}{w:World}{K:PySem.W.Frag}{mg:Str->Option Value}{base:Heap}{f:Addr}{c:FuncData}{ps:List Str}{k n:Nat}:bO P w K mg base eN k f c ps (fm ⟨K,mg⟩ n λ_ _=>none):=
 {len:=λd H Q E h=>by
   obtain⟨_,_,_,_,_,_,_,_,e,_⟩:=h
   cases e
  run:=λA a s H b g d Q E _ _ _ _ h=>by
   obtain⟨_,_,_,_,_,_,_,_,e,_⟩:=h
   cases e}
end DL
namespace Zq
open PySem PyProof.Rows
def Jb{prog:Program}{w:World}{A:Around}(k:A.handled=none)(t:Bool)(it a:Addr)(f:a≠it)(items:Array Value):
  Draws prog w A it [it,a] items.size (λi v=>items[i]?=some v) (λi h=>It t h it a i/\Sq t h a items) where
 live:=λ_ _ b=>by obtain⟨o,h,_⟩:=b.1.obj;exact⟨o,h⟩
 frame:=λ_ _ _ b g=>⟨b.1.at λo e=>g it (by simp) o e,b.2.at λo e=>g a (by simp) o e⟩
 item:=λi s Q E j b n=>draw b.1 b.2 (v:=items[i]) (by simp[j]) λl c d=>n _ l s.toks (by simp[j]) ⟨c,b.2.ext d.extBut f⟩ d
 done:=λs Q E b m=>Ec k b.1 b.2 (by simp) m
def F5{prog:Program}{w:World}{A:Around}(d:A.handled=none)(t:Bool)(it a:Addr)(items:Array Value)(k:Nat)(c:items.size<=k):
  Draws prog w A it [it,a] k (λi v=>items[i]?=some v) (λi h=>i=k/\It t h it a k/\Sq t h a items) where
 live:=λ_ _ b=>by obtain⟨o,h,_⟩:=b.2.1.obj;exact⟨o,h⟩
 frame:=λ_ _ _ b c=>⟨b.1,b.2.1.at λo e=>c it (by simp) o e,b.2.2.at λo e=>c a (by simp) o e⟩
 item:=λi s Q E f b j=>absurd b.1 (Qwq f)
 done:=λs Q E b g=>Ec d b.2.1 b.2.2 (by simp[c]) g
noncomputable abbrev E2(t:Bool)(h:Heap)(a:Addr):Heap:=(H1 t h a).push {cls:=.type "enumerate",data:=.fields #[.none,.bool false,.ref h.objs.size,rawInt 0,.none,.none]}
def Ci(t:Bool)(a:Addr)(xs:Array Value):Meets (Builtin.«enumerate.__new__» ⟨[.type "enumerate",.ref a],[]⟩) (λ_ R s=>Sq t s.heap a xs/\R (.ok (.ret (.ref (H1 t s.heap a).objs.size))) {s with heap:=E2 t s.heap a}):=
 .of_wp λj w A R s h=>by
  obtain⟨k,g,d,f,e⟩:=s
  obtain⟨l,h⟩:=h
  have i:=sub_enumerate
  cases t
  ·have b:Heap.IsList (Shared.heap ⟨k,g,d,f,e⟩) a xs:=l
   wp_walk
   refine wpAny_stack_any λm=>Qgq ?_
   split
   ·rename_i c _ _ _ _ _
    cases (c==Value.type "enumerate")
    ·wp_walk using wpAny_pyIter_list b
     exact⟨_,rfl,h⟩
    ·wp_walk using wpAny_pyIter_list b
     exact⟨_,rfl,h⟩
   ·wp_walk using wpAny_pyIter_list b
    exact⟨_,rfl,h⟩
  ·have b:Heap.IsTuple (Shared.heap ⟨k,g,d,f,e⟩) a xs:=l
   wp_walk
   refine wpAny_stack_any λm=>Qgq ?_
   split
   ·rename_i c _ _ _ _ _
    cases (c==Value.type "enumerate")
    ·wp_walk using wpAny_pyIter_tuple b
     exact⟨_,rfl,h⟩
    ·wp_walk using wpAny_pyIter_tuple b
     exact⟨_,rfl,h⟩
   ·wp_walk using wpAny_pyIter_tuple b
    exact⟨_,rfl,h⟩
section
variable{prog:Program}{w:World}{A:Around}{E:Value->Shared->Prop}{s:Shared}
def Nn{t:Bool}{a:Addr}{xs:Array Value}{Q:Value->Shared->Prop}(g:Sq t s.heap a xs)
  (q:∀h',IsEnum h' (s.heap.objs.size+1) s.heap.objs.size 0 .none->It t h' s.heap.objs.size a 0->(∀c o,s.heap.get? c=some o->h'.get? c=some o)->Q (.ref (s.heap.objs.size+1)) {s with heap:=h'}):
  wpAny (model prog w) A (call (.type "enumerate") [.ref a]) Q E s:=by
 refine callType_new F.called_enumerate (by decide) (F.typeCall_enumerate_1 _) (F.newCall_enumerate_1 _) (λb=>F.args_object_init_2 b _) F.entry_enumerate_new (Ci t a xs) ⟨g,?_⟩
 have e:(H1 t s.heap a).objs.size=s.heap.objs.size+1:=Heap.size_push ..
 have d:(E2 t s.heap a).get? (H1 t s.heap a).objs.size=some _:=Qrq _ rfl
 have f:(E2 t s.heap a).get? s.heap.objs.size=some _:=Qcq _ (Qrq _ rfl)
 refine(?_:_/\_)
 rw[e] at d
 rw[e]
 refine⟨⟨_,d,rfl⟩,q _ d ?_ λc o n=>Qcq _ (Qcq _ n)⟩
 cases t <;>exact⟨_,f,rfl,rfl⟩
end
end Zq
namespace L2
open PySem PyProof.Rows Zq
noncomputable def OP(K:PySem.W.Frag)(t:Bool)(a:Addr):It:=
  ⟨λi H=>∃b x,AK K t H a b/\b[i]?=some x,
   λi H v c=>∃p,v=.ref p/\H p=none/\∀b x,AK K t H a b->b[i]?=some x->c=upd H p (.tup [.int (i:Nat),x]),
   λi H=>∃b,AK K t H a b/\b.length<=i⟩
def EF{P:Program}{w:World}{K:PySem.W.Frag}{q:List Expr}{x1:Nat}{tp:Pos}{t:Bool}{e it a:Addr}(l:e≠it)(M:a≠e)(S:a≠it):
  Turn P w K (.Tuple q x1 tp) (OP K t a) [e,it] e (λn h=>(∃d,IsEnum h e it (n:Nat) d)/\Zq.It t h it a n) where
 mem:=by simp
 obj:=λn h ⟨⟨d,f⟩,j⟩ c b=>by
  simp at b
  rcases b with rfl|rfl
  ·exact⟨_,f,λv n=>by cases n⟩
  ·exact j.obj
 keep:=λn h h' ⟨⟨d,f⟩,j⟩ k=>⟨⟨d,k e (by simp) _ f⟩,j.at λo e=>k it (by simp) o e⟩
 item:=by
  rintro X m G z b n i s Z H E I y ⟨⟨d,f⟩,j⟩ N
  subst m G z
  obtain⟨xs,x,u,B⟩:=N
  obtain⟨g,F,J,_⟩:=I.sq u
  obtain⟨ux,ex,rx⟩:=F.get B
  have lt:∀{c o},s.heap.get? c=some o->c≠s.heap.objs.size:=λe=>Qwq (Qiq e)
  have r:∀c∈[e,it],c≠s.heap.objs.size:=λc b=>by
   obtain⟨oi,e1,_⟩:=j.obj
   simp at b
   rcases b with rfl|rfl
   ·exact lt f
   ·exact lt e1
  have C:n<g.toArray.size:=by
   have:=(gQs.mp ex).1
   simpa using this
  refine wpAny_pyNext_enum_itemD (Jb (A:=X.A.in1) (I.ok.hd b) t it a S g.toArray) f ⟨j,J⟩ C l (by simp[l,Ne.symm M]) λY h1 U m ho Q hT a0 hk=>⟨_,rfl,?_⟩
  obtain rfl:Y=ux:=by
   have:=m
   simp only[List.getElem?_toArray] at this
   rw[ex] at this
   exact(QdQ this).symm
  refine wpAny_letOwnedTupleGo_enum ho λh2 e2 L=> ?_
  have I2:Inv X i Z (upd H s.heap.objs.size (.tup [.int (n:Nat),x])) {s with heap:=h2,toks:=U+1}:=I.turnedNew (t':=U+1) (fp:= [e,it]) y (λc o b p=> ?_) (Qmq _) ?_
  ·refine⟨.ref s.heap.objs.size,_,I2,rfl,⟨s.heap.objs.size,rfl,I.hok.fresh (Qmq _),λa1 Y q1 R=> ?_⟩,⟨⟨_,by simpa using e2⟩,Q.1.ext L.extBut (Ne.symm l)⟩,λc b=> ?_⟩
   ·rw[I.sq_inj q1 u] at R
    rw[B] at R
    cases R
    rfl
   ·rw[bJ (r c b)]
    exact(y c b).1
  ·simp at b
   exact L.extBut _ _ b.1 (hk c o b.1 b.2 p)
  ·exact⟨by show 2<=_;decide,[_,_],.cons ⟨_,rfl⟩ (.cons rx .nil),_,L.extBut _ _ (λp=>r e (by simp) p.symm) hT,rfl,rfl,0,rfl⟩
 done:=by
  rintro X m G z b n i s Z H E I y ⟨⟨d,f⟩,j⟩ N
  subst m G z
  obtain⟨xs,u,B⟩:=N
  obtain⟨g,F,J,_⟩:=I.sq u
  have hl:=F.length
  refine wpAny_pyNext_enum_endD (F5 (A:=X.A.in1) (I.ok.hd b) t it a g.toArray n (by simp;omega)) f ⟨rfl,j,J⟩ λh1 r1=>⟨rfl,I.turnedL (t':=s.toks) (fp:= [e,it]) y λc o b p=> ?_⟩
  simp at b
  exact r1 c o b.2 p
 self:=λ_ _ _ _ _ ⟨⟨d,f⟩,_⟩ h=>wpAny_pyIter_enum f h
section
variable{X:Cx}
def MU(K:PySem.W.Frag)(d:TA):TI:=λb H R=>d b H λe H1=>∃(t:Bool) (a:Addr) (c:List V),e= [.ref a]/\AK K t H1 a c/\R (OP K t a) H1
def IL{d:List Expr}{J:Nat}{v:Pos}{a:Expr}{l:TA}{p pos:Pos}(G:Gl X "enumerate")(C:X.mg "enumerate"=none)(z:PA X [a] l)(y:starEach [a] X.env= [(false,eval a X.env)]:=by rfl):
  PI X (.Tuple d J v) (.Call (.Name "enumerate" p) [a] [] pos) (MU X.K l):=by
 intro b s F H R I h
 refine Call_ (mf I G C (by rfl) (PyProof.Rows.callWith_type1 (dC (z pos b s F H _ I h) λN f ⟨U,H1,g,w,M⟩=> ?_) y rfl))
 obtain⟨t,x,S,e,u,q⟩:=M
 subst e
 cases w with
 | cons r L=>
   cases L
   cases r
   obtain⟨A,P,i,_⟩:=g.sq u
   have n:=Sq.lt i
   refine Zq.Nn i λQ j B k=> ?_
   refine wpAny_pyIter_enum j ⟨_,_,_,_,H1,rfl,g.kept (t':=f.toks) k,EF (e:=f.heap.objs.size+1) (it:=f.heap.objs.size) (Nat.succ_ne_self _) (Qwq (Nat.lt_succ_of_lt n)) (Qwq n),⟨⟨_,j⟩,B⟩,λc m=> ?_,q⟩
   have o:f.heap.objs.size<=c:=by
     simp only[Qsq,QXq,or_false] at m
     rcases m with e|e <;>(rw[e];first|exact Qmq _|exact Nat.le_add_right _ _)
   exact g.fpOk o (g.hok.fresh o)
end
end L2
namespace DL
open PySem PySem.Spec L2
noncomputable def pH(n:Nat):List D->List D
 | []=> []
 |d::ds=>.tup [.int n,d]::pH (n+1) ds
theorem qB:∀{ds:List D} {n i:Nat} {d:D},(pH n ds)[i]?=some d->∃x,ds[i]?=some x/\d=.tup [.int ((n+i:Nat)),x]
 | [],_,_,_,h=>by simp[pH] at h
 | x::ds,n,0,d,h=>by
   simp only[pH,List.getElem?_cons_zero,Option.some.injEq] at h
   exact⟨x,rfl,h.symm⟩
 | x::ds,n,i+1,d,h=>by
   simp only[pH,List.getElem?_cons_succ] at h
   obtain⟨y,a,b⟩:=qB h
   exact⟨y,by simpa using a,by rw[b];congr 3;omega⟩
theorem qx:∀{ds:List D} {n:Nat},(pH n ds).length=ds.length
 | [],_=>rfl
 |_::_,_=>congrArg (·+1) qx
noncomputable def Dh(f:gu):zM:=λb S=>(f b S).bind λ(p,a)=>some ((pH 0 p.1,λS=>p.2.stays S p.1),a)
section
variable{X:Cx}{a:Expr}{pos:Pos}
def KP{c:List Expr}{m:Nat}{y p:Pos}{f:gu}(Y:Gl X "enumerate")(M:X.mg "enumerate"=none)(L:PE X a (tQ (md X) f))(n:starEach [a] X.env= [(false,eval a X.env)]:=by rfl):
  PI X (.Tuple c m y) (.Call (.Name "enumerate" p) [a] [] pos) (tI (md X) (Dh f)):=NL (IL Y M (eG L hJ n) n) λσ H R ⟨U,C,S,ds,W,S',ok,e,q⟩=>by
 obtain⟨⟨⟨g,P⟩,t⟩,Z,e⟩:=aw e
 obtain⟨z,rfl⟩:=da e
 obtain⟨rfl,rfl⟩:=Prod.mk.inj z
 refine⟨U,C,S,g,P,t,ok,Z,λQ N k H1 m l r B=> ?_⟩
 refine⟨_,N,k,rfl,r.sqB,q _ _ _ m l λi a0 S3 H3 J b w=> ?_⟩
 obtain⟨h,j,o⟩:=r.to B J b w
 refine⟨λd A=> ?_,λK=>⟨h,j.sqB,?_⟩⟩
 ·obtain⟨x,I,rfl⟩:=qB A
  obtain⟨u,s,G⟩:=o.get I
  refine⟨⟨h,u,j.sqB,s⟩,λv H4 F=> ?_⟩
  obtain⟨p,rfl,hp,hq⟩:=F
  have:=hq h u j.sqB s
  subst this
  refine⟨cU.laid hp,b.lay hp,.tup cA ((bC.cons ?_ (.cons G .nil)).ext (cU.laid hp))⟩
  rw[Nat.zero_add]
  exact .int _
 ·rw[K,qx,o.length]
  exact Qmq _
end
structure Ek(P:Program)(w:World)(K:PySem.W.Frag)(mg:Str->Option Value)(x:Str)(tbl:List (Str×Str)):Prop where
 at_:∃a,mg x=some (.ref a)/\∀h:Heap,K.In h->∃vs,h.DictOf (cD P w) a vs/\∀k nm,tbl.lookup k=some nm->∃f,valueAt vs (Sum.inr k:Key)=some (.ref f)/\mg nm=some (.ref f)
section
variable{X:Cx}{a b c e:Expr}{pos:Pos}
noncomputable def NB(d:List (Str×Str))(g:bV):bV:=λi S=>(g i S).bind λ(y,f)=>match y with
 |.str x=>(d.lookup x).bind λh=>some (.fn h,f)
 |_=>none
def JW{x:Str}{j:List (Str×Str)}{g:bV}{p:Pos}(M:Ek X.prog X.w X.K X.mg x j)(hg:Gl X x)(hb:PE X b (tD (md X) g))(Z:Ju b)(hd:(x==("__debug__":Str))=false:=by decide):
  PE X (.Subscript (.Name x p) b pos) (tD (md X) (NB j g)):=by
 rintro i s σ H Q I ⟨B,N,S,d,S',ok,e,q⟩
 obtain⟨a,hm,L⟩:=M.at_
 obtain⟨⟨y,t⟩,e1,e⟩:=aw e
 cases y with
 | str z=>
   obtain⟨nm,R,e⟩:=aw e
   obtain⟨rfl,rfl⟩:=da e
   refine DP PySem.F.slot_dict_getitem.lookup Z (zc I hg hm ?_ hd)
   refine dC (hb i s σ H (λv l=>∃h,cU B H h l/\g9 (md X) h t l/\Rel (md X) h l (.str z) v) I ⟨B,N,S,_,t,ok,e1,λh v l x U r=>⟨h,x,U,r⟩⟩) λiv J G=> ?_
   obtain⟨v,H2,A,W,h,x2,n,r2⟩:=G
   obtain⟨vs,u,P⟩:=L _ A.kIn
   obtain⟨f,hf,m⟩:=P z nm R
   cases r2
   have C:J.TypeIs (.ref a) "dict":=by
     obtain⟨o,es,ep,h1,Y,h3,_⟩:=u
     exact⟨o,h1,Y.1⟩
   refine⟨C,wpAny_getItem_of (Aq (k:=Sum.inr z) W) u.mapOf hf ?_⟩
   exact⟨.ref f,H2,A.tok _,rfl,q _ _ _ x2 n (.fn m)⟩
 |_=>cases e
def uK(i:Nat)(T:List (Str×dP))(g:iH):bV:=λd S=>match d[i]? with
 |some (some (.fn x))=>(T.lookup x).bind λF=>aB F g d S
 |_=>none
def IV{i k:Nat}{y:Str}{ps:List Str}{T:List (Str×dP)}{j:List Expr}{g:iH}{p:Pos}(U:∀x F,T.lookup x=some F->fL X.prog X.w X.K X.mg X.base k x ps F)(hr:gN k X.A)(hN:X.N[i]?=some y)(Y:Kg X.env.scope y)
  (ha:PA X (e::j) (Bn (md X) g)) (Z:nA ps.length g) (o:(y==("__debug__":Str))=false:=by decide) (n:(y==("__classdict__":Str))=false:=by decide) (he:starEach (e::j) X.env=(false,eval e X.env)::starEach j X.env:=by rfl) (hpl:(backTo pos (starEach j X.env)).any (·.1)=false:=by rfl):
  PE X (.Call (.Name y p) (e::j) [] pos) (tD (md X) (uK i T g)):=by
 rintro h s z H Q I ⟨ρ,R,S,d,S',ok,e,q⟩
 unfold uK at e
 split at e
 ·rename_i x hx
  obtain⟨F,B,e⟩:=aw e
  obtain⟨f,fd,G,bb,kp,m⟩:=(U x F B).ex
  obtain⟨v,t,rv⟩:=ok.en.get i _ hx
  cases rv with
  | fn hm=>
    have C:(md X).mg x=some (.ref f):=m
    rw[hm] at C
    cases C
    refine wpAny_Call_Name_kw (dC (GP hN Y o n h s z H (λJ l=>J=.ref f/\l=H) I ⟨_,t,rfl,rfl⟩) λu s1 M=> ?_)
    obtain⟨J,l,I1,P,B,e2⟩:=M
    subst B e2
    cases (show u=Value.ref f from P)
    refine PySem.W.callWith_K (h₀:=X.base) I.ok.mod.kin kp (dC (ha pos h s1 z l _ I1 (Ee Z z l Q ⟨ρ,R,S,d,S',ok,e,q⟩)) λus s2 ⟨vs,H1,L,r,q2⟩=>⟨L.kIn,?_⟩) he hpl
    exact Ga G hr bb .nil Gj L r q2
 ·cases e
end
def Cq(w:World)(x:Str):PyData.keyHash w.params x=hashStr w x:=by
 unfold PyData.keyHash hashStr
 first|rfl|simp
inductive Al(w:World)(mg:Str->Option Value):List DictEntry->List (Str×Str)->Prop
 |nil:Al w mg [] []
 |cons {x nm:Str} {t:Tok} {f:Addr} {es:List DictEntry} {tbl:List (Str×Str)}:mg nm=some (.ref f)->Al w mg es tbl->Al w mg (⟨PyData.keyHash w.params x,.str x t,.ref f⟩::es) ((x,nm)::tbl)
def Al.keys{P:Program}{w:World}{mg:Str->Option Value}{b:List DictEntry}{a:List (Str×Str)}(c:Al w mg b a):∀e∈b,∃k,(cD P w).is k e.key=true/\e.hash=(cD P w).hash k:=by
 induction c with
 |nil=>intro e h;cases h
 | @cons x nm t f b a hm c ih=>
   intro e h
   rcases Qsq.mp h with rfl|h
   · exact⟨Sum.inr x,qt x t,Cq w x⟩
   · exact ih e h
def Al.pairs{P:Program}{w:World}{mg:Str->Option Value}{b:List DictEntry}{a:List (Str×Str)}(e:Al w mg b a):∃vs:List (Key×Value),Pairs (cD P w) b vs/\vs.map (·.1)=a.map (λp=>Sum.inr p.1)∧
  ∀k nm,a.lookup k=some nm->∃f,valueAt vs (Sum.inr k:Key)=some (.ref f)/\mg nm=some (.ref f):=by
 induction e with
 |nil=>exact⟨[],.nil,rfl,λk nm h=>by cases h⟩
 | @cons x nm t f b a hm e ih=>
   obtain⟨vs,m,j,i⟩:=ih
   refine⟨(Sum.inr x,.ref f)::vs,.cons (qt x t) rfl m,by simp[j],λk n h=> ?_⟩
   by_cases c:k=x
   · subst c
     rw[List.lookup_cons_self] at h
     cases h
     refine⟨f,?_,hm⟩
     unfold valueAt
     rw[List.find?_cons_of_pos (by simp)]
     rfl
   · have o:(k==x)=false:=by simpa using c
     rw[List.lookup_cons,o] at h
     obtain⟨g,d,l⟩:=i k n h
     refine⟨g,?_,l⟩
     unfold valueAt at d⊢
     rw[List.find?_cons_of_neg]
     · exact d
     · intro z
       have:(Sum.inr x:Key)=Sum.inr k:=by simpa using z
       exact c (Sum.inr.inj this).symm
def GZ{P:Program}{w:World}{K:PySem.W.Frag}{mg:Str->Option Value}{x:Str}{c:List (Str×Str)}{a:Addr}{d:List DictEntry}{k:Nat}(q:mg x=some (.ref a))(l:K.lookup a=some ⟨.type "dict",none,.dict d.toArray k,#[]⟩)(f:Al w mg d c)(nd:(c.map (·.1)).Nodup):Ek P w K mg x c:=by
 obtain⟨r,o,m,i⟩:=f.pairs (P:=P)
 refine⟨a,q,λh j=>⟨r,⟨_,_,_,j _ _ l,⟨rfl,rfl,rfl⟩,rfl,λe g=>f.keys e (by simpa using g),by simpa using o,?_⟩,i⟩⟩
 rw[m]
 have:c.map (λp=>(Sum.inr p.1:Key))=(c.map (·.1)).map Sum.inr:=by rw[QPq];rfl
 rw[this]
 exact List.Pairwise.map _ (λa b n e=>n (Sum.inr.inj e)) nd
theorem HK{P:Program}{w:World}{K:PySem.W.Frag}{mg:Str->Option Value}{base:Heap}{k:Nat}{ps:List Str}:∀{T:List (Str×dP)},(∀p∈T,fL P w K mg base k p.1 ps p.2)->∀x F,T.lookup x=some F->fL P w K mg base k x ps F
 | [],_,x,F,h=>by cases h
 | p::T,g,x,F,h=>by
   by_cases c:x=p.1
   · subst c
     rw[List.lookup_cons_self] at h
     cases h
     exact g p (QBq ..)
   · have a:(x==p.1)=false:=by simpa using c
     rw[List.lookup_cons,a] at h
     exact HK (λq b=>g q (Qpq _ b)) x F h
def BE:Sp:=λd H Q _=>∃(a:Addr) (b:List Int) (o:Obj),d= [.ref a]/\H a=some (.frz o (.lst (b.map V.int)))/\b.length<=63/\∀c,Q (.bl true) c
theorem xf{M:Md}{ρ:List Addr}{H:Hp}:∀ns:List Int,bC M ρ H (ns.map D.int) (ns.map V.int)
 | []=>.nil
 |s::ss=>.cons (.int s) (xf ss)
def JA{P:Program}{w:World}{K:PySem.W.Frag}{mg:Str->Option Value}{base:Heap}{k:Nat}{f:Addr}{i:FuncData}{ps:List Str}{F:dP}(G:bO P w K mg base eN k f i ps (fm ⟨K,mg⟩ 1 F))
  (h:∀ns:List Int,ns.length<=63->∃c,F [.ref 0] [.frz (ns.map D.int)]=some (.d (.bl true),c)):bO P w K mg base eN k f i ps BE:=
 G.imp λy H Q E n=>by
  obtain⟨a,ns,o,e,m,j,q⟩:=n
  subst e
  obtain⟨c,e⟩:=h ns j
  refine⟨[a],[.frz (ns.map D.int)],[.ref 0],_,c,rfl,.cons (.ref rfl) .nil,⟨rfl,by simp,λk b t g l=> ?_⟩,e,λp v s x u r=> ?_⟩
  ·cases k with
   |zero=>cases g;cases l;exact⟨_,o,m,xf ns⟩
   |succ k=>simp at g
  ·cases r
   exact q s
noncomputable def Cs(K:PySem.W.Frag):Bool:=K.all λp=>match p.2.data with|.seq _ _=>(match p.2.cls with|.type s=>s !="list" |_=>true)|_=>true
def FE{K:PySem.W.Frag}(h:Cs K=true){a:Addr}{o:Obj}(e:K.lookup a=some o){f:Array Value}{n:Nat}(hd:o.data=.seq f n):o.cls≠.type "list":=by
 intro i
 have d:∀(K:List (Addr×Obj)),K.all (λp=>match p.2.data with|.seq _ _=>(match p.2.cls with|.type s=>s !="list" |_=>true)|_=>true)=true->K.lookup a=some o->False:=by
  intro K
  induction K with
  |nil=>intro _ e;cases e
  | cons p K k=>
    intro h e
    rw[List.all_cons,QCq] at h
    obtain⟨b,q⟩:=p
    rw[List.lookup_cons] at e
    by_cases c:a=b
    · subst c
      simp only[BEq.rfl] at e
      cases e
      have g:=h.1
      simp only[hd,i] at g
      simp at g
    · have j:(a==b)=false:=by simpa using c
      rw[j] at e
      exact k h.2 e
 exact d K h e
def M4{K:PySem.W.Frag}{H:Hp}{a:Addr}{ns:List Int}(d:Cs K=true)(c:ns.length<=63)(b:IU H)(e:jN K H a (ns.map V.int)):BE [.ref a] H (λv _=>v=.bl true) λ_ _ _=>False:=by
 rcases e with(h|⟨o,h⟩)|⟨o,its,n,h,hc,_,hd,_⟩
 ·rcases b a with z|⟨o,f,z⟩
  ·rw[h] at z;cases z
  ·rw[h] at z;cases z
 ·exact⟨a,ns,o,rfl,h,c,λ_=>rfl⟩
 ·exact absurd hc (FE d h hd)
def nP{l:PySem.W.OpenLaw}{q:Program}{b:List Str}{p:(Str->Option Value)->Heap->Prop}{e:World->Heap->Prop}{d:DefRec}{K:Params->PySem.W.Frag}{k:Nat}(t:l.most=some 63)(c:d.params.defaults= [])(y:gN k PySem.callerA)
  (m:∀(w:World) (h:Heap),e w h->(K w.params).In h) (r:∀w:World,Cs (K w.params)=true)
  (F:∀(w:World) (mg:Str->Option Value) (g:Addr) (h:Heap),(K w.params).In h->h.Ns mainGlobals mg->mg d.name=some (.ref g)→
   ∃i:FuncData,(∀(s:Shared) (u:Value),BindsTo s i ⟨[u],[]⟩ [("_law_script",u)])/\∀base:Heap,(K w.params).In base->base.Ns mainGlobals mg->bO l.prog w (K w.params) mg base eN k g i ["_law_script"] BE):
  PySem.W.WalkO q b p e l.row.toRowW d [] (λf vs=>PySem.call f vs):=
 L2.Jx (n:=63) (k:=k) (x:="_law_script") (CX:=λ_=>eN) (sp:=λ_=>BE) t (by decide) c y m F (λw H a A o j v=>M4 (r w) o j v) λ_ _ _ _ _ z=>z
end DL
namespace DL
open PySem PySem.Spec L2 PyProof.Rows
section
variable{X:Cx}{x:Str}{e:Expr}{f:bV}{pos pos':Pos}
def bI(i:Nat)(b:X.N.Nodup)(he:PE X e (tD (md X) f))(hi:X.N[i]?=some x:=by rfl)(d:Loc X.env.scope x:=by first|exact Or.inl rfl|exact Or.inr rfl)(a:swapsWith e (some (.Name x pos')) pos.line X.env=pure false:=by rfl)
  (c:X.fn x=true\/X.env.scope.names.lookup x=some .local:=by first|exact .inl rfl|exact .inr rfl|assumption):PS X (.Assign [.Name x pos'] e pos) (tS (md X) (bt i f)):=L6 (Lo b hi d he a c)
def Ma(i:Nat)(a:X.N.Nodup)(hi:X.N[i]?=some x:=by rfl)(c:Loc X.env.scope x:=by first|exact Or.inl rfl|exact Or.inr rfl)(b:X.fn x=true\/X.env.scope.names.lookup x=some .local:=by first|exact .inl rfl|exact .inr rfl|assumption):PG X (.Name x pos) (ve i):=yd a hi c b
def bK(i:Nat)(a:X.N.Nodup)(hi:X.N[i]?=some x:=by rfl)(c:Loc X.env.scope x:=by first|exact Or.inl rfl|exact Or.inr rfl)(b:X.fn x=true\/X.env.scope.names.lookup x=some .local:=by first|exact .inl rfl|exact .inr rfl|assumption):PG X (.Name x pos) (tG (md X) (cu i)):=GO (yd a hi c b)
def e_{N:List Str}{a:Scope}{b:List (Str×Addr)}{C:Addr}{s:Shared}{H:Hp}{fp:List Addr}(i:Nat)(c:N.Nodup:=by decide +kernel)(hi:(bB X N a b C s H fp).N[i]?=some x:=by rfl)(g:Loc (bB X N a b C s H fp).env.scope x:=by first|exact Or.inl rfl|exact Or.inr rfl)
  (d:(bB X N a b C s H fp).fn x=true\/(bB X N a b C s H fp).env.scope.names.lookup x=some .local:=by first|exact .inl rfl|exact .inr rfl|assumption):PG (bB X N a b C s H fp) (.Name x pos) (tG (md (bB X N a b C s H fp)) (cu i)):=GO (yd c hi g d)
def v_(i:Nat)(b:X.N[i]?=some x:=by rfl)(c:Kg X.env.scope x:=by first|exact Or.inl rfl|exact Or.inr (Or.inl rfl)|exact Or.inr (Or.inr rfl))(hd:(x==("__debug__":Str))=false:=by decide)(a:(x==("__classdict__":Str))=false:=by decide):PE X (.Name x pos) (tD (md X) (au i)):=Mx (pv i b c hd a)
end
section
variable{X:Cx}{x:Str}{k k':Nat}{ps:List Str}{F:dP}{e:Expr}{es:List Expr}{g:iH}{p pos:Pos}
def aO(C:fL X.prog X.w X.K X.mg X.base k x ps F)(c:gN k' X.A)(b:PA X (e::es) (Bn (md X) g))(d:k<=k':=by first|decide|omega)(f:Gl X x:=by rfl)
  (h:nA ps.length g:=by repeat (first|exact CY|refine mW ?_))
  (a:(x==("__debug__":Str))=false:=by decide) (he:starEach (e::es) X.env=(false,eval e X.env)::starEach es X.env:=by rfl) (hpl:(backTo pos (starEach es X.env)).any (·.1)=false:=by rfl):
  PE X (.Call (.Name x p) (e::es) [] pos) (tD (md X) (aB F g)):=M1 C (c.mono d) f b h a he hpl
def jS(C:fL X.prog X.w X.K X.mg X.base k x ps F)(c:gN k' X.A)(b:PA X (e::es) (Bn (md X) g))(d:k<=k':=by first|decide|omega)(f:Gl X x:=by rfl)
  (h:nA ps.length g:=by repeat (first|exact CY|refine mW ?_))
  (a:(x==("__debug__":Str))=false:=by decide) (he:starEach (e::es) X.env=(false,eval e X.env)::starEach es X.env:=by rfl) (hpl:(backTo pos (starEach es X.env)).any (·.1)=false:=by rfl):
  PE X (.Call (.Name x p) (e::es) [] pos) (tL (md X) (eF F g)):=MA C (c.mono d) f b h a he hpl
end
def fZ{N P:List Str}{sc:Scope}(a:sc.kind=.function:=by rfl)(b:sc.isCoroutine=false:=by rfl)(c:sc.isGenerator=false:=by rfl)(d:N.Nodup:=by decide +kernel)(e:N.take P.length=P:=by rfl)
  (f:∀x∈P,sc.names.lookup x=some .local\/sc.names.lookup x=some .cell:=by decide +kernel) (g:∀y∈sc.names,y.2≠.free:=by decide +kernel):aN N P sc:=⟨a,b,c,d,e,f,g⟩
structure bA(K:PySem.W.Frag)(x:Str)(st:Stmt)(f:Addr):Prop where
 ex:∃(oc:Value) (od:Option Addr) (kV dc pm:Value) (an:Option Addr) (cd ct:Value) (sl:Array (Option Value)),PySem.W.nsIn K mainGlobals x=some (some (.ref f))∧
  K.lookup f=some ⟨oc,od,.func (PySem.W.fnOf x x (iZ st) (gV st) (aF st) .none kV dc pm an cd ct),sl⟩/\PySem.W.codeIn K cd x=true/\PySem.W.keepIn K (.ref f)=true
def bA.of{K:PySem.W.Frag}{x:Str}{st:Stmt}{f:Addr}{h:Value}{d:Option Addr}{kV e g:Value}{i:Option Addr}{b ct:Value}{j:Array (Option Value)}(a:PySem.W.nsIn K mainGlobals x=some (some (.ref f)))
  (l:K.lookup f=some ⟨h,d,.func (PySem.W.fnOf x x (iZ st) (gV st) (aF st) .none kV e g i b ct),j⟩) (c:PySem.W.codeIn K b x=true) (k:PySem.W.keepIn K (.ref f)=true):bA K x st f:=⟨h,d,kV,e,g,i,b,ct,j,a,l,c,k⟩
structure Ou(K:PySem.W.Frag)(mg:Str->Option Value)(x:Str)(st:Stmt)(ps:List Str)(f:Addr):Prop where
 ex:∃fd,fq K x x st f fd/\Binds K fd ps []/\PySem.W.keepIn K (.ref f)=true
 m:mg x=some (.ref f)
def bA.ok1{K:PySem.W.Frag}{mg:Str->Option Value}{x:Str}{st:Stmt}{ps:List Str}{f:Addr}{h:Heap}(D:bA K x st f)(X:K.In h)(G:h.Ns mainGlobals mg)
  (m:∀(kV d j:Value) (g:Option Addr) (c ct:Value) (a:List Value),a.length=ps.length->bindArgs (PySem.W.fnOf x x (iZ st) (gV st) (aF st) .none kV d j g c ct) ⟨a,[]⟩=pure (ps.zip a):=by intro _ _ _ _ _ _ a k;rcases a with _|⟨_,_|⟨_,_|⟨_,_|⟨_,_|⟨_,_|⟨_,_⟩⟩⟩⟩⟩⟩ <;>first|rfl|cases k):Ou K mg x st ps f:=by
 obtain⟨r,n,kV,o,j,g,q,ct,p,l,i,e,b⟩:=D.ex
 exact⟨⟨_,B6 i e b,(B6 i e b).binds m,b⟩,PySem.W.mg_of X G l⟩
structure Pk(P:Program)(w:World)(base:Heap):Prop where
def Ou.cal{P:Program}{w:World}{base:Heap}{K:PySem.W.Frag}{mg:Str->Option Value}{x:Str}{st:Stmt}{ps:List Str}{f:Addr}{k:Nat}{F:dP}(O:Ou K mg x st ps f)(Z:Pk P w base)
  (h:∀a,fq K x x st f a->Binds K a ps []->PySem.W.keepIn K (.ref f)=true->mg x=some (.ref f)->bO P w K mg base eN k f a ps (fm ⟨K,mg⟩ ps.length F)):fL P w K mg base k x ps F:=by
 obtain⟨a,d,b,c⟩:=O.ex
 exact⟨f,a,h a d b c O.m,b,c,O.m⟩
end DL
namespace DL
open PySem PySem.Spec L2
def E{α:Type}(f:dw->aL->Option (α×aL))(c:dw)(S:aL)(Q:α->aL->Prop):Prop:=∃a b,f c S=some (a,b)/\Q a b
def T(f:dm)(a:dw)(S:aL)(Q:Out->Prop):Prop:=∃o,f a S=some o/\Q o
def Fn(F:dP)(ds:List D)(S:aL)(Q:Res->aL->Prop):Prop:=∃r a,F ds S=some (r,a)/\Q r a
def Tg(g:o_)(d:D)(c:dw)(S:aL)(Q:dw->aL->Prop):Prop:=∃a b,g d c S=some (a,b)/\Q a b
def NA(g:tw)(d:List D)(c:dw)(S:aL)(Q:dw->aL->Prop):Prop:=∃a b,g d c S=some (a,b)/\Q a b
def Op{α:Type}(o:Option α)(Q:α->Prop):Prop:=∃d,o=some d/\Q d
section
variable{Γ:dw}{S:aL}
def E.mono{α:Type}{f:dw->aL->Option (α×aL)}{Q R:α->aL->Prop}(h:E f Γ S Q)(i:∀a S,Q a S->R a S):E f Γ S R:=by
 obtain⟨a,b,e,q⟩:=h
 exact⟨a,b,e,i _ _ q⟩
def T.mono{f:dm}{Q R:Out->Prop}(h:T f Γ S Q)(i:∀o,Q o->R o):T f Γ S R:=by
 obtain⟨a,e,q⟩:=h
 exact⟨a,e,i _ q⟩
def bj{i:Nat}{d:D}{Q:D->aL->Prop}(h:Γ[i]?=some (some d))(q:Q d S):E (au i) Γ S Q:=⟨d,S,by unfold au;rw[h],q⟩
def qp{d:D}{Q:D->aL->Prop}(q:Q d S):E (cF d) Γ S Q:=⟨d,S,rfl,q⟩
def nO{Q:List D->aL->Prop}(q:Q [] S):E ay Γ S Q:=⟨[],S,rfl,q⟩
def fI{f:bV}{g:iH}{Q:List D->aL->Prop}(h:E f Γ S λd a=>E g Γ a λds S2=>Q (d::ds) S2):E (ar f g) Γ S Q:=by
 obtain⟨d,a,b,ds,S2,c,q⟩:=h
 exact⟨_,_,by unfold ar;rw[b];simp only[Qbq];rw[c];rfl,q⟩
def g_{o:v9}{f g:bV}{Q:D->aL->Prop}(h:E f Γ S λx a=>E g Γ a λy S2=>Op (o S2 x y) λd=>Q d S2):E (aI o f g) Γ S Q:=by
 obtain⟨x,a,c,y,S2,e,d,b,q⟩:=h
 exact⟨d,S2,by unfold aI;rw[c];simp only[Qbq];rw[e];simp only[Qbq];rw[b];rfl,q⟩
def DX{f:iH}{Q:D->aL->Prop}(h:E f Γ S λds a=>ds.length<=sizeLine/\Q (.tup ds) a):E (bc f) Γ S Q:=by
 obtain⟨ds,a,b,l,q⟩:=h
 exact⟨_,_,by unfold bc;rw[b];simp only[Qbq];rw[Qhq l],q⟩
def IC{f:iH}{Q:List D->aL->Prop}(h:E f Γ S λds a=>ds.length<=sizeLine/\Q ds a):E (cp f) Γ S Q:=by
 obtain⟨ds,a,b,l,q⟩:=h
 exact⟨_,_,by unfold cp;rw[b];simp only[Qbq];rw[Qhq l],q⟩
def OF{f:iH}{Q:D->aL->Prop}(h:E f Γ S λds a=>Q (.ref a.length) (a++ [.lst ds])):E (c8 f) Γ S Q:=by
 obtain⟨ds,a,b,q⟩:=h
 exact⟨_,_,by unfold c8;rw[b];rfl,q⟩
def N9{o:Kf}{f:iH}{Q:D->aL->Prop}(h:E f Γ S λds a=>Op (o ds) λd=>Q d a):E (Bw o f) Γ S Q:=by
 obtain⟨ds,a,b,d,c,q⟩:=h
 exact⟨d,a,by unfold Bw;rw[b];simp only[Qbq];rw[c];rfl,q⟩
def iq{f:bV}{Q:(List D×Tag)->aL->Prop}(h:E f Γ S λd a=>Op (pz a d) λp=>Q p a):E (bx f) Γ S Q:=by
 obtain⟨e,a,b,d,c,q⟩:=h
 exact⟨d,a,by unfold bx;rw[b];simp only[Qbq];rw[c];rfl,q⟩
def uS{f:iH}{Q:(List D×Tag)->aL->Prop}(h:E f Γ S λds a=>Q (ds,.fr) a):E (iV f) Γ S Q:=by
 obtain⟨ds,a,b,q⟩:=h
 exact⟨_,a,by unfold iV;rw[b];rfl,q⟩
def Ox{f:gu}{Q:D->aL->Prop}(h:E f Γ S λp a=>Q (.int p.1.length) a):E (kh f) Γ S Q:=by
 obtain⟨p,a,b,q⟩:=h
 exact⟨_,a,by unfold kh;rw[b];rfl,q⟩
def my{f:gu}{Q:D->aL->Prop}(h:E f Γ S λp a=>Q (.tup p.1) a):E (tupQ f) Γ S Q:=by
 obtain⟨p,a,b,q⟩:=h
 exact⟨_,a,by unfold tupQ;rw[b];rfl,q⟩
def LZ{f:gu}{Q:(List D×Tag)->aL->Prop}(h:E f Γ S λp a=>p.2.isL=true/\Q p a):E (gk f) Γ S Q:=by
 obtain⟨p,a,b,l,q⟩:=h
 exact⟨_,a,by unfold gk;rw[b];simp only[Qbq];rw[Qhq l],q⟩
def Dy{f:gu}{Q:D->aL->Prop}(h:E f Γ S λp a=>(p.2.isL=true/\p.2.stays a p.1)/\Q (.bl (!p.1.isEmpty)) a):E (eK f) Γ S Q:=by
 obtain⟨p,a,b,l,q⟩:=h
 exact⟨_,a,by unfold eK;rw[b];simp only[Qbq];rw[Qhq l],q⟩
def BL{F:dP}{g:iH}{Q:D->aL->Prop}(h:E g Γ S λds a=>Fn F ds a λr S2=>match r with|.d x=>Q x S2|.l _=>False):E (aB F g) Γ S Q:=by
 obtain⟨ds,a,c,r,S2,b,q⟩:=h
 cases r with
 |d x=>exact⟨x,S2,by unfold aB;rw[c];simp only[Qbq];rw[b];rfl,q⟩
 |l x=>exact q.elim
def Nw{F:dP}{g:iH}{Q:List D->aL->Prop}(h:E g Γ S λds a=>Fn F ds a λr S2=>match r with|.d _=>False|.l x=>Q x S2):E (eF F g) Γ S Q:=by
 obtain⟨ds,a,c,r,S2,b,q⟩:=h
 cases r with
 |d x=>exact q.elim
 |l x=>exact⟨x,S2,by unfold eF;rw[c];simp only[Qbq];rw[b];rfl,q⟩
def dI{f:bV}{Q:Bool->aL->Prop}(h:E f Γ S λd a=>match d with|.bl k=>Q k a|_=>False):E (aP f) Γ S Q:=by
 obtain⟨d,a,b,q⟩:=h
 cases d with
 |bl k=>exact⟨k,a,by unfold aP;rw[b];rfl,q⟩
 |_=>exact q.elim
def Mt{f:bV}{Q:Bool->aL->Prop}(h:E f Γ S λd a=>Op (BV a d) λk=>Q k a):E (lM f) Γ S Q:=by
 obtain⟨d,a,b,k,c,q⟩:=h
 exact⟨k,a,by unfold lM;rw[b];simp only[Qbq];rw[c];rfl,q⟩
def K8{f:kR}{Q:Bool->aL->Prop}(h:E f Γ S λk a=>Q (!k) a):E (AU f) Γ S Q:=by
 obtain⟨k,a,b,q⟩:=h
 exact⟨_,a,by unfold AU;rw[b];rfl,q⟩
def yo{f g:kR}{Q:Bool->aL->Prop}(h:E f Γ S λk a=>if k=true then E g Γ a Q else Q false a):E (jo f g) Γ S Q:=by
 obtain⟨k,a,b,q⟩:=h
 cases k with
 |true=>obtain⟨j,c,d,q⟩:=(q:E g Γ a Q);exact⟨j,c,by unfold jo;rw[b];exact d,q⟩
 |false=>exact⟨false,a,by unfold jo;rw[b];rfl,q⟩
def rT{f g:kR}{Q:Bool->aL->Prop}(h:E f Γ S λk a=>if k=true then Q true a else E g Γ a Q):E (Ke f g) Γ S Q:=by
 obtain⟨k,a,b,q⟩:=h
 cases k with
 |true=>exact⟨true,a,by unfold Ke;rw[b];rfl,q⟩
 |false=>obtain⟨j,c,d,q⟩:=(q:E g Γ a Q);exact⟨j,c,by unfold Ke;rw[b];exact d,q⟩
def OG{c:kR}{f g:bV}{Q:D->aL->Prop}(h:E c Γ S λk a=>if k=true then E f Γ a Q else E g Γ a Q):E (vA c f g) Γ S Q:=by
 obtain⟨k,a,e,q⟩:=h
 cases k with
 |true=>obtain⟨j,b,d,q⟩:=(q:E f Γ a Q);exact⟨j,b,by unfold vA;rw[e];exact d,q⟩
 |false=>obtain⟨j,b,d,q⟩:=(q:E g Γ a Q);exact⟨j,b,by unfold vA;rw[e];exact d,q⟩
def Gi{i:Nat}{f:bV}{Q:Out->Prop}(h:E f Γ S λd a=>Q (.nx (Γ.set i (some d)) a)):T (bt i f) Γ S Q:=by
 obtain⟨d,a,b,q⟩:=h
 exact⟨_,by unfold bt;rw[b];rfl,q⟩
def j3{f:bV}{Q:Out->Prop}(h:E f Γ S λd a=>Q (.rt d a)):T (cQ f) Γ S Q:=by
 obtain⟨d,a,b,q⟩:=h
 exact⟨_,by unfold cQ;rw[b];rfl,q⟩
def Og{f:iH}{Q:Out->Prop}(h:E f Γ S λd a=>Q (.rl d a)):T (GW f) Γ S Q:=by
 obtain⟨d,a,b,q⟩:=h
 exact⟨_,by unfold GW;rw[b];rfl,q⟩
def jq{f:bV}{Q:Out->Prop}(h:E f Γ S λd a=>Q (.nx Γ a)):T (nE f) Γ S Q:=by
 obtain⟨d,a,b,q⟩:=h
 exact⟨_,by unfold nE;rw[b];rfl,q⟩
def cz{Q:Out->Prop}(q:Q (.nx Γ S)):T fX Γ S Q:=⟨_,rfl,q⟩
def OW{f:bV}{g:o_}{Q:Out->Prop}(h:E f Γ S λd b=>Tg g d Γ b λa S2=>Q (.nx a S2)):T (sx f g) Γ S Q:=by
 obtain⟨d,b,c,a,S2,e,q⟩:=h
 exact⟨_,by unfold sx;rw[c];simp only[Qbq];rw[e];rfl,q⟩
def bH{f g:dm}{Q:Out->Prop}(h:T f Γ S λo=>match o with|.nx a b=>T g a b Q|o=>Q o):T (aK f g) Γ S Q:=by
 obtain⟨o,c,q⟩:=h
 cases o with
 |nx a b=>obtain⟨o,d,q⟩:=(q:T g a b Q);exact⟨o,by unfold aK;rw[c];exact d,q⟩
 |_=>exact⟨_,by unfold aK;rw[c];rfl,q⟩
def dk{c:kR}{f g:dm}{Q:Out->Prop}(h:E c Γ S λk a=>if k=true then T f Γ a Q else T g Γ a Q):T (eU c f g) Γ S Q:=by
 obtain⟨k,a,d,q⟩:=h
 cases k with
 |true=>obtain⟨j,b,q⟩:=(q:T f Γ a Q);exact⟨j,by unfold eU;rw[d];exact b,q⟩
 |false=>obtain⟨j,b,q⟩:=(q:T g Γ a Q);exact⟨j,by unfold eU;rw[d];exact b,q⟩
def bh{i:Nat}{d:D}{Q:dw->aL->Prop}(q:Q (Γ.set i (some d)) S):Tg (cu i) d Γ S Q:=⟨_,_,rfl,q⟩
def OT{f g:bV}{d:D}{Q:dw->aL->Prop}(h:E f Γ S λx a=>E g Γ a λy S2=>∃k i ds j,x=.ref k/\y=.int i/\S2[k]?=some (.lst ds)/\FJ ds.length i=some j/\Q Γ (S2.set k (.lst (ds.set j d)))):Tg (L1 f g) d Γ S Q:=by
 obtain⟨x,a,b,y,S2,c,k,i,ds,j,rfl,rfl,h1,h2,q⟩:=h
 exact⟨_,_,by unfold L1;rw[b];simp only[Qbq];rw[c];simp only[Qbq,h1,h2],q⟩
def ON{f g h:bV}{Q:Out->Prop}(w:E f Γ S λx c=>E g Γ c λy S2=>∃k i ds m,x=.ref k/\y=.int i/\S2[k]?=some (.lst ds)/\0<=i/\ds[i.toNat]?=some (.int m)/\E h Γ S2 λz b=>∃n a j,z=.int n/\b[k]?=some (.lst a)/\FJ a.length i=some j/\Q (.nx Γ (b.set k (.lst (a.set j (.int (m+n))))))):T (NH f g h) Γ S Q:=by
 obtain⟨x,c,e,y,S2,d,k,i,ds,m,rfl,rfl,h1,h2,h3,z,b,e3,n,a,j,rfl,h4,h5,q⟩:=w
 exact⟨_,by unfold NH;rw[e];simp only[Qbq];rw[d];simp only[Qbq,h1,Qhq h2,h3,e3,h4,h5],q⟩
def ik{i:zM}{g:o_}{b:dm}{Q:Out->Prop} (h:E i Γ S λp u=>∃I:Nat->dw->aL->Prop,I 0 Γ u/\(∀n a e,I n a e->p.2 e)∧
   (∀(n:Nat) (d:D) (a:dw) (e:aL),p.1[n]?=some d->I n a e->Tg g d a e λt S2=>T b t S2 λo=>match o with|.nx c f=>I (n+1) c f|.ct c f=>I (n+1) c f|.bk c f=>Q (.nx c f)|o=>Q o)∧
   ∀a e,I p.1.length a e->Q (.nx a e)):T (jz i g b) Γ S Q:=by
 obtain⟨⟨l,W⟩,u,C,I,B,x,j,s⟩:=h
 have A:∀(k n:Nat) (a:dw) (e:aL),n+k=l.length->I n a e->∃o,forL g b W (l.drop n) a e=some o/\Q o:=by
  intro k
  induction k with
  | zero=>
    intro n a e w r
    rw[List.drop_of_length_le (by omega)]
    refine⟨.nx a e,by simp only[forL];rw[Qhq (x _ _ _ r)],s _ _ (by rw[←w];exact r)⟩
  | succ k y=>
    intro n a e w r
    have m:n<l.length:=by omega
    rw[QWq m]
    obtain⟨t,S2,v,o,z,q⟩:=j n l[n] a e (gQe m) r
    simp only[forL]
    rw[Qhq (x _ _ _ r),v]
    simp only[Qbq]
    rw[z]
    simp only[Qbq]
    cases o with
    |nx c f=>exact y (n+1) c f (by omega) q
    |ct c f=>exact y (n+1) c f (by omega) q
    |bk c f=>exact⟨_,rfl,q⟩
    |rt d f=>exact⟨_,rfl,q⟩
    |rl d f=>exact⟨_,rfl,q⟩
 obtain⟨o,v,q⟩:=A l.length 0 Γ u (by omega) B
 exact⟨o,by unfold jz;rw[C];exact v,q⟩
def l_{js:List (Option Nat)}{i:zM}{g:o_}{t:kR}{f:bV}{Q:List D->aL->Prop} (h:E i Γ S λp x=>∃I:Nat->dw->aL->List D->Prop,I 0 (oY js Γ) x []/\(∀n b e a,I n b e a->p.2 e)∧
   (∀(n:Nat) (d:D) (b:dw) (e:aL) (a:List D),p.1[n]?=some d->I n b e a->Tg g d b e λj S2=>E t j S2 λk w=>if k=true then E f j w λy A=>a.length<sizeLine/\I (n+1) j A (a++ [y]) else I (n+1) j w a)∧
   ∀b e a,I p.1.length b e a->Q a e):E (cG js i g t f) Γ S Q:=by
 obtain⟨⟨o,W⟩,x,M,I,L,C,m,v⟩:=h
 have J:∀(k n:Nat) (b:dw) (e:aL) (a:List D),n+k=o.length->I n b e a->∃r l,nu g t f W (o.drop n) b e a=some (r,l)/\Q r l:=by
  intro k
  induction k with
  | zero=>
    intro n b e a B u
    rw[List.drop_of_length_le (by omega)]
    refine⟨a,e,by simp only[nu];rw[Qhq (C _ _ _ _ u)],v _ _ _ (by rw[←B];exact u)⟩
  | succ k F=>
    intro n b e a B u
    have s:n<o.length:=by omega
    rw[QWq s]
    obtain⟨j,S2,z,c,w,G,q⟩:=m n o[n] b e a (gQe s) u
    simp only[nu]
    rw[Qhq (C _ _ _ _ u),z]
    simp only[Qbq]
    rw[G]
    simp only[Qbq]
    cases c with
    | true=>
      rw[Qhq rfl] at q⊢
      obtain⟨y,A,K,H,q⟩:=q
      rw[K]
      simp only[Qbq]
      rw[Qhq H]
      exact F (n+1) j A _ (by omega) q
    | false=>
      rw[Quq (by decide)] at q⊢
      exact F (n+1) j w _ (by omega) q
 obtain⟨r,l,z,q⟩:=J o.length 0 _ x [] (by omega) L
 exact⟨r,l,by unfold cG;rw[M];exact z,q⟩
def Gy{f:bV}{Q:(List D×(aL->Prop))->aL->Prop}(h:E f Γ S λd a=>∃j,d=.int j/\(-(2^62)<=j/\j<2^62)/\Q (jx 0 j,λ_=>True) a):E (u5 f) Γ S Q:=by
 obtain⟨d,a,b,j,rfl,hj,q⟩:=h
 exact⟨_,a,by unfold u5;rw[b];simp only[Qbq];rw[Qhq hj],q⟩
def tf{f:gu}{Q:(List D×(aL->Prop))->aL->Prop}(h:E f Γ S λp a=>Q (p.1,λb=>p.2.stays b p.1) a):E (jw f) Γ S Q:=by
 obtain⟨p,a,c,q⟩:=h
 exact⟨_,a,by unfold jw;rw[c];rfl,q⟩
def jQ{m:List D->List D->Option (List D×D)}{f:bV}{g:iH}{Q:D->aL->Prop}(h:E f Γ S λx b=>∃k a,x=.ref k/\b[k]?=some (.lst a)/\E g Γ b λys S2=>∃ds,S2[k]?=some (.lst ds)/\Op (m ds ys) λp=>Q p.2 (S2.set k (.lst p.1))):E (qo m f g) Γ S Q:=by
 obtain⟨x,b,c,k,a,rfl,h1,ys,S2,e2,ds,h2,p,e3,q⟩:=h
 exact⟨_,_,by unfold qo;rw[c];simp only[Qbq,e2,h1,h2,e3],q⟩
end
def cf{n:Nat}{b:dm}{ds:List D}{S:aL}{Q:Res->aL->Prop} (h:T b (ds.map some++List.replicate (n-ds.length) none) S λo=>match o with
   |.nx _ a=>Op (settle S .non a) λp=>Q p.1 p.2|.rt d a=>Op (settle S d a) λp=>Q p.1 p.2|.rl l a=>Op (eX S l a) λp=>Q p.1 p.2|_=>False):Fn (fA n b) ds S Q:=by
 obtain⟨o,f,q⟩:=h
 cases o with
 |nx g a=>obtain⟨⟨r,c⟩,e,q⟩:=q;exact⟨r,c,by unfold fA;rw[f];exact e,q⟩
 |rt d a=>obtain⟨⟨r,c⟩,e,q⟩:=q;exact⟨r,c,by unfold fA;rw[f];exact e,q⟩
 |rl d a=>obtain⟨⟨r,c⟩,e,q⟩:=q;exact⟨r,c,by unfold fA;rw[f];exact e,q⟩
 |bk=>exact q.elim
 |ct=>exact q.elim
def jb{S a S2:aL}{d:D}{Q:Res×aL->Prop}(c:qi S a)(ht:a.take S.length=S2)(hd:∀k,d≠.ref k)(b:cq S.length d=true)(q:Q (.d d,S2)):Op (settle S d a) Q:=by
 refine⟨_,?_,q⟩
 unfold settle
 rw[Qhq c,ht]
 cases d with
 |ref k=>exact absurd rfl (hd k)
 |_=>simp only[b,if_true]
def nY{S a S2:aL}{ds:List D}{Q:Res×aL->Prop}(c:qi S a)(ht:a.take S.length=S2)(b:cj S.length ds=true)(q:Q (.l ds,S2)):Op (eX S ds a) Q:=by
 refine⟨_,?_,q⟩
 unfold eX
 rw[Qhq ⟨c,b⟩,ht]
def uD{S:aL}:qi S S:=⟨Qmq _,λk o _ h=>.inl h⟩
def xw{S:aL}{k:Nat}{o:O}(h:IQ S.length o=true):qi S (S.set k o):=by
 refine⟨by simp,λj u _ e=> ?_⟩
 rw[List.getElem?_set] at e
 split at e
 ·split at e
  ·cases e;exact .inr h
  ·cases e
 ·exact .inl e
end DL
namespace L2
open PySem PySem.Spec PyProof.Rows
end L2
namespace DL
open PySem PySem.Spec L2
mutual
noncomputable def i0:D->Option PyData
 |.non=>some .none
 |.bl b=>some (.bool b)
 |.int i=>some (.int i)
 |.str x=>if PyData.strOk x=true then some (.str x) else none
 |.tup a=>(iS a).map .tuple
 |.ref _=>none
 |.fn _=>none
noncomputable def iS:List D->Option (List PyData)
 | []=>some []
 |d::ds=>(i0 d).bind λp=>(iS ds).map (p::·)
end
mutual
theorem vy:∀{d:D} {p:PyData},i0 d=some p->p.canLay0=true
 |.non,_,e=>by cases e;rfl
 |.bl _,_,e=>by cases e;rfl
 |.int _,_,e=>by cases e;rfl
 | .str x,_,e=>by
   simp only[i0] at e
   split at e
   · rename_i c;cases e;exact c
   · cases e
 | .tup ds,_,e=>by
   simp only[i0] at e
   obtain⟨b,a,rfl⟩:=oQm.mp e
   exact w4 a
 |.ref _,_,e=>by cases e
 |.fn _,_,e=>by cases e
theorem w4:∀{ds:List D} {ps:List PyData},iS ds=some ps->PyData.canLayAll0 ps=true
 | [],_,e=>by cases e;rfl
 | d::ds,_,e=>by
   simp only[iS] at e
   obtain⟨p,a,e⟩:=aw e
   obtain⟨ps,b,rfl⟩:=oQm.mp e
   simp only[PyData.canLayAll0,QCq]
   exact⟨vy a,w4 b⟩
end
mutual
theorem Ca{M:Md}{ρ:List Addr}{H:Hp}:∀{d:D} {p:PyData} {v:V},Rel M ρ H d v->i0 d=some p->sO (λ_=>False) H p v
 |.non,_,_,.non,e=>by cases e;exact .non
 |.bl _,_,_,.bl _,e=>by cases e;exact .bl _
 |.int _,_,_,.int _,e=>by cases e;exact .int _
 | .str _,_,_,.str _,e=>by
   simp only[i0] at e
   split at e
   · cases e;exact .str _
   · cases e
 | .tup ds,_,_,.tup h hs,e=>by
   simp only[i0] at e
   obtain⟨b,a,rfl⟩:=oQm.mp e
   exact .tup h (C5 hs a)
 |.ref _,_,_,_,e=>by cases e
 |.fn _,_,_,_,e=>by cases e
theorem C5{M:Md}{ρ:List Addr}{H:Hp}:∀{ds:List D} {ps:List PyData} {vs:List V},bC M ρ H ds vs->iS ds=some ps->uv (λ_=>False) H ps vs
 | [],_,_,.nil,e=>by cases e;exact .nil
 | d::ds,_,_,.cons h hs,e=>by
   simp only[iS] at e
   obtain⟨p,b,e⟩:=aw e
   obtain⟨ps,a,rfl⟩:=oQm.mp e
   exact .cons (Ca h b) (C5 hs a)
end
end DL
namespace L2
open PySem PySem.Spec
section
variable{X:Cx}
def Mu(a:Bool):R2:=λx y H Q=>∃p q,sO (λ_=>False) H p x/\sO (λ_=>False) H q y/\p.canLay0=true/\q.canLay0=true/\p.depth<=60/\Q (.bl (if a then !PyData.eqv p q else PyData.eqv p q)) H
def Li(r:X.A.units+64<cLine):lN X (compareOp .Eq) (Mu false):=by
 rintro b s o H x y v u Q I k j ⟨p,q,e,i,d,g,l,h⟩
 obtain⟨n,c,_⟩:=uA I (λa z=>z.elim) e k
 obtain⟨m,f,_⟩:=uA I (λa z=>z.elim) i j
 exact SeqAt.eqOverData _ _ _ _ _ _ _ _ _ _ _ _ c f d g (by omega) ⟨.bl _,H,I,rfl,h⟩
end
end L2
namespace DL
open PySem PySem.Spec L2
section
variable{X:Cx}{a b e:Expr}{pos:Pos}
noncomputable def J3(c:Bool):v9:=λ_ x y=>(i0 x).bind λp=>(i0 y).bind λq=>if p.depth<=60 then some (.bl (if c then !PyData.eqv p q else PyData.eqv p q)) else none
def K2{M:Md}{f:Bool}:mR M (Mu f) (J3 f):=by
 intro m S H x y d u v Q k j l e q
 unfold J3 at e
 obtain⟨p,h,e⟩:=aw e
 obtain⟨i,g,e⟩:=aw e
 split at e
 ·rename_i c
  cases e
  exact⟨p,i,Ca j h,Ca l g,vy h,vy g,c,q _ _ cU.refl k (.bl _)⟩
 ·cases e
def J9{f g:bV}{k:Nat}(d:gN k X.A)(c:PE X a (tD (md X) f))(h:PE X b (tD (md X) g)):PT X (.Compare a [.Eq] [b] pos) (tB (md X) (aP (aI (J3 false) f g))):=bN (Li d.units) K2 c h (aV _)
end
noncomputable def AA(S:aL):D->Option Nat
 |.str z=>if z.length<=sizeLine then some z.length else none
 |d=>(pz S d).map (·.1.length)
noncomputable def IG(f:bV):bV:=λb S=>(f b S).bind λ(d,a)=>(AA a d).bind λn=>some (.int n,a)
section
variable{X:Cx}{a:Expr}{pos:Pos}
def KC{f:bV}{p:Pos}(B:Gl X "len")(u:X.mg "len"=none)(o:PE X a (tD (md X) f))(j:starEach [a] X.env= [(false,eval a X.env)]:=by rfl):
  PE X (.Call (.Name "len" p) [a] [] pos) (tD (md X) (IG f)):=
 lO (fc (yC.or pV) B u PySem.boot_len (eG o hJ j) (he:=j)) λI H Q w=>by
  obtain⟨A,m,S,d,G,ok,e,q⟩:=w
  obtain⟨⟨g,i⟩,C,e⟩:=aw e
  obtain⟨n,b,e⟩:=aw e
  obtain⟨rfl,rfl⟩:=da e
  refine⟨A,m,S,g,i,ok,C,λy v J x h r=> ?_⟩
  by_cases c:∃z,g=.str z
  ·obtain⟨z,rfl⟩:=c
   cases r
   simp only[AA] at b
   split at b <;>cases b
   exact .inl ⟨z,rfl,by assumption,q _ _ _ x h (.int _)⟩
  ·have l:(pz i g).map (·.1.length)=some n:=by
    cases g with
    |str z=>exact absurd ⟨z,rfl⟩ c
    |_=>exact b
   obtain⟨⟨F,t⟩,s,rfl⟩:=oQm.mp l
   obtain⟨a,k,rfl,h2,h3⟩:=DF h r s
   refine .inr ⟨a,k,rfl,h2.sq,?_⟩
   have:=q _ (.int k.length) _ x h (by rw[←h3.length];exact .int _)
   exact this
end
def He{b:dw}{S:aL}{f:bV}{Q:D->aL->Prop}(h:E f b S λd a=>Op (AA a d) λn=>Q (.int n) a):E (IG f) b S Q:=by
 obtain⟨d,a,e,n,c,q⟩:=h
 exact⟨_,a,by unfold IG;rw[e];simp only[Qbq];rw[c];rfl,q⟩
end DL
namespace W28
open PySem PySem.Spec L2 DL
abbrev aY(k:Int):=cF (.int k)
abbrev aH(k:Nat):=ar (au k)
abbrev fV(k:Int):=ar (cF (.int k))
def xb:dm:=
 (aK (bt 2 (aY 0))
 (aK (eU (aP (aI Il (au 1) (kh (bx (au 0))))) (bt 2 (Bw Jg (ar (aI bg (au 0) (au 1)) ay))) fX)
 (aK (bt 3 (aI oS (aI sV (au 2) (aI oS (aI yn (aY 10) (aY 60)) (aI yn (aY 10) (aY 60)))) (Bw intOfD (ar (aI Om (au 2) (aI yn (aY 10) (aY 18))) ay))))
 (GW (cp (aH 3 (ar (aI sV (aI b_ (aI b_ (au 2) (aI oS (aY 104729) (au 1))) (aY 7)) (aY 2305843009213693951)) (fV 0 ay))))))))
def m5:dP:=fA 4 xb
def uu:dm:=
 (aK (eU (aP (aI L4 (aI bg (au 0) (aY 0)) (aY 0))) (aK (bt 2 (aI sV (aI bg (au 0) (aY 0)) (au 1)))
 (aK (sx (aI Be (aI bg (au 0) (aY 0)) (au 1)) (L1 (au 0) (aY 0)))
 (cQ (au 2)))) fX)
 (aK (NH (au 0) (aY 2) (aY 1))
 (aK (bt 3 (aI sV (aI b_ (aI b_ (aI oS (aI bg (au 0) (aY 1)) (aY 69069)) (aI oS (aY 9973) (aI bg (au 0) (aY 2)))) (aY 5)) (aY 2305843009213693921)))
 (aK (sx (aI sV (aI oS (au 3) (aI b_ (aI b_ (aI sV (au 3) (aY 999983)) (aI oS (aY 2) (aI bg (au 0) (aY 2)))) (aY 3))) (aY 2305843009213693907)) (L1 (au 0) (aY 1)))
 (cQ (aI sV (aI Be (aI bg (au 0) (aY 1)) (aY 65537)) (au 1)))))))
def aM:dP:=fA 4 uu
def rX:dm:=
 (aK (bt 3 (c8 (cG [none,some 1] (jw (iV (cp (ar (cF (.str "a")) (ar (cF (.str "b")) (ar (cF (.str "c")) (ar (cF (.str "d")) (ar (cF (.str "e")) (ar (cF (.str "zz")) ay))))))))) (cu 0) cW (aI b_ (au 1) (au 0)))))
 (GW (Df (iV (cG [none,some 0,some 3] (u5 (au 2)) (cu 0) cW (qo oJ (au 2) (ar (aB aM (aH 1 (ar (kh (bx (au 2))) ay))) ay)))))))
def dD:dP:=fA 4 rX
def om:dm:=
 (cQ (aI bg (au 1) (aB aM (aH 0 (ar (IG (au 1)) ay)))))
def bQ:dP:=fA 2 om
def xn(self:dP):dm:=
 (aK (bt 4 (aB aM (aH 0 (fV 9 ay))))
 (aK (eU (Ke (aP (aI Il (au 3) (aY 1))) (aP (aI Il (au 4) (aY 3)))) (aK (eU (jo (aP (eK (bx (au 1)))) (aP (aI L4 (aB aM (aH 0 (fV 3 ay))) (aY 0)))) (cQ (aB bQ (aH 0 (aH 1 ay)))) fX)
 (cQ (aB aM (aH 0 (ar (aI bg (c8 (cp (fV 3 (fV 10 ay)))) (Bw intOfD (ar (aI (fB false) (aB aM (aH 0 (fV 5 ay))) (aY 0)) ay))) ay))))) fX)
 (aK (eU (jo (aP (aI (fB false) (au 4) (aY 3))) (aP (eK (bx (au 2))))) (cQ (bc (ar (cF (.str "waits")) (ar (aB bQ (aH 0 (aH 2 ay))) ay)))) fX)
 (aK (eU (aP (aI (fB false) (au 4) (aY 4))) (cQ (bc (ar (cF (.str "not")) (ar (aB self (aH 0 (aH 1 (aH 2 (ar (aI nc (au 3) (aY 1)) ay))))) ay)))) fX)
 (aK (bt 5 (aI bg (c8 (cp (ar (cF (.str "plus")) (ar (cF (.str "minus")) (ar (cF (.str "less")) (ar (cF (.str "same")) (ar (cF (.str "both")) ay))))))) (aB aM (aH 0 (fV 5 ay)))))
 (cQ (bc (aH 5 (ar (aB self (aH 0 (aH 1 (aH 2 (ar (aI nc (au 3) (aY 1)) ay))))) (ar (aB self (aH 0 (aH 1 (aH 2 (ar (aI nc (au 3) (aY 1)) ay))))) ay))))))))))
def bM:Nat->dP
 |0=>λ_ _=>none
 |n+1=>fA 6 (xn (bM n))
def sA:dm:=
 (aK (bt 4 (aI bg (c8 (cp (fV 0 (ar (cF (.str "given")) (ar (aB (bM 4) (aH 0 (aH 1 (aH 2 (fV 1 ay))))) ay))))) (aB aM (aH 0 (fV 3 ay)))))
 (aK (bt 5 (bc (ar (cF (.str "wait")) (ar (aB bQ (aH 0 (aH 2 ay))) (aH 4 ay)))))
 (aK (bt 6 (aB aM (aH 0 (fV 3 ay))))
 (aK (eU (aP (aI (fB false) (au 6) (aY 0))) (GW (cp (aH 5 ay))) fX)
 (aK (bt 7 (bc (ar (cF (.str "not")) (ar (aB (bM 4) (aH 0 (aH 1 (aH 2 (fV 2 ay))))) ay))))
 (GW (cp (ar (bc (ar (cF (.str "unless")) (aH 7 (ar (aI b_ (au 3) (aY 3)) ay)))) (aH 5 (ar (bc (ar (cF (.str "go")) (ar (aI bg (c8 (cp (aH 3 (ar (aI b_ (au 3) (aY 3)) ay)))) (aI nc (au 6) (aY 1))) ay))) ay))))))))))
def jC:dP:=fA 8 sA
def Bb:dm:=
 (aK (sx (aB bQ (aH 0 (aH 1 ay))) (jJ (nG 2 (aR (cu 4) (aR (cu 5) eB)))))
 (aK (bt 6 (aB bQ (aH 0 (ar (c8 (CT (iV (cp (ar (cF .non) ay))) (bx (au 2)))) ay))))
 (cQ (bc (ar (cF (.str "do")) (aH 6 (aH 4 (aH 5 (ar (aB (bM 4) (aH 0 (aH 3 (ar (c8 (cp ay)) (fV 1 ay))))) ay)))))))))
def mH:dP:=fA 7 Bb
def uw:dm:=
 (aK (sx (au 1) (jJ (nG 3 (aR (cu 4) (aR (cu 5) (aR (cu 6) eB))))))
 (aK (bt 7 (c8 (CT (bx (au 5)) (iV (cp (ar (cF (.str "given")) ay))))))
 (aK (bt 8 (c8 (cp ay)))
 (aK (jz (u5 (aI b_ (aY 1) (aB aM (aH 0 (aH 3 ay))))) (cu 9) (aK (bt 10 (aB aM (aH 0 (fV 9 ay))))
 (eU (jo (aP (aI Il (au 10) (aY 2))) (aP (eK (bx (au 6))))) (nE (ze (au 8) (iV (eF jC (aH 0 (aH 7 (aH 6 (ar (kh (bx (au 8))) ay)))))))) (eU (jo (aP (aI Il (au 10) (aY 4))) (aP (eK (bx (au 6))))) (aK (bt 11 (aI bg (c8 (cp (ar (cF (.str "call")) (ar (cF (.str "all")) ay)))) (Bw intOfD (ar (wx (aI (fB false) (au 4) (cF (.str "when free"))) (aI (fB false) (au 10) (aY 3))) ay))))
 (nE (qo g6 (au 8) (ar (bc (aH 11 (ar (aB bQ (aH 0 (aH 6 ay))) ay))) ay)))) (eU (jo (aP (aI (fB false) (au 10) (aY 4))) (aP (eK (bx (au 2))))) (nE (qo g6 (au 8) (ar (aB mH (aH 0 (aH 2 (aH 5 (aH 7 ay))))) ay))) (eU (aP (aI (fB false) (au 10) (aY 5))) (aK (nE (qo g6 (au 8) (ar (bc (ar (cF (.str "unless")) (ar (aB (bM 4) (aH 0 (aH 7 (aH 6 (fV 2 ay))))) (ar (aI b_ (kh (bx (au 8))) (aY 2)) ay)))) ay)))
 (nE (qo g6 (au 8) (ar (bc (ar (cF (.str "tell")) (ar (aB aM (aH 0 (fV 10 ay))) ay))) ay)))) (eU (jo (aP (aI Il (au 10) (aY 8))) (aP (eK (bx (au 5))))) (nE (qo g6 (au 8) (ar (bc (ar (cF (.str "put")) (ar (aB bQ (aH 0 (aH 5 ay))) (ar (aB (bM 4) (aH 0 (aH 7 (aH 6 (fV 2 ay))))) ay)))) ay))) (nE (qo g6 (au 8) (ar (bc (ar (cF (.str "tell")) (ar (aB (bM 4) (aH 0 (aH 7 (aH 6 (fV 1 ay))))) ay))) ay))))))))))
 (cQ (tupQ (gk (bx (au 8)))))))))
def kZ:dP:=fA 12 uw
def uO:dm:=
 (aK (bt 5 (aB bQ (aH 0 (aH 3 ay))))
 (aK (bt 6 (c8 (eF dD (aH 0 (ar (cF (.str "")) (ar (aI bg (c8 (cp (fV 1 (fV 1 (fV 2 (fV 0 ay)))))) (aB aM (aH 0 (fV 4 ay)))) ay))))))
 (aK (bt 7 (c8 (eF dD (aH 0 (ar (cF (.str "")) (ar (aB aM (aH 0 (ar (aI b_ (au 4) (aY 1)) ay))) ay))))))
 (aK (bt 8 (c8 (cp ay)))
 (aK (jz (jw (iV (eF dD (aH 0 (ar (cF (.str "")) (ar (aI b_ (aY 1) (aB aM (aH 0 (fV 3 ay)))) ay)))))) (cu 9) (aK (bt 10 (c8 (cG [none,some 1] (jw (bx (au 8))) (cu 0) cW (bc (aH 1 (ar (aI bg (au 0) (aY 0)) ay))))))
 (aK (bt 11 (c8 (CT (bx (au 2)) (iV (Iq (bx (au 10)) (Bw intOfD (ar (aI (fB false) (aB aM (aH 0 (fV 5 ay))) (aY 0)) ay)))))))
 (nE (qo g6 (au 8) (ar (bc (aH 9 (ar (aB kZ (aH 0 (ar (bc (aH 5 (aH 6 (aH 7 ay)))) (aH 11 (fV 4 ay))))) ay))) ay))))))
 (aK (bt 12 (tupQ (iV (cG [none,some 0] (jw (bx (au 7))) (cu 0) cW (bc (aH 0 (ar (aI bg (c8 (cp (ar (cF (.str "row")) (ar (cF (.str "turns")) ay)))) (aB aM (aH 1 (fV 2 ay)))) ay)))))))
 (cQ (bc (aH 1 (aH 5 (ar (tupQ (iV (cG [none,some 0] (jw (bx (au 6))) (cu 0) cW (bc (aH 0 (ar (aB aM (aH 1 (fV 3 ay))) ay)))))) (aH 12 (ar (tupQ (gk (bx (au 8)))) ay)))))))))))))
def kW:dP:=fA 13 uO
def sF:dm:=
 (aK (bt 4 (c8 (eF dD (aH 0 (ar (cF (.str "")) (aH 1 ay))))))
 (aK (bt 5 (c8 (cp ay)))
 (aK (Ik (aP (eK (bx (au 4)))) (aK (bt 6 (c8 (cp ay)))
 (aK (jz (jw (bx (au 5))) (cu 7) (nE (ze (au 6) (iV (cG [none,some 7] (jw (bx (aI bg (au 7) (aY 4)))) (cu 0) cW (bc (ar (aI bg (au 1) (aY 0)) (ar (aI bg (au 0) (aY 0)) ay))))))))
 (aK (bt 8 (qo oJ (au 4) (ar (aB aM (aH 0 (ar (kh (bx (au 4))) ay))) ay)))
 (nE (qo g6 (au 5) (ar (aB kW (aH 0 (aH 8 (aH 6 (aH 2 (aH 3 ay)))))) ay)))))) 4)
 (cQ (tupQ (iV (yR (bx (au 5)))))))))
def jB:dP:=fA 9 sF
def xA:dm:=
 (aK (bt 5 (c8 (cp ay)))
 (aK (jz (u5 (aI b_ (aY 1) (aB aM (aH 0 (aH 4 ay))))) (cu 6) (aK (bt 7 (aB aM (aH 0 (fV 10 ay))))
 (eU (jo (aP (aI Il (au 7) (aY 5))) (aP (eK (bx (au 1))))) (nE (qo g6 (au 5) (ar (aB mH (aH 0 (aH 1 (aH 2 (aH 2 ay))))) ay))) (eU (jo (aP (aI (fB false) (au 7) (aY 5))) (aP (eK (bx (au 3))))) (nE (qo g6 (au 5) (ar (bc (ar (aI bg (c8 (cp (ar (cF (.str "take")) (ar (cF (.str "give")) ay)))) (aB aM (aH 0 (fV 2 ay)))) (ar (aB bQ (aH 0 (aH 3 ay))) ay))) ay))) (eU (jo (aP (aI (fB false) (au 7) (aY 6))) (aP (eK (bx (au 3))))) (nE (qo g6 (au 5) (ar (bc (ar (cF (.str "pass")) (ar (aB bQ (aH 0 (aH 3 ay))) (ar (aB bQ (aH 0 (aH 3 ay))) ay)))) ay))) (eU (jo (aP (aI (fB false) (au 7) (aY 7))) (aP (eK (bx (au 2))))) (nE (qo g6 (au 5) (ar (bc (ar (cF (.str "put")) (ar (aB bQ (aH 0 (aH 2 ay))) (ar (aB (bM 4) (aH 0 (aH 2 (ar (c8 (cp ay)) (fV 2 ay))))) ay)))) ay))) (eU (aP (aI (fB false) (au 7) (aY 8))) (aK (nE (qo g6 (au 5) (ar (bc (ar (cF (.str "unless")) (ar (aB (bM 4) (aH 0 (aH 2 (ar (c8 (cp ay)) (fV 2 ay))))) (ar (aI b_ (kh (bx (au 5))) (aY 2)) ay)))) ay)))
 (nE (qo g6 (au 5) (ar (bc (ar (cF (.str "say")) (ar (aB (bM 4) (aH 0 (aH 2 (ar (c8 (cp ay)) (fV 1 ay))))) ay))) ay)))) (nE (qo g6 (au 5) (ar (bc (ar (cF (.str "say")) (ar (aB (bM 4) (aH 0 (aH 2 (ar (c8 (cp ay)) (fV 1 ay))))) ay))) ay))))))))))
 (aK (eU (aP (aI (fB false) (aB aM (aH 0 (fV 5 ay))) (aY 0))) (nE (qo g6 (au 5) (ar (bc (ar (cF (.str "go")) (ar (aB aM (aH 0 (ar (aI b_ (kh (bx (au 5))) (aY 2)) ay))) ay))) ay))) fX)
 (cQ (tupQ (gk (bx (au 5))))))))
def m6:dP:=fA 8 xA
def rM:dm:=
 (aK (bt 4 (c8 (cp ay)))
 (aK (jz (jw (bx (au 1))) (cu 5) (nE (ze (au 4) (iV (cG [none,some 5] (jw (bx (aI bg (au 5) (aY 4)))) (cu 0) cW (bc (ar (aI bg (au 1) (aY 0)) (ar (aI bg (au 0) (aY 0)) ay))))))))
 (aK (bt 6 (c8 (eF dD (aH 0 (ar (cF (.str "p")) (ar (aB aM (aH 0 (ar (aI b_ (au 3) (aY 1)) ay))) ay))))))
 (aK (bt 7 (c8 (eF dD (aH 0 (ar (cF (.str "o")) (ar (aI bg (c8 (cp (fV 0 (fV 0 (fV 1 (fV 2 ay)))))) (aB aM (aH 0 (fV 4 ay)))) ay))))))
 (aK (bt 8 (c8 (cp ay)))
 (aK (jz (u5 (au 2)) (cu 9) (aK (bt 10 (c8 (eF dD (aH 0 (ar (cF (.str "")) (ar (aI bg (c8 (cp (fV 0 (fV 1 (fV 1 (fV 2 ay)))))) (aB aM (aH 0 (fV 4 ay)))) ay))))))
 (aK (bt 11 (aB m6 (aH 0 (aH 4 (ar (c8 (CT (bx (au 10)) (bx (au 7)))) (aH 6 (fV 4 ay)))))))
 (nE (qo g6 (au 8) (ar (bc (ar (tupQ (iV (cG [none,some 0] (jw (bx (au 10))) (cu 0) cW (bc (aH 0 (ar (aB aM (aH 1 (fV 3 ay))) ay)))))) (aH 11 ay))) ay))))))
 (aK (bt 12 (tupQ (iV (cG [none,some 0] (jw (bx (au 6))) (cu 0) cW (bc (aH 0 (ar (aB aM (aH 1 (fV 3 ay))) ay)))))))
 (cQ (bc (aH 1 (aH 12 (ar (tupQ (iV (cG [none,some 0] (jw (bx (au 7))) (cu 0) cW (bc (aH 0 (ar (aB aM (aH 1 (fV 3 ay))) ay)))))) (ar (tupQ (gk (bx (au 8)))) ay)))))))))))))
def jG:dP:=fA 13 rM
def lJ:dm:=
 (aK (bt 1 (aB jB (aH 0 (ar (aI bg (c8 (cp (fV 1 (fV 2 (fV 3 (fV 1 (fV 2 (fV 0 ay)))))))) (aB aM (aH 0 (fV 6 ay)))) (ar (c8 (cp (ar (cF (.str "at once")) (ar (cF (.str "when free")) ay)))) (fV 2 ay))))))
 (cQ (aB jG (aH 0 (aH 1 (ar (aI b_ (aY 1) (aB aM (aH 0 (fV 4 ay)))) (fV 2 ay)))))))
def fe:dP:=fA 2 lJ
def uT(self:dP):dm:=
 (aK (eU (Ke (lM (nV "int" (au 1))) (aP (aI (J3 false) (au 1) (cF (.str "given"))))) (cQ (au 1)) fX)
 (aK (eU (lM (nV "str" (au 1))) (cQ (aI b_ (au 0) (au 1))) fX)
 (aK (eU (aP (aI (J3 false) (aI bg (au 1) (aY 0)) (cF (.str "waits")))) (cQ (bc (ar (cF (.str "waits")) (ar (aI b_ (au 0) (aI bg (au 1) (aY 1))) ay)))) fX)
 (cQ (aI b_ (pE (au 1) qm (pA (aY 1))) (tupQ (iV (cG [none,some 0] (jw (bx (pE (au 1) (pA (aY 1)) qm))) (cu 0) cW (aB self (aH 1 (aH 0 ay)))))))))))
def et:Nat->dP
 |0=>λ_ _=>none
 |n+1=>fA 2 (uT (et n))
def p6:dm:=
 (aK (bt 2 (aI bg (au 1) (aY 0)))
 (aK (eU (aP (aI (fB false) (au 2) (cF (.str "unless")))) (cQ (bc (aH 2 (ar (aB (et 6) (aH 0 (ar (aI bg (au 1) (aY 1)) ay))) (ar (aI bg (au 1) (aY 2)) ay))))) fX)
 (aK (eU (aP (aI (fB false) (au 2) (cF (.str "go")))) (cQ (au 1)) fX)
 (aK (eU (aP (zr false (au 2) (bx (bc (ar (cF (.str "tell")) (ar (cF (.str "say")) ay)))))) (cQ (bc (aH 2 (ar (aB (et 6) (aH 0 (ar (aI bg (au 1) (aY 1)) ay))) ay)))) fX)
 (aK (eU (aP (aI (fB false) (au 2) (cF (.str "do")))) (aK (bt 3 (aI bg (au 1) (aY 1)))
 (aK (eU (aP (aI (uF true) (au 3) (cF .non))) (bt 3 (aI b_ (au 0) (au 3))) fX)
 (cQ (bc (aH 2 (aH 3 (ar (aI b_ (au 0) (aI bg (au 1) (aY 2))) (ar (aI b_ (au 0) (aI bg (au 1) (aY 3))) (ar (aB (et 6) (aH 0 (ar (aI bg (au 1) (aY 4)) ay))) ay))))))))) fX)
 (aK (eU (aP (zr false (au 2) (bx (bc (ar (cF (.str "put")) (ar (cF (.str "wait")) ay)))))) (cQ (bc (aH 2 (ar (aI b_ (au 0) (aI bg (au 1) (aY 1))) (ar (aB (et 6) (aH 0 (ar (aI bg (au 1) (aY 2)) ay))) ay))))) fX)
 (cQ (aI b_ (bc (aH 2 ay)) (tupQ (iV (cG [none,some 0] (jw (bx (pE (au 1) (pA (aY 1)) qm))) (cu 0) cW (aI b_ (au 1) (au 0)))))))))))))
def fU:dP:=fA 4 p6
def mS:dm:=
 (cQ (tupQ (iV (cG [none,none,some 0] (jw (bx (au 1))) (jJ (nG 2 (aR (cu 0) (aR (cu 1) eB)))) cW (bc (aH 0 (ar (tupQ (iV (cG [none,some 2] (jw (bx (au 1))) (cu 0) cW (aB fU (aH 1 (aH 0 ay)))))) ay)))))))
def gP:dP:=fA 2 mS
def sm:dm:=
 (cQ (tupQ (iV (cG [none,none,some 0] (jw (bx (au 1))) (jJ (nG 2 (aR (cu 0) (aR (cu 1) eB)))) cW (bc (ar (aI b_ (au 2) (au 0)) (aH 1 ay)))))))
def dW:dP:=fA 2 sm
def sC:dm:=
 (aK (bt 2 (c8 (cp ay)))
 (aK (jz (jw (bx (aI bg (au 1) (aY 0)))) (jJ (nG 5 (aR (cu 3) (aR (cu 4) (aR (cu 5) (aR (cu 6) (aR (cu 7) eB))))))) (aK (bt 8 (aB gP (aH 0 (ar (aB dW (aH 0 (aH 7 ay))) ay))))
 (nE (qo g6 (au 2) (ar (bc (ar (aI b_ (au 0) (au 3)) (aH 4 (ar (aB dW (aH 0 (aH 5 ay))) (ar (aB dW (aH 0 (aH 6 ay))) (aH 8 ay)))))) ay)))))
 (aK (bt 9 (c8 (cp ay)))
 (aK (jz (jw (bx (aI bg (au 1) (aY 3)))) (jJ (nG 2 (aR (cu 5) (aR (cu 10) eB)))) (nE (qo g6 (au 9) (ar (bc (ar (aB dW (aH 0 (aH 5 ay))) (ar (tupQ (iV (cG [none,some 0] (jw (bx (au 10))) (cu 0) cW (aB fU (aH 1 (aH 0 ay)))))) ay))) ay))))
 (cQ (bc (ar (tupQ (gk (bx (au 2)))) (ar (aB dW (aH 0 (ar (aI bg (au 1) (aY 1)) ay))) (ar (aB dW (aH 0 (ar (aI bg (au 1) (aY 2)) ay))) (ar (tupQ (gk (bx (au 9)))) ay))))))))))
def jI:dP:=fA 11 sC
def uf:dm:=
 (cQ (tupQ (iV (cG [none,none] (jw (bx (au 0))) (jJ (nG 2 (aR (cu 0) (aR (cu 1) eB)))) cW (au 1)))))
def ic:dP:=fA 1 uf
def sh:dm:=
 (aK (sx (au 0) (jJ (nG 5 (aR (cu 1) (aR (cu 2) (aR (cu 3) (aR (cu 4) (aR (cu 5) eB))))))))
 (cQ (bc (ar (aB ic (aH 3 ay)) (ar (cF (.int (-1))) (ar (bc ay) (ar (bc ay) (ar (tupQ (iV (cG [none] (jw (bx (au 4))) (cu 0) cW (bc ay)))) ay))))))))
def jD:dP:=fA 6 sh
def Gc:dm:=
 (aK (sx (au 0) (jJ (nG 4 (aR (cu 1) (aR (cu 2) (aR (cu 3) (aR (cu 4) eB)))))))
 (aK (bt 5 (bc (ar (cF (.int (-1))) (ar (cF (.int (-1))) (fV 0 (fV 0 (fV 0 ay)))))))
 (cQ (bc (ar (tupQ (iV (cG [none] (jw (bx (au 1))) (cu 0) cW (aB jD (aH 0 ay))))) (ar (tupQ (iV (cG [none,none] (jw (bx (au 2))) (jJ (nG 2 (aR (cu 0) (aR (cu 1) eB)))) cW (bc (aH 1 (ar (bc ay) ay)))))) (ar (aB ic (aH 3 ay)) (ar (tupQ (iV (cG [none,none,some 5] (jw (bx (au 4))) (jJ (nG 2 (aR (cu 0) (aR (cu 1) eB)))) cW (bc (ar (aB ic (aH 0 ay)) (ar (bc (aH 2 ay)) ay)))))) ay))))))))
def vR:dP:=fA 6 Gc
def xp:dm:=
 (GW (cG [none,none] (jw (bx (au 0))) (jJ (nG 2 (aR (cu 0) (aR (cu 1) eB)))) cW (au 1)))
def ko:dP:=fA 1 xp
def mw:dm:=
 (aK (bt 1 (c8 (cp ay)))
 (aK (jz (jw (bx (aI bg (au 0) (aY 1)))) (jJ (nG 2 (aR (cu 2) (aR (cu 3) eB)))) (nE (wW (au 1) (bx (au 3)))))
 (aK (jz (jw (bx (aI bg (au 0) (aY 0)))) (jJ (nG 5 (aR (cu 4) (aR (cu 5) (aR (cu 3) (aR (cu 6) (aR (cu 7) eB))))))) (aK (nE (wW (au 1) (bx (aI b_ (au 3) (au 6)))))
 (jz (jw (bx (au 7))) (cu 8) (nE (ze (au 1) (iV (eF ko (aH 8 ay))))))))
 (cQ (au 1)))))
def fE:dP:=fA 9 mw
def sE:dm:=
 (cQ (aI bg (aI bg (aI bg (aI bg (au 0) (aY 3)) (au 1)) (aY 1)) (wI (aY 1))))
def di:dP:=fA 2 sE
def rK:dm:=
 (aK (I0 3 4 (ar (aI bg (au 2) (aY 0)) (ar (aI bg (au 2) (aY 1)) ay)))
 (aK (eU (aP (aI (fB false) (au 3) (cF (.int (-1))))) (cQ (aI bg (aI bg (aI bg (au 0) (aY 3)) (au 1)) (aY 1))) fX)
 (cQ (aI bg (aI bg (aI bg (aI bg (aI bg (au 0) (aY 0)) (au 3)) (aY 4)) (au 4)) (aY 1)))))
def fF:dP:=fA 5 rK
def lZ:dm:=
 (aK (bt 3 (aB di (aH 1 (aH 2 ay))))
 (cQ (wx (aI (fB false) (aI bg (au 3) (aY 0)) (cF (.int (-1)))) (aI (fB false) (aI bg (au 3) (aY 2)) (kh (bx (aB fF (aH 0 (aH 2 (aH 3 ay))))))))))
def gQ:dP:=fA 4 lZ
def xR:dm:=
 (aK (bt 2 (c8 (eF fE (aH 1 ay))))
 (GW (cG [none,some 0,some 1,some 2] (u5 (kh (bx (aI bg (au 1) (aY 3))))) (cu 0) (jo (aP (zr true (au 0) (bx (au 3)))) (AU (lM (aB gQ (aH 1 (aH 2 (aH 0 ay))))))) (au 0))))
def i9:dP:=fA 3 xR
def kT(self:dP):dm:=
 (aK (eU (lM (nV "tuple" (au 1))) (aK (eU (Ke (AU (lM (nV "tuple" (au 0)))) (aP (aI (fB true) (kh (bx (au 0))) (kh (bx (au 1)))))) (cQ (cF (.bl false))) fX)
 (cQ (IH (iV (cG [none,none] (BF (bx (au 0)) (bx (au 1))) (jJ (nG 2 (aR (cu 0) (aR (cu 1) eB)))) cW (aB self (aH 0 (aH 1 ay)))))))) fX)
 (aK (eU (Ke (lM (nV "str" (au 1))) (aP (aI (uF false) (au 1) (cF .non)))) (cQ (wx (aI (fB false) (nV "str" (au 0)) (nV "str" (au 1))) (aI (fB false) (au 0) (au 1)))) fX)
 (cQ (wx (nV "int" (au 0)) (wx (Jv (nV "bool" (au 0))) (aI (fB false) (au 0) (au 1)))))))
def gE:Nat->dP
 |0=>λ_ _=>none
 |n+1=>fA 2 (kT (gE n))
def lH:dm:=
 (aK (jz (BF (bx (aI bg (au 0) (aY 1))) (bx (aI bg (au 1) (aY 1)))) (jJ (nG 2 (aR (jJ (nG 2 (aR (cu 3) (aR (cu 4) eB)))) (aR (jJ (nG 2 (aR (cu 5) (aR (cu 6) eB)))) eB)))) (eU (aP (zr false (au 2) (bx (au 6)))) (cQ (bc (ar (cF (.str "pass")) (aH 3 ay)))) fX))
 (aK (jz (BF (bx (aI bg (au 0) (aY 0))) (bx (aI bg (au 1) (aY 0)))) (jJ (nG 2 (aR (cu 7) (aR (cu 8) eB)))) (aK (eU (aP (zr false (au 2) (bx (aI bg (au 8) (aY 2))))) (cQ (bc (ar (cF (.str "row")) (ar (aI bg (au 7) (aY 0)) ay)))) fX)
 (aK (eU (aP (zr false (au 2) (bx (aI bg (au 8) (aY 3))))) (cQ (bc (ar (cF (.str "late")) (ar (aI bg (au 7) (aY 0)) ay)))) fX)
 (jz (BF (bx (aI bg (au 7) (aY 3))) (bx (aI bg (au 8) (aY 4)))) (jJ (nG 2 (aR (jJ (nG 2 (aR (cu 9) (aR (cu 10) eB)))) (aR (cu 11) eB)))) (eU (aP (zr false (au 2) (iV (eF ko (aH 11 ay))))) (cQ (bc (ar (cF (.str "bell")) (ar (aI bg (au 7) (aY 0)) (aH 9 ay))))) fX)))))
 (cQ (cF .non))))
def gn:dP:=fA 12 lH
def DG:dm:=
 (aK (bt 3 (aB gn (aH 0 (aH 1 (aH 2 ay)))))
 (aK (eU (aP (aI (uF true) (au 3) (cF .non))) (cQ (au 3)) fX)
 (aK (bt 4 (aB di (aH 1 (aH 2 ay))))
 (aK (bt 5 (aI bg (au 4) (aY 0)))
 (aK (eU (aP (aI (fB false) (au 5) (cF (.int (-1))))) (cQ (vA (aP (aI (fB false) (aI bg (au 4) (aY 2)) (kh (bx (aB fF (aH 0 (aH 2 (aH 4 ay)))))))) (bc (ar (cF (.str "done")) ay)) (bc (ar (cF (.str "out")) ay)))) fX)
 (aK (bt 6 (aI bg (aI bg (aI bg (au 0) (aY 0)) (au 5)) (aY 0)))
 (cQ (vA (aP (aI (fB false) (aI bg (aI bg (aI bg (au 1) (aY 0)) (au 5)) (aY 1)) (au 2))) (bc (ar (cF (.str "within")) (aH 6 ay))) (bc (ar (cF (.str "called")) (aH 6 ay)))))))))))
def qg:dP:=fA 7 DG
def vY:dm:=
 (aK (eU (jo (aP (zr false (au 2) (bx (au 1)))) (aP (aI (fB false) (aB aM (aH 0 (fV 2 ay))) (aY 0)))) (cQ (au 2)) fX)
 (cQ (aB bQ (aH 0 (aH 1 ay)))))
def lj:dP:=fA 3 vY
def wY:dm:=
 (GW (cG [none] (jw (bx (au 0))) (cu 0) cW (aI bg (au 0) (aY 0))))
def fg:dP:=fA 1 wY
def xY:dm:=
 (cQ (LK (iV (eF fg (aH 0 ay))) (au 1)))
def dR:dP:=fA 2 xY
def uP:dm:=
 (cQ (aI b_ (aI b_ (pE (au 0) qm (pA (au 1))) (bc (aH 2 ay))) (pE (au 0) (pA (aI b_ (au 1) (aY 1))) qm)))
def eE:dP:=fA 3 uP
def vQ:dm:=
 (cQ (aI b_ (pE (au 0) qm (pA (aY 3))) (bc (ar (aB eE (ar (aI bg (au 0) (aY 3)) (aH 1 (ar (bc (aH 2 (aH 3 ay))) ay)))) ay))))
def gI:dP:=fA 4 vQ
def va:dm:=
 (cQ (aI b_ (bc (ar (aB eE (ar (aI bg (au 0) (aY 0)) (aH 1 (aH 2 ay)))) ay)) (pE (au 0) (pA (aY 1)) qm)))
def dJ:dP:=fA 3 va
def og:dm:=
 (aK (bt 5 (aI bg (aB di (aH 1 (aH 2 ay))) (aY 0)))
 (aK (eU (aP (aI (fB true) (au 5) (cF (.int (-1))))) (aK (bt 6 (aB dR (ar (aI bg (aI bg (aI bg (au 0) (aY 0)) (au 5)) (aY 2)) (aH 3 ay))))
 (aK (bt 7 (aB eE (ar (aI bg (aI bg (aI bg (au 1) (aY 0)) (au 5)) (aY 0)) (aH 6 (aH 4 ay)))))
 (cQ (aB dJ (aH 1 (aH 5 (ar (aI b_ (bc (aH 7 ay)) (pE (aI bg (aI bg (au 1) (aY 0)) (au 5)) (pA (aY 1)) qm)) ay))))))) fX)
 (aK (eU (aP (zr false (au 3) (iV (eF fg (ar (aI bg (au 0) (aY 2)) ay))))) (aK (bt 8 (aB eE (ar (aI bg (au 1) (aY 2)) (ar (aB dR (ar (aI bg (au 0) (aY 2)) (aH 3 ay))) (aH 4 ay)))))
 (cQ (bc (ar (aI bg (au 1) (aY 0)) (ar (aI bg (au 1) (aY 1)) (aH 8 (ar (aI bg (au 1) (aY 3)) ay))))))) fX)
 (aK (sx (aI bg (aI bg (au 1) (aY 3)) (au 2)) (jJ (nG 2 (aR (cu 7) (aR (cu 9) eB)))))
 (aK (bt 6 (aB dR (ar (aI bg (aI bg (aI bg (au 0) (aY 3)) (au 2)) (aY 0)) (aH 3 ay))))
 (cQ (aB gI (aH 1 (aH 2 (ar (aB eE (aH 7 (aH 6 (aH 4 ay)))) (aH 9 ay)))))))))))
def gF:dP:=fA 10 og
def nF:dm:=
 (aK (eU (aP (aI (fB false) (au 0) (cF (.str "plus")))) (cQ (Bw minD (ar (aI b_ (au 1) (au 2)) (ar (cF (.int (9))) ay)))) fX)
 (aK (eU (aP (aI (fB false) (au 0) (cF (.str "minus")))) (cQ (Bw maxD (ar (aI nc (au 1) (au 2)) (fV 0 ay)))) fX)
 (aK (eU (aP (aI (fB false) (au 0) (cF (.str "less")))) (cQ (vA (aP (aI Il (au 1) (au 2))) (aY 1) (aY 0))) fX)
 (aK (eU (aP (aI (fB false) (au 0) (cF (.str "same")))) (cQ (vA (aP (aI (fB false) (au 1) (au 2))) (aY 1) (aY 0))) fX)
 (cQ (vA (jo (aP (aI (fB true) (au 1) (aY 0))) (aP (aI (fB true) (au 2) (aY 0)))) (aY 1) (aY 0)))))))
def ig:dP:=fA 3 nF
def wX(self:dP):dm:=
 (aK (eU (lM (nV "int" (au 0))) (cQ (au 0)) fX)
 (aK (eU (lM (nV "str" (au 0))) (cQ (MY (au 1) (au 0))) fX)
 (aK (eU (aP (aI (fB false) (aI bg (au 0) (aY 0)) (cF (.str "waits")))) (cQ (vA (aP (aI L4 (MY (au 2) (aI bg (au 0) (aY 1))) (aY 0))) (aY 1) (aY 0))) fX)
 (aK (bt 3 (aB self (ar (aI bg (au 0) (aY 1)) (aH 1 (aH 2 ay)))))
 (aK (eU (aP (aI (fB false) (aI bg (au 0) (aY 0)) (cF (.str "not")))) (cQ (vA (aP (aI (fB false) (au 3) (aY 0))) (aY 1) (aY 0))) fX)
 (cQ (aB ig (ar (aI bg (au 0) (aY 0)) (aH 3 (ar (aB self (ar (aI bg (au 0) (aY 2)) (aH 1 (aH 2 ay)))) ay))))))))))
def h_:Nat->dP
 |0=>λ_ _=>none
 |n+1=>fA 4 (wX (h_ n))
def qH:dm:=
 (aK (bt 4 (aB di (aH 1 (aH 2 ay))))
 (aK (bt 5 (aI bg (au 4) (aY 0)))
 (aK (eU (aP (aI (fB false) (au 5) (cF (.int (-1))))) (aK (bt 6 (LY (iV (eF fg (ar (aI bg (au 0) (aY 2)) ay))) (bx (aI bg (au 1) (aY 2)))))
 (aK (nE (JQ (au 6) (LY (iV (eF fg (ar (aI bg (aI bg (aI bg (au 0) (aY 3)) (au 2)) (aY 0)) ay))) (bx (aI bg (aI bg (aI bg (au 1) (aY 3)) (au 2)) (aY 0))))))
 (cQ (aB (h_ 6) (aH 3 (aH 6 (ar N_ ay))))))) fX)
 (aK (bt 6 (LY (iV (eF fg (ar (aI bg (aI bg (aI bg (au 0) (aY 0)) (au 5)) (aY 2)) ay))) (bx (aI bg (aI bg (aI bg (au 1) (aY 0)) (au 5)) (aY 0)))))
 (aK (NM (au 6) (cF (.str "given")) (aI bg (au 4) (aY 3)))
 (aK (NN 7 (vz [none,none] (BF (iV (eF fg (ar (aI bg (aI bg (aI bg (au 0) (aY 0)) (au 5)) (aY 3)) ay))) (bx (aI bg (aI bg (aI bg (au 1) (aY 0)) (au 5)) (aY 4)))) (jJ (nG 2 (aR (cu 0) (aR (cu 1) eB)))) cW (au 0) (kh (bx (au 1)))))
 (cQ (aB (h_ 6) (aH 3 (aH 6 (aH 7 ay)))))))))))
def eL:dP:=fA 8 qH
def Dm:dm:=
 (cQ (aB gF (aH 0 (aH 1 (aH 2 (ar (aI bg (au 3) (aY 1)) (ar (aB eL (aH 0 (aH 1 (aH 2 (ar (aI bg (au 3) (aY 2)) ay))))) ay)))))))
def t9:dP:=fA 4 Dm
def kz:dm:=
 (aK (sx (aI bg (aI bg (au 0) (aY 3)) (au 1)) (jJ (nG 2 (aR (cu 3) (aR (cu 4) eB)))))
 (cQ (aB gI (aH 0 (aH 1 (aH 3 (ar (aI b_ (pE (au 4) qm (pA (wI (aY 1)))) (bc (aH 2 ay))) ay)))))))
def eM:dP:=fA 5 kz
def D5:dm:=
 (aK (bt 3 (aB di (aH 0 (aH 1 ay))))
 (cQ (aB eM (aH 0 (aH 1 (ar (aI b_ (aI b_ (pE (au 3) qm (pA (aY 2))) (bc (aH 2 ay))) (pE (au 3) (pA (aY 3)) qm)) ay))))))
def kU:dP:=fA 4 D5
def vK:dm:=
 (aK (eU (aP (aI (fB false) (aB eL (aH 0 (aH 1 (aH 2 (ar (aI bg (au 3) (aY 1)) ay))))) (aY 0))) (cQ (aB kU (aH 1 (aH 2 (ar (aI bg (au 3) (aY 2)) ay))))) fX)
 (cQ (au 1)))
def lB:dP:=fA 4 vK
def F3:dm:=
 (cQ (aB kU (aH 1 (aH 2 (ar (aI bg (au 3) (aY 1)) ay)))))
def zI:dP:=fA 4 F3
def AM:dm:=
 (aK (sx (aI bg (aI bg (au 0) (aY 0)) (au 1)) (jJ (nG 5 (aR (cu 3) (aR (cu 4) (aR (cu 5) (aR (cu 6) (aR (cu 7) eB))))))))
 (aK (eU (aP (aI (fB false) (au 4) (cF (.int (-1))))) (cQ (aB dJ (aH 0 (aH 1 (ar (bc (aH 3 (aH 2 (aH 5 (aH 6 (aH 7 ay)))))) ay))))) fX)
 (cQ (aB dJ (aH 0 (aH 1 (ar (bc (aH 3 (aH 4 (ar (aI b_ (au 5) (bc (aH 2 ay))) (aH 6 (aH 7 ay)))))) ay)))))))
def mD:dP:=fA 8 AM
def Hm:dm:=
 (aK (bt 4 (aB dR (ar (aI bg (au 0) (aY 0)) (ar (aI bg (au 3) (aY 2)) ay))))
 (aK (bt 5 (aB dR (ar (aI bg (aI bg (aI bg (au 0) (aY 0)) (au 4)) (aY 4)) (ar (aI bg (au 3) (aY 3)) ay))))
 (aK (bt 6 (bc (aH 4 (aH 5 (fV 0 (ar (aB eL (aH 0 (aH 1 (aH 2 (ar (aI bg (au 3) (aY 4)) ay))))) (fV 0 ay)))))))
 (aK (sx (aI bg (aI bg (au 1) (aY 3)) (au 2)) (jJ (nG 2 (aR (cu 7) (aR (cu 8) eB)))))
 (cQ (aB mD (ar (aB gI (aH 1 (aH 2 (aH 7 (ar (aI b_ (au 8) (bc (aH 6 ay))) ay))))) (aH 4 (aH 2 ay)))))))))
def zC:dP:=fA 9 Hm
def Bi:dm:=
 (aK (bt 4 (aI bg (aB di (aH 1 (aH 2 ay))) (aY 0)))
 (cQ (bc (aH 4 (ar (aB dR (ar (aI bg (aI bg (aI bg (au 0) (aY 0)) (au 4)) (aY 3)) (aH 3 ay))) ay)))))
def kq:dP:=fA 5 Bi
def vf:dm:=
 (aK (bt 4 (aI bg (aI bg (au 0) (aY 0)) (au 1)))
 (cQ (aB dJ (aH 0 (aH 1 (ar (aI b_ (pE (au 4) qm (pA (aY 4))) (bc (ar (aB eE (ar (aI bg (au 4) (aY 4)) (aH 2 (aH 3 ay)))) ay))) ay))))))
def gG:dP:=fA 5 vf
def G0:dm:=
 (aK (sx (aI bg (aI bg (au 0) (aY 0)) (au 1)) (jJ (nG 5 (aR (cu 2) (aR (cu 3) (aR (cu 4) (aR (cu 5) (aR (cu 6) eB))))))))
 (aK (eU (lM (au 5)) (cQ (aB dJ (aH 0 (aH 1 (ar (bc (aH 2 (ar (aI bg (au 5) (aY 0)) (aH 4 (ar (pE (au 5) (pA (aY 1)) qm) (aH 6 ay)))))) ay))))) fX)
 (aK (eU (lM (au 4)) (cQ (aB dJ (aH 0 (aH 1 (ar (bc (aH 2 (ar (aI bg (au 4) (aY 0)) (ar (pE (au 4) (pA (aY 1)) qm) (aH 5 (aH 6 ay)))))) ay))))) fX)
 (cQ (aB dJ (aH 0 (aH 1 (ar (bc (aH 2 (ar (cF (.int (-1))) (aH 4 (aH 5 (aH 6 ay)))))) ay))))))))
def qZ:dP:=fA 7 G0
def Av:dm:=
 (aK (sx (aB kq (aH 0 (aH 1 (aH 2 (ar (aI bg (au 3) (aY 1)) ay))))) (jJ (nG 2 (aR (cu 4) (aR (cu 5) eB)))))
 (aK (bt 6 (aY 0))
 (aK (eU (aP (aI (fB false) (aI bg (aI bg (aI bg (aI bg (aI bg (au 0) (aY 0)) (au 4)) (aY 3)) (au 5)) (aY 1)) (cF (.str "turns")))) (bt 6 (aB eL (aH 0 (aH 1 (aH 2 (ar (aI bg (au 3) (aY 2)) ay)))))) fX)
 (aK (bt 7 (aI bg (aI bg (aI bg (aI bg (au 1) (aY 0)) (au 4)) (aY 4)) (au 5)))
 (aK (bt 8 (kh (iV (cG [none,none,some 6] (jw (bx (au 7))) (jJ (nG 2 (aR (cu 0) (aR (cu 1) eB)))) (aP (aI N6 (au 0) (au 2))) (au 0)))))
 (aK (bt 9 (aB gG (aH 1 (aH 4 (aH 5 (ar (aI b_ (aI b_ (pE (au 7) qm (pA (au 8))) (bc (ar (bc (aH 6 (aH 2 ay))) ay))) (pE (au 7) (pA (au 8)) qm)) ay))))))
 (cQ (aB qZ (aH 9 (aH 4 ay))))))))))
def qh:dP:=fA 10 Av
def zQ:dm:=
 (aK (sx (aB kq (aH 0 (aH 1 (aH 2 (ar (aI bg (au 3) (aY 1)) ay))))) (jJ (nG 2 (aR (cu 4) (aR (cu 5) eB)))))
 (aK (bt 6 (aI bg (aI bg (aI bg (aI bg (au 1) (aY 0)) (au 4)) (aY 4)) (au 5)))
 (aK (eU (AU (lM (au 6))) (cQ (au 1)) fX)
 (aK (bt 7 (aB gG (aH 1 (aH 4 (aH 5 (ar (pE (au 6) (pA (aY 1)) qm) ay))))))
 (aK (eU (aP (aI (fB false) (aI bg (aI bg (aI bg (au 0) (aY 0)) (au 4)) (aY 1)) (cF (.str "when free")))) (cQ (au 7)) fX)
 (aK (sx (aI bg (aI bg (au 7) (aY 0)) (au 4)) (jJ (nG 5 (aR (cu 8) (aR (cu 9) (aR (cu 10) (aR (cu 11) (aR (cu 12) eB))))))))
 (cQ (aB dJ (aH 7 (aH 4 (ar (bc (aH 8 (ar (aI bg (aI bg (au 6) (aY 0)) (aY 1)) (aH 10 (ar (aI b_ (au 11) (bc (aH 2 ay))) (aH 12 ay)))))) ay)))))))))))
def pG:dP:=fA 13 zQ
def DH:dm:=
 (aK (sx (aB kq (aH 0 (aH 1 (aH 2 (ar (aI bg (au 3) (aY 1)) ay))))) (jJ (nG 2 (aR (cu 4) (aR (cu 5) eB)))))
 (cQ (aB gG (aH 1 (aH 4 (aH 5 (ar (bc ay) ay)))))))
def t5:dP:=fA 6 DH
def Au:dm:=
 (aK (bt 4 (aB eL (aH 0 (aH 1 (aH 2 (ar (aI bg (au 3) (aY 1)) ay))))))
 (cQ (aB eM (aH 1 (aH 2 (ar (aI b_ (pE (aB di (aH 1 (aH 2 ay))) qm (pA (aY 4))) (bc (aH 4 ay))) ay))))))
def pZ:dP:=fA 5 Au
def vi:dm:=
 (cQ (aI b_ (bc (ar (aI bg (au 0) (aY 0)) (ar (aB eE (ar (aI bg (au 0) (aY 1)) (aH 1 (aH 2 ay)))) ay))) (pE (au 0) (pA (aY 2)) qm)))
def gH:dP:=fA 3 vi
def Hv:dm:=
 (aK (bt 4 (aB dR (ar (aI bg (au 0) (aY 1)) (aH 3 ay))))
 (aK (sx (aI bg (aI bg (au 1) (aY 1)) (au 4)) (jJ (nG 2 (aR (cu 5) (aR (cu 6) eB)))))
 (aK (eU (aP (aI L4 (au 5) (aY 0))) (cQ (aB gH (aH 1 (aH 4 (ar (bc (ar (aI nc (au 5) (aY 1)) (aH 6 ay))) ay))))) fX)
 (cQ (aB gH (aH 1 (aH 4 (ar (bc (aH 5 (ar (aI b_ (au 6) (bc (aH 2 ay))) ay))) ay))))))))
def vg:dP:=fA 7 Hv
def Ay:dm:=
 (cQ (aB vg (aH 0 (aH 1 (aH 2 (ar (aI bg (au 3) (aY 1)) ay))))))
def p9:dP:=fA 4 Ay
def sG:dm:=
 (aK (bt 3 (aB dR (ar (aI bg (au 0) (aY 1)) (aH 2 ay))))
 (aK (sx (aI bg (aI bg (au 1) (aY 1)) (au 3)) (jJ (nG 2 (aR (cu 4) (aR (cu 5) eB)))))
 (aK (eU (lM (au 5)) (cQ (aB gH (aH 1 (aH 3 (ar (bc (aH 4 (ar (pE (au 5) (pA (aY 1)) qm) ay))) ay))))) fX)
 (cQ (aB gH (aH 1 (aH 3 (ar (bc (ar (Bw minD (ar (aI b_ (au 4) (aY 1)) (ar (cF (.int (9))) ay))) (aH 5 ay))) ay))))))))
def ip:dP:=fA 6 sG
def AD:dm:=
 (cQ (aB ip (aH 0 (aH 1 (ar (aI bg (au 3) (aY 1)) ay)))))
def p8:dP:=fA 4 AD
def AX:dm:=
 (cQ (aB vg (aH 0 (ar (aB ip (aH 0 (aH 1 (ar (aI bg (au 3) (aY 1)) ay)))) (aH 2 (ar (aI bg (au 3) (aY 2)) ay))))))
def p5:dP:=fA 4 AX
def Ej:dm:=
 (cQ (au 1))
def tF:dP:=fA 4 Ej
noncomputable def mT:List (Str×Str):= [("put","by_put"),("unless","by_unless"),("go","by_go"),("do","by_do"),("wait","by_wait"),("call","by_call"),("all","by_all"),("tell","by_tell"),("take","by_take"),("give","by_give"),("pass","by_pass"),("say","by_say")]
def vq:List (Str×dP):= [("by_put",t9),("by_unless",lB),("by_go",zI),("by_do",zC),("by_wait",qh),("by_call",pG),("by_all",t5),("by_tell",pZ),("by_take",p9),("by_give",p8),("by_pass",p5),("by_say",tF)]
def x8:dm:=
 (aK (bt 4 (NB mT (aI bg (au 3) (aY 0))))
 (cQ (uK 4 vq (aH 0 (aH 1 (aH 2 (aH 3 ay)))))))
def ku:dP:=fA 5 x8
def xF:dm:=
 (aK (sx (aI bg (aI bg (au 1) (aY 3)) (au 2)) (jJ (nG 2 (aR (cu 3) (aR (cu 4) eB)))))
 (aK (sx (aI bg (au 4) (wI (aY 1))) (jJ (nG 5 (aR (cu 5) (aR (cu 6) (aR (cu 7) (aR (cu 8) (aR (cu 9) eB))))))))
 (aK (bt 10 (aB gI (ar (aB qZ (aH 1 (aH 5 ay))) (aH 2 (aH 3 (ar (pE (au 4) qm (pA (wI (aY 1)))) ay))))))
 (aK (bt 11 (aI bg (aB fF (aH 0 (aH 2 (ar (aI bg (au 4) (wI (aY 2))) ay)))) (aI nc (aI bg (aI bg (au 4) (wI (aY 2))) (aY 2)) (aY 1))))
 (aK (eU (aP (aI (uF false) (aI bg (au 11) (aY 1)) (cF .non))) (cQ (au 10)) fX)
 (cQ (aB gF (aH 0 (aH 10 (aH 2 (ar (aI bg (au 11) (aY 1)) (aH 9 ay))))))))))))
def kB:dP:=fA 12 xF
def pK:dm:=
 (aK (bt 3 (aB di (aH 1 (aH 2 ay))))
 (aK (bt 4 (aI bg (au 3) (aY 0)))
 (aK (eU (jo (aP (aI (fB true) (au 4) (cF (.int (-1))))) (aP (aI (fB true) (aI bg (aI bg (aI bg (au 1) (aY 0)) (au 4)) (aY 1)) (au 2)))) (cQ (bc (ar (aB mD (aH 1 (aH 4 (aH 2 ay)))) (ar (cF .non) ay)))) fX)
 (aK (bt 5 (aB fF (aH 0 (aH 2 (aH 3 ay)))))
 (aK (eU (aP (aI (fB false) (aI bg (au 3) (aY 2)) (kh (bx (au 5))))) (cQ (bc (ar (aB kB (aH 0 (aH 1 (aH 2 ay)))) (ar (cF .non) ay)))) fX)
 (aK (bt 6 (aI bg (au 5) (aI bg (au 3) (aY 2))))
 (aK (bt 7 (cF .non))
 (aK (eU (aP (aI (fB false) (aI bg (au 6) (aY 0)) (cF (.str "say")))) (bt 7 (bc (aH 2 (ar (aB eL (aH 0 (aH 1 (aH 2 (ar (aI bg (au 6) (aY 1)) ay))))) ay)))) fX)
 (cQ (bc (ar (aB ku (aH 0 (ar (aB kU (aH 1 (aH 2 (ar (aI b_ (aI bg (au 3) (aY 2)) (aY 1)) ay)))) (aH 2 (aH 6 ay))))) (aH 7 ay))))))))))))
def mK:dP:=fA 8 pK
def Ap:dm:=
 (aK (eU (aP (zr true (au 2) (iV (eF i9 (aH 0 (aH 1 ay)))))) never fX)
 (cQ (aB mK (aH 0 (aH 1 (aH 2 ay))))))
def pD:dP:=fA 3 Ap
def DR:dm:=
 (aK (bt 2 (aB vR (aH 0 ay)))
 (aK (bt 3 (c8 (cp ay)))
 (aK (jz (Dh (bx (au 1))) (jJ (nG 2 (aR (cu 4) (aR (cu 5) eB)))) (aK (eU (aP (zr true (au 5) (iV (eF i9 (aH 0 (aH 2 ay)))))) never fX)
 (aK (sx (aB mK (aH 0 (aH 2 (aH 5 ay)))) (jJ (nG 2 (aR (cu 2) (aR (cu 6) eB)))))
 (eU (aP (aI (uF true) (au 6) (cF .non))) (nE (qo g6 (au 3) (aH 6 ay))) fX))))
 (cQ (bc (aH 2 (ar (tupQ (gk (bx (au 3)))) ay)))))))
def tH:dP:=fA 7 DR
def M_:dm:=
 (aK (jz (u5 (Bw maxD (fV 1 (ar (Bw minD (ar (kh (bx (au 0))) (fV 5 ay))) ay)))) (cu 1) (aK (bt 2 (c8 (eF m5 (aH 0 (aH 1 ay)))))
 (aK (bt 3 (aB fe (aH 2 ay)))
 (aK (bt 4 (aB bQ (aH 2 (ar (cF (.str "abgmpwz")) ay))))
 (aK (bt 5 (aB jI (aH 4 (aH 3 ay))))
 (aK (bt 6 (aB vR (aH 3 ay)))
 (aK (sx (bc (ar (bc ay) (ar (bc ay) ay))) (jJ (nG 2 (aR (cu 7) (aR (cu 8) eB)))))
 (aK (bt 9 (wI (aY 1)))
 (aK (jz (u5 (aY 30)) (cu 10) (aK (bt 11 (c8 (eF i9 (aH 3 (aH 6 ay)))))
 (eU (aP (eK (bx (au 11)))) (aK (bt 9 (aB lj (aH 2 (aH 11 (aH 9 ay)))))
 (aK (sx (aB pD (aH 3 (aH 6 (aH 9 ay)))) (jJ (nG 2 (aR (cu 6) (aR (cu 12) eB)))))
 (aK (bt 7 (aI b_ (au 7) (bc (aH 9 ay))))
 (bt 8 (aI b_ (au 8) (tupQ (iV (cG [none] (jw (iV (cp (aH 12 ay)))) (cu 0) (aP (aI (uF true) (au 0) (cF .non))) (au 0))))))))) fX)))
 (aK (eU (AU (lM (aB (gE 10) (ar (aB tH (aH 5 (aH 7 ay))) (ar (bc (aH 6 (aH 8 ay))) ay))))) (cQ (cF (.bl false))) fX)
 (jz (u5 (kh (bx (aI bg (au 3) (aY 3))))) (cu 13) (aK (bt 14 (aB qg (aH 3 (aH 6 (aH 13 ay)))))
 (eU (AU (lM (aB (gE 10) (ar (aB qg (aH 5 (aH 6 (aH 13 ay)))) (ar (aI b_ (pE (au 14) qm (pA (aY 1))) (tupQ (iV (cG [none,some 4] (jw (bx (pE (au 14) (pA (aY 1)) qm))) (cu 0) cW (aI b_ (au 1) (au 0)))))) ay))))) (cQ (cF (.bl false))) fX)))))))))))))
 (cQ (cF (.bl true))))
def JI:dP:=fA 15 M_
noncomputable def top(i:Nat):Stmt:=PySem.Challenge.pw_calledroom_k17_called_otherwise.main.body.getD i (.Pass ⟨0,0,0,0⟩)
noncomputable abbrev n_:Stmt:=top 59
noncomputable abbrev mz:Stmt:=top 60
noncomputable abbrev kM:Stmt:=top 62
noncomputable abbrev mj:Stmt:=top 61
noncomputable abbrev nW:Stmt:=top 63
noncomputable abbrev kC:Stmt:=top 64
noncomputable abbrev q_:Stmt:=top 65
noncomputable abbrev lV:Stmt:=top 66
noncomputable abbrev lS:Stmt:=top 67
noncomputable abbrev kD:Stmt:=top 68
noncomputable abbrev oO:Stmt:=top 69
noncomputable abbrev kE:Stmt:=top 70
noncomputable abbrev hZ:Stmt:=top 71
noncomputable abbrev mO:Stmt:=top 74
noncomputable abbrev jT:Stmt:=top 75
noncomputable abbrev iK:Stmt:=top 77
noncomputable abbrev kL:Stmt:=top 76
noncomputable abbrev kX:Stmt:=top 78
noncomputable abbrev mh:Stmt:=top 10
noncomputable abbrev kK:Stmt:=top 12
noncomputable abbrev yu:Stmt:=top 11
noncomputable abbrev oP:Stmt:=top 23
noncomputable abbrev iI:Stmt:=top 53
noncomputable abbrev kO:Stmt:=top 13
noncomputable abbrev kJ:Stmt:=top 14
noncomputable abbrev iL:Stmt:=top 54
noncomputable abbrev oB:Stmt:=top 52
noncomputable abbrev mP:Stmt:=top 73
noncomputable abbrev hU:Stmt:=top 22
noncomputable abbrev vp:Stmt:=top 21
noncomputable abbrev mF:Stmt:=top 72
noncomputable abbrev n0:Stmt:=top 25
noncomputable abbrev oZ:Stmt:=top 27
noncomputable abbrev mi:Stmt:=top 15
noncomputable abbrev me:Stmt:=top 18
noncomputable abbrev mC:Stmt:=top 16
noncomputable abbrev lW:Stmt:=top 29
noncomputable abbrev jt:Stmt:=top 6
noncomputable abbrev oM:Stmt:=top 5
noncomputable abbrev oN:Stmt:=top 28
noncomputable abbrev v7:Stmt:=top 33
noncomputable abbrev gU:Stmt:=top 19
noncomputable abbrev uQ:Stmt:=top 20
noncomputable abbrev lP:Stmt:=top 34
noncomputable abbrev yP:Stmt:=top 35
noncomputable abbrev qP:Stmt:=top 30
noncomputable abbrev y3:Stmt:=top 36
noncomputable abbrev qC:Stmt:=top 37
noncomputable abbrev mN:Stmt:=top 38
noncomputable abbrev zd:Stmt:=top 31
noncomputable abbrev rq:Stmt:=top 39
noncomputable abbrev qQ:Stmt:=top 40
noncomputable abbrev ug:Stmt:=top 41
noncomputable abbrev rj:Stmt:=top 42
noncomputable abbrev lY:Stmt:=top 17
noncomputable abbrev yg:Stmt:=top 44
noncomputable abbrev rp:Stmt:=top 43
noncomputable abbrev lz:Stmt:=top 46
noncomputable abbrev qL:Stmt:=top 45
noncomputable abbrev rg:Stmt:=top 47
noncomputable abbrev uo:Stmt:=top 48
noncomputable abbrev oI:Stmt:=top 50
noncomputable abbrev oF:Stmt:=top 32
noncomputable abbrev rB:Stmt:=top 57
noncomputable abbrev qO:Stmt:=top 55
noncomputable abbrev uI:Stmt:=top 56
noncomputable abbrev qk:Stmt:=top 79
end W28
namespace W28
open PySem PySem.Spec L2 DL PyProof.Rows
noncomputable abbrev M3:List Str:= ["_law_deed_here","_law_room_here"]
noncomputable abbrev Cn:List Str:= ["_law_found","_law_due"]
noncomputable abbrev C7:List Str:= ["_law_pot_here","_law_goals","_law_things","_law_words_here"]
noncomputable abbrev C2:List Str:= ["_law_pot_here","_law_goals","_law_words_here","_law_passes","_law_most"]
noncomputable abbrev DE:List Str:= ["_law_pot_here","_law_many","_law_manners","_law_bells_most"]
noncomputable abbrev DA:List Str:= ["_law_pot_here","_law_many"]
noncomputable abbrev DJ:List Str:= ["_law_pot_here","_law_name","_law_goals","_law_manners","_law_bells_most"]
noncomputable abbrev D9:List Str:= ["_law_pot_here","_law_room_here","_law_goals","_law_most"]
noncomputable abbrev C_:List Str:= ["_law_pot_here","_law_rooms_here","_law_hands","_law_passes_most"]
noncomputable abbrev Am:List Str:= ["_law_pot_here","_law_some","_law_last"]
noncomputable abbrev AY:List Str:= ["_law_pot_here","_law_some"]
noncomputable abbrev DN:List Str:= ["_law_pot_here","_law_stem","_law_many"]
noncomputable abbrev Du:List Str:= ["_law_pot_here","_law_words_here","_law_bells","_law_at"]
noncomputable abbrev xi:List Str:= ["_law_pot_here","_law_words_here","_law_bells","_law_deep"]
noncomputable abbrev C4:List Str:= ["_law_pot_here"]
noncomputable abbrev JZ:List Str:= ["_law_row","_law_stem"]
noncomputable abbrev D2:List Str:= ["_law_script","_law_k"]
noncomputable abbrev Gb:List Str:= ["_law_script"]
noncomputable abbrev nz:List Str:= ["_law_stem","_law_pairs_here"]
noncomputable abbrev Di:List Str:= ["_law_stem","_law_row"]
noncomputable abbrev u_:List Str:= ["_law_stem","_law_told_here"]
noncomputable abbrev Eg:List Str:= ["_law_stem","_law_world_here"]
noncomputable abbrev Gh:List Str:= ["_law_word","_law_pot_here"]
noncomputable abbrev Ac:List Str:= ["form","first","second"]
noncomputable abbrev zP:List Str:= ["line"]
noncomputable abbrev AV:List Str:= ["parts","at","part"]
noncomputable abbrev BD:List Str:= ["roll","name"]
noncomputable abbrev Bj:List Str:= ["roll"]
noncomputable abbrev BC:List Str:= ["room"]
noncomputable abbrev A8:List Str:= ["scene","at","room"]
noncomputable abbrev A0:List Str:= ["scene","at","turnstile"]
noncomputable abbrev Ef:List Str:= ["scene","hand","frame"]
noncomputable abbrev D8:List Str:= ["scene","hand","row"]
noncomputable abbrev Bu:List Str:= ["scene","hand","values","frames"]
noncomputable abbrev Aw:List Str:= ["scene","hand"]
noncomputable abbrev C9:List Str:= ["scene","room","bell","line"]
noncomputable abbrev Ei:List Str:= ["scene","room","hand"]
noncomputable abbrev De:List Str:= ["scene","room"]
noncomputable abbrev DV:List Str:= ["scene"]
noncomputable abbrev Ah:List Str:= ["things"]
noncomputable abbrev xV:List Str:= ["tree","things","waiting"]
noncomputable abbrev Dt:List Str:= ["world","hand","frame"]
noncomputable abbrev Ds:List Str:= ["world","scene","hand","name"]
noncomputable abbrev cg:List Str:= ["world","scene","hand","row"]
noncomputable abbrev yf:List Str:= ["world","scene","hand","tree"]
noncomputable abbrev zG:List Str:= ["world","scene","hand","word","value"]
noncomputable abbrev yM:List Str:= ["world","scene","hand","word"]
noncomputable abbrev dt:List Str:= ["world","scene","hand"]
noncomputable abbrev yj:List Str:= ["world","scene","name"]
noncomputable abbrev ym:List Str:= ["world","scene"]
noncomputable abbrev zJ:List Str:= ["world","weaving"]
noncomputable abbrev zx:List Str:= ["world"]
section
variable(P:Program)(w:World)(K:PySem.W.Frag)(mg:Str->Option Value)(base:Heap)
abbrev BR:Prop:=fL P w K mg base 1 "_law_pot" D2 m5
abbrev dh:Prop:=fL P w K mg base 1 "_law_take" DA aM
abbrev kS:Prop:=fL P w K mg base 2 "_law_words" DN dD
abbrev eS:Prop:=fL P w K mg base 2 "_law_pick" AY bQ
abbrev kN:Prop:=fL P w K mg base 7 "_law_sum" xi (bM 4)
abbrev zu:Prop:=fL P w K mg base 8 "_law_waits" Du jC
abbrev xT:Prop:=fL P w K mg base 8 "_law_do" C7 mH
abbrev A4:Prop:=fL P w K mg base 9 "_law_deed" D9 kZ
abbrev An:Prop:=fL P w K mg base 10 "_law_room" DJ kW
abbrev zg:Prop:=fL P w K mg base 11 "_law_rooms" DE jB
abbrev Cr:Prop:=fL P w K mg base 9 "_law_own" C2 m6
abbrev yV:Prop:=fL P w K mg base 10 "_law_world" C_ jG
abbrev qM:Prop:=fL P w K mg base 12 "_law_any_world" C4 fe
abbrev A3:Prop:=fL P w K mg base 7 "_law_told" u_ (et 6)
abbrev nL:Prop:=fL P w K mg base 8 "_law_turned" Di fU
abbrev sT:Prop:=fL P w K mg base 9 "_law_programs" nz gP
abbrev zi:Prop:=fL P w K mg base 1 "_law_pairs" nz dW
abbrev zH:Prop:=fL P w K mg base 10 "_law_other" Eg jI
abbrev rR:Prop:=fL P w K mg base 1 "values_of" Ah ic
abbrev ya:Prop:=fL P w K mg base 2 "begun_room" BC jD
abbrev D6:Prop:=fL P w K mg base 3 "begun" zx vR
abbrev vo:Prop:=fL P w K mg base 1 "hands_at" zP ko
abbrev sX:Prop:=fL P w K mg base 2 "hands_in_rows" DV fE
abbrev ef:Prop:=fL P w K mg base 1 "last_frame" Aw di
abbrev i3:Prop:=fL P w K mg base 1 "program_of" Dt fF
abbrev sR:Prop:=fL P w K mg base 2 "is_behind_all" dt gQ
abbrev oQ:Prop:=fL P w K mg base 3 "may_step" ym i9
abbrev AB:Prop:=fL P w K mg base 11 "_law_same" Cn (gE 10)
abbrev qE:Prop:=fL P w K mg base 2 "place_in_a_row" dt gn
abbrev Hr:Prop:=fL P w K mg base 3 "stands" dt qg
abbrev BH:Prop:=fL P w K mg base 3 "_law_next" Am lj
abbrev oX:Prop:=fL P w K mg base 1 "names_of" Bj fg
abbrev jl:Prop:=fL P w K mg base 2 "place_of" BD dR
abbrev iB:Prop:=fL P w K mg base 1 "with_part" AV eE
abbrev jE:Prop:=fL P w K mg base 2 "with_hand" Bu gI
abbrev iC:Prop:=fL P w K mg base 2 "with_room" A8 dJ
abbrev sH:Prop:=fL P w K mg base 3 "put_thing" zG gF
abbrev vX:Prop:=fL P w K mg base 1 "value_of_two" Ac ig
abbrev BP:Prop:=fL P w K mg base 8 "value_of" xV (h_ 6)
abbrev ia:Prop:=fL P w K mg base 9 "reckoned" yf eL
abbrev jA:Prop:=fL P w K mg base 3 "with_last_frame" Ef eM
abbrev u9:Prop:=fL P w K mg base 4 "at_row" D8 kU
abbrev wV:Prop:=fL P w K mg base 3 "come_in" Ei mD
abbrev rE:Prop:=fL P w K mg base 3 "bell_of" yM kq
abbrev mL:Prop:=fL P w K mg base 3 "with_line" C9 gG
abbrev DZ:Prop:=fL P w K mg base 3 "leave" De qZ
abbrev rJ:Prop:=fL P w K mg base 2 "with_pass" A0 gH
abbrev Dx:Prop:=fL P w K mg base 3 "taken" Ds vg
abbrev pI:Prop:=fL P w K mg base 3 "given_back" yj ip
abbrev Cu:Prop:=fL P w K mg base 11 "row_done" cg ku
abbrev B8:Prop:=fL P w K mg base 4 "end_deed" dt kB
abbrev wQ:Prop:=fL P w K mg base 12 "step_of" dt mK
abbrev ES:Prop:=fL P w K mg base 13 "stepped" dt pD
abbrev F9:Prop:=fL P w K mg base 13 "walked" zJ tH
end
section
variable{P:Program}{w:World}{K:PySem.W.Frag}{mg:Str->Option Value}{base:Heap}{f:Addr}{fd:FuncData}
def sr:aN ["_law_script","_law_k","_law_cell","_law_digits"] D2 (aF n_):=fZ
def zY(F:fq K "_law_pot" "_law_pot" n_ f fd)(B:Bl mg):bO P w K mg base eN 1 f fd D2 (fm ⟨K,mg⟩ 2 m5):=by
 have a:=sr.nd
 refine bF F sr λc A b s H E d=> ?_
 exact(az (bI 2 a ax)
  (az (cB (bN rP rZ (v_ 1) (iD rfl B.len (dM (v_ 0))) (aV _)) (aG (bI 2 a (wz KO (fc Hl rfl B.abs (by rfl) (aq (aJ (v_ 0) (v_ 1)) av))))) bP)
  (az (bI 3 a (vE (uV (v_ 2) (vE (F6 ax ax) (F6 ax ax))) (wz pW (j_ mZ rfl B.int (by rfl) (aq (nQ Nd MQ (v_ 2) (F6 ax ax) (aV _)) av)))))
  (aG (oE (df (aq (v_ 3) (aq (uV (bS (bS (v_ 2) (vE ax (v_ 1))) ax) ax) (aq ax av)))))))))
def pq:aN ["_law_pot_here","_law_many","_law_digit","_law_mixed"] DA (aF mz):=fZ
def zE(F:fq K "_law_take" "_law_take" mz f fd)(B:Bl mg):bO P w K mg base eN 1 f fd DA (fm ⟨K,mg⟩ 2 aM):=by
 have b:=pq.nd
 refine bF F pq λc A a s H E d=> ?_
 exact(az (cB (bN C1 DU (aJ (v_ 0) ax) ax (aV _)) (az (bI 2 b (uV (aJ (v_ 0) ax) (v_ 1)))
  (az (fY (Gu (aJ (v_ 0) ax) (v_ 1)) (JX (v_ 0) ax))
  (aG (aQ (v_ 2))))) bP)
  (az (Kx (v_ 0) ax ax)
  (az (bI 3 b (uV (bS (bS (vE (aJ (v_ 0) ax) ax) (vE ax (aJ (v_ 0) ax))) ax) ax))
  (az (fY (uV (vE (v_ 3) (bS (bS (uV (v_ 3) ax) (vE ax (aJ (v_ 0) ax))) ax)) ax) (JX (v_ 0) ax))
  (aG (aQ (uV (Gu (aJ (v_ 0) ax) ax) (v_ 1))))))))
def nT:aN ["_law_pot_here","_law_stem","_law_many","_law_left"] DN (aF kM):=fZ
def wJ(F:fq K "_law_words" "_law_words" kM f fd)(B:Bl mg)(d:dh P w K mg base):bO P w K mg base eN 2 f fd DN (fm ⟨K,mg⟩ 3 dD):=by
 have b:=nT.nd
 refine bF F nT λe A a s H E c=> ?_
 exact(az (bI 3 b (cN (de (N:= ["_law_one","_law_stem"]) (js:= [none,some 1]) (aZ.gen rfl rfl rfl rfl rfl rfl) rfl (dv (j9 (df (aq bp (aq bp (aq bp (aq bp (aq bp (aq bp av))))))))) (λ_ _ _ _=>(e_ 0)) (λ_ _ _ _=>eR) (λ_ _ _ _=>(bS (v_ 1) (v_ 0))))))
  (aG (oE (Gf rfl B.sorted (j9 (de (N:= ["_law_k","_law_pot_here","_law_left"]) (js:= [none,some 0,some 3]) (aZ.gen rfl rfl rfl rfl rfl rfl) rfl (mr rfl B.range (v_ 2)) (λ_ _ _ _=>(e_ 0)) (λ_ _ _ _=>eR) (λ_ _ _ _=>(D7 (v_ 2) (aO d c (aq (v_ 1) (aq (iD rfl B.len (dM (v_ 2))) av)))))))))))
def zp:aN AY AY (aF mj):=fZ
def yG(F:fq K "_law_pick" "_law_pick" mj f fd)(B:Bl mg)(c:dh P w K mg base):bO P w K mg base eN 2 f fd AY (fm ⟨K,mg⟩ 2 bQ):=by
 refine bF F zp λd A a s H E b=> ?_
 exact(aG (aQ (aJ (v_ 1) (aO c b (aq (v_ 0) (aq (KC rfl B.len (v_ 1)) av))))))
def rV:aN ["_law_pot_here","_law_words_here","_law_bells","_law_deep","_law_way","_law_word"] xi (aF nW):=fZ
theorem rQ(F:fq K "_law_sum" "_law_sum" nW f fd)(B:Bl mg)(c:dh P w K mg base)(d:eS P w K mg base)(b:Binds K fd xi [])(i:PySem.W.keepIn K (.ref f)=true)(m:mg "_law_sum"=some (.ref f)):∀n,bO P w K mg base eN (3+n) f fd xi (fm ⟨K,mg⟩ 4 (bM n))
 |0=>tZ
 | n+1=>by
   have g:fL P w K mg base (3+n) "_law_sum" xi (bM n):=⟨f,fd,rQ F B c d b i m n,b,i,m⟩
   have h:=rV.nd
   refine bF (k:=3+n) F rV λl A e s H E a=> ?_
   have j:=a.units0
   exact(az (bI 4 h (aO c a (aq (v_ 0) (aq ax av))))
   (az (cB (PW.pt (w_or (bN rP rZ (v_ 3) ax (aV _)) (Dl (bN rP rZ (v_ 4) ax (aV _))))) (az (cB (PW.pt (w_and (gq j (dM (v_ 1))) (gR (bN C1 DU (aO c a (aq (v_ 0) (aq ax av))) ax (aV _))))) (aG (aQ (aO d a (aq (v_ 0) (aq (v_ 1) av))))) bP)
   (aG (aQ (aO c a (aq (v_ 0) (aq (aJ (cN (df (aq ax (aq ax av)))) (wz pW (j_ mZ rfl B.int (by rfl) (aq (nQ cP cO (aO c a (aq (v_ 0) (aq ax av))) ax (aV _)) av)))) av)))))) bP)
   (az (cB (PW.pt (w_and (bN cP cO (v_ 4) ax (aV _)) (gR (gq j (dM (v_ 2)))))) (aG (aQ (aS (aq bp (aq (aO d a (aq (v_ 0) (aq (v_ 2) av))) av))))) bP)
   (az (cB (bN cP cO (v_ 4) ax (aV _)) (aG (aQ (aS (aq bp (aq (aO g a (aq (v_ 0) (aq (v_ 1) (aq (v_ 2) (aq (vZ (v_ 3) ax) av))))) av))))) bP)
   (az (bI 5 h (aJ (cN (df (aq bp (aq bp (aq bp (aq bp (aq bp av))))))) (aO c a (aq (v_ 0) (aq ax av)))))
   (aG (aQ (aS (aq (v_ 5) (aq (aO g a (aq (v_ 0) (aq (v_ 1) (aq (v_ 2) (aq (vZ (v_ 3) ax) av))))) (aq (aO g a (aq (v_ 0) (aq (v_ 1) (aq (v_ 2) (aq (vZ (v_ 3) ax) av))))) av)))))))))))
def nq:aN ["_law_pot_here","_law_words_here","_law_bells","_law_at","_law_turn","_law_row","_law_way","_law_test"] Du (aF kC):=fZ
def wA(F:fq K "_law_waits" "_law_waits" kC f fd)(B:Bl mg)(e:kN P w K mg base)(d:dh P w K mg base)(g:eS P w K mg base):bO P w K mg base eN 8 f fd Du (fm ⟨K,mg⟩ 4 jC):=by
 have b:=nq.nd
 refine bF F nq λh A c s H E a=> ?_
 exact(az (bI 4 b (aJ (cN (df (aq ax (aq bp (aq (aO e a (aq (v_ 0) (aq (v_ 1) (aq (v_ 2) (aq ax av))))) av))))) (aO d a (aq (v_ 0) (aq ax av)))))
  (az (bI 5 b (aS (aq bp (aq (aO g a (aq (v_ 0) (aq (v_ 2) av))) (aq (v_ 4) av)))))
  (az (bI 6 b (aO d a (aq (v_ 0) (aq ax av))))
  (az (cB (bN cP cO (v_ 6) ax (aV _)) (aG (oE (df (aq (v_ 5) av)))) bP)
  (az (bI 7 b (aS (aq bp (aq (aO e a (aq (v_ 0) (aq (v_ 1) (aq (v_ 2) (aq ax av))))) av))))
  (aG (oE (df (aq (aS (aq bp (aq (v_ 7) (aq (bS (v_ 3) ax) av)))) (aq (v_ 5) (aq (aS (aq bp (aq (aJ (cN (df (aq (v_ 3) (aq (bS (v_ 3) ax) av)))) (vZ (v_ 6) ax)) av))) av)))))))))))
def vV:aN ["_law_pot_here","_law_goals","_law_things","_law_words_here","_law_room_here","_law_deed_here","_law_goal"] C7 (aF q_):=fZ
def BM(F:fq K "_law_do" "_law_do" q_ f fd)(B:Bl mg)(d:eS P w K mg base)(e:kN P w K mg base):bO P w K mg base eN 8 f fd C7 (fm ⟨K,mg⟩ 4 mH):=by
 have a:=vV.nd
 refine bF F vV λg A c s H E b=> ?_
 exact(az (fY (aO d b (aq (v_ 0) (aq (v_ 1) av))) (cV rfl (aD (bK 4 a) (aD (bK 5 a) bT))))
  (az (bI 6 a (aO d b (aq (v_ 0) (aq (cN (Dz (j9 (df (aq mM av))) (dM (v_ 2)))) av))))
  (aG (aQ (aS (aq bp (aq (v_ 6) (aq (v_ 4) (aq (v_ 5) (aq (aO e b (aq (v_ 0) (aq (v_ 3) (aq (cN (df av)) (aq ax av))))) av))))))))))
def pk:aN ["_law_pot_here","_law_room_here","_law_goals","_law_most","_law_manner","_law_things","_law_bells","_law_words_here","_law_rows","_law_k","_law_way","_law_word"] D9 (aF lV):=fZ
def zz(F:fq K "_law_deed" "_law_deed" lV f fd)(B:Bl mg)(d:dh P w K mg base)(i:zu P w K mg base)(h:eS P w K mg base)(j:xT P w K mg base)(g:kN P w K mg base):bO P w K mg base eN 9 f fd D9 (fm ⟨K,mg⟩ 4 kZ):=by
 have b:=pk.nd
 refine bF F pk λk A e s H E a=> ?_
 have c:=a.units0
 exact(az (fY (v_ 1) (cV rfl (aD (bK 4 b) (aD (bK 5 b) (aD (bK 6 b) bT)))))
  (az (bI 7 b (cN (Dz (dM (v_ 5)) (j9 (df (aq bp av))))))
  (az (bI 8 b (cN (df av)))
  (az (hG PassesOwn.never rfl (mr rfl B.range (bS ax (aO d a (aq (v_ 0) (aq (v_ 3) av))))) (bK 9 b) (az (bI 10 b (aO d a (aq (v_ 0) (aq ax av))))
  (aG (cB (PW.pt (w_and (bN rP rZ (v_ 10) ax (aV _)) (gR (gq c (dM (v_ 6)))))) (aG (c_ (pS (v_ 8) (j9 (jS i a (aq (v_ 0) (aq (v_ 7) (aq (v_ 6) (aq (iD rfl B.len (dM (v_ 8))) av))))))))) (aG (cB (PW.pt (w_and (bN rP rZ (v_ 10) ax (aV _)) (gR (gq c (dM (v_ 6)))))) (az (bI 11 b (aJ (cN (df (aq bp (aq bp av)))) (wz pW (j_ mZ rfl B.int (by rfl) (aq (zT (nQ cP cO (v_ 4) bp (aV _)) (Dr (nQ cP cO (v_ 10) ax (aV _)))) av)))))
  (aG (c_ (cR (v_ 8) (aS (aq (v_ 11) (aq (aO h a (aq (v_ 0) (aq (v_ 6) av))) av))))))) (aG (cB (PW.pt (w_and (bN cP cO (v_ 10) ax (aV _)) (gR (gq c (dM (v_ 2)))))) (aG (c_ (cR (v_ 8) (aO j a (aq (v_ 0) (aq (v_ 2) (aq (v_ 5) (aq (v_ 7) av)))))))) (aG (cB (bN cP cO (v_ 10) ax (aV _)) (az (c_ (cR (v_ 8) (aS (aq bp (aq (aO g a (aq (v_ 0) (aq (v_ 7) (aq (v_ 6) (aq ax av))))) (aq (bS (iD rfl B.len (dM (v_ 8))) ax) av))))))
  (aG (c_ (cR (v_ 8) (aS (aq bp (aq (aO d a (aq (v_ 0) (aq ax av))) av))))))) (aG (cB (PW.pt (w_and (bN rP rZ (v_ 10) ax (aV _)) (gR (gq c (dM (v_ 5)))))) (aG (c_ (cR (v_ 8) (aS (aq bp (aq (aO h a (aq (v_ 0) (aq (v_ 5) av))) (aq (aO g a (aq (v_ 0) (aq (v_ 7) (aq (v_ 6) (aq ax av))))) av))))))) (aG (c_ (cR (v_ 8) (aS (aq bp (aq (aO g a (aq (v_ 0) (aq (v_ 7) (aq (v_ 6) (aq ax av))))) av))))))))))))))))))
  (aG (aQ (cC rfl B.tuple (uq (dM (v_ 8))) (ht:=fG))))))))
def pT:aN ["_law_pot_here","_law_name","_law_goals","_law_manners","_law_bells_most","_law_manner","_law_things","_law_bells","_law_deeds","_law_word","_law_here","_law_some","_law_sorts"] DJ (aF lS):=fZ
def zw(F:fq K "_law_room" "_law_room" lS f fd)(B:Bl mg)(g:eS P w K mg base)(d:kS P w K mg base)(c:dh P w K mg base)(h:A4 P w K mg base):bO P w K mg base eN 10 f fd DJ (fm ⟨K,mg⟩ 5 kW):=by
 have b:=pT.nd
 refine bF F pT λi A e s H E a=> ?_
 exact(az (bI 5 b (aO g a (aq (v_ 0) (aq (v_ 3) av))))
  (az (bI 6 b (cN (jS d a (aq (v_ 0) (aq bp (aq (aJ (cN (df (aq ax (aq ax (aq ax (aq ax av)))))) (aO c a (aq (v_ 0) (aq ax av)))) av))))))
  (az (bI 7 b (cN (jS d a (aq (v_ 0) (aq bp (aq (aO c a (aq (v_ 0) (aq (bS (v_ 4) ax) av))) av))))))
  (az (bI 8 b (cN (df av)))
  (az (hG PassesOwn.never rfl (dv (j9 (jS d a (aq (v_ 0) (aq bp (aq (bS ax (aO c a (aq (v_ 0) (aq ax av)))) av)))))) (bK 9 b) (az (Ku (n:=10) (N:= ["_law_deed_here","_law_name"]) (js:= [none,some 1]) (aZ.gen rfl rfl rfl rfl rfl rfl) rfl (dv (dM (v_ 8))) (λ_ _ _ _=>(e_ 0)) (λ_ _ _ _=>eR) (λ_ _ _ _=>(aS (aq (v_ 1) (aq (aJ (v_ 0) ax) av)))) (Ma 10 b))
  (az (bI 11 b (cN (Dz (dM (v_ 2)) (j9 (M8 (dM (v_ 10)) (wz pW (j_ mZ rfl B.int (by rfl) (aq (nQ cP cO (aO c a (aq (v_ 0) (aq ax av))) ax (aV _)) av))))))))
  (aG (c_ (cR (v_ 8) (aS (aq (v_ 9) (aq (aO h a (aq (v_ 0) (aq (aS (aq (v_ 5) (aq (v_ 6) (aq (v_ 7) av)))) (aq (v_ 11) (aq ax av))))) av)))))))))
  (az (bI 12 b (cC rfl B.tuple (j9 (de (N:= ["_law_bell","_law_pot_here"]) (js:= [none,some 0]) (aZ.gen rfl rfl rfl rfl rfl rfl) rfl (dv (dM (v_ 7))) (λ_ _ _ _=>(e_ 0)) (λ_ _ _ _=>eR) (λ_ _ _ _=>(aS (aq (v_ 0) (aq (aJ (cN (df (aq bp (aq bp av)))) (aO c a (aq (v_ 1) (aq ax av)))) av)))))) (ht:=dA)))
  (aG (aQ (aS (aq (v_ 1) (aq (v_ 5) (aq (cC rfl B.tuple (j9 (de (N:= ["_law_thing","_law_pot_here"]) (js:= [none,some 0]) (aZ.gen rfl rfl rfl rfl rfl rfl) rfl (dv (dM (v_ 6))) (λ_ _ _ _=>(e_ 0)) (λ_ _ _ _=>eR) (λ_ _ _ _=>(aS (aq (v_ 0) (aq (aO c a (aq (v_ 1) (aq ax av))) av)))))) (ht:=dA)) (aq (v_ 12) (aq (cC rfl B.tuple (uq (dM (v_ 8))) (ht:=fG)) av))))))))))))))
end
section
variable{P:Program}{w:World}{K:PySem.W.Frag}{mg:Str->Option Value}{base:Heap}{f:Addr}{fd:FuncData}
def nB:aN ["_law_pot_here","_law_many","_law_manners","_law_bells_most","_law_names","_law_rooms_here","_law_goals","_law_room_here","_law_name"] DE (aF kD):=fZ
def wD(F:fq K "_law_rooms" "_law_rooms" kD f fd)(B:Bl mg)(e:kS P w K mg base)(d:dh P w K mg base)(i:An P w K mg base):bO P w K mg base eN 11 f fd DE (fm ⟨K,mg⟩ 4 jB):=by
 have a:=nB.nd
 refine bF F nB λh A c s H E b=> ?_
 have g:=b.units0
 exact(az (bI 4 a (cN (jS e b (aq (v_ 0) (aq bp (aq (v_ 1) av))))))
  (az (bI 5 a (cN (df av)))
  (az (JK 4 PassesOwn.never (gq g (dM (v_ 4))) (az (bI 6 a (cN (df av)))
  (az (hG PassesOwn.never rfl (dv (dM (v_ 5))) (bK 7 a) (aG (c_ (pS (v_ 6) (j9 (de (N:=M3) (js:= [none,some 7]) (aZ.gen rfl rfl rfl rfl rfl rfl) rfl (dv (dM (aJ (v_ 7) ax))) (λ_ _ _ _=>(e_ 0)) (λ_ _ _ _=>eR) (λ_ _ _ _=>(aS (aq (aJ (v_ 1) ax) (aq (aJ (v_ 0) ax) av))))))))))
  (az (bI 8 a (D7 (v_ 4) (aO d b (aq (v_ 0) (aq (iD rfl B.len (dM (v_ 4))) av)))))
  (aG (c_ (cR (v_ 5) (aO i b (aq (v_ 0) (aq (v_ 8) (aq (v_ 6) (aq (v_ 2) (aq (v_ 3) av)))))))))))))
  (aG (aQ (cC rfl B.tuple (j9 (E7 rfl B.sorted (dM (v_ 5)))) (ht:=dA)))))))
def r_:aN ["_law_pot_here","_law_goals","_law_words_here","_law_passes","_law_most","_law_rows","_law_k","_law_way"] C2 (aF oO):=fZ
def zU(F:fq K "_law_own" "_law_own" oO f fd)(B:Bl mg)(b:dh P w K mg base)(i:xT P w K mg base)(c:eS P w K mg base)(e:kN P w K mg base):bO P w K mg base eN 9 f fd C2 (fm ⟨K,mg⟩ 5 m6):=by
 have g:=r_.nd
 refine bF F r_ λj A h s H E a=> ?_
 have d:=a.units0
 exact(az (bI 5 g (cN (df av)))
  (az (hG PassesOwn.never rfl (mr rfl B.range (bS ax (aO b a (aq (v_ 0) (aq (v_ 4) av))))) (bK 6 g) (az (bI 7 g (aO b a (aq (v_ 0) (aq ax av))))
  (aG (cB (PW.pt (w_and (bN rP rZ (v_ 7) ax (aV _)) (gR (gq d (dM (v_ 1)))))) (aG (c_ (cR (v_ 5) (aO i a (aq (v_ 0) (aq (v_ 1) (aq (v_ 2) (aq (v_ 2) av)))))))) (aG (cB (PW.pt (w_and (bN cP cO (v_ 7) ax (aV _)) (gR (gq d (dM (v_ 3)))))) (aG (c_ (cR (v_ 5) (aS (aq (aJ (cN (df (aq bp (aq bp av)))) (aO b a (aq (v_ 0) (aq ax av)))) (aq (aO c a (aq (v_ 0) (aq (v_ 3) av))) av)))))) (aG (cB (PW.pt (w_and (bN cP cO (v_ 7) ax (aV _)) (gR (gq d (dM (v_ 3)))))) (aG (c_ (cR (v_ 5) (aS (aq bp (aq (aO c a (aq (v_ 0) (aq (v_ 3) av))) (aq (aO c a (aq (v_ 0) (aq (v_ 3) av))) av))))))) (aG (cB (PW.pt (w_and (bN cP cO (v_ 7) ax (aV _)) (gR (gq d (dM (v_ 2)))))) (aG (c_ (cR (v_ 5) (aS (aq bp (aq (aO c a (aq (v_ 0) (aq (v_ 2) av))) (aq (aO e a (aq (v_ 0) (aq (v_ 2) (aq (cN (df av)) (aq ax av))))) av))))))) (aG (cB (bN cP cO (v_ 7) ax (aV _)) (az (c_ (cR (v_ 5) (aS (aq bp (aq (aO e a (aq (v_ 0) (aq (v_ 2) (aq (cN (df av)) (aq ax av))))) (aq (bS (iD rfl B.len (dM (v_ 5))) ax) av))))))
  (aG (c_ (cR (v_ 5) (aS (aq bp (aq (aO e a (aq (v_ 0) (aq (v_ 2) (aq (cN (df av)) (aq ax av))))) av))))))) (aG (c_ (cR (v_ 5) (aS (aq bp (aq (aO e a (aq (v_ 0) (aq (v_ 2) (aq (cN (df av)) (aq ax av))))) av))))))))))))))))))
  (az (cB (bN cP cO (aO b a (aq (v_ 0) (aq ax av))) ax (aV _)) (aG (c_ (cR (v_ 5) (aS (aq bp (aq (aO b a (aq (v_ 0) (aq (bS (iD rfl B.len (dM (v_ 5))) ax) av))) av)))))) bP)
  (aG (aQ (cC rfl B.tuple (uq (dM (v_ 5))) (ht:=fG)))))))
def nJ:aN ["_law_pot_here","_law_rooms_here","_law_hands","_law_passes_most","_law_goals","_law_room_here","_law_passes","_law_shared","_law_made","_law_k","_law_own_here","_law_program","_law_counted"] C_ (aF kE):=fZ
def wO(F:fq K "_law_world" "_law_world" kE f fd)(B:Bl mg)(d:kS P w K mg base)(c:dh P w K mg base)(g:Cr P w K mg base):bO P w K mg base eN 10 f fd C_ (fm ⟨K,mg⟩ 4 jG):=by
 have b:=nJ.nd
 refine bF F nJ λh A e s H E a=> ?_
 exact(az (bI 4 b (cN (df av)))
  (az (hG PassesOwn.never rfl (dv (dM (v_ 1))) (bK 5 b) (aG (c_ (pS (v_ 4) (j9 (de (N:=M3) (js:= [none,some 5]) (aZ.gen rfl rfl rfl rfl rfl rfl) rfl (dv (dM (aJ (v_ 5) ax))) (λ_ _ _ _=>(e_ 0)) (λ_ _ _ _=>eR) (λ_ _ _ _=>(aS (aq (aJ (v_ 1) ax) (aq (aJ (v_ 0) ax) av))))))))))
  (az (bI 6 b (cN (jS d a (aq (v_ 0) (aq bp (aq (aO c a (aq (v_ 0) (aq (bS (v_ 3) ax) av))) av))))))
  (az (bI 7 b (cN (jS d a (aq (v_ 0) (aq bp (aq (aJ (cN (df (aq ax (aq ax (aq ax (aq ax av)))))) (aO c a (aq (v_ 0) (aq ax av)))) av))))))
  (az (bI 8 b (cN (df av)))
  (az (hG PassesOwn.never rfl (mr rfl B.range (v_ 2)) (bK 9 b) (az (bI 10 b (cN (jS d a (aq (v_ 0) (aq bp (aq (aJ (cN (df (aq ax (aq ax (aq ax (aq ax av)))))) (aO c a (aq (v_ 0) (aq ax av)))) av))))))
  (az (bI 11 b (aO g a (aq (v_ 0) (aq (v_ 4) (aq (cN (Dz (dM (v_ 10)) (dM (v_ 7)))) (aq (v_ 6) (aq ax av)))))))
  (aG (c_ (cR (v_ 8) (aS (aq (cC rfl B.tuple (j9 (de (N:=Gh) (js:= [none,some 0]) (aZ.gen rfl rfl rfl rfl rfl rfl) rfl (dv (dM (v_ 10))) (λ_ _ _ _=>(e_ 0)) (λ_ _ _ _=>eR) (λ_ _ _ _=>(aS (aq (v_ 0) (aq (aO c a (aq (v_ 1) (aq ax av))) av)))))) (ht:=dA)) (aq (v_ 11) av)))))))))
  (az (bI 12 b (cC rfl B.tuple (j9 (de (N:=Gh) (js:= [none,some 0]) (aZ.gen rfl rfl rfl rfl rfl rfl) rfl (dv (dM (v_ 6))) (λ_ _ _ _=>(e_ 0)) (λ_ _ _ _=>eR) (λ_ _ _ _=>(aS (aq (v_ 0) (aq (aO c a (aq (v_ 1) (aq ax av))) av)))))) (ht:=dA)))
  (aG (aQ (aS (aq (v_ 1) (aq (v_ 12) (aq (cC rfl B.tuple (j9 (de (N:=Gh) (js:= [none,some 0]) (aZ.gen rfl rfl rfl rfl rfl rfl) rfl (dv (dM (v_ 7))) (λ_ _ _ _=>(e_ 0)) (λ_ _ _ _=>eR) (λ_ _ _ _=>(aS (aq (v_ 0) (aq (aO c a (aq (v_ 1) (aq ax av))) av)))))) (ht:=dA)) (aq (cC rfl B.tuple (uq (dM (v_ 8))) (ht:=fG)) av))))))))))))))
def jH:aN ["_law_pot_here","_law_rooms_here"] C4 (aF hZ):=fZ
def pQ(F:fq K "_law_any_world" "_law_any_world" hZ f fd)(B:Bl mg)(e:zg P w K mg base)(c:dh P w K mg base)(g:yV P w K mg base):bO P w K mg base eN 12 f fd C4 (fm ⟨K,mg⟩ 1 fe):=by
 have d:=jH.nd
 refine bF F jH λh A b s H E a=> ?_
 exact(az (bI 1 d (aO e a (aq (v_ 0) (aq (aJ (cN (df (aq ax (aq ax (aq ax (aq ax (aq ax (aq ax av)))))))) (aO c a (aq (v_ 0) (aq ax av)))) (aq (cN (df (aq bp (aq bp av)))) (aq ax av))))))
  (aG (aQ (aO g a (aq (v_ 0) (aq (v_ 1) (aq (bS ax (aO c a (aq (v_ 0) (aq ax av)))) (aq ax av))))))))
def zy:aN u_ u_ (aF mO):=fZ
theorem pM(F:fq K "_law_told" "_law_told" mO f fd)(B:Bl mg)(b:Binds K fd u_ [])(d:PySem.W.keepIn K (.ref f)=true)(m:mg "_law_told"=some (.ref f)):∀n,bO P w K mg base eN (1+n) f fd u_ (fm ⟨K,mg⟩ 2 (et n))
 |0=>tZ
 | n+1=>by
   have e:fL P w K mg base (1+n) "_law_told" u_ (et n):=⟨f,fd,pM F B b d m n,b,d,m⟩
   refine bF (k:=1+n) F zy λg A c s H E a=> ?_
   exact(az (cB (PW.pt (w_or (jO (mQ (T:="int") ⟨rfl,rfl,rfl,rfl,rfl,rfl,rfl⟩ rfl B.isi (v_ 1) (gX (v:=.ty "int") rfl B.int PyProof.Rows.boot_int rfl))) (Dl (J9 a (v_ 1) bp)))) (aG (aQ (v_ 1))) bP)
   (az (cB (jO (mQ (T:="str") ⟨rfl,rfl,rfl,rfl,rfl,rfl,rfl⟩ rfl B.isi (v_ 1) (gX (v:=.ty "str") rfl B.str PyProof.Rows.boot_str rfl))) (aG (aQ (bS (v_ 0) (v_ 1)))) bP)
   (az (cB (J9 a (aJ (v_ 1) ax) bp) (aG (aQ (aS (aq bp (aq (bS (v_ 0) (aJ (v_ 1) ax)) av))))) bP)
   (aG (aQ (bS (cX (v_ 1) dH (dG ax)) (cC rfl B.tuple (j9 (de (N:= ["_law_part","_law_stem"]) (js:= [none,some 0]) (aZ.gen rfl rfl rfl rfl rfl rfl) rfl (dv (dM (cX (v_ 1) (dG ax) dH))) (λ_ _ _ _=>(e_ 0)) (λ_ _ _ _=>eR) (λ_ _ _ _=>(aO e a (aq (v_ 1) (aq (v_ 0) av)))))) (ht:=dA))))))))
def mq:aN ["_law_stem","_law_row","_law_word","_law_goal"] Di (aF jT):=fZ
def vb(F:fq K "_law_turned" "_law_turned" jT f fd)(B:Bl mg)(b:A3 P w K mg base):bO P w K mg base eN 8 f fd Di (fm ⟨K,mg⟩ 2 fU):=by
 have c:=mq.nd
 refine bF F mq λe A d s H E a=> ?_
 exact(az (bI 2 c (aJ (v_ 1) ax))
  (az (cB (bN cP cO (v_ 2) bp (aV _)) (aG (aQ (aS (aq (v_ 2) (aq (aO b a (aq (v_ 0) (aq (aJ (v_ 1) ax) av))) (aq (aJ (v_ 1) ax) av)))))) bP)
  (az (cB (bN cP cO (v_ 2) bp (aV _)) (aG (aQ (v_ 1))) bP)
  (az (cB (Bq (v_ 2) (dM (aS (aq bp (aq bp av))))) (aG (aQ (aS (aq (v_ 2) (aq (aO b a (aq (v_ 0) (aq (aJ (v_ 1) ax) av))) av))))) bP)
  (az (cB (bN cP cO (v_ 2) bp (aV _)) (az (bI 3 c (aJ (v_ 1) ax))
  (az (cB (bN tM tT (v_ 3) mM (aV _)) (aG (bI 3 c (bS (v_ 0) (v_ 3)))) bP)
  (aG (aQ (aS (aq (v_ 2) (aq (v_ 3) (aq (bS (v_ 0) (aJ (v_ 1) ax)) (aq (bS (v_ 0) (aJ (v_ 1) ax)) (aq (aO b a (aq (v_ 0) (aq (aJ (v_ 1) ax) av))) av)))))))))) bP)
  (az (cB (Bq (v_ 2) (dM (aS (aq bp (aq bp av))))) (aG (aQ (aS (aq (v_ 2) (aq (bS (v_ 0) (aJ (v_ 1) ax)) (aq (aO b a (aq (v_ 0) (aq (aJ (v_ 1) ax) av))) av)))))) bP)
  (aG (aQ (bS (aS (aq (v_ 2) av)) (cC rfl B.tuple (j9 (de (N:= ["_law_name","_law_stem"]) (js:= [none,some 0]) (aZ.gen rfl rfl rfl rfl rfl rfl) rfl (dv (dM (cX (v_ 1) (dG ax) dH))) (λ_ _ _ _=>(e_ 0)) (λ_ _ _ _=>eR) (λ_ _ _ _=>(bS (v_ 1) (v_ 0))))) (ht:=dA)))))))))))
def q0:aN nz nz (aF iK):=fZ
def rA(F:fq K "_law_programs" "_law_programs" iK f fd)(B:Bl mg)(c:nL P w K mg base):bO P w K mg base eN 9 f fd nz (fm ⟨K,mg⟩ 2 gP):=by
 refine bF F q0 λd A a s H E b=> ?_
 exact(aG (aQ (cC rfl B.tuple (j9 (de (N:= ["_law_word","_law_program","_law_stem"]) (js:= [none,none,some 0]) (aZ.gen rfl rfl rfl rfl rfl rfl) rfl (dv (dM (v_ 1))) (λ_ _ _ _=>(cV rfl (aD (e_ 0) (aD (e_ 1) bT)))) (λ_ _ _ _=>eR) (λ_ _ _ _=>(aS (aq (v_ 0) (aq (cC rfl B.tuple (j9 (de (N:=JZ) (js:= [none,some 2]) (aZ.gen rfl rfl rfl rfl rfl rfl) rfl (dv (dM (v_ 1))) (λ_ _ _ _=>(e_ 0)) (λ_ _ _ _=>eR) (λ_ _ _ _=>(aO c b (aq (v_ 1) (aq (v_ 0) av)))))) (ht:=dA)) av)))))) (ht:=dA))))
def wu:aN nz nz (aF kL):=fZ
def wm(F:fq K "_law_pairs" "_law_pairs" kL f fd)(B:Bl mg):bO P w K mg base eN 1 f fd nz (fm ⟨K,mg⟩ 2 dW):=by
 refine bF F wu λb A a s H E c=> ?_
 exact(aG (aQ (cC rfl B.tuple (j9 (de (N:= ["_law_word","_law_told_here","_law_stem"]) (js:= [none,none,some 0]) (aZ.gen rfl rfl rfl rfl rfl rfl) rfl (dv (dM (v_ 1))) (λ_ _ _ _=>(cV rfl (aD (e_ 0) (aD (e_ 1) bT)))) (λ_ _ _ _=>eR) (λ_ _ _ _=>(aS (aq (bS (v_ 2) (v_ 0)) (aq (v_ 1) av)))))) (ht:=dA))))
end
section
variable{P:Program}{w:World}{K:PySem.W.Frag}{mg:Str->Option Value}{base:Heap}{f:Addr}{fd:FuncData}
def nU:aN ["_law_stem","_law_world_here","_law_rooms_here","_law_name","_law_manner","_law_things","_law_bells","_law_deeds","_law_told_here","_law_hands","_law_program"] Eg (aF kX):=fZ
def wa(F:fq K "_law_other" "_law_other" kX f fd)(B:Bl mg)(g:sT P w K mg base)(c:zi P w K mg base)(e:nL P w K mg base):bO P w K mg base eN 10 f fd Eg (fm ⟨K,mg⟩ 2 jI):=by
 have a:=nU.nd
 refine bF F nU λh A d s H E b=> ?_
 exact(az (bI 2 a (cN (df av)))
  (az (hG PassesOwn.never rfl (dv (dM (aJ (v_ 1) ax))) (cV rfl (aD (bK 3 a) (aD (bK 4 a) (aD (bK 5 a) (aD (bK 6 a) (aD (bK 7 a) bT)))))) (az (bI 8 a (aO g b (aq (v_ 0) (aq (aO c b (aq (v_ 0) (aq (v_ 7) av))) av))))
  (aG (c_ (cR (v_ 2) (aS (aq (bS (v_ 0) (v_ 3)) (aq (v_ 4) (aq (aO c b (aq (v_ 0) (aq (v_ 5) av))) (aq (aO c b (aq (v_ 0) (aq (v_ 6) av))) (aq (v_ 8) av)))))))))))
  (az (bI 9 a (cN (df av)))
  (az (hG PassesOwn.never rfl (dv (dM (aJ (v_ 1) ax))) (cV rfl (aD (bK 5 a) (aD (bK 10 a) bT))) (aG (c_ (cR (v_ 9) (aS (aq (aO c b (aq (v_ 0) (aq (v_ 5) av))) (aq (cC rfl B.tuple (j9 (de (N:=JZ) (js:= [none,some 0]) (aZ.gen rfl rfl rfl rfl rfl rfl) rfl (dv (dM (v_ 10))) (λ_ _ _ _=>(e_ 0)) (λ_ _ _ _=>eR) (λ_ _ _ _=>(aO e b (aq (v_ 1) (aq (v_ 0) av)))))) (ht:=dA)) av)))))))
  (aG (aQ (aS (aq (cC rfl B.tuple (uq (dM (v_ 2))) (ht:=fG)) (aq (aO c b (aq (v_ 0) (aq (aJ (v_ 1) ax) av))) (aq (aO c b (aq (v_ 0) (aq (aJ (v_ 1) ax) av))) (aq (cC rfl B.tuple (uq (dM (v_ 9))) (ht:=fG)) av)))))))))))
def yN:aN Ah Ah (aF mh):=fZ
def yW(F:fq K "values_of" "values_of" mh f fd)(B:Bl mg):bO P w K mg base eN 1 f fd Ah (fm ⟨K,mg⟩ 1 ic):=by
 refine bF F yN λb A a s H E c=> ?_
 exact(aG (aQ (cC rfl B.tuple (j9 (de (N:= ["word","value"]) (js:= [none,none]) (aZ.gen rfl rfl rfl rfl rfl rfl) rfl (dv (dM (v_ 0))) (λ_ _ _ _=>(cV rfl (aD (e_ 0) (aD (e_ 1) bT)))) (λ_ _ _ _=>eR) (λ_ _ _ _=>(v_ 1)))) (ht:=dA))))
def nH:aN ["room","name","manner","things","bells","deeds"] BC (aF kK):=fZ
def wg(F:fq K "begun_room" "begun_room" kK f fd)(B:Bl mg)(g:rR P w K mg base){e:Tok}(d:mg "NOBODY"=some (.int (-1) e)):bO P w K mg base eN 2 f fd BC (fm ⟨K,mg⟩ 1 jD):=by
 have a:=nH.nd
 refine bF F nH λh A b s H E c=> ?_
 exact(az (fY (v_ 0) (cV rfl (aD (bK 1 a) (aD (bK 2 a) (aD (bK 3 a) (aD (bK 4 a) (aD (bK 5 a) bT)))))))
  (aG (aQ (aS (aq (aO g c (aq (v_ 3) av)) (aq (dU (fT (v:=.int (-1)) rfl d ⟨_,rfl⟩) λ_ _=>.int (-1)) (aq (aS av) (aq (aS av) (aq (cC rfl B.tuple (j9 (de (N:= ["bell"]) (js:= [none]) (aZ.gen rfl rfl rfl rfl rfl rfl) rfl (dv (dM (v_ 4))) (λ_ _ _ _=>(e_ 0)) (λ_ _ _ _=>eR) (λ_ _ _ _=>(aS av)))) (ht:=dA)) av)))))))))
def Ak:aN ["world","rooms","passes","shared","hands","own"] zx (aF yu):=fZ
def F2(F:fq K "begun" "begun" yu f fd)(B:Bl mg)(e:rR P w K mg base)(h:ya P w K mg base){g:Tok}(d:mg "OWN"=some (.int (-1) g)):bO P w K mg base eN 3 f fd zx (fm ⟨K,mg⟩ 1 vR):=by
 have a:=Ak.nd
 refine bF F Ak λi A c s H E b=> ?_
 exact(az (fY (v_ 0) (cV rfl (aD (bK 1 a) (aD (bK 2 a) (aD (bK 3 a) (aD (bK 4 a) bT))))))
  (az (bI 5 a (aS (aq (dU (fT (v:=.int (-1)) rfl d ⟨_,rfl⟩) λ_ _=>.int (-1)) (aq (dU (fT (v:=.int (-1)) rfl d ⟨_,rfl⟩) λ_ _=>.int (-1)) (aq ax (aq ax (aq ax av)))))))
  (aG (aQ (aS (aq (cC rfl B.tuple (j9 (de (N:=BC) (js:= [none]) (aZ.gen rfl rfl rfl rfl rfl rfl) rfl (dv (dM (v_ 1))) (λ_ _ _ _=>(e_ 0)) (λ_ _ _ _=>eR) (λ_ _ _ _=>(aO h b (aq (v_ 0) av))))) (ht:=dA)) (aq (cC rfl B.tuple (j9 (de (N:= ["name","value"]) (js:= [none,none]) (aZ.gen rfl rfl rfl rfl rfl rfl) rfl (dv (dM (v_ 2))) (λ_ _ _ _=>(cV rfl (aD (e_ 0) (aD (e_ 1) bT)))) (λ_ _ _ _=>eR) (λ_ _ _ _=>(aS (aq (v_ 1) (aq (aS av) av)))))) (ht:=dA)) (aq (aO e b (aq (v_ 3) av)) (aq (cC rfl B.tuple (j9 (de (N:= ["things","program","own"]) (js:= [none,none,some 5]) (aZ.gen rfl rfl rfl rfl rfl rfl) rfl (dv (dM (v_ 4))) (λ_ _ _ _=>(cV rfl (aD (e_ 0) (aD (e_ 1) bT)))) (λ_ _ _ _=>eR) (λ_ _ _ _=>(aS (aq (aO e b (aq (v_ 0) av)) (aq (aS (aq (v_ 2) av)) av)))))) (ht:=dA)) av)))))))))
def Bh:aN zP zP (aF oP):=fZ
def AO(F:fq K "hands_at" "hands_at" oP f fd)(B:Bl mg):bO P w K mg base eN 1 f fd zP (fm ⟨K,mg⟩ 1 ko):=by
 refine bF F Bh λb A a s H E c=> ?_
 exact(aG (oE (de (N:= ["turn","hand"]) (js:= [none,none]) (aZ.gen rfl rfl rfl rfl rfl rfl) rfl (dv (dM (v_ 0))) (λ_ _ _ _=>(cV rfl (aD (e_ 0) (aD (e_ 1) bT)))) (λ_ _ _ _=>eR) (λ_ _ _ _=>(v_ 1)))))
def j2:aN ["scene","hands","value","row","values","within","late","bells","line"] DV (aF iI):=fZ
def qW(F:fq K "hands_in_rows" "hands_in_rows" iI f fd)(B:Bl mg)(c:vo P w K mg base):bO P w K mg base eN 2 f fd DV (fm ⟨K,mg⟩ 1 fE):=by
 have a:=j2.nd
 refine bF F j2 λe A b s H E d=> ?_
 exact(az (bI 1 a (cN (df av)))
  (az (hG PassesOwn.never rfl (dv (dM (aJ (v_ 0) ax))) (cV rfl (aD (bK 2 a) (aD (bK 3 a) bT))) (aG (c_ (xa (v_ 1) (dM (v_ 3))))))
  (az (hG PassesOwn.never rfl (dv (dM (aJ (v_ 0) ax))) (cV rfl (aD (bK 4 a) (aD (bK 5 a) (aD (bK 3 a) (aD (bK 6 a) (aD (bK 7 a) bT)))))) (az (c_ (xa (v_ 1) (dM (bS (v_ 3) (v_ 6)))))
  (aG (hG PassesOwn.never rfl (dv (dM (v_ 7))) (bK 8 a) (aG (c_ (pS (v_ 1) (j9 (jS c d (aq (v_ 8) av))))))))))
  (aG (aQ (v_ 1))))))
def wB:aN Aw Aw (aF kO):=fZ
def wy(F:fq K "last_frame" "last_frame" kO f fd)(B:Bl mg):bO P w K mg base eN 1 f fd Aw (fm ⟨K,mg⟩ 2 di):=by
 refine bF F wB λb A a s H E c=> ?_
 exact(aG (aQ (aJ (aJ (aJ (aJ (v_ 0) ax) (v_ 1)) ax) (vt ax))))
def nI:aN ["world","hand","frame","room","deed"] Dt (aF kJ):=fZ
def wj(F:fq K "program_of" "program_of" kJ f fd)(B:Bl mg){c:Tok}(d:mg "OWN"=some (.int (-1) c)):bO P w K mg base eN 1 f fd Dt (fm ⟨K,mg⟩ 3 fF):=by
 have b:=nI.nd
 refine bF F nI λe A a s H E g=> ?_
 exact(az (M5 (Kl (i:=3) (j:=4) rfl b rfl rfl (by decide) rfl rfl (aq (aJ (v_ 2) ax) (aq (aJ (v_ 2) ax) av)) rfl))
  (az (cB (bN cP cO (v_ 3) (dU (fT (v:=.int (-1)) rfl d ⟨_,rfl⟩) λ_ _=>.int (-1)) (aV _)) (aG (aQ (aJ (aJ (aJ (v_ 0) ax) (v_ 1)) ax))) bP)
  (aG (aQ (aJ (aJ (aJ (aJ (aJ (v_ 0) ax) (v_ 3)) ax) (v_ 4)) ax)))))
def ki:aN ["world","scene","hand","frame"] dt (aF iL):=fZ
def qS(F:fq K "is_behind_all" "is_behind_all" iL f fd)(B:Bl mg)(i:ef P w K mg base)(e:i3 P w K mg base){d:Tok}(g:mg "OWN"=some (.int (-1) d)):bO P w K mg base eN 2 f fd dt (fm ⟨K,mg⟩ 3 gQ):=by
 have c:=ki.nd
 refine bF F ki λh A a s H E b=> ?_
 exact(az (bI 3 c (aO i b (aq (v_ 1) (aq (v_ 2) av))))
  (aG (aQ (zT (nQ cP cO (aJ (v_ 3) ax) (dU (fT (v:=.int (-1)) rfl g ⟨_,rfl⟩) λ_ _=>.int (-1)) (aV _)) (Dr (nQ cP cO (aJ (v_ 3) ax) (iD rfl B.len (dM (aO e b (aq (v_ 0) (aq (v_ 2) (aq (v_ 3) av)))))) (aV _)))))))
def rL:aN ["world","scene","held_up"] ym (aF oB):=fZ
def AS(F:fq K "may_step" "may_step" oB f fd)(B:Bl mg)(e:sX P w K mg base)(d:sR P w K mg base):bO P w K mg base eN 3 f fd ym (fm ⟨K,mg⟩ 2 i9):=by
 have c:=rL.nd
 refine bF F rL λg A a s H E b=> ?_
 exact(az (bI 2 c (cN (jS e b (aq (v_ 1) av))))
  (aG (oE (de (N:= ["hand","world","scene","held_up"]) (js:= [none,some 0,some 1,some 2]) (aZ.gen rfl rfl rfl rfl rfl rfl) rfl (mr rfl B.range (iD rfl B.len (dM (aJ (v_ 1) ax)))) (λ_ _ _ _=>(e_ 0)) (λ_ _ _ _=>(Gq (PW.pt (w_and (y6 (v_ 0) (dM (v_ 3))) (gR (BB (jO (aO d b (aq (v_ 1) (aq (v_ 2) (aq (v_ 0) av))))))))))) (λ_ _ _ _=>(v_ 0))))))
def yc:aN Cn Cn (aF mP):=fZ
theorem pO(F:fq K "_law_same" "_law_same" mP f fd)(B:Bl mg)(b:Binds K fd Cn [])(c:PySem.W.keepIn K (.ref f)=true)(m:mg "_law_same"=some (.ref f)):∀n,bO P w K mg base eN (1+n) f fd Cn (fm ⟨K,mg⟩ 2 (gE n))
 |0=>tZ
 | n+1=>by
   have g:fL P w K mg base (1+n) "_law_same" Cn (gE n):=⟨f,fd,pO F B b c m n,b,c,m⟩
   refine bF (k:=1+n) F yc λe A a s H E d=> ?_
   exact(az (cB (jO (mQ (T:="tuple") ⟨rfl,rfl,rfl,rfl,rfl,rfl,rfl⟩ rfl B.isi (v_ 1) (gX (v:=.ty "tuple") rfl B.tuple PyProof.Rows.boot_tuple rfl))) (az (cB (PW.pt (w_or (BB (jO (mQ (T:="tuple") ⟨rfl,rfl,rfl,rfl,rfl,rfl,rfl⟩ rfl B.isi (v_ 0) (gX (v:=.ty "tuple") rfl B.tuple PyProof.Rows.boot_tuple rfl)))) (Dl (bN xX w6 (iD rfl B.len (dM (v_ 0))) (iD rfl B.len (dM (v_ 1))) (aV _))))) (aG (aQ JN)) bP)
   (aG (aQ (Nj rfl rfl B.all (j9 (de (N:= ["_law_one","_law_other_here"]) (js:= [none,none]) (aZ.gen rfl rfl rfl rfl rfl rfl) rfl (zN rfl B.zip (dM (v_ 0)) (dM (v_ 1))) (λ_ _ _ _=>(cV rfl (aD (e_ 0) (aD (e_ 1) bT)))) (λ_ _ _ _=>eR) (λ_ _ _ _=>(aO g d (aq (v_ 0) (aq (v_ 1) av)))))))))) bP)
   (az (cB (PW.pt (w_or (jO (mQ (T:="str") ⟨rfl,rfl,rfl,rfl,rfl,rfl,rfl⟩ rfl B.isi (v_ 1) (gX (v:=.ty "str") rfl B.str PyProof.Rows.boot_str rfl))) (Dl (bN HH HS (v_ 1) mM (aV _))))) (aG (aQ (zT (nQ cP cO (mQ (T:="str") ⟨rfl,rfl,rfl,rfl,rfl,rfl,rfl⟩ rfl B.isi (v_ 0) (gX (v:=.ty "str") rfl B.str PyProof.Rows.boot_str rfl)) (mQ (T:="str") ⟨rfl,rfl,rfl,rfl,rfl,rfl,rfl⟩ rfl B.isi (v_ 1) (gX (v:=.ty "str") rfl B.str PyProof.Rows.boot_str rfl)) (aV _)) (Dr (nQ cP cO (v_ 0) (v_ 1) (aV _)))))) bP)
   (aG (aQ (zT (mQ (T:="int") ⟨rfl,rfl,rfl,rfl,rfl,rfl,rfl⟩ rfl B.isi (v_ 0) (gX (v:=.ty "int") rfl B.int PyProof.Rows.boot_int rfl)) (zT (Mz (mQ (T:="bool") ⟨rfl,rfl,rfl,rfl,rfl,rfl,rfl⟩ rfl B.isi (v_ 0) (gX (v:=.ty "bool") rfl B.bool PyProof.Rows.boot_bool rfl))) (Dr (nQ cP cO (v_ 0) (v_ 1) (aV _)))))))))
def jP:aN ["world","scene","hand","name","first","value","row","room","state","bell","sort","line"] dt (aF hU):=fZ
def pw(F:fq K "place_in_a_row" "place_in_a_row" hU f fd)(B:Bl mg)(c:vo P w K mg base):bO P w K mg base eN 2 f fd dt (fm ⟨K,mg⟩ 3 gn):=by
 have a:=jP.nd
 refine bF F jP λe A b s H E d=> ?_
 exact(az (hG PassesOwn.never rfl (zN rfl B.zip (dM (aJ (v_ 0) ax)) (dM (aJ (v_ 1) ax))) (cV rfl (aD (cV rfl (aD (bK 3 a) (aD (bK 4 a) bT))) (aD (cV rfl (aD (bK 5 a) (aD (bK 6 a) bT))) bT))) (aG (cB (Bq (v_ 2) (dM (v_ 6))) (aG (aQ (aS (aq bp (aq (v_ 3) av))))) bP)))
  (az (hG PassesOwn.never rfl (zN rfl B.zip (dM (aJ (v_ 0) ax)) (dM (aJ (v_ 1) ax))) (cV rfl (aD (bK 7 a) (aD (bK 8 a) bT))) (az (cB (Bq (v_ 2) (dM (aJ (v_ 8) ax))) (aG (aQ (aS (aq bp (aq (aJ (v_ 7) ax) av))))) bP)
  (az (cB (Bq (v_ 2) (dM (aJ (v_ 8) ax))) (aG (aQ (aS (aq bp (aq (aJ (v_ 7) ax) av))))) bP)
  (aG (hG PassesOwn.never rfl (zN rfl B.zip (dM (aJ (v_ 7) ax)) (dM (aJ (v_ 8) ax))) (cV rfl (aD (cV rfl (aD (bK 9 a) (aD (bK 10 a) bT))) (aD (bK 11 a) bT))) (aG (cB (Bq (v_ 2) (j9 (jS c d (aq (v_ 11) av)))) (aG (aQ (aS (aq bp (aq (aJ (v_ 7) ax) (aq (v_ 9) av)))))) bP)))))))
  (aG (aQ mM))))
end
section
variable{P:Program}{w:World}{K:PySem.W.Frag}{mg:Str->Option Value}{base:Heap}{f:Addr}{fd:FuncData}
def wU:aN ["world","scene","hand","waits","frame","room","name"] dt (aF vp):=fZ
def Eu(F:fq K "stands" "stands" vp f fd)(B:Bl mg)(d:qE P w K mg base)(j:ef P w K mg base)(g:i3 P w K mg base){e:Tok}(h:mg "OWN"=some (.int (-1) e)):bO P w K mg base eN 3 f fd dt (fm ⟨K,mg⟩ 3 qg):=by
 have a:=wU.nd
 refine bF F wU λi A c s H E b=> ?_
 exact(az (bI 3 a (aO d b (aq (v_ 0) (aq (v_ 1) (aq (v_ 2) av)))))
  (az (cB (bN tM tT (v_ 3) mM (aV _)) (aG (aQ (v_ 3))) bP)
  (az (bI 4 a (aO j b (aq (v_ 1) (aq (v_ 2) av))))
  (az (bI 5 a (aJ (v_ 4) ax))
  (az (cB (bN cP cO (v_ 5) (dU (fT (v:=.int (-1)) rfl h ⟨_,rfl⟩) λ_ _=>.int (-1)) (aV _)) (aG (aQ (uk (bN cP cO (aJ (v_ 4) ax) (iD rfl B.len (dM (aO g b (aq (v_ 0) (aq (v_ 2) (aq (v_ 4) av)))))) (aV _)) (aS (aq bp av)) (aS (aq bp av))))) bP)
  (az (bI 6 a (aJ (aJ (aJ (v_ 0) ax) (v_ 5)) ax))
  (aG (aQ (uk (bN cP cO (aJ (aJ (aJ (v_ 1) ax) (v_ 5)) ax) (v_ 2) (aV _)) (aS (aq bp (aq (v_ 6) av))) (aS (aq bp (aq (v_ 6) av))))))))))))
def yK:aN Am Am (aF mF):=fZ
def zh(F:fq K "_law_next" "_law_next" mF f fd)(B:Bl mg)(d:dh P w K mg base)(c:eS P w K mg base):bO P w K mg base eN 3 f fd Am (fm ⟨K,mg⟩ 3 lj):=by
 refine bF F yK λe A a s H E b=> ?_
 exact(az (cB (PW.pt (w_and (Bq (v_ 2) (dM (v_ 1))) (gR (bN cP cO (aO d b (aq (v_ 0) (aq ax av))) ax (aV _))))) (aG (aQ (v_ 2))) bP)
  (aG (aQ (aO c b (aq (v_ 0) (aq (v_ 1) av))))))
def BA:aN Bj Bj (aF n0):=fZ
def Bf(F:fq K "names_of" "names_of" n0 f fd)(B:Bl mg):bO P w K mg base eN 1 f fd Bj (fm ⟨K,mg⟩ 1 fg):=by
 refine bF F BA λb A a s H E c=> ?_
 exact(aG (oE (de (N:= ["row"]) (js:= [none]) (aZ.gen rfl rfl rfl rfl rfl rfl) rfl (dv (dM (v_ 0))) (λ_ _ _ _=>(e_ 0)) (λ_ _ _ _=>eR) (λ_ _ _ _=>(aJ (v_ 0) ax)))))
def Bd:aN BD BD (aF oZ):=fZ
def BG(F:fq K "place_of" "place_of" oZ f fd)(B:Bl mg)(c:oX P w K mg base):bO P w K mg base eN 2 f fd BD (fm ⟨K,mg⟩ 2 dR):=by
 refine bF F Bd λd A a s H E b=> ?_
 exact(aG (aQ (JT (j9 (jS c b (aq (v_ 0) av))) (v_ 1))))
def yH:aN AV AV (aF mi):=fZ
def zq(F:fq K "with_part" "with_part" mi f fd)(B:Bl mg):bO P w K mg base eN 1 f fd AV (fm ⟨K,mg⟩ 3 eE):=by
 refine bF F yH λb A a s H E c=> ?_
 exact(aG (aQ (bS (bS (cX (v_ 0) dH (dG (v_ 1))) (aS (aq (v_ 2) av))) (cX (v_ 0) (dG (bS (v_ 1) ax)) dH))))
def yY:aN Bu Bu (aF me):=fZ
def y0(F:fq K "with_hand" "with_hand" me f fd)(B:Bl mg)(c:iB P w K mg base):bO P w K mg base eN 2 f fd Bu (fm ⟨K,mg⟩ 4 gI):=by
 refine bF F yY λd A a s H E b=> ?_
 exact(aG (aQ (bS (cX (v_ 0) dH (dG ax)) (aS (aq (aO c b (aq (aJ (v_ 0) ax) (aq (v_ 1) (aq (aS (aq (v_ 2) (aq (v_ 3) av))) av)))) av)))))
def yz:aN A8 A8 (aF mC):=fZ
def yx(F:fq K "with_room" "with_room" mC f fd)(B:Bl mg)(c:iB P w K mg base):bO P w K mg base eN 2 f fd A8 (fm ⟨K,mg⟩ 3 dJ):=by
 refine bF F yz λd A a s H E b=> ?_
 exact(aG (aQ (bS (aS (aq (aO c b (aq (aJ (v_ 0) ax) (aq (v_ 1) (aq (v_ 2) av)))) av)) (cX (v_ 0) (dG ax) dH))))
def qe:aN ["world","scene","hand","word","value","room","place","values","shared","frames"] zG (aF lW):=fZ
def zK(F:fq K "put_thing" "put_thing" lW f fd)(B:Bl mg)(m:ef P w K mg base)(e:jl P w K mg base)(d:iB P w K mg base)(j:iC P w K mg base)(l:oX P w K mg base)(k:jE P w K mg base){i:Tok}(g:mg "OWN"=some (.int (-1) i)):bO P w K mg base eN 3 f fd zG (fm ⟨K,mg⟩ 5 gF):=by
 have b:=qe.nd
 refine bF F qe λh A c s H E a=> ?_
 exact(az (bI 5 b (aJ (aO m a (aq (v_ 1) (aq (v_ 2) av))) ax))
  (az (cB (bN xX w6 (v_ 5) (dU (fT (v:=.int (-1)) rfl g ⟨_,rfl⟩) λ_ _=>.int (-1)) (aV _)) (az (bI 6 b (aO e a (aq (aJ (aJ (aJ (v_ 0) ax) (v_ 5)) ax) (aq (v_ 3) av))))
  (az (bI 7 b (aO d a (aq (aJ (aJ (aJ (v_ 1) ax) (v_ 5)) ax) (aq (v_ 6) (aq (v_ 4) av)))))
  (aG (aQ (aO j a (aq (v_ 1) (aq (v_ 5) (aq (bS (aS (aq (v_ 7) av)) (cX (aJ (aJ (v_ 1) ax) (v_ 5)) (dG ax) dH)) av)))))))) bP)
  (az (cB (Bq (v_ 3) (j9 (jS l a (aq (aJ (v_ 0) ax) av)))) (az (bI 8 b (aO d a (aq (aJ (v_ 1) ax) (aq (aO e a (aq (aJ (v_ 0) ax) (aq (v_ 3) av))) (aq (v_ 4) av)))))
  (aG (aQ (aS (aq (aJ (v_ 1) ax) (aq (aJ (v_ 1) ax) (aq (v_ 8) (aq (aJ (v_ 1) ax) av)))))))) bP)
  (az (fY (aJ (aJ (v_ 1) ax) (v_ 2)) (cV rfl (aD (bK 7 b) (aD (bK 9 b) bT))))
  (az (bI 6 b (aO e a (aq (aJ (aJ (aJ (v_ 0) ax) (v_ 2)) ax) (aq (v_ 3) av))))
  (aG (aQ (aO k a (aq (v_ 1) (aq (v_ 2) (aq (aO d a (aq (v_ 7) (aq (v_ 6) (aq (v_ 4) av)))) (aq (v_ 9) av))))))))))))
def sP:aN Ac Ac (aF jt):=fZ
def tm(F:fq K "value_of_two" "value_of_two" jt f fd)(B:Bl mg){b:Tok}(c:mg "HIGHEST"=some (.int (9) b)):bO P w K mg base eN 1 f fd Ac (fm ⟨K,mg⟩ 3 ig):=by
 refine bF F sP λd A a s H E e=> ?_
 exact(az (cB (bN cP cO (v_ 0) bp (aV _)) (aG (aQ (wz Cv (fc (qJ rfl) rfl B.min (by rfl) (aq (bS (v_ 1) (v_ 2)) (aq (dU (fT (v:=.int (9)) rfl c ⟨_,rfl⟩) λ_ _=>.int (9)) av)))))) bP)
  (az (cB (bN cP cO (v_ 0) bp (aV _)) (aG (aQ (wz GU (fc (xc rfl) rfl B.max (by rfl) (aq (vZ (v_ 1) (v_ 2)) (aq ax av)))))) bP)
  (az (cB (bN cP cO (v_ 0) bp (aV _)) (aG (aQ (uk (bN rP rZ (v_ 1) (v_ 2) (aV _)) ax ax))) bP)
  (az (cB (bN cP cO (v_ 0) bp (aV _)) (aG (aQ (uk (bN cP cO (v_ 1) (v_ 2) (aV _)) ax ax))) bP)
  (aG (aQ (uk (PW.pt (w_and (bN xX w6 (v_ 1) ax (aV _)) (gR (bN xX w6 (v_ 2) ax (aV _))))) ax ax)))))))
def sL:aN ["tree","things","waiting","first"] xV (aF oM):=fZ
theorem sk(F:fq K "value_of" "value_of" oM f fd)(B:Bl mg)(h:vX P w K mg base)(b:Binds K fd xV [])(e:PySem.W.keepIn K (.ref f)=true)(m:mg "value_of"=some (.ref f)):∀n,bO P w K mg base eN (2+n) f fd xV (fm ⟨K,mg⟩ 3 (h_ n))
 |0=>tZ
 | n+1=>by
   have g:fL P w K mg base (2+n) "value_of" xV (h_ n):=⟨f,fd,sk F B h b e m n,b,e,m⟩
   have i:=sL.nd
   refine bF (k:=2+n) F sL λj A d s H E c=> ?_
   have a:=J8 c
   exact(az (cB (jO (mQ (T:="int") ⟨rfl,rfl,rfl,rfl,rfl,rfl,rfl⟩ rfl B.isi (v_ 0) (gX (v:=.ty "int") rfl B.int PyProof.Rows.boot_int rfl))) (aG (aQ (v_ 0))) bP)
   (az (cB (jO (mQ (T:="str") ⟨rfl,rfl,rfl,rfl,rfl,rfl,rfl⟩ rfl B.isi (v_ 0) (gX (v:=.ty "str") rfl B.str PyProof.Rows.boot_str rfl))) (aG (aQ (Hg a (v_ 1) (v_ 0) (λ_ _=>rfl)))) bP)
   (az (cB (bN cP cO (aJ (v_ 0) ax) bp (aV _)) (aG (aQ (uk (bN C1 DU (Hg a (v_ 2) (aJ (v_ 0) ax) (λ_ _=>rfl)) ax (aV _)) ax ax))) bP)
   (az (bI 3 i (aO g c (aq (aJ (v_ 0) ax) (aq (v_ 1) (aq (v_ 2) av)))))
   (az (cB (bN cP cO (aJ (v_ 0) ax) bp (aV _)) (aG (aQ (uk (bN cP cO (v_ 3) ax (aV _)) ax ax))) bP)
   (aG (aQ (aO h c (aq (aJ (v_ 0) ax) (aq (v_ 3) (aq (aO g c (aq (aJ (v_ 0) ax) (aq (v_ 1) (aq (v_ 2) av)))) av)))))))))))
def se:aN ["world","scene","hand","tree","frame","room","things","waiting"] yf (aF oN):=fZ
def Af(F:fq K "reckoned" "reckoned" oN f fd)(B:Bl mg)(k:ef P w K mg base)(c:oX P w K mg base)(g:BP P w K mg base){h:Tok}(i:mg "OWN"=some (.int (-1) h)):bO P w K mg base eN 9 f fd yf (fm ⟨K,mg⟩ 4 eL):=by
 have b:=se.nd
 refine bF F se λj A e s H E a=> ?_
 have d:=J8 a
 exact(az (bI 4 b (aO k a (aq (v_ 1) (aq (v_ 2) av))))
  (az (bI 5 b (aJ (v_ 4) ax))
  (az (cB (bN cP cO (v_ 5) (dU (fT (v:=.int (-1)) rfl i ⟨_,rfl⟩) λ_ _=>.int (-1)) (aV _)) (az (bI 6 b (qV rfl rfl B.dict rfl B.zip (j9 (jS c a (aq (aJ (v_ 0) ax) av))) (dM (aJ (v_ 1) ax))))
  (az (c_ (GM (v_ 6) (qV rfl rfl B.dict rfl B.zip (j9 (jS c a (aq (aJ (aJ (aJ (v_ 0) ax) (v_ 2)) ax) av))) (dM (aJ (aJ (aJ (v_ 1) ax) (v_ 2)) ax)))))
  (aG (aQ (aO g a (aq (v_ 3) (aq (v_ 6) (aq Kz av)))))))) bP)
  (az (bI 6 b (qV rfl rfl B.dict rfl B.zip (j9 (jS c a (aq (aJ (aJ (aJ (v_ 0) ax) (v_ 5)) ax) av))) (dM (aJ (aJ (aJ (v_ 1) ax) (v_ 5)) ax))))
  (az (Ls d (v_ 6) bp (aJ (v_ 4) ax))
  (az (IJ (n:=7) (N:= ["bell","line"]) (js:= [none,none]) (aZ.gen rfl rfl rfl rfl rfl rfl) rfl (zN rfl B.zip (j9 (jS c a (aq (aJ (aJ (aJ (v_ 0) ax) (v_ 5)) ax) av))) (dM (aJ (aJ (aJ (v_ 1) ax) (v_ 5)) ax))) (λ_ _ _ _=>(cV rfl (aD (e_ 0) (aD (e_ 1) bT)))) (λ_ _ _ _=>eR) (λ_ _ _ _=>(v_ 0)) (λ_ _ _ _=>(iD rfl B.len (dM (v_ 1)))) (Ma 7 b))
  (aG (aQ (aO g a (aq (v_ 3) (aq (v_ 6) (aq (v_ 7) av))))))))))))
def Fs:aN cg cg (aF v7):=fZ
def E3(F:fq K "by_put" "by_put" v7 f fd)(B:Bl mg)(d:sH P w K mg base)(c:ia P w K mg base):bO P w K mg base eN 10 f fd cg (fm ⟨K,mg⟩ 4 t9):=by
 refine bF F Fs λe A a s H E b=> ?_
 exact(aG (aQ (aO d b (aq (v_ 0) (aq (v_ 1) (aq (v_ 2) (aq (aJ (v_ 3) ax) (aq (aO c b (aq (v_ 0) (aq (v_ 1) (aq (v_ 2) (aq (aJ (v_ 3) ax) av))))) av))))))))
def jr:aN ["scene","hand","frame","values","frames"] Ef (aF gU):=fZ
def oA(F:fq K "with_last_frame" "with_last_frame" gU f fd)(B:Bl mg)(d:jE P w K mg base):bO P w K mg base eN 3 f fd Ef (fm ⟨K,mg⟩ 3 eM):=by
 have b:=jr.nd
 refine bF F jr λe A a s H E c=> ?_
 exact(az (fY (aJ (aJ (v_ 0) ax) (v_ 1)) (cV rfl (aD (bK 3 b) (aD (bK 4 b) bT))))
  (aG (aQ (aO d c (aq (v_ 0) (aq (v_ 1) (aq (v_ 3) (aq (bS (cX (v_ 4) dH (dG (vt ax))) (aS (aq (v_ 2) av))) av))))))))
def wZ:aN ["scene","hand","row","frame"] D8 (aF uQ):=fZ
def FM(F:fq K "at_row" "at_row" uQ f fd)(B:Bl mg)(g:ef P w K mg base)(d:jA P w K mg base):bO P w K mg base eN 4 f fd D8 (fm ⟨K,mg⟩ 3 kU):=by
 have c:=wZ.nd
 refine bF F wZ λe A a s H E b=> ?_
 exact(az (bI 3 c (aO g b (aq (v_ 0) (aq (v_ 1) av))))
  (aG (aQ (aO d b (aq (v_ 0) (aq (v_ 1) (aq (bS (bS (cX (v_ 3) dH (dG ax)) (aS (aq (v_ 2) av))) (cX (v_ 3) (dG ax) dH)) av)))))))
end
section
variable{P:Program}{w:World}{K:PySem.W.Frag}{mg:Str->Option Value}{base:Heap}{f:Addr}{fd:FuncData}
def y2:aN cg cg (aF lP):=fZ
def yU(F:fq K "by_unless" "by_unless" lP f fd)(B:Bl mg)(c:ia P w K mg base)(d:u9 P w K mg base):bO P w K mg base eN 10 f fd cg (fm ⟨K,mg⟩ 4 lB):=by
 refine bF F y2 λe A a s H E b=> ?_
 exact(az (cB (bN cP cO (aO c b (aq (v_ 0) (aq (v_ 1) (aq (v_ 2) (aq (aJ (v_ 3) ax) av))))) ax (aV _)) (aG (aQ (aO d b (aq (v_ 1) (aq (v_ 2) (aq (aJ (v_ 3) ax) av)))))) bP)
  (aG (aQ (v_ 1))))
def Gr:aN cg cg (aF yP):=fZ
def Hc(F:fq K "by_go" "by_go" yP f fd)(B:Bl mg)(c:u9 P w K mg base):bO P w K mg base eN 5 f fd cg (fm ⟨K,mg⟩ 4 zI):=by
 refine bF F Gr λd A a s H E b=> ?_
 exact(aG (aQ (aO c b (aq (v_ 1) (aq (v_ 2) (aq (aJ (v_ 3) ax) av))))))
def vJ:aN ["scene","room","hand","values","within","row","late","bells"] Ei (aF qP):=fZ
def Cb(F:fq K "come_in" "come_in" qP f fd)(B:Bl mg)(d:iC P w K mg base){g:Tok}(e:mg "NOBODY"=some (.int (-1) g)):bO P w K mg base eN 3 f fd Ei (fm ⟨K,mg⟩ 3 mD):=by
 have a:=vJ.nd
 refine bF F vJ λh A b s H E c=> ?_
 exact(az (fY (aJ (aJ (v_ 0) ax) (v_ 1)) (cV rfl (aD (bK 3 a) (aD (bK 4 a) (aD (bK 5 a) (aD (bK 6 a) (aD (bK 7 a) bT)))))))
  (az (cB (bN cP cO (v_ 4) (dU (fT (v:=.int (-1)) rfl e ⟨_,rfl⟩) λ_ _=>.int (-1)) (aV _)) (aG (aQ (aO d c (aq (v_ 0) (aq (v_ 1) (aq (aS (aq (v_ 3) (aq (v_ 2) (aq (v_ 5) (aq (v_ 6) (aq (v_ 7) av)))))) av)))))) bP)
  (aG (aQ (aO d c (aq (v_ 0) (aq (v_ 1) (aq (aS (aq (v_ 3) (aq (v_ 4) (aq (bS (v_ 5) (aS (aq (v_ 2) av))) (aq (v_ 6) (aq (v_ 7) av)))))) av))))))))
def A1:aN ["world","scene","hand","row","room","deed","frame","values","frames"] cg (aF y3):=fZ
def HW(F:fq K "by_do" "by_do" y3 f fd)(B:Bl mg)(d:jl P w K mg base)(g:ia P w K mg base)(e:wV P w K mg base)(h:jE P w K mg base):bO P w K mg base eN 10 f fd cg (fm ⟨K,mg⟩ 4 zC):=by
 have a:=A1.nd
 refine bF F A1 λi A c s H E b=> ?_
 exact(az (bI 4 a (aO d b (aq (aJ (v_ 0) ax) (aq (aJ (v_ 3) ax) av))))
  (az (bI 5 a (aO d b (aq (aJ (aJ (aJ (v_ 0) ax) (v_ 4)) ax) (aq (aJ (v_ 3) ax) av))))
  (az (bI 6 a (aS (aq (v_ 4) (aq (v_ 5) (aq ax (aq (aO g b (aq (v_ 0) (aq (v_ 1) (aq (v_ 2) (aq (aJ (v_ 3) ax) av))))) (aq ax av)))))))
  (az (fY (aJ (aJ (v_ 1) ax) (v_ 2)) (cV rfl (aD (bK 7 a) (aD (bK 8 a) bT))))
  (aG (aQ (aO e b (aq (aO h b (aq (v_ 1) (aq (v_ 2) (aq (v_ 7) (aq (bS (v_ 8) (aS (aq (v_ 6) av))) av))))) (aq (v_ 4) (aq (v_ 2) av))))))))))
def vG:aN ["world","scene","hand","word","room"] yM (aF qC):=fZ
def CZ(F:fq K "bell_of" "bell_of" qC f fd)(B:Bl mg)(g:ef P w K mg base)(d:jl P w K mg base):bO P w K mg base eN 3 f fd yM (fm ⟨K,mg⟩ 4 kq):=by
 have c:=vG.nd
 refine bF F vG λe A a s H E b=> ?_
 exact(az (bI 4 c (aJ (aO g b (aq (v_ 1) (aq (v_ 2) av))) ax))
  (aG (aQ (aS (aq (v_ 4) (aq (aO d b (aq (aJ (aJ (aJ (v_ 0) ax) (v_ 4)) ax) (aq (v_ 3) av))) av))))))
def pF:aN ["scene","room","bell","line","state"] C9 (aF mN):=fZ
def yQ(F:fq K "with_line" "with_line" mN f fd)(B:Bl mg)(d:iC P w K mg base)(e:iB P w K mg base):bO P w K mg base eN 3 f fd C9 (fm ⟨K,mg⟩ 4 gG):=by
 have c:=pF.nd
 refine bF F pF λg A a s H E b=> ?_
 exact(az (bI 4 c (aJ (aJ (v_ 0) ax) (v_ 1)))
  (aG (aQ (aO d b (aq (v_ 0) (aq (v_ 1) (aq (bS (cX (v_ 4) dH (dG ax)) (aS (aq (aO e b (aq (aJ (v_ 4) ax) (aq (v_ 2) (aq (v_ 3) av)))) av))) av)))))))
def A7:aN ["scene","room","values","within","row","late","bells"] De (aF zd):=fZ
def HE(F:fq K "leave" "leave" zd f fd)(B:Bl mg)(c:iC P w K mg base){g:Tok}(e:mg "NOBODY"=some (.int (-1) g)):bO P w K mg base eN 3 f fd De (fm ⟨K,mg⟩ 2 qZ):=by
 have a:=A7.nd
 refine bF F A7 λh A d s H E b=> ?_
 exact(az (fY (aJ (aJ (v_ 0) ax) (v_ 1)) (cV rfl (aD (bK 2 a) (aD (bK 3 a) (aD (bK 4 a) (aD (bK 5 a) (aD (bK 6 a) bT)))))))
  (az (cB (jO (v_ 5)) (aG (aQ (aO c b (aq (v_ 0) (aq (v_ 1) (aq (aS (aq (v_ 2) (aq (aJ (v_ 5) ax) (aq (v_ 4) (aq (cX (v_ 5) (dG ax) dH) (aq (v_ 6) av)))))) av)))))) bP)
  (az (cB (jO (v_ 4)) (aG (aQ (aO c b (aq (v_ 0) (aq (v_ 1) (aq (aS (aq (v_ 2) (aq (aJ (v_ 4) ax) (aq (cX (v_ 4) (dG ax) dH) (aq (v_ 5) (aq (v_ 6) av)))))) av)))))) bP)
  (aG (aQ (aO c b (aq (v_ 0) (aq (v_ 1) (aq (aS (aq (v_ 2) (aq (dU (fT (v:=.int (-1)) rfl e ⟨_,rfl⟩) λ_ _=>.int (-1)) (aq (v_ 4) (aq (v_ 5) (aq (v_ 6) av)))))) av)))))))))
def u0:aN ["world","scene","hand","row","room","bell","turn","line","ahead","waiting"] cg (aF rq):=fZ
def CS(F:fq K "by_wait" "by_wait" rq f fd)(B:Bl mg)(h:rE P w K mg base)(e:ia P w K mg base)(d:mL P w K mg base)(g:DZ P w K mg base):bO P w K mg base eN 10 f fd cg (fm ⟨K,mg⟩ 4 qh):=by
 have a:=u0.nd
 refine bF F u0 λi A c s H E b=> ?_
 exact(az (fY (aO h b (aq (v_ 0) (aq (v_ 1) (aq (v_ 2) (aq (aJ (v_ 3) ax) av))))) (cV rfl (aD (bK 4 a) (aD (bK 5 a) bT))))
  (az (bI 6 a ax)
  (az (cB (bN cP cO (aJ (aJ (aJ (aJ (aJ (v_ 0) ax) (v_ 4)) ax) (v_ 5)) ax) bp (aV _)) (aG (bI 6 a (aO e b (aq (v_ 0) (aq (v_ 1) (aq (v_ 2) (aq (aJ (v_ 3) ax) av))))))) bP)
  (az (bI 7 a (aJ (aJ (aJ (aJ (v_ 1) ax) (v_ 4)) ax) (v_ 5)))
  (az (bI 8 a (iD rfl B.len (j9 (de (N:= ["other","waiter","turn"]) (js:= [none,none,some 6]) (aZ.gen rfl rfl rfl rfl rfl rfl) rfl (dv (dM (v_ 7))) (λ_ _ _ _=>(cV rfl (aD (e_ 0) (aD (e_ 1) bT)))) (λ_ _ _ _=>(Gq (bN M0 Nu (v_ 0) (v_ 2) (aV _)))) (λ_ _ _ _=>(v_ 0))))))
  (az (bI 9 a (aO d b (aq (v_ 1) (aq (v_ 4) (aq (v_ 5) (aq (bS (bS (cX (v_ 7) dH (dG (v_ 8))) (aS (aq (aS (aq (v_ 6) (aq (v_ 2) av))) av))) (cX (v_ 7) (dG (v_ 8)) dH)) av))))))
  (aG (aQ (aO g b (aq (v_ 9) (aq (v_ 4) av)))))))))))
def uE:aN ["world","scene","hand","row","room","bell","line","called","values","within","queue","late","bells"] cg (aF qQ):=fZ
def Co(F:fq K "by_call" "by_call" qQ f fd)(B:Bl mg)(g:rE P w K mg base)(d:mL P w K mg base)(e:iC P w K mg base):bO P w K mg base eN 4 f fd cg (fm ⟨K,mg⟩ 4 pG):=by
 have a:=uE.nd
 refine bF F uE λh A c s H E b=> ?_
 exact(az (fY (aO g b (aq (v_ 0) (aq (v_ 1) (aq (v_ 2) (aq (aJ (v_ 3) ax) av))))) (cV rfl (aD (bK 4 a) (aD (bK 5 a) bT))))
  (az (bI 6 a (aJ (aJ (aJ (aJ (v_ 1) ax) (v_ 4)) ax) (v_ 5)))
  (az (cB (BB (jO (v_ 6))) (aG (aQ (v_ 1))) bP)
  (az (bI 7 a (aO d b (aq (v_ 1) (aq (v_ 4) (aq (v_ 5) (aq (cX (v_ 6) (dG ax) dH) av))))))
  (az (cB (bN cP cO (aJ (aJ (aJ (v_ 0) ax) (v_ 4)) ax) bp (aV _)) (aG (aQ (v_ 7))) bP)
  (az (fY (aJ (aJ (v_ 7) ax) (v_ 4)) (cV rfl (aD (bK 8 a) (aD (bK 9 a) (aD (bK 10 a) (aD (bK 11 a) (aD (bK 12 a) bT)))))))
  (aG (aQ (aO e b (aq (v_ 7) (aq (v_ 4) (aq (aS (aq (v_ 8) (aq (aJ (aJ (v_ 6) ax) ax) (aq (v_ 10) (aq (bS (v_ 11) (aS (aq (v_ 2) av))) (aq (v_ 12) av)))))) av))))))))))))
def xO:aN ["world","scene","hand","row","room","bell"] cg (aF ug):=fZ
def E_(F:fq K "by_all" "by_all" ug f fd)(B:Bl mg)(e:rE P w K mg base)(d:mL P w K mg base):bO P w K mg base eN 4 f fd cg (fm ⟨K,mg⟩ 4 t5):=by
 have b:=xO.nd
 refine bF F xO λg A a s H E c=> ?_
 exact(az (fY (aO e c (aq (v_ 0) (aq (v_ 1) (aq (v_ 2) (aq (aJ (v_ 3) ax) av))))) (cV rfl (aD (bK 4 b) (aD (bK 5 b) bT))))
  (aG (aQ (aO d c (aq (v_ 1) (aq (v_ 4) (aq (v_ 5) (aq (aS av) av))))))))
def vW:aN ["world","scene","hand","row","told"] cg (aF rj):=fZ
def C0(F:fq K "by_tell" "by_tell" rj f fd)(B:Bl mg)(d:ia P w K mg base)(e:jA P w K mg base)(h:ef P w K mg base):bO P w K mg base eN 10 f fd cg (fm ⟨K,mg⟩ 4 pZ):=by
 have c:=vW.nd
 refine bF F vW λg A b s H E a=> ?_
 exact(az (bI 4 c (aO d a (aq (v_ 0) (aq (v_ 1) (aq (v_ 2) (aq (aJ (v_ 3) ax) av))))))
  (aG (aQ (aO e a (aq (v_ 1) (aq (v_ 2) (aq (bS (cX (aO h a (aq (v_ 1) (aq (v_ 2) av))) dH (dG ax)) (aS (aq (v_ 4) av))) av)))))))
def yk:aN A0 A0 (aF lY):=fZ
def yb(F:fq K "with_pass" "with_pass" lY f fd)(B:Bl mg)(c:iB P w K mg base):bO P w K mg base eN 2 f fd A0 (fm ⟨K,mg⟩ 3 gH):=by
 refine bF F yk λd A a s H E b=> ?_
 exact(aG (aQ (bS (aS (aq (aJ (v_ 0) ax) (aq (aO c b (aq (aJ (v_ 0) ax) (aq (v_ 1) (aq (v_ 2) av)))) av))) (cX (v_ 0) (dG ax) dH))))
def AL:aN ["world","scene","hand","name","place","value","row"] Ds (aF yg):=fZ
def GQ(F:fq K "taken" "taken" yg f fd)(B:Bl mg)(e:jl P w K mg base)(d:rJ P w K mg base):bO P w K mg base eN 3 f fd Ds (fm ⟨K,mg⟩ 4 vg):=by
 have a:=AL.nd
 refine bF F AL λg A c s H E b=> ?_
 exact(az (bI 4 a (aO e b (aq (aJ (v_ 0) ax) (aq (v_ 3) av))))
  (az (fY (aJ (aJ (v_ 1) ax) (v_ 4)) (cV rfl (aD (bK 5 a) (aD (bK 6 a) bT))))
  (az (cB (bN C1 DU (v_ 5) ax (aV _)) (aG (aQ (aO d b (aq (v_ 1) (aq (v_ 4) (aq (aS (aq (vZ (v_ 5) ax) (aq (v_ 6) av))) av)))))) bP)
  (aG (aQ (aO d b (aq (v_ 1) (aq (v_ 4) (aq (aS (aq (v_ 5) (aq (bS (v_ 6) (aS (aq (v_ 2) av))) av))) av)))))))))
def B7:aN cg cg (aF rp):=fZ
def Cy(F:fq K "by_take" "by_take" rp f fd)(B:Bl mg)(c:Dx P w K mg base):bO P w K mg base eN 4 f fd cg (fm ⟨K,mg⟩ 4 p9):=by
 refine bF F B7 λd A a s H E b=> ?_
 exact(aG (aQ (aO c b (aq (v_ 0) (aq (v_ 1) (aq (v_ 2) (aq (aJ (v_ 3) ax) av)))))))
def nK:aN ["world","scene","name","place","value","row"] yj (aF lz):=fZ
def wH(F:fq K "given_back" "given_back" lz f fd)(B:Bl mg)(g:jl P w K mg base)(d:rJ P w K mg base){e:Tok}(h:mg "HIGHEST"=some (.int (9) e)):bO P w K mg base eN 3 f fd yj (fm ⟨K,mg⟩ 3 ip):=by
 have a:=nK.nd
 refine bF F nK λi A c s H E b=> ?_
 exact(az (bI 3 a (aO g b (aq (aJ (v_ 0) ax) (aq (v_ 2) av))))
  (az (fY (aJ (aJ (v_ 1) ax) (v_ 3)) (cV rfl (aD (bK 4 a) (aD (bK 5 a) bT))))
  (az (cB (jO (v_ 5)) (aG (aQ (aO d b (aq (v_ 1) (aq (v_ 3) (aq (aS (aq (v_ 4) (aq (cX (v_ 5) (dG ax) dH) av))) av)))))) bP)
  (aG (aQ (aO d b (aq (v_ 1) (aq (v_ 3) (aq (aS (aq (wz Cv (fc (qJ rfl) rfl B.min (by rfl) (aq (bS (v_ 4) ax) (aq (dU (fT (v:=.int (9)) rfl h ⟨_,rfl⟩) λ_ _=>.int (9)) av)))) (aq (v_ 5) av))) av)))))))))
end
section
variable{P:Program}{w:World}{K:PySem.W.Frag}{mg:Str->Option Value}{base:Heap}{f:Addr}{fd:FuncData}
def BK:aN cg cg (aF qL):=fZ
def BQ(F:fq K "by_give" "by_give" qL f fd)(B:Bl mg)(b:pI P w K mg base):bO P w K mg base eN 4 f fd cg (fm ⟨K,mg⟩ 4 p8):=by
 refine bF F BK λd A a s H E c=> ?_
 exact(aG (aQ (aO b c (aq (v_ 0) (aq (v_ 1) (aq (aJ (v_ 3) ax) av))))))
def CV:aN cg cg (aF rg):=fZ
def CC(F:fq K "by_pass" "by_pass" rg f fd)(B:Bl mg)(d:Dx P w K mg base)(c:pI P w K mg base):bO P w K mg base eN 4 f fd cg (fm ⟨K,mg⟩ 4 p5):=by
 refine bF F CV λe A a s H E b=> ?_
 exact(aG (aQ (aO d b (aq (v_ 0) (aq (aO c b (aq (v_ 0) (aq (v_ 1) (aq (aJ (v_ 3) ax) av)))) (aq (v_ 2) (aq (aJ (v_ 3) ax) av)))))))
def Fu:aN cg cg (aF uo):=fZ
def EX(F:fq K "by_say" "by_say" uo f fd)(B:Bl mg):bO P w K mg base eN 1 f fd cg (fm ⟨K,mg⟩ 4 tF):=by
 refine bF F Fu λb A a s H E c=> ?_
 exact(aG (aQ (v_ 1)))
def rO:aN ["world","scene","hand","row","deed"] cg (aF oI):=fZ
def Bx(F:fq K "row_done" "row_done" oI f fd)(B:Bl mg)(e:∀x F,vq.lookup x=some F->fL P w K mg base 10 x cg F)(c:Ek P w K mg "DONE_BY" mT):bO P w K mg base eN 11 f fd cg (fm ⟨K,mg⟩ 4 ku):=by
 have b:=rO.nd
 refine bF F rO λg A a s H E d=> ?_
 exact(az (bI 4 b (JW c rfl (aJ (v_ 3) ax) (λ_ _=>rfl)))
  (aG (aQ (IV e (d.mono (by decide)) rfl (by first|exact Or.inl rfl|exact Or.inr (Or.inl rfl)) (aq (v_ 0) (aq (v_ 1) (aq (v_ 2) (aq (v_ 3) av)))) (mW (mW (mW (mW CY))))))))
def sN:aN ["world","scene","hand","values","frames","room","deed","row","given","told","outside","came_by"] dt (aF oF):=fZ
def Bo(F:fq K "end_deed" "end_deed" oF f fd)(B:Bl mg)(h:jE P w K mg base)(e:DZ P w K mg base)(d:i3 P w K mg base)(g:sH P w K mg base):bO P w K mg base eN 4 f fd dt (fm ⟨K,mg⟩ 3 kB):=by
 have a:=sN.nd
 refine bF F sN λi A c s H E b=> ?_
 exact(az (fY (aJ (aJ (v_ 1) ax) (v_ 2)) (cV rfl (aD (bK 3 a) (aD (bK 4 a) bT))))
  (az (fY (aJ (v_ 4) (vt ax)) (cV rfl (aD (bK 5 a) (aD (bK 6 a) (aD (bK 7 a) (aD (bK 8 a) (aD (bK 9 a) bT)))))))
  (az (bI 10 a (aO h b (aq (aO e b (aq (v_ 1) (aq (v_ 5) av))) (aq (v_ 2) (aq (v_ 3) (aq (cX (v_ 4) dH (dG (vt ax))) av))))))
  (az (bI 11 a (aJ (aO d b (aq (v_ 0) (aq (v_ 2) (aq (aJ (v_ 4) (vt ax)) av)))) (vZ (aJ (aJ (v_ 4) (vt ax)) ax) ax)))
  (az (cB (bN HH HS (aJ (v_ 11) ax) mM (aV _)) (aG (aQ (v_ 10))) bP)
  (aG (aQ (aO g b (aq (v_ 0) (aq (v_ 10) (aq (v_ 2) (aq (aJ (v_ 11) ax) (aq (v_ 9) av)))))))))))))
def vj:aN ["world","scene","hand","frame","room","program","row","event"] dt (aF rB):=fZ
def Cd(F:fq K "step_of" "step_of" rB f fd)(B:Bl mg)(n:ef P w K mg base)(h:wV P w K mg base)(l:i3 P w K mg base)(i:B8 P w K mg base)(d:ia P w K mg base)(k:Cu P w K mg base)(m:u9 P w K mg base){j:Tok}(e:mg "OWN"=some (.int (-1) j)):bO P w K mg base eN 12 f fd dt (fm ⟨K,mg⟩ 3 mK):=by
 have b:=vj.nd
 refine bF F vj λg A c s H E a=> ?_
 exact(az (bI 3 b (aO n a (aq (v_ 1) (aq (v_ 2) av))))
  (az (bI 4 b (aJ (v_ 3) ax))
  (az (cB (PW.pt (w_and (bN xX w6 (v_ 4) (dU (fT (v:=.int (-1)) rfl e ⟨_,rfl⟩) λ_ _=>.int (-1)) (aV _)) (gR (bN xX w6 (aJ (aJ (aJ (v_ 1) ax) (v_ 4)) ax) (v_ 2) (aV _))))) (aG (aQ (aS (aq (aO h a (aq (v_ 1) (aq (v_ 4) (aq (v_ 2) av)))) (aq mM av))))) bP)
  (az (bI 5 b (aO l a (aq (v_ 0) (aq (v_ 2) (aq (v_ 3) av)))))
  (az (cB (bN cP cO (aJ (v_ 3) ax) (iD rfl B.len (dM (v_ 5))) (aV _)) (aG (aQ (aS (aq (aO i a (aq (v_ 0) (aq (v_ 1) (aq (v_ 2) av)))) (aq mM av))))) bP)
  (az (bI 6 b (aJ (v_ 5) (aJ (v_ 3) ax)))
  (az (bI 7 b mM)
  (az (cB (bN cP cO (aJ (v_ 6) ax) bp (aV _)) (aG (bI 7 b (aS (aq (v_ 2) (aq (aO d a (aq (v_ 0) (aq (v_ 1) (aq (v_ 2) (aq (aJ (v_ 6) ax) av))))) av))))) bP)
  (aG (aQ (aS (aq (aO k a (aq (v_ 0) (aq (aO m a (aq (v_ 1) (aq (v_ 2) (aq (bS (aJ (v_ 3) ax) ax) av)))) (aq (v_ 2) (aq (v_ 6) av))))) (aq (v_ 7) av)))))))))))))
def CW:aN dt dt (aF qO):=fZ
def CK(F:fq K "stepped" "stepped" qO f fd)(B:Bl mg)(d:oQ P w K mg base)(c:wQ P w K mg base):bO P w K mg base eN 13 f fd dt (fm ⟨K,mg⟩ 3 pD):=by
 refine bF F CW λe A a s H E b=> ?_
 exact(az (cB (y6 (v_ 2) (j9 (jS d b (aq (v_ 0) (aq (v_ 1) av))))) (aG DB) bP)
  (aG (aQ (aO c b (aq (v_ 0) (aq (v_ 1) (aq (v_ 2) av)))))))
def xg:aN ["world","weaving","scene","events","place","hand","event"] zJ (aF uI):=fZ
def Ew(F:fq K "walked" "walked" uI f fd)(B:Bl mg)(h:D6 P w K mg base)(e:oQ P w K mg base)(d:wQ P w K mg base):bO P w K mg base eN 13 f fd zJ (fm ⟨K,mg⟩ 2 tH):=by
 have a:=xg.nd
 refine bF F xg λg A c s H E b=> ?_
 exact(az (bI 2 a (aO h b (aq (v_ 0) av)))
  (az (bI 3 a (cN (df av)))
  (az (hG PassesOwn.never rfl (KP rfl B.enum (dM (v_ 1))) (cV rfl (aD (bK 4 a) (aD (bK 5 a) bT))) (az (cB (y6 (v_ 5) (j9 (jS e b (aq (v_ 0) (aq (v_ 2) av))))) (aG DB) bP)
  (az (fY (aO d b (aq (v_ 0) (aq (v_ 2) (aq (v_ 5) av)))) (cV rfl (aD (bK 2 a) (aD (bK 6 a) bT))))
  (aG (cB (bN tM tT (v_ 6) mM (aV _)) (aG (c_ (cR (v_ 3) (v_ 6)))) bP)))))
  (aG (aQ (aS (aq (v_ 2) (aq (cC rfl B.tuple (uq (dM (v_ 3))) (ht:=fG)) av))))))))
def GG:aN ["_law_script","_law_k","_law_pot_here","_law_world_here","_law_stem","_law_other_here","_law_scene","_law_weaving","_law_events","_law_last","_law_turn","_law_some","_law_event","_law_own_here","_law_told_here"] Gb (aF qk):=fZ
def LV(F:fq K "law" "law" qk f fd)(B:Bl mg)(q:BR P w K mg base)(m:qM P w K mg base)(o:eS P w K mg base)(h:zH P w K mg base)(n:D6 P w K mg base)(g:oQ P w K mg base)(l:BH P w K mg base)(k:ES P w K mg base)(e:AB P w K mg base)(i:F9 P w K mg base)(d:Hr P w K mg base):bO P w K mg base eN 14 f fd Gb (fm ⟨K,mg⟩ 1 JI):=by
 have a:=GG.nd
 refine bF F GG λj A c s H E b=> ?_
 have p:=b.units0
 exact(az (hG PassesOwn.never rfl (mr rfl B.range (wz GU (fc (xc rfl) rfl B.max (by rfl) (aq ax (aq (wz Cv (fc (qJ rfl) rfl B.min (by rfl) (aq (iD rfl B.len (dM (v_ 0))) (aq ax av)))) av))))) (bK 1 a) (az (bI 2 a (cN (jS q b (aq (v_ 0) (aq (v_ 1) av)))))
  (az (bI 3 a (aO m b (aq (v_ 2) av)))
  (az (bI 4 a (aO o b (aq (v_ 2) (aq bp av))))
  (az (bI 5 a (aO h b (aq (v_ 4) (aq (v_ 3) av))))
  (az (bI 6 a (aO n b (aq (v_ 3) av)))
  (az (fY (aS (aq (aS av) (aq (aS av) av))) (cV rfl (aD (bK 7 a) (aD (bK 8 a) bT))))
  (az (bI 9 a (vt ax))
  (az (hG PassesOwn.never rfl (mr rfl B.range ax) (bK 10 a) (az (bI 11 a (cN (jS g b (aq (v_ 3) (aq (v_ 6) av)))))
  (aG (cB (gq p (dM (v_ 11))) (az (bI 9 a (aO l b (aq (v_ 2) (aq (v_ 11) (aq (v_ 9) av)))))
  (az (fY (aO k b (aq (v_ 3) (aq (v_ 6) (aq (v_ 9) av)))) (cV rfl (aD (bK 6 a) (aD (bK 12 a) bT))))
  (az (bI 7 a (bS (v_ 7) (aS (aq (v_ 9) av))))
  (aG (bI 8 a (bS (v_ 8) (cC rfl B.tuple (j9 (de (N:= ["_law_one"]) (js:= [none]) (aZ.gen rfl rfl rfl rfl rfl rfl) rfl (dv (j9 (df (aq (v_ 12) av)))) (λ_ _ _ _=>(e_ 0)) (λ_ _ _ _=>(Gq (bN tM tT (v_ 0) mM (aV _)))) (λ_ _ _ _=>(v_ 0)))) (ht:=dA)))))))) bP))))
  (az (cB (BB (jO (aO e b (aq (aO i b (aq (v_ 5) (aq (v_ 7) av))) (aq (aS (aq (v_ 6) (aq (v_ 8) av))) av))))) (aG (aQ JN)) bP)
  (aG (hG PassesOwn.never rfl (mr rfl B.range (iD rfl B.len (dM (aJ (v_ 3) ax)))) (bK 13 a) (az (bI 14 a (aO d b (aq (v_ 3) (aq (v_ 6) (aq (v_ 13) av)))))
  (aG (cB (BB (jO (aO e b (aq (aO d b (aq (v_ 5) (aq (v_ 6) (aq (v_ 13) av)))) (aq (bS (cX (v_ 14) dH (dG ax)) (cC rfl B.tuple (j9 (de (N:= ["_law_word","_law_stem"]) (js:= [none,some 4]) (aZ.gen rfl rfl rfl rfl rfl rfl) rfl (dv (dM (cX (v_ 14) (dG ax) dH))) (λ_ _ _ _=>(e_ 0)) (λ_ _ _ _=>eR) (λ_ _ _ _=>(bS (v_ 1) (v_ 0))))) (ht:=dA))) av))))) (aG (aQ JN)) bP)))))))))))))))
  (aG (aQ JN)))
end
def all_mk{l:PySem.W.OpenLaw}{w:World}{K:PySem.W.Frag}{h:Heap}{mg:Str->Option Value}{fa f1 f2 f3 f4 f5 f6 f7 f8 f9 t0 r2 b7 q6 k1 o8 b6 x4 j4 r7 l9 a5 t4 m2 n2 h9 b2 k3 s3 o6 s7 c4 f0 h8 q2 p2 l5 p1 n5 x0 u1 a3 w7 b8 P R l3 r o3 c2 i2 N L I t h4 q3 a0 a7 Y u n e5 b0 k4 k5 b1 g:Addr}(X:K.In h)(G:h.Ns mainGlobals mg)(g1:mg "law"=some (.ref fa))
  (d1:bA K "_law_pot" n_ f1)
  (d2:bA K "_law_take" mz f2)
  (d3:bA K "_law_words" kM f3)
  (d4:bA K "_law_pick" mj f4)
  (d5:bA K "_law_sum" nW f5)
  (d6:bA K "_law_waits" kC f6)
  (d7:bA K "_law_do" q_ f7)
  (d8:bA K "_law_deed" lV f8)
  (d9:bA K "_law_room" lS f9)
  (g0:bA K "_law_rooms" kD t0)
  (v6:bA K "_law_own" oO r2)
  (t2:bA K "_law_world" kE b7)
  (s1:bA K "_law_any_world" hZ q6)
  (n1:bA K "_law_told" mO k1)
  (u2:bA K "_law_turned" jT o8)
  (h5:bA K "_law_programs" iK b6)
  (s8:bA K "_law_pairs" kL x4)
  (r0:bA K "_law_other" kX j4)
  (q7:bA K "values_of" mh r7)
  (o1:bA K "begun_room" kK l9)
  (i5:bA K "begun" yu a5)
  (e4:bA K "hands_at" oP t4)
  (b4:bA K "hands_in_rows" iI m2)
  (q5:bA K "last_frame" kO n2)
  (o9:bA K "program_of" kJ h9)
  (i1:bA K "is_behind_all" iL b2)
  (e9:bA K "may_step" oB k3)
  (e2:bA K "_law_same" mP s3)
  (s9:bA K "place_in_a_row" hU o6)
  (k2:bA K "stands" vp s7)
  (o7:bA K "_law_next" mF c4)
  (a8:bA K "names_of" n0 f0)
  (l8:bA K "place_of" oZ h8)
  (g5:bA K "with_part" mi q2)
  (b3:bA K "with_hand" me p2)
  (j1:bA K "with_room" mC l5)
  (x3:bA K "put_thing" lW p1)
  (n7:bA K "value_of_two" jt n5)
  (l2:bA K "value_of" oM x0)
  (a6:bA K "reckoned" oN u1)
  (s4:bA K "by_put" v7 a3)
  (w3:bA K "with_last_frame" gU w7)
  (w1:bA K "at_row" uQ b8)
  (x5:bA K "by_unless" lP P)
  (w5:bA K "by_go" yP R)
  (b5:bA K "come_in" qP l3)
  (e7:bA K "by_do" y3 r)
  (n9:bA K "bell_of" qC o3)
  (k6:bA K "with_line" mN c2)
  (s6:bA K "leave" zd i2)
  (c6:bA K "by_wait" rq N)
  (r9:bA K "by_call" qQ L)
  (t3:bA K "by_all" ug I)
  (j5:bA K "by_tell" rj t)
  (n4:bA K "with_pass" lY h4)
  (n8:bA K "taken" yg q3)
  (o5:bA K "by_take" rp a0)
  (w0:bA K "given_back" lz a7)
  (g3:bA K "by_give" qL Y)
  (h7:bA K "by_pass" rg u)
  (o0:bA K "by_say" uo n)
  (c5:bA K "row_done" oI e5)
  (n3:bA K "end_deed" oF b0)
  (r1:bA K "step_of" rB k4)
  (v2:bA K "stepped" qO k5)
  (h0:bA K "walked" uI b1)
  {oc kV dc pm cd ct:Value} {od an:Option Addr} {sl:Array (Option Value)} (p4:PySem.W.nsIn K mainGlobals "law"=some (some (.ref g))) (e6:K.lookup g=some ⟨oc,od,.func (PySem.W.fnOf "law" "law" (iZ qk) (gV qk) (aF qk) .none kV dc pm an cd ct),sl⟩) (k9:PySem.W.codeIn K cd "law"=true) (m0:PySem.W.keepIn K (.ref g)=true)
  {ju:Tok} (Ib:PySem.W.nsIn K mainGlobals "NOBODY"=some (some (.int (-1) ju)))
  {jg:Tok} (Mc:PySem.W.nsIn K mainGlobals "OWN"=some (some (.int (-1) jg)))
  {kj:Tok} (FD:PySem.W.nsIn K mainGlobals "HIGHEST"=some (some (.int (9) kj)))
  {xl Cg:Nat} {yZ yE y_ yq yA yt y4 yD yh ye wM wo:Tok} (Fp:PySem.W.nsIn K mainGlobals "DONE_BY"=some (some (.ref xl))) (Cf:K.lookup xl=some ⟨.type "dict",none,.dict (List.toArray [⟨PyData.keyHash w.params "put",.str "put" yZ,.ref a3⟩,⟨PyData.keyHash w.params "unless",.str "unless" yE,.ref P⟩,⟨PyData.keyHash w.params "go",.str "go" y_,.ref R⟩,⟨PyData.keyHash w.params "do",.str "do" yq,.ref r⟩,⟨PyData.keyHash w.params "wait",.str "wait" yA,.ref N⟩,⟨PyData.keyHash w.params "call",.str "call" yt,.ref L⟩,⟨PyData.keyHash w.params "all",.str "all" y4,.ref I⟩,⟨PyData.keyHash w.params "tell",.str "tell" yD,.ref t⟩,⟨PyData.keyHash w.params "take",.str "take" yh,.ref a0⟩,⟨PyData.keyHash w.params "give",.str "give" ye,.ref Y⟩,⟨PyData.keyHash w.params "pass",.str "pass" wM,.ref u⟩,⟨PyData.keyHash w.params "say",.str "say" wo,.ref n⟩]) Cg,#[]⟩)
  (MH:PySem.W.nsIn K mainGlobals "len"=some none) (I_:PySem.W.nsIn K mainGlobals "tuple"=some none) (LS:PySem.W.nsIn K mainGlobals "list"=some none) (LO:PySem.W.nsIn K mainGlobals "dict"=some none) (Nt:PySem.W.nsIn K mainGlobals "set"=some none) (My:PySem.W.nsIn K mainGlobals "int"=some none) (L5:PySem.W.nsIn K mainGlobals "str"=some none) (LA:PySem.W.nsIn K mainGlobals "bool"=some none) (M6:PySem.W.nsIn K mainGlobals "all"=some none) (Ms:PySem.W.nsIn K mainGlobals "any"=some none) (IS:PySem.W.nsIn K mainGlobals "range"=some none) (MN:PySem.W.nsIn K mainGlobals "zip"=some none) (Ie:PySem.W.nsIn K mainGlobals "sorted"=some none) (y7:PySem.W.nsIn K mainGlobals "isinstance"=some none) (Nr:PySem.W.nsIn K mainGlobals "min"=some none) (MR:PySem.W.nsIn K mainGlobals "max"=some none) (Me:PySem.W.nsIn K mainGlobals "abs"=some none) (z_:PySem.W.nsIn K mainGlobals "enumerate"=some none)
  (T:∀ns:List Int,ns.length<=63->∃S',JI [.ref 0] [.frz (ns.map D.int)]=some (.d (.bl true),S')):
  ∃fd:FuncData,(∀(s:Shared) (v:Value),BindsTo s fd ⟨[v],[]⟩ [("_law_script",v)])/\∀base:Heap,K.In base->base.Ns mainGlobals mg->bO l.prog w K mg base eN 14 fa fd Gb BE:=by
 have e:=g1.symm.trans (PySem.W.mg_of X G p4)
 cases e
 have v3:=B6 (st:=qk) e6 k9 m0
 have O1:=d1.ok1 (ps:=D2) X G
 have O2:=d2.ok1 (ps:=DA) X G
 have O3:=d3.ok1 (ps:=DN) X G
 have O4:=d4.ok1 (ps:=AY) X G
 have O5:=d5.ok1 (ps:=xi) X G
 have O6:=d6.ok1 (ps:=Du) X G
 have O7:=d7.ok1 (ps:=C7) X G
 have O8:=d8.ok1 (ps:=D9) X G
 have O9:=d9.ok1 (ps:=DJ) X G
 have l7:=g0.ok1 (ps:=DE) X G
 have x2:=v6.ok1 (ps:=C2) X G
 have r3:=t2.ok1 (ps:=C_) X G
 have s2:=s1.ok1 (ps:=C4) X G
 have r4:=n1.ok1 (ps:=u_) X G
 have q9:=u2.ok1 (ps:=Di) X G
 have t1:=h5.ok1 (ps:=nz) X G
 have w8:=s8.ok1 (ps:=nz) X G
 have h2:=r0.ok1 (ps:=Eg) X G
 have q4:=q7.ok1 (ps:=Ah) X G
 have m1:=o1.ok1 (ps:=BC) X G
 have c0:=i5.ok1 (ps:=zx) X G
 have q8:=e4.ok1 (ps:=zP) X G
 have h3:=b4.ok1 (ps:=DV) X G
 have v0:=q5.ok1 (ps:=Aw) X G
 have l0:=o9.ok1 (ps:=Dt) X G
 have v4:=i1.ok1 (ps:=dt) X G
 have e8:=e9.ok1 (ps:=ym) X G
 have e0:=e2.ok1 (ps:=Cn) X G
 have l1:=s9.ok1 (ps:=dt) X G
 have p3:=k2.ok1 (ps:=dt) X G
 have r6:=o7.ok1 (ps:=Am) X G
 have w2:=a8.ok1 (ps:=Bj) X G
 have e1:=l8.ok1 (ps:=BD) X G
 have s5:=g5.ok1 (ps:=AV) X G
 have a9:=b3.ok1 (ps:=Bu) X G
 have g2:=j1.ok1 (ps:=A8) X G
 have o2:=x3.ok1 (ps:=zG) X G
 have o4:=n7.ok1 (ps:=Ac) X G
 have g4:=l2.ok1 (ps:=xV) X G
 have u8:=a6.ok1 (ps:=yf) X G
 have C:=s4.ok1 (ps:=cg) X G
 have l4:=w3.ok1 (ps:=Ef) X G
 have l6:=w1.ok1 (ps:=D8) X G
 have z:=x5.ok1 (ps:=cg) X G
 have a1:=w5.ok1 (ps:=cg) X G
 have h6:=b5.ok1 (ps:=Ei) X G
 have y:=e7.ok1 (ps:=cg) X G
 have e3:=n9.ok1 (ps:=yM) X G
 have c3:=k6.ok1 (ps:=C9) X G
 have v1:=s6.ok1 (ps:=De) X G
 have H:=c6.ok1 (ps:=cg) X G
 have M:=r9.ok1 (ps:=cg) X G
 have q:=t3.ok1 (ps:=cg) X G
 have U:=j5.ok1 (ps:=cg) X G
 have q1:=n4.ok1 (ps:=A0) X G
 have c1:=n8.ok1 (ps:=Ds) X G
 have a4:=o5.ok1 (ps:=cg) X G
 have n6:=w0.ok1 (ps:=yj) X G
 have a2:=g3.ok1 (ps:=cg) X G
 have S:=h7.ok1 (ps:=cg) X G
 have J:=o0.ok1 (ps:=cg) X G
 have x1:=c5.ok1 (ps:=cg) X G
 have k7:=n3.ok1 (ps:=dt) X G
 have h1:=r1.ok1 (ps:=dt) X G
 have r5:=v2.ok1 (ps:=dt) X G
 have s0:=h0.ok1 (ps:=zJ) X G
 have g7:=PySem.W.mg_of X G Ib
 have i:=PySem.W.mg_of X G Mc
 have jd:=PySem.W.mg_of X G FD
 have rf:Ek l.prog w K mg "DONE_BY" mT:=GZ (PySem.W.mg_of X G Fp) Cf (.cons C.m (.cons z.m (.cons a1.m (.cons y.m (.cons H.m (.cons M.m (.cons q.m (.cons U.m (.cons a4.m (.cons a2.m (.cons S.m (.cons J.m .nil)))))))))))) (by decide +kernel)
 have B:Bl mg:=⟨QFq X G MH,QFq X G I_,QFq X G LS,QFq X G LO,QFq X G Nt,QFq X G My,QFq X G L5,QFq X G LA,QFq X G M6,QFq X G Ms,QFq X G IS,QFq X G MN,QFq X G Ie,QFq X G y7,QFq X G Nr,QFq X G MR,QFq X G Me,QFq X G z_⟩
 refine⟨PySem.W.fnOf "law" "law" (iZ qk) (gV qk) (aF qk) .none kV dc pm an cd ct,λs v=>.of_eq rfl,λbase _ _=> ?_⟩
 have Z:Pk l.prog w base:=⟨⟩
 have oH:=O1.cal Z λ_ F _ _ _=>zY F B
 have a:=O2.cal Z λ_ F _ _ _=>zE F B
 have cy:=O3.cal Z λ_ F _ _ _=>wJ F B a
 have f:=O4.cal Z λ_ F _ _ _=>yG F B a
 have bL:=O5.cal Z λ_ F b k m=>rQ F B a f b k m 4
 have lE:=O6.cal Z λ_ F _ _ _=>wA F B bL a f
 have je:=O7.cal Z λ_ F _ _ _=>BM F B f bL
 have mE:=O8.cal Z λ_ F _ _ _=>zz F B a lE f je bL
 have mI:=O9.cal Z λ_ F _ _ _=>zw F B f cy a mE
 have k0:=l7.cal Z λ_ F _ _ _=>wD F B cy a mI
 have nZ:=x2.cal Z λ_ F _ _ _=>zU F B a je f bL
 have k_:=r3.cal Z λ_ F _ _ _=>wO F B cy a nZ
 have hX:=s2.cal Z λ_ F _ _ _=>pQ F B k0 a k_
 have eT:=r4.cal Z λ_ F b k m=>pM F B b k m 6
 have fh:=q9.cal Z λ_ F _ _ _=>vb F B eT
 have iR:=t1.cal Z λ_ F _ _ _=>rA F B fh
 have dS:=w8.cal Z λ_ F _ _ _=>wm F B
 have lC:=h2.cal Z λ_ F _ _ _=>wa F B iR dS fh
 have fD:=q4.cal Z λ_ F _ _ _=>yW F B
 have kH:=m1.cal Z λ_ F _ _ _=>wg F B fD g7
 have m3:=c0.cal Z λ_ F _ _ _=>F2 F B fD kH i
 have ie:=q8.cal Z λ_ F _ _ _=>AO F B
 have iQ:=h3.cal Z λ_ F _ _ _=>qW F B ie
 have c:=v0.cal Z λ_ F _ _ _=>wy F B
 have cK:=l0.cal Z λ_ F _ _ _=>wj F B i
 have iJ:=v4.cal Z λ_ F _ _ _=>qS F B c cK i
 have eY:=e8.cal Z λ_ F _ _ _=>AS F B iQ iJ
 have gM:=e0.cal Z λ_ F b k m=>pO F B b k m 10
 have hV:=l1.cal Z λ_ F _ _ _=>pw F B ie
 have p_:=p3.cal Z λ_ F _ _ _=>Eu F B hV c cK i
 have lU:=r6.cal Z λ_ F _ _ _=>zh F B a f
 have du:=w2.cal Z λ_ F _ _ _=>Bf F B
 have A:=e1.cal Z λ_ F _ _ _=>BG F B du
 have o:=s5.cal Z λ_ F _ _ _=>zq F B
 have cZ:=a9.cal Z λ_ F _ _ _=>y0 F B o
 have Q:=g2.cal Z λ_ F _ _ _=>yx F B o
 have gL:=o2.cal Z λ_ F _ _ _=>zK F B c A o Q du cZ i
 have gY:=o4.cal Z λ_ F _ _ _=>tm F B jd
 have gD:=g4.cal Z λ_ F b k m=>sk F B gY b k m 6
 have j:=u8.cal Z λ_ F _ _ _=>Af F B c du gD i
 have Ii:=C.cal Z λ_ F _ _ _=>E3 F B gL j
 have dr:=l4.cal Z λ_ F _ _ _=>oA F B cZ
 have gZ:=l6.cal Z λ_ F _ _ _=>FM F B c dr
 have zZ:=z.cal Z λ_ F _ _ _=>yU F B j gZ
 have JP:=a1.cal Z λ_ F _ _ _=>Hc F B gZ
 have jc:=h6.cal Z λ_ F _ _ _=>Cb F B Q g7
 have Jp:=y.cal Z λ_ F _ _ _=>HW F B A j jc cZ
 have fN:=e3.cal Z λ_ F _ _ _=>CZ F B c A
 have eg:=c3.cal Z λ_ F _ _ _=>yQ F B Q o
 have mY:=v1.cal Z λ_ F _ _ _=>HE F B Q g7
 have EJ:=H.cal Z λ_ F _ _ _=>CS F B fN j eg mY
 have FC:=M.cal Z λ_ F _ _ _=>Co F B fN eg Q
 have HL:=q.cal Z λ_ F _ _ _=>E_ F B fN eg
 have EW:=U.cal Z λ_ F _ _ _=>C0 F B j dr c
 have eP:=q1.cal Z λ_ F _ _ _=>yb F B o
 have m4:=c1.cal Z λ_ F _ _ _=>GQ F B A eP
 have FH:=a4.cal Z λ_ F _ _ _=>Cy F B m4
 have fQ:=n6.cal Z λ_ F _ _ _=>wH F B A eP jd
 have Fj:=a2.cal Z λ_ F _ _ _=>BQ F B fQ
 have E6:=S.cal Z λ_ F _ _ _=>CC F B m4 fQ
 have Hs:=J.cal Z λ_ F _ _ _=>EX F B
 have uB:∀x F,vq.lookup x=some F->fL l.prog w K mg base 10 x cg F:=by
  refine HK λp hp=> ?_
  simp only[vq,Qsq,QXq,or_false] at hp
  rcases hp with rfl|rfl|rfl|rfl|rfl|rfl|rfl|rfl|rfl|rfl|rfl|rfl
  ·exact Ii.mono (by decide)
  ·exact zZ.mono (by decide)
  ·exact JP.mono (by decide)
  ·exact Jp.mono (by decide)
  ·exact EJ.mono (by decide)
  ·exact FC.mono (by decide)
  ·exact HL.mono (by decide)
  ·exact EW.mono (by decide)
  ·exact FH.mono (by decide)
  ·exact Fj.mono (by decide)
  ·exact E6.mono (by decide)
  ·exact Hs.mono (by decide)
 have oz:=x1.cal Z λ_ F _ _ _=>Bx F B uB rf
 have oo:=k7.cal Z λ_ F _ _ _=>Bo F B cZ mY cK gL
 have i_:=h1.cal Z λ_ F _ _ _=>Cd F B c jc cK oo j oz gZ i
 have qN:=r5.cal Z λ_ F _ _ _=>CK F B eY i_
 have vh:=s0.cal Z λ_ F _ _ _=>Ew F B m3 eY i_
 exact JA (LV v3 B oH hX f lC m3 eY lU qN gM vh p_) T
end W28
namespace DL
open PySem PySem.Spec L2
def yS{a:dw}{S:aL}{Q:Bool->aL->Prop}(q:Q true S):E cW a S Q:=⟨_,_,rfl,q⟩
section
variable{S:aL}
def OA{i j:Int}{Q:D->Prop}(q:Q (.int (i+j))):Op (b_ S (.int i) (.int j)) Q:=⟨_,rfl,q⟩
def FW{i j:Str}{Q:D->Prop}(h:i.length+j.length<=sizeLine)(q:Q (.str (i++j))):Op (b_ S (.str i) (.str j)) Q:=⟨_,by simp only[b_];rw[Qhq h],q⟩
def dB{i j:List D}{Q:D->Prop}(h:i.length+j.length<=sizeLine)(q:Q (.tup (i++j))):Op (b_ S (.tup i) (.tup j)) Q:=⟨_,by simp only[b_];rw[Qhq h],q⟩
def KA{k:Int->Int->D}{i j:Int}{Q:D->Prop}(q:Q (k i j)):Op (intD (λ_ _=>True) k S (.int i) (.int j)) Q:=⟨_,by simp only[intD,if_true],q⟩
def vP{i j:Int}{Q:D->Prop}(h:0<j)(q:Q (.int (i%j))):Op (sV S (.int i) (.int j)) Q:=⟨_,by simp only[sV,intD];rw[Qhq h],q⟩
def HG{i j:Int}{Q:D->Prop}(h:Gk i j)(q:Q (.int (i/j))):Op (Be S (.int i) (.int j)) Q:=⟨_,by simp only[Be,intD];rw[Qhq h],q⟩
def xj{i j:Int}{Q:D->Prop}(h:Je i j)(q:Q (.int (i*j))):Op (oS S (.int i) (.int j)) Q:=⟨_,by simp only[oS,intD];rw[Qhq h.ok],q⟩
def aA{ds:List D}{i:Int}{d:D}{Q:D->Prop}(h:lL ds i=some d)(q:Q d):Op (bg S (.tup ds) (.int i)) Q:=⟨_,h,q⟩
def gW{k:Nat}{ds:List D}{i:Int}{d:D}{Q:D->Prop}(a:S[k]?=some (.lst ds))(h:lL ds i=some d)(q:Q d):Op (bg S (.ref k) (.int i)) Q:=⟨_,by simp only[bg,a];exact h,q⟩
def cH{ds:List D}{Q:List D×Tag->Prop}(q:Q (ds,.tu)):Op (pz S (.tup ds)) Q:=⟨_,rfl,q⟩
def cE{k:Nat}{ds:List D}{Q:List D×Tag->Prop}(a:S[k]?=some (.lst ds))(q:Q (ds,.st k)):Op (pz S (.ref k)) Q:=⟨_,by simp only[pz,a],q⟩
def KZ{α:Type}{o:Option α}{d:α}{Q:α->Prop}(h:o=some d)(q:Q d):Op o Q:=⟨d,h,q⟩
end
def aW{b:Bool}{p q:Prop}(a:b=true->p)(c:b=false->q):if b=true then p else q:=by
 cases b with
 |true=>exact a rfl
 |false=>exact c rfl
end DL
local macro_rules|`(tactic|symm)=>`(tactic|repeat(first|(with_reducible first|refine DL.bH ?_|refine DL.dk ?_|refine DL.j3 ?_|refine DL.Og ?_|refine DL.Gi ?_|refine DL.OW ?_|refine DL.jq ?_|refine DL.cz ?_|refine DL.ON ?_|refine DL.g_ ?_|refine DL.qp ?_|refine DL.fI ?_|refine DL.nO ?_|refine DL.DX ?_|refine DL.IC ?_|refine DL.OF ?_|refine DL.N9 ?_|refine DL.iq ?_|refine DL.uS ?_|refine DL.Ox ?_|refine DL.my ?_|refine DL.LZ ?_|refine DL.Dy ?_|refine DL.BL ?_|refine DL.Nw ?_|refine DL.dI ?_|refine DL.Mt ?_|refine DL.K8 ?_|refine DL.yo ?_|refine DL.rT ?_|refine DL.OG ?_|refine DL.yS ?_|refine DL.bh ?_|refine DL.OT ?_|refine DL.Gy ?_|refine DL.tf ?_|refine DL.OA ?_|refine DL.KA ?_|refine DL.cH ?_)|((with_reducible refine DL.bj (d := ?_) ?_ ?_); rotate_left; rfl)|dsimp only))
local macro_rules|`(tactic|apply $e)=>`(tactic|(refine $e;symm))
namespace W28
open PySem PySem.Spec L2 DL
noncomputable def qd(a b c:Int):O:=.lst [.int a,.int b,.int c]
def Fv{S:aL}{k:Nat}{a b p m:Int}{Q:Res->aL->Prop}(e:S[k]?=some (qd a b p))(f:0<m)(s:m<1000000)
  (h:∀(d q r n:Int),0<=d->d<m->Q (.d (.int d)) (S.set k (qd q r n))):Fn aM [.ref k,.int m] S Q:=by
 have l:k<S.length:=(gQs.mp e).1
 have j:∀(o:O),(S.set k o).take S.length=S.set k o:=λo=>by rw[List.take_of_length_le];simp
 refine cf ?_
 unfold uu
 symm
 refine gW e rfl ?_
 symm
 refine aW (λc=> ?_) (λc=> ?_)
 ·symm
  refine gW e rfl ?_
  symm
  refine vP f ?_
  symm
  refine gW e rfl ?_
  symm
  refine HG ⟨f,by omega⟩ ?_
  symm
  refine⟨_,_,_,_,rfl,rfl,e,rfl,?_⟩
  symm
  refine jb (xw (by rfl)) (j _) (λ_ z=>by cases z) rfl ?_
  exact h _ _ _ _ (Int.emod_nonneg _ (by omega)) (Int.emod_lt_of_pos _ f)
 ·symm
  refine⟨_,_,_,_,rfl,rfl,e,by decide,rfl,?_⟩
  symm
  refine⟨_,_,_,rfl,e,rfl,?_⟩
  have g:∀o:O,(S.set k o)[k]?=some o:=λo=>by rw[Qyq l]
  symm
  refine gW (g _) rfl ?_
  symm
  refine xj (.inr ⟨by decide,by decide⟩) ?_
  symm
  refine gW (g _) rfl ?_
  refine xj (.inl ⟨by decide,by decide⟩) ?_
  symm
  refine vP (by decide) ?_
  generalize i:(b*69069+9973*_+5)%2305843009213693921=mx
  have u:0<=mx:=by rw[←i];exact Int.emod_nonneg _ (by decide)
  have t:mx<2305843009213693921:=by rw[←i];exact Int.emod_lt_of_pos _ (by decide)
  symm
  refine vP (by decide) ?_
  symm
  refine gW (g _) rfl ?_
  refine xj (.inl ⟨by decide,by decide⟩) ?_
  symm
  refine xj (.inl ⟨by omega,by omega⟩) ?_
  symm
  refine vP (by decide) ?_
  symm
  refine⟨_,_,_,_,rfl,rfl,g _,rfl,?_⟩
  symm
  refine gW (by rw[List.set_set];exact g _) rfl ?_
  symm
  refine HG ⟨by decide,by decide⟩ ?_
  symm
  refine vP f ?_
  symm
  rw[List.set_set]
  refine jb (xw (by rfl)) (j _) (λ_ z=>by cases z) rfl ?_
  exact h _ _ _ _ (Int.emod_nonneg _ (by omega)) (Int.emod_lt_of_pos _ f)
structure Ex(k:Nat)(S S':aL):Prop where
 len:S.length<=S'.length
 keep:∀(j:Nat) (o:O),j≠k->S[j]?=some o->S'[j]?=some o
 pot:∃a b c,S'[k]?=some (qd a b c)
def Ex.refl{k:Nat}{S:aL}{a b c:Int}(h:S[k]?=some (qd a b c)):Ex k S S:=⟨Qmq _,λ_ _ _ h=>h,_,_,_,h⟩
def Ex.trans{k:Nat}{S a S2:aL}(x:Ex k S a)(y:Ex k a S2):Ex k S S2:=⟨QAq x.len y.len,λj o n h=>y.keep j o n (x.keep j o n h),y.pot⟩
def Ex.set{k:Nat}{S d:aL}{a b c:Int}(x:Ex k S d):Ex k S (d.set k (qd a b c)):=by
 obtain⟨_,_,_,h⟩:=x.pot
 refine⟨by simpa using x.len,λj o n h=> ?_,a,b,c,Qyq (gQs.mp h).1⟩
 rw[QKq (Ne.symm n)]
 exact x.keep j o n h
def Ex.app{k:Nat}{S d G:aL}(x:Ex k S d):Ex k S (d++G):=by
 obtain⟨a,b,c,h⟩:=x.pot
 refine⟨by rw[lQa];have:=x.len;omega,λj o n h=> ?_,a,b,c,?_⟩
 ·have:=x.keep j o n h
  rw[QHq (gQs.mp this).1]
  exact this
 ·rw[QHq (gQs.mp h).1]
  exact h
def Ex.put{k r:Nat}{S d:aL}{o:O}(x:Ex k S d)(f:S.length<=r)(g:k<S.length):Ex k S (d.set r o):=by
 obtain⟨a,b,c,h⟩:=x.pot
 refine⟨by simpa using x.len,λj e n h=> ?_,a,b,c,?_⟩
 ·have i:=(gQs.mp h).1
  rw[QKq (by omega)]
  exact x.keep j e n h
 ·rw[QKq (by omega)]
  exact h
def Ex.lt{k:Nat}{S d:aL}(x:Ex k S d):k<d.length:=by
 obtain⟨a,b,c,h⟩:=x.pot
 exact(gQs.mp h).1
def bz{S G:aL}{j:Nat}{o:O}(h:S[j]?=some o):(S++G)[j]?=some o:=by
 rw[QHq (gQs.mp h).1]
 exact h
def a_{S:aL}{o:O}:(S++ [o])[S.length]?=some o:=by simp
def gc{S:aL}{k j:Nat}{o a:O}(n:j≠k)(h:S[j]?=some o):(S.set k a)[j]?=some o:=by
 rw[QKq (Ne.symm n)]
 exact h
def dj{S:aL}{j:Nat}{o a:O}(h:S[j]?=some o):(S.set j a)[j]?=some a:=Qyq (gQs.mp h).1
def Ex.clean{k:Nat}{S f:aL}(x:Ex k S f)(l:k<S.length):qi S f/\∃a b c,f.take S.length=S.set k (qd a b c):=by
 obtain⟨a,b,c,h⟩:=x.pot
 have g:∀j,j<S.length->f[j]?=(S.set k (qd a b c))[j]? :=λj d=>by
  by_cases e:j=k
  ·subst e
   rw[h,Qyq d]
  ·rw[QKq (Ne.symm e),x.keep j _ e (gQe d),gQe d]
 refine⟨⟨x.len,λj o d e=> ?_⟩,a,b,c,?_⟩
 ·by_cases i:j=k
  ·subst i
   rw[h] at e
   cases e
   exact .inr rfl
  ·rw[x.keep j _ i (gQe d)] at e
   rw[gQe d]
   exact .inl e
 ·apply List.ext_getElem?
  intro j
  by_cases d:j<S.length
  ·rw[List.getElem?_take_of_lt d]
   exact g j d
  ·rw[List.getElem?_eq_none (by rw[Qxq];omega),List.getElem?_eq_none (by simp;omega)]
def lI{k:Nat}{S e:aL}{d:D}{Q:Res->aL->Prop}(x:Ex k S e)(h:k<S.length)(hd:∀k,d≠.ref k)(g:cq S.length d=true)(q:∀a b c,Q (.d d) (S.set k (qd a b c))):Op (settle S d e) λp=>Q p.1 p.2:=by
 obtain⟨i,a,b,c,f⟩:=x.clean h
 exact jb i f hd g (q a b c)
def J2{k:Nat}{S d:aL}{ds:List D}{Q:Res->aL->Prop}(x:Ex k S d)(f:k<S.length)(g:cj S.length ds=true)(q:∀a b c,Q (.l ds) (S.set k (qd a b c))):Op (eX S ds d) λp=>Q p.1 p.2:=by
 obtain⟨h,a,b,c,e⟩:=x.clean f
 exact nY h e g (q a b c)
def bX{S S0:aL}{k:Nat}{m:Int}{Q:Res->aL->Prop}(x:Ex k S0 S)(i:0<m)(g:m<1000000)
  (h:∀(d:Nat) (e:aL),(d:Int)<m->Ex k S0 e->Ex k S e->e.length=S.length->Q (.d (.int d)) e):Fn aM [.ref k,.int m] S Q:=by
 obtain⟨a,b,c,f⟩:=x.pot
 refine Fv f i g λd p q l o j=> ?_
 obtain⟨n,rfl⟩:∃n:Nat,d=n:=⟨d.toNat,by omega⟩
 exact h n _ j x.set (Ex.refl f).set (by simp)
def bD{α:Type}{xs:List α}{j:Nat}{x:α}(h:xs[j]?=some x):lL xs (j:Int)=some x:=by
 have a:=(gQs.mp h).1
 unfold lL FJ
 rw[Qhq (by omega),Qhq (by omega)]
 simpa using h
def fO{S S0:aL}{k i:Nat}{xs:List D}{Q:Res->aL->Prop}(x:Ex k S0 S)(hi:i≠k)(l:S[i]?=some (.lst xs))(s:0<xs.length)(t:xs.length<1000)(o:∀d∈xs,(∀k,d≠.ref k)/\cq 0 d=true)
  (g:∀d∈xs,cq S.length d=true)
  (h:∀(d:D) (f:aL),d∈xs->Ex k S0 f->Ex k S f->f.length=S.length->Q (.d d) f):Fn bQ [.ref k,.ref i] S Q:=by
 have y:Ex k S S:=by obtain⟨a,b,c,p⟩:=x.pot;exact Ex.refl p
 refine cf ?_
 unfold om
 symm
 apply He ?_
 apply⟨xs.length,by simp[AA,pz,l],?_⟩
 refine bX y (by show(0:Int)<xs.length;omega) (by show(xs.length:Int)<1000000;omega) λd f n m r q=> ?_
 dsimp only
 have e:d<xs.length:=by have:(d:Int)<(xs.length:Int):=n;omega
 refine gW (m.keep _ _ hi l) (bD (gQe e)) ?_
 have j:=List.getElem_mem e
 refine lI m x.lt (o _ j).1 (g _ j) λa b c=> ?_
 exact h _ _ j x.set y.set (by simp)
end W28
namespace DL
open PySem PySem.Spec L2
mutual
theorem ed{m:Nat}:∀{d:D},cq 0 d=true->cq m d=true
 |.non,_=>rfl
 |.bl _,_=>rfl
 |.int _,_=>rfl
 |.str _,_=>rfl
 |.tup ds,h=>by simp only[cq] at h⊢;exact kf h
 |.ref k,h=>by simp[cq] at h
 |.fn _,_=>rfl
theorem kf{m:Nat}:∀{ds:List D},cj 0 ds=true->cj m ds=true
 | [],_=>rfl
 | d::ds,h=>by
   simp only[cj,QCq] at h⊢
   exact⟨ed h.1,kf h.2⟩
end
theorem tV{m:Nat}:∀{ds:List D},(∀d∈ds,cq m d=true)->cj m ds=true
 | [],_=>rfl
 | d::ds,h=>by
   simp only[cj,QCq]
   exact⟨h d (QBq ..),tV λe a=>h e (Qpq _ a)⟩
def bq{α:Type}{m:Nat}{f:α->D}{l:List α}(h:∀a∈l,cq m (f a)=true):cj m (l.map f)=true:=tV λd c=>by
 obtain⟨a,b,rfl⟩:=Qkq.mp c
 exact h a b
theorem xB:∀ss:List Str,xU (ss.map D.str)=some ss
 | []=>rfl
 |s::ss=>by simp only[QDq,xU];rw[xB ss];rfl
def KJ{b:dw}{S:aL}{f:gu}{Q:List D->aL->Prop}(h:E f b S λp a=>p.2.isL=true/\∃ss:List Str,p.1=ss.map D.str/\ss.length<64/\Q ((qF ss).map D.str) a):E (Df f) b S Q:=by
 obtain⟨p,a,d,l,ss,c,e,q⟩:=h
 exact⟨_,a,by unfold Df;rw[d];simp only[Qbq];rw[Qhq l,c,xB];simp only[Qbq];rw[Qhq e],q⟩
end DL
namespace W28
open PySem PySem.Spec L2 DL
noncomputable def six:List Str:= ["a","b","c","d","e","zz"]
theorem qz{α a:Type}(g:α->a):∀(l:List α) (k:Nat),(l.map g).eraseIdx k=(l.eraseIdx k).map g
 | [],_=>rfl
 |_::_,0=>rfl
 |x::l,k+1=>congrArg (g x::·) (qz g l k)
def zV{α:Type}{b a c:List α}{j:Nat}(d:j<a.length)(h:(b++a).Perm c):((b++ [a[j]])++a.eraseIdx j).Perm c:=by
 refine List.Perm.trans ?_ h
 rw[Qvq]
 refine List.Perm.append_left b ?_
 show(a[j]::a.eraseIdx j).Perm a
 rw[List.eraseIdx_eq_take_drop_succ]
 have e:a=a.take j++a[j]::a.drop (j+1):=by rw[←QWq d,List.take_append_drop]
 refine List.Perm.trans ?_ (List.Perm.of_eq e.symm)
 exact List.perm_middle.symm
def J_{n j:Nat}(h:j<n)(a:n<1000):seqIndex? (j:Int) n=some j:=(yp (by unfold FJ;rw[Qhq (by omega),Qhq (by omega)];simp)).1
abbrev Nm(x:Str):Prop:=x.length<=3/\PyData.strOk x=true
def ji{ws:List Str}{a:Str}(b:∀y∈six,Nm (a++y))(h:∃l,(ws++l).Perm (six.map (a++·))):∀x∈ws,Nm x:=λx d=>by
 obtain⟨l,h⟩:=h
 obtain⟨y,c,rfl⟩:=Qkq.mp (h.mem_iff.mp (mQa.mpr (.inl d)))
 exact b y c
def jk{S S0:aL}{k:Nat}{e:Str}{g:Int}{Q:Res->aL->Prop}(x:Ex k S0 S)(hm:0<=g)(P:g<=6)(R:e.length<=1)
  (h:∀(ws:List Str) (t:aL),(∃l,(ws++l).Perm (six.map (e++·)))->(ws.length:Int)=g->Ex k S0 t->Ex k S t->t.length=S.length->Q (.l (ws.map D.str)) t):Fn dD [.ref k,.str e,.int g] S Q:=by
 have y:Ex k S S:=by obtain⟨a,b,c,U⟩:=x.pot;exact Ex.refl U
 refine cf ?_
 unfold rX
 symm
 apply l_ ?_
 refine⟨by decide,⟨λn f t i=>f= [f.getD 0 none,some (.str e)]/\t=S/\i=((six.take n).map (e++·)).map D.str,⟨rfl,rfl,rfl⟩,λn f t i h=>trivial,λn d f t i F ⟨s,v,q⟩=> ?_,λf t i ⟨_,v,q⟩=> ?_⟩⟩
 ·have v:=v.symm
  subst v q
  obtain⟨o,rfl⟩:∃o,f= [o,some (.str e)]:=⟨_,s⟩
  have H:∃z,six[n]?=some z/\d=.str z:=by
   rcases n with _|_|_|_|_|_|n <;>first|(cases F;exact⟨_,rfl,rfl⟩)|(simp at F)
  obtain⟨z,K,rfl⟩:=H
  have X:z.length<=2:=by
   have:=mQg K
   simp only[six,Qsq,QXq,or_false] at this
   rcases this with rfl|rfl|rfl|rfl|rfl|rfl <;>decide
  symm
  rw[Qhq rfl]
  symm
  refine FW (QAq (show e.length+z.length<=3 by omega) (by decide)) ?_
  have w:n<6:=(gQs.mp K).1
  refine⟨?_,rfl,rfl,?_⟩
  ·simp only[lQm,Qxq]
   exact Nat.lt_of_le_of_lt (Nat.min_le_left _ _) (Nat.lt_trans w (by decide))
  ·rw[QYq,K]
   simp
 ·have v:=v.symm
  subst v q
  symm
  apply KJ ?_
  apply l_ ?_
  refine⟨g,rfl,⟨by omega,by omega⟩,λn f C i=>∃(r m:List Str),f= [f.getD 0 none,some (.ref k),some (.ref S.length)]/\Ex k S C/\C.length=S.length+1/\C[S.length]?=some (.lst (m.map D.str))/\i=r.map D.str/\r.length=n/\(r++m).Perm (six.map (e++·)),?_,λ_ _ _ _ _=>trivial,?_,?_⟩
  ·refine⟨[],six.map (e++·),rfl,y.app,by simp,?_,rfl,rfl,List.Perm.refl _⟩
   exact a_
  ·rintro n d f C i F ⟨r,m,s,J,A,G,rfl,w,hp⟩
   obtain⟨o,rfl⟩:∃o,f= [o,some (.ref k),some (.ref S.length)]:=⟨_,s⟩
   have p:=hp.length_eq
   simp only[lQa,lQm] at p
   have Z:six.length=6:=rfl
   have Y:n<6:=by
    have:=(gQs.mp F).1
    simp only[jx,lQm,QVq] at this
    omega
   have a0:0<m.length:=by omega
   symm
   rw[Qhq rfl]
   apply jQ ?_
   apply⟨_,_,rfl,G,?_⟩
   apply cE G ?_
   refine bX J (by simp only[lQm];omega) (by simp only[lQm];omega) λj S3 W N L M=> ?_
   dsimp only
   symm
   have u:j<m.length:=by simpa using W
   have I:S.length≠k:=by have:=x.lt;omega
   have B:=L.keep _ _ I G
   refine⟨_,B,?_⟩
   refine KZ (d:=((m.map D.str).eraseIdx j,D.str m[j])) ?_ ?_
   ·simp only[oJ]
    rw[Qhq ⟨by omega,by omega⟩,lQm,J_ u (by omega)]
    simp[gQe u]
   ·refine⟨?_,r++ [m[j]],m.eraseIdx j,rfl,N.put (Qmq _) x.lt,by simp[M,A],?_,by simp,by simp[w],zV u hp⟩
    ·simp only[lQm]
     exact Nat.lt_trans (show r.length<6 by omega) (by decide)
    ·rw[dj B,qz]
  ·rintro f C i ⟨r,m,s,J,A,G,rfl,w,hp⟩
   have p:=hp.length_eq
   simp only[lQa,lQm] at p
   have Z:six.length=6:=rfl
   refine⟨rfl,r,rfl,by omega,?_⟩
   refine J2 J x.lt (bq λ_ _=>rfl) λa b c=> ?_
   refine h _ _ ⟨m,(QJq m (jM r)).trans hp⟩ ?_ x.set y.set (by simp)
   rw[(jM r).length_eq,w]
   simp only[jx,lQm,QVq]
   omega
end W28
namespace DL
open PySem PySem.Spec L2
def Dw{a:dw}{S:aL}{f g:gu}{Q:List D->aL->Prop}(h:E f a S λp b=>E g a b λr S2=>(p.2.isM=true/\r.2.isM=true/\p.2.stays S2 p.1/\p.1.length+r.1.length<=sizeLine)/\Q (p.1++r.1) S2):E (CT f g) a S Q:=by
 obtain⟨p,b,d,r,S2,c,l,q⟩:=h
 exact⟨_,S2,by unfold CT;rw[d];simp only[Qbq];rw[c];simp only[Qbq];rw[Qhq l],q⟩
def ff{S:aL}{i j:Int}{Q:D->Prop}(q:Q (.bl (decide (i=j)))):Op (fB false S (.int i) (.int j)) Q:=⟨_,by simp[fB,yi,CB],q⟩
def iU{S:aL}{i j:Str}{Q:D->Prop}(q:Q (.bl (decide (i=j)))):Op (fB false S (.str i) (.str j)) Q:=⟨_,by simp[fB,yi,CB],q⟩
def eO{b:dw}{S:aL}{n:Nat}{g:tw}{ds:List D}{Q:dw->aL->Prop}(d:ds.length=n)(h:NA g ds b S Q):Tg (jJ (nG n g)) (.tup ds) b S Q:=by
 obtain⟨a,c,e,q⟩:=h
 exact⟨a,c,by show nG n g ds b S=_;unfold nG;rw[Qhq d];exact e,q⟩
def bE{a:dw}{S:aL}{Q:dw->aL->Prop}(q:Q a S):NA eB [] a S Q:=⟨_,_,rfl,q⟩
def aC{c:dw}{S:aL}{f:o_}{g:tw}{d:D}{ds:List D}{Q:dw->aL->Prop}(h:Tg f d c S λa e=>NA g ds a e Q):NA (aR f g) (d::ds) c S Q:=by
 obtain⟨a,e,k,b,i,j,q⟩:=h
 exact⟨b,i,by show(f d c S).bind _=_;rw[k];exact j,q⟩
end DL
namespace W28
open PySem PySem.Spec L2 DL
noncomputable def ops:List Str:= ["plus","minus","less","same","both"]
inductive Tr where
 |num (n:Nat)|word (x:Str)|waits (b:Str)|no (t:Tr)|two (o:Str) (a b:Tr)
noncomputable def Tr.d:Tr->D
 |.num n=>.int n
 |.word x=>.str x
 |.waits b=>.tup [.str "waits",.str b]
 |.no t=>.tup [.str "not",t.d]
 |.two o a b=>.tup [.str o,a.d,b.d]
def Tr.Ok(ws bs:List Str):Tr->Prop
 |.num n=>n<=9
 |.word x=>x∈ws
 |.waits b=>b∈bs
 |.no t=>t.Ok ws bs
 |.two o a b=>o∈ops/\a.Ok ws bs/\b.Ok ws bs
noncomputable def Tr.dep:Tr->Nat
 |.num _=>1
 |.word _=>1
 |.waits _=>1
 |.no t=>t.dep+1
 |.two _ a b=>max a.dep b.dep+1
theorem Tr.low:∀t:Tr,cq 0 t.d=true
 |.num _=>rfl
 |.word _=>rfl
 |.waits _=>rfl
 |.no t=>by simp only[Tr.d,cq,cj];rw[t.low];rfl
 |.two _ a b=>by simp only[Tr.d,cq,cj];rw[a.low,b.low];rfl
def Tr.noref(t:Tr):∀k,t.d≠.ref k:=by
 intro k
 cases t <;>simp[Tr.d]
def eV{ws:List Str}:∀d∈ws.map D.str,(∀k,d≠.ref k)/\cq 0 d=true:=λd b=>by
 obtain⟨a,_,rfl⟩:=Qkq.mp b
 exact⟨λk z=>(nomatch z),rfl⟩
def gS{ws:List Str}{m:Nat}:∀d∈ws.map D.str,cq m d=true:=λd b=>by
 obtain⟨a,_,rfl⟩:=Qkq.mp b
 rfl
def KS{n:Nat}(h:(n:Int)<5):∃o,o∈ops/\lL ([.str "plus",.str "minus",.str "less",.str "same",.str "both"]:List D) (n:Int)=some (.str o):=by
 rcases n with _|_|_|_|_|n
 ·exact⟨"plus",by simp[ops],rfl⟩
 ·exact⟨"minus",by simp[ops],rfl⟩
 ·exact⟨"less",by simp[ops],rfl⟩
 ·exact⟨"same",by simp[ops],rfl⟩
 ·exact⟨"both",by simp[ops],rfl⟩
 ·omega
theorem jX:∀(n:Nat) {S S0:aL} {k i j:Nat} {ws bs:List Str} {deep:Nat} {Q:Res->aL->Prop} (x:Ex k S0 S) (hi:i≠k) (N:j≠k) (W:S[i]?=some (.lst (ws.map D.str))) (hb:S[j]?=some (.lst (bs.map D.str))) (lw:ws.length<1000) (lb:bs.length<1000) (hn:deep<n)
  (h:∀(t:Tr) (f:aL),t.Ok ws bs->t.dep<=deep+1->Ex k S0 f->Ex k S f->f.length=S.length->Q (.d t.d) f),Fn (bM n) [.ref k,.ref i,.ref j,.int deep] S Q
 |0,_,_,_,_,_,_,_,_,_,_,_,_,_,_,_,_,hn,_=>absurd hn (Nat.not_lt_zero _)
 | n+1,S,S0,k,i,j,ws,bs,deep,Q,x,hi,N,W,hb,lw,lb,hn,h=>by
   have y:Ex k S S:=by obtain⟨a,b,c,hh⟩:=x.pot;exact Ex.refl hh
   have w:∀(t:Tr) (f:aL),t.Ok ws bs->t.dep<=deep+1->Ex k S f->Op (settle S t.d f) λp=>Q p.1 p.2:=λt f M h2 e=>lI e x.lt t.noref (ed t.low) λa b c=>h _ _ M h2 x.set y.set (by simp)
   refine cf ?_
   unfold xn
   symm
   apply bX y (by decide) (by decide) λs S1 a1 Z _ l1=> ?_
   have a3:=Z.keep _ _ hi W
   have a2:=Z.keep _ _ N hb
   have F:∀l,Ex k S l->T (aK (eU (jo (aP (eK (bx (au 1)))) (aP (aI L4 (aB aM (ar (au 0) (ar (cF (.int 3)) ay))) (cF (.int 0))))) (cQ (aB bQ (ar (au 0) (ar (au 1) ay)))) fX)
     (cQ (aB aM (ar (au 0) (ar (aI bg (c8 (cp (ar (cF (.int 3)) (ar (cF (.int 10)) ay)))) (Bw intOfD (ar (aI (fB false) (aB aM (ar (au 0) (ar (cF (.int 5)) ay))) (cF (.int 0))) ay))) ay)))))
     [some (.ref k),some (.ref i),some (.ref j),some (.int deep),some (.int s),none] l λo=>match o with|.rt d f=>Op (settle S d f) λp=>Q p.1 p.2|_=>False:=by
     intro l q
     have Y:=q.keep _ _ hi W
     have A:∀P,Ex k S P->T (cQ (aB aM (ar (au 0) (ar (aI bg (c8 (cp (ar (cF (.int 3)) (ar (cF (.int 10)) ay)))) (Bw intOfD (ar (aI (fB false) (aB aM (ar (au 0) (ar (cF (.int 5)) ay))) (cF (.int 0))) ay))) ay))))
       [some (.ref k),some (.ref i),some (.ref j),some (.int deep),some (.int s),none] P λo=>match o with|.rt d f=>Op (settle S d f) λp=>Q p.1 p.2|_=>False:=by
       intro P U
       symm
       apply⟨by decide,?_⟩
       apply bX (U.app (G:= [O.lst [D.int 3,D.int 10]])) (by decide) (by decide) λd S4 hd J L l4=> ?_
       apply ff ?_
       have X:S4[P.length]?=some (.lst [.int 3,.int 10]):=L.keep _ _ (by have:=U.lt;omega) a_
       have hm:∃m:Int,(m=3\/m=10)/\Op (intOfD [D.bl (decide ((d:Int)=0))]) (λz=>∃r,z=.int r/\lL ([.int 3,.int 10]:List D) r=some (.int m)):=by
         by_cases c:(d:Int)=0
         · exact⟨10,.inr rfl,_,rfl,1,by rw[Qeq c];rfl,rfl⟩
         · exact⟨3,.inl rfl,_,rfl,0,by rw[Qdq c];rfl,rfl⟩
       obtain⟨m,hm,z,C,r,rfl,e6⟩:=hm
       refine⟨_,C,?_⟩
       apply gW X e6 ?_
       refine bX J (by omega) (by omega) λv S5 hv C _ l5=> ?_
       dsimp only
       exact w (.num v) _ (by show v<=9;omega) (by show 1<=deep+1;omega) C
     symm
     refine cE Y ?_
     refine⟨⟨rfl,Y⟩,?_⟩
     dsimp only
     refine aW (λc=> ?_) (λc=> ?_)
     · symm
       apply bX q (by decide) (by decide) λd P hd U _ l3=> ?_
       refine aW (λc2=> ?_) (λc2=> ?_)
       · symm
         have H:0<(ws.map D.str).length:=by
           cases ws with
           |nil=>simp at c
           |cons a b=>simp
         refine fO U hi (U.keep _ _ hi W) H (by simpa using lw) eV gS λv S4 hv J _ l4=> ?_
         obtain⟨z,hz,rfl⟩:=Qkq.mp hv
         exact w (.word z) _ hz (by show 1<=deep+1;omega) J
       · exact cz (A P U)
     · rw[Quq (by decide)]
       exact cz (A l q)
   have go:∀{R:Res->aL->Prop} {l:aL},Ex k S l->1<=deep->(∀(t:Tr) (f:aL),t.Ok ws bs->t.dep<=deep->Ex k S f->R (.d t.d) f)->Fn (bM n) [.ref k,.ref i,.ref j,.int ((deep:Int)-1)] l R:=by
     intro R l q hd hR
     have e:((deep:Int)-1)=((deep-1:Nat):Int):=by omega
     rw[e]
     exact jX n q hi N (q.keep _ _ hi W) (q.keep _ _ N hb) lw lb (by omega) λt f M h2 h3 _ _=>hR t f M (by omega) h3
   have a0:∀l,Ex k S l->1<=deep->T (aK (eU (jo (aP (aI (fB false) (au 4) (cF (.int 3)))) (aP (eK (bx (au 2))))) (cQ (bc (ar (cF (.str "waits")) (ar (aB bQ (ar (au 0) (ar (au 2) ay))) ay)))) fX)
     (aK (eU (aP (aI (fB false) (au 4) (cF (.int 4)))) (cQ (bc (ar (cF (.str "not")) (ar (aB (bM n) (ar (au 0) (ar (au 1) (ar (au 2) (ar (aI nc (au 3) (cF (.int 1))) ay))))) ay)))) fX)
     (aK (bt 5 (aI bg (c8 (cp (ar (cF (.str "plus")) (ar (cF (.str "minus")) (ar (cF (.str "less")) (ar (cF (.str "same")) (ar (cF (.str "both")) ay))))))) (aB aM (ar (au 0) (ar (cF (.int 5)) ay)))))
     (cQ (bc (ar (au 5) (ar (aB (bM n) (ar (au 0) (ar (au 1) (ar (au 2) (ar (aI nc (au 3) (cF (.int 1))) ay))))) (ar (aB (bM n) (ar (au 0) (ar (au 1) (ar (au 2) (ar (aI nc (au 3) (cF (.int 1))) ay))))) ay))))))))
     [some (.ref k),some (.ref i),some (.ref j),some (.int deep),some (.int s),none] l λo=>match o with|.rt d f=>Op (settle S d f) λp=>Q p.1 p.2|_=>False:=by
     intro l q u
     have I:=q.keep _ _ N hb
     have K:T (aK (bt 5 (aI bg (c8 (cp (ar (cF (.str "plus")) (ar (cF (.str "minus")) (ar (cF (.str "less")) (ar (cF (.str "same")) (ar (cF (.str "both")) ay))))))) (aB aM (ar (au 0) (ar (cF (.int 5)) ay)))))
       (cQ (bc (ar (au 5) (ar (aB (bM n) (ar (au 0) (ar (au 1) (ar (au 2) (ar (aI nc (au 3) (cF (.int 1))) ay))))) (ar (aB (bM n) (ar (au 0) (ar (au 1) (ar (au 2) (ar (aI nc (au 3) (cF (.int 1))) ay))))) ay))))))
       [some (.ref k),some (.ref i),some (.ref j),some (.int deep),some (.int s),none] l λo=>match o with|.rt d f=>Op (settle S d f) λp=>Q p.1 p.2|_=>False:=by
       symm
       apply⟨by decide,?_⟩
       refine bX (q.app (G:= [O.lst [.str "plus",.str "minus",.str "less",.str "same",.str "both"]])) (by decide) (by decide) λd S4 hd J L l4=> ?_
       dsimp only
       obtain⟨o,B,C⟩:=KS hd
       refine gW (L.keep _ _ (by have:=q.lt;omega) a_) C ?_
       symm
       apply go J u λt1 S5 M h2 C=> ?_
       apply go C u λt2 S6 h3 h4 e6=> ?_
       refine⟨by show 3<=_;decide,?_⟩
       exact w (.two o t1 t2) _ ⟨B,M,h3⟩ (by simp only[Tr.dep];omega) e6
     have g:T (aK (eU (aP (aI (fB false) (au 4) (cF (.int 4)))) (cQ (bc (ar (cF (.str "not")) (ar (aB (bM n) (ar (au 0) (ar (au 1) (ar (au 2) (ar (aI nc (au 3) (cF (.int 1))) ay))))) ay)))) fX)
       (aK (bt 5 (aI bg (c8 (cp (ar (cF (.str "plus")) (ar (cF (.str "minus")) (ar (cF (.str "less")) (ar (cF (.str "same")) (ar (cF (.str "both")) ay))))))) (aB aM (ar (au 0) (ar (cF (.int 5)) ay)))))
       (cQ (bc (ar (au 5) (ar (aB (bM n) (ar (au 0) (ar (au 1) (ar (au 2) (ar (aI nc (au 3) (cF (.int 1))) ay))))) (ar (aB (bM n) (ar (au 0) (ar (au 1) (ar (au 2) (ar (aI nc (au 3) (cF (.int 1))) ay))))) ay)))))))
       [some (.ref k),some (.ref i),some (.ref j),some (.int deep),some (.int s),none] l λo=>match o with|.rt d f=>Op (settle S d f) λp=>Q p.1 p.2|_=>False:=by
       symm
       refine ff ?_
       dsimp only
       refine aW (λc=> ?_) (λc=> ?_)
       · symm
         apply go q u λt S5 M h2 C=> ?_
         refine⟨by show 2<=_;decide,?_⟩
         exact w (.no t) _ M (by simp only[Tr.dep];omega) C
       · exact cz K
     symm
     refine ff ?_
     dsimp only
     refine aW (λc=> ?_) (λc=> ?_)
     · symm
       refine cE I ?_
       refine⟨⟨rfl,I⟩,?_⟩
       dsimp only
       refine aW (λc=> ?_) (λc=> ?_)
       · symm
         have H:0<(bs.map D.str).length:=by
           cases bs with
           |nil=>simp at c
           |cons a b=>simp
         refine fO q N I H (by simpa using lb) eV gS λv S4 hv J _ l4=> ?_
         obtain⟨z,hz,rfl⟩:=Qkq.mp hv
         symm
         refine⟨by show 2<=_;decide,?_⟩
         exact w (.waits z) _ hz (by show 1<=deep+1;omega) J
       · exact cz g
     · rw[Quq (by decide)]
       exact cz g
   refine aW (λc=> ?_) (λc=> ?_)
   · rw[Qhq rfl]
     exact(F S1 Z).mono λo B=>by
       cases o with
       |rt d f=>exact B
       |_=>exact B.elim
   · symm
     refine aW (λc2=> ?_) (λc2=> ?_)
     · exact(F S1 Z).mono λo B=>by
         cases o with
         |rt d f=>exact B
         |_=>exact B.elim
     · have u:1<=deep:=by
         have:=QaQ c
         omega
       refine cz ?_
       exact(a0 S1 Z u).mono λo B=>by
         cases o with
         |rt d f=>exact B
         |_=>exact B.elim
inductive Rw where
 |put (x:Str) (t:Tr)|unl (t:Tr) (n:Nat)|go (n:Nat)|do_ (g:Option Str) (r d:Str) (t:Tr)|wait (b:Str) (t:Tr)|call (b:Str)|all (b:Str)|tell (t:Tr)
 |take (p:Str)|give (p:Str)|pass (p q:Str)|say (t:Tr)
noncomputable def FU:Option Str->D
 |none=>.non
 |some x=>.str x
noncomputable def Rw.d:Rw->D
 |.put x t=>.tup [.str "put",.str x,t.d]
 |.unl t n=>.tup [.str "unless",t.d,.int n]
 |.go n=>.tup [.str "go",.int n]
 |.do_ g r d t=>.tup [.str "do",FU g,.str r,.str d,t.d]
 |.wait b t=>.tup [.str "wait",.str b,t.d]
 |.call b=>.tup [.str "call",.str b]
 |.all b=>.tup [.str "all",.str b]
 |.tell t=>.tup [.str "tell",t.d]
 |.take p=>.tup [.str "take",.str p]
 |.give p=>.tup [.str "give",.str p]
 |.pass p q=>.tup [.str "pass",.str p,.str q]
 |.say t=>.tup [.str "say",t.d]
structure Sc where
 own:Bool
 ws:List Str
 ps:List Str
 bs:List Str
 gs:List (Str×Str)
 ts:List Str
def B3(sc:Sc)(t:Tr):Prop:=t.Ok sc.ws sc.bs/\t.dep<=4
def Rw.Ok(sc:Sc)(n:Nat):Rw->Prop
 |.put x t=>x∈sc.ps/\B3 sc t
 |.unl t m=>B3 sc t/\m<=n
 |.go m=>m<=n
 |.do_ g r d t=>(∀x,g=some x->x∈sc.ps)/\(r,d)∈sc.gs/\B3 sc t
 |.wait b t=>sc.own=false/\b∈sc.bs/\B3 sc t
 |.call b=>sc.own=false/\b∈sc.bs
 |.all b=>sc.own=false/\b∈sc.bs
 |.tell t=>sc.own=false/\B3 sc t
 |.take p=>sc.own=true/\p∈sc.ts
 |.give p=>sc.own=true/\p∈sc.ts
 |.pass p q=>sc.own=true/\p∈sc.ts/\q∈sc.ts
 |.say t=>sc.own=true/\B3 sc t
def Rw.Ok.mono{sc:Sc}{n m:Nat}{r:Rw}(h:r.Ok sc n)(l:n<=m):r.Ok sc m:=by
 cases r with
 |unl t k=>exact⟨h.1,QAq h.2 l⟩
 |go k=>exact QAq h l
 |_=>exact h
theorem Rw.low(r:Rw):cq 0 r.d=true:=by
 cases r with
 |do_ g r d t=>cases g <;>simp only[Rw.d,cq,cj,FU,t.low,Bool.and_true,Bool.true_and]
 |_=>simp only[Rw.d,cq,cj,Tr.low,Bool.and_true,Bool.true_and]
def lK(sc:Sc)(rs:List Rw):Prop:=∀r∈rs,r.Ok sc rs.length
def Gv{S S0:aL}{k i j:Nat}{f:Nat}{sc:Sc}{Q:Res->aL->Prop}(x:Ex k S0 S)(hi:i≠k)(s:j≠k)(R:S[i]?=some (.lst (sc.ws.map D.str)))(L:S[j]?=some (.lst (sc.bs.map D.str)))(X:sc.ws.length<1000)(B:sc.bs.length<1000)(b0:0<sc.bs.length)(hg:(("given":Str))∈sc.ws)(M:sc.own=false)
  (h:∀(rs:List Rw) (m:aL),(∀r∈rs,r.Ok sc (f+rs.length))->1<=rs.length->rs.length<=3->Ex k S0 m->Ex k S m->m.length=S.length->Q (.l (rs.map Rw.d)) m):Fn jC [.ref k,.ref i,.ref j,.int f] S Q:=by
 have y:Ex k S S:=by obtain⟨a,b,c,hh⟩:=x.pot;exact Ex.refl hh
 have u:∀(rs:List Rw) (m:aL),(∀r∈rs,r.Ok sc (f+rs.length))->1<=rs.length->rs.length<=3->Ex k S m->Op (eX S (rs.map Rw.d) m) λp=>Q p.1 p.2:=λrs m J P C e=>J2 e x.lt (bq λr _=>ed r.low) λa b c=>h _ _ J P C x.set y.set (by simp)
 refine cf ?_
 unfold sA
 symm
 apply jX 4 (deep:=1) y hi s R L X B (by decide) λt S1 J P Y _ l1=> ?_
 refine⟨by show 3<=_;decide,?_⟩
 symm
 refine bX (Y.app (G:= [O.lst [.int 0,.str "given",t.d]])) (by decide) (by decide) λd S2 hd N I l2=> ?_
 dsimp only
 have ht:∃o:Tr,B3 sc o/\lL ([.int 0,.str "given",t.d]:List D) (d:Int)=some o.d:=by
  rcases d with _|_|_|d
  ·exact⟨.num 0,⟨by show 0<=9;omega,by show 1<=4;omega⟩,rfl⟩
  ·exact⟨.word "given",⟨hg,by show 1<=4;omega⟩,rfl⟩
  ·exact⟨t,⟨J,by omega⟩,rfl⟩
  ·omega
 obtain⟨o,q,ha⟩:=ht
 refine gW (I.keep _ _ (by have:=Y.lt;omega) a_) ha ?_
 symm
 refine fO N s (N.keep _ _ s L) (by simpa using b0) (by simpa using B) eV gS λv S3 hv Z _ l3=> ?_
 obtain⟨z,W,rfl⟩:=Qkq.mp hv
 symm
 refine⟨by show 3<=_;decide,?_⟩
 symm
 apply bX Z (by decide) (by decide) λn S4 U w _ l4=> ?_
 refine ff ?_
 dsimp only
 refine aW (λc=> ?_) (λc=> ?_)
 ·symm
  refine⟨by show 1<=_;decide,?_⟩
  refine u [.wait z o] _ (λr A=> ?_) (by simp) (by simp) w
  rw[Qfq.mp A]
  exact⟨M,W,q⟩
 ·symm
  apply jX 4 (deep:=2) w hi s (w.keep _ _ hi R) (w.keep _ _ s L) X B (by decide) λK S5 h3 h4 e5 _ l5=> ?_
  refine⟨by show 2<=_;decide,?_⟩
  symm
  refine⟨by show 3<=_;decide,?_⟩
  symm
  refine⟨by show 2<=_;decide,?_⟩
  symm
  have F:∃g:Nat,(g=f\/g=f+3)/\lL ([.int f,.int ((f:Int)+3)]:List D) ((n:Int)-1)=some (.int (g:Nat)):=by
   have:=QaQ c
   rcases n with _|_|_|n
   ·exact absurd rfl this
   ·exact⟨f,.inl rfl,rfl⟩
   ·exact⟨f+3,.inr rfl,rfl⟩
   ·omega
  obtain⟨g,a0,H⟩:=F
  apply gW a_ H ?_
  refine⟨by show 2<=_;decide,?_⟩
  symm
  refine⟨by show 3<=_;decide,?_⟩
  refine u [.unl (.no K) (f+3),.wait z o,.go g] _ (λr A=> ?_) (by simp) (by simp) e5.app
  simp only[Qsq,QXq,or_false] at A
  have hl:([.unl (.no K) (f+3),.wait z o,.go g]:List Rw).length=3:=rfl
  rcases A with rfl|rfl|rfl
  ·exact⟨⟨h3,by show K.dep+1<=4;omega⟩,by rw[hl];exact Qmq _⟩
  ·exact⟨M,W,q⟩
  ·show g<=f+3
   omega
noncomputable def dZ(g:Str×Str):D:=.tup [.str g.1,.str g.2]
def AI{c:List (Str×Str)}:∀d∈c.map dZ,(∀k,d≠.ref k)/\cq 0 d=true:=λd b=>by
 obtain⟨a,_,rfl⟩:=Qkq.mp b
 exact⟨λk z=>(nomatch z),rfl⟩
def Es{c:List (Str×Str)}{m:Nat}:∀d∈c.map dZ,cq m d=true:=λd b=>by
 obtain⟨a,_,rfl⟩:=Qkq.mp b
 rfl
def Kh{S S0:aL}{k g t i:Nat}{sc:Sc}{Q:Res->aL->Prop}{n:Nat}(x:Ex k S0 S)(hg:g≠k)(ht:t≠k)(hi:i≠k)(L:S[g]?=some (.lst (sc.gs.map dZ)))(N:S[t]?=some (.lst (sc.ps.map D.str)))(gw:S[i]?=some (.lst (sc.ws.map D.str)))
  (P:0<sc.gs.length) (lg:sc.gs.length<1000) (lt:sc.ps.length<900) (lw:sc.ws.length<1000)
  (h:∀(r:Rw) (q:aL),r.Ok sc n->Ex k S0 q->Ex k S q->q.length=S.length->Q (.d r.d) q):Fn mH [.ref k,.ref g,.ref t,.ref i] S Q:=by
 have y:Ex k S S:=by obtain⟨a,b,c,X⟩:=x.pot;exact Ex.refl X
 refine cf ?_
 unfold Bb
 symm
 refine fO y hg L (by simpa using P) (by simpa using lg) AI Es λv K W H _ l1=> ?_
 obtain⟨⟨J,I⟩,hm,rfl⟩:=Qkq.mp W
 dsimp only
 apply eO rfl (aC (bh (aC (bh (bE ?_)))))
 apply Dw ?_
 apply⟨by decide,?_⟩
 refine cE (H.keep _ _ ht N) ?_
 refine⟨⟨rfl,rfl,trivial,by simp only[lQm,Qnq,QGq];exact QAq (show 0+1+sc.ps.length<=1000 by omega) (by decide)⟩,?_⟩
 symm
 have p:∀d∈([.non]++sc.ps.map D.str:List D),(∃o:Option Str,d=FU o/\∀z,o=some z->z∈sc.ps):=λd e=>by
  rcases mQa.mp e with e|e
  ·rw[Qfq.mp e]
   exact⟨none,rfl,λz C=>by cases C⟩
  ·obtain⟨a,Z,rfl⟩:=Qkq.mp e
   exact⟨some a,rfl,λz C=>by cases C;exact Z⟩
 have f:∀(m:Nat),∀d∈([.non]++sc.ps.map D.str:List D),(∀k,d≠.ref k)/\cq m d=true:=λm d e=>by
  obtain⟨o,rfl,_⟩:=p d e
  cases o <;>exact⟨λk z=>(nomatch z),rfl⟩
 refine fO (i:=K.length) (H.app (G:= [O.lst ([.non]++sc.ps.map D.str)])) (by have:=H.lt;omega) a_ (by simp) (by simp;omega) (f 0) (λd e=>(f _ d e).2) λU Y A w _ l2=> ?_
 obtain⟨o,rfl,ho⟩:=p U A
 symm
 apply⟨by decide,?_⟩
 refine jX 4 (deep:=1) (bs:= []) (w.app (G:= [O.lst []])) hi (j:=Y.length) (by have:=w.lt;omega) (bz (w.keep _ _ hi gw)) a_ lw (by decide) (by decide) λs S3 R h4 M _ l3=> ?_
 symm
 refine⟨by show 5<=_;decide,?_⟩
 have l:s.Ok sc.ws sc.bs:=by
  have u:∀t:Tr,t.Ok sc.ws []->t.Ok sc.ws sc.bs:=by
   intro t
   induction t with
   |num n=>exact id
   |word x=>exact id
   |waits b=>intro z;exact absurd z (by simp[Tr.Ok])
   |no t ih=>exact ih
   |two o a b B F=>exact λz=>⟨z.1,B z.2.1,F z.2.2⟩
  exact u s R
 refine lI (d:=(Rw.do_ o J I s).d) M x.lt (λk z=>(nomatch z)) (ed (Rw.low _)) λa b c=> ?_
 exact h (.do_ o J I s) _ ⟨ho,hm,l,by omega⟩ x.set y.set (by simp)
end W28
namespace DL
open PySem PySem.Spec L2
def FT{c:dw}{S:aL}{f:bV}{g:gu}{Q:D->aL->Prop}(h:E f c S λx b=>∃k a,x=.ref k/\b[k]?=some (.lst a)/\E g c b λp S2=>∃ds,S2[k]?=some (.lst ds)/\(p.2.isM=true/\ds.length+p.1.length<=sizeLine)/\Q .non (S2.set k (.lst (ds++p.1)))):E (ze f g) c S Q:=by
 obtain⟨x,b,d,k,a,rfl,h1,p,S2,e2,ds,h2,h3,q⟩:=h
 exact⟨_,_,by unfold ze;rw[d];simp only[Qbq,e2,h1,h2];rw[Qhq h3],q⟩
def vN{b:dw}{S:aL}{f g:bV}{Q:D->aL->Prop}(h:E f b S λd a=>∃k,d=.bl k/\if k=true then E g b a Q else Q (.bl false) a):E (wx f g) b S Q:=by
 obtain⟨d,a,c,k,rfl,q⟩:=h
 cases k with
 |true=>obtain⟨j,e,i,q⟩:=(q:E g b a Q);exact⟨j,e,by unfold wx;rw[c];exact i,q⟩
 |false=>exact⟨_,a,by unfold wx;rw[c];rfl,q⟩
def f_{ds:List D}{y:D}{Q:List D×D->Prop}(h:ds.length<sizeLine)(q:Q (ds++ [y],.non)):Op (g6 ds [y]) Q:=⟨_,by simp only[g6];rw[Qhq h],q⟩
end DL
namespace W28
open PySem PySem.Spec L2 DL
noncomputable def ft:List Str:= ["given"]
def tP{d:dw}{S:aL}{i j l:Nat}{w m:Int}{ds:List D}{Q:Bool->aL->Prop}(hi:d[i]?=some (some (.int w)))(f:d[j]?=some (some (.ref l)))(e:S[l]?=some (.lst ds))(q:∀c,(c=true->0<ds.length)->Q c S):
  E (jo (aP (aI Il (au i) (cF (.int m)))) (aP (eK (bx (au j))))) d S Q:=by
 refine yo (dI (g_ (bj hi (qp (KA ?_)))))
 refine aW (λc=> ?_) λc=>q false λz=>(nomatch z)
 refine dI (Dy (iq (bj f (cE e ⟨⟨rfl,e⟩,q _ λz=> ?_⟩))))
 cases ds with
 |nil=>cases z
 |cons a b=>simp
def tU{d:dw}{S:aL}{i j l:Nat}{w m:Int}{ds:List D}{Q:Bool->aL->Prop}(hi:d[i]?=some (some (.int w)))(f:d[j]?=some (some (.ref l)))(e:S[l]?=some (.lst ds))(q:∀c,(c=true->0<ds.length)->Q c S):
  E (jo (aP (aI (fB false) (au i) (cF (.int m)))) (aP (eK (bx (au j))))) d S Q:=by
 refine yo (dI (g_ (bj hi (qp (ff ?_)))))
 refine aW (λc=> ?_) λc=>q false λz=>(nomatch z)
 refine dI (Dy (iq (bj f (cE e ⟨⟨rfl,e⟩,q _ λz=> ?_⟩))))
 cases ds with
 |nil=>cases z
 |cons a b=>simp
def JY{a:dw}{S:aL}{i:Nat}{w m:Int}{Q:Bool->aL->Prop}(hi:a[i]?=some (some (.int w)))(q:∀c,Q c S):E (aP (aI (fB false) (au i) (cF (.int m)))) a S Q:=dI (g_ (bj hi (qp (ff (q _)))))
def IR{e:dw}{S:aL}{i j:Nat}{m s:Str}{w n:Int}{Q:D->aL->Prop}(hi:e[i]?=some (some (.str m)))(h:e[j]?=some (some (.int w)))(q:∀b:Nat,b<=1->Q (.int b) S):
  E (Bw intOfD (ar (wx (aI (fB false) (au i) (cF (.str s))) (aI (fB false) (au j) (cF (.int n)))) ay)) e S Q:=by
 refine N9 (fI (vN (g_ (bj hi (qp (iU ⟨_,rfl,?_⟩))))))
 have a:∀b:Bool,E ay e S λg f=>Op (intOfD (.bl b::g)) λd=>Q d f:=λb=>nO (by
  cases b with
  |true=>exact⟨_,rfl,q 1 (by omega)⟩
  |false=>exact⟨_,rfl,q 0 (by omega)⟩)
 refine aW (λc=> ?_) (λc=> ?_)
 ·exact g_ (bj h (qp (ff (a _))))
 ·exact a false
def II{S S0:aL}{k t b g:Nat}{ah:Str}{N aa:List Str}{goals:List (Str×Str)}{Q:Res->aL->Prop}(x:Ex k S0 S)(nt:t≠k)(nb:b≠k)(ng:g≠k)(gt:S[t]?=some (.lst (N.map D.str)))(gb:S[b]?=some (.lst (aa.map D.str)))(gg:S[g]?=some (.lst (goals.map dZ)))
  (lt:N.length<500) (lb:aa.length<500) (lg:goals.length<500)
  (h:∀(rs:List Rw) (Y:aL),lK ⟨false,N++ft,N,aa,goals,[]⟩ rs->0<rs.length->rs.length<=12->Ex k S0 Y->Ex k S Y->Y.length=S.length->Q (.d (.tup (rs.map Rw.d))) Y):
  Fn kZ [.ref k,.tup [.str ah,.ref t,.ref b],.ref g,.int 4] S Q:=by
 have y:Ex k S S:=by obtain⟨a,b,c,hh⟩:=x.pot;exact Ex.refl hh
 have kl:=x.lt
 have tl:=(gQs.mp gt).1
 have bl:=(gQs.mp gb).1
 have gl:=(gQs.mp gg).1
 generalize I:(⟨false,N++ft,N,aa,goals,[]⟩:Sc)=sc at h
 have so:sc.own=false:=by rw[←I]
 have sw:sc.ws=N++ft:=by rw[←I]
 have sp:sc.ps=N:=by rw[←I]
 have sb:sc.bs=aa:=by rw[←I]
 have sg:sc.gs=goals:=by rw[←I]
 refine cf ?_
 unfold uw
 symm
 apply eO rfl (aC (bh (aC (bh (aC (bh (bE ?_)))))))
 apply Dw ?_
 apply cE gt ?_
 refine⟨by decide,?_⟩
 refine⟨⟨rfl,rfl,gt,by simp only[lQm,Qnq,QGq];exact QAq (show N.length+(0+1)<=1000 by omega) (by decide)⟩,?_⟩
 symm
 refine⟨by decide,?_⟩
 have ew:N.map D.str++ [D.str "given"]=sc.ws.map D.str:=by rw[sw];simp[ft]
 rw[ew]
 have e0:Ex k S (S++ [O.lst (sc.ws.map D.str)]++ [O.lst []]):=y.app.app
 generalize hr:S.length+1=r
 have H:(S++ [O.lst (sc.ws.map D.str)]).length=r:=by simp[hr]
 rw[H]
 have iw:(S++ [O.lst (sc.ws.map D.str)]++ [O.lst []])[S.length]?=some (.lst (sc.ws.map D.str)):=bz a_
 have ir:(S++ [O.lst (sc.ws.map D.str)]++ [O.lst []])[r]?=some (.lst []):=by rw[←H];exact a_
 have il:(S++ [O.lst (sc.ws.map D.str)]++ [O.lst []]).length=r+1:=by simp[←hr]
 generalize (S++ [O.lst (sc.ws.map D.str)]++ [O.lst []])=S1 at e0 iw ir il⊢
 apply bH (ik ?_)
 apply bX e0 (by decide) (by decide) λa1 S2 b1 e2 a7 l2=> ?_
 refine⟨_,rfl,⟨by omega,by omega⟩,?_⟩
 have P:r≠k:=by omega
 have B:S.length≠k:=by omega
 let Inv:Nat->dw->aL->Prop:=λn a6 Y=>∃(o9 a3 a2:Option D) (rs:List Rw),a6= [some (.ref k),some (.tup [.str ah,.ref t,.ref b]),some (.ref g),some (.int 4),some (.str ah),some (.ref t),some (.ref b),some (.ref S.length),some (.ref r),o9,a3,a2]∧
  Ex k S Y/\Y[S.length]?=some (.lst (sc.ws.map D.str))/\Y[r]?=some (.lst (rs.map Rw.d))/\rs.length<=3*n/\n<=rs.length/\n<=4/\∀q∈rs,q.Ok sc rs.length
 refine⟨Inv,⟨_,_,_,[],rfl,e2,a7.keep _ _ B iw,a7.keep _ _ P ir,by simp,by simp,by omega,by simp⟩,λ_ _ _ _=>trivial,?_,?_⟩
 ·rintro n d a6 S3 hd ⟨o9,a3,a2,rs,rfl,e3,hw3,hr3,hl1,hl2,hn4,hok⟩
  have b8:n<4:=by
   have:=(gQs.mp hd).1
   simp only[jx,lQm,QVq] at this
   omega
  apply bh ?_
  refine bX e3 (by decide) (by decide) λb2 S4 b7 W a8 l4=> ?_
  dsimp only
  have o:=a8.keep _ _ B hw3
  have l:=a8.keep _ _ P hr3
  have R:=W.keep _ _ nt gt
  have u:=W.keep _ _ nb gb
  have a4:=W.keep _ _ ng gg
  rw[←sp] at R
  rw[←sb] at u
  rw[←sg] at a4
  have p:∀(L:List Rw) (X:Option D) (M:aL),Ex k S M->M[S.length]?=some (.lst (sc.ws.map D.str))->M[r]?=some (.lst (rs.map Rw.d++L.map Rw.d))->1<=L.length->L.length<=3->(∀q∈L,q.Ok sc (rs.length+L.length))→
    Inv (n+1) [some (.ref k),some (.tup [.str ah,.ref t,.ref b]),some (.ref g),some (.int 4),some (.str ah),some (.ref t),some (.ref b),some (.ref S.length),some (.ref r),some d,some (.int b2),X] M:=by
   intro L X M K h1 h2 h3 h4 h5
   refine⟨_,_,_,rs++L,rfl,K,h1,by rw[h2,Qzq],by rw[lQa];omega,by rw[lQa];omega,by omega,λq Z=> ?_⟩
   rw[lQa]
   rcases mQa.mp Z with Z|Z
   ·exact(hok q Z).mono (by omega)
   ·exact h5 q Z
  have i:∀m:Nat,m<=100->m<sizeLine:=λm hm=>Nat.lt_of_le_of_lt hm (by decide)
  have l9:rs.length<=9:=by omega
  have lr:(rs.map Rw.d).length=rs.length:=by simp
  have a5:∀{t':Tr},t'.Ok sc.ws sc.bs->t'.dep<=3->B3 sc t':=λh1 h2=>⟨h1,by omega⟩
  have J:sc.ws.length<1000:=by rw[sw];simp[ft];omega
  have U:sc.bs.length<1000:=by rw[sb];omega
  have b5:sc.ps.length<900:=by rw[sp];omega
  have b3:sc.gs.length<1000:=by rw[sg];omega
  refine dk (tP rfl rfl u λc hc=>aW (λF=> ?_) (λF=> ?_))
  ·
   apply jq (FT ?_)
   apply⟨_,_,rfl,l,?_⟩
   apply cE l ?_
   rw[lr]
   refine Gv (sc:=sc) W B nb o u J U (by simpa using hc F) (by rw[sw];simp[ft]) so λL M h1 b0 h2 K e l5=> ?_
   dsimp only
   have j:=e.keep _ _ P l
   have a0:=L.length
   refine⟨_,j,⟨rfl,?_⟩,?_⟩
   ·simp only[lQm]
    exact nQl (i _ (by omega))
   ·exact p L _ _ (K.put (by omega) kl) (gc (by omega) (e.keep _ _ B o)) (dj j) b0 h2 h1
  refine dk (tP rfl rfl u λc hc=>aW (λF=> ?_) (λF=> ?_))
  ·apply bH (Gi ?_)
   refine⟨by decide,?_⟩
   refine IR rfl rfl λv hv=> ?_
   have b4:∃(f:Str->Rw) (s:Str),(∀z,(f z).d=.tup [.str s,.str z])/\(∀z n,z∈sc.bs->(f z).Ok sc n)/\lL ([.str "call",.str "all"]:List D) (v:Int)=some (.str s):=by
    rcases v with _|_|v
    ·exact⟨.call,"call",λ_=>rfl,λz n hz=>⟨so,hz⟩,rfl⟩
    ·exact⟨.all,"all",λ_=>rfl,λz n hz=>⟨so,hz⟩,rfl⟩
    ·omega
   obtain⟨f,s,hf,b6,hs⟩:=b4
   refine gW a_ hs ?_
   apply jq (jQ ?_)
   apply⟨_,_,rfl,bz l,?_⟩
   refine fO (W.app (G:= [O.lst [.str "call",.str "all"]])) nb (bz u) (hc F) (by simp;omega) eV gS λv2 M a9 K e l5=> ?_
   obtain⟨z,hz,rfl⟩:=Qkq.mp a9
   symm
   refine⟨by show 2<=_;decide,?_⟩
   symm
   have j:=e.keep _ _ P (bz l)
   refine⟨_,j,f_ (i _ (by rw[lr];omega)) ?_⟩
   refine p [f z] _ _ (K.put (by omega) kl) (gc (by omega) (e.keep _ _ B (bz o))) ?_ (by simp) (by simp) λq' C=>by rw[Qfq.mp C];exact b6 _ _ hz
   rw[dj j]
   simp[hf]
  refine dk (tU rfl rfl a4 λc hc=>aW (λF=> ?_) (λF=> ?_))
  ·apply jq (jQ ?_)
   apply⟨_,_,rfl,l,?_⟩
   apply Kh (n:=rs.length+1) (sc:=sc) W ng nt B a4 R o (by simpa using hc F) b3 b5 J λq M h1 K e l5=> ?_
   have j:=e.keep _ _ P l
   refine⟨_,j,f_ (i _ (by rw[lr];omega)) ?_⟩
   exact p [q] _ _ (K.put (by omega) kl) (gc (by omega) (e.keep _ _ B o)) (dj j) (by simp) (by simp) λq' C=>by rw[Qfq.mp C];exact h1
  refine dk (JY rfl λc=>aW (λF=> ?_) (λF=> ?_))
  ·apply bH (jq (jQ ?_))
   apply⟨_,_,rfl,l,?_⟩
   apply jX 4 (deep:=2) W B nb o u J U (by decide) λt3 M h3 h4 K e l5=> ?_
   have j:=e.keep _ _ P l
   apply cE j ?_
   refine⟨by show 3<=_;decide,?_⟩
   symm
   refine⟨_,j,f_ (i _ (by rw[lr];omega)) ?_⟩
   dsimp only
   apply jq (jQ ?_)
   apply⟨_,_,rfl,dj j,?_⟩
   apply bX (K.put (r:=r) (by omega) kl) (by decide) (by decide) λv S6 hv e6 w l6=> ?_
   refine⟨by show 2<=_;decide,?_⟩
   symm
   have A:=w.keep _ _ P (dj j)
   refine⟨_,A,f_ (i _ (by simp;omega)) ?_⟩
   refine p [.unl t3 (rs.length+2),.tell (.num v)] _ _ (e6.put (by omega) kl) (gc (by omega) (w.keep _ _ B (gc (by omega) (e.keep _ _ B o)))) ?_ (by simp) (by simp) λq Z=> ?_
   ·rw[dj A]
    simp[Rw.d,Tr.d]
   ·simp only[Qsq,QXq,or_false] at Z
    rcases Z with rfl|rfl
    ·exact⟨a5 h3 (by omega),by show rs.length+2<=rs.length+2;omega⟩
    ·exact⟨so,by show v<=9;omega,by show 1<=4;omega⟩
  refine dk (tP rfl rfl R λc hc=>aW (λF=> ?_) (λF=> ?_))
  ·apply jq (jQ ?_)
   apply⟨_,_,rfl,l,?_⟩
   refine fO W nt R (hc F) (by simp;omega) eV gS λv M hv K e l5=> ?_
   obtain⟨z,hz,rfl⟩:=Qkq.mp hv
   symm
   apply jX 4 (deep:=2) K B nb (e.keep _ _ B o) (e.keep _ _ nb u) J U (by decide) λt3 S6 h3 h4 e6 w l6=> ?_
   refine⟨by show 3<=_;decide,?_⟩
   symm
   have A:=w.keep _ _ P (e.keep _ _ P l)
   refine⟨_,A,f_ (i _ (by rw[lr];omega)) ?_⟩
   exact p [.put z t3] _ _ (e6.put (by omega) kl) (gc (by omega) (w.keep _ _ B (e.keep _ _ B o))) (dj A) (by simp) (by simp) λq' C=>by rw[Qfq.mp C];exact⟨hz,a5 h3 (by omega)⟩
  ·apply jq (jQ ?_)
   apply⟨_,_,rfl,l,?_⟩
   apply jX 4 (deep:=1) W B nb o u J U (by decide) λt3 S6 h3 h4 e6 w l6=> ?_
   refine⟨by show 2<=_;decide,?_⟩
   symm
   have A:=w.keep _ _ P l
   refine⟨_,A,f_ (i _ (by rw[lr];omega)) ?_⟩
   exact p [.tell t3] _ _ (e6.put (by omega) kl) (gc (by omega) (w.keep _ _ B o)) (dj A) (by simp) (by simp) λq' C=>by rw[Qfq.mp C];exact⟨so,a5 h3 (by omega)⟩
 ·rintro a6 S3 ⟨o9,a3,a2,rs,rfl,e3,hw3,hr3,hl1,hl2,hn4,hok⟩
  have a0:(jx 0 (1+(a1:Int))).length=a1+1:=by simp only[jx,lQm,QVq];omega
  rw[a0] at hl1 hl2 hn4
  symm
  refine cE hr3 ?_
  refine⟨rfl,?_⟩
  dsimp only
  refine lI e3 x.lt (λk z=>(nomatch z)) (by simp only[cq];exact bq λq _=>ed q.low) λa b c=> ?_
  exact h rs _ hok (by omega) (by omega) x.set y.set (by simp)
end W28
namespace DL
open PySem PySem.Spec L2
def NR{a b:dw}{d:D}(h:a.set 0 none=b.set 0 none):a.set 0 (some d)=b.set 0 (some d):=by
 have:=congrArg (λc:dw=>c.set 0 (some d)) h
 simpa using this
def BU{g:dw}{S:aL}{js:List (Option Nat)}{f:gu}{e:bV}{Q:List D->aL->Prop}(F:D->D)(h:E f g S λp c=>p.2.stays c p.1/\p.1.length<=1000/\(∀d∈p.1,E e ((oY js g).set 0 (some d)) c λy S2=>y=F d/\S2=c)/\Q (p.1.map F) c):
  E (cG js (jw f) (cu 0) cW e) g S Q:=by
 refine l_ (tf (h.mono λp c r=> ?_))
 obtain⟨o,t,k,q⟩:=r
 refine⟨λn b i a=>i=c/\a=(p.1.take n).map F/\b.set 0 none=(oY js g).set 0 none,⟨rfl,rfl,rfl⟩,λn b i a h=>by rw[h.1];exact o,λn d b i a j h=> ?_,λb i a h=> ?_⟩
 ·obtain⟨rfl,rfl,h3⟩:=h
  refine bh (yS ?_)
  rw[Qhq rfl,NR h3]
  refine(k d (mQg j)).mono λy S2 l=> ?_
  obtain⟨s,m⟩:=l
  subst s m
  have u:=(gQs.mp j).1
  refine⟨?_,rfl,?_,by simp⟩
  ·rw[lQm,Qxq]
   exact bu (by omega)
  ·rw[QYq,j]
   simp
 ·obtain⟨rfl,rfl,_⟩:=h
  rw[QEq]
  exact q
end DL
namespace W28
open PySem PySem.Spec L2 DL
noncomputable def vM(p:Str×Nat):D:=.tup [.str p.1,.int p.2]
noncomputable def Im(p:Str×Str):D:=.tup [.str p.1,.str p.2]
noncomputable def iy(p:Str×List Rw):D:=.tup [.str p.1,.tup (p.2.map Rw.d)]
def Dv{r:dw}{S S0:aL}{k j l:Nat}{m:Nat}{ws:List Str}{Q:List D->aL->Prop}(x:Ex k S0 S)(H:r.getD 0 none=some (.ref k))(F:r[j]?=some (some (.ref l)))(w:S[l]?=some (.lst (ws.map D.str)))(B:l≠k)(M:0<m)(K:m<1000)(N:ws.length<=1000)
  (h:∀(ps:List (Str×Nat)) (f:aL),ps.map (·.1)=ws->(∀p∈ps,p.2<m)->Ex k S0 f->Ex k S f->f.length=S.length->Q (ps.map vM) f):
  E (cG [none,some 0] (jw (bx (au j))) (cu 0) cW (bc (ar (au 0) (ar (aB aM (ar (au 1) (ar (cF (.int m)) ay))) ay)))) r S Q:=by
 have y:Ex k S S:=by obtain⟨a,b,c,G⟩:=x.pot;exact Ex.refl G
 refine l_ (tf (iq (bj F (cE w ?_))))
 refine⟨λn i f g=>∃(o:Option D) (ps:List (Str×Nat)),i= [o,some (.ref k)]/\Ex k S0 f/\Ex k S f/\f.length=S.length/\ps.map (·.1)=ws.take n/\(∀p∈ps,p.2<m)/\g=ps.map vM,⟨none,[],by show [none,r.getD 0 none]=_;rw[H],x,y,rfl,rfl,by simp,rfl⟩,?_,?_,?_⟩
 ·rintro n i f g ⟨o,ps,_,_,e,_⟩
  exact e.keep _ _ B w
 ·rintro n d i f g u ⟨o,ps,rfl,e0,e1,el,h1,h2,rfl⟩
  obtain⟨z,s,rfl⟩:∃z,ws[n]?=some z/\d=.str z:=by
   rw[gQm] at u
   obtain⟨z,s,e⟩:=oQm.mp u
   exact⟨z,s,e.symm⟩
  symm
  rw[Qhq rfl]
  symm
  apply bX e0 (by omega) (by omega) λv P J C t I=> ?_
  refine⟨by show 2<=_;decide,?_⟩
  have L:=(gQs.mp s).1
  have A:ps.length=n:=by
   have:=congrArg List.length h1
   rw[lQm,Qxq] at this
   omega
  refine⟨?_,_,ps++ [(z,v)],rfl,C,e1.trans t,by omega,?_,λp q=> ?_,by simp[vM]⟩
  ·rw[lQm]
   exact bu (by omega)
  ·rw[Qzq,h1,QYq,s]
   rfl
  ·rcases mQa.mp q with q|q
   ·exact h2 p q
   ·rw[Qfq.mp q]
    show v<m
    omega
 ·rintro i f g ⟨o,ps,rfl,e0,e1,el,h1,h2,rfl⟩
  exact h ps f (by rw[h1];simp) h2 e0 e1 el
def Kk{r:dw}{S S0:aL}{k j l:Nat}{ws:List Str}{Q:List D->aL->Prop}(x:Ex k S0 S)(J:r.getD 0 none=some (.ref k))(H:r[j]?=some (some (.ref l)))(A:S[l]?=some (.lst (ws.map D.str)))(C:l≠k)(P:ws.length<=1000)
  (h:∀(ps:List (Str×Str)) (f:aL),ps.map (·.1)=ws->(∀p∈ps,p.2="row" \/p.2="turns")->Ex k S0 f->Ex k S f->Q (ps.map Im) f):
  E (cG [none,some 0] (jw (bx (au j))) (cu 0) cW (bc (ar (au 0) (ar (aI bg (c8 (cp (ar (cF (.str "row")) (ar (cF (.str "turns")) ay)))) (aB aM (ar (au 1) (ar (cF (.int 2)) ay)))) ay)))) r S Q:=by
 have y:Ex k S S:=by obtain⟨a,b,c,I⟩:=x.pot;exact Ex.refl I
 refine l_ (tf (iq (bj H (cE A ?_))))
 refine⟨λn i f g=>∃(o:Option D) (ps:List (Str×Str)),i= [o,some (.ref k)]/\Ex k S0 f/\Ex k S f/\ps.map (·.1)=ws.take n/\(∀p∈ps,p.2="row" \/p.2="turns")/\g=ps.map Im,⟨none,[],by show [none,r.getD 0 none]=_;rw[J],x,y,rfl,by simp,rfl⟩,?_,?_,?_⟩
 ·rintro n i f g ⟨o,ps,_,_,e,_⟩
  exact e.keep _ _ C A
 ·rintro n d i f g w ⟨o,ps,rfl,e0,e1,h1,h2,rfl⟩
  obtain⟨z,t,rfl⟩:∃z,ws[n]?=some z/\d=.str z:=by
   rw[gQm] at w
   obtain⟨z,t,e⟩:=oQm.mp w
   exact⟨z,t,e.symm⟩
  symm
  rw[Qhq rfl]
  symm
  apply⟨by decide,?_⟩
  refine bX (e0.app (G:= [O.lst [.str "row",.str "turns"]])) (by decide) (by decide) λv R M F m L=> ?_
  dsimp only
  have u:∃s:Str,(s="row" \/s="turns")/\lL ([.str "row",.str "turns"]:List D) (v:Int)=some (.str s):=by
   rcases v with _|_|v
   ·exact⟨"row",.inl rfl,rfl⟩
   ·exact⟨"turns",.inr rfl,rfl⟩
   ·omega
  obtain⟨s,u,K⟩:=u
  refine gW (m.keep _ _ (by have:=e0.lt;omega) a_) K ?_
  symm
  refine⟨by show 2<=_;decide,?_⟩
  have N:=(gQs.mp t).1
  have B:ps.length=n:=by
   have:=congrArg List.length h1
   rw[lQm,Qxq] at this
   omega
  refine⟨?_,_,ps++ [(z,s)],rfl,F,(e1.app).trans m,?_,λp q=> ?_,by simp[Im]⟩
  ·rw[lQm]
   exact bu (by omega)
  ·rw[Qzq,h1,QYq,t]
   rfl
  ·rcases mQa.mp q with q|q
   ·exact h2 p q
   ·rw[Qfq.mp q]
    exact u
 ·rintro i f g ⟨o,ps,rfl,e0,e1,h1,h2,rfl⟩
  exact h ps f (by rw[h1];simp) h2 e0 e1
def Rw.Ok.sub{a:Bool}{ws ps bs ts:List Str}{c b:List (Str×Str)}{n:Nat}{r:Rw}(h:r.Ok ⟨a,ws,ps,bs,c,ts⟩ n)(e:∀g∈c,g∈b):r.Ok ⟨a,ws,ps,bs,b,ts⟩ n:=by
 cases r with
 |do_ g r d t=>exact⟨h.1,e _ h.2.1,h.2.2⟩
 |_=>exact h
def lK.sub{a:Bool}{ws ps bs ts:List Str}{c b:List (Str×Str)}{rs:List Rw}(h:lK ⟨a,ws,ps,bs,c,ts⟩ rs)(e:∀g∈c,g∈b):lK ⟨a,ws,ps,bs,b,ts⟩ rs:=λr d=>(h r d).sub e
structure Rm where
 name:Str
 ah:Str
 ao:List (Str×Nat)
 aa:List (Str×Str)
 ae:List (Str×List Rw)
noncomputable def Rm.d(r:Rm):D:=.tup [.str r.name,.str r.ah,.tup (r.ao.map vM),.tup (r.aa.map Im),.tup (r.ae.map iy)]
structure yy(gs:List (Str×Str))(r:Rm):Prop where
 mn:r.ah="at once" \/r.ah="when free"
 tv:∀p∈r.ao,p.2<=9
 l1:r.ao.length<=6
 l2:r.aa.length<=6
 l3:r.ae.length<=6
 bv:∀p∈r.aa,p.2="row" \/p.2="turns"
 pr:∀p∈r.ae,lK ⟨false,r.ao.map (·.1)++ft,r.ao.map (·.1),r.aa.map (·.1),gs,[]⟩ p.2/\p.2.length<=12
def MS(r:Rm):Prop:=Nm r.name/\(∀p∈r.ao,Nm p.1)/\(∀p∈r.aa,Nm p.1)/\∀p∈r.ae,Nm p.1
def AG(p:Str×List Rw):cq 0 (iy p)=true:=by
 simp only[iy,cq,cj,Bool.and_true,Bool.true_and]
 exact bq λr _=>r.low
def Rm.low(r:Rm):cq 0 r.d=true:=by
 simp only[Rm.d,cq,cj,Bool.and_true,Bool.true_and,QCq]
 exact⟨bq λ_ _=>rfl,bq λ_ _=>rfl,bq λp _=>AG p⟩
end W28
namespace DL
open PySem PySem.Spec L2
def MB{a:dw}{S:aL}{f:gu}{g:bV}{Q:List D->aL->Prop}(h:E f a S λp b=>E g a b λr S2=>∃n:Nat,r=.int n/\(p.2.isM=true/\p.2.stays S2 p.1/\p.1.length*n<=1000/\n<=1)/\Q ((List.replicate n p.1).flatten) S2):E (Iq f g) a S Q:=by
 obtain⟨p,b,d,r,S2,c,n,rfl,⟨h1,h2,h3,h4⟩,q⟩:=h
 refine⟨_,S2,?_,q⟩
 unfold Iq
 rw[d]
 simp only[Qbq]
 rw[c]
 simp only[Qbq]
 rw[Qhq ⟨h1,h2,by omega,by omega,by simpa using QAq h3 (by decide)⟩]
 simp
end DL
namespace W28
open PySem PySem.Spec L2 DL
def Ip{S S0:aL}{k g m:Nat}{name:Str}{goals:List (Str×Str)}{Q:Res->aL->Prop}(x:Ex k S0 S)(ng:g≠k)(nm:m≠k)(gg:S[g]?=some (.lst (goals.map dZ)))(gm:S[m]?=some (.lst [.str "at once",.str "when free"]))(lg:goals.length<=100)(U:Nm name)
  (h:∀(r:Rm) (I:aL),r.name=name->yy (goals++r.ae.map λp=>(name,p.1)) r->MS r->Ex k S0 I->Ex k S I->I.length=S.length->Q (.d r.d) I):
  Fn kW [.ref k,.str name,.ref g,.ref m,.int 2] S Q:=by
 have y:Ex k S S:=by obtain⟨a,b,c,hh⟩:=x.pot;exact Ex.refl hh
 have kl:=x.lt
 refine cf ?_
 unfold uO
 symm
 refine fO y nm gm (by decide) (by decide) (λd F=> ?_) (λd F=> ?_) λmn S1 a2 e1 _ l1=> ?_
 ·simp only[Qsq,QXq,or_false] at F
  rcases F with rfl|rfl <;>exact⟨λk z=>(nomatch z),rfl⟩
 ·simp only[Qsq,QXq,or_false] at F
  rcases F with rfl|rfl <;>rfl
 obtain⟨ah,a5,rfl⟩:∃s:Str,(s="at once" \/s="when free")/\mn=.str s:=by
  simp only[Qsq,QXq,or_false] at a2
  rcases a2 with rfl|rfl
  ·exact⟨_,.inl rfl,rfl⟩
  ·exact⟨_,.inr rfl,rfl⟩
 symm
 apply⟨by decide,?_⟩
 refine bX (e1.app (G:= [O.lst [.int 1,.int 1,.int 2,.int 0]])) (by decide) (by decide) λv S2 hv e2 b5 l2=> ?_
 dsimp only
 obtain⟨nt,d9,ha⟩:∃n:Nat,n<=2/\lL ([.int 1,.int 1,.int 2,.int 0]:List D) (v:Int)=some (.int n):=by
  rcases v with _|_|_|_|v
  ·exact⟨1,by omega,rfl⟩
  ·exact⟨1,by omega,rfl⟩
  ·exact⟨2,by omega,rfl⟩
  ·exact⟨0,by omega,rfl⟩
  ·omega
 refine gW (b5.keep _ _ (by have:=e1.lt;omega) a_) ha ?_
 symm
 apply jk e2 (by omega) (by omega) (by decide) λW S3 a8 c5 e3 d7 l3=> ?_
 apply bX (e3.app (G:= [O.lst (W.map D.str)])) (by decide) (by decide) λnb S4 f0 e4 a6 l4=> ?_
 apply jk e4 (by omega) (by omega) (by decide) λC u a7 e0 e5 a4 l5=> ?_
 refine⟨by decide,?_⟩
 have H:S3.length≠k:=by have:=e3.lt;omega
 have k5:u.length≠k:=by have:=e5.lt;omega
 have gt:(u++ [O.lst (C.map D.str)]++ [O.lst []])[S3.length]?=some (.lst (W.map D.str)):=bz (bz (a4.keep _ _ H (a6.keep _ _ H a_)))
 have gb:(u++ [O.lst (C.map D.str)]++ [O.lst []])[u.length]?=some (.lst (C.map D.str)):=bz a_
 have c4:S.length<=S3.length:=e3.len
 have d4:S.length<=u.length:=e5.len
 have d5:S3.length<u.length:=by
  have:=a4.len
  have:=a6.len
  simp only[lQa,Qnq,QGq] at *
  omega
 have e6:Ex k S (u++ [O.lst (C.map D.str)]++ [O.lst []]):=e5.app.app
 generalize hr:u.length+1=r
 have A:(u++ [O.lst (C.map D.str)]).length=r:=by simp[hr]
 rw[A]
 have gr:(u++ [O.lst (C.map D.str)]++ [O.lst []])[r]?=some (.lst []):=by rw[←A];exact a_
 generalize (u++ [O.lst (C.map D.str)]++ [O.lst []])=S6 at e6 gt gb gr⊢
 have c1:W.length=nt:=by omega
 have c0:C.length=nb:=by omega
 apply bH (ik ?_)
 apply bX e6 (by decide) (by decide) λnd S7 d8 e7 L l7=> ?_
 apply jk e7 (by omega) (by omega) (by decide) λb2 S8 a9 f1 e8 M l8=> ?_
 have kr:r≠k:=by omega
 let Inv:Nat->dw->aL->Prop:=λn a0 I=>∃(o9 Y R:Option D) (t:List (Str×List Rw)),a0= [some (.ref k),some (.str name),some (.ref g),some (.ref m),some (.int 2),some (.str ah),some (.ref S3.length),some (.ref u.length),some (.ref r),o9,Y,R,none]∧
  Ex k S I/\I[S3.length]?=some (.lst (W.map D.str))/\I[u.length]?=some (.lst (C.map D.str))/\I[r]?=some (.lst (t.map iy))/\t.length=n/\(∀p∈t,lK ⟨false,W++ft,W,C,goals++t.map λp=>(name,p.1),[]⟩ p.2/\p.2.length<=12/\Nm p.1)
 refine⟨Inv,⟨none,none,none,[],rfl,e8,M.keep _ _ H (L.keep _ _ H gt),M.keep _ _ k5 (L.keep _ _ k5 gb),M.keep _ _ kr (L.keep _ _ kr gr),rfl,by simp⟩,λ_ _ _ _=>trivial,?_,?_⟩
 ·rintro n d a0 S9 F ⟨o9,Y,R,t,rfl,e9,gt9,gb9,gr9,hn,hpr⟩
  obtain⟨w,hw,rfl⟩:∃z,b2[n]?=some z/\d=.str z:=by
   rw[gQm] at F
   obtain⟨z,hz,e⟩:=oQm.mp F
   exact⟨z,hz,e.symm⟩
  have c3:n<3:=by
   have:=(gQs.mp hw).1
   omega
  apply bh ?_
  apply BU (λd=>match d with|.tup (a::_)=>.tup [.str name,a]|d=>d) ?_
  refine cE gr9 ?_
  refine⟨gr9,by simp;omega,λd F=> ?_,?_⟩
  ·obtain⟨p,_,rfl⟩:=Qkq.mp F
   symm
   apply aA rfl ?_
   exact⟨by show 2<=_;decide,rfl,rfl⟩
  have eh:(t.map iy).map (λd=>match d with|.tup (a::_)=>.tup [.str name,a]|d=>d)=(t.map λp=>(name,p.1)).map dZ:=by
   rw[QPq,QPq]
   rfl
  rw[eh]
  generalize hh:(t.map λp=>(name,p.1))=here
  have lh:here.length=n:=by rw[←hh];simpa using hn
  symm
  apply Dw ?_
  have b6:=e9.keep _ _ ng gg
  apply cE (bz b6) ?_
  apply MB ?_
  apply cE a_ ?_
  apply bX (e9.app (G:= [O.lst (here.map dZ)])) (by decide) (by decide) λv2 a3 c2 B f c6=> ?_
  apply ff ?_
  have k9:S9.length≠k:=by have:=e9.lt;omega
  have b9:=f.keep _ _ k9 a_
  obtain⟨q,hq,b3⟩:∃q:Nat,q<=1/\intOfD [D.bl (decide ((v2:Int)=0))]=some (.int q):=by
   by_cases c:(v2:Int)=0
   ·exact⟨1,by omega,by rw[Qeq c];rfl⟩
   ·exact⟨0,by omega,by rw[Qdq c];rfl⟩
  refine⟨_,b3,?_⟩
  refine⟨q,rfl,⟨rfl,b9,?_,hq⟩,?_⟩
  ·simp only[lQm]
   have:here.length*q<=here.length*1:=Nat.mul_le_mul_left _ hq
   omega
  obtain⟨o,a1,b0,d2⟩:∃l:List (Str×Str),goals.map dZ++(List.replicate q (here.map dZ)).flatten=l.map dZ/\(∀g∈l,g∈goals++here)/\l.length<=goals.length+10:=by
   rcases q with _|_|q
   ·exact⟨goals,by simp,λg Z=>List.mem_append_left _ Z,by omega⟩
   ·exact⟨goals++here,by simp,λg Z=>Z,by rw[lQa];omega⟩
   ·omega
  refine⟨⟨rfl,rfl,B.keep _ _ ng gg,?_⟩,?_⟩
  ·have:=congrArg List.length a1
   rw[lQa] at this
   rw[this,lQm]
   exact nQl (bu (by omega))
  rw[a1]
  symm
  apply jQ ?_
  have K:(a3++ [O.lst (o.map dZ)])[r]?=some (.lst (t.map iy)):=bz (f.keep _ _ kr (bz gr9))
  apply⟨_,_,rfl,K,?_⟩
  refine⟨by show 3<=_;decide,?_⟩
  symm
  refine II (goals:=o) (B.app (G:= [O.lst (o.map dZ)])) H k5 (by have:=B.lt;omega) (bz (f.keep _ _ H (bz gt9))) (bz (f.keep _ _ k5 (bz gb9))) a_ (by omega) (by omega) (by omega) λrs b8 h1 h2 h3 X j b7=> ?_
  symm
  refine⟨by show 2<=_;decide,?_⟩
  symm
  have J:=j.keep _ _ kr K
  refine⟨_,J,f_ (bu (by simp;omega)) ?_⟩
  refine⟨_,_,_,t++ [(w,rs)],rfl,X.put (by omega) kl,gc (by omega) (j.keep _ _ H (bz (f.keep _ _ H (bz gt9)))),gc (by omega) (j.keep _ _ k5 (bz (f.keep _ _ k5 (bz gb9)))),?_,by simp[hn],λp i=> ?_⟩
  ·rw[dj J]
   simp[iy]
  ·rcases mQa.mp i with i|i
   ·refine⟨(hpr p i).1.sub λg Z=> ?_,(hpr p i).2⟩
    rw[Qzq,←Qvq]
    exact List.mem_append_left _ Z
   ·rw[Qfq.mp i]
    refine⟨h1.sub λg Z=> ?_,h3,ji (by decide +kernel) a9 _ (mQg hw)⟩
    rw[Qzq,←Qvq]
    refine List.mem_append_left _ ?_
    rw[hh]
    exact b0 g Z
 ·rintro a0 S9 ⟨o9,Y,R,t,rfl,e9,gt9,gb9,gr9,hn,hpr⟩
  have d1:t.length<=3:=by
   rw[hn]
   simp only[lQm]
   omega
  symm
  apply Kk e9 rfl rfl gb9 k5 (by omega) λbs a3 N b4 B f=> ?_
  apply Dv (m:=3) B rfl rfl (f.keep _ _ H gt9) H (by decide) (by decide) (by omega) λts b8 P b1 X j b7=> ?_
  refine cE (j.keep _ _ kr (f.keep _ _ kr gr9)) ?_
  apply⟨rfl,?_⟩
  refine⟨by show 5<=_;decide,?_⟩
  have d6:ts.length=W.length:=by rw[←P];simp
  have d3:bs.length=C.length:=by rw[←N];simp
  refine lI (d:=(Rm.mk name ah ts bs t).d) X x.lt (λk z=>(nomatch z)) (ed (Rm.low _)) λa b c=> ?_
  refine h ⟨name,ah,ts,bs,t⟩ _ rfl ⟨a5,λp i=>by have:=b1 p i;omega,by show ts.length<=6;omega,by show bs.length<=6;omega,by show t.length<=6;omega,b4,?_⟩ ⟨U,λp i=>ji (by decide +kernel) a8 _ (by rw[←P];exact Qkq.mpr ⟨p,i,rfl⟩),λp i=>ji (by decide +kernel) a7 _ (by rw[←N];exact Qkq.mpr ⟨p,i,rfl⟩),λp i=>(hpr p i).2.2⟩ x.set y.set (by simp)
  intro p i
  show lK ⟨false,ts.map (·.1)++ft,ts.map (·.1),bs.map (·.1),_,[]⟩ p.2/\_
  rw[P,N]
  exact⟨(hpr p i).1,(hpr p i).2.1⟩
end W28
namespace DL
open PySem PySem.Spec L2
theorem Nb{c:kR}{b:dm}{Q:Out->Prop}(I:Nat->dw->aL->Prop)(i:∀m a S,I m a S->E c a S λk f=>if k=true then∃e,m=e+1/\T b a f λo=>match o with|.nx d S2=>I e d S2|_=>False else Q (.nx a f)):
  ∀(n m:Nat) (a:dw) (S:aL),m<n->I m a S->T (Ik c b n) a S Q
 |0,_,_,_,h,_=>absurd h (Nat.not_lt_zero _)
 | n+1,m,a,S,h,hi=>by
   obtain⟨k,f,g,q⟩:=i m a S hi
   cases k with
   |false=>exact⟨_,by simp only[Ik];rw[g];rfl,q⟩
   | true=>
     obtain⟨e,rfl,o,e2,q⟩:=(q:∃e,m=e+1/\T b a f _)
     cases o with
     | nx d S2=>
       obtain⟨o,j,q⟩:=Nb I i n e d S2 (by omega) q
       exact⟨o,by simp only[Ik];rw[g];simp only[Qbq,if_true];rw[e2];exact j,q⟩
     |_=>exact q.elim
def Jj{b:dw}{S:aL}{f:gu}{Q:List D->aL->Prop}(h:E f b S λp a=>p.2.isL=true/\∃ss,rY p.1=some ss/\(p.1.length<=3/\ss.Nodup)/\Q (vd ss p.1) a):E (yR f) b S Q:=by
 obtain⟨p,a,d,l,ss,c,e,q⟩:=h
 exact⟨_,a,by unfold yR;rw[d];simp only[Qbq];rw[Qhq l,c];simp only[Qbq];rw[Qhq e],q⟩
def E5{α:Type}{f:α->D}{ss:List Str}{xs:List α}(g:α)(b:xs.length<=3):∃ys:List α,ys.Perm xs/\vd ss (xs.map f)=ys.map f:=by
 refine⟨Zp.sortBy ss g xs,Zp.fH ss xs b,?_⟩
 have j:(vd ss (xs.map f)).length=((Zp.sortBy ss g xs).map f).length:=by
  unfold vd
  rw[(Zp.fH ss (xs.map f) (by simpa using b)).length_eq,lQm,lQm,(Zp.fH ss xs b).length_eq]
 apply List.ext_getElem?
 intro i
 cases e:(vd ss (xs.map f))[i]? with
 | none=>
   rw[List.getElem?_eq_none_iff] at e
   rw[eq_comm,List.getElem?_eq_none_iff]
   omega
 | some d=>
   obtain⟨y,c,r⟩:=vI (R:=λ(d:D) (a:α)=>d=f a) (ss:=ss) (xs:=xs.map f) (ys:=xs) (d:=.non) (d':=g) (by simp) (by simpa using b) (λi d h=>by
     rw[gQm] at h
     obtain⟨y,c,e⟩:=oQm.mp h
     exact⟨y,c,e.symm⟩) i d e
   rw[gQm,c,r]
   rfl
end DL
namespace W28
open PySem PySem.Spec L2 DL
noncomputable def aX(rs:List Rm):List (Str×Str):=rs.flatMap λr=>r.ae.map λp=>(r.name,p.1)
def yy.sub{c a:List (Str×Str)}{r:Rm}(h:yy c r)(d:∀g∈c,g∈a):yy a r:={h with pr:=λp b=>⟨(h.pr p b).1.sub d,(h.pr p b).2⟩}
theorem DK:∀rs:List Rm,rY (rs.map Rm.d)=some (rs.map (·.name))
 | []=>rfl
 | r::rs=>by
   show rY (Rm.d r::rs.map Rm.d)=_
   simp only[Rm.d,rY]
   rw[DK rs]
   rfl
def z3{S:aL}{b:dw}{i j v:Nat}{rs:List Rm}{f:gu}{Q:Out->Prop}{tg:Tag}(B:v<b.length)(C:b[j]?=some (some (.ref i)))(y:S[i]?=some (.lst []))
  (H:∀(R:List D×Tag->aL->Prop),R (rs.map Rm.d,tg) S->E f b S R) (G:∀o,tg.stays (S.set i o) (rs.map Rm.d)) (A:v≠j) (hd:∀r∈rs,r.ae.length<=6) (N:rs.length<=3)
  (q:∀o,Q (.nx (b.set v o) (S.set i (.lst ((aX rs).map dZ))))):
  T (jz (jw f) (cu v) (nE (ze (au j) (iV (cG [none,some v] (jw (bx (aI bg (au v) (cF (.int 4))))) (cu 0) cW (bc (ar (aI bg (au 1) (cF (.int 0))) (ar (aI bg (au 0) (cF (.int 0))) ay)))))))) b S Q:=by
 refine ik (tf (H _ ?_))
 have W:i<S.length:=(gQs.mp y).1
 have g:∀o:Option D,(b.set v o)[v]?=some o:=λo=>Qyq B
 have u:∀o:Option D,(b.set v o)[j]?=some (some (.ref i)):=λo=>by rw[QKq A];exact C
 refine⟨λn c w=>(n=0->c=b)/\(∃o,c=b.set v o)/\w=S.set i (.lst ((aX (rs.take n)).map dZ)),⟨λ_=>rfl,?_,?_⟩,λn c w h=> ?_,λn d c w t ⟨_,⟨o,k⟩,s⟩=> ?_,λc w ⟨U,⟨o,k⟩,s⟩=> ?_⟩
 ·exact⟨b[v],by rw[List.set_getElem_self]⟩
 ·apply List.ext_getElem?
  intro x
  rw[List.getElem?_set]
  split
  ·rename_i e
   subst e
   rw[y]
   rfl
  ·rfl
 ·rw[h.2.2];exact G _
 ·obtain⟨r,m,rfl⟩:∃r,rs[n]?=some r/\d=r.d:=by
   rw[gQm] at t
   obtain⟨z,I,e⟩:=oQm.mp t
   exact⟨z,I,e.symm⟩
  subst k s
  have P:=(gQs.mp m).1
  refine bh (jq (FT ?_))
  rw[List.set_set]
  refine bj (u _) ?_
  refine⟨_,_,rfl,dj y,uS (BU (λd=>match d with|.tup (a::_)=>.tup [.str r.name,a]|d=>d) ?_)⟩
  refine iq (g_ (bj (g _) (qp (aA rfl (cH ?_)))))
  have L:=hd r (mQg m)
  refine⟨trivial,by simp;omega,λd hd=> ?_,?_⟩
  ·obtain⟨p,_,rfl⟩:=Qkq.mp hd
   have F:(oY [none,some v] (b.set v (some r.d))).set 0 (some (iy p))= [some (iy p),some r.d]:=by
    show [some (iy p),(b.set v (some r.d)).getD v none]=_
    rw[Qlq,g]
    rfl
   rw[F]
   symm
   apply aA rfl ?_
   apply aA rfl ?_
   exact⟨by show 2<=_;decide,rfl,rfl⟩
  ·have J:∀l:List Rm,(∀r∈l,r.ae.length<=6)->(aX l).length<=6*l.length:=by
    intro l
    induction l with
    |nil=>intro _;simp[aX]
    | cons a l M=>
      intro h
      have:=M λr m=>h r (Qpq _ m)
      have:=h a (QBq ..)
      simp only[aX,QSq,lQa,lQm,Qnq] at *
      omega
   have K:=J (rs.take n) λr m=>hd r (List.mem_of_mem_take m)
   rw[Qxq] at K
   refine⟨_,dj y,⟨rfl,?_⟩,λz=>absurd z (by omega),⟨_,rfl⟩,?_⟩
   ·simp only[lQm]
    exact nQl (bu (by omega))
   ·rw[List.set_set,QYq,m]
    congr 2
    simp only[aX,List.flatMap_append,Qzq,Option.toList_some,QSq,List.flatMap_nil,List.append_nil,QPq]
    rfl
 ·subst k s
  rw[lQm,QEq]
  exact q o
def pj(d:Str):∀a b:Str,d++a=d++b->a=b:=by
 intro a b h
 have f:(d++a).cps.toList=(d++b).cps.toList:=by rw[h]
 have e:∀c:Str,(d++c).cps.toList=d.cps.toList++c.cps.toList:=λc=>by
  show(d.cps++c.cps).toList=_
  simp
 rw[e,e] at f
 exact Str.ext' (Array.toList_inj.mp (List.append_cancel_left f))
def Fl(c:Str):(six.map (c++·)).Nodup:=by
 have d:six.Nodup:=by decide +kernel
 exact List.Pairwise.map (R:=(·≠·)) (S:=(·≠·)) _ (λa b n e=>n (pj c a b e)) d
def GH{S S0:aL}{k m A:Nat}{Q:Res->aL->Prop}(x:Ex k S0 S)(nm:m≠k)(gm:S[m]?=some (.lst [.str "at once",.str "when free"]))(hm:A<=3)
  (h:∀(rs:List Rm) (C:aL),(rs.map (·.name)).Nodup->rs.length<=3->(∀r∈rs,yy (aX rs) r)->(∀r∈rs,MS r)->Ex k S0 C->Ex k S C->C.length=S.length->Q (.d (.tup (rs.map Rm.d))) C):
  Fn jB [.ref k,.int A,.ref m,.int 2] S Q:=by
 have y:Ex k S S:=by obtain⟨a,b,c,hh⟩:=x.pot;exact Ex.refl hh
 have kl:=x.lt
 have ml:=(gQs.mp gm).1
 refine cf ?_
 unfold sF
 symm
 apply jk y (by omega) (by omega) (by decide) λe J hp b1 e1 b0 l1=> ?_
 refine⟨by decide,?_⟩
 have nn:e.Nodup:=by
  obtain⟨l,hp⟩:=hp
  exact(List.nodup_append.mp (hp.nodup_iff.mpr (Fl _))).1
 generalize ha:J.length=a
 generalize G:a+1=r
 have t:(J++ [O.lst (e.map D.str)]).length=r:=by simp[ha,G]
 rw[t]
 have e2:Ex k S (J++ [O.lst (e.map D.str)]++ [O.lst []]):=e1.app.app
 have ga:(J++ [O.lst (e.map D.str)]++ [O.lst []])[a]?=some (.lst (e.map D.str)):=by rw[←ha];exact bz a_
 have gr:(J++ [O.lst (e.map D.str)]++ [O.lst []])[r]?=some (.lst []):=by rw[←t];exact a_
 have b2:=e1.lt
 generalize (J++ [O.lst (e.map D.str)]++ [O.lst []])=S2 at e2 ga gr⊢
 have sa:S.length<=a:=by rw[←ha];exact e1.len
 have ka:a≠k:=by omega
 have kr:r≠k:=by omega
 refine bH (Nb (λq a4 C=>∃(o6 o7 o8:Option D) (n:List Str) (rs:List Rm),a4= [some (.ref k),some (.int A),some (.ref m),some (.int 2),some (.ref a),some (.ref r),o6,o7,o8]/\Ex k S C/\C[a]?=some (.lst (n.map D.str))/\C[r]?=some (.lst (rs.map Rm.d))/\n.length=q/\(rs.map (·.name)++n).Perm e/\∀x∈rs,yy (aX rs) x/\MS x) ?_ 4 e.length _ _ (by omega) ?_)
 ·rintro q a4 s ⟨o6,o7,o8,n,rs,rfl,e3,ga3,gr3,u,hpm,hok⟩
  have F:=hpm.length_eq
  rw[lQa,lQm] at F
  symm
  refine cE ga3 ?_
  refine⟨⟨rfl,ga3⟩,?_⟩
  dsimp only
  refine aW (λc=> ?_) (λc=> ?_)
  ·have a1:0<n.length:=by
    cases n with
    |nil=>simp at c
    |cons a b=>simp
   apply⟨n.length-1,by omega,?_⟩
   refine⟨by decide,?_⟩
   refine bH ?_
   have k3:s.length≠k:=by have:=e3.lt;omega
   have r3:=(gQs.mp gr3).1
   have a3:=(gQs.mp ga3).1
   have L:∀o,Tag.stays ((s++ [O.lst []]).set s.length o) (rs.map Rm.d) (.st r):=λo=>gc (by omega) (bz gr3)
   refine z3 (i:=s.length) (j:=6) (v:=7) (rs:=rs) (tg:=.st r) (by simp) rfl a_ (λR hR=>iq (bj rfl (cE (bz gr3) hR))) L (by decide) (λr G=>(hok r G).1.l3) (by omega) (λo=> ?_)
   have e4:Ex k S ((s++ [O.lst []]).set s.length (.lst ((aX rs).map dZ))):=e3.app.put e3.len kl
   have B:((s++ [O.lst []]).set s.length (.lst ((aX rs).map dZ)))[a]?=some (.lst (n.map D.str)):=gc (by omega) (bz ga3)
   have Y:((s++ [O.lst []]).set s.length (.lst ((aX rs).map dZ)))[r]?=some (.lst (rs.map Rm.d)):=gc (by omega) (bz gr3)
   have Z:((s++ [O.lst []]).set s.length (.lst ((aX rs).map dZ)))[s.length]?=some (.lst ((aX rs).map dZ)):=dj a_
   have lg:(aX rs).length<=100:=by
    have a6:∀l:List Rm,(∀r∈l,r.ae.length<=6)->(aX l).length<=6*l.length:=by
     intro l
     induction l with
     |nil=>intro _;simp[aX]
     | cons a l ih=>
       intro h
       have:=ih λr G=>h r (Qpq _ G)
       have:=h a (QBq ..)
       simp only[aX,QSq,lQa,lQm,Qnq] at *
       omega
    have:=a6 rs λr G=>(hok r G).1.l3
    omega
   generalize ((s++ [O.lst []]).set s.length (.lst ((aX rs).map dZ)))=S4 at e4 B Y Z⊢
   dsimp only
   apply bH (Gi (jQ ?_))
   apply⟨_,_,rfl,B,?_⟩
   apply cE B ?_
   refine bX e4 (by simp only[lQm];omega) (by simp only[lQm];omega) λj P hj e5 H l5=> ?_
   dsimp only
   symm
   have w:j<n.length:=by simpa using hj
   have a2:=H.keep _ _ ka B
   refine⟨_,a2,?_⟩
   refine KZ (d:=((n.map D.str).eraseIdx j,D.str n[j])) ?_ ?_
   ·simp only[oJ]
    rw[Qhq ⟨by omega,by omega⟩,lQm,J_ w (by omega)]
    simp[gQe w]
   dsimp only
   refine jq (jQ ?_)
   have e6:Ex k S (P.set a (.lst ((n.map D.str).eraseIdx j))):=e5.put sa kl
   have N:(P.set a (.lst ((n.map D.str).eraseIdx j)))[a]?=some (.lst ((n.eraseIdx j).map D.str)):=by rw[dj a2,qz]
   have I:(P.set a (.lst ((n.map D.str).eraseIdx j)))[r]?=some (.lst (rs.map Rm.d)):=gc (by omega) (H.keep _ _ kr Y)
   have a5:(P.set a (.lst ((n.map D.str).eraseIdx j)))[s.length]?=some (.lst ((aX rs).map dZ)):=gc (by omega) (H.keep _ _ k3 Z)
   generalize (P.set a (.lst ((n.map D.str).eraseIdx j)))=S6 at e6 N I a5⊢
   symm
   apply⟨_,_,rfl,I,?_⟩
   apply Ip (goals:=aX rs) e6 k3 nm a5 (e6.keep _ _ nm gm) lg (ji (by decide +kernel) hp _ (hpm.mem_iff.mp (Qoq _ (List.getElem_mem w)))) λW S7 a0 a9 a8 e7 M l7=> ?_
   have U:=M.keep _ _ kr I
   refine⟨_,U,f_ (bu (by simp only[lQm];omega)) ?_⟩
   have a7:aX (rs++ [W])=aX rs++W.ae.map λp=>(W.name,p.1):=by simp[aX]
   refine⟨_,_,_,n.eraseIdx j,rs++ [W],rfl,e7.put (by omega) kl,gc (by omega) (M.keep _ _ ka N),?_,?_,?_,λq u=> ?_⟩
   ·rw[dj U]
    simp
   ·rw[List.length_eraseIdx_of_lt w]
   ·rw[Qzq]
    show((rs.map (·.name)++ [W.name])++n.eraseIdx j).Perm e
    rw[a0]
    exact zV w hpm
   ·rw[a7]
    rcases mQa.mp u with u|u
    ·exact⟨(hok q u).1.sub λg K=>List.mem_append_left _ K,(hok q u).2⟩
    ·rw[Qfq.mp u,a0]
     exact⟨a9,a8⟩
  ·have a1:n= []:=by
    cases n with
    |nil=>rfl
    |cons a b=>simp at c
   subst a1
   rw[List.append_nil] at hpm
   apply j3 (my (uS (Jj ?_)))
   refine cE gr3 ?_
   have l3:rs.length<=3:=by simp at F;omega
   refine⟨rfl,_,DK rs,⟨by simpa using l3,hpm.nodup_iff.mpr nn⟩,?_⟩
   obtain⟨ys,X,he⟩:=E5 (f:=Rm.d) (ss:=rs.map (·.name)) (xs:=rs) ⟨"","",[],[],[]⟩ l3
   rw[he]
   refine lI e3 x.lt (λk z=>(nomatch z)) (by simp only[cq];exact bq λq _=>ed q.low) λa b c=> ?_
   refine h ys _ ((X.map _).nodup_iff.mpr (hpm.nodup_iff.mpr nn)) (by rw[X.length_eq];exact l3) (λq u=>(hok q (X.mem_iff.mp u)).1.sub λg K=> ?_) (λq u=>(hok q (X.mem_iff.mp u)).2) x.set y.set (by simp)
   simp only[aX,QOq] at K⊢
   obtain⟨z,hz,K⟩:=K
   exact⟨z,X.mem_iff.mpr hz,K⟩
 ·exact⟨none,none,none,e,[],rfl,e2,ga,gr,rfl,by simp,by simp⟩
def Lg{S S0:aL}{k g w p:Nat}{words ai:List Str}{goals:List (Str×Str)}{Q:Res->aL->Prop}(x:Ex k S0 S)(ng:g≠k)(nw:w≠k)(np:p≠k)(gg:S[g]?=some (.lst (goals.map dZ)))(gw:S[w]?=some (.lst (words.map D.str)))(gp:S[p]?=some (.lst (ai.map D.str)))
  (lg:goals.length<500) (lw:words.length<500) (lp:ai.length<500)
  (h:∀(rs:List Rw) (X:aL),lK ⟨true,words,words,[],goals,ai⟩ rs->0<rs.length->rs.length<=9->Ex k S0 X->Ex k S X->X.length=S.length->Q (.d (.tup (rs.map Rw.d))) X):
  Fn m6 [.ref k,.ref g,.ref w,.ref p,.int 4] S Q:=by
 have y:Ex k S S:=by obtain⟨a,b,c,hh⟩:=x.pot;exact Ex.refl hh
 have kl:=x.lt
 have gl:=(gQs.mp gg).1
 have wl:=(gQs.mp gw).1
 have pl:=(gQs.mp gp).1
 generalize U:(⟨true,words,words,[],goals,ai⟩:Sc)=sc at h
 have so:sc.own=true:=by rw[←U]
 have sw:sc.ws=words:=by rw[←U]
 have sp:sc.ps=words:=by rw[←U]
 have sb:sc.bs= []:=by rw[←U]
 have sg:sc.gs=goals:=by rw[←U]
 have st:sc.ts=ai:=by rw[←U]
 refine cf ?_
 unfold xA
 symm
 refine⟨by decide,?_⟩
 generalize hr:S.length=r
 have ir:(S++ [O.lst []])[r]?=some (.lst []):=by rw[←hr];exact a_
 have e0:Ex k S (S++ [O.lst []]):=y.app
 generalize (S++ [O.lst []])=S1 at e0 ir⊢
 have Z:r≠k:=by omega
 apply bH (ik ?_)
 apply bX e0 (by decide) (by decide) λa3 S2 b2 e2 b3 l2=> ?_
 refine⟨_,rfl,⟨by omega,by omega⟩,?_⟩
 let Inv:Nat->dw->aL->Prop:=λn a7 X=>∃(o6 o7:Option D) (rs:List Rw),a7= [some (.ref k),some (.ref g),some (.ref w),some (.ref p),some (.int 4),some (.ref r),o6,o7]∧
  Ex k S X/\X[r]?=some (.lst (rs.map Rw.d))/\rs.length<=2*n/\n<=rs.length/\n<=4/\∀q∈rs,q.Ok sc rs.length
 have u:∀m:Nat,m<=100->m<sizeLine:=λm hm=>Nat.lt_of_le_of_lt hm (by decide)
 have a0:sc.ws.length<1000:=by rw[sw];omega
 have b6:sc.ps.length<900:=by rw[sp];omega
 have b4:sc.gs.length<1000:=by rw[sg];omega
 have up:∀{t':Tr} {d:Nat},t'.Ok sc.ws []->t'.dep<=d+1->d<=3->B3 sc t':=λh1 h2 h3=>⟨by rw[sb];exact h1,by omega⟩
 refine⟨Inv,⟨_,_,[],rfl,e2,b3.keep _ _ Z ir,by simp,by simp,by omega,by simp⟩,λ_ _ _ _=>trivial,?_,?_⟩
 ·rintro n d a7 S3 hd ⟨o6,o7,rs,rfl,e3,hr3,hl1,hl2,hn4,W⟩
  have c0:n<4:=by
   have:=(gQs.mp hd).1
   simp only[jx,lQm,QVq] at this
   omega
  apply bh ?_
  refine bX e3 (by decide) (by decide) λa4 S4 b9 J a5 l4=> ?_
  dsimp only
  have e:=a5.keep _ _ Z hr3
  have M:=J.keep _ _ nw gw
  have a6:=J.keep _ _ ng gg
  have Y:=J.keep _ _ np gp
  rw[←sw] at M
  rw[←sg] at a6
  rw[←st] at Y
  have a2:=M
  rw[sw,←sp] at a2
  have C:∀(ms:List Rw) (H:aL),Ex k S H->H[r]?=some (.lst (rs.map Rw.d++ms.map Rw.d))->1<=ms.length->ms.length<=2->(∀q∈ms,q.Ok sc (rs.length+ms.length))→
    Inv (n+1) [some (.ref k),some (.ref g),some (.ref w),some (.ref p),some (.int 4),some (.ref r),some d,some (.int a4)] H:=by
   intro ms H I h2 h3 h4 h5
   refine⟨_,_,rs++ms,rfl,I,by rw[h2,Qzq],by rw[lQa];omega,by rw[lQa];omega,by omega,λq N=> ?_⟩
   rw[lQa]
   rcases mQa.mp N with N|N
   ·exact(W q N).mono (by omega)
   ·exact h5 q N
  have lr:(rs.map Rw.d).length=rs.length:=by simp
  have a1:∀H (q5:List Rw),Ex k S H->H[r]?=some (.lst (q5.map Rw.d))->q5.length<=50->∀(R:Out->Prop),(∀(t:Tr) (S6:aL),B3 sc t->Ex k S S6->S6[r]?=some (.lst ((q5++ [Rw.say t]).map Rw.d))->R (.nx [some (.ref k),some (.ref g),some (.ref w),some (.ref p),some (.int 4),some (.ref r),some d,some (.int a4)] S6))→
    T (nE (qo g6 (au 5) (ar (bc (ar (cF (.str "say")) (ar (aB (bM 4) (ar (au 0) (ar (au 2) (ar (c8 (cp ay)) (ar (cF (.int 1)) ay))))) ay))) ay))) [some (.ref k),some (.ref g),some (.ref w),some (.ref p),some (.int 4),some (.ref r),some d,some (.int a4)] H R:=by
   intro H q5 I B c2 R hR
   apply jq (jQ ?_)
   apply⟨_,_,rfl,B,?_⟩
   apply⟨by decide,?_⟩
   have w5:=I.keep _ _ nw gw
   rw[←sw] at w5
   refine jX 4 (deep:=1) (bs:= []) (I.app (G:= [O.lst []])) nw (j:=H.length) (by have:=I.lt;omega) (bz w5) a_ a0 (by decide) (by decide) λt3 S6 h3 h4 e6 L l6=> ?_
   symm
   refine⟨by show 2<=_;decide,?_⟩
   symm
   have A:=L.keep _ _ Z (bz B)
   refine⟨_,A,f_ (u _ (by simp;omega)) ?_⟩
   refine hR t3 _ (up h3 h4 (by omega)) (e6.put (by omega) kl) ?_
   rw[dj A]
   simp[Rw.d]
  refine dk (tP rfl rfl a6 λc hc=>aW (λP=> ?_) (λP=> ?_))
  ·apply jq (jQ ?_)
   apply⟨_,_,rfl,e,?_⟩
   apply Kh (n:=rs.length+1) (sc:=sc) J ng nw nw a6 a2 M (by simpa using hc P) b4 b6 a0 λq H h1 I i l5=> ?_
   have B:=i.keep _ _ Z e
   refine⟨_,B,f_ (u _ (by rw[lr];omega)) ?_⟩
   exact C [q] _ (I.put (by omega) kl) (dj B) (by simp) (by simp) λq' F=>by rw[Qfq.mp F];exact h1
  refine dk (tU rfl rfl Y λc hc=>aW (λP=> ?_) (λP=> ?_))
  ·apply jq (jQ ?_)
   apply⟨_,_,rfl,e,?_⟩
   apply⟨by decide,?_⟩
   refine bX (J.app (G:= [O.lst [.str "take",.str "give"]])) (by decide) (by decide) λv H hv I i l5=> ?_
   dsimp only
   have b5:∃(f:Str->Rw) (s:Str),(∀z,(f z).d=.tup [.str s,.str z])/\(∀z n,z∈sc.ts->(f z).Ok sc n)/\lL ([.str "take",.str "give"]:List D) (v:Int)=some (.str s):=by
    rcases v with _|_|v
    ·exact⟨.take,"take",λ_=>rfl,λz n hz=>⟨so,hz⟩,rfl⟩
    ·exact⟨.give,"give",λ_=>rfl,λz n hz=>⟨so,hz⟩,rfl⟩
    ·omega
   obtain⟨f,s,hf,b8,hs⟩:=b5
   refine gW (i.keep _ _ (by have:=J.lt;omega) a_) hs ?_
   symm
   refine fO I np (i.keep _ _ np (bz Y)) (hc P) (by rw[st];simp;omega) eV gS λv2 S6 K e6 L l6=> ?_
   obtain⟨z,hz,rfl⟩:=Qkq.mp K
   symm
   refine⟨by show 2<=_;decide,?_⟩
   symm
   have A:=L.keep _ _ Z (i.keep _ _ Z (bz e))
   refine⟨_,A,f_ (u _ (by rw[lr];omega)) ?_⟩
   refine C [f z] _ (e6.put (by omega) kl) ?_ (by simp) (by simp) λq' F=>by rw[Qfq.mp F];exact b8 _ _ hz
   rw[dj A]
   simp[hf]
  refine dk (tU rfl rfl Y λc hc=>aW (λP=> ?_) (λP=> ?_))
  ·apply jq (jQ ?_)
   apply⟨_,_,rfl,e,?_⟩
   refine fO J np Y (hc P) (by rw[st];simp;omega) eV gS λv2 H K I i l5=> ?_
   obtain⟨z,hz,rfl⟩:=Qkq.mp K
   symm
   refine fO I np (i.keep _ _ np Y) (hc P) (by rw[st];simp;omega) eV gS λv3 S6 b1 e6 L l6=> ?_
   obtain⟨z2,b7,rfl⟩:=Qkq.mp b1
   symm
   refine⟨by show 3<=_;decide,?_⟩
   symm
   have A:=L.keep _ _ Z (i.keep _ _ Z e)
   refine⟨_,A,f_ (u _ (by rw[lr];omega)) ?_⟩
   exact C [.pass z z2] _ (e6.put (by omega) kl) (dj A) (by simp) (by simp) λq' F=>by rw[Qfq.mp F];exact⟨so,hz,b7⟩
  refine dk (tU rfl rfl M λc hc=>aW (λP=> ?_) (λP=> ?_))
  ·apply jq (jQ ?_)
   apply⟨_,_,rfl,e,?_⟩
   refine fO J nw M (hc P) (by simp;omega) eV gS λv2 H K I i l5=> ?_
   obtain⟨z,hz,rfl⟩:=Qkq.mp K
   symm
   apply⟨by decide,?_⟩
   refine jX 4 (deep:=2) (bs:= []) (I.app (G:= [O.lst []])) nw (j:=H.length) (by have:=I.lt;omega) (bz (i.keep _ _ nw M)) a_ a0 (by decide) (by decide) λt3 S6 h3 h4 e6 L l6=> ?_
   symm
   refine⟨by show 3<=_;decide,?_⟩
   symm
   have A:=L.keep _ _ Z (bz (i.keep _ _ Z e))
   refine⟨_,A,f_ (u _ (by rw[lr];omega)) ?_⟩
   exact C [.put z t3] _ (e6.put (by omega) kl) (dj A) (by simp) (by simp) λq' F=>by rw[Qfq.mp F];exact⟨by rw[sp,←sw];exact hz,up h3 h4 (by omega)⟩
  refine dk (JY rfl λc=>aW (λP=> ?_) (λP=> ?_))
  ·apply bH (jq (jQ ?_))
   apply⟨_,_,rfl,e,?_⟩
   apply⟨by decide,?_⟩
   refine jX 4 (deep:=2) (bs:= []) (J.app (G:= [O.lst []])) nw (j:=S4.length) (by have:=J.lt;omega) (bz M) a_ a0 (by decide) (by decide) λt3 H h3 h4 I i l5=> ?_
   symm
   have B:=i.keep _ _ Z (bz e)
   apply cE B ?_
   refine⟨by show 3<=_;decide,?_⟩
   symm
   refine⟨_,B,f_ (u _ (by rw[lr];omega)) ?_⟩
   dsimp only
   have A:(H.set r (.lst (rs.map Rw.d++ [.tup [.str "unless",t3.d,.int (((rs.map Rw.d).length:Int)+2)]])))[r]?=some (.lst ((rs++ [Rw.unl t3 (rs.length+2)]).map Rw.d)):=by
    rw[dj B]
    simp[Rw.d]
   refine a1 _ (rs++ [Rw.unl t3 (rs.length+2)]) (I.put (by omega) kl) A (by simp;omega) _ λt4 S6 h5 e6 a8=> ?_
   refine C [.unl t3 (rs.length+2),.say t4] _ e6 (by rw[a8];simp) (by simp) (by simp) λq N=> ?_
   simp only[Qsq,QXq,or_false] at N
   rcases N with rfl|rfl
   ·exact⟨up h3 h4 (by omega),Qmq _⟩
   ·exact⟨so,h5⟩
  ·refine a1 _ rs J e (by omega) _ λt4 S6 h5 e6 a8=> ?_
   exact C [.say t4] _ e6 (by rw[a8];simp) (by simp) (by simp) λq' F=>by rw[Qfq.mp F];exact⟨so,h5⟩
 ·rintro a7 S3 ⟨o6,o7,rs,rfl,e3,hr3,hl1,hl2,hn4,W⟩
  have a9:(jx 0 (1+(a3:Int))).length=a3+1:=by simp only[jx,lQm,QVq];omega
  rw[a9] at hl1 hl2 hn4
  have b0:∀(rs:List Rw) (S4:aL),Ex k S S4->S4[r]?=some (.lst (rs.map Rw.d))->(∀q∈rs,q.Ok sc rs.length)->0<rs.length->rs.length<=9->T (cQ (tupQ (gk (bx (au 5))))) [some (.ref k),some (.ref g),some (.ref w),some (.ref p),some (.int 4),some (.ref r),o6,o7] S4 λo=>match o with
    |.nx _ X=>Op (settle S .non X) λp=>Q p.1 p.2|.rt d X=>Op (settle S d X) λp=>Q p.1 p.2|.rl l X=>Op (eX S l X) λp=>Q p.1 p.2|_=>False:=by
   intro rs S4 J e W h1 h2
   symm
   refine cE e ?_
   refine⟨rfl,?_⟩
   dsimp only
   refine lI J x.lt (λk z=>(nomatch z)) (by simp only[cq];exact bq λq _=>ed q.low) λa b c=> ?_
   exact h rs _ W h1 h2 x.set y.set (by simp)
  apply bH (dk ?_)
  apply bX e3 (by decide) (by decide) λv S4 hv J a5 l4=> ?_
  refine ff ?_
  dsimp only
  have e:=a5.keep _ _ Z hr3
  refine aW (λc=> ?_) (λc=> ?_)
  ·apply jq (jQ ?_)
   apply⟨_,_,rfl,e,?_⟩
   apply cE e ?_
   refine bX J (by simp only[lQm];omega) (by simp only[lQm];omega) λv2 H K I i l5=> ?_
   symm
   refine⟨by show 2<=_;decide,?_⟩
   symm
   have B:=i.keep _ _ Z e
   refine⟨_,B,f_ (u _ (by simp;omega)) ?_⟩
   dsimp only
   simp only[lQm] at K
   refine b0 (rs++ [Rw.go v2]) _ (I.put (by omega) kl) (by rw[dj B];simp[Rw.d]) (λq N=> ?_) (by simp) (by simp;omega)
   rw[lQa]
   rcases mQa.mp N with N|N
   ·exact(W q N).mono (by simp)
   ·rw[Qfq.mp N]
    show v2<=rs.length+1
    omega
  ·exact cz (b0 rs S4 J e W (by omega) (by omega))
noncomputable def jF(p:List (Str×Nat)×List Rw):D:=.tup [.tup (p.1.map vM),.tup (p.2.map Rw.d)]
structure c7 where
 aj:List Rm
 ai:List (Str×Nat)
 ak:List (Str×Nat)
 af:List (List (Str×Nat)×List Rw)
noncomputable def c7.d(w:c7):D:=.tup [.tup (w.aj.map Rm.d),.tup (w.ai.map vM),.tup (w.ak.map vM),.tup (w.af.map jF)]
structure BZ(gs:List (Str×Str))(ak ai:List Str)(h:List (Str×Nat)×List Rw):Prop where
 tv:∀p∈h.1,p.2<=9
 l1:h.1.length<=6
 l2:h.2.length<=9
 l0:0<h.2.length
 pr:lK ⟨true,h.1.map (·.1)++ak,h.1.map (·.1)++ak,[],gs,ai⟩ h.2
structure fJ(w:c7):Prop where
 nd:(w.aj.map (·.name)).Nodup
 l1:w.aj.length<=3
 l2:w.ai.length<=6
 l3:w.ak.length<=6
 l4:w.af.length<=4
 l0:0<w.af.length
 pv:∀p∈w.ai,p.2<=9
 sv:∀p∈w.ak,p.2<=9
 rm:∀r∈w.aj,yy (aX w.aj) r
 hd:∀h∈w.af,BZ (aX w.aj) (w.ak.map (·.1)) (w.ai.map (·.1)) h
structure KU(w:c7):Prop where
 r:∀r∈w.aj,MS r
 p:∀p∈w.ai,Nm p.1
 s:∀p∈w.ak,Nm p.1
 h:∀h∈w.af,∀p∈h.1,Nm p.1
def HY(p:List (Str×Nat)×List Rw):cq 0 (jF p)=true:=by
 simp only[jF,cq,cj,Bool.and_true,Bool.true_and,QCq]
 exact⟨bq λ_ _=>rfl,bq λr _=>r.low⟩
def c7.low(w:c7):cq 0 w.d=true:=by
 simp only[c7.d,cq,cj,Bool.and_true,Bool.true_and,QCq]
 exact⟨bq λr _=>r.low,bq λ_ _=>rfl,bq λ_ _=>rfl,bq λp _=>HY p⟩
def EC{rs:List Rm}(hd:∀r∈rs,r.ae.length<=6):(aX rs).length<=6*rs.length:=by
 induction rs with
 |nil=>simp[aX]
 | cons a l c=>
   have:=c λr b=>hd r (Qpq _ b)
   have:=hd a (QBq ..)
   simp only[aX,QSq,lQa,lQm,Qnq] at *
   omega
def GN{S S0:aL}{k af:Nat}{rs:List Rm}{Q:Res->aL->Prop}(x:Ex k S0 S)(h0:0<af)(h4:af<=4)(nd:(rs.map (·.name)).Nodup)(hl:rs.length<=3)(W:∀r∈rs,yy (aX rs) r)(c3:∀r∈rs,MS r)
  (h:∀(w:c7) (I:aL),fJ w->KU w->Ex k S0 I->Ex k S I->I.length=S.length->Q (.d w.d) I):
  Fn jG [.ref k,.tup (rs.map Rm.d),.int af,.int 2] S Q:=by
 have y:Ex k S S:=by obtain⟨a,b,c,hh⟩:=x.pot;exact Ex.refl hh
 have kl:=x.lt
 have f6:=EC λr hr=>(W r hr).l3
 refine cf ?_
 unfold rM
 symm
 refine⟨by decide,?_⟩
 refine bH ?_
 refine z3 (i:=S.length) (j:=4) (v:=5) (rs:=rs) (tg:=.tu) (by simp) rfl a_ (λR hR=>iq (bj rfl (cH hR))) (λ_=>trivial) (by decide) (λr hr=>(W r hr).l3) hl (λo=> ?_)
 have e1:Ex k S ((S++ [O.lst []]).set S.length (.lst ((aX rs).map dZ))):=y.app.put (Qmq _) kl
 have a5:((S++ [O.lst []]).set S.length (.lst ((aX rs).map dZ)))[S.length]?=some (.lst ((aX rs).map dZ)):=dj a_
 generalize ((S++ [O.lst []]).set S.length (.lst ((aX rs).map dZ)))=S1 at e1 a5⊢
 generalize hg:S.length=g at a5⊢
 have ng:g≠k:=by omega
 symm
 apply bX e1 (by decide) (by decide) λnp S2 d5 e2 c4 l2=> ?_
 apply jk e2 (by omega) (by omega) (by decide) λF A c1 f3 e3 d2 l3=> ?_
 apply⟨by decide,?_⟩
 have k3:A.length≠k:=by have:=e3.lt;omega
 have b5:(A++ [O.lst (F.map D.str)])[g]?=some (.lst ((aX rs).map dZ)):=bz (d2.keep _ _ ng (c4.keep _ _ ng a5))
 have b3:(A++ [O.lst (F.map D.str)])[A.length]?=some (.lst (F.map D.str)):=a_
 have X:Ex k S (A++ [O.lst (F.map D.str)]):=e3.app
 have e0:S.length<=A.length:=e3.len
 have c2:(A++ [O.lst (F.map D.str)]).length=A.length+1:=by simp
 generalize (A++ [O.lst (F.map D.str)])=T3 at b5 b3 X c2⊢
 refine bX (X.app (G:= [O.lst [.int 0,.int 0,.int 1,.int 2]])) (by decide) (by decide) λv S4 hv e4 K l4=> ?_
 dsimp only
 obtain⟨ns,d4,ha⟩:∃n:Nat,n<=2/\lL ([.int 0,.int 0,.int 1,.int 2]:List D) (v:Int)=some (.int n):=by
  rcases v with _|_|_|_|v
  ·exact⟨0,by omega,rfl⟩
  ·exact⟨0,by omega,rfl⟩
  ·exact⟨1,by omega,rfl⟩
  ·exact⟨2,by omega,rfl⟩
  ·omega
 refine gW (K.keep _ _ (by have:=X.lt;omega) a_) ha ?_
 symm
 apply jk e4 (by omega) (by omega) (by decide) λs u b4 f0 e5 a4 l5=> ?_
 refine⟨by decide,?_⟩
 have k5:u.length≠k:=by have:=e5.lt;omega
 have b0:(u++ [O.lst (s.map D.str)]++ [O.lst []])[g]?=some (.lst ((aX rs).map dZ)):=bz (bz (a4.keep _ _ ng (K.keep _ _ ng (bz b5))))
 have b6:(u++ [O.lst (s.map D.str)]++ [O.lst []])[A.length]?=some (.lst (F.map D.str)):=bz (bz (a4.keep _ _ k3 (K.keep _ _ k3 (bz b3))))
 have b2:(u++ [O.lst (s.map D.str)]++ [O.lst []])[u.length]?=some (.lst (s.map D.str)):=bz a_
 have f1:A.length<u.length:=by
  have:=a4.len
  have:=K.len
  simp only[lQa,Qnq,QGq] at *
  omega
 have e6:Ex k S (u++ [O.lst (s.map D.str)]++ [O.lst []]):=e5.app.app
 generalize hr:u.length+1=r
 have C:(u++ [O.lst (s.map D.str)]).length=r:=by simp[hr]
 rw[C]
 have gr:(u++ [O.lst (s.map D.str)]++ [O.lst []])[r]?=some (.lst []):=by rw[←C];exact a_
 generalize (u++ [O.lst (s.map D.str)]++ [O.lst []])=S6 at e6 b0 b6 b2 gr⊢
 have kr:r≠k:=by have:=e5.lt;omega
 apply bH (ik ?_)
 refine⟨_,rfl,⟨by omega,by omega⟩,?_⟩
 let Inv:Nat->dw->aL->Prop:=λn a8 I=>∃(o9 a2 Z:Option D) (B:List (List (Str×Nat)×List Rw)),a8= [some (.ref k),some (.tup (rs.map Rm.d)),some (.int af),some (.int 2),some (.ref g),o,some (.ref A.length),some (.ref u.length),some (.ref r),o9,a2,Z,none]∧
  Ex k S I/\I[g]?=some (.lst ((aX rs).map dZ))/\I[A.length]?=some (.lst (F.map D.str))/\I[u.length]?=some (.lst (s.map D.str))/\I[r]?=some (.lst (B.map jF))/\B.length=n/\(∀p∈B,BZ (aX rs) s F p/\∀q∈p.1,Nm q.1)
 refine⟨Inv,⟨none,none,none,[],rfl,e6,b0,b6,b2,gr,rfl,by simp⟩,λ_ _ _ _=>trivial,?_,?_⟩
 ·rintro n d a8 S7 hd ⟨o9,a2,Z,B,rfl,e7,gg7,gp7,gs7,gr7,hn,hpr⟩
  have c6:n<4:=by
   have:=(gQs.mp hd).1
   simp only[jx,lQm,QVq] at this
   omega
  apply bh ?_
  apply⟨by decide,?_⟩
  refine bX (e7.app (G:= [O.lst [.int 0,.int 1,.int 1,.int 2]])) (by decide) (by decide) λv S8 hv e8 t l8=> ?_
  dsimp only
  obtain⟨nw,d6,ha⟩:∃n:Nat,n<=2/\lL ([.int 0,.int 1,.int 1,.int 2]:List D) (v:Int)=some (.int n):=by
   rcases v with _|_|_|_|v
   ·exact⟨0,by omega,rfl⟩
   ·exact⟨1,by omega,rfl⟩
   ·exact⟨1,by omega,rfl⟩
   ·exact⟨2,by omega,rfl⟩
   ·omega
  refine gW (t.keep _ _ (by have:=e7.lt;omega) a_) ha ?_
  symm
  apply jk e8 (by omega) (by omega) (by decide) λl P b1 f5 e9 J l9=> ?_
  have k9:P.length≠k:=by have:=e9.lt;omega
  have f:∀{i:Nat} {o:O},i≠k->S7[i]?=some o->(P++ [O.lst (l.map D.str)])[i]?=some o:=λn h=>bz (J.keep _ _ n (t.keep _ _ n (bz h)))
  have L:(P++ [O.lst (l.map D.str)])[P.length]?=some (.lst (l.map D.str)):=a_
  have a3:Ex k S (P++ [O.lst (l.map D.str)]):=e9.app
  have a7:=f ng gg7
  have a9:=f k3 gp7
  have a1:=f k5 gs7
  have b7:=f kr gr7
  have r9:r<P.length:=by
   have:=(gQs.mp gr7).1
   have:=t.len
   have:=J.len
   simp only[lQa,Qnq,QGq] at *
   omega
  generalize (P++ [O.lst (l.map D.str)])=T9 at L a3 a7 a9 a1 b7⊢
  apply Dw ?_
  apply cE L ?_
  refine cE a1 ?_
  refine⟨⟨rfl,rfl,L,by simp only[lQm];exact nQl (bu (by omega))⟩,?_⟩
  rw[←Qzq]
  symm
  refine Lg (words:=l++s) (ai:=F) (goals:=aX rs) (a3.app (G:= [O.lst ((l++s).map D.str)])) ng (by have:=a3.lt;omega) k3 (bz a7) a_ (bz a9) (by omega) (by rw[lQa];omega) (by omega) λpr d9 h1 h2 h3 c0 H d8=> ?_
  symm
  apply jQ ?_
  have M:=H.keep _ _ kr (bz b7)
  apply⟨_,_,rfl,M,?_⟩
  apply Dv (m:=3) c0 rfl rfl (H.keep _ _ k9 (bz L)) k9 (by decide) (by decide) (by omega) λts d3 Y b8 d1 U f7=> ?_
  refine⟨by show 2<=_;decide,?_⟩
  symm
  have N:=U.keep _ _ kr M
  refine⟨_,N,f_ (bu (by simp only[lQm];omega)) ?_⟩
  have kp:∀{i:Nat} {o:O},i≠k->i≠r->T9[i]?=some o->∀o',(d3.set r o')[i]?=some o:=λn n2 h o'=>gc n2 (U.keep _ _ n (H.keep _ _ n (bz h)))
  have f2:ts.length=l.length:=by rw[←Y];simp
  refine⟨_,_,_,B++ [(ts,pr)],rfl,d1.put (by omega) kl,kp ng (by omega) a7 _,kp k3 (by omega) a9 _,kp k5 (by omega) a1 _,?_,by simp[hn],λp e=> ?_⟩
  ·rw[dj N]
   simp[jF]
  ·rcases mQa.mp e with e|e
   ·exact hpr p e
   ·rw[Qfq.mp e]
    refine⟨⟨λp e=>by have:=b8 p e;omega,by show ts.length<=6;omega,h3,h2,?_⟩,λp e=>ji (by decide +kernel) b1 _ (by rw[←Y];exact Qkq.mpr ⟨p,e,rfl⟩)⟩
    show lK ⟨true,ts.map (·.1)++s,ts.map (·.1)++s,[],_,_⟩ pr
    rw[Y]
    exact h1
 ·rintro a8 S7 ⟨o9,a2,Z,B,rfl,e7,gg7,gp7,gs7,gr7,hn,hpr⟩
  have c6:B.length=af:=by
   rw[hn]
   simp only[jx,lQm,QVq]
   omega
  symm
  apply Dv (m:=3) e7 rfl rfl gp7 k3 (by decide) (by decide) (by omega) λps S8 a0 b9 e8 t l8=> ?_
  apply Dv (m:=3) e8 rfl rfl (t.keep _ _ k5 gs7) k5 (by decide) (by decide) (by omega) λss P a6 c5 e9 J l9=> ?_
  refine cE (J.keep _ _ kr (t.keep _ _ kr gr7)) ?_
  apply⟨rfl,?_⟩
  refine⟨by show 4<=_;decide,?_⟩
  have f4:ps.length=F.length:=by rw[←a0];simp
  have d7:ss.length=s.length:=by rw[←a6];simp
  refine lI (d:=(c7.mk rs ps ss B).d) e9 x.lt (λk z=>(nomatch z)) (ed (c7.low _)) λa b c=> ?_
  refine h ⟨rs,ps,ss,B⟩ _ ⟨nd,hl,by show ps.length<=6;omega,by show ss.length<=6;omega,by show B.length<=4;omega,by show 0<B.length;omega,λp e=>by have:=b9 p e;omega,λp e=>by have:=c5 p e;omega,W,?_⟩ ⟨c3,λp e=>ji (by decide +kernel) c1 _ (by rw[←a0];exact Qkq.mpr ⟨p,e,rfl⟩),λp e=>ji (by decide +kernel) b4 _ (by rw[←a6];exact Qkq.mpr ⟨p,e,rfl⟩),λp e=>(hpr p e).2⟩ x.set y.set (by simp)
  show∀h∈B,BZ (aX rs) (ss.map (·.1)) (ps.map (·.1)) h
  rw[a6,a0]
  exact λp e=>(hpr p e).1
def yw{S S0:aL}{k:Nat}{Q:Res->aL->Prop}(x:Ex k S0 S)(h:∀(w:c7) (e:aL),fJ w->KU w->Ex k S0 e->Ex k S e->e.length=S.length->Q (.d w.d) e):Fn fe [.ref k] S Q:=by
 have y:Ex k S S:=by obtain⟨a,b,c,A⟩:=x.pot;exact Ex.refl A
 have L:=x.lt
 refine cf ?_
 unfold lJ
 symm
 apply⟨by decide,?_⟩
 refine bX (y.app (G:= [O.lst [.int 1,.int 2,.int 3,.int 1,.int 2,.int 0]])) (by decide) (by decide) λv p P o f M=> ?_
 dsimp only
 obtain⟨n,t,I⟩:∃n:Nat,n<=3/\lL ([.int 1,.int 2,.int 3,.int 1,.int 2,.int 0]:List D) (v:Int)=some (.int n):=by
  rcases v with _|_|_|_|_|_|v
  ·exact⟨1,by omega,rfl⟩
  ·exact⟨2,by omega,rfl⟩
  ·exact⟨3,by omega,rfl⟩
  ·exact⟨1,by omega,rfl⟩
  ·exact⟨2,by omega,rfl⟩
  ·exact⟨0,by omega,rfl⟩
  ·omega
 apply gW (f.keep _ _ (by omega) a_) I ?_
 apply⟨by decide,?_⟩
 refine GH (m:=p.length) (o.app (G:= [O.lst [.str "at once",.str "when free"]])) (by have:=o.lt;omega) a_ t λX Y q s i j u K N=> ?_
 symm
 apply bX u (by decide) (by decide) λl W C r J Z=> ?_
 rw[show(1:Int)+(l:Int)=((1+l:Nat):Int) by omega]
 refine GN r (by omega) (by omega) q s i j λw U F g B H R=> ?_
 dsimp only
 refine lI B x.lt (λk z=>(nomatch z)) (ed (c7.low _)) λa b c=> ?_
 exact h w _ F g x.set y.set (by simp)
end W28
namespace DL
open PySem PySem.Spec L2
def K9{l:dw}{S:aL}{js:List (Option Nat)}{f:gu}{g:o_}{i:bV}{Q:List D->aL->Prop}(P:dw->Prop)(F:D->D)(v:P (oY js l)) (h:E f l S λp e=>p.2.stays e p.1/\p.1.length<=1000∧
   (∀d∈p.1,∀a,P a->Tg g d a e λc S2=>S2=e/\P c/\E i c e λy m=>y=F d/\m=e)/\Q (p.1.map F) e):E (cG js (jw f) g cW i) l S Q:=by
 refine l_ (tf (h.mono λp e w=> ?_))
 obtain⟨u,z,o,q⟩:=w
 refine⟨λn a j b=>j=e/\b=(p.1.take n).map F/\P a,⟨rfl,rfl,v⟩,λn a j b h=>by rw[h.1];exact u,λn d a j b k h=> ?_,λa j b h=> ?_⟩
 ·obtain⟨rfl,rfl,h3⟩:=h
  obtain⟨c,S2,x,rfl,h4,h5⟩:=o d (mQg k) a h3
  refine⟨c,S2,x,yS ?_⟩
  rw[Qhq rfl]
  refine h5.mono λy m s=> ?_
  obtain⟨t,r⟩:=s
  subst t r
  have A:=(gQs.mp k).1
  refine⟨?_,rfl,?_,h4⟩
  ·rw[lQm,Qxq]
   exact bu (by omega)
  ·rw[QYq,k]
   simp
 ·obtain⟨rfl,rfl,_⟩:=h
  rw[QEq]
  exact q
def iO{α:Type}{o:dw}{S:aL}{js:List (Option Nat)}{f:gu}{g:o_}{k:bV}{Q:List D->aL->Prop}(P:dw->Prop)(enc G:α->D)(A:P (oY js o)) (h:E f o S λp i=>∃xs:List α,p.1=xs.map enc/\p.2.stays i p.1/\xs.length<=1000∧
   (∀x∈xs,∀a,P a->Tg g (enc x) a i λc S2=>S2=i/\P c/\E k c i λy s=>y=G x/\s=i)/\Q (xs.map G) i):E (cG js (jw f) g cW k) o S Q:=by
 refine l_ (tf (h.mono λp i B=> ?_))
 obtain⟨xs,r,z,F,t,q⟩:=B
 refine⟨λn a m b=>m=i/\b=(xs.take n).map G/\P a,⟨rfl,rfl,A⟩,λn a m b h=>by rw[h.1];exact z,λn d a m b l h=> ?_,λa m b h=> ?_⟩
 ·obtain⟨rfl,rfl,h3⟩:=h
  have l:p.1[n]?=some d:=l
  rw[r,gQm] at l
  obtain⟨x,j,rfl⟩:=oQm.mp l
  obtain⟨c,S2,C,rfl,h4,h5⟩:=t x (mQg j) a h3
  refine⟨c,S2,C,yS ?_⟩
  rw[Qhq rfl]
  refine h5.mono λy s u=> ?_
  obtain⟨w,v⟩:=u
  subst w v
  have H:=(gQs.mp j).1
  refine⟨?_,rfl,?_,h4⟩
  ·rw[lQm,Qxq]
   exact bu (by omega)
  ·rw[QYq,j]
   simp
 ·obtain⟨rfl,rfl,_⟩:=h
  have e:p.1.length=xs.length:=by rw[r,lQm]
  show Q ((xs.take p.1.length).map G) _
  rw[e,QEq]
  exact q
def bW{S:aL}{d:D}{Q:Res->aL->Prop}(hd:∀k,d≠.ref k)(a:cq 0 d=true)(q:Q (.d d) S):Op (settle S d S) λp=>Q p.1 p.2:=jb uD (QEq) hd (ed a) q
def Hx{S:aL}{ds:List D}{Q:Res->aL->Prop}(a:cj 0 ds=true)(q:Q (.l ds) S):Op (eX S ds S) λp=>Q p.1 p.2:=nY uD (QEq) (kf a) q
end DL
namespace W28
open PySem PySem.Spec L2 DL
structure dg where
 room:Int
 deed:Int
 row:Int
 given:Int
 told:Int
structure gf where
 vals:List Int
 within:Int
 row:List Int
 ag:List Int
 aa:List (List (Int×Int))
structure bG where
 aj:List gf
 ai:List (Int×List Int)
 ak:List Int
 af:List (List Int×List dg)
noncomputable def dQ(l:List Int):D:=.tup (l.map D.int)
noncomputable def dg.d(f:dg):D:=.tup [.int f.room,.int f.deed,.int f.row,.int f.given,.int f.told]
noncomputable def pairD(p:Int×Int):D:=.tup [.int p.1,.int p.2]
noncomputable def fM(l:List (Int×Int)):D:=.tup (l.map pairD)
noncomputable def gf.d(r:gf):D:=.tup [dQ r.vals,.int r.within,dQ r.row,dQ r.ag,.tup (r.aa.map fM)]
noncomputable def CF(p:Int×List Int):D:=.tup [.int p.1,dQ p.2]
noncomputable def EM(h:List Int×List dg):D:=.tup [dQ h.1,.tup (h.2.map dg.d)]
noncomputable def bG.d(s:bG):D:=.tup [.tup (s.aj.map gf.d),.tup (s.ai.map CF),dQ s.ak,.tup (s.af.map EM)]
def mm(l:List Int):cq 0 (dQ l)=true:=by simp only[dQ,cq];exact bq λ_ _=>rfl
def vH(l:List (Int×Int)):cq 0 (fM l)=true:=by simp only[fM,cq];exact bq λ_ _=>rfl
def gf.low(r:gf):cq 0 r.d=true:=by
 simp only[gf.d,cq,cj,mm,Bool.and_true,Bool.true_and]
 exact bq λl _=>vH l
def CN(p:Int×List Int):cq 0 (CF p)=true:=by simp only[CF,cq,cj,mm,Bool.and_true]
def Cz(h:List Int×List dg):cq 0 (EM h)=true:=by
 simp only[EM,cq,cj,mm,Bool.and_true,Bool.true_and]
 exact bq λ_ _=>rfl
def bG.low(s:bG):cq 0 s.d=true:=by
 simp only[bG.d,cq,cj,mm,Bool.and_true,Bool.true_and,QCq]
 exact⟨bq λr _=>r.low,bq λp _=>CN p,bq λh _=>Cz h⟩
noncomputable def fo(ts:List (Str×Nat)):List Int:=ts.map λp=>(p.2:Int)
noncomputable def fu(r:Rm):gf:=⟨fo r.ao,-1,[],[],r.aa.map λ_=> []⟩
noncomputable def ET:dg:=⟨-1,-1,0,0,0⟩
noncomputable def eC(w:c7):bG:=⟨w.aj.map fu,w.ai.map λp=>((p.2:Int),[]),fo w.ak,w.af.map λh=>(fo h.1,[ET])⟩
section
variable{S:aL}{Q:Res->aL->Prop}
def kQ{ts:List (Str×Nat)}(l:ts.length<=1000)(h:Q (.d (dQ (fo ts))) S):Fn ic [.tup (ts.map vM)] S Q:=by
 refine cf ?_
 unfold uf
 symm
 apply K9 (λc=>∃a b,c= [a,b]) (λd=>match d with|.tup [_,v]=>v|d=>d) ⟨none,none,rfl⟩ ?_
 refine⟨trivial,by simpa using l,λd g c f=> ?_,?_⟩
 ·obtain⟨p,_,rfl⟩:=Qkq.mp g
  obtain⟨a,b,rfl⟩:=f
  refine eO rfl (aC (bh (aC (bh (bE ?_)))))
  apply⟨rfl,⟨_,_,rfl⟩,?_⟩
  exact⟨rfl,rfl⟩
 ·have e:(ts.map vM).map (λd=>match d with|.tup [_,v]=>v|d=>d)=(fo ts).map D.int:=by
   simp only[fo,QPq]
   rfl
  rw[e]
  exact bW (d:=dQ (fo ts)) (λk z=>(nomatch z)) (mm _) h
def wb{r:Rm}(a:r.ao.length<=6)(c:r.aa.length<=6)(h:Q (.d (fu r).d) S):Fn jD [r.d] S Q:=by
 refine cf ?_
 unfold sh
 symm
 apply eO rfl (aC (bh (aC (bh (aC (bh (aC (bh (aC (bh (bE ?_)))))))))))
 apply kQ (by omega) ?_
 apply⟨by decide,?_⟩
 apply⟨by decide,?_⟩
 apply BU (λ_=>.tup []) ?_
 refine⟨trivial,by simp;omega,λd b=> ?_,?_⟩
 ·symm
  exact⟨by decide,rfl,rfl⟩
 ·symm
  refine⟨by show 5<=_;decide,?_⟩
  have e:D.tup ((r.aa.map Im).map λ_=>D.tup [])=D.tup ((fu r).aa.map fM):=by
   simp only[fu,QPq]
   rfl
  rw[e]
  exact bW (d:=(fu r).d) (λk z=>(nomatch z)) (gf.low _) h
def Ae{w:c7}(o:fJ w)(h:Q (.d (eC w).d) S):Fn vR [w.d] S Q:=by
 refine cf ?_
 unfold Gc
 symm
 apply eO rfl (aC (bh (aC (bh (aC (bh (aC (bh (bE ?_)))))))))
 apply⟨by decide,?_⟩
 have l:=o.l1
 have m:=o.l2
 have q:=o.l3
 have n:=o.l4
 apply iO (α:=Rm) (λc=>∃a,c= [a]) Rm.d (λr=>(fu r).d) ⟨none,rfl⟩ ?_
 refine⟨w.aj,rfl,trivial,by omega,λr f c e=> ?_,?_⟩
 ·obtain⟨a,rfl⟩:=e
  apply bh ⟨rfl,⟨_,rfl⟩,?_⟩
  exact wb (o.rm r f).l1 (o.rm r f).l2 ⟨rfl,rfl⟩
 symm
 apply iO (α:=Str×Nat) (λc=>∃a b,c= [a,b]) vM (λp=>CF ((p.2:Int),[])) ⟨none,none,rfl⟩ ?_
 refine⟨w.ai,rfl,trivial,by omega,λr f c e=> ?_,?_⟩
 ·obtain⟨a,b,rfl⟩:=e
  refine eO rfl (aC (bh (aC (bh (bE ?_)))))
  apply⟨rfl,⟨_,_,rfl⟩,?_⟩
  apply⟨by decide,?_⟩
  exact⟨by show 2<=_;decide,rfl,rfl⟩
 symm
 apply kQ (by omega) ?_
 apply iO (α:=List (Str×Nat)×List Rw) (λc=>∃a b,c= [a,b,some ET.d]) jF (λh=>EM (fo h.1,[ET])) ⟨none,none,rfl⟩ ?_
 refine⟨w.af,rfl,trivial,by omega,λr f c e=> ?_,?_⟩
 ·obtain⟨a,b,rfl⟩:=e
  refine eO rfl (aC (bh (aC (bh (bE ?_)))))
  apply⟨rfl,⟨_,_,rfl⟩,?_⟩
  refine kQ (by have:=(o.hd r f).l1;omega) ?_
  symm
  refine⟨by show 1<=_;decide,?_⟩
  symm
  exact⟨by show 2<=_;decide,rfl,rfl⟩
 symm
 refine⟨by show 4<=_;decide,?_⟩
 have j:w.aj.map (λr=>(fu r).d)=(eC w).aj.map gf.d:=by simp only[eC,QPq];rfl
 have i:w.ai.map (λp=>CF ((p.2:Int),[]))=(eC w).ai.map CF:=by simp only[eC,QPq];rfl
 have g:w.af.map (λh=>EM (fo h.1,[ET]))=(eC w).af.map EM:=by simp only[eC,QPq];rfl
 rw[j,i,g]
 exact bW (d:=(eC w).d) (λk z=>(nomatch z)) (bG.low _) h
end
end W28
namespace DL
open PySem PySem.Spec L2
section
variable{Γ:dw}{S:aL}
def vU{f:bV}{Q:D->aL->Prop}(h:E f Γ S λd a=>∃i,d=.int i/\Q (.int (-i)) a):E (wI f) Γ S Q:=by
 obtain⟨d,a,b,i,rfl,q⟩:=h
 exact⟨_,a,by unfold wI;rw[b];rfl,q⟩
def cJ{Q:Option Int->aL->Prop}(q:Q none S):E qm Γ S Q:=⟨_,_,rfl,q⟩
def cM{f:bV}{Q:Option Int->aL->Prop}(h:E f Γ S λd a=>∃i,d=.int i/\Q (some i) a):E (pA f) Γ S Q:=by
 obtain⟨d,a,b,i,rfl,q⟩:=h
 exact⟨_,a,by unfold pA;rw[b];rfl,q⟩
def iM{f:bV}{lo hi:LW}{Q:D->aL->Prop}(h:E f Γ S λd b=>E lo Γ b λl S2=>E hi Γ S2 λu a=>∃ds,d=.tup ds/\Q (.tup (jh ds l u)) a):E (pE f lo hi) Γ S Q:=by
 obtain⟨d,b,e,l,S2,g,u,a,c,ds,rfl,q⟩:=h
 exact⟨_,a,by unfold pE;rw[e];simp only[Qbq];rw[g];simp only[Qbq];rw[c];rfl,q⟩
def M9{i j:Nat}{f:iH}{Q:Out->Prop}(h:E f Γ S λds c=>∃a b,ds= [a,b]/\Q (.nx ((Γ.set i (some a)).set j (some b)) c)):T (I0 i j f) Γ S Q:=by
 obtain⟨ds,c,d,a,b,rfl,q⟩:=h
 exact⟨_,by unfold I0;rw[d];rfl,q⟩
end
def B_{α:Type}{xs:List α}{i:Nat}(h:i<=xs.length):jh xs none (some (i:Int))=xs.take i:=by
 unfold jh
 rw[HT.vc,HT.DI,Nat.min_eq_left h]
 simp
def iu{α:Type}{xs:List α}{i:Nat}(h:i<=xs.length):jh xs (some (i:Int)) none=xs.drop i:=by
 unfold jh
 rw[HT.vc,HT.DI,Nat.min_eq_left h]
 rw[List.take_of_length_le]
 simp
def zX{α:Type}{xs:List α}(h:0<xs.length):jh xs none (some (-1))=xs.dropLast:=by
 unfold jh
 rw[HT.vc]
 show(xs.drop 0).take (HT.gC xs.length xs.length (some (-1))-0)=_
 rw[show HT.gC xs.length xs.length (some (-1))=xs.length-1 by simp only[HT.gC];rw[Qhq (by omega)];omega]
 simp[List.dropLast_eq_take]
def AZ{α:Type}{xs:List α}{x:α}(h:xs.getLast? =some x):lL xs (-1)=some x:=by
 have c:0<xs.length:=by
  cases xs with
  |nil=>cases h
  |cons a b=>simp
 unfold lL FJ
 rw[Quq (by omega),Qhq (by omega)]
 rw[List.getLast?_eq_getElem?] at h
 simp only[Qbq]
 rw[show((-1:Int)+(xs.length:Int)).toNat=xs.length-1 by omega]
 exact h
end DL
namespace W28
open PySem PySem.Spec L2 DL
section
variable{S:aL}{Q:Res->aL->Prop}
def cx{s:bG}{h:Nat}{vs:List Int}{fs:List dg}{f:dg}(a:s.af[h]?=some (vs,fs))(b:fs.getLast? =some f)(q:Q (.d f.d) S):Fn di [s.d,.int h] S Q:=by
 refine cf ?_
 unfold sE
 symm
 apply aA rfl ?_
 refine aA (d:=EM (vs,fs)) (bD (by rw[gQm,a];rfl)) ?_
 symm
 refine aA rfl ?_
 apply vU ?_
 refine⟨1,rfl,?_⟩
 refine aA (d:=f.d) (AZ (by rw[QfQ,b];rfl)) ?_
 exact bW (λk z=>(nomatch z)) rfl q
noncomputable def progOf(w:c7)(h:Nat)(f:dg):Option (List Rw):=
 if f.room= -1 then(w.af[h]?).map (·.2) else if 0<=f.room/\0<=f.deed then(w.aj[f.room.toNat]?).bind λr=>(r.ae[f.deed.toNat]?).map (·.2) else none
def m9{α:Type}{xs:List α}{i:Int}{x:α}(a:0<=i)(h:xs[i.toNat]?=some x):lL xs i=some x:=by
 obtain⟨n,rfl⟩:∃n:Nat,i=n:=⟨i.toNat,by omega⟩
 exact bD (by simpa using h)
def u6(rs:List Rw):cq 0 (.tup (rs.map Rw.d))=true:=by simp only[cq];exact bq λr _=>r.low
def gh{w:c7}{h:Nat}{f:dg}{pr:List Rw}(a:progOf w h f=some pr)(q:Q (.d (.tup (pr.map Rw.d))) S):Fn fF [w.d,.int h,f.d] S Q:=by
 refine cf ?_
 unfold rK
 apply bH (M9 ?_)
 apply aA rfl ?_
 apply aA rfl ?_
 apply⟨_,_,rfl,?_⟩
 refine ff ?_
 dsimp only
 unfold progOf at a
 by_cases c:f.room= -1
 ·rw[Qhq c] at a
  obtain⟨i,b,rfl⟩:=oQm.mp a
  rw[Qeq c,Qhq rfl]
  symm
  apply aA rfl ?_
  refine aA (d:=jF i) (bD (by rw[gQm,b];rfl)) ?_
  symm
  refine aA rfl ?_
  exact bW (λk z=>(nomatch z)) (u6 _) q
 ·rw[Quq c] at a
  split at a
  ·rename_i e
   obtain⟨r,b,a⟩:=aw a
   obtain⟨g,j,rfl⟩:=oQm.mp a
   rw[Qdq c,Quq (by decide)]
   symm
   apply aA rfl ?_
   refine aA (d:=r.d) (m9 e.1 (by rw[gQm,b];rfl)) ?_
   symm
   apply aA rfl ?_
   refine aA (d:=iy g) (m9 e.2 (by rw[gQm,j];rfl)) ?_
   symm
   refine aA rfl ?_
   exact bW (λk z=>(nomatch z)) (u6 _) q
  ·cases a
def eZ{xs:List D}{i:Nat}{d:D}(hi:i<xs.length)(m:xs.length<=900)(g:cj 0 xs=true)(f:cq 0 d=true)(q:Q (.d (.tup (xs.set i d))) S):Fn eE [.tup xs,.int i,d] S Q:=by
 refine cf ?_
 unfold uP
 symm
 apply iM ?_
 apply cJ (cM ?_)
 apply⟨_,rfl,_,rfl,?_⟩
 refine⟨by show 1<=_;decide,?_⟩
 rw[B_ (by omega)]
 refine dB (by simp only[Qxq,Qnq,QGq];exact nQl (bu (by omega))) ?_
 apply iM ?_
 apply cM ?_
 refine⟨_,rfl,cJ ⟨_,rfl,?_⟩⟩
 rw[show((i:Int)+1)=((i+1:Nat):Int) by omega,iu (by omega)]
 refine dB (by simp only[lQa,Qxq,List.length_drop,Qnq,QGq];exact nQl (bu (by omega))) ?_
 have e:xs.take i++ [d]++xs.drop (i+1)=xs.set i d:=by
  rw[List.set_eq_take_append_cons_drop,Qhq hi]
  simp
 rw[e]
 refine bW (λk z=>(nomatch z)) ?_ q
 simp only[cq]
 refine tV λz b=> ?_
 rcases QTq b with b|rfl
 ·have c:∀l:List D,cj 0 l=true->∀z∈l,cq 0 z=true:=by
   intro l
   induction l with
   |nil=>intro _ z b;cases b
   | cons a l j=>
     intro h z b
     simp only[cj,QCq] at h
     rcases Qsq.mp b with rfl|b
     · exact h.1
     · exact j h.2 z b
  exact c xs g z b
 ·exact f
end
section
variable{S:aL}{Q:Res->aL->Prop}
def map_set{α b:Type}(f:α->b)(l:List α)(i:Nat)(a:α):(l.set i a).map f=(l.map f).set i (f a):=by
 rw[List.map_set]
def bo(s:bG):∀k,s.d≠.ref k:=λk z=>(nomatch z)
def dX{s:bG}{i:Nat}{r:gf}(hi:i<s.aj.length)(a:s.aj.length<=900)(q:Q (.d ({s with aj:=s.aj.set i r}:bG).d) S):Fn dJ [s.d,.int i,r.d] S Q:=by
 refine cf ?_
 unfold va
 symm
 apply aA rfl ?_
 apply eZ (by simpa using hi) (by simpa using a) (bq λr _=>r.low) r.low ?_
 refine⟨by show 1<=_;decide,?_⟩
 apply iM ?_
 apply cM ?_
 refine⟨_,rfl,cJ ⟨_,rfl,?_⟩⟩
 refine dB (by show 4<=_;decide) ?_
 refine bW (d:=({s with aj:=s.aj.set i r}:bG).d) (bo _) (bG.low _) q|>λz=> ?_
 rw[←map_set]
 exact z
def iY{s:bG}{i:Nat}{p:Int×List Int}(hi:i<s.ai.length)(a:s.ai.length<=900)(q:Q (.d ({s with ai:=s.ai.set i p}:bG).d) S):Fn gH [s.d,.int i,CF p] S Q:=by
 refine cf ?_
 unfold vi
 symm
 apply aA rfl ?_
 apply aA rfl ?_
 apply eZ (by simpa using hi) (by simpa using a) (bq λr _=>CN r) (CN p) ?_
 refine⟨by show 2<=_;decide,?_⟩
 apply iM ?_
 apply cM ?_
 refine⟨_,rfl,cJ ⟨_,rfl,?_⟩⟩
 refine dB (by show 4<=_;decide) ?_
 refine bW (d:=({s with ai:=s.ai.set i p}:bG).d) (bo _) (bG.low _) q|>λz=> ?_
 rw[←map_set]
 exact z
def i6{s:bG}{i:Nat}{vs:List Int}{fs:List dg}(hi:i<s.af.length)(a:s.af.length<=900)(q:Q (.d ({s with af:=s.af.set i (vs,fs)}:bG).d) S):Fn gI [s.d,.int i,dQ vs,.tup (fs.map dg.d)] S Q:=by
 refine cf ?_
 unfold vQ
 apply j3 (g_ (iM ?_))
 apply cJ (cM ?_)
 apply⟨_,rfl,_,rfl,?_⟩
 apply aA rfl ?_
 refine⟨by show 2<=_;decide,?_⟩
 symm
 apply eZ (d:=EM (vs,fs)) (by simpa using hi) (by simpa using a) (bq λr _=>Cz r) (Cz (vs,fs)) ?_
 refine⟨by show 1<=_;decide,?_⟩
 refine dB (by show 4<=_;decide) ?_
 refine bW (d:=({s with af:=s.af.set i (vs,fs)}:bG).d) (bo _) (bG.low _) q|>λz=> ?_
 rw[←map_set]
 exact z
def jm{s:bG}{h:Nat}{vs:List Int}{fs:List dg}{f:dg}(a:s.af[h]?=some (vs,fs))(c:0<fs.length)(g:fs.length<=900)(b:s.af.length<=900)(q:Q (.d ({s with af:=s.af.set h (vs,fs.dropLast++ [f])}:bG).d) S):Fn eM [s.d,.int h,f.d] S Q:=by
 refine cf ?_
 unfold kz
 symm
 apply aA rfl ?_
 refine aA (d:=EM (vs,fs)) (bD (by rw[gQm,a];rfl)) ?_
 apply eO rfl (aC (bh (aC (bh (bE ?_)))))
 apply iM ?_
 apply cJ (cM (vU ?_))
 apply⟨1,rfl,_,rfl,_,rfl,?_⟩
 refine⟨by show 1<=_;decide,?_⟩
 rw[zX (by simpa using c)]
 refine dB (by simp only[List.length_dropLast,lQm,Qnq,QGq];exact nQl (bu (by omega))) ?_
 symm
 have e:(fs.map dg.d).dropLast++ [f.d]=(fs.dropLast++ [f]).map dg.d:=by rw[Qzq,List.map_dropLast];rfl
 rw[e]
 refine i6 (gQs.mp a).1 b ?_
 exact bW (bo _) (bG.low _) q
def qv{s:bG}{h:Nat}{vs:List Int}{fs:List dg}{f:dg}{n:Int}(c:s.af[h]?=some (vs,fs))(e:fs.getLast? =some f)(j:fs.length<=900)(g:s.af.length<=900)(q:Q (.d ({s with af:=s.af.set h (vs,fs.dropLast++ [{f with row:=n}])}:bG).d) S):Fn kU [s.d,.int h,.int n] S Q:=by
 refine cf ?_
 unfold D5
 symm
 apply cx c e ?_
 apply iM ?_
 apply cJ (cM ?_)
 apply⟨_,rfl,_,rfl,?_⟩
 refine⟨by show 1<=_;decide,?_⟩
 refine dB (by show 3<=_;decide) ?_
 apply iM ?_
 apply cM ?_
 refine⟨_,rfl,cJ ⟨_,rfl,?_⟩⟩
 refine dB (by show 5<=_;decide) ?_
 symm
 have i:0<fs.length:=by
  cases fs with
  |nil=>cases e
  |cons a b=>simp
 refine jm (f:={f with row:=n}) c i j g ?_
 exact bW (bo _) (bG.low _) q
noncomputable def lX(r:gf)(h:Int):gf:=if r.within= -1 then{r with within:=h} else{r with row:=r.row++ [h]}
noncomputable def gd(r:gf):gf:=match r.ag,r.row with
 |a::l,_=>{r with within:=a,ag:=l}
 | [],a::l=>{r with within:=a,row:=l}
 | [],[]=>{r with within:= -1}
def uN{s:bG}{i:Nat}{h:Int}{r:gf}(a:s.aj[i]?=some r)(b:s.aj.length<=900)(lr:r.row.length<=900)(q:Q (.d ({s with aj:=s.aj.set i (lX r h)}:bG).d) S):Fn mD [s.d,.int i,.int h] S Q:=by
 have f:=(gQs.mp a).1
 refine cf ?_
 unfold AM
 symm
 apply aA rfl ?_
 refine aA (d:=r.d) (bD (by rw[gQm,a];rfl)) ?_
 apply eO rfl (aC (bh (aC (bh (aC (bh (aC (bh (aC (bh (bE ?_)))))))))))
 refine ff ?_
 dsimp only
 unfold lX at q
 by_cases c:r.within= -1
 ·rw[Qhq c] at q
  rw[Qeq c,Qhq rfl]
  symm
  refine⟨by show 5<=_;decide,?_⟩
  symm
  refine dX (r:={r with within:=h}) f b ?_
  exact bW (bo _) (bG.low _) q
 ·rw[Quq c] at q
  rw[Qdq c,Quq (by decide)]
  symm
  refine⟨by show 1<=_;decide,?_⟩
  refine dB (by simp only[lQm,Qnq,QGq];exact nQl (bu (by omega))) ?_
  symm
  refine⟨by show 5<=_;decide,?_⟩
  symm
  have e:D.tup (r.row.map D.int++ [D.int h])=dQ (r.row++ [h]):=by simp[dQ]
  rw[e]
  refine dX (r:={r with row:=r.row++ [h]}) f b ?_
  exact bW (bo _) (bG.low _) q
end
section
variable{S:aL}{Q:Res->aL->Prop}
def HA{α:Type}{a:α}{l:List α}:lL (a::l) 0=some a:=bD (j:=0) rfl
def zB{S:aL}{ds:List D}{Q:Bool->Prop}(q:Q (!ds.isEmpty)):Op (BV S (.tup ds)) Q:=⟨_,rfl,q⟩
def Ar{s:bG}{i:Nat}{r:gf}(m:s.aj[i]?=some r)(j:s.aj.length<=900)(q:Q (.d ({s with aj:=s.aj.set i (gd r)}:bG).d) S):Fn qZ [s.d,.int i] S Q:=by
 have k:=(gQs.mp m).1
 refine cf ?_
 unfold G0
 symm
 apply aA rfl ?_
 refine aA (d:=r.d) (bD (by rw[gQm,m];rfl)) ?_
 refine eO rfl (aC (bh (aC (bh (aC (bh (aC (bh (aC (bh (bE ?_)))))))))))
 obtain⟨b,g,f,n,h⟩:=r
 symm
 refine zB ?_
 cases n with
 | cons a l=>
   apply aW (λ_=> ?_) (λc=>by cases c)
   apply aA (d:=.int a) HA ?_
   apply iM ?_
   apply cM ?_
   apply⟨_,rfl,cJ ⟨_,rfl,?_⟩⟩
   refine⟨by show 5<=_;decide,?_⟩
   symm
   have e:D.tup (jh ((a::l).map D.int) (some 1) none)=dQ l:=by
     rw[show(some (1:Int))=some ((1:Nat):Int) from rfl,iu (by simp)]
     rfl
   rw[e]
   refine dX (r:=⟨b,a,f,l,h⟩) k j ?_
   exact bW (bo _) (bG.low _) q
 | nil=>
   refine aW (λc=>by cases c) (λ_=> ?_)
   apply cz ?_
   refine zB ?_
   cases f with
   | cons a l=>
     apply aW (λ_=> ?_) (λc=>by cases c)
     apply aA (d:=.int a) HA ?_
     apply iM ?_
     apply cM ?_
     apply⟨_,rfl,cJ ⟨_,rfl,?_⟩⟩
     refine⟨by show 5<=_;decide,?_⟩
     symm
     have e:D.tup (jh ((a::l).map D.int) (some 1) none)=dQ l:=by
       rw[show(some (1:Int))=some ((1:Nat):Int) from rfl,iu (by simp)]
       rfl
     rw[e]
     refine dX (r:=⟨b,a,l,[],h⟩) k j ?_
     exact bW (bo _) (bG.low _) q
   | nil=>
     refine aW (λc=>by cases c) (λ_=> ?_)
     apply cz ?_
     refine⟨by show 5<=_;decide,?_⟩
     symm
     refine dX (r:=⟨b,-1,[],[],h⟩) k j ?_
     exact bW (bo _) (bG.low _) q
def gK{α:Type}{enc:α->D}{nm:α->Str}{xs:List α}(he:∀a,∃r,enc a=.tup (.str (nm a)::r))(d:xs.length<=1000)(q:Q (.l ((xs.map nm).map D.str)) S):Fn fg [.tup (xs.map enc)] S Q:=by
 refine cf ?_
 unfold wY
 symm
 apply iO (α:=α) (λb=>∃a,b= [a]) enc (λa=>.str (nm a)) ⟨none,rfl⟩ ?_
 refine⟨xs,rfl,trivial,d,λr f b c=> ?_,?_⟩
 ·obtain⟨a,rfl⟩:=c
  refine bh ⟨rfl,⟨_,rfl⟩,?_⟩
  obtain⟨g,e⟩:=he r
  rw[e]
  symm
  exact aA HA ⟨rfl,rfl⟩
 ·have e:xs.map (λa=>D.str (nm a))=(xs.map nm).map D.str:=by rw[QPq];rfl
  rw[e]
  exact Hx (bq λ_ _=>rfl) q
theorem oD:∀ss:List Str,pX (ss.map D.str)=some (ss.map V.str)
 | []=>rfl
 |s::ss=>by simp only[QDq,pX,yi,Qbq];rw[oD ss];rfl
theorem yT{x:Str}:∀{ns:List Str},x∈ns->∃j,mB (.str x) (ns.map V.str)=some j/\ns[j]?=some x
 | [],h=>by cases h
 | n::ns,h=>by
   by_cases c:n=x
   · subst c
     exact⟨0,by simp[mB,ph],rfl⟩
   · obtain⟨j,a,b⟩:=yT (ns:=ns) ((Qsq.mp h).resolve_left (Ne.symm c))
     exact⟨j+1,by simp only[QDq,mB];rw[a];simp[ph,c],by simpa using b⟩
end
end W28
namespace DL
open PySem PySem.Spec L2
section
variable{Γ:dw}{S:aL}
def Bm{T:String}{f:bV}{Q:D->aL->Prop}(h:E f Γ S λd a=>Op (Iw a T d) λk=>Q (.bl k) a):E (nV T f) Γ S Q:=by
 obtain⟨d,a,b,k,c,q⟩:=h
 exact⟨_,a,by unfold nV;rw[b];simp only[Qbq];rw[c];rfl,q⟩
def yl{b:Bool}{Q:Bool->Prop}(q:Q b):Op (BV S (.bl b)) Q:=⟨_,rfl,q⟩
def Ni{f g:bV}{Q:D->aL->Prop}(h:E f Γ S λx a=>E g Γ a λy S2=>∃k kvs z v,x=.ref k/\y=.str z/\S2[k]?=some (.dct kvs)/\pN kvs (.inr z)=some v/\Q v S2):E (MY f g) Γ S Q:=by
 obtain⟨x,a,b,y,S2,c,k,kvs,z,v,rfl,rfl,h1,h2,q⟩:=h
 exact⟨v,S2,by unfold MY;rw[b];simp only[Qbq];rw[c];simp only[Qbq,h1,wL,h2],q⟩
def nN{i j:Int}{Q:D->Prop}(q:Q (.bl (!decide (i=j)))):Op (fB true S (.int i) (.int j)) Q:=⟨_,by simp[fB,yi,CB],q⟩
def Ia{i j:Int}{Q:D->Prop}(q:Q (.int (if j<i then j else i))):Op (minD [.int i,.int j]) Q:=⟨_,rfl,q⟩
def J0{i j:Int}{Q:D->Prop}(q:Q (.int (if j>i then j else i))):Op (maxD [.int i,.int j]) Q:=⟨_,rfl,q⟩
end
end DL
namespace W28
open PySem PySem.Spec L2 DL
noncomputable def LX(o:Str)(a b:Int):Int:=
 if o="plus" then(if 9<a+b then 9 else a+b) else if o="minus" then(if 0>a-b then 0 else a-b) else if o="less" then(if a<b then 1 else 0)
 else if o="same" then(if a=b then 1 else 0) else(if a≠0/\b≠0 then 1 else 0)
noncomputable def u4(th wt:Str->Int):Tr->Int
 |.num n=>n
 |.word x=>th x
 |.waits b=>if 0<wt b then 1 else 0
 |.no t=>if u4 th wt t=0 then 1 else 0
 |.two o a b=>LX o (u4 th wt a) (u4 th wt b)
def EZ{o:Str}{a b:Int}(c:0<=a/\a<=9)(d:0<=b/\b<=9):0<=LX o a b/\LX o a b<=9:=by
 unfold LX
 repeat' split
 all_goals omega
theorem mX{th wt:Str->Int}{ws bs:List Str}(h:∀x∈ws,0<=th x/\th x<=9):∀{t:Tr},t.Ok ws bs->0<=u4 th wt t/\u4 th wt t<=9
 |.num n,ho=>by have:n<=9:=ho;simp only[u4];omega
 |.word x,ho=>h x ho
 |.waits b,_=>by simp only[u4];split <;>omega
 |.no t,_=>by simp only[u4];split <;>omega
 |.two o a b,ho=>EZ (mX h ho.2.1) (mX h ho.2.2)
section
variable{S:aL}{Q:Res->aL->Prop}
def eI{S:aL}{i:Int}{Q:Res->aL->Prop}(q:Q (.d (.int i)) S):Op (settle S (.int i) S) λp=>Q p.1 p.2:=bW (λk z=>(nomatch z)) rfl q
def tj{o:Str}{a b:Int}(q:Q (.d (.int (LX o a b))) S):Fn ig [.str o,.int a,.int b] S Q:=by
 refine cf ?_
 unfold nF
 unfold LX at q
 symm
 refine iU ?_
 dsimp only
 by_cases g:o="plus"
 ·rw[Qhq g] at q
  rw[Qeq g,Qhq rfl]
  symm
  refine Ia ?_
  exact eI q
 rw[Quq g] at q
 rw[Qdq g,Quq (by decide)]
 apply cz ?_
 refine iU ?_
 dsimp only
 by_cases h:o="minus"
 ·rw[Qhq h] at q
  rw[Qeq h,Qhq rfl]
  symm
  refine J0 ?_
  exact eI q
 rw[Quq h] at q
 rw[Qdq h,Quq (by decide)]
 apply cz ?_
 refine iU ?_
 dsimp only
 by_cases e:o="less"
 ·rw[Qhq e] at q
  rw[Qeq e,Qhq rfl]
  symm
  by_cases c:a<b
  ·rw[Qhq c] at q
   rw[Qeq c,Qhq rfl]
   symm
   exact eI q
  ·rw[Quq c] at q
   rw[Qdq c,Quq (by decide)]
   symm
   exact eI q
 rw[Quq e] at q
 rw[Qdq e,Quq (by decide)]
 apply cz ?_
 refine iU ?_
 dsimp only
 by_cases j:o="same"
 ·rw[Qhq j] at q
  rw[Qeq j,Qhq rfl]
  symm
  refine ff ?_
  dsimp only
  by_cases c:a=b
  ·rw[Qhq c] at q
   rw[Qeq c,Qhq rfl]
   symm
   exact eI q
  ·rw[Quq c] at q
   rw[Qdq c,Quq (by decide)]
   symm
   exact eI q
 rw[Quq j] at q
 rw[Qdq j,Quq (by decide)]
 apply cz ?_
 refine nN ?_
 dsimp only
 by_cases f:a=0
 ·rw[Quq (λz=>z.1 f)] at q
  rw[Qeq f]
  show if (false=true) then _ else _
  rw[Quq (by decide)]
  show if (false=true) then _ else _
  rw[Quq (by decide)]
  symm
  exact eI q
 ·rw[Qdq f]
  show if (true=true) then _ else _
  rw[Qhq rfl]
  symm
  refine nN ?_
  dsimp only
  by_cases i:b=0
  ·rw[Quq (λz=>z.2 i)] at q
   rw[Qeq i]
   show if (false=true) then _ else _
   rw[Quq (by decide)]
   symm
   exact eI q
  ·rw[Qhq ⟨f,i⟩] at q
   rw[Qdq i]
   show if (true=true) then _ else _
   rw[Qhq rfl]
   symm
   exact eI q
end
def cT{c:dw}{S:aL}{T:String}{f:bV}{d:D}{b:Bool}{Q:Bool->aL->Prop}(h:E f c S λx a=>x=d/\a=S)(hd:Iw S T d=some b)(q:Q b S):E (lM (nV T f)) c S Q:=by
 refine Mt (Bm (h.mono λx a e=> ?_))
 obtain⟨i,g⟩:=e
 subst i g
 exact⟨b,hd,yl q⟩
def JU{o:Str}(h:o∈ops):o≠"waits" /\o≠"not":=by
 simp only[ops,Qsq,QXq,or_false] at h
 rcases h with rfl|rfl|rfl|rfl|rfl <;>exact⟨by decide +kernel,by decide +kernel⟩
theorem iE{th wt:Str->Int}{ws bs:List Str}{i j:Nat}{kvs kws:List (Key×D)}{S:aL}(hi:S[i]?=some (.dct kvs))(e:S[j]?=some (.dct kws))(g:∀x∈ws,pN kvs (.inr x)=some (.int (th x)))(f:∀b∈bs,pN kws (.inr b)=some (.int (wt b))):
  ∀(n:Nat) (t:Tr) {Q:Res->aL->Prop},t.Ok ws bs->t.dep<=n->Q (.d (.int (u4 th wt t))) S->Fn (h_ n) [t.d,.ref i,.ref j] S Q
 |0,t,Q,_,hd,_=>by cases t <;>simp[Tr.dep] at hd
 | n+1,t,Q,ho,hd,q=>by
   refine cf ?_
   unfold wX
   cases t with
   | num v=>
     refine bH (dk (cT (d:=.int v) (bj rfl ⟨rfl,rfl⟩) rfl ?_))
     apply aW (λ_=> ?_) (λc=>by cases c)
     exact eI q
   | word x=>
     refine bH (dk (cT (d:=.str x) (bj rfl ⟨rfl,rfl⟩) rfl ?_))
     refine aW (λc=>by cases c) (λ_=>cz ?_)
     refine bH (dk (cT (d:=.str x) (bj rfl ⟨rfl,rfl⟩) rfl ?_))
     refine aW (λ_=> ?_) (λc=>by cases c)
     apply j3 (Ni ?_)
     refine⟨_,_,_,_,rfl,rfl,hi,g x ho,?_⟩
     exact eI q
   | waits b=>
     refine bH (dk (cT (d:=.tup [.str "waits",.str b]) (bj rfl ⟨rfl,rfl⟩) rfl ?_))
     refine aW (λc=>by cases c) (λ_=>cz ?_)
     refine bH (dk (cT (d:=.tup [.str "waits",.str b]) (bj rfl ⟨rfl,rfl⟩) rfl ?_))
     apply aW (λc=>by cases c) (λ_=>cz ?_)
     apply aA rfl ?_
     refine iU ?_
     dsimp only
     rw[Qeq rfl,Qhq rfl]
     symm
     apply Ni ?_
     refine aA rfl ?_
     apply⟨_,_,_,_,rfl,rfl,e,f b ho,?_⟩
     simp only[u4] at q
     by_cases c:0<wt b
     · rw[Qhq c] at q
       rw[Qeq c,Qhq rfl]
       symm
       exact eI q
     · rw[Quq c] at q
       rw[Qdq c,Quq (by decide)]
       symm
       exact eI q
   | no t=>
     have h:t.dep<=n:=by simp only[Tr.dep] at hd;omega
     refine bH (dk (cT (d:=.tup [.str "not",t.d]) (bj rfl ⟨rfl,rfl⟩) rfl ?_))
     refine aW (λc=>by cases c) (λ_=>cz ?_)
     refine bH (dk (cT (d:=.tup [.str "not",t.d]) (bj rfl ⟨rfl,rfl⟩) rfl ?_))
     apply aW (λc=>by cases c) (λ_=>cz ?_)
     apply aA rfl ?_
     refine iU ?_
     dsimp only
     rw[Qdq (show¬(("not":Str)="waits") by decide +kernel),Quq (by decide)]
     apply cz ?_
     apply aA rfl ?_
     apply iE hi e g f n t ho h ?_
     apply aA rfl ?_
     refine iU ?_
     dsimp only
     rw[Qeq rfl,Qhq rfl]
     symm
     refine ff ?_
     dsimp only
     simp only[u4] at q
     by_cases c:u4 th wt t=0
     · rw[Qhq c] at q
       rw[Qeq c,Qhq rfl]
       symm
       exact eI q
     · rw[Quq c] at q
       rw[Qdq c,Quq (by decide)]
       symm
       exact eI q
   | two o a b=>
     have l:a.dep<=n:=by simp only[Tr.dep] at hd;omega
     have k:b.dep<=n:=by simp only[Tr.dep] at hd;omega
     obtain⟨m,p⟩:=JU ho.1
     refine bH (dk (cT (d:=.tup [.str o,a.d,b.d]) (bj rfl ⟨rfl,rfl⟩) rfl ?_))
     refine aW (λc=>by cases c) (λ_=>cz ?_)
     refine bH (dk (cT (d:=.tup [.str o,a.d,b.d]) (bj rfl ⟨rfl,rfl⟩) rfl ?_))
     apply aW (λc=>by cases c) (λ_=>cz ?_)
     apply aA rfl ?_
     refine iU ?_
     dsimp only
     rw[Qdq m,Quq (by decide)]
     apply cz ?_
     apply aA rfl ?_
     apply iE hi e g f n a ho.2.1 l ?_
     apply aA rfl ?_
     refine iU ?_
     dsimp only
     rw[Qdq p,Quq (by decide)]
     apply cz ?_
     apply aA rfl ?_
     apply aA rfl ?_
     apply iE hi e g f n b ho.2.2 k ?_
     refine tj ?_
     exact eI q
end W28
namespace DL
open PySem PySem.Spec L2
def xN{l:List (Key×D)}{k:Key}(h:k∈l.map (·.1)):∃d,pN l k=some d/\(k,d)∈l:=by
 unfold pN
 cases e:l.find? λf=>decide (f.1=k) with
 | none=>
   obtain⟨p,a,rfl⟩:=Qkq.mp h
   have:=List.find?_eq_none.mp e p a
   simp at this
 | some p=>
   have b:=List.find?_some e
   have g:=List.mem_of_find?_eq_some e
   have c:p.1=k:=by simpa using b
   exact⟨p.2,rfl,by rw[←c];exact g⟩
def zO{l:List (Key×D)}{k:Key}{v:D}{p:Key×D}(h:p∈putD l k v):p∈l\/p=(k,v):=by
 unfold putD at h
 split at h
 ·obtain⟨q,a,e⟩:=Qkq.mp h
  split at e
  ·rename_i c
   rw[←e,c]
   exact .inr rfl
  ·rw[←e]
   exact .inl a
 ·rcases mQa.mp h with h|h
  ·exact .inl h
  ·exact .inr (Qfq.mp h)
def mV{l:List (Key×D)}{k x:Key}{v:D}(h:x=k\/x∈l.map (·.1)):x∈(putD l k v).map (·.1):=by
 unfold putD
 split
 ·rename_i c
  have a:∀p∈l,(if p.1=k then(p.1,v) else p).1=p.1:=λp _=>by split <;>rfl
  have e:(l.map λp=>if p.1=k then(p.1,v) else p).map (·.1)=l.map (·.1):=by
   rw[QPq]
   exact List.map_congr_left a
  rw[e]
  rcases h with rfl|h
  ·obtain⟨p,b,d⟩:=List.any_eq_true.mp c
   exact Qkq.mpr ⟨p,b,by simpa using d⟩
  ·exact h
 ·rw[Qzq]
  rcases h with rfl|h
  ·exact Qoq _ (by simp)
  ·exact List.mem_append_left _ h
theorem nX:∀{more l:List (Key×D)} {p:Key×D},p∈c9 l more->p∈l\/p∈more
 | [],l,p,h=>.inl h
 | q::more,l,p,h=>by
   rcases nX (more:=more) (l:=putD l q.1 q.2) h with h|h
   · rcases zO h with h|rfl
     · exact .inl h
     · exact .inr (QBq ..)
   · exact .inr (Qpq _ h)
theorem iA:∀{more l:List (Key×D)} {x:Key},x∈l.map (·.1)\/x∈more.map (·.1)->x∈(c9 l more).map (·.1)
 | [],l,x,h=>h.elim id λz=>by cases z
 | q::more,l,x,h=>by
   refine iA (more:=more) (l:=putD l q.1 q.2) ?_
   rcases h with h|h
   · exact .inl (mV (.inr h))
   · rcases Qsq.mp h with rfl|h
     · exact .inl (mV (.inl rfl))
     · exact .inr h
theorem ua:∀ss:List Str,Ao (ss.map D.str)=some (ss.map Sum.inr)
 | []=>rfl
 |s::ss=>by simp only[QDq,Ao,wL,Qbq];rw[ua ss];rfl
section
variable{Γ:dw}{S:aL}
def NW{Q:D->aL->Prop}(q:Q (.ref S.length) (S++ [.dct []])):E N_ Γ S Q:=⟨_,_,rfl,q⟩
def KW{f g:gu}{Q:D->aL->Prop}(h:E f Γ S λp a=>E g Γ a λr S2=>∃ss:List Str,p.1=ss.map D.str/\(p.2.stays S2 p.1/\p.1.length=r.1.length)/\Q (.ref S2.length) (S2++ [.dct (c9 [] ((ss.map Sum.inr).zip r.1))])):E (LY f g) Γ S Q:=by
 obtain⟨p,a,c,r,S2,d,ss,b,e,q⟩:=h
 refine⟨_,_,?_,q⟩
 unfold LY
 rw[c]
 simp only[Qbq]
 rw[d]
 simp only[Qbq]
 rw[Qhq e,b,ua]
 rfl
def MT{f g:bV}{Q:D->aL->Prop}(h:E f Γ S λx a=>E g Γ a λy S2=>∃k j b l m,x=.ref k/\y=.ref j/\k≠j/\a[k]?=some (.dct b)/\S2[k]?=some (.dct l)/\S2[j]?=some (.dct m)/\l.length+m.length<=sizeLine/\Q .non (S2.set k (.dct (c9 l m)))):E (JQ f g) Γ S Q:=by
 obtain⟨x,a,c,y,S2,d,k,j,b,l,m,rfl,rfl,hn,h0,h1,h2,h3,q⟩:=h
 exact⟨_,_,by unfold JQ;rw[c];simp only[Qbq];rw[d];simp only[Qbq];rw[Qhq hn];simp only[h0,h1,h2];rw[Qhq h3],q⟩
def NS{f g h:bV}{Q:Out->Prop}(w:E h Γ S λd b=>E f Γ b λx S2=>E g Γ S2 λy a=>∃k l z,x=.ref k/\y=.str z/\a[k]?=some (.dct l)/\l.length<sizeLine/\Q (.nx Γ (a.set k (.dct (putD l (.inr z) d))))):T (NM f g h) Γ S Q:=by
 obtain⟨d,b,e,x,S2,i,y,a,c,k,l,z,rfl,rfl,h1,h2,q⟩:=w
 exact⟨_,by unfold NM;rw[e];simp only[Qbq];rw[i];simp only[Qbq];rw[c];simp only[Qbq,h1,wL];rw[Qhq h2],q⟩
def Ot{α:Type}{n:Nat}{js:List (Option Nat)}{i:zM}{g:o_}{w s:bV}{Q:Out->Prop}(P:dw->Prop)(enc:α->D)(e:α->Str)(f:α->D)(I:P (oY js Γ)) (h:E i Γ S λp d=>∃xs:List α,p.1=xs.map enc/\p.2 d/\xs.length<=1000∧
   (∀x∈xs,∀c,P c->Tg g (enc x) c d λj S2=>S2=d/\P j/\E w j d λy C=>y=.str (e x)/\C=d/\E s j d λz A=>z=f x/\A=d)∧
   Q (.nx (Γ.set n (some (.ref d.length))) (d++ [.dct (c9 [] (xs.map λx=>(Sum.inr (e x),f x)))]))):T (NN n (vz js i g cW w s)) Γ S Q:=by
 obtain⟨⟨R,W⟩,d,M,xs,rfl,hW,hl,hs,q⟩:=h
 have H:∀(l:List (Key×D)) (k:Key) (v:D),(putD l k v).length<=l.length+1:=λl k v=>by
  unfold putD
  split <;>simp
 have F:∀(m:List α) (c:dw) (b:List (Key×D)),(∀y∈m,y∈xs)->P c->b.length+m.length<=1000->∃r,jW g cW w s W (m.map enc) c d b=some (r,d)/\r=c9 b (m.map λx=>(Sum.inr (e x),f x)):=by
  intro m
  induction m with
  |nil=>intro c b _ _ _;exact⟨b,by simp only[List.map_nil,jW];rw[Qhq hW],rfl⟩
  | cons a m N=>
    intro c b B L o
    obtain⟨j,S2,t,rfl,hp1,y,C,e3,rfl,rfl,z,A,e4,rfl,rfl⟩:=hs a (B a (QBq ..)) c L
    have u:=H b (Sum.inr (e a)) (f a)
    simp only[Qnq] at o
    obtain⟨r,K,J⟩:=N j (putD b (Sum.inr (e a)) (f a)) (λy G=>B y (Qpq _ G)) hp1 (by omega)
    refine⟨r,?_,J⟩
    simp only[QDq,jW]
    rw[Qhq hW,t]
    simp only[Qbq,cW,if_true]
    rw[e3]
    simp only[Qbq]
    rw[e4]
    simp only[Qbq,wL]
    rw[Qhq (bu (by omega))]
    exact K
 obtain⟨r,t,rfl⟩:=F xs _ [] (λ_ h=>h) I (by simpa using hl)
 exact⟨_,by unfold NN vz;rw[M];simp only[Qbq];rw[t];rfl,q⟩
end
def uc{a:dw}{S:aL}{f g:gu}{Q:(List D×(aL->Prop))->aL->Prop}(h:E f a S λp b=>E g a b λr S2=>(p.2.stays S2 p.1/\p.1.length<=r.1.length)/\Q (wG p.1 r.1,λS=>p.2.stays S p.1/\r.2.stays S r.1) S2):E (BF f g) a S Q:=by
 obtain⟨p,b,d,r,S2,c,e,q⟩:=h
 exact⟨_,S2,by unfold BF;rw[d];simp only[Qbq];rw[c];simp only[Qbq];rw[Qhq e],q⟩
def mG(l:List (Key×D)):Prop:=∀p∈l,∃v:Int,p.2=.int v/\0<=v/\v<=9
def mG.merge{l m:List (Key×D)}(b:mG l)(c:mG m):mG (c9 l m):=λp a=>(nX a).elim (b p) (c p)
def mG.put{l:List (Key×D)}{k:Key}{v:Int}(h:mG l)(c:0<=v)(b:v<=9):mG (putD l k (.int v)):=λp a=>by
 rcases zO a with a|rfl
 ·exact h p a
 ·exact⟨v,rfl,c,b⟩
noncomputable def numAt(l:List (Key×D))(x:Str):Int:=match pN l (.inr x) with|some (.int v)=>v|_=>0
def pJ{l:List (Key×D)}(h:mG l){x:Str}(i:(Sum.inr x:Key)∈l.map (·.1)):pN l (.inr x)=some (.int (numAt l x))/\0<=numAt l x/\numAt l x<=9:=by
 obtain⟨d,b,c⟩:=xN i
 obtain⟨v,a,f,g⟩:=h _ c
 have a:d=.int v:=a
 subst a
 have e:numAt l x=v:=by unfold numAt;rw[b]
 rw[e]
 exact⟨b,f,g⟩
def Hn{ss:List Str}{vs:List Int}(h:∀v∈vs,0<=v/\v<=9):mG ((ss.map (Sum.inr:Str->Key)).zip (vs.map D.int)):=λp a=>by
 have c:p.2∈vs.map D.int:=(QeQ (show(p.1,p.2)∈_ from a)).2
 obtain⟨v,b,e⟩:=Qkq.mp c
 exact⟨v,e.symm,h v b⟩
def Hd{ss:List Str}{ds:List D}(h:ss.length=ds.length):((ss.map (Sum.inr:Str->Key)).zip ds).map (·.1)=ss.map Sum.inr:=by
 rw[List.map_fst_zip]
 simpa using Nat.le_of_eq h
end DL
namespace W28
open PySem PySem.Spec L2 DL
noncomputable def eJ(ts:List (Str×Nat))(vs:List Int):List (Key×D):=c9 [] (((ts.map (·.1)).map Sum.inr).zip (vs.map D.int))
noncomputable def AQ(w:c7)(s:bG)(ts:List (Str×Nat))(vs:List Int):List (Key×D):=c9 (eJ w.ak s.ak) (eJ ts vs)
noncomputable def sI(r:Rm)(rs:gf)(a:Int):List (Key×D):=putD (eJ r.ao rs.vals) (.inr "given") (.int a)
noncomputable def uX(r:Rm)(rs:gf):List (Key×D):=c9 [] ((r.aa.zip rs.aa).map λp=>(Sum.inr p.1.1,D.int (p.2.length:Nat)))
def i8{ts:List (Str×Nat)}{vs:List Int}(h:∀v∈vs,0<=v/\v<=9):mG (eJ ts vs):=mG.merge (λp a=>by cases a) (Hn h)
def jf{ts:List (Str×Nat)}{vs:List Int}(a:ts.length=vs.length){x:Str}(h:x∈ts.map (·.1)):(Sum.inr x:Key)∈(eJ ts vs).map (·.1):=by
 refine iA (.inr ?_)
 rw[Hd (by simpa using a)]
 exact Qkq.mpr ⟨x,h,rfl⟩
structure u3(S S':aL):Prop where
 len:S.length<=S'.length
 eq:∀j,j<S.length->S'[j]?=S[j]?
def u3.refl{S:aL}:u3 S S:=⟨Qmq _,λ_ _=>rfl⟩
def u3.app{S a G:aL}(x:u3 S a):u3 S (a++G):=⟨by rw[lQa];have:=x.len;omega,λj b=>by rw[QHq (by have:=x.len;omega)];exact x.eq j b⟩
def u3.put{S a:aL}{r:Nat}{o:O}(x:u3 S a)(c:S.length<=r):u3 S (a.set r o):=⟨by simpa using x.len,λj b=>by rw[QKq (by omega)];exact x.eq j b⟩
def Eb{S a:aL}{d:D}{Q:Res->aL->Prop}(x:u3 S a)(hd:∀k,d≠.ref k)(c:cq 0 d=true)(q:Q (.d d) S):Op (settle S d a) λp=>Q p.1 p.2:=by
 refine jb ⟨x.len,λk o f e=>.inl (by rw[←x.eq k f];exact e)⟩ ?_ hd (ed c) q
 apply List.ext_getElem?
 intro j
 by_cases b:j<S.length
 ·rw[List.getElem?_take_of_lt b]
  exact x.eq j b
 ·rw[List.getElem?_eq_none (by rw[Qxq];omega),List.getElem?_eq_none (by omega)]
def i4:∀a:Str×Nat,∃r,vM a=.tup (.str a.1::r):=λa=>⟨_,rfl⟩
def DS:∀a:Str×Str,∃r,Im a=.tup (.str a.1::r):=λa=>⟨_,rfl⟩
section
variable{S:aL}{Q:Res->aL->Prop}
theorem vB:∀{m l:List (Key×D)},(c9 l m).length<=l.length+m.length
 | [],l=>Qmq _
 | q::m,l=>by
   have a:(c9 (putD l q.1 q.2) m).length<=(putD l q.1 q.2).length+m.length:=vB
   have b:(putD l q.1 q.2).length<=l.length+1:=by unfold putD;split <;>simp
   show(c9 (putD l q.1 q.2) m).length<=_
   simp only[Qnq]
   omega
def uz{ts:List (Str×Nat)}{vs:List Int}:(eJ ts vs).length<=ts.length:=by
 refine QAq vB ?_
 simp only[QGq,List.length_zip,lQm]
 omega
def yJ{w:c7}{s:bG}{h:Nat}{ts:List (Str×Nat)}{pr:List Rw}{vs:List Int}{fs:List dg}{f:dg}{t:Tr}(A:w.af[h]?=some (ts,pr))(o:s.af[h]?=some (vs,fs))(B:fs.getLast? =some f)(C:f.room= -1)
  (g:w.ak.length=s.ak.length) (i:ts.length=vs.length) (K:w.ak.length<=100) (M:ts.length<=100) (F:∀v∈s.ak,0<=v/\v<=9) (y:∀v∈vs,0<=v/\v<=9)
  (u:t.Ok (ts.map (·.1)++w.ak.map (·.1)) []) (hd:t.dep<=6) (q:Q (.d (.int (u4 (numAt (AQ w s ts vs)) (λ_=>0) t))) S):Fn eL [w.d,s.d,.int h,t.d] S Q:=by
 have c:mG (AQ w s ts vs):=mG.merge (i8 F) (i8 y)
 refine cf ?_
 unfold qH
 symm
 apply cx o B ?_
 apply aA (d:=.int f.room) rfl ?_
 refine ff ?_
 dsimp only
 rw[Qeq C,Qhq rfl]
 symm
 apply KW ?_
 apply aA rfl ?_
 apply gK (enc:=vM) (nm:=(·.1)) i4 (by omega) ?_
 refine aA rfl ?_
 refine cH (ds:=s.ak.map D.int) ?_
 refine⟨_,rfl,⟨trivial,by simp only[lQm];exact g⟩,?_⟩
 dsimp only
 rw[show c9 [] (((w.ak.map (·.1)).map (Sum.inr:Str->Key)).zip (s.ak.map D.int))=eJ w.ak s.ak from rfl]
 apply bH (jq (MT ?_))
 apply KW ?_
 apply aA rfl ?_
 refine aA (d:=jF (ts,pr)) (bD (by rw[gQm,A];rfl)) ?_
 symm
 apply aA rfl ?_
 apply gK (enc:=vM) (nm:=(·.1)) i4 (by omega) ?_
 apply aA rfl ?_
 refine aA (d:=EM (vs,fs)) (bD (by rw[gQm,o];rfl)) ?_
 symm
 refine aA rfl ?_
 refine cH (ds:=vs.map D.int) ?_
 refine⟨_,rfl,⟨trivial,by simp only[lQm];exact i⟩,?_⟩
 dsimp only
 rw[show c9 [] (((ts.map (·.1)).map (Sum.inr:Str->Key)).zip (vs.map D.int))=eJ ts vs from rfl]
 have e:(S++ [O.dct (eJ w.ak s.ak)])[S.length]?=some (.dct (eJ w.ak s.ak)):=a_
 have n:(S++ [O.dct (eJ w.ak s.ak)]).length=S.length+1:=by simp
 have H:u3 S (S++ [O.dct (eJ w.ak s.ak)]):=u3.refl.app
 show∃k j G l m,D.ref S.length=.ref k/\D.ref (S++ [O.dct (eJ w.ak s.ak)]).length=.ref j/\k≠j/\(S++ [O.dct (eJ w.ak s.ak)])[k]?=some (.dct G)/\(S++ [O.dct (eJ w.ak s.ak)]++ [O.dct (eJ ts vs)])[k]?=some (.dct l)/\(S++ [O.dct (eJ w.ak s.ak)]++ [O.dct (eJ ts vs)])[j]?=some (.dct m)/\_
 refine⟨_,_,_,_,_,rfl,rfl,by omega,e,bz e,a_,?_,?_⟩
 ·have L:=uz (ts:=w.ak) (vs:=s.ak)
  have J:=uz (ts:=ts) (vs:=vs)
  exact nQl (bu (by omega))
 have r:((S++ [O.dct (eJ w.ak s.ak)]++ [O.dct (eJ ts vs)]).set S.length (.dct (c9 (eJ w.ak s.ak) (eJ ts vs))))[S.length]?=some (.dct (AQ w s ts vs)):=dj (bz e)
 have p:u3 S ((S++ [O.dct (eJ w.ak s.ak)]++ [O.dct (eJ ts vs)]).set S.length (.dct (c9 (eJ w.ak s.ak) (eJ ts vs)))):=H.app.put (Qmq _)
 generalize ((S++ [O.dct (eJ w.ak s.ak)]++ [O.dct (eJ ts vs)]).set S.length (.dct (c9 (eJ w.ak s.ak) (eJ ts vs))))=S2 at r p⊢
 symm
 apply NW ?_
 refine iE (th:=numAt (AQ w s ts vs)) (wt:=λ_=>0) (ws:=ts.map (·.1)++w.ak.map (·.1)) (bs:= []) (bz r) a_ (λx a=> ?_) (λb I=>by cases I) 6 t u hd ?_
 ·refine(pJ c ?_).1
  refine iA ?_
  rcases mQa.mp a with a|a
  ·exact .inr (jf i a)
  ·exact .inl (jf g a)
 ·exact Eb p.app (λk z=>(nomatch z)) rfl q
end
section
variable{S:aL}{Q:Res->aL->Prop}
theorem zR:∀(bs:List (Str×Str)) (ls:List (List (Int×Int))),wG ((bs.map (·.1)).map D.str) (ls.map fM)=(bs.zip ls).map λp=>D.tup [.str p.1.1,fM p.2]
 | [],_=>rfl
 |_::_,[]=>rfl
 | b::bs,l::ls=>by
   have:=zR bs ls
   simp only[wG,QDq,List.zipWith_cons_cons,List.zip_cons_cons] at this⊢
   rw[this]
noncomputable def uR(r:Rm)(rs:gf)(x:Str):Int:=numAt (uX r rs) x
def HX{r:Rm}{rs:gf}(k:r.aa.length=rs.aa.length){x:Str}(h:x∈r.aa.map (·.1)):pN (uX r rs) (.inr x)=some (.int (uR r rs x)):=by
 have g:(Sum.inr x:Key)∈(uX r rs).map (·.1):=by
  refine iA (.inr ?_)
  rw[QPq]
  obtain⟨b,j,rfl⟩:=Qkq.mp h
  obtain⟨i,c,e⟩:=QbQ j
  refine Qkq.mpr ⟨(b,rs.aa[i]'(by omega)),?_,rfl⟩
  rw[←e]
  have:(r.aa.zip rs.aa)[i]?=some (r.aa[i],rs.aa[i]'(by omega)):=by
   rw[List.getElem?_zip_eq_some]
   exact⟨gQe c,gQe (by omega)⟩
  exact mQg this
 obtain⟨d,f,a⟩:=xN g
 have c:∃v:Int,d=.int v:=by
  rcases nX a with a|a
  ·cases a
  ·obtain⟨p,_,e⟩:=Qkq.mp a
   exact⟨_,(congrArg (·.2) e).symm⟩
 obtain⟨v,rfl⟩:=c
 unfold uR DL.numAt
 rw[f]
def wC{w:c7}{s:bG}{h i:Nat}{vs:List Int}{fs:List dg}{f:dg}{r:Rm}{rs:gf}{t:Tr}(C:s.af[h]?=some (vs,fs))(F:fs.getLast? =some f)(G:f.room=i)(o:w.aj[i]?=some r)(e:s.aj[i]?=some rs)
  (m:r.ao.length=rs.vals.length) (B:r.aa.length=rs.aa.length) (K:r.ao.length<=100) (L:r.aa.length<=100) (H:∀v∈rs.vals,0<=v/\v<=9) (n:0<=f.given/\f.given<=9)
  (A:t.Ok (r.ao.map (·.1)++ft) (r.aa.map (·.1))) (hd:t.dep<=6) (q:Q (.d (.int (u4 (numAt (sI r rs f.given)) (uR r rs) t))) S):Fn eL [w.d,s.d,.int h,t.d] S Q:=by
 have j:mG (sI r rs f.given):=(i8 H).put n.1 n.2
 refine cf ?_
 unfold qH
 symm
 apply cx C F ?_
 apply aA (d:=.int f.room) rfl ?_
 refine ff ?_
 dsimp only
 rw[Qdq (show¬f.room= -1 by omega),Quq (by decide),G]
 apply cz ?_
 apply KW ?_
 apply aA rfl ?_
 refine aA (d:=r.d) (bD (by rw[gQm,o];rfl)) ?_
 symm
 apply aA rfl ?_
 apply gK (enc:=vM) (nm:=(·.1)) i4 (by omega) ?_
 apply aA rfl ?_
 refine aA (d:=rs.d) (bD (by rw[gQm,e];rfl)) ?_
 symm
 refine aA rfl ?_
 refine cH (ds:=rs.vals.map D.int) ?_
 refine⟨_,rfl,⟨trivial,by simp only[lQm];exact m⟩,?_⟩
 dsimp only
 rw[show c9 [] (((r.ao.map (·.1)).map (Sum.inr:Str->Key)).zip (rs.vals.map D.int))=eJ r.ao rs.vals from rfl]
 have I:u3 S (S++ [O.dct (eJ r.ao rs.vals)]):=u3.refl.app
 apply bH (NS ?_)
 apply aA (d:=.int f.given) rfl ?_
 refine⟨_,_,_,rfl,rfl,a_,bu (by have:=uz (ts:=r.ao) (vs:=rs.vals);omega),?_⟩
 have y:((S++ [O.dct (eJ r.ao rs.vals)]).set S.length (.dct (putD (eJ r.ao rs.vals) (.inr "given") (.int f.given))))[S.length]?=some (.dct (sI r rs f.given)):=dj a_
 have u:u3 S ((S++ [O.dct (eJ r.ao rs.vals)]).set S.length (.dct (putD (eJ r.ao rs.vals) (.inr "given") (.int f.given)))):=I.put (Qmq _)
 generalize ((S++ [O.dct (eJ r.ao rs.vals)]).set S.length (.dct (putD (eJ r.ao rs.vals) (.inr "given") (.int f.given))))=S2 at y u⊢
 apply bH (Ot (α:=(Str×Str)×List (Int×Int)) (λg=>∃a b,g= [a,b]) (λp=>D.tup [.str p.1.1,fM p.2]) (λp=>p.1.1) (λp=>.int (p.2.length:Nat)) ⟨none,none,rfl⟩ (uc ?_))
 apply aA rfl ?_
 refine aA (d:=r.d) (bD (by rw[gQm,o];rfl)) ?_
 symm
 apply aA rfl ?_
 apply gK (enc:=Im) (nm:=(·.1)) DS (by omega) ?_
 apply aA rfl ?_
 refine aA (d:=rs.d) (bD (by rw[gQm,e];rfl)) ?_
 symm
 refine aA rfl ?_
 refine cH (ds:=rs.aa.map fM) ?_
 refine⟨⟨trivial,by simp only[lQm];omega⟩,r.aa.zip rs.aa,zR _ _,⟨trivial,trivial⟩,by rw[List.length_zip];omega,λp M g l=> ?_,?_⟩
 ·obtain⟨a,b,rfl⟩:=l
  refine eO rfl (aC (bh (aC (bh (bE ?_)))))
  apply⟨rfl,⟨_,_,rfl⟩,?_⟩
  apply⟨rfl,rfl,?_⟩
  refine cH (ds:=p.2.map pairD) ?_
  exact⟨by simp,rfl⟩
 symm
 refine iE (th:=numAt (sI r rs f.given)) (wt:=uR r rs) (ws:=r.ao.map (·.1)++ft) (bs:=r.aa.map (·.1)) (kws:=uX r rs) (bz y) a_ (λx c=> ?_) (λb J=>HX B J) 6 t A hd ?_
 ·refine(pJ j ?_).1
  refine mV ?_
  rcases mQa.mp c with c|c
  ·exact .inr (jf m c)
  ·left
   rw[Qfq.mp c]
 ·exact Eb u.app (λk z=>(nomatch z)) rfl q
end
end W28
namespace DL
open PySem PySem.Spec L2
def wc{b:dw}{S:aL}{a:Bool}{f:bV}{g:gu}{Q:D->aL->Prop}(h:E f b S λx c=>E g b c λp S2=>∃v vs,yi x=some v/\pX p.1=some vs/\Q (.bl (if a then !FR v vs else FR v vs)) S2):E (zr a f g) b S Q:=by
 obtain⟨x,c,i,p,S2,d,v,vs,e,j,q⟩:=h
 exact⟨_,S2,by unfold zr;rw[i];simp only[Qbq];rw[d];simp only[Qbq];rw[e,j];rfl,q⟩
def DC{x:Str}{ss:List Str}:FR (.str x) (ss.map V.str)=decide (x∈ss):=by
 induction ss with
 |nil=>rfl
 | cons a ss d=>
   show(ph (.str a) (.str x)||FR (.str x) (ss.map V.str))=_
   rw[d]
   simp only[ph,Qsq]
   by_cases c:a=x
   · subst c;simp
   · have b:¬x=a:=λz=>c z.symm
     simp[c,b]
end DL
namespace W28
open PySem PySem.Spec L2 DL
section
variable{S:aL}{Q:Res->aL->Prop}
noncomputable def dY(ns:List Str)(vs:List Int)(x:Str)(v:Int):List Int:=vs.set ((mB (.str x) (ns.map V.str)).getD 0) v
def qf{α:Type}{enc:α->D}{nm:α->Str}{xs:List α}{x:Str}(he:∀a,∃r,enc a=.tup (.str (nm a)::r))(f:xs.length<=1000)(i:x∈xs.map nm)(q:((mB (.str x) ((xs.map nm).map V.str)).getD 0)<xs.length->Q (.d (.int ((mB (.str x) ((xs.map nm).map V.str)).getD 0:Nat))) S):Fn dR [.tup (xs.map enc),.str x] S Q:=by
 refine cf ?_
 unfold xY
 obtain⟨j,e,h⟩:=yT i
 have g:j<xs.length:=by have:=(gQs.mp h).1;simpa using this
 rw[e] at q
 refine j3 ?_
 have c:E (iV (eF fg (ar (au 0) ay))) ([D.tup (xs.map enc),D.str x].map some++List.replicate (2- [D.tup (xs.map enc),D.str x].length) none) S λp b=>p=((xs.map nm).map D.str,.fr)/\b=S:=by
  symm
  exact gK he f ⟨rfl,rfl⟩
 obtain⟨p,b,l,rfl,rfl⟩:=c
 refine⟨.int j,b,?_,bW (λk z=>(nomatch z)) rfl (q g)⟩
 unfold LK
 rw[l]
 simp only[Qbq]
 rw[Qhq (show Tag.fr.isL=true from rfl)]
 show((au 1 _ b).bind _)=_
 rw[show au 1 ([D.tup (xs.map enc),D.str x].map some++List.replicate (2- [D.tup (xs.map enc),D.str x].length) none) b=some (.str x,b) from rfl]
 simp only[Qbq]
 rw[Qhq (show Tag.stays b _ .fr from trivial)]
 show(yi (.str x)).bind _=_
 simp only[yi,Qbq]
 rw[oD]
 simp only[Qbq]
 rw[e]
 rfl
def FX{w:c7}{s:bG}{h i:Nat}{vs:List Int}{fs:List dg}{f:dg}{r:Rm}{rs:gf}{x:Str}{v:Int}(c:s.af[h]?=some (vs,fs))(j:fs.getLast? =some f)(k:f.room=i)(g:w.aj[i]?=some r)(a:s.aj[i]?=some rs)
  (l:r.ao.length=rs.vals.length) (n:r.ao.length<=100) (o:s.aj.length<=100) (b:x∈r.ao.map (·.1))
  (q:Q (.d ({s with aj:=s.aj.set i {rs with vals:=dY (r.ao.map (·.1)) rs.vals x v}}:bG).d) S):Fn gF [w.d,s.d,.int h,.str x,.int v] S Q:=by
 refine cf ?_
 unfold og
 symm
 apply cx c j ?_
 apply aA (d:=.int f.room) rfl ?_
 refine nN ?_
 dsimp only
 rw[Qdq (show¬f.room= -1 by omega),k]
 show if (true=true) then _ else _
 rw[Qhq rfl]
 symm
 apply aA rfl ?_
 refine aA (d:=r.d) (bD (by rw[gQm,g];rfl)) ?_
 symm
 apply aA rfl ?_
 apply qf (enc:=vM) (nm:=(·.1)) i4 (by omega) b λm=> ?_
 apply aA rfl ?_
 refine aA (d:=rs.d) (bD (by rw[gQm,a];rfl)) ?_
 symm
 apply aA rfl ?_
 refine eZ (xs:=rs.vals.map D.int) (by rw[lQm];omega) (by rw[lQm];omega) (bq λ_ _=>rfl) rfl ?_
 symm
 refine⟨by show 1<=_;decide,?_⟩
 apply iM ?_
 apply aA rfl ?_
 refine aA (d:=rs.d) (bD (by rw[gQm,a];rfl)) ?_
 apply cM ?_
 refine⟨_,rfl,cJ ⟨_,rfl,?_⟩⟩
 refine dB (by show 5<=_;decide) ?_
 symm
 have e:({rs with vals:=dY (r.ao.map (·.1)) rs.vals x v}:gf).d=.tup ([.tup ((rs.vals.map D.int).set ((mB (.str x) ((r.ao.map (·.1)).map V.str)).getD 0) (.int v))]++jh [dQ rs.vals,.int rs.within,dQ rs.row,dQ rs.ag,.tup (rs.aa.map fM)] (some 1) none):=by
  show D.tup [dQ (dY _ _ _ _),_,_,_,_]=_
  unfold dY dQ
  rw[map_set]
  rfl
 rw[←e]
 refine dX (gQs.mp a).1 (by omega) ?_
 exact bW (bo _) (bG.low _) q
end
section
variable{S:aL}{Q:Res->aL->Prop}
noncomputable def rD(w:c7)(s:bG)(h:Nat)(ts:List (Str×Nat))(vs:List Int)(fs:List dg)(x:Str)(v:Int):bG:=
 if x∈w.ak.map (·.1) then{s with ak:=dY (w.ak.map (·.1)) s.ak x v} else{s with af:=s.af.set h (dY (ts.map (·.1)) vs x v,fs)}
def Jz{w:c7}{s:bG}{h:Nat}{ts:List (Str×Nat)}{pr:List Rw}{vs:List Int}{fs:List dg}{f:dg}{x:Str}{v:Int}(k:w.af[h]?=some (ts,pr))(b:s.af[h]?=some (vs,fs))(l:fs.getLast? =some f)(m:f.room= -1)
  (o:w.ak.length=s.ak.length) (r:ts.length=vs.length) (u:w.ak.length<=100) (y:ts.length<=100) (t:s.af.length<=100) (i:x∈ts.map (·.1)++w.ak.map (·.1))
  (q:Q (.d (rD w s h ts vs fs x v).d) S):Fn gF [w.d,s.d,.int h,.str x,.int v] S Q:=by
 refine cf ?_
 unfold og
 symm
 apply cx b l ?_
 apply aA (d:=.int f.room) rfl ?_
 refine nN ?_
 dsimp only
 rw[Qeq m]
 refine aW (λc=>by cases c) (λ_=>cz ?_)
 apply bH (dk (dI (wc ?_)))
 apply aA rfl ?_
 apply gK (enc:=vM) (nm:=(·.1)) i4 (by omega) ?_
 refine⟨_,_,rfl,oD _,?_⟩
 unfold rD at q
 show if FR (.str x) ((w.ak.map (·.1)).map V.str)=true then _ else _
 rw[DC]
 by_cases c:x∈w.ak.map (·.1)
 ·rw[Qhq c] at q
  rw[Qeq c,Qhq rfl]
  symm
  apply aA rfl ?_
  apply aA rfl ?_
  apply qf (enc:=vM) (nm:=(·.1)) i4 (by omega) c λe=> ?_
  refine eZ (xs:=s.ak.map D.int) (by rw[lQm];omega) (by rw[lQm];omega) (bq λ_ _=>rfl) rfl ?_
  symm
  apply aA rfl ?_
  apply aA rfl ?_
  apply aA rfl ?_
  refine⟨by show 4<=_;decide,?_⟩
  rw[←map_set]
  exact bW (d:=({s with ak:=dY (w.ak.map (·.1)) s.ak x v}:bG).d) (bo _) (bG.low _) q
 ·rw[Quq c] at q
  rw[Qdq c,Quq (by decide)]
  refine cz ?_
  have a:x∈ts.map (·.1):=(mQa.mp i).resolve_right c
  symm
  apply aA rfl ?_
  refine aA (d:=EM (vs,fs)) (bD (by rw[gQm,b];rfl)) ?_
  apply eO rfl (aC (bh (aC (bh (bE ?_)))))
  apply aA rfl ?_
  refine aA (d:=jF (ts,pr)) (bD (by rw[gQm,k];rfl)) ?_
  symm
  apply aA rfl ?_
  apply qf (enc:=vM) (nm:=(·.1)) i4 (by omega) a λe=> ?_
  refine eZ (xs:=vs.map D.int) (by rw[lQm];omega) (by rw[lQm];omega) (bq λ_ _=>rfl) rfl ?_
  symm
  rw[←map_set]
  rw[show D.tup ((vs.set ((mB (.str x) ((ts.map (·.1)).map V.str)).getD 0) v).map D.int)=dQ (dY (ts.map (·.1)) vs x v) from rfl]
  generalize dY (ts.map (·.1)) vs x v=nv at q⊢
  have g:h<s.af.length:=(gQs.mp b).1
  have n:s.af.length<=900:=by omega
  have j:Op (settle S ({s with af:=s.af.set h (nv,fs)}:bG).d S) λp=>Q p.1 p.2:=bW (bo _) (bG.low _) q
  exact i6 g n j
end
section
variable{S:aL}{Q:Res->aL->Prop}
noncomputable def eA(ns:List Str)(x:Str):Nat:=(mB (.str x) (ns.map V.str)).getD 0
def oK{ns:List Str}{x:Str}(h:x∈ns):eA ns x<ns.length/\ns[eA ns x]?=some x:=by
 obtain⟨j,b,a⟩:=yT h
 unfold eA
 rw[b]
 exact⟨(gQs.mp a).1,a⟩
def ke{α:Type}{enc:α->D}{nm:α->Str}{xs:List α}{x:Str}(he:∀a,∃r,enc a=.tup (.str (nm a)::r))(b:xs.length<=1000)(c:x∈xs.map nm)(q:Q (.d (.int (eA (xs.map nm) x:Nat))) S):Fn dR [.tup (xs.map enc),.str x] S Q:=qf he b c λ_=>q
def ou{w:c7}{s:bG}{h i:Nat}{vs:List Int}{fs:List dg}{f:dg}{r:Rm}{x:Str}(b:s.af[h]?=some (vs,fs))(e:fs.getLast? =some f)(a:f.room=i)(c:w.aj[i]?=some r)(j:r.aa.length<=100)(g:x∈r.aa.map (·.1))
  (q:Q (.d (.tup [.int i,.int (eA (r.aa.map (·.1)) x:Nat)])) S):Fn kq [w.d,s.d,.int h,.str x] S Q:=by
 refine cf ?_
 unfold Bi
 symm
 apply cx b e ?_
 refine aA (d:=.int f.room) rfl ?_
 rw[a]
 symm
 apply aA rfl ?_
 refine aA (d:=r.d) (bD (by rw[gQm,c];rfl)) ?_
 symm
 apply aA rfl ?_
 apply ke (enc:=Im) (nm:=(·.1)) DS (by omega) g ?_
 refine⟨by show 2<=_;decide,?_⟩
 exact bW (λk z=>(nomatch z)) rfl q
def kF{s:bG}{i b:Nat}{rs:gf}{l:List (Int×Int)}(a:s.aj[i]?=some rs)(m:b<rs.aa.length)(j:rs.aa.length<=100)(k:s.aj.length<=100)
  (q:Q (.d ({s with aj:=s.aj.set i {rs with aa:=rs.aa.set b l}}:bG).d) S):Fn gG [s.d,.int i,.int b,fM l] S Q:=by
 refine cf ?_
 unfold vf
 symm
 apply aA rfl ?_
 refine aA (d:=rs.d) (bD (by rw[gQm,a];rfl)) ?_
 symm
 apply iM ?_
 apply cJ (cM ?_)
 apply⟨_,rfl,_,rfl,?_⟩
 apply aA rfl ?_
 refine eZ (xs:=rs.aa.map fM) (by rw[lQm];omega) (by rw[lQm];omega) (bq λl _=>vH l) (vH l) ?_
 symm
 refine⟨by show 1<=_;decide,?_⟩
 refine dB (by show 5<=_;decide) ?_
 symm
 rw[←map_set]
 generalize h:rs.aa.set b l=nb at q⊢
 have e:({rs with aa:=nb}:gf).d=.tup (jh [dQ rs.vals,.int rs.within,dQ rs.row,dQ rs.ag,.tup (rs.aa.map fM)] none (some 4)++ [.tup (nb.map fM)]):=rfl
 rw[←e]
 have g:i<s.aj.length:=(gQs.mp a).1
 have c:s.aj.length<=900:=by omega
 have f:Op (settle S ({s with aj:=s.aj.set i {rs with aa:=nb}}:bG).d S) λp=>Q p.1 p.2:=bW (bo _) (bG.low _) q
 exact dX g c f
noncomputable def j0(p:Int×List Int)(h:Int):Int×List Int:=if 0<p.1 then(p.1-1,p.2) else(p.1,p.2++ [h])
noncomputable def iG(p:Int×List Int):Int×List Int:=match p.2 with
 |_::l=>(p.1,l)
 | []=>(if 9<p.1+1 then 9 else p.1+1,[])
def A5{w:c7}{s:bG}{h:Int}{x:Str}{p:Int×List Int}(i:x∈w.ai.map (·.1))(b:s.ai[eA (w.ai.map (·.1)) x]?=some p)(k:w.ai.length<=100)(l:s.ai.length<=100)(m:p.2.length<=900)
  (q:Q (.d ({s with ai:=s.ai.set (eA (w.ai.map (·.1)) x) (j0 p h)}:bG).d) S):Fn vg [w.d,s.d,.int h,.str x] S Q:=by
 refine cf ?_
 unfold Hv
 symm
 apply aA rfl ?_
 refine ke (enc:=vM) (nm:=(·.1)) i4 (by omega) i ?_
 generalize eA (w.ai.map (·.1)) x=j at b q⊢
 have g:j<s.ai.length:=(gQs.mp b).1
 have f:s.ai.length<=900:=by omega
 symm
 apply aA rfl ?_
 refine aA (d:=CF p) (bD (by rw[gQm,b];rfl)) ?_
 refine eO rfl (aC (bh (aC (bh (bE ?_)))))
 have a:Op (settle S ({s with ai:=s.ai.set j (j0 p h)}:bG).d S) λp=>Q p.1 p.2:=bW (bo _) (bG.low _) q
 unfold j0 at a
 symm
 by_cases c:0<p.1
 ·rw[Qhq c] at a
  rw[Qeq c,Qhq rfl]
  symm
  refine⟨by show 2<=_;decide,?_⟩
  symm
  exact iY (p:=(p.1-1,p.2)) g f a
 ·rw[Quq c] at a
  rw[Qdq c,Quq (by decide)]
  apply cz ?_
  refine⟨by show 1<=_;decide,?_⟩
  refine dB (by simp only[lQm,Qnq,QGq];exact nQl (bu (by omega))) ?_
  symm
  refine⟨by show 2<=_;decide,?_⟩
  symm
  have e:D.tup [.int p.1,.tup (p.2.map D.int++ [.int h])]=CF (p.1,p.2++ [h]):=by simp[CF,dQ]
  rw[e]
  exact iY g f a
end
section
variable{S:aL}{Q:Res->aL->Prop}
def nM{w:c7}{s:bG}{x:Str}{p:Int×List Int}(k:x∈w.ai.map (·.1))(f:s.ai[eA (w.ai.map (·.1)) x]?=some p)(m:w.ai.length<=100)(n:s.ai.length<=100)
  (q:Q (.d ({s with ai:=s.ai.set (eA (w.ai.map (·.1)) x) (iG p)}:bG).d) S):Fn ip [w.d,s.d,.str x] S Q:=by
 refine cf ?_
 unfold sG
 symm
 apply aA rfl ?_
 refine ke (enc:=vM) (nm:=(·.1)) i4 (by omega) k ?_
 generalize eA (w.ai.map (·.1)) x=j at f q⊢
 have h:j<s.ai.length:=(gQs.mp f).1
 have g:s.ai.length<=900:=by omega
 symm
 apply aA rfl ?_
 refine aA (d:=CF p) (bD (by rw[gQm,f];rfl)) ?_
 refine eO rfl (aC (bh (aC (bh (bE ?_)))))
 have i:Op (settle S ({s with ai:=s.ai.set j (iG p)}:bG).d S) λp=>Q p.1 p.2:=bW (bo _) (bG.low _) q
 obtain⟨v,b⟩:=p
 symm
 refine zB ?_
 cases b with
 | cons a l=>
   apply aW (λ_=> ?_) (λc=>by cases c)
   apply iM ?_
   apply cM ?_
   apply⟨_,rfl,cJ ⟨_,rfl,?_⟩⟩
   refine⟨by show 2<=_;decide,?_⟩
   symm
   have e:D.tup (jh ((a::l).map D.int) (some 1) none)=dQ l:=by
     rw[show(some (1:Int))=some ((1:Nat):Int) from rfl,iu (by simp)]
     rfl
   rw[e]
   exact iY (p:=(v,l)) h g i
 | nil=>
   apply aW (λc=>by cases c) (λ_=>cz ?_)
   apply Ia ?_
   refine⟨by show 2<=_;decide,?_⟩
   symm
   exact iY (p:=(if 9<v+1 then 9 else v+1,[])) h g i
def E4{b sd hd a:D}{s:bG}(q:Q (.d s.d) S):Fn tF [b,s.d,hd,a] S Q:=by
 refine cf ?_
 unfold Ej
 symm
 exact bW (bo _) (bG.low _) q
def G8{e:D}{s:bG}{h n:Nat}{vs:List Int}{fs:List dg}{f:dg}(b:s.af[h]?=some (vs,fs))(i:fs.getLast? =some f)(g:fs.length<=900)(c:s.af.length<=900)(q:Q (.d ({s with af:=s.af.set h (vs,fs.dropLast++ [{f with row:=n}])}:bG).d) S):Fn zI [e,s.d,.int h,(Rw.go n).d] S Q:=by
 refine cf ?_
 unfold F3
 symm
 apply aA (d:=.int n) rfl ?_
 have a:Op (settle S ({s with af:=s.af.set h (vs,fs.dropLast++ [{f with row:=n}])}:bG).d S) λp=>Q p.1 p.2:=bW (bo _) (bG.low _) q
 exact qv b i g c a
end
section
variable{S:aL}{Q:Res->aL->Prop}
def Ct{w:c7}{s:bG}{h:Int}{x:Str}{p:Int×List Int}(g:x∈w.ai.map (·.1))(c:s.ai[eA (w.ai.map (·.1)) x]?=some p)(a:w.ai.length<=100)(e:s.ai.length<=100)(f:p.2.length<=900)
  (q:Q (.d ({s with ai:=s.ai.set (eA (w.ai.map (·.1)) x) (j0 p h)}:bG).d) S):Fn p9 [w.d,s.d,.int h,(Rw.take x).d] S Q:=by
 refine cf ?_
 unfold Ay
 symm
 apply aA (d:=.str x) rfl ?_
 have b:Op (settle S ({s with ai:=s.ai.set (eA (w.ai.map (·.1)) x) (j0 p h)}:bG).d S) λp=>Q p.1 p.2:=bW (bo _) (bG.low _) q
 exact A5 g c a e f b
def CU{w:c7}{s:bG}{hd:D}{x:Str}{p:Int×List Int}(f:x∈w.ai.map (·.1))(b:s.ai[eA (w.ai.map (·.1)) x]?=some p)(a:w.ai.length<=100)(e:s.ai.length<=100)
  (q:Q (.d ({s with ai:=s.ai.set (eA (w.ai.map (·.1)) x) (iG p)}:bG).d) S):Fn p8 [w.d,s.d,hd,(Rw.give x).d] S Q:=by
 refine cf ?_
 unfold AD
 symm
 apply aA (d:=.str x) rfl ?_
 have c:Op (settle S ({s with ai:=s.ai.set (eA (w.ai.map (·.1)) x) (iG p)}:bG).d S) λp=>Q p.1 p.2:=bW (bo _) (bG.low _) q
 exact nM f b a e c
end
section
variable{S:aL}{Q:Res->aL->Prop}
def Ck(w:c7)(s:bG)(h:Nat)(t:Tr)(v:Int):Prop:=∀(S:aL) (Q:Res->aL->Prop),Q (.d (.int v)) S->Fn eL [w.d,s.d,.int h,t.d] S Q
def Puts(w:c7)(s:bG)(h:Nat)(x:Str)(v:Int)(a:bG):Prop:=∀(S:aL) (Q:Res->aL->Prop),Q (.d a.d) S->Fn gF [w.d,s.d,.int h,.str x,.int v] S Q
def B1{w:c7}{s:bG}{h:Int}{x y:Str}{p a:Int×List Int}(k:x∈w.ai.map (·.1))(f:y∈w.ai.map (·.1))(g:s.ai[eA (w.ai.map (·.1)) x]?=some p)(c:w.ai.length<=100)(e:s.ai.length<=100)(j:a.2.length<=900)
  (b:(s.ai.set (eA (w.ai.map (·.1)) x) (iG p))[eA (w.ai.map (·.1)) y]?=some a)
  (q:Q (.d ({s with ai:=(s.ai.set (eA (w.ai.map (·.1)) x) (iG p)).set (eA (w.ai.map (·.1)) y) (j0 a h)}:bG).d) S):Fn p5 [w.d,s.d,.int h,(Rw.pass x y).d] S Q:=by
 refine cf ?_
 unfold AX
 symm
 apply aA (d:=.str x) rfl ?_
 apply nM k g c e ?_
 apply aA (d:=.str y) rfl ?_
 have i:Op (settle S ({s with ai:=(s.ai.set (eA (w.ai.map (·.1)) x) (iG p)).set (eA (w.ai.map (·.1)) y) (j0 a h)}:bG).d S) λp=>Q p.1 p.2:=bW (bo _) (bG.low _) q
 exact A5 (s:={s with ai:=s.ai.set (eA (w.ai.map (·.1)) x) (iG p)}) f b c (by simpa using e) j i
def EV{w:c7}{s a:bG}{h:Nat}{x:Str}{t:Tr}{v:Int}(c:Ck w s h t v)(b:Puts w s h x v a)(q:Q (.d a.d) S):Fn t9 [w.d,s.d,.int h,(Rw.put x t).d] S Q:=by
 refine cf ?_
 unfold Dm
 symm
 apply aA (d:=.str x) rfl ?_
 apply aA (d:=t.d) rfl ?_
 apply c _ _ ?_
 refine b _ _ ?_
 exact bW (bo _) (bG.low _) q
def zt{w:c7}{s:bG}{h n:Nat}{t:Tr}{v:Int}{vs:List Int}{fs:List dg}{f:dg}(g:Ck w s h t v)(i:s.af[h]?=some (vs,fs))(b:fs.getLast? =some f)(j:fs.length<=900)(a:s.af.length<=900)
  (q:Q (.d (if v=0 then({s with af:=s.af.set h (vs,fs.dropLast++ [{f with row:=n}])}:bG) else s).d) S):Fn lB [w.d,s.d,.int h,(Rw.unl t n).d] S Q:=by
 refine cf ?_
 unfold vK
 symm
 apply aA (d:=t.d) rfl ?_
 apply g _ _ ?_
 refine ff ?_
 dsimp only
 by_cases c:v=0
 ·rw[Qhq c] at q
  rw[Qeq c,Qhq rfl]
  symm
  apply aA (d:=.int n) rfl ?_
  have e:Op (settle S ({s with af:=s.af.set h (vs,fs.dropLast++ [{f with row:=n}])}:bG).d S) λp=>Q p.1 p.2:=bW (bo _) (bG.low _) q
  exact qv i b j a e
 ·rw[Quq c] at q
  rw[Qdq c,Quq (by decide)]
  apply cz ?_
  exact bW (bo _) (bG.low _) q
end
section
variable{S:aL}{Q:Res->aL->Prop}
def B2{w:c7}{s:bG}{h:Nat}{t:Tr}{v:Int}{vs:List Int}{fs:List dg}{f:dg}(k:Ck w s h t v)(e:s.af[h]?=some (vs,fs))(c:fs.getLast? =some f)(l:fs.length<=900)(g:s.af.length<=900)
  (q:Q (.d ({s with af:=s.af.set h (vs,fs.dropLast++ [{f with told:=v}])}:bG).d) S):Fn pZ [w.d,s.d,.int h,(Rw.tell t).d] S Q:=by
 refine cf ?_
 unfold Au
 symm
 apply aA (d:=t.d) rfl ?_
 apply k _ _ ?_
 apply iM ?_
 refine cx e c ?_
 apply cJ (cM ?_)
 apply⟨_,rfl,_,rfl,?_⟩
 refine⟨by show 1<=_;decide,?_⟩
 refine dB (by show 5<=_;decide) ?_
 symm
 have j:0<fs.length:=by
  cases fs with
  |nil=>cases c
  |cons a b=>simp
 have i:Op (settle S ({s with af:=s.af.set h (vs,fs.dropLast++ [{f with told:=v}])}:bG).d S) λp=>Q p.1 p.2:=bW (bo _) (bG.low _) q
 exact jm (f:={f with told:=v}) e j l g i
def EH{w:c7}{s:bG}{h i:Nat}{vs:List Int}{fs:List dg}{f:dg}{r:Rm}{rs:gf}{x:Str}(j:s.af[h]?=some (vs,fs))(n:fs.getLast? =some f)(o:f.room=i)(k:w.aj[i]?=some r)(a:s.aj[i]?=some rs)(t:r.aa.length<=100)(u:r.aa.length=rs.aa.length)(m:s.aj.length<=100)(c:x∈r.aa.map (·.1))
  (q:Q (.d ({s with aj:=s.aj.set i {rs with aa:=rs.aa.set (eA (r.aa.map (·.1)) x) []}}:bG).d) S):Fn t5 [w.d,s.d,.int h,(Rw.all x).d] S Q:=by
 have e:=(oK c).1
 rw[lQm] at e
 refine cf ?_
 unfold DH
 symm
 apply aA (d:=.str x) rfl ?_
 refine ou j n o k t c ?_
 refine eO rfl (aC (bh (aC (bh (bE ?_)))))
 generalize eA (r.aa.map (·.1)) x=b at e q⊢
 symm
 apply⟨by decide,?_⟩
 have g:Op (settle S ({s with aj:=s.aj.set i {rs with aa:=rs.aa.set b []}}:bG).d S) λp=>Q p.1 p.2:=bW (bo _) (bG.low _) q
 exact kF (l:= []) a (by omega) (by omega) m g
end
section
variable{S:aL}{Q:Res->aL->Prop}
def Kr:∀a:Rm,∃r,a.d=.tup (.str a.name::r):=λa=>⟨_,rfl⟩
def Ge:∀a:Str×List Rw,∃r,iy a=.tup (.str a.1::r):=λa=>⟨_,rfl⟩
def GF{w:c7}{s:bG}{h:Nat}{g:Option Str}{a b:Str}{t:Tr}{v:Int}{vs:List Int}{fs:List dg}{r:Rm}{rs:gf}(x:Ck w s h t v)(k:s.af[h]?=some (vs,fs))(j:a∈w.aj.map (·.name))(l:w.aj[eA (w.aj.map (·.name)) a]?=some r)(c:s.aj[eA (w.aj.map (·.name)) a]?=some rs)(f:b∈r.ae.map (·.1))
  (B:w.aj.length<=100) (C:r.ae.length<=100) (z:s.aj.length<=100) (n:rs.row.length<=900) (y:fs.length<=900) (A:s.af.length<=100)
  (q:Q (.d ({s with af:=s.af.set h (vs,fs++ [⟨(eA (w.aj.map (·.name)) a:Nat),(eA (r.ae.map (·.1)) b:Nat),0,v,0⟩]),aj:=s.aj.set (eA (w.aj.map (·.name)) a) (lX rs h)}:bG).d) S):Fn zC [w.d,s.d,.int h,(Rw.do_ g a b t).d] S Q:=by
 refine cf ?_
 unfold Hm
 symm
 apply aA rfl ?_
 apply aA (d:=.str a) rfl ?_
 refine ke (enc:=Rm.d) (nm:=(·.name)) Kr (by omega) j ?_
 generalize eA (w.aj.map (·.name)) a=i at l c q⊢
 symm
 apply aA rfl ?_
 refine aA (d:=r.d) (bD (by rw[gQm,l];rfl)) ?_
 symm
 apply aA rfl ?_
 apply aA (d:=.str b) rfl ?_
 refine ke (enc:=iy) (nm:=(·.1)) Ge (by omega) f ?_
 generalize eA (r.ae.map (·.1)) b=dd at q⊢
 symm
 apply aA (d:=t.d) rfl ?_
 apply x _ _ ?_
 refine⟨by show 5<=_;decide,?_⟩
 symm
 apply aA rfl ?_
 refine aA (d:=EM (vs,fs)) (bD (by rw[gQm,k];rfl)) ?_
 apply eO rfl (aC (bh (aC (bh (bE ?_)))))
 refine⟨by show 1<=_;decide,?_⟩
 refine dB (by simp only[lQm,Qnq,QGq];exact nQl (bu (by omega))) ?_
 symm
 have e:fs.map dg.d++ [D.tup [.int i,.int dd,.int 0,.int v,.int 0]]=(fs++ [(⟨i,dd,0,v,0⟩:dg)]).map dg.d:=by rw[Qzq];rfl
 rw[e]
 generalize m:fs++ [(⟨i,dd,0,v,0⟩:dg)]=nf at q⊢
 have o:h<s.af.length:=(gQs.mp k).1
 apply i6 (vs:=vs) (fs:=nf) o (by omega) ?_
 have u:Op (settle S ({s with af:=s.af.set h (vs,nf),aj:=s.aj.set i (lX rs h)}:bG).d S) λp=>Q p.1 p.2:=bW (bo _) (bG.low _) q
 exact uN (s:={s with af:=s.af.set h (vs,nf)}) c (by show s.aj.length<=900;omega) n u
end
section
variable{S:aL}{Q:Res->aL->Prop}
noncomputable def ud(free:Bool)(rs:gf)(b:Nat)(h:Int):gf:=match rs.aa[b]? with
 |some (p::l)=>if free then{rs with aa:=rs.aa.set b l} else{rs with aa:=rs.aa.set b l,within:=p.2,ag:=rs.ag++ [h]}
 |_=>rs
def CO{w:c7}{s:bG}{h i:Nat}{vs:List Int}{fs:List dg}{f:dg}{r:Rm}{rs:gf}{x:Str}(C:s.af[h]?=some (vs,fs))(G:fs.getLast? =some f)(H:f.room=i)(u:w.aj[i]?=some r)(k:s.aj[i]?=some rs)(I:r.aa.length<=100)(K:r.aa.length=rs.aa.length)(F:s.aj.length<=100)(L:rs.ag.length<=900)(t:x∈r.aa.map (·.1))
  (q:Q (.d ({s with aj:=s.aj.set i (ud (decide (r.ah="when free")) rs (eA (r.aa.map (·.1)) x) h)}:bG).d) S):Fn pG [w.d,s.d,.int h,(Rw.call x).d] S Q:=by
 have v:=(oK t).1
 rw[lQm] at v
 have o:i<s.aj.length:=(gQs.mp k).1
 refine cf ?_
 unfold zQ
 symm
 apply aA (d:=.str x) rfl ?_
 refine ou C G H u I t ?_
 refine eO rfl (aC (bh (aC (bh (bE ?_)))))
 generalize eA (r.aa.map (·.1)) x=b at v q⊢
 have y:b<rs.aa.length:=by omega
 obtain⟨m,g⟩:∃l,rs.aa[b]?=some l:=⟨_,gQe y⟩
 have a:Op (settle S ({s with aj:=s.aj.set i (ud (decide (r.ah="when free")) rs b h)}:bG).d S) λp=>Q p.1 p.2:=bW (bo _) (bG.low _) q
 unfold ud at a
 rw[g] at a
 symm
 apply aA rfl ?_
 refine aA (d:=rs.d) (bD (by rw[gQm,k];rfl)) ?_
 symm
 apply aA rfl ?_
 refine aA (d:=fM m) (bD (by rw[gQm,g];rfl)) ?_
 symm
 refine zB ?_
 cases m with
 | nil=>
   apply aW (λ_=> ?_) (λc=>by cases c)
   have e:s.aj.set i rs=s.aj:=by
     apply List.ext_getElem?
     intro j
     rw[List.getElem?_set]
     split
     · rename_i c
       subst c
       rw[k]
       first|done|simp[o]
     · rfl
   have A:({s with aj:=s.aj.set i rs}:bG)=s:=by rw[e]
   have n:Op (settle S ({s with aj:=s.aj.set i rs}:bG).d S) λp=>Q p.1 p.2:=a
   rw[A] at n
   exact n
 | cons p l=>
   apply aW (λc=>by cases c) (λ_=>cz ?_)
   apply iM ?_
   apply cM ?_
   apply⟨_,rfl,cJ ⟨_,rfl,?_⟩⟩
   have e:D.tup (jh ((p::l).map pairD) (some 1) none)=fM l:=by
     rw[show(some (1:Int))=some ((1:Nat):Int) from rfl,iu (by simp)]
     rfl
   rw[e]
   refine kF k y (by omega) F ?_
   dsimp only at a
   generalize J:rs.aa.set b l=nb at a⊢
   symm
   apply aA rfl ?_
   refine aA (d:=r.d) (bD (by rw[gQm,u];rfl)) ?_
   symm
   apply aA (d:=.str r.ah) rfl ?_
   refine iU ?_
   dsimp only
   by_cases c:r.ah="when free"
   · rw[Qeq c] at a⊢
     rw[Qhq rfl] at a
     rw[Qhq rfl]
     symm
     exact a
   · rw[Qdq c] at a⊢
     rw[Quq (by decide)] at a
     rw[Quq (by decide)]
     apply cz ?_
     refine aA rfl ?_
     have B:((s.aj.set i {rs with aa:=nb}).map gf.d)[i]?=some ({rs with aa:=nb}:gf).d:=by rw[gQm,Qyq o];rfl
     symm
     refine aA (d:=({rs with aa:=nb}:gf).d) (bD B) ?_
     apply eO rfl (aC (bh (aC (bh (aC (bh (aC (bh (aC (bh (bE ?_)))))))))))
     apply aA (d:=pairD p) HA ?_
     apply aA (d:=.int p.2) rfl ?_
     refine⟨by show 1<=_;decide,?_⟩
     refine dB (by simp only[lQm,Qnq,QGq];exact nQl (bu (by omega))) ?_
     symm
     refine⟨by show 5<=_;decide,?_⟩
     symm
     have z:D.tup [dQ rs.vals,.int p.2,dQ rs.row,.tup (rs.ag.map D.int++ [.int h]),.tup (nb.map fM)]=({rs with aa:=nb,within:=p.2,ag:=rs.ag++ [(h:Int)]}:gf).d:=by simp[gf.d,dQ]
     rw[z]
     have n:Op (settle S ({s with aj:=(s.aj.set i {rs with aa:=nb}).set i {rs with aa:=nb,within:=p.2,ag:=rs.ag++ [(h:Int)]}}:bG).d S) λp=>Q p.1 p.2:=by rw[List.set_set];exact a
     exact dX (s:={s with aj:=s.aj.set i {rs with aa:=nb}}) (by simpa using o) (by simp;omega) n
end
end W28
namespace DL
open PySem PySem.Spec L2
def t_{α:Type}{v:dw}{S:aL}{js:List (Option Nat)}{i:zM}{g:o_}{t:kR}{o:bV}{Q:List D->aL->Prop}(P:dw->Prop)(enc G:α->D)(c:α->Bool)(K:P (oY js v)) (h:E i v S λp f=>∃xs:List α,p.1=xs.map enc/\p.2 f/\xs.length<=1000∧
   (∀x∈xs,∀a,P a->Tg g (enc x) a f λb S2=>S2=f/\P b/\E t b f λk B=>B=f/\k=c x/\(c x=true->E o b f λy A=>y=G x/\A=f))/\Q ((xs.filter c).map G) f):E (cG js i g t o) v S Q:=by
 refine l_ (h.mono λp f N=> ?_)
 obtain⟨xs,w,J,U,C,q⟩:=N
 refine⟨λn a s j=>s=f/\j=((xs.take n).filter c).map G/\P a,⟨rfl,rfl,K⟩,λn a s j h=>by rw[h.1];exact J,λn d a s j r h=> ?_,λa s j h=> ?_⟩
 ·obtain⟨rfl,rfl,h3⟩:=h
  have r:p.1[n]?=some d:=r
  rw[w,gQm] at r
  obtain⟨x,l,rfl⟩:=oQm.mp r
  obtain⟨b,S2,R,rfl,h4,h5⟩:=C x (mQg l) a h3
  refine⟨b,S2,R,?_⟩
  refine h5.mono λk B u=> ?_
  obtain⟨H,F,L⟩:=u
  subst H F
  have W:=(gQs.mp l).1
  have z:((xs.take (n+1)).filter c).map G=((xs.take n).filter c).map G++if c x=true then [G x] else []:=by
   rw[QYq,l]
   cases m:c x <;>simp[m]
  by_cases m:c x=true
  ·rw[Qhq m]
   refine(L m).mono λy A u=> ?_
   obtain⟨I,M⟩:=u
   subst I M
   refine⟨?_,rfl,?_,h4⟩
   ·rw[lQm]
    have:=List.length_filter_le c (xs.take n)
    rw[Qxq] at this
    exact bu (by omega)
   ·rw[z,Qhq m]
  ·rw[Quq m]
   refine⟨rfl,?_,h4⟩
   rw[z,Quq m,List.append_nil]
 ·obtain⟨rfl,rfl,_⟩:=h
  have e:p.1.length=xs.length:=by rw[w,lQm]
  show Q (((xs.take p.1.length).filter c).map G) _
  rw[e,QEq]
  exact q
end DL
namespace W28
open PySem PySem.Spec L2 DL
section
variable{S:aL}{Q:Res->aL->Prop}
noncomputable def Fy(l:List (Int×Int))(t h:Int):List (Int×Int):=l.take (l.filter λp=>decide (p.1<=t)).length++ [(t,h)]++l.drop (l.filter λp=>decide (p.1<=t)).length
def Cw{w:c7}{s:bG}{h i:Nat}{vs:List Int}{fs:List dg}{f:dg}{r:Rm}{rs:gf}{x u:Str}{t:Tr}{v:Int}{g:List (Int×Int)}(N:s.af[h]?=some (vs,fs))(R:fs.getLast? =some f)(W:f.room=i)(L:w.aj[i]?=some r)(m:s.aj[i]?=some rs)(X:r.aa.length<=100)(l2:r.aa.length=rs.aa.length)(P:s.aj.length<=100)(J:x∈r.aa.map (·.1))
  (z:r.aa[eA (r.aa.map (·.1)) x]?=some (x,u)) (k:rs.aa[eA (r.aa.map (·.1)) x]?=some g) (b4:g.length<=900) (G:Ck w s h t v)
  (q:Q (.d ({s with aj:=s.aj.set i (gd {rs with aa:=rs.aa.set (eA (r.aa.map (·.1)) x) (Fy g (if u="turns" then v else 0) h)})}:bG).d) S):Fn qh [w.d,s.d,.int h,(Rw.wait x t).d] S Q:=by
 have I:=(oK J).1
 rw[lQm] at I
 have U:i<s.aj.length:=(gQs.mp m).1
 refine cf ?_
 unfold Av
 symm
 apply aA (d:=.str x) rfl ?_
 refine ou N R W L X J ?_
 refine eO rfl (aC (bh (aC (bh (bE ?_)))))
 generalize eA (r.aa.map (·.1)) x=b at I q z k⊢
 have Y:b<rs.aa.length:=by omega
 symm
 apply aA rfl ?_
 refine aA (d:=r.d) (bD (by rw[gQm,L];rfl)) ?_
 symm
 apply aA rfl ?_
 refine aA (d:=Im (x,u)) (bD (by rw[gQm,z];rfl)) ?_
 symm
 apply aA (d:=.str u) rfl ?_
 refine iU ?_
 dsimp only
 have y:∀j:Int,j=(if u="turns" then v else 0)->T (aK (bt 7 (aI bg (aI bg (aI bg (aI bg (au 1) (cF (.int 0))) (au 4)) (cF (.int 4))) (au 5)))
   (aK (bt 8 (kh (iV (cG [none,none,some 6] (jw (bx (au 7))) (jJ (nG 2 (aR (cu 0) (aR (cu 1) eB)))) (aP (aI N6 (au 0) (au 2))) (au 0)))))
   (aK (bt 9 (aB gG (ar (au 1) (ar (au 4) (ar (au 5) (ar (aI b_ (aI b_ (pE (au 7) qm (pA (au 8))) (bc (ar (bc (ar (au 6) (ar (au 2) ay))) ay))) (pE (au 7) (pA (au 8)) qm)) ay))))))
   (cQ (aB qZ (ar (au 9) (ar (au 4) ay)))))))
   [some w.d,some s.d,some (.int h),some (Rw.wait x t).d,some (.int i),some (.int b),some (.int j),none,none,none] S (λo=>match o with
   |.nx _ A=>Op (settle S .non A) λp=>Q p.1 p.2|.rt d A=>Op (settle S d A) λp=>Q p.1 p.2|.rl l A=>Op (eX S l A) λp=>Q p.1 p.2|_=>False):=by
  intro j F
  rw[←F] at q
  symm
  apply aA rfl ?_
  refine aA (d:=rs.d) (bD (by rw[gQm,m];rfl)) ?_
  symm
  apply aA rfl ?_
  refine aA (d:=fM g) (bD (by rw[gQm,k];rfl)) ?_
  symm
  apply t_ (α:=Int×Int) (λB=>∃a b,B= [a,b,some (.int j)]) pairD (λp=>.int p.1) (λp=>decide (p.1<=j)) ⟨none,none,rfl⟩ ?_
  refine cH (ds:=g.map pairD) ?_
  refine⟨g,rfl,trivial,by omega,λp I B C=> ?_,?_⟩
  ·obtain⟨a,b,rfl⟩:=C
   refine eO rfl (aC (bh (aC (bh (bE ?_)))))
   apply⟨rfl,⟨_,_,rfl⟩,?_⟩
   apply⟨rfl,rfl,λ_=> ?_⟩
   exact⟨rfl,rfl⟩
  have M:((g.filter λp=>decide (p.1<=j)).map λp=>D.int p.1).length=(g.filter λp=>decide (p.1<=j)).length:=lQm ..
  have H:=List.length_filter_le (λp=>decide (p.1<=j)) g
  unfold Fy at q
  symm
  rw[M]
  generalize (g.filter λp=>decide (p.1<=j)).length=n at q H⊢
  apply iM ?_
  apply cJ (cM ?_)
  refine⟨_,rfl,g.map pairD,rfl,?_⟩
  rw[B_ (by rw[lQm];exact H)]
  symm
  refine⟨by show 2<=_;decide,?_⟩
  symm
  refine⟨by show 1<=_;decide,?_⟩
  refine dB (by simp only[lQm,Qxq,Qnq,QGq];exact nQl (bu (by omega))) ?_
  apply iM ?_
  apply cM ?_
  refine⟨_,rfl,cJ ⟨g.map pairD,rfl,?_⟩⟩
  rw[iu (by rw[lQm];exact H)]
  refine dB (by simp only[lQa,lQm,Qxq,List.length_drop,Qnq,QGq];exact nQl (bu (by omega))) ?_
  symm
  have e:D.tup ((g.map pairD).take n++ [D.tup [.int j,.int h]]++(g.map pairD).drop n)=fM (g.take n++ [(j,(h:Int))]++g.drop n):=by
   simp only[fM,Qzq,List.map_take,List.map_drop]
   rfl
  rw[e]
  generalize g.take n++ [(j,(h:Int))]++g.drop n=nl at q⊢
  apply kF m Y (by omega) P ?_
  have K:Op (settle S ({s with aj:=s.aj.set i (gd {rs with aa:=rs.aa.set b nl})}:bG).d S) λp=>Q p.1 p.2:=bW (bo _) (bG.low _) q
  generalize a0:({rs with aa:=rs.aa.set b nl}:gf)=nr at K⊢
  have Z:Op (settle S ({s with aj:=(s.aj.set i nr).set i (gd nr)}:bG).d S) λp=>Q p.1 p.2:=by rw[List.set_set];exact K
  exact Ar (s:={s with aj:=s.aj.set i nr}) (Qyq U) (by simp;omega) Z
 by_cases c:u="turns"
 ·rw[Qeq c,Qhq rfl]
  symm
  apply aA (d:=t.d) rfl ?_
  refine G _ _ ?_
  exact y v (by rw[Qhq c])
 ·rw[Qdq c,Quq (by decide)]
  refine cz ?_
  exact y 0 (by rw[Quq c])
end
end W28
namespace DL
open PySem PySem.Spec L2
section
variable{Γ:dw}{S:aL}
def NX{a:List (Str×Str)}{g:bV}{Q:D->aL->Prop}(h:E g Γ S λy b=>∃x nm,y=.str x/\a.lookup x=some nm/\Q (.fn nm) b):E (NB a g) Γ S Q:=by
 obtain⟨y,b,c,x,nm,rfl,e2,q⟩:=h
 exact⟨_,b,by unfold NB;rw[c];simp only[Qbq];rw[e2];rfl,q⟩
def JS{i:Nat}{T:List (Str×dP)}{g:iH}{x:Str}{F:dP}{Q:D->aL->Prop}(b:Γ[i]?=some (some (.fn x)))(d:T.lookup x=some F)(h:E (aB F g) Γ S Q):E (uK i T g) Γ S Q:=by
 obtain⟨y,a,c,q⟩:=h
 exact⟨_,a,by unfold uK;rw[b];show(T.lookup x).bind _=_;rw[d];exact c,q⟩
def Kn{f:bV}{Q:D->aL->Prop}(h:E f Γ S λd a=>∃k,d=.bl k/\Q (.bl (!k)) a):E (Jv f) Γ S Q:=by
 obtain⟨d,a,b,k,rfl,q⟩:=h
 exact⟨_,a,by unfold Jv;rw[b];rfl,q⟩
def xE{a:Bool}{x:D}{Q:D->Prop}(q:Q (.bl (if a then !isNone x else isNone x))):Op (uF a S x .non) Q:=⟨_,rfl,q⟩
end
def xo{α:Type}{xs:List α}{a b:α}:lL (xs++ [a,b]) (-2)=some a:=by
 unfold lL FJ
 rw[Quq (by omega),Qhq (by simp;omega)]
 simp only[Qbq]
 rw[show((-2:Int)+((xs++ [a,b]).length:Int)).toNat=xs.length by simp;omega]
 simp
end DL
namespace W28
open PySem PySem.Spec L2 DL
section
variable{S:aL}{Q:Res->aL->Prop}
def OE:Rw->dP
 |.put _ _=>t9
 |.unl _ _=>lB
 |.go _=>zI
 |.do_ _ _ _ _=>zC
 |.wait _ _=>qh
 |.call _=>pG
 |.all _=>t5
 |.tell _=>pZ
 |.take _=>p9
 |.give _=>p8
 |.pass _ _=>p5
 |.say _=>tF
noncomputable def Rw.kind:Rw->Str
 |.put _ _=>"put"
 |.unl _ _=>"unless"
 |.go _=>"go"
 |.do_ _ _ _ _=>"do"
 |.wait _ _=>"wait"
 |.call _=>"call"
 |.all _=>"all"
 |.tell _=>"tell"
 |.take _=>"take"
 |.give _=>"give"
 |.pass _ _=>"pass"
 |.say _=>"say"
def Rw.d_kind(r:Rw):∃l,r.d=.tup (.str r.kind::l):=by cases r <;>exact⟨_,rfl⟩
def ID(r:Rw):∃nm,mT.lookup r.kind=some nm/\vq.lookup nm=some (OE r):=by
 cases r
 ·exact⟨"by_put",rfl,rfl⟩
 ·exact⟨"by_unless",rfl,rfl⟩
 ·exact⟨"by_go",rfl,rfl⟩
 ·exact⟨"by_do",rfl,rfl⟩
 ·exact⟨"by_wait",rfl,rfl⟩
 ·exact⟨"by_call",rfl,rfl⟩
 ·exact⟨"by_all",rfl,rfl⟩
 ·exact⟨"by_tell",rfl,rfl⟩
 ·exact⟨"by_take",rfl,rfl⟩
 ·exact⟨"by_give",rfl,rfl⟩
 ·exact⟨"by_pass",rfl,rfl⟩
 ·exact⟨"by_say",rfl,rfl⟩
def Kj(w:c7)(s:bG)(h:Nat)(r:Rw)(a:bG):Prop:=∀(S:aL) (Q:Res->aL->Prop),Q (.d a.d) S->Fn (OE r) [w.d,s.d,.int h,r.d] S Q
def Az{w:c7}{s c:bG}{h:Nat}{r:Rw}(hd:Kj w s h r c)(q:Q (.d c.d) S):Fn ku [w.d,s.d,.int h,r.d] S Q:=by
 obtain⟨b,e,f⟩:=ID r
 obtain⟨l,a⟩:=r.d_kind
 refine cf ?_
 unfold x8
 apply bH (Gi (NX ?_))
 rw[a]
 refine aA (d:=.str r.kind) HA ?_
 rw[←a]
 refine⟨_,b,rfl,e,?_⟩
 apply j3 (JS (x:=b) rfl f ?_)
 refine hd _ _ ?_
 exact bW (bo _) (bG.low _) q
def r8{w:c7}{s l:bG}{h i:Nat}{vs:List Int}{e:List dg}{b f:dg}{rs:gf}{pr:List Rw}{g:Option Str}{r p:Str}{t:Tr}(u:s.af[h]?=some (vs,e++ [b,f]))(A:f.room=i)(m:s.aj[i]?=some rs)(z:s.aj.length<=900)(v:s.af.length<=900)
  (B:progOf w h b=some pr) (C:1<=b.row) (k:pr[(b.row-1).toNat]?=some (.do_ g r p t))
  (j:∀a:bG,a={s with aj:=s.aj.set i (gd rs),af:=s.af.set h (vs,e++ [b])}->match g with|none=>l=a|some x=>Puts w a h x f.told l)
  (q:Q (.d l.d) S):Fn kB [w.d,s.d,.int h] S Q:=by
 have y:h<s.af.length:=(gQs.mp u).1
 refine cf ?_
 unfold xF
 symm
 apply aA rfl ?_
 refine aA (d:=EM (vs,e++ [b,f])) (bD (by rw[gQm,u];rfl)) ?_
 refine eO rfl (aC (bh (aC (bh (bE ?_)))))
 have n:(e++ [b,f]).map dg.d=e.map dg.d++ [b.d,f.d]:=by simp
 dsimp only
 rw[n]
 symm
 apply vU ?_
 refine⟨1,rfl,?_⟩
 refine aA (d:=f.d) (AZ (by simp)) ?_
 refine eO rfl (aC (bh (aC (bh (aC (bh (aC (bh (aC (bh (bE ?_)))))))))))
 rw[A]
 symm
 apply Ar m z ?_
 apply iM ?_
 apply cJ (cM (vU ?_))
 refine⟨1,rfl,_,rfl,_,rfl,?_⟩
 rw[zX (by simp)]
 have o:D.tup ((e.map dg.d++ [b.d,f.d]).dropLast)=.tup ((e++ [b]).map dg.d):=by
  rw[show e.map dg.d++ [b.d,f.d]=(e.map dg.d++ [b.d])++ [f.d] by simp,List.dropLast_concat]
  simp
 rw[o]
 symm
 refine i6 (s:={s with aj:=s.aj.set i (gd rs)}) y v ?_
 have j:=j _ rfl
 dsimp only at j⊢
 generalize ({s with aj:=s.aj.set i (gd rs),af:=s.af.set h (vs,e++ [b])}:bG)=a at j⊢
 symm
 apply vU ?_
 refine⟨2,rfl,?_⟩
 apply aA (d:=b.d) xo ?_
 apply gh B ?_
 apply vU ?_
 refine⟨2,rfl,?_⟩
 apply aA (d:=b.d) xo ?_
 apply aA (d:=.int b.row) rfl ?_
 refine aA (d:=(Rw.do_ g r p t).d) (m9 (by omega) (by rw[gQm,k];rfl)) ?_
 symm
 apply aA (d:=FU g) rfl ?_
 refine xE ?_
 cases g with
 | none=>
   dsimp only at j
   subst j
   apply aW (λ_=> ?_) (λc=>by cases c)
   exact bW (bo _) (bG.low _) q
 | some x=>
   apply aW (λc=>by cases c) (λ_=>cz ?_)
   apply aA (d:=.str x) rfl ?_
   refine j _ _ ?_
   exact bW (bo _) (bG.low _) q
end
section
variable{S:aL}{Q:Res->aL->Prop}
noncomputable def J5(h:Nat):Option Int->D
 |none=>.non
 |some v=>.tup [.int h,.int v]
def JO(h:Nat)(e:Option Int):cq 0 (J5 h e)=true:=by cases e <;>rfl
noncomputable def Lw(s:bG)(h:Nat)(e:Option Int):D:=.tup [s.d,J5 h e]
def tO(s:bG)(h:Nat)(e:Option Int):cq 0 (Lw s h e)=true:=by
 simp only[Lw,cq,cj,JO,bG.low,Bool.and_true]
def uC(w:c7)(s:bG)(h:Nat)(a:bG)(e:Option Int):Prop:=∀(S:aL) (Q:Res->aL->Prop),Q (.d (Lw a h e)) S->Fn mK [w.d,s.d,.int h] S Q
def EB{w:c7}{s:bG}{h i:Nat}{vs:List Int}{fs:List dg}{f:dg}{rs:gf}(e:s.af[h]?=some (vs,fs))(j:fs.getLast? =some f)(l:f.room=i)(a:s.aj[i]?=some rs)(b:rs.within≠h)(g:s.aj.length<=900)(c:rs.row.length<=900):
  uC w s h {s with aj:=s.aj.set i (lX rs h)} none:=by
 intro S Q q
 refine cf ?_
 unfold pK
 symm
 apply cx e j ?_
 apply aA (d:=.int f.room) rfl ?_
 refine nN ?_
 dsimp only
 rw[Qdq (show¬f.room= -1 by omega),l]
 show if (true=true) then _ else _
 rw[Qhq rfl]
 symm
 apply aA rfl ?_
 refine aA (d:=rs.d) (bD (by rw[gQm,a];rfl)) ?_
 symm
 apply aA (d:=.int rs.within) rfl ?_
 refine nN ?_
 dsimp only
 rw[Qdq b]
 show if (true=true) then _ else _
 rw[Qhq rfl]
 symm
 apply uN a g c ?_
 refine⟨by show 2<=_;decide,?_⟩
 exact bW (d:=Lw _ h none) (λk z=>(nomatch z)) (tO _ _ _) q
def Here(s:bG)(h:Nat)(f:dg):Prop:=f.room= -1\/∃(i:Nat) (a:gf),f.room=i/\s.aj[i]?=some a/\a.within=h
def xQ{w:c7}{s:bG}{h:Nat}{f:dg}{a b c d:Option D}{Q:Bool->aL->Prop}(k:Here s h f)(q:Q false S):E (jo (aP (aI (fB true) (au 4) (cF (.int (-1))))) (aP (aI (fB true) (aI bg (aI bg (aI bg (au 1) (cF (.int 0))) (au 4)) (cF (.int 1))) (au 2)))) [some w.d,some s.d,some (.int h),some f.d,some (.int f.room),a,b,c] S Q:=by
 rcases k with e|⟨i,j,e,g,l⟩
 ·symm
  refine nN ?_
  dsimp only
  rw[Qeq e]
  show if (false=true) then _ else _
  rw[Quq (by decide)]
  exact q
 ·symm
  refine nN ?_
  dsimp only
  rw[Qdq (show¬f.room= -1 by omega),e]
  show if (true=true) then _ else _
  rw[Qhq rfl]
  symm
  apply aA rfl ?_
  refine aA (d:=j.d) (bD (by rw[gQm,g];rfl)) ?_
  symm
  apply aA (d:=.int j.within) rfl ?_
  refine nN ?_
  dsimp only
  rw[Qeq l]
  exact q
def z4{w:c7}{s b:bG}{h:Nat}{vs:List Int}{fs:List dg}{f:dg}{pr:List Rw}(g:s.af[h]?=some (vs,fs))(i:fs.getLast? =some f)(e:Here s h f)(j:progOf w h f=some pr)(a:f.row=pr.length)
  (he:∀(S:aL) (Q:Res->aL->Prop),Q (.d b.d) S->Fn kB [w.d,s.d,.int h] S Q):uC w s h b none:=by
 intro S Q q
 refine cf ?_
 unfold pK
 symm
 apply cx g i ?_
 refine aA (d:=.int f.room) rfl ?_
 refine bH (dk (xQ (d:=none) e ?_))
 apply aW (λc=>by cases c) (λ_=>cz ?_)
 apply gh j ?_
 apply aA (d:=.int f.row) rfl ?_
 refine ff ?_
 dsimp only
 rw[lQm,Qeq a,Qhq rfl]
 symm
 apply he _ _ ?_
 refine⟨by show 2<=_;decide,?_⟩
 exact bW (d:=Lw _ h none) (λk z=>(nomatch z)) (tO _ _ _) q
def LM(w:c7)(s:bG)(h:Nat)(r:Rw)(e:Option Int):Prop:=match r with
 |.say t=>∃v,e=some v/\Ck w s h t v
 |_=>e=none
def As{w:c7}{s m:bG}{h:Nat}{vs:List Int}{fs:List dg}{f:dg}{pr:List Rw}{r:Rw}{e:Option Int}(j:s.af[h]?=some (vs,fs))(n:fs.getLast? =some f)(u:Here s h f)(C:progOf w h f=some pr)(y:0<=f.row)(b:pr[f.row.toNat]?=some r)(A:fs.length<=900)(B:s.af.length<=900)
  (a:LM w s h r e) (hd:Kj w {s with af:=s.af.set h (vs,fs.dropLast++ [{f with row:=f.row+1}])} h r m):uC w s h m e:=by
 intro S Q q
 have x:=(gQs.mp b).1
 refine cf ?_
 unfold pK
 symm
 apply cx j n ?_
 refine aA (d:=.int f.room) rfl ?_
 refine bH (dk (xQ (d:=none) u ?_))
 apply aW (λc=>by cases c) (λ_=>cz ?_)
 apply gh C ?_
 apply aA (d:=.int f.row) rfl ?_
 refine ff ?_
 dsimp only
 rw[lQm,Qdq (show¬f.row=(pr.length:Int) by omega),Quq (by decide)]
 apply cz ?_
 refine aA (d:=.int f.row) rfl ?_
 refine aA (d:=r.d) (m9 y (by rw[gQm,b];rfl)) ?_
 symm
 obtain⟨l,F⟩:=r.d_kind
 have g:T (cQ (bc (ar (aB ku (ar (au 0) (ar (aB kU (ar (au 1) (ar (au 2) (ar (aI b_ (aI bg (au 3) (cF (.int 2))) (cF (.int 1))) ay)))) (ar (au 2) (ar (au 6) ay))))) (ar (au 7) ay))))
   [some w.d,some s.d,some (.int h),some f.d,some (.int f.room),some (.tup (pr.map Rw.d)),some r.d,some (J5 h e)] S (λo=>match o with
   |.nx _ i=>Op (settle S .non i) λp=>Q p.1 p.2|.rt d i=>Op (settle S d i) λp=>Q p.1 p.2|.rl l i=>Op (eX S l i) λp=>Q p.1 p.2|_=>False):=by
  symm
  apply aA (d:=.int f.row) rfl ?_
  apply qv j n A B ?_
  apply Az hd ?_
  refine⟨by show 2<=_;decide,?_⟩
  exact bW (d:=Lw _ h e) (λk z=>(nomatch z)) (tO _ _ _) q
 cases r with
 | say t=>
   obtain⟨v,rfl,hv⟩:=a
   apply aA (d:=.str "say") rfl ?_
   refine iU ?_
   dsimp only
   rw[Qeq rfl,Qhq rfl]
   symm
   apply aA (d:=t.d) rfl ?_
   apply hv _ _ ?_
   refine⟨by show 2<=_;decide,?_⟩
   exact g
 | _=>
   have a:e=none:=a
   subst a
   apply aA rfl ?_
   refine iU ?_
   dsimp only
   refine aW (λc=>absurd (QZq c) (by decide +kernel)) (λ_=>cz ?_)
   exact g
end
end W28
namespace DL
open PySem PySem.Spec L2
section
variable{Γ:dw}{S:aL}
def GE{f:bV}{g:gu}{Q:D->aL->Prop}(h:E f Γ S λx b=>∃k a,x=.ref k/\b[k]?=some (.lst a)/\E g Γ b λp S2=>∃ds,S2[k]?=some (.lst ds)/\(p.2.isL=false/\ds.length+p.1.length<=sizeLine)/\Q .non (S2.set k (.lst (ds++p.1)))):E (wW f g) Γ S Q:=by
 obtain⟨x,b,c,k,a,rfl,h1,p,S2,e2,ds,h2,h3,q⟩:=h
 exact⟨_,_,by unfold wW;rw[c];simp only[Qbq,e2,h1,h2];rw[Qhq h3],q⟩
end
def CQ{S a:aL}{k:Nat}{ds:List D}{Q:Res×aL->Prop}(d:qi S a)(e:S.length<=k)(c:a[k]?=some (.lst ds))(b:cj S.length ds=true)(q:Q (.l ds,a.take S.length)):Op (settle S (.ref k) a) Q:=by
 refine⟨_,?_,q⟩
 unfold settle
 rw[Qhq d]
 show(if k<S.length then _ else _)=_
 rw[Quq (by omega),c]
 show(if cj S.length ds=true then _ else _)=_
 rw[Qhq b]
def qU{n:Nat}(h:n<=100000):n<=sizeLine:=QAq h (by decide)
theorem eW:∀ss:List Int,pX (ss.map D.int)=some (ss.map V.int)
 | []=>rfl
 |s::ss=>by simp only[QDq,pX,yi,Qbq];rw[eW ss];rfl
def jK{x:Int}{ss:List Int}:FR (.int x) (ss.map V.int)=decide (x∈ss):=by
 induction ss with
 |nil=>rfl
 | cons a ss d=>
   show(ph (.int a) (.int x)||FR (.int x) (ss.map V.int))=_
   rw[d]
   simp only[ph,Qsq]
   by_cases c:a=x
   · subst c;simp
   · have b:¬x=a:=λz=>c z.symm
     simp[c,b]
end DL
namespace W28
open PySem PySem.Spec L2 DL
section
variable{S:aL}{Q:Res->aL->Prop}
def Br{S a:aL}(x:u3 S a):a.take S.length=S:=by
 apply List.ext_getElem?
 intro j
 by_cases b:j<S.length
 ·rw[List.getElem?_take_of_lt b]
  exact x.eq j b
 ·rw[List.getElem?_eq_none (by rw[Qxq];omega),List.getElem?_eq_none (by omega)]
def Lz{S a:aL}{ds:List D}{Q:Res->aL->Prop}(x:u3 S a)(b:cj 0 ds=true)(q:Q (.l ds) S):Op (eX S ds a) λp=>Q p.1 p.2:=
 nY ⟨x.len,λk o c e=>.inl (by rw[←x.eq k c];exact e)⟩ (Br x) (kf b) q
def LH{S b:aL}{k:Nat}{ds:List D}{Q:Res->aL->Prop}(x:u3 S b)(a:S.length<=k)(d:b[k]?=some (.lst ds))(c:cj 0 ds=true)(q:Q (.l ds) S):Op (settle S (.ref k) b) λp=>Q p.1 p.2:=
 CQ ⟨x.len,λk o a e=>.inl (by rw[←x.eq k a];exact e)⟩ a d (kf c) (by rw[Br x];exact q)
def sM{l:List (Int×Int)}(f:l.length<=1000)(q:Q (.l ((l.map (·.2)).map D.int)) S):Fn ko [fM l] S Q:=by
 refine cf ?_
 unfold xp
 symm
 apply iO (α:=Int×Int) (λc=>∃a b,c= [a,b]) pairD (λp=>.int p.2) ⟨none,none,rfl⟩ ?_
 refine cH (ds:=l.map pairD) ?_
 refine⟨l,rfl,trivial,f,λp g c d=> ?_,?_⟩
 ·obtain⟨a,b,rfl⟩:=d
  refine eO rfl (aC (bh (aC (bh (bE ?_)))))
  apply⟨rfl,⟨_,_,rfl⟩,?_⟩
  exact⟨rfl,rfl⟩
 ·have e:l.map (λp=>D.int p.2)=(l.map (·.2)).map D.int:=by rw[QPq];rfl
  rw[e]
  exact Hx (bq λ_ _=>rfl) q
noncomputable def lu(r:gf):List Int:=r.row++r.ag++r.aa.flatMap λl=>l.map (·.2)
noncomputable def held(s:bG):List Int:=s.ai.flatMap (·.2)++s.aj.flatMap lu
theorem mJ{α c:Type}{f:α->List c}{n:Nat}:∀{l:List α},(∀a∈l,(f a).length<=n)->(l.flatMap f).length<=n*l.length
 | [],_=>by simp
 | a::l,h=>by
   have e:=h a (QBq ..)
   have g:=mJ (f:=f) (l:=l) λb d=>h b (Qpq _ d)
   rw[QSq,lQa,Qnq,Nat.mul_add]
   omega
def ib{α b:Type}{f:α->List b}{l:List α}{n:Nat}{a:α}(h:l[n]?=some a):(l.take (n+1)).flatMap f=(l.take n).flatMap f++f a:=by
 rw[QYq,h]
 simp
def qK{s:bG}{n:Nat}(N:n<=100)(b1:s.ai.length<=100)(b2:s.aj.length<=20)(R:∀p∈s.ai,p.2.length<=n)(I:∀r∈s.aj,r.row.length<=n/\r.ag.length<=n/\r.aa.length<=10/\∀l∈r.aa,l.length<=n)
  (q:Q (.l ((held s).map D.int)) S):Fn fE [s.d] S Q:=by
 have Y:∀o:List D,u3 S (S++ [.lst o]):=λo=>u3.refl.app
 have C:∀r∈s.aj,∀j:Nat,((r.aa.take j).flatMap λl=>l.map (·.2)).length<=1000:=λr C j=>by
  obtain⟨_,_,M,P⟩:=I r C
  have H:=mJ (f:=λl:List (Int×Int)=>l.map (·.2)) (n:=n) (l:=r.aa.take j) λl u=>by rw[lQm];exact P l (List.mem_of_mem_take u)
  have F:(r.aa.take j).length<=10:=by rw[Qxq];omega
  have Z:n*(r.aa.take j).length<=100*10:=Nat.mul_le_mul N F
  omega
 have J:∀r∈s.aj,(lu r).length<=1200:=λr h=>by
  have K:=C r h r.aa.length
  obtain⟨W,M,_⟩:=I r h
  rw[QEq] at K
  simp only[lu,lQa]
  omega
 have z:∀j:Nat,((s.ai.take j).flatMap (·.2)).length<=10000:=λj=>by
  have H:=mJ (f:=λp:Int×List Int=>p.2) (n:=n) (l:=s.ai.take j) λl u=>R l (List.mem_of_mem_take u)
  have F:(s.ai.take j).length<=100:=by rw[Qxq];omega
  have Z:n*(s.ai.take j).length<=100*100:=Nat.mul_le_mul N F
  omega
 have L:∀j:Nat,((s.aj.take j).flatMap lu).length<=24000:=λj=>by
  have H:=mJ (f:=lu) (n:=1200) (l:=s.aj.take j) λl u=>J l (List.mem_of_mem_take u)
  have F:(s.aj.take j).length<=20:=by rw[Qxq];omega
  omega
 refine cf ?_
 unfold mw
 symm
 refine⟨by decide,?_⟩
 apply bH (ik (tf ?_))
 refine aA rfl ?_
 refine cH (ds:=s.ai.map CF) ?_
 refine⟨λj k v=>(∃a b c d e f g,k= [some s.d,some (.ref S.length),a,b,c,d,e,f,g])/\v=S++ [.lst (((s.ai.take j).flatMap (·.2)).map D.int)],⟨⟨_,_,_,_,_,_,_,rfl⟩,rfl⟩,λ_ _ _ _=>trivial,?_,?_⟩
 ·rintro j d k v t ⟨⟨a,b,c,G,e,f,g,rfl⟩,rfl⟩
  have t:(s.ai.map CF)[j]?=some d:=t
  rw[gQm] at t
  obtain⟨p,U,rfl⟩:=oQm.mp t
  refine eO rfl (aC (bh (aC (bh (bE ?_)))))
  apply jq (GE ?_)
  apply⟨_,_,rfl,a_,?_⟩
  refine cH (ds:=p.2.map D.int) ?_
  refine⟨_,a_,⟨rfl,?_⟩,⟨_,_,_,_,_,_,_,rfl⟩,?_⟩
  ·have:=z j
   have:=R p (mQg U)
   simp only[lQm]
   exact qU (by omega)
  ·rw[ib U,Qzq]
   simp
 rintro k v ⟨⟨a,b,c,G,e,f,g,rfl⟩,rfl⟩
 have u:(s.ai.map CF).length=s.ai.length:=lQm ..
 rw[u,QEq]
 apply bH (ik (tf ?_))
 refine aA rfl ?_
 refine cH (ds:=s.aj.map gf.d) ?_
 refine⟨λj k v=>(∃a b c d e f g,k= [some s.d,some (.ref S.length),a,b,c,d,e,f,g])/\v=S++ [.lst ((s.ai.flatMap (·.2)++(s.aj.take j).flatMap lu).map D.int)],⟨⟨_,_,_,_,_,_,_,rfl⟩,by simp⟩,λ_ _ _ _=>trivial,?_,?_⟩
 ·rintro j d k v t ⟨⟨a,b,c,G,e,f,g,rfl⟩,rfl⟩
  have t:(s.aj.map gf.d)[j]?=some d:=t
  rw[gQm] at t
  obtain⟨r,y,rfl⟩:=oQm.mp t
  have w:=mQg y
  obtain⟨W,M,P,H⟩:=I r w
  have x:(s.ai.flatMap (·.2)++(s.aj.take j).flatMap lu).length<=34000:=by
   have:=z s.ai.length
   rw[QEq] at this
   have:=L j
   rw[lQa]
   omega
  generalize B:s.ai.flatMap (·.2)++(s.aj.take j).flatMap lu=o at x⊢
  refine eO rfl (aC (bh (aC (bh (aC (bh (aC (bh (aC (bh (bE ?_)))))))))))
  apply bH (jq (GE ?_))
  apply⟨_,_,rfl,a_,?_⟩
  refine dB (i:=r.row.map D.int) (j:=r.ag.map D.int) (by simp only[lQm];exact qU (by omega)) ?_
  refine cH ?_
  refine⟨_,a_,⟨rfl,?_⟩,?_⟩
  ·simp only[lQa,lQm]
   exact qU (by omega)
  dsimp only
  have e1:(S++ [O.lst (o.map D.int)]).set S.length (.lst (o.map D.int++(r.row.map D.int++r.ag.map D.int)))=S++ [.lst ((o++(r.row++r.ag)).map D.int)]:=by simp
  rw[e1]
  apply ik (tf ?_)
  refine⟨λj k v=>(∃a b c d e f g,k= [some s.d,some (.ref S.length),a,b,c,d,e,f,g])/\v=S++ [.lst ((o++(r.row++r.ag)++(r.aa.take j).flatMap λl=>l.map (·.2)).map D.int)],⟨⟨_,_,_,_,_,_,_,rfl⟩,by simp⟩,λ_ _ _ _=>trivial,?_,?_⟩
  ·rintro m d k v t ⟨⟨a,b,c,G,e,f,g,rfl⟩,rfl⟩
   have t:(r.aa.map fM)[m]?=some d:=t
   rw[gQm] at t
   obtain⟨l,A,rfl⟩:=oQm.mp t
   have X:=H l (mQg A)
   refine bh ?_
   apply jq (FT ?_)
   apply⟨_,_,rfl,a_,?_⟩
   apply sM (by omega) ?_
   refine⟨_,a_,⟨rfl,?_⟩,⟨_,_,_,_,_,_,_,rfl⟩,?_⟩
   ·have:=C r w m
    simp only[lQa,lQm]
    exact qU (by omega)
   ·rw[ib A,←Qvq,Qzq]
    simp
  ·rintro k v ⟨K,rfl⟩
   refine⟨K,?_⟩
   have u:(r.aa.map fM).length=r.aa.length:=lQm ..
   rw[u,QEq,ib y]
   subst B
   simp only[lu,Qvq]
 ·rintro k v ⟨⟨a,b,c,G,e,f,g,rfl⟩,rfl⟩
  have u:(s.aj.map gf.d).length=s.aj.length:=lQm ..
  rw[u,QEq]
  symm
  exact LH (Y _) (Qmq _) a_ (bq λ_ _=>rfl) q
end
section
variable{S:aL}{Q:Res->aL->Prop}
noncomputable def DM(s:bG)(h:Nat):Option dg:=(s.af[h]?).bind λp=>p.2.getLast?
noncomputable def zf(w:c7)(s:bG)(h:Nat):Bool:=match DM s h with
 |some f=>decide (f.room= -1)&&decide (f.row=(((progOf w h f).getD []).length:Int))
 |none=>false
def qX{w:c7}{s:bG}{h:Nat}{vs:List Int}{fs:List dg}{f:dg}{pr:List Rw}(b:s.af[h]?=some (vs,fs))(e:fs.getLast? =some f)(a:progOf w h f=some pr)(q:Q (.d (.bl (zf w s h))) S):Fn gQ [w.d,s.d,.int h] S Q:=by
 have g:zf w s h=(decide (f.room= -1)&&decide (f.row=(pr.length:Int))):=by
  unfold zf DM
  rw[b]
  show(match fs.getLast? with|some f=>_|none=>_)=_
  rw[e]
  simp only[a,Option.getD_some]
 rw[g] at q
 refine cf ?_
 unfold lZ
 symm
 apply cx b e ?_
 apply vN ?_
 apply aA (d:=.int f.room) rfl ?_
 refine ff ?_
 refine⟨_,rfl,?_⟩
 by_cases c:f.room= -1
 ·rw[Qeq c] at q⊢
  rw[Qhq rfl]
  symm
  apply aA (d:=.int f.row) rfl ?_
  apply gh a ?_
  refine ff ?_
  rw[lQm]
  exact bW (λk z=>(nomatch z)) rfl q
 ·rw[Qdq c] at q⊢
  rw[Quq (by decide)]
  exact bW (λk z=>(nomatch z)) rfl q
noncomputable def nh(w:c7)(s:bG):List Nat:=(List.range s.af.length).filter λh=> !decide ((h:Int)∈held s)&& !zf w s h
noncomputable def m_(h:Nat):D:=.int h
def Gs(w:c7)(s:bG):Prop:=∀(S:aL) (Q:Res->aL->Prop),Q (.l ((nh w s).map m_)) S->Fn i9 [w.d,s.d] S Q
def Ad{w:c7}{s:bG}(j:∀(S:aL) (Q:Res->aL->Prop),Q (.l ((held s).map D.int)) S->Fn fE [s.d] S Q)(o:∀h<s.af.length,∃vs fs f pr,s.af[h]?=some (vs,fs)/\fs.getLast? =some f/\progOf w h f=some pr)(p:s.af.length<=100):Gs w s:=by
 intro S Q q
 refine cf ?_
 unfold xR
 symm
 apply j _ _ ?_
 apply t_ (α:=Nat) (λb=>∃a,b= [a,some w.d,some s.d,some (.ref S.length)]) (λ(i:Nat)=>D.int (0+(i:Int))) m_ (λh=> !decide ((h:Int)∈held s)&& !zf w s h) ⟨none,rfl⟩ ?_
 apply aA rfl ?_
 refine⟨_,rfl,?_,?_⟩
 ·simp only[lQm]
  omega
 refine⟨List.range s.af.length,?_,trivial,by simp;omega,λh n b e=> ?_,?_⟩
 ·simp only[jx,lQm]
  rfl
 ·obtain⟨a,rfl⟩:=e
  obtain⟨vs,fs,f,pr,m,k,g⟩:=o h (List.mem_range.mp n)
  refine bh ⟨rfl,⟨_,rfl⟩,?_⟩
  rw[Int.zero_add]
  apply yo (dI (wc ?_))
  refine cE (ds:=(held s).map D.int) a_ ?_
  refine⟨_,_,rfl,eW _,?_⟩
  rw[jK]
  by_cases c:(h:Int)∈held s
  ·rw[Qeq c]
   refine aW (λc=>by cases c) (λ_=> ?_)
   exact⟨rfl,rfl,λc=>by cases c⟩
  ·rw[Qdq c]
   apply aW (λ_=> ?_) (λc=>by cases c)
   refine qX m k g ?_
   dsimp only
   refine yl ?_
   apply⟨rfl,rfl,λ_=> ?_⟩
   exact⟨rfl,rfl⟩
 ·refine Lz (u3.refl.app) (bq λ_ _=>rfl) q
def Ce{w:c7}{s b:bG}{h:Nat}{e:Option Int}(f:Gs w s)(i:h∈nh w s)(a:uC w s h b e)(q:Q (.d (Lw b h e)) S):Fn pD [w.d,s.d,.int h] S Q:=by
 refine cf ?_
 unfold Ap
 apply bH (dk (dI (wc ?_)))
 refine f _ _ ?_
 dsimp only
 have g:(nh w s).map m_=((nh w s).map λh:Nat=>(h:Int)).map D.int:=by rw[QPq];rfl
 refine⟨_,_,rfl,by rw[g];exact eW _,?_⟩
 rw[jK,Qeq (Qkq.mpr ⟨h,i,rfl⟩)]
 apply aW (λc=>by cases c) (λ_=>cz ?_)
 refine a _ _ ?_
 exact bW (λk z=>(nomatch z)) (tO _ _ _) q
end
structure j6(n:Nat)(r:Rm)(rs:gf):Prop where
 lv:r.ao.length=rs.vals.length
 lb:r.aa.length=rs.aa.length
 vv:∀v∈rs.vals,0<=v/\v<=9
 br:rs.row.length<=n
 bl:rs.ag.length<=n
 bb:∀l∈rs.aa,l.length<=n
structure GK(w:c7)(h:Nat)(f:dg):Prop where
 pr:∃pr,progOf w h f=some pr/\0<=f.row/\f.row<=pr.length
 gv:0<=f.given/\f.given<=9
 tv:0<=f.told/\f.told<=9
def Os(w:c7)(h:Nat)(f:dg):Prop:=∃a g c b t,progOf w h f=some a/\1<=f.row/\a[(f.row-1).toNat]?=some (.do_ g c b t)
def j8:List dg->Prop
 | []=>False
 |f0::tl=>f0.room= -1/\∀f∈tl,f.room≠-1
structure kd(w:c7)(n h:Nat)(ts:List (Str×Nat))(vs:List Int)(fs:List dg):Prop where
 lv:ts.length=vs.length
 vv:∀v∈vs,0<=v/\v<=9
 lf:fs.length<=n
 fr:∀f∈fs,GK w h f
 hd:j8 fs
 ch:∀f∈fs.dropLast,Os w h f
structure dE(w:c7)(n:Nat)(s:bG):Prop where
 lr:w.aj.length=s.aj.length
 rm:∀(i:Nat) (r:Rm) (rs:gf),w.aj[i]?=some r->s.aj[i]?=some rs->j6 n r rs
 lp:w.ai.length=s.ai.length
 ps:∀p∈s.ai,p.2.length<=n
 ls:w.ak.length=s.ak.length
 sv:∀v∈s.ak,0<=v/\v<=9
 lh:w.af.length=s.af.length
 hd:∀(h:Nat) (ts:List (Str×Nat)) (pr:List Rw) (vs:List Int) (fs:List dg),w.af[h]?=some (ts,pr)->s.af[h]?=some (vs,fs)->kd w n h ts vs fs
def j6.mono{n m:Nat}{r:Rm}{rs:gf}(h:j6 n r rs)(l:n<=m):j6 m r rs:=⟨h.lv,h.lb,h.vv,QAq h.br l,QAq h.bl l,λx a=>QAq (h.bb x a) l⟩
def kd.mono{w:c7}{n m h:Nat}{ts:List (Str×Nat)}{vs:List Int}{fs:List dg}(x:kd w n h ts vs fs)(l:n<=m):kd w m h ts vs fs:=⟨x.lv,x.vv,QAq x.lf l,x.fr,x.hd,x.ch⟩
def dE.mono{w:c7}{n m:Nat}{s:bG}(x:dE w n s)(l:n<=m):dE w m s:=⟨x.lr,λi r f a b=>(x.rm i r f a b).mono l,x.lp,λp c=>QAq (x.ps p c) l,x.ls,x.sv,x.lh,λh g d j e a b=>(x.hd h g d j e a b).mono l⟩
def get_set{α:Type}{l:List α}{i j:Nat}{a b:α}(h:(l.set i a)[j]?=some b):(j=i/\b=a)\/(j≠i/\l[j]?=some b):=by
 rw[List.getElem?_set] at h
 split at h
 ·rename_i c
  split at h
  ·cases h;exact .inl ⟨c.symm,rfl⟩
  ·cases h
 ·rename_i c
  exact .inr ⟨λz=>c z.symm,h⟩
def dE.room{w:c7}{n i:Nat}{s:bG}{r:Rm}{d:gf}(x:dE w n s)(f:w.aj[i]?=some r)(e:j6 n r d):dE w n {s with aj:=s.aj.set i d} where
 lr:=by simpa using x.lr
 rm:=λj g b a c=>by
  rcases get_set c with⟨rfl,rfl⟩|⟨_,c⟩
  ·rw[f] at a;cases a;exact e
  ·exact x.rm j g b a c
 lp:=x.lp
 ps:=x.ps
 ls:=x.ls
 sv:=x.sv
 lh:=x.lh
 hd:=x.hd
def dE.pass{w:c7}{n i:Nat}{s:bG}{p:Int×List Int}(x:dE w n s)(b:p.2.length<=n):dE w n {s with ai:=s.ai.set i p} where
 lr:=x.lr
 rm:=x.rm
 lp:=by simpa using x.lp
 ps:=λq a=>by
  rcases QTq a with a|rfl
  ·exact x.ps q a
  ·exact b
 ls:=x.ls
 sv:=x.sv
 lh:=x.lh
 hd:=x.hd
def dE.share{w:c7}{n:Nat}{s:bG}{vs:List Int}(x:dE w n s)(a:vs.length=s.ak.length)(b:∀v∈vs,0<=v/\v<=9):dE w n {s with ak:=vs}:=⟨x.lr,x.rm,x.lp,x.ps,by rw[x.ls,←a],b,x.lh,x.hd⟩
def dE.hand{w:c7}{n h:Nat}{s:bG}{ts:List (Str×Nat)}{pr:List Rw}{vs:List Int}{fs:List dg}(x:dE w n s)(i:w.af[h]?=some (ts,pr))(k:kd w n h ts vs fs):dE w n {s with af:=s.af.set h (vs,fs)} where
 lr:=x.lr
 rm:=x.rm
 lp:=x.lp
 ps:=x.ps
 ls:=x.ls
 sv:=x.sv
 lh:=by simpa using x.lh
 hd:=λj g d c a f b=>by
  rcases get_set b with⟨rfl,e⟩|⟨_,b⟩
  ·rw[i] at f;cases f;cases e;exact k
  ·exact x.hd j g d c a f b
def oV{α:Type}{l:List α}{a:α}(h:l.getLast? =some a):l=l.dropLast++ [a]:=by
 cases l with
 |nil=>cases h
 | cons x y=>
   have b:x::y≠[]:=by simp
   rw[List.getLast?_eq_some_getLast b] at h
   cases h
   exact(List.dropLast_concat_getLast b).symm
def j8.last{fs:List dg}{f f':dg}:∀{b:List dg},j8 (b++ [f])->f'.room=f.room->j8 (b++ [f'])
 | [],h,e=>⟨by rw[e];exact h.1,λ_ z=>by cases z⟩
 | a::l,h,e=>⟨h.1,λx c=>by
   rcases mQa.mp c with c|c
   · exact h.2 x (mQa.mpr (.inl c))
   · rw[Qfq.mp c,e];exact h.2 f (mQa.mpr (.inr (Qfq.mpr rfl)))⟩
def j8.push{f':dg}:∀{fs:List dg},j8 fs->f'.room≠-1->j8 (fs++ [f'])
 | [],h,_=>h.elim
 | a::l,h,e=>⟨h.1,λx b=>by
   rcases mQa.mp b with b|b
   · exact h.2 x b
   · rw[Qfq.mp b];exact e⟩
def j8.pop{c f:dg}:∀{d:List dg},j8 (d++ [c,f])->j8 (d++ [c])
 | [],h=>⟨h.1,λ_ z=>by cases z⟩
 | a::l,h=>⟨h.1,λx b=>h.2 x (by
   rcases mQa.mp b with b|b
   · exact mQa.mpr (.inl b)
   · exact mQa.mpr (.inr (by rw[Qfq.mp b];simp)))⟩
def j8.two{f:dg}:∀{b:List dg},j8 (b++ [f])->f.room≠-1->∃d c,b=d++ [c]
 | [],h,e=>absurd h.1 e
 |a::l,h,e=>⟨(a::l).dropLast,(a::l).getLast (by simp),(List.dropLast_concat_getLast (by simp)).symm⟩
section
variable{w:c7}{n h:Nat}{ts:List (Str×Nat)}{vs:List Int}{fs:List dg}{f f' f2:dg}
def kd.setLast(x:kd w n h ts vs fs)(d:fs.getLast? =some f)(e:f'.room=f.room)(i:GK w h f'):kd w n h ts vs (fs.dropLast++ [f']):=by
 have c:=oV d
 have b:=x.hd
 rw[c] at b
 refine⟨x.lv,x.vv,?_,λg a=> ?_,j8.last (fs:=fs) b e,λg a=> ?_⟩
 ·have:=congrArg List.length c
  have:=x.lf
  simp only[lQa,Qnq,QGq] at *
  omega
 ·rcases mQa.mp a with a|a
  ·exact x.fr g (List.dropLast_subset _ a)
  ·rw[Qfq.mp a];exact i
 ·rw[List.dropLast_concat] at a
  exact x.ch g a
def kd.push(x:kd w n h ts vs fs)(b:fs.getLast? =some f)(d:Os w h f)(e:f'.room≠-1)(i:GK w h f'):kd w (n+1) h ts vs (fs++ [f']):=by
 refine⟨x.lv,x.vv,?_,λg a=> ?_,x.hd.push e,λg a=> ?_⟩
 ·have:=x.lf
  simp only[lQa,Qnq,QGq]
  omega
 ·rcases mQa.mp a with a|a
  ·exact x.fr g a
  ·rw[Qfq.mp a];exact i
 ·rw[List.dropLast_concat,oV b] at a
  rcases mQa.mp a with a|a
  ·exact x.ch g a
  ·rw[Qfq.mp a];exact d
def kd.pop{b:List dg}(x:kd w n h ts vs (b++ [f2,f])):kd w n h ts vs (b++ [f2])/\Os w h f2:=by
 have e:(b++ [f2,f]).dropLast=b++ [f2]:=by rw[show b++ [f2,f]=(b++ [f2])++ [f] by simp,List.dropLast_concat]
 have c:=x.ch
 rw[e] at c
 refine⟨⟨x.lv,x.vv,?_,λg a=>x.fr g ?_,x.hd.pop,λg a=>c g ?_⟩,c f2 (by simp)⟩
 ·have:=x.lf
  simp only[lQa,Qnq,QGq] at *
  omega
 ·rcases mQa.mp a with a|a
  ·exact mQa.mpr (.inl a)
  ·exact mQa.mpr (.inr (by rw[Qfq.mp a];simp))
 ·rw[List.dropLast_concat] at a
  exact mQa.mpr (.inl a)
def kd.vals{a:List Int}(x:kd w n h ts vs fs)(b:a.length=vs.length)(c:∀v∈a,0<=v/\v<=9):kd w n h ts a fs:=⟨by rw[x.lv,b],c,x.lf,x.fr,x.hd,x.ch⟩
def kd.last(x:kd w n h ts vs fs):∃f,fs.getLast? =some f/\GK w h f:=by
 have:=x.hd
 cases fs with
 |nil=>exact this.elim
 | cons a l=>
   refine⟨_,List.getLast?_eq_some_getLast (by simp),x.fr _ (List.getLast_mem (by simp))⟩
end
def lD{w:c7}{h:Nat}{f:dg}{pr:List Rw}(a:progOf w h f=some pr):(f.room= -1/\∃ts,w.af[h]?=some (ts,pr))\/∃(i j:Nat) (r:Rm) (e:Str),f.room=i/\f.deed=j/\w.aj[i]?=some r/\r.ae[j]?=some (e,pr):=by
 unfold progOf at a
 split at a
 ·rename_i c
  obtain⟨⟨ts,d⟩,b,g⟩:=oQm.mp a
  cases g
  exact .inl ⟨c,ts,b⟩
 ·split at a
  ·rename_i c
   obtain⟨r,b,g⟩:=aw a
   obtain⟨⟨e,d⟩,l,k⟩:=oQm.mp g
   cases k
   exact .inr ⟨f.room.toNat,f.deed.toNat,r,e,by omega,by omega,b,l⟩
  ·cases a
def FN{w:c7}{h i j:Nat}{f:dg}{r:Rm}{d:Str}{pr:List Rw}(b:f.room=i)(e:f.deed=j)(c:w.aj[i]?=some r)(a:r.ae[j]?=some (d,pr)):progOf w h f=some pr:=by
 unfold progOf
 rw[Quq (by omega),Qhq ⟨by omega,by omega⟩,b,e]
 show(w.aj[i]?).bind _=_
 rw[c]
 show(r.ae[j]?).map _=_
 rw[a]
 rfl
noncomputable def Er(w:c7)(h:Nat)(f:dg):Option Sc:=if f.room= -1 then(w.af[h]?).map λp=>⟨true,p.1.map (·.1)++w.ak.map (·.1),p.1.map (·.1)++w.ak.map (·.1),[],aX w.aj,w.ai.map (·.1)⟩
 else(w.aj[f.room.toNat]?).map λr=>⟨false,r.ao.map (·.1)++ft,r.ao.map (·.1),r.aa.map (·.1),aX w.aj,[]⟩
def HQ{w:c7}{h:Nat}{f:dg}{pr:List Rw}(o:fJ w)(d:progOf w h f=some pr):∃sc,Er w h f=some sc/\lK sc pr:=by
 unfold Er
 rcases lD d with⟨c,g,a⟩|⟨i,j,r,k,a,l,b,e⟩
 ·rw[Qhq c,a]
  exact⟨_,rfl,(o.hd _ (mQg a)).pr⟩
 ·rw[Quq (by omega),a]
  refine⟨_,by rw[show((i:Int)).toNat=i by omega,b];rfl,((o.rm _ (mQg b)).pr _ (mQg e)).1⟩
def xH{w:c7}(o:fJ w):dE w 1 (eC w) where
 lr:=by simp[eC]
 rm:=λi r q c d=>by
  simp only[eC,gQm,c,Option.map_some,Option.some.injEq] at d
  subst d
  have g:=o.rm r (mQg c)
  refine⟨by simp[fu,fo],by simp[fu],λv b=> ?_,by simp[fu],by simp[fu],λl j=> ?_⟩
  ·simp only[fu,fo,Qkq] at b
   obtain⟨p,a,rfl⟩:=b
   have:=g.tv p a
   omega
  ·simp only[fu,Qkq] at j
   obtain⟨p,a,rfl⟩:=j
   simp
 lp:=by simp[eC]
 ps:=λp a=>by
  simp only[eC,Qkq] at a
  obtain⟨p,a,rfl⟩:=a
  simp
 ls:=by simp[eC,fo]
 sv:=λv b=>by
  simp only[eC,fo,Qkq] at b
  obtain⟨p,a,rfl⟩:=b
  have:=o.sv p a
  omega
 lh:=by simp[eC]
 hd:=λh m k s n c d=>by
  simp only[eC,gQm,c,Option.map_some,Option.some.injEq] at d
  cases d
  have g:=o.hd _ (mQg c)
  refine⟨by simp[fo],λv b=> ?_,by simp,λf e=> ?_,⟨rfl,λ_ z=>by cases z⟩,λf e=>by cases e⟩
  ·simp only[fo,Qkq] at b
   obtain⟨p,a,rfl⟩:=b
   have:=g.tv p a
   omega
  ·rw[Qfq.mp e]
   refine⟨⟨k,?_,by decide,?_⟩,by decide,by decide⟩
   ·unfold progOf
    rw[Qhq (show ET.room= -1 from rfl),c]
    rfl
   ·show(0:Int)<=_
    omega
noncomputable def FQ(s:bG)(h:Nat):List Int×List dg:=(s.af[h]?).getD ([],[])
noncomputable def Gw(w:c7)(h:Nat):List (Str×Nat)×List Rw:=(w.af[h]?).getD ([],[])
noncomputable def jv(s:bG)(h:Nat):dg:=((FQ s h).2.getLast?).getD ET
noncomputable def t7(w:c7)(i:Nat):Rm:=(w.aj[i]?).getD ⟨"","",[],[],[]⟩
noncomputable def Dj(s:bG)(i:Nat):gf:=(s.aj[i]?).getD ⟨[],0,[],[],[]⟩
noncomputable def J4(s:bG)(k:Nat):Int×List Int:=(s.ai[k]?).getD (0,[])
noncomputable def FL(s:bG)(h:Nat)(f:dg):bG:={s with af:=s.af.set h ((FQ s h).1,(FQ s h).2.dropLast++ [f])}
noncomputable def sZ(s:bG)(i:Nat)(r:gf):bG:={s with aj:=s.aj.set i r}
noncomputable def Ba(s:bG)(k:Nat)(p:Int×List Int):bG:={s with ai:=s.ai.set k p}
noncomputable def gJ(w:c7)(s:bG)(h:Nat)(t:Tr):Int:=
 if (jv s h).room= -1 then u4 (numAt (AQ w s (Gw w h).1 (FQ s h).1)) (λ_=>0) t
 else u4 (numAt (sI (t7 w (jv s h).room.toNat) (Dj s (jv s h).room.toNat) (jv s h).given)) (uR (t7 w (jv s h).room.toNat) (Dj s (jv s h).room.toNat)) t
noncomputable def sQ(w:c7)(s:bG)(h:Nat)(x:Str)(v:Int):bG:=
 if (jv s h).room= -1 then rD w s h (Gw w h).1 (FQ s h).1 (FQ s h).2 x v
 else sZ s (jv s h).room.toNat {Dj s (jv s h).room.toNat with vals:=dY ((t7 w (jv s h).room.toNat).ao.map (·.1)) (Dj s (jv s h).room.toNat).vals x v}
noncomputable def FV(r:Rm)(rs:gf)(b:Str)(v:Int)(h:Nat):gf:=
 gd {rs with aa:=rs.aa.set (eA (r.aa.map (·.1)) b) (Fy ((rs.aa[eA (r.aa.map (·.1)) b]?).getD []) (if ((r.aa[eA (r.aa.map (·.1)) b]?).getD ("","")).2="turns" then v else 0) h)}
noncomputable def kG(w:c7)(s:bG)(h:Nat):Rw->bG
 |.put x t=>sQ w s h x (gJ w s h t)
 |.unl t n=>if gJ w s h t=0 then FL s h {jv s h with row:=n} else s
 |.go n=>FL s h {jv s h with row:=n}
 |.do_ _ a c t=>sZ {s with af:=s.af.set h ((FQ s h).1,(FQ s h).2++ [⟨(eA (w.aj.map (·.name)) a:Nat),(eA ((t7 w (eA (w.aj.map (·.name)) a)).ae.map (·.1)) c:Nat),0,gJ w s h t,0⟩])} (eA (w.aj.map (·.name)) a) (lX (Dj s (eA (w.aj.map (·.name)) a)) h)
 |.wait b t=>sZ s (jv s h).room.toNat (FV (t7 w (jv s h).room.toNat) (Dj s (jv s h).room.toNat) b (gJ w s h t) h)
 |.call b=>sZ s (jv s h).room.toNat (ud (decide ((t7 w (jv s h).room.toNat).ah="when free")) (Dj s (jv s h).room.toNat) (eA ((t7 w (jv s h).room.toNat).aa.map (·.1)) b) h)
 |.all b=>sZ s (jv s h).room.toNat {Dj s (jv s h).room.toNat with aa:=(Dj s (jv s h).room.toNat).aa.set (eA ((t7 w (jv s h).room.toNat).aa.map (·.1)) b) []}
 |.tell t=>FL s h {jv s h with told:=gJ w s h t}
 |.take p=>Ba s (eA (w.ai.map (·.1)) p) (j0 (J4 s (eA (w.ai.map (·.1)) p)) h)
 |.give p=>Ba s (eA (w.ai.map (·.1)) p) (iG (J4 s (eA (w.ai.map (·.1)) p)))
 |.pass p q=>Ba (Ba s (eA (w.ai.map (·.1)) p) (iG (J4 s (eA (w.ai.map (·.1)) p)))) (eA (w.ai.map (·.1)) q) (j0 (J4 (Ba s (eA (w.ai.map (·.1)) p) (iG (J4 s (eA (w.ai.map (·.1)) p)))) (eA (w.ai.map (·.1)) q)) h)
 |.say _=>s
noncomputable def Ai(s:bG)(h:Nat):bG:=sZ {s with af:=s.af.set h ((FQ s h).1,(FQ s h).2.dropLast)} (jv s h).room.toNat (gd (Dj s (jv s h).room.toNat))
noncomputable def CG(w:c7)(s:bG)(h:Nat):Option Rw:=(progOf w h (jv s h)).bind λa=>a[((jv s h).row-1).toNat]?
noncomputable def zj(w:c7)(s:bG)(h:Nat):bG:=match CG w (Ai s h) h with
 |some (.do_ (some x) _ _ _)=>sQ w (Ai s h) h x (jv s h).told
 |_=>Ai s h
noncomputable def Hf(s:bG)(h:Nat):bG:=FL s h {jv s h with row:=(jv s h).row+1}
noncomputable def Ff(w:c7)(s:bG)(h:Nat):Rw->Option Int
 |.say t=>some (gJ w s h t)
 |_=>none
noncomputable def iT(w:c7)(s:bG)(h:Nat):bG×Option Int:=
 if (jv s h).room≠-1/\(Dj s (jv s h).room.toNat).within≠h then(sZ s (jv s h).room.toNat (lX (Dj s (jv s h).room.toNat) h),none)
 else match progOf w h (jv s h) with
  |none=>(s,none)
  | some a=>if (jv s h).row=a.length then(zj w s h,none) else match a[(jv s h).row.toNat]? with
    |none=>(s,none)
    |some r=>(kG w (Hf s h) h r,Ff w s h r)
section
variable{w:c7}{h:Nat}{s:bG}{vs:List Int}{fs:List dg}{f:dg}
def rH(a:s.af[h]?=some (vs,fs)):FQ s h=(vs,fs):=by unfold FQ;rw[a];rfl
def oa(a:s.af[h]?=some (vs,fs))(b:fs.getLast? =some f):jv s h=f:=by unfold jv;rw[rH a];show(fs.getLast?).getD _=f;rw[b];rfl
def G5{p:List (Str×Nat)×List Rw}(a:w.af[h]?=some p):Gw w h=p:=by unfold Gw;rw[a];rfl
def qI{i:Nat}{r:Rm}(a:w.aj[i]?=some r):t7 w i=r:=by unfold t7;rw[a];rfl
def jU{i:Nat}{r:gf}(a:s.aj[i]?=some r):Dj s i=r:=by unfold Dj;rw[a];rfl
def y8{i:Nat}{p:Int×List Int}(a:s.ai[i]?=some p):J4 s i=p:=by unfold J4;rw[a];rfl
def pP{g:dg}(a:s.af[h]?=some (vs,fs)):FL s h g={s with af:=s.af.set h (vs,fs.dropLast++ [g])}:=by unfold FL;rw[rH a]
end
section
variable{w:c7}{n h:Nat}{s:bG}{vs:List Int}{fs:List dg}{f:dg}{sc:Sc}
def dE.whand(x:dE w n s)(b:s.af[h]?=some (vs,fs)):∃ts pr,w.af[h]?=some (ts,pr)/\kd w n h ts vs fs:=by
 have a:h<w.af.length:=by rw[x.lh];exact(gQs.mp b).1
 exact⟨_,_,gQe a,x.hd h _ _ vs fs (gQe a) b⟩
def dE.wroom{i:Nat}{r:Rm}(x:dE w n s)(b:w.aj[i]?=some r):∃rs,s.aj[i]?=some rs/\j6 n r rs:=by
 have a:i<s.aj.length:=by rw[←x.lr];exact(gQs.mp b).1
 exact⟨_,gQe a,x.rm i r _ b (gQe a)⟩
def lR{t:Sc}(a:Er w h f=some t):(f.room= -1/\∃ts pr,w.af[h]?=some (ts,pr)/\t=⟨true,ts.map (·.1)++w.ak.map (·.1),ts.map (·.1)++w.ak.map (·.1),[],aX w.aj,w.ai.map (·.1)⟩)∨
  (f.room≠-1/\∃r,w.aj[f.room.toNat]?=some r/\t=⟨false,r.ao.map (·.1)++ft,r.ao.map (·.1),r.aa.map (·.1),aX w.aj,[]⟩):=by
 unfold Er at a
 split at a
 ·rename_i c
  obtain⟨⟨ts,pr⟩,b,d⟩:=oQm.mp a
  exact .inl ⟨c,ts,pr,b,d.symm⟩
 ·rename_i c
  obtain⟨r,b,d⟩:=oQm.mp a
  exact .inr ⟨c,r,b,d.symm⟩
def qT(x:GK w h f)(c:f.room≠-1):f.room=(f.room.toNat:Int):=by
 obtain⟨e,a,_⟩:=x.pr
 rcases lD a with⟨b,_⟩|⟨i,_,_,_,d,_⟩
 ·exact absurd b c
 ·omega
def mU{t:Tr}(o:fJ w)(x:dE w n s)(d:s.af[h]?=some (vs,fs))(i:fs.getLast? =some f)(v:Er w h f=some sc)(ht:B3 sc t):(0<=gJ w s h t/\gJ w s h t<=9)/\Ck w s h t (gJ w s h t):=by
 obtain⟨u,L,p,k⟩:=x.whand d
 have G:=o.hd _ (mQg p)
 have m:=k.fr f (QcQ i)
 have J:=o.l3
 have C:=G.l1
 have B:=x.ls
 rcases lR v with⟨c,F,H,e,rfl⟩|⟨c,r,hr,rfl⟩
 ·rw[p] at e
  cases e
  have b:mG (AQ w s u vs):=mG.merge (i8 x.sv) (i8 k.vv)
  have z:gJ w s h t=u4 (numAt (AQ w s u vs)) (λ_=>0) t:=by unfold gJ;rw[oa d i,Qhq c,G5 p,rH d]
  rw[z]
  refine⟨?_,λS Q q=>yJ p d i c B k.lv (by omega) (by dsimp only at C;omega) x.sv k.vv ht.1 (by have:=ht.2;omega) q⟩
  refine mX (ws:=u.map (·.1)++w.ak.map (·.1)) (bs:= []) (λy a=> ?_) ht.1
  refine(pJ b (iA ?_)).2
  rcases mQa.mp a with a|a
  ·exact .inr (jf k.lv a)
  ·exact .inl (jf B a)
 ·obtain⟨A,j,g⟩:=x.wroom hr
  have l:=o.rm r (mQg hr)
  have I:=l.l1
  have K:=l.l2
  have b:mG (sI r A f.given):=(i8 g.vv).put m.gv.1 m.gv.2
  have z:gJ w s h t=u4 (numAt (sI r A f.given)) (uR r A) t:=by unfold gJ;rw[oa d i,Quq c,qI hr,jU j]
  rw[z]
  refine⟨?_,λS Q q=>wC d i (qT m c) hr j g.lv g.lb (by omega) (by omega) g.vv m.gv ht.1 (by have:=ht.2;omega) q⟩
  refine mX (ws:=r.ao.map (·.1)++ft) (bs:=r.aa.map (·.1)) (λy a=> ?_) ht.1
  refine(pJ b (mV ?_)).2
  rcases mQa.mp a with a|a
  ·exact .inr (jf g.lv a)
  ·left
   rw[Qfq.mp a]
def ow{ns:List Str}{y:Str}{v:Int}{a:List Int}(c:∀v∈a,0<=v/\v<=9)(d:0<=v/\v<=9):(dY ns a y v).length=a.length/\∀u∈dY ns a y v,0<=u/\u<=9:=by
 unfold dY
 refine⟨by simp,λz b=> ?_⟩
 rcases QTq b with b|rfl
 ·exact c z b
 ·exact d
def El{y:Str}{v:Int}(o:fJ w)(x:dE w n s)(b:s.af[h]?=some (vs,fs))(j:fs.getLast? =some f)(p:Er w h f=some sc)(A:y∈sc.ps)(m:0<=v/\v<=9):Puts w s h y v (sQ w s h y v)/\dE w n (sQ w s h y v):=by
 obtain⟨z,N,i,l⟩:=x.whand b
 have H:=o.hd _ (mQg i)
 have F:=l.fr f (QcQ j)
 have M:=o.l1
 have L:=o.l3
 have C:=H.l1
 have J:=o.l4
 have R:=x.lr
 have P:=x.lh
 rcases lR p with⟨c,G,I,d,rfl⟩|⟨c,r,hr,rfl⟩
 ·rw[i] at d
  cases d
  have t:sQ w s h y v=rD w s h z vs fs y v:=by unfold sQ;rw[oa b j,Qhq c,G5 i,rH b]
  rw[t]
  refine⟨λS Q q=>Jz i b j c x.ls l.lv (by omega) (by dsimp only at C;omega) (by omega) A q,?_⟩
  unfold rD
  split
  ·obtain⟨g,e⟩:=ow (ns:=w.ak.map (·.1)) (y:=y) x.sv m
   exact x.share g e
  ·obtain⟨g,e⟩:=ow (ns:=z.map (·.1)) (y:=y) l.vv m
   exact x.hand i (l.vals g e)
 ·obtain⟨B,k,a⟩:=x.wroom hr
  have u:=o.rm r (mQg hr)
  have K:=u.l1
  have t:sQ w s h y v={s with aj:=s.aj.set f.room.toNat {B with vals:=dY (r.ao.map (·.1)) B.vals y v}}:=by unfold sQ;rw[oa b j,Quq c,qI hr,jU k];rfl
  rw[t]
  refine⟨λS Q q=>FX b j (qT F c) hr k a.lv (by omega) (by omega) A q,?_⟩
  obtain⟨g,e⟩:=ow (ns:=r.ao.map (·.1)) (y:=y) a.vv m
  exact x.room hr ⟨by rw[a.lv,←g],a.lb,e,a.br,a.bl,a.bb⟩
def dE.goes{m:Int}{pr:List Rw}(x:dE w n s)(g:s.af[h]?=some (vs,fs))(b:fs.getLast? =some f)(d:progOf w h f=some pr)(k:0<=m)(e:m<=pr.length):dE w n {s with af:=s.af.set h (vs,fs.dropLast++ [{f with row:=m}])}:=by
 obtain⟨l,j,i,c⟩:=x.whand g
 have a:=c.fr f (QcQ b)
 exact x.hand i (c.setLast b rfl ⟨⟨pr,d,k,e⟩,a.gv,a.tv⟩)
def dE.tells{v:Int}(x:dE w n s)(d:s.af[h]?=some (vs,fs))(b:fs.getLast? =some f)(g:0<=v/\v<=9):dE w n {s with af:=s.af.set h (vs,fs.dropLast++ [{f with told:=v}])}:=by
 obtain⟨j,i,e,c⟩:=x.whand d
 have a:=c.fr f (QcQ b)
 exact x.hand e (c.setLast b rfl ⟨a.pr,a.gv,g⟩)
def j6.come{r:Rm}{rs:gf}{k:Int}(x:j6 n r rs):j6 (n+1) r (lX rs k):=by
 unfold lX
 have:=x.br
 split
 ·exact⟨x.lv,x.lb,x.vv,by show rs.row.length<=_;omega,Nat.le_succ_of_le x.bl,λl a=>Nat.le_succ_of_le (x.bb l a)⟩
 ·exact⟨x.lv,x.lb,x.vv,by simp;omega,Nat.le_succ_of_le x.bl,λl a=>Nat.le_succ_of_le (x.bb l a)⟩
def j6.leave{r:Rm}{rs:gf}(x:j6 n r rs):j6 n r (gd rs):=by
 obtain⟨e,b,c,i,j⟩:=rs
 have d:=x.br
 have g:=x.bl
 unfold gd
 dsimp only at d g⊢
 cases i with
 |cons a l=>exact⟨x.lv,x.lb,x.vv,x.br,by simp at g;show l.length<=n;omega,x.bb⟩
 | nil=>
   cases c with
   |cons a l=>exact⟨x.lv,x.lb,x.vv,by simp at d;show l.length<=n;omega,x.bl,x.bb⟩
   |nil=>exact⟨x.lv,x.lb,x.vv,x.br,x.bl,x.bb⟩
def j6.line{r:Rm}{rs:gf}{b:Nat}{l:List (Int×Int)}(x:j6 n r rs)(c:l.length<=n):j6 n r {rs with aa:=rs.aa.set b l}:=⟨x.lv,by simp;exact x.lb,x.vv,x.br,x.bl,λk a=>by
 rcases QTq a with a|rfl
 ·exact x.bb k a
 ·exact c⟩
def j6.call{r:Rm}{rs:gf}{b:Nat}{k:Int}{c:Bool}(x:j6 n r rs):j6 (n+1) r (ud c rs b k):=by
 unfold ud
 split
 ·rename_i p l e
  have a:=x.bb _ (mQg e)
  have y:=(x.mono (Nat.le_succ n)).line (b:=b) (l:=l) (by simp at a;omega)
  have z:=x.bl
  split
  ·exact y
  ·exact⟨y.lv,y.lb,y.vv,y.br,by simp;omega,y.bb⟩
 ·exact x.mono (Nat.le_succ n)
def HU{l:List (Int×Int)}{a b:Int}:(Fy l a b).length=l.length+1:=by
 unfold Fy
 have:=List.length_filter_le (λp:Int×Int=>decide (p.1<=a)) l
 simp only[lQa,Qxq,List.length_drop,Qnq,QGq]
 omega
def Jw{a g:Str}(o:fJ w)(d:(a,g)∈aX w.aj):a∈w.aj.map (·.name)/\∃r,w.aj[eA (w.aj.map (·.name)) a]?=some r/\g∈r.ae.map (·.1):=by
 unfold aX at d
 obtain⟨r,b,l⟩:=QOq.mp d
 obtain⟨p,m,e⟩:=Qkq.mp l
 cases e
 have j:r.name∈w.aj.map (·.name):=Qkq.mpr ⟨r,b,rfl⟩
 refine⟨j,r,?_,Qkq.mpr ⟨p,m,rfl⟩⟩
 obtain⟨t,k⟩:=oK j
 obtain⟨i,c,e⟩:=QbQ b
 have q:(w.aj.map (·.name))[i]?=some r.name:=by rw[gQm,gQe c,e];rfl
 rw[mv o.nd k q,gQe c,e]
def Dq{r:Rw}{pr:List Rw}(o:fJ w)(x:dE w n s)(hn:n<=100)(A:s.af[h]?=some (vs,fs))(G:fs.getLast? =some f)(hp:progOf w h f=some pr)(h1:1<=f.row)(X:pr[(f.row-1).toNat]?=some r):Kj w s h r (kG w s h r)/\dE w (n+1) (kG w s h r):=by
 have e1:=rH A
 have e2:=oa A G
 obtain⟨sc,C,a8⟩:=HQ o hp
 have b:=a8 r (mQg X)
 obtain⟨ts,a1,hw,hi⟩:=x.whand A
 have fi:=hi.fr f (QcQ G)
 have b1:=o.l1
 have b2:=o.l2
 have b3:=o.l3
 have b4:=o.l4
 have lr:=x.lr
 have lp:=x.lp
 have lh:=x.lh
 have lf:=hi.lf
 have N:=x.mono (Nat.le_succ n)
 have B:sc.own=false->∃(i:Nat) (r:Rm) (K:gf),f.room=i/\w.aj[i]?=some r/\s.aj[i]?=some K/\j6 n r K/\yy (aX w.aj) r/\sc.bs=r.aa.map (·.1):=λho=>by
  rcases lR C with⟨c,a7,a1,a3,rfl⟩|⟨c,r,H,rfl⟩
  ·cases ho
  ·obtain⟨K,e,I⟩:=x.wroom H
   exact⟨_,r,K,qT fi c,H,e,I,o.rm r (mQg H),rfl⟩
 have L:sc.own=true->sc.ts=w.ai.map (·.1):=λho=>by
  rcases lR C with⟨c,a7,a1,a3,rfl⟩|⟨c,r,H,rfl⟩
  ·rfl
  ·cases ho
 have k:∀y,y∈w.ai.map (·.1)->∀ps:List (Int×List Int),w.ai.length=ps.length->∃p,ps[eA (w.ai.map (·.1)) y]?=some p:=λy u ps hl=>by
  have:=(oK u).1
  rw[lQm] at this
  exact⟨_,gQe (by omega)⟩
 have U:∀p:Int×List Int,p.2.length<=n->(j0 p h).2.length<=n+1:=λp hp=>by
  unfold j0
  split
  ·show p.2.length<=_;omega
  ·simp;omega
 have P:∀p:Int×List Int,p.2.length<=n->(iG p).2.length<=n:=λp hp=>by
  obtain⟨v,l⟩:=p
  unfold iG
  cases l with
  |nil=>simp
  |cons a l=>simp at hp;show l.length<=n;omega
 cases r with
 | put y t=>
   obtain⟨hv,H⟩:=mU o x A G C b.2
   obtain⟨j,c1⟩:=El o x A G C b.1 hv
   exact⟨λS Q q=>EV H j q,c1.mono (Nat.le_succ n)⟩
 | unl t m=>
   obtain⟨hv,H⟩:=mU o x A G C b.1
   have F:kG w s h (.unl t m)=if gJ w s h t=0 then{s with af:=s.af.set h (vs,fs.dropLast++ [{f with row:=m}])} else s:=by simp only[kG,e2,pP A]
   rw[F]
   refine⟨λS Q q=>zt H A G (by omega) (by omega) q,?_⟩
   split
   · exact N.goes A G hp (by omega) (by have:=b.2;omega)
   · exact N
 | go m=>
   have F:kG w s h (.go m)={s with af:=s.af.set h (vs,fs.dropLast++ [{f with row:=m}])}:=by simp only[kG,e2,pP A]
   rw[F]
   exact⟨λS Q q=>G8 A G (by omega) (by omega) q,N.goes A G hp (by omega) (by have:m<=pr.length:=b;omega)⟩
 | do_ g W Y t=>
   obtain⟨hv,H⟩:=mU o x A G C b.2.2
   have ev:kG w s h (.do_ g W Y t)=kG w s h (.do_ g W Y t):=rfl
   generalize b0:gJ w s h t=v at hv H
   have c2:sc.gs=aX w.aj:=by
     rcases lR C with⟨c,a7,a1,a3,rfl⟩|⟨c,r,H,rfl⟩ <;>rfl
   have a4:=b.2.1
   rw[c2] at a4
   obtain⟨c0,r,d,a6⟩:=Jw o a4
   obtain⟨K,e,I⟩:=x.wroom d
   have J:=o.rm r (mQg d)
   have b5:=J.l3
   have b6:=I.br
   have F:kG w s h (.do_ g W Y t)={s with af:=s.af.set h (vs,fs++ [⟨(eA (w.aj.map (·.name)) W:Nat),(eA (r.ae.map (·.1)) Y:Nat),0,v,0⟩]),aj:=s.aj.set (eA (w.aj.map (·.name)) W) (lX K h)}:=by simp only[kG,e1,qI d,jU e,b0,sZ]
   rw[F]
   refine⟨λS Q q=>GF H A c0 d e a6 (by omega) (by omega) (by omega) (by omega) (by omega) (by omega) q,?_⟩
   have a9:=oK a6
   have a2:=a9.1
   rw[lQm] at a2
   obtain⟨⟨c3,a5⟩,b9⟩:∃p,r.ae[eA (r.ae.map (·.1)) Y]?=some p:=⟨_,gQe a2⟩
   have pf:progOf w h ⟨(eA (w.aj.map (·.name)) W:Nat),(eA (r.ae.map (·.1)) Y:Nat),0,v,0⟩=some a5:=FN rfl rfl d b9
   have hh:=hi.push (f':=⟨(eA (w.aj.map (·.name)) W:Nat),(eA (r.ae.map (·.1)) Y:Nat),0,v,0⟩) G ⟨pr,g,W,Y,t,hp,h1,X⟩ (by show((eA (w.aj.map (·.name)) W:Nat):Int)≠-1;omega) ⟨⟨a5,pf,by show(0:Int)<=0;omega,by show(0:Int)<=_;omega⟩,hv,by show(0:Int)<=0/\(0:Int)<=9;omega⟩
   exact(N.hand hw hh).room d I.come
 | wait y t=>
   obtain⟨i,r,K,M,d,e,I,J,R⟩:=B b.1
   obtain⟨hv,H⟩:=mU o x A G C b.2.2
   have u:=b.2.1
   rw[R] at u
   have b6:=J.l2
   have lb:=I.lb
   obtain⟨k1,k2⟩:=oK u
   rw[lQm] at k1
   rw[gQm] at k2
   obtain⟨⟨y',so⟩,k3,k4⟩:=oQm.mp k2
   have k4:y'=y:=k4
   subst k4
   obtain⟨Z,hl⟩:∃l,K.aa[eA (r.aa.map (·.1)) y']?=some l:=⟨_,gQe (by omega)⟩
   have ll:=I.bb Z (mQg hl)
   have ti:f.room.toNat=i:=by omega
   have F:kG w s h (.wait y' t)={s with aj:=s.aj.set i (gd {K with aa:=K.aa.set (eA (r.aa.map (·.1)) y') (Fy Z (if so="turns" then gJ w s h t else 0) h)})}:=by simp only[kG,FV,sZ,e2,ti,qI d,jU e,hl,k3,Option.getD_some]
   rw[F]
   refine⟨λS Q q=>Cw A G M d e (by omega) lb (by omega) u k3 hl (by omega) H q,?_⟩
   exact N.room d (((I.mono (Nat.le_succ n)).line (by rw[HU];omega)).leave)
 | call y=>
   obtain⟨i,r,K,M,d,e,I,J,R⟩:=B b.1
   have u:=b.2
   rw[R] at u
   have b6:=J.l2
   have b7:=I.bl
   have ti:f.room.toNat=i:=by omega
   have F:kG w s h (.call y)={s with aj:=s.aj.set i (ud (decide (r.ah="when free")) K (eA (r.aa.map (·.1)) y) h)}:=by simp only[kG,sZ,e2,ti,qI d,jU e]
   rw[F]
   refine⟨λS Q q=>CO A G M d e (by omega) I.lb (by omega) (by omega) u q,?_⟩
   exact N.room d I.call
 | all y=>
   obtain⟨i,r,K,M,d,e,I,J,R⟩:=B b.1
   have u:=b.2
   rw[R] at u
   have b6:=J.l2
   have ti:f.room.toNat=i:=by omega
   have F:kG w s h (.all y)={s with aj:=s.aj.set i {K with aa:=K.aa.set (eA (r.aa.map (·.1)) y) []}}:=by simp only[kG,sZ,e2,ti,qI d,jU e]
   rw[F]
   refine⟨λS Q q=>EH A G M d e (by omega) I.lb (by omega) u q,?_⟩
   exact N.room d ((I.mono (Nat.le_succ n)).line (by simp))
 | tell t=>
   obtain⟨hv,H⟩:=mU o x A G C b.2
   have F:kG w s h (.tell t)={s with af:=s.af.set h (vs,fs.dropLast++ [{f with told:=gJ w s h t}])}:=by simp only[kG,e2,pP A]
   rw[F]
   exact⟨λS Q q=>B2 H A G (by omega) (by omega) q,N.tells A G hv⟩
 | take y=>
   have u:=b.2
   rw[L b.1] at u
   obtain⟨p,j⟩:=k y u s.ai lp
   have pl:=x.ps p (mQg j)
   have F:kG w s h (.take y)={s with ai:=s.ai.set (eA (w.ai.map (·.1)) y) (j0 p h)}:=by simp only[kG,Ba,y8 j]
   rw[F]
   exact⟨λS Q q=>Ct u j (by omega) (by omega) (by omega) q,N.pass (U p pl)⟩
 | give y=>
   have u:=b.2
   rw[L b.1] at u
   obtain⟨p,j⟩:=k y u s.ai lp
   have pl:=x.ps p (mQg j)
   have F:kG w s h (.give y)={s with ai:=s.ai.set (eA (w.ai.map (·.1)) y) (iG p)}:=by simp only[kG,Ba,y8 j]
   rw[F]
   exact⟨λS Q q=>CU u j (by omega) (by omega) q,N.pass (Nat.le_succ_of_le (P p pl))⟩
 | pass y z=>
   have u:=b.2.1
   have hz:=b.2.2
   rw[L b.1] at u hz
   obtain⟨p,j⟩:=k y u s.ai lp
   have pl:=x.ps p (mQg j)
   have x2:dE w n _:=x.pass (i:=eA (w.ai.map (·.1)) y) (P p pl)
   obtain⟨p2,a0⟩:=k z hz (s.ai.set (eA (w.ai.map (·.1)) y) (iG p)) (by simpa using lp)
   have b8:=x2.ps p2 (mQg a0)
   have F:kG w s h (.pass y z)={s with ai:=(s.ai.set (eA (w.ai.map (·.1)) y) (iG p)).set (eA (w.ai.map (·.1)) z) (j0 p2 h)}:=by
     have e3:J4 (Ba s (eA (w.ai.map (·.1)) y) (iG p)) (eA (w.ai.map (·.1)) z)=p2:=y8 a0
     simp only[kG,y8 j]
     rw[e3]
     rfl
   rw[F]
   refine⟨λS Q q=>B1 u hz j (by omega) (by omega) (by omega) a0 q,(x2.mono (Nat.le_succ n)).pass (U p2 b8)⟩
 |say t=>exact⟨λS Q q=>E4 (sd:=.non) q,N⟩
end
section
variable{w:c7}{n h:Nat}{s:bG}{vs:List Int}{fs:List dg}{f:dg}{sc:Sc}
def dE.mays(o:fJ w)(x:dE w n s)(l:n<=100):Gs w s:=by
 have A:=o.l1
 have F:=o.l2
 have y:=o.l4
 have G:=x.lr
 have z:=x.lp
 have C:=x.lh
 refine Ad (λS Q q=>qK l (by omega) (by omega) x.ps (λk g=> ?_) q) (λh m=> ?_) (by omega)
 ·obtain⟨i,d,e⟩:=QbQ g
  have a:s.aj[i]?=some k:=by rw[gQe d,e]
  have c:w.aj[i]?=some (w.aj[i]'(by omega)):=gQe (by omega)
  have b:=x.rm i _ k c a
  have:=(o.rm _ (mQg c)).l2
  have:=b.lb
  exact⟨b.br,b.bl,by omega,b.bb⟩
 ·obtain⟨⟨vs,fs⟩,a⟩:∃p,s.af[h]?=some p:=⟨_,gQe m⟩
  obtain⟨v,B,c,d⟩:=x.whand a
  obtain⟨f,t,r⟩:=d.last
  obtain⟨j,u,_⟩:=r.pr
  exact⟨vs,fs,f,j,a,t,u⟩
def D3(o:fJ w)(x:dE w n s)(hn:n<=100)(hm:h∈nh w s)(b:s.af[h]?=some (vs,fs))(u:fs.getLast? =some f):uC w s h (iT w s h).1 (iT w s h).2/\dE w (n+1) (iT w s h).1:=by
 have e1:=rH b
 have N:=oa b u
 obtain⟨ts,a3,hw,Z⟩:=x.whand b
 have fi:=Z.fr f (QcQ u)
 obtain⟨l,k,X,a5⟩:=fi.pr
 have b1:=o.l1
 have b4:=o.l4
 have lr:=x.lr
 have lh:=x.lh
 have lf:=Z.lf
 have nb:¬(f.room= -1/\f.row=l.length):=by
  rintro⟨c1,c2⟩
  have:=(List.mem_filter.mp hm).2
  rw[QCq] at this
  have hb:zf w s h=true:=by
   unfold zf DM
   rw[b]
   show(match fs.getLast? with|some f=>_|none=>_)=_
   rw[u]
   simp only[k,Option.getD_some,c1,c2,decide_true,Bool.and_true]
  rw[hb] at this
  exact absurd this.2 (by decide)
 by_cases c:f.room= -1
 ·
  have K:l=a3:=by
   unfold progOf at k
   rw[Qhq c,hw] at k
   cases k;rfl
  subst K
  have J:f.row.toNat<l.length:=by
   have:f.row≠l.length:=λz=>nb ⟨c,z⟩
   omega
  have a:l[f.row.toNat]?=some (l[f.row.toNat]):=gQe J
  generalize l[f.row.toNat]=r at a
  obtain⟨sc,H,I⟩:=HQ o k
  have p:=I r (mQg a)
  have Y:LM w s h r (Ff w s h r):=by
   cases r with
   |say t=>exact⟨_,rfl,(mU o x b u H p.2).2⟩
   |_=>rfl
  have G:iT w s h=(kG w {s with af:=s.af.set h (vs,fs.dropLast++ [{f with row:=f.row+1}])} h r,Ff w s h r):=by
   unfold iT Hf
   rw[N,Quq (λz=>z.1 c),k]
   simp only
   rw[Quq (λz=>nb ⟨c,z⟩),a,pP b]
  rw[G]
  have P:=x.goes b u k (m:=f.row+1) (by omega) (by omega)
  have W:h<s.af.length:=(gQs.mp b).1
  obtain⟨M,B⟩:=Dq (f:={f with row:=f.row+1}) (r:=r) (pr:=l) o P hn (Qyq W) (by simp) k (by show 1<=f.row+1;omega) (by show l[(f.row+1-1).toNat]?=_;rw[show f.row+1-1=f.row by omega];exact a)
  exact⟨As b u (.inl c) k X a (by omega) (by omega) Y M,B⟩
 ·
  rcases lD k with⟨c',_⟩|⟨i,j,r,dn,h1,h2,h3,h4⟩
  ·exact absurd c' c
  obtain⟨L,d,ri⟩:=x.wroom h3
  have br:=ri.br
  have ti:f.room.toNat=i:=by omega
  by_cases R:L.within=h
  ·have A:Here s h f:=.inr ⟨i,L,h1,d,R⟩
   by_cases ce:f.row=l.length
   ·
    have U:=oV u
    have M:=Z.hd
    rw[U] at M
    obtain⟨F,C,hg⟩:=M.two c
    have a1:fs=F++ [C,f]:=by rw[U,hg];simp
    subst a1
    obtain⟨a4,a2⟩:=Z.pop
    obtain⟨a6,g,rn,a0,t,p1,p2,p3⟩:=a2
    have eo:Ai s h={s with aj:=s.aj.set i (gd L),af:=s.af.set h (vs,F++ [C])}:=by
     unfold Ai
     rw[N,e1,ti,jU d]
     simp only[sZ]
     rw[show F++ [C,f]=(F++ [C])++ [f] by simp,List.dropLast_concat]
    have ho:(Ai s h).af[h]?=some (vs,F++ [C]):=by rw[eo];exact Qyq (gQs.mp b).1
    have eb:CG w (Ai s h) h=some (.do_ g rn a0 t):=by
     unfold CG
     rw[oa ho (f:=C) (by simp),p1]
     exact p3
    have G:iT w s h=(zj w s h,none):=by
     unfold iT
     rw[N,ti,jU d,Quq (λz=>z.2 R),k]
     simp only
     rw[Qhq ce]
    have P:dE w n {s with aj:=s.aj.set i (gd L),af:=s.af.set h (vs,F++ [C])}:=(x.hand hw a4).room h3 ri.leave
    obtain⟨sc,H,I⟩:=HQ o p1
    have p:=I _ (mQg p3)
    have W:h<s.af.length:=(gQs.mp b).1
    cases g with
    | none=>
      have ee:zj w s h={s with aj:=s.aj.set i (gd L),af:=s.af.set h (vs,F++ [C])}:=by unfold zj;rw[eb];exact eo
      rw[G,ee]
      exact⟨z4 b u A k ce λS Q q=>r8 b h1 d (by omega) (by omega) p1 p2 p3 (λ_ e=>e.symm) q,P.mono (Nat.le_succ n)⟩
    | some y=>
      obtain⟨K,B⟩:=El (y:=y) (v:=f.told) o P (Qyq W) (by simp) H (p.1 y rfl) fi.tv
      have ee:zj w s h=sQ w {s with aj:=s.aj.set i (gd L),af:=s.af.set h (vs,F++ [C])} h y f.told:=by unfold zj;rw[eb,eo,N]
      rw[G,ee]
      exact⟨z4 b u A k ce λS Q q=>r8 b h1 d (by omega) (by omega) p1 p2 p3 (λ_ e=>by rw[e];exact K) q,B.mono (Nat.le_succ n)⟩
   ·
    have J:f.row.toNat<l.length:=by omega
    have a:l[f.row.toNat]?=some (l[f.row.toNat]):=gQe J
    generalize l[f.row.toNat]=r' at a
    have p:=((o.rm _ (mQg h3)).pr _ (mQg h4)).1 r' (mQg a)
    have he:LM w s h r' none:=by
     cases r' with
     |say t=>exact absurd p.1 (show¬(false=true) by decide)
     |_=>rfl
    have P:=x.goes b u k (m:=f.row+1) (by omega) (by omega)
    have W:h<s.af.length:=(gQs.mp b).1
    have G:iT w s h=(kG w {s with af:=s.af.set h (vs,fs.dropLast++ [{f with row:=f.row+1}])} h r',none):=by
     unfold iT Hf
     rw[N,ti,jU d,Quq (λz=>z.2 R),k]
     simp only
     rw[Quq ce,a,pP b]
     refine congrArg (Prod.mk _) ?_
     cases r' with
     |say t=>exact absurd p.1 (show¬(false=true) by decide)
     |_=>rfl
    rw[G]
    obtain⟨M,B⟩:=Dq (f:={f with row:=f.row+1}) (r:=r') (pr:=l) o P hn (Qyq W) (by simp) k (by show 1<=f.row+1;omega) (by show l[(f.row+1-1).toNat]?=_;rw[show f.row+1-1=f.row by omega];exact a)
    exact⟨As b u A k X a (by omega) (by omega) he M,B⟩
  ·
   have G:iT w s h=({s with aj:=s.aj.set i (lX L h)},none):=by
    unfold iT
    rw[N,ti,jU d,Qhq ⟨c,R⟩]
    rfl
   rw[G]
   exact⟨EB b u h1 d R (by omega) (by omega),(x.mono (Nat.le_succ n)).room h3 ri.come⟩
end
structure Sg(σ:Str->Str):Prop where
 inj:∀a b,σ a=σ b->a=b
 gv:σ "given"="given"
noncomputable def ix(σ:Str->Str):Tr->Tr
 |.num n=>.num n
 |.word x=>.word (σ x)
 |.waits b=>.waits (σ b)
 |.no t=>.no (ix σ t)
 |.two o a b=>.two o (ix σ a) (ix σ b)
noncomputable def iz(σ:Str->Str):Rw->Rw
 |.put x t=>.put (σ x) (ix σ t)
 |.unl t n=>.unl (ix σ t) n
 |.go n=>.go n
 |.do_ g r d t=>.do_ (g.map σ) (σ r) (σ d) (ix σ t)
 |.wait b t=>.wait (σ b) (ix σ t)
 |.call b=>.call (σ b)
 |.all b=>.all (σ b)
 |.tell t=>.tell (ix σ t)
 |.take p=>.take (σ p)
 |.give p=>.give (σ p)
 |.pass p q=>.pass (σ p) (σ q)
 |.say t=>.say (ix σ t)
noncomputable def g8{a:Type}(σ:Str->Str)(p:Str×a):Str×a:=(σ p.1,p.2)
noncomputable def HV(σ:Str->Str)(p:Str×List Rw):Str×List Rw:=(σ p.1,p.2.map (iz σ))
noncomputable def wq(σ:Str->Str)(r:Rm):Rm:=⟨σ r.name,r.ah,r.ao.map (g8 σ),r.aa.map (g8 σ),r.ae.map (HV σ)⟩
noncomputable def CM(σ:Str->Str)(h:List (Str×Nat)×List Rw):List (Str×Nat)×List Rw:=(h.1.map (g8 σ),h.2.map (iz σ))
noncomputable def dz(σ:Str->Str)(w:c7):c7:=⟨w.aj.map (wq σ),w.ai.map (g8 σ),w.ak.map (g8 σ),w.af.map (CM σ)⟩
noncomputable def Ea(σ:Str->Str):Key->Key
 |.inr x=>.inr (σ x)
 |.inl i=>.inl i
noncomputable def km(σ:Str->Str)(l:List (Key×D)):List (Key×D):=l.map λa=>(Ea σ a.1,a.2)
def fR{a:Type}{σ:Str->Str}(l:List (Str×a)):(l.map (g8 σ)).map (·.1)=(l.map (·.1)).map σ:=by rw[QPq,QPq];rfl
section
variable{σ:Str->Str}(g:Sg σ)
include g
def tJ{a b:Key}:Ea σ a=Ea σ b↔a=b:=by
 constructor
 ·intro h
  cases a <;>cases b <;>simp only[Ea] at h
  ·exact h
  ·cases h
  ·cases h
  ·exact congrArg Sum.inr (g.inj _ _ (Sum.inr.inj h))
 ·intro h;rw[h]
theorem yB(x:Str):∀ns:List Str,mB (.str (σ x)) ((ns.map σ).map V.str)=mB (.str x) (ns.map V.str)
 | []=>rfl
 | a::ns=>by
   simp only[QDq,mB]
   rw[yB x ns]
   have:ph (.str (σ a)) (.str (σ x))=ph (.str a) (.str x):=by
     show(σ a==σ x)=(a==x)
     by_cases c:a=x
     · rw[c];simp
     · have:σ a≠σ x:=λh=>c (g.inj _ _ h)
       exact(beq_false_of_ne this).trans (beq_false_of_ne c).symm
   rw[this]
def iX(x:Str)(ns:List Str):eA (ns.map σ) (σ x)=eA ns x:=by unfold eA;rw[yB g]
def Ht(k:Key):∀l:List (Key×D),pN (km σ l) (Ea σ k)=pN l k:=λl=>by
 unfold pN km
 rw[List.find?_map]
 have:((λa:Key×D=>decide (a.1=Ea σ k))∘λa:Key×D=>(Ea σ a.1,a.2))=λa=>decide (a.1=k):=by
  funext a
  exact decide_eq_decide.mpr (tJ g)
 rw[this]
 cases l.find? λa=>decide (a.1=k) <;>rfl
def zS(k:Key)(v:D)(l:List (Key×D)):putD (km σ l) (Ea σ k) v=km σ (putD l k v):=by
 unfold putD km
 have b:((l.map λa:Key×D=>(Ea σ a.1,a.2)).any λa=>decide (a.1=Ea σ k))=l.any λa=>decide (a.1=k):=by
  rw[List.any_map]
  congr 1
  funext a
  exact decide_eq_decide.mpr (tJ g)
 rw[b]
 split
 ·rw[QPq,QPq]
  refine List.map_congr_left λa _=> ?_
  simp only[Function.comp]
  by_cases c:a.1=k
  ·rw[Qhq c,Qhq ((tJ g).mpr c)]
  ·rw[Quq c,Quq λh=>c ((tJ g).mp h)]
 ·rw[Qzq];rfl
theorem k8:∀(m l:List (Key×D)),c9 (km σ l) (km σ m)=km σ (c9 l m)
 | [],l=>rfl
 | a::m,l=>by
   show c9 (putD (km σ l) (Ea σ a.1) a.2) (km σ m)=km σ (c9 (putD l a.1 a.2) m)
   rw[zS g,k8 m]
def vw(ts:List (Str×Nat))(vs:List Int):eJ (ts.map (g8 σ)) vs=km σ (eJ ts vs):=by
 unfold eJ
 rw[fR]
 have:∀(l:List Str) (b:List D),((l.map σ).map Sum.inr).zip b=km σ ((l.map Sum.inr).zip b):=by
  intro l
  induction l with
  |nil=>intro b;rfl
  | cons a l c=>
    intro b
    cases b with
    |nil=>rfl
    | cons u b=>
      exact congr (congrArg List.cons rfl) (c b)
 rw[this]
 exact k8 g _ []
def rC(x:Str)(l:List (Key×D)):numAt (km σ l) (σ x)=numAt l x:=by
 unfold DL.numAt
 rw[show(Sum.inr (σ x):Key)=Ea σ (.inr x) from rfl,Ht g]
omit g in
theorem pU{th wt c d:Str->Int}(e:∀x,c (σ x)=th x)(f:∀x,d (σ x)=wt x):∀t:Tr,u4 c d (ix σ t)=u4 th wt t
 |.num n=>rfl
 |.word x=>e x
 |.waits b=>by simp only[ix,u4];rw[f]
 |.no t=>by simp only[ix,u4];rw[pU e f t]
 |.two o a b=>by simp only[ix,u4];rw[pU e f a,pU e f b]
variable{w:c7}{s:bG}{h:Nat}
omit g in
def Dp:Gw (dz σ w) h=CM σ (Gw w h):=by
 unfold Gw dz
 rw[gQm]
 cases w.af[h]? <;>rfl
omit g in
def uH(i:Nat):(t7 (dz σ w) i).ao=(t7 w i).ao.map (g8 σ):=by
 unfold t7 dz
 rw[gQm]
 cases w.aj[i]? <;>rfl
omit g in
def m7(i:Nat):(t7 (dz σ w) i).aa=(t7 w i).aa.map (g8 σ):=by
 unfold t7 dz
 rw[gQm]
 cases w.aj[i]? <;>rfl
omit g in
def EY(i:Nat):(t7 (dz σ w) i).ae=(t7 w i).ae.map (HV σ):=by
 unfold t7 dz
 rw[gQm]
 cases w.aj[i]? <;>rfl
omit g in
def B9(i:Nat):(t7 (dz σ w) i).ah=(t7 w i).ah:=by
 unfold t7 dz
 rw[gQm]
 cases w.aj[i]? <;>rfl
omit g in
def xP:(dz σ w).aj.map (·.name)=(w.aj.map (·.name)).map σ:=by unfold dz;rw[QPq,QPq];rfl
omit g in
def EL(l:List (Str×List Rw)):(l.map (HV σ)).map (·.1)=(l.map (·.1)).map σ:=by rw[QPq,QPq];rfl
def Fh(r c:Rm)(rs:gf)(e:c.aa=r.aa.map (g8 σ)):uX c rs=km σ (uX r rs):=by
 unfold uX
 rw[e]
 have:∀(l:List (Str×Str)) (b:List (List (Int×Int))),(((l.map (g8 σ)).zip b).map λp=>((Sum.inr p.1.1:Key),D.int (p.2.length:Nat)))=km σ ((l.zip b).map λp=>(Sum.inr p.1.1,D.int (p.2.length:Nat))):=by
  intro l
  induction l with
  |nil=>intro b;rfl
  | cons a l d=>
    intro b
    cases b with
    |nil=>rfl
    | cons u b=>
      exact congr (congrArg List.cons rfl) (d b)
 rw[this]
 exact k8 g _ []
def i7(t:Tr):gJ (dz σ w) s h (ix σ t)=gJ w s h t:=by
 unfold gJ
 split
 ·refine pU (λx=> ?_) (λx=>rfl) t
  unfold AQ
  rw[Dp,show(dz σ w).ak=w.ak.map (g8 σ) from rfl,show(CM σ (Gw w h)).1=(Gw w h).1.map (g8 σ) from rfl,vw g,vw g,k8 g,rC g]
 ·refine pU (λx=> ?_) (λx=> ?_) t
  ·unfold sI
   rw[uH,vw g,show(Sum.inr "given":Key)=Ea σ (.inr "given") by show _=Sum.inr (σ _);rw[g.gv],zS g,rC g]
   rw[show Ea σ (.inr "given")=(Sum.inr "given":Key) by show Sum.inr (σ _)=_;rw[g.gv]]
  ·unfold uR
   rw[Fh g _ _ _ (m7 _),rC g]
def lQ(ns:List Str)(vs:List Int)(x:Str)(v:Int):dY (ns.map σ) vs (σ x) v=dY ns vs x v:=by unfold dY;rw[yB g]
def D4{x:Str}{l:List Str}:σ x∈l.map σ↔x∈l:=by
 constructor
 ·intro h
  obtain⟨y,a,e⟩:=Qkq.mp h
  rw[←g.inj _ _ e]
  exact a
 ·intro h;exact Qkq.mpr ⟨x,h,rfl⟩
def Bt(x:Str)(v:Int):sQ (dz σ w) s h (σ x) v=sQ w s h x v:=by
 unfold sQ
 split
 ·unfold rD
  rw[Dp,show(dz σ w).ak=w.ak.map (g8 σ) from rfl,fR,show(CM σ (Gw w h)).1=(Gw w h).1.map (g8 σ) from rfl,fR,lQ g,lQ g]
  by_cases c:x∈w.ak.map (·.1)
  ·rw[Qhq c,Qhq ((D4 g).mpr c)]
  ·rw[Quq c,Quq λh=>c ((D4 g).mp h)]
 ·rw[uH,fR,lQ g]
def JC(r:Rw):kG (dz σ w) s h (iz σ r)=kG w s h r:=by
 have a:(dz σ w).ai.map (·.1)=(w.ai.map (·.1)).map σ:=fR _
 cases r with
 |put x t=>simp only[iz,kG];rw[i7 g,Bt g]
 |unl t n=>simp only[iz,kG];rw[i7 g]
 |go n=>rfl
 |do_ c e d t=>simp only[iz,kG];rw[xP,iX g,EY,EL,iX g,i7 g]
 | wait b t=>
   simp only[iz,kG,FV]
   rw[i7 g,m7,fR,iX g,gQm]
   cases (t7 w (jv s h).room.toNat).aa[eA ((t7 w (jv s h).room.toNat).aa.map (·.1)) b]? <;>rfl
 |call b=>simp only[iz,kG];rw[m7,fR,iX g,B9]
 |all b=>simp only[iz,kG];rw[m7,fR,iX g]
 |tell t=>simp only[iz,kG];rw[i7 g]
 |take p=>simp only[iz,kG];rw[a,iX g]
 |give p=>simp only[iz,kG];rw[a,iX g]
 |pass p q=>simp only[iz,kG];rw[a,iX g,iX g]
 |say t=>rfl
omit g in
def oU(f:dg):progOf (dz σ w) h f=(progOf w h f).map (List.map (iz σ)):=by
 unfold progOf
 split
 ·unfold dz
  rw[gQm]
  cases w.af[h]? <;>rfl
 ·split
  ·unfold dz
   rw[gQm]
   cases w.aj[f.room.toNat]? with
   |none=>rfl
   | some r=>
     show Option.map _ ((r.ae.map (HV σ))[f.deed.toNat]?)=_
     rw[gQm]
     cases a:r.ae[f.deed.toNat]? <;>simp[a,HV]
  ·rfl
omit g in
def F_:CG (dz σ w) s h=(CG w s h).map (iz σ):=by
 unfold CG
 rw[oU]
 cases progOf w h (jv s h) with
 |none=>rfl
 |some a=>show(a.map (iz σ))[_]?=_;rw[gQm];rfl
def G7:zj (dz σ w) s h=zj w s h:=by
 unfold zj
 rw[F_]
 cases b:CG w (Ai s h) h with
 |none=>rfl
 | some r=>
   cases r with
   | do_ a d c t=>
     cases a with
     |none=>rfl
     |some x=>exact Bt g x _
   |_=>rfl
def Ig(r:Rw):Ff (dz σ w) s h (iz σ r)=Ff w s h r:=by
 cases r with
 |say t=>simp only[iz,Ff];rw[i7 g]
 |_=>rfl
def Ey:iT (dz σ w) s h=iT w s h:=by
 unfold iT
 rw[oU]
 split
 ·rfl
 ·cases progOf w h (jv s h) with
  |none=>rfl
  | some a=>
    simp only[Option.map_some,lQm,gQm]
    rw[G7 g]
    split
    · rfl
    · cases a[(jv s h).row.toNat]? with
      |none=>rfl
      |some r=>simp only[Option.map_some];rw[JC g,Ig g]
omit g in
def Ag:nh (dz σ w) s=nh w s:=by
 unfold nh zf
 congr 1
 funext k
 cases DM s k with
 |none=>rfl
 | some f=>
   simp only
   rw[oU]
   cases progOf w k f <;>simp
omit g in
def vk:eC (dz σ w)=eC w:=by
 have a:∀l:List (Str×Nat),fo (l.map (g8 σ))=fo l:=λl=>by unfold fo;rw[QPq];rfl
 unfold eC dz
 simp only[QPq,a]
 congr 1
 ·refine List.map_congr_left λr _=> ?_
  simp only[Function.comp,fu,wq,a,QPq]
  rfl
 ·refine List.map_congr_left λr _=> ?_
  simp only[Function.comp,CM,a]
end
noncomputable def Ob(σ:Str->Str)(g:Str×Str):Str×Str:=(σ g.1,σ g.2)
noncomputable def Bz(σ:Str->Str)(sc:Sc):Sc:=⟨sc.own,sc.ws.map σ,sc.ps.map σ,sc.bs.map σ,sc.gs.map (Ob σ),sc.ts.map σ⟩
section
variable{σ:Str->Str}
def ub{x:Str}{l:List Str}(h:x∈l):σ x∈l.map σ:=Qkq.mpr ⟨x,h,rfl⟩
theorem Tr.Ok.ren{ws bs:List Str}:∀{t:Tr},t.Ok ws bs->(ix σ t).Ok (ws.map σ) (bs.map σ)
 |.num _,h=>h
 |.word _,h=>ub h
 |.waits _,h=>ub h
 |.no t,h=>Tr.Ok.ren (t:=t) h
 |.two _ a b,h=>⟨h.1,Tr.Ok.ren (t:=a) h.2.1,Tr.Ok.ren (t:=b) h.2.2⟩
theorem tX:∀t:Tr,(ix σ t).dep=t.dep
 |.num _=>rfl
 |.word _=>rfl
 |.waits _=>rfl
 |.no t=>by simp only[ix,Tr.dep];rw[tX t]
 |.two _ a b=>by simp only[ix,Tr.dep];rw[tX a,tX b]
def B3.ren{sc:Sc}{t:Tr}(h:B3 sc t):B3 (Bz σ sc) (ix σ t):=⟨h.1.ren,by rw[tX];exact h.2⟩
theorem Rw.Ok.ren{sc:Sc}{n:Nat}{r:Rw}(h:r.Ok sc n):(iz σ r).Ok (Bz σ sc) n:=by
 cases r with
 |put x t=>exact⟨ub h.1,h.2.ren⟩
 |unl t m=>exact⟨h.1.ren,h.2⟩
 |go m=>exact h
 | do_ g r d t=>
   refine⟨λx c=> ?_,Qkq.mpr ⟨_,h.2.1,rfl⟩,h.2.2.ren⟩
   obtain⟨y,a,rfl⟩:=oQm.mp c
   exact ub (h.1 y a)
 |wait b t=>exact⟨h.1,ub h.2.1,h.2.2.ren⟩
 |call b=>exact⟨h.1,ub h.2⟩
 |all b=>exact⟨h.1,ub h.2⟩
 |tell t=>exact⟨h.1,h.2.ren⟩
 |take p=>exact⟨h.1,ub h.2⟩
 |give p=>exact⟨h.1,ub h.2⟩
 |pass p q=>exact⟨h.1,ub h.2.1,ub h.2.2⟩
 |say t=>exact⟨h.1,h.2.ren⟩
def lK.ren{sc:Sc}{rs:List Rw}(h:lK sc rs):lK (Bz σ sc) (rs.map (iz σ)):=λr a=>by
 obtain⟨q,b,rfl⟩:=Qkq.mp a
 rw[lQm]
 exact(h q b).ren
def FP(rs:List Rm):aX (rs.map (wq σ))=(aX rs).map (Ob σ):=by
 induction rs with
 |nil=>rfl
 | cons a l b=>
   simp only[aX,QDq,QSq,Qzq] at *
   rw[b]
   congr 1
   simp only[wq,QPq]
   rfl
def fJ.ren{w:c7}(g:Sg σ)(o:fJ w):fJ (dz σ w):=by
 have f:aX (dz σ w).aj=(aX w.aj).map (Ob σ):=FP _
 refine⟨?_,?_,?_,?_,?_,?_,?_,?_,?_,?_⟩
 ·rw[xP]
  exact o.nd.map σ λa b h z=>h (g.inj _ _ z)
 ·show(w.aj.map _).length<=_;rw[lQm];exact o.l1
 ·show(w.ai.map _).length<=_;rw[lQm];exact o.l2
 ·show(w.ak.map _).length<=_;rw[lQm];exact o.l3
 ·show(w.af.map _).length<=_;rw[lQm];exact o.l4
 ·show 0<(w.af.map _).length;rw[lQm];exact o.l0
 ·intro p c
  obtain⟨q,e,rfl⟩:=Qkq.mp c
  exact o.pv q e
 ·intro p c
  obtain⟨q,e,rfl⟩:=Qkq.mp c
  exact o.sv q e
 ·intro r i
  rw[f]
  obtain⟨q,e,rfl⟩:=Qkq.mp i
  have x:=o.rm q e
  refine⟨x.mn,λp c=> ?_,?_,?_,?_,λp c=> ?_,λp c=> ?_⟩
  ·obtain⟨y,d,rfl⟩:=Qkq.mp c
   exact x.tv y d
  ·show(q.ao.map _).length<=_;rw[lQm];exact x.l1
  ·show(q.aa.map _).length<=_;rw[lQm];exact x.l2
  ·show(q.ae.map _).length<=_;rw[lQm];exact x.l3
  ·obtain⟨y,d,rfl⟩:=Qkq.mp c
   exact x.bv y d
  ·obtain⟨y,d,rfl⟩:=Qkq.mp c
   refine⟨?_,by show(y.2.map _).length<=_;rw[lQm];exact(x.pr y d).2⟩
   have:=(x.pr y d).1.ren (σ:=σ)
   unfold Bz at this
   simp only[Qzq] at this
   rw[show ft.map σ=ft by show [σ "given"]=([("given":Str)]:List Str);rw[g.gv]] at this
   show lK ⟨false,(q.ao.map (g8 σ)).map (·.1)++ft,(q.ao.map (g8 σ)).map (·.1),(q.aa.map (g8 σ)).map (·.1),_,[]⟩ _
   rw[fR,fR]
   exact this
 ·intro h j
  rw[f]
  obtain⟨q,e,rfl⟩:=Qkq.mp j
  have x:=o.hd q e
  refine⟨λp c=> ?_,?_,?_,?_,?_⟩
  ·obtain⟨y,d,rfl⟩:=Qkq.mp c
   exact x.tv y d
  ·show(q.1.map _).length<=_;rw[lQm];exact x.l1
  ·show(q.2.map _).length<=_;rw[lQm];exact x.l2
  ·show 0<(q.2.map _).length;rw[lQm];exact x.l0
  ·have:=x.pr.ren (σ:=σ)
   unfold Bz at this
   simp only[Qzq] at this
   show lK ⟨true,(q.1.map (g8 σ)).map (·.1)++(w.ak.map (g8 σ)).map (·.1),(q.1.map (g8 σ)).map (·.1)++(w.ak.map (g8 σ)).map (·.1),[],_,(w.ai.map (g8 σ)).map (·.1)⟩ _
   rw[fR,fR,fR]
   exact this
end
def DQ(a b:Str):(a++b).length=a.length+b.length:=by show(a.cps++b.cps).size=_;rw[Array.size_append];rfl
noncomputable def jY(st x:Str):Str:=if x="given" then "given" else if st++x="given" then st++ "given" else st++x
section
variable{st:Str}(hst:st.length=1)
include hst
def Lx:Sg (jY st):=by
 have i:st++ "given"≠"given":=λe=>by
  have:=congrArg Str.length e
  rw[DQ,hst] at this
  revert this
  decide +kernel
 refine⟨λa b h=> ?_,rfl⟩
 unfold jY at h
 by_cases f:a="given"
 ·rw[Qhq f] at h
  by_cases d:b="given"
  ·rw[f,d]
  ·rw[Quq d] at h
   by_cases c:st++b="given"
   ·rw[Qhq c] at h;exact absurd h.symm i
   ·rw[Quq c] at h;exact absurd h.symm c
 ·rw[Quq f] at h
  by_cases d:b="given"
  ·rw[Qhq d] at h
   by_cases c:st++a="given"
   ·rw[Qhq c] at h;exact absurd h i
   ·rw[Quq c] at h;exact absurd h c
  ·rw[Quq d] at h
   by_cases c:st++a="given" <;>by_cases g:st++b="given"
   ·exact pj st _ _ (c.trans g.symm)
   ·rw[Qhq c,Quq g] at h;exact absurd (pj st _ _ h).symm d
   ·rw[Quq c,Qhq g] at h;exact absurd (pj st _ _ h) f
   ·rw[Quq c,Quq g] at h;exact pj st _ _ h
def Ks{x:Str}(a:Nm x):jY st x=st++x:=by
 have b:("given":Str).length=5:=by decide +kernel
 unfold jY
 rw[Quq (λe=>by have:=congrArg Str.length e;have:=a.1;omega),Quq (λe=>by have:=congrArg Str.length e;have:=a.1;rw[DQ] at *;omega)]
end
def Ed{S:aL}{a:Bool}{x y:D}{p r:PyData}{Q:D->Prop}(b:i0 x=some p)(d:i0 y=some r)(c:p.depth<=60)(q:Q (.bl (if a then !PyData.eqv p r else PyData.eqv p r))):Op (J3 a S x y) Q:=⟨_,by unfold J3;rw[b,d];simp only[Qbq];rw[Qhq c],q⟩
def jV{x:Str}(h:PyData.strOk x=true):i0 (.str x)=some (.str x):=by unfold i0;rw[Qhq h]
def yL{S:aL}{x y:Str}{Q:D->Prop}(a:PyData.strOk x=true)(b:PyData.strOk y=true)(q:Q (.bl (decide (x=y)))):Op (J3 false S (.str x) (.str y)) Q:=by
 refine Ed (jV a) (jV b) (by simp[PyData.depth]) ?_
 have:(if false=true then !PyData.eqv (.str x) (.str y) else PyData.eqv (.str x) (.str y))=decide (x=y):=by
  by_cases c:x=y
  ·subst c;simp[PyData.eqv]
  ·simp[PyData.eqv,c]
 rw[this]
 exact q
theorem xM{ws bs:List Str}(e:∀x∈ws,PyData.strOk x=true)(f:∀x∈bs,PyData.strOk x=true):∀{t:Tr},t.Ok ws bs->∃p,i0 t.d=some p/\p.depth<=t.dep+1
 |.num n,_=>⟨_,rfl,by simp[PyData.depth,Tr.dep]⟩
 |.word x,h=>⟨_,jV (e x h),by simp[PyData.depth,Tr.dep]⟩
 |.waits b,h=>⟨.tuple [.str "waits",.str b],by
   have i:i0 (.str b)=some (.str b):=jV (f b h)
   have c:i0 (.str "waits")=some (.str "waits"):=jV (by decide +kernel)
   simp only[Tr.d]
   rw[i0,iS,iS,iS,c,i];rfl,by simp[PyData.depth,PyData.depthAll,Tr.dep]⟩
 | .no t,h=>by
   obtain⟨p,c,i⟩:=xM e f (t:=t) h
   refine⟨.tuple [.str "not",p],?_,?_⟩
   · have g:i0 (.str "not")=some (.str "not"):=jV (by decide +kernel)
     simp only[Tr.d]
     rw[i0,iS,iS,iS,g,c];rfl
   · simp only[PyData.depth,PyData.depthAll,Tr.dep];omega
 | .two o a b,h=>by
   obtain⟨p,c,i⟩:=xM e f (t:=a) h.2.1
   obtain⟨q,g,l⟩:=xM e f (t:=b) h.2.2
   refine⟨.tuple [.str o,p,q],?_,?_⟩
   · have j:∀o∈ops,PyData.strOk o=true:=by decide +kernel
     have k:i0 (.str o)=some (.str o):=jV (j o h.1)
     simp only[Tr.d]
     rw[i0,iS,iS,iS,iS,k,c,g];rfl
   · simp only[PyData.depth,PyData.depthAll,Tr.dep];omega
section
variable{st:Str}(hst:st.length=1)
include hst
def kg{S:aL}{x:Str}{Q:D->Prop}(a:Nm x)(q:Q (.str (jY st x))):Op (b_ S (.str st) (.str x)) Q:=by
 refine FW (by have:=a.1;exact nQl (bu (by omega))) ?_
 rw[←Ks hst a]
 exact q
theorem tK{ws bs:List Str}(s:∀x∈ws,x="given" \/Nm x)(u:∀x∈bs,Nm x):∀(n:Nat) (t:Tr) {S:aL} {Q:Res->aL->Prop},t.dep<=n->n<=9->t.Ok ws bs->Q (.d (ix (jY st) t).d) S->Fn (et n) [.str st,t.d] S Q
 |0,t,_,_,hd,_,_,_=>by cases t <;>simp[Tr.dep] at hd
 | n+1,t,S,Q,hd,hn,ok,q=>by
   have j:∀x∈ws,PyData.strOk x=true:=λx A=>(s x A).elim (λe=>by rw[e];decide +kernel) (·.2)
   have m:∀x∈bs,PyData.strOk x=true:=λx A=>(u x A).2
   have w:PyData.strOk "given"=true:=by decide +kernel
   refine cf ?_
   unfold uT
   cases t with
   | num k=>
     refine bH (dk (rT (cT (d:=.int k) (bj rfl ⟨rfl,rfl⟩) rfl ?_)))
     refine aW (λ_=> ?_) (λc=>by cases c)
     apply aW (λ_=> ?_) (λc=>by cases c)
     exact bW (λk z=>(nomatch z)) rfl q
   | word x=>
     refine bH (dk (rT (cT (d:=.str x) (bj rfl ⟨rfl,rfl⟩) rfl ?_)))
     refine aW (λc=>by cases c) (λ_=> ?_)
     refine dI (g_ (bj rfl (qp (yL (j x ok) w ?_))))
     by_cases c:x="given"
     · rw[Qeq c]
       apply aW (λ_=> ?_) (λc=>by cases c)
       have e:(ix (jY st) (.word x)).d=.str x:=by subst c;rfl
       rw[e] at q
       exact bW (λk z=>(nomatch z)) rfl q
     · rw[Qdq c]
       refine aW (λc=>by cases c) (λ_=>cz ?_)
       refine bH (dk (cT (d:=.str x) (bj rfl ⟨rfl,rfl⟩) rfl ?_))
       apply aW (λ_=> ?_) (λc=>by cases c)
       refine kg hst ((s x ok).resolve_left c) ?_
       exact bW (λk z=>(nomatch z)) rfl q
   | waits b=>
     obtain⟨p,h,r⟩:=xM j m ok
     have i:p.depth<=60:=by omega
     obtain⟨f,rfl⟩:∃f,p=.tuple f:=by
       simp only[Tr.d,i0] at h
       obtain⟨f,_,e⟩:=oQm.mp h
       exact⟨f,e.symm⟩
     refine bH (dk (rT (cT (d:=(Tr.waits b).d) (bj rfl ⟨rfl,rfl⟩) rfl ?_)))
     refine aW (λc=>by cases c) (λ_=> ?_)
     refine dI (g_ (bj rfl (qp (Ed h (jV w) i ?_))))
     refine aW (λc=>by cases c) (λ_=>cz ?_)
     refine bH (dk (cT (d:=(Tr.waits b).d) (bj rfl ⟨rfl,rfl⟩) rfl ?_))
     refine aW (λc=>by cases c) (λ_=>cz ?_)
     refine bH (dk (dI (g_ (g_ (bj rfl (qp (aA (ds:= [.str "waits",.str b]) (d:=.str "waits") rfl (qp (yL (by decide +kernel) (by decide +kernel) ?_)))))))))
     rw[Qeq rfl]
     apply aW (λ_=> ?_) (λc=>by cases c)
     refine aA (ds:= [.str "waits",.str b]) (d:=.str b) rfl ?_
     apply kg hst (u b ok) ?_
     refine⟨by show 2<=_;decide,?_⟩
     exact bW (λk z=>(nomatch z)) rfl q
   | no t=>
     obtain⟨p,h,r⟩:=xM j m ok
     have i:p.depth<=60:=by omega
     obtain⟨f,rfl⟩:∃f,p=.tuple f:=by
       simp only[Tr.d,i0] at h
       obtain⟨f,_,e⟩:=oQm.mp h
       exact⟨f,e.symm⟩
     refine bH (dk (rT (cT (d:=(Tr.no t).d) (bj rfl ⟨rfl,rfl⟩) rfl ?_)))
     refine aW (λc=>by cases c) (λ_=> ?_)
     refine dI (g_ (bj rfl (qp (Ed h (jV w) i ?_))))
     refine aW (λc=>by cases c) (λ_=>cz ?_)
     refine bH (dk (cT (d:=(Tr.no t).d) (bj rfl ⟨rfl,rfl⟩) rfl ?_))
     refine aW (λc=>by cases c) (λ_=>cz ?_)
     refine bH (dk (dI (g_ (g_ (bj rfl (qp (aA (ds:= [.str "not",t.d]) (d:=.str "not") rfl (qp (yL (by decide +kernel) (by decide +kernel) ?_)))))))))
     rw[Qdq (by decide +kernel)]
     refine aW (λc=>by cases c) (λ_=>cz ?_)
     refine j3 (g_ (iM (bj rfl (cJ (cM (qp ⟨1,rfl,[.str "not",t.d],rfl,?_⟩))))))
     refine my (uS ?_)
     refine iO (α:=Tr) (λg=>∃a,g= [a,some (.str st)]) Tr.d (λt=>(ix (jY st) t).d) ⟨none,rfl⟩ ?_
     refine iq (iM (bj rfl (cM (qp ⟨1,rfl,cJ ⟨[.str "not",t.d],rfl,?_⟩⟩))))
     refine cH ?_
     refine⟨[t],rfl,trivial,by show 1<=1000;decide,λy v g l=> ?_,?_⟩
     · obtain⟨a,rfl⟩:=l
       rw[Qfq.mp v]
       refine bh ⟨rfl,⟨_,rfl⟩,?_⟩
       refine BL (fI (bj rfl (fI (bj rfl (nO ?_)))))
       exact tK s u n t (by simp only[Tr.dep] at hd;omega) (by omega) ok ⟨rfl,rfl⟩
     refine dB (by show 2<=_;decide) ?_
     exact bW (λk z=>(nomatch z)) (Tr.low (ix (jY st) (.no t))) q
   | two o a b=>
     obtain⟨p,h,r⟩:=xM j m ok
     have i:p.depth<=60:=by omega
     obtain⟨f,rfl⟩:∃f,p=.tuple f:=by
       simp only[Tr.d,i0] at h
       obtain⟨f,_,e⟩:=oQm.mp h
       exact⟨f,e.symm⟩
     have B:∀o∈ops,PyData.strOk o=true/\o≠"waits":=by decide +kernel
     refine bH (dk (rT (cT (d:=(Tr.two o a b).d) (bj rfl ⟨rfl,rfl⟩) rfl ?_)))
     refine aW (λc=>by cases c) (λ_=> ?_)
     refine dI (g_ (bj rfl (qp (Ed h (jV w) i ?_))))
     refine aW (λc=>by cases c) (λ_=>cz ?_)
     refine bH (dk (cT (d:=(Tr.two o a b).d) (bj rfl ⟨rfl,rfl⟩) rfl ?_))
     refine aW (λc=>by cases c) (λ_=>cz ?_)
     refine bH (dk (dI (g_ (g_ (bj rfl (qp (aA (ds:= [.str o,a.d,b.d]) (d:=.str o) rfl (qp (yL (B o ok.1).1 (by decide +kernel) ?_)))))))))
     rw[Qdq (B o ok.1).2]
     refine aW (λc=>by cases c) (λ_=>cz ?_)
     refine j3 (g_ (iM (bj rfl (cJ (cM (qp ⟨1,rfl,[.str o,a.d,b.d],rfl,?_⟩))))))
     refine my (uS ?_)
     refine iO (α:=Tr) (λg=>∃a,g= [a,some (.str st)]) Tr.d (λt=>(ix (jY st) t).d) ⟨none,rfl⟩ ?_
     refine iq (iM (bj rfl (cM (qp ⟨1,rfl,cJ ⟨[.str o,a.d,b.d],rfl,?_⟩⟩))))
     refine cH ?_
     simp only[Tr.dep] at hd
     refine⟨[a,b],rfl,trivial,by show 2<=1000;decide,λy v g l=> ?_,?_⟩
     · obtain⟨C,rfl⟩:=l
       refine bh ⟨rfl,⟨_,rfl⟩,?_⟩
       refine BL (fI (bj rfl (fI (bj rfl (nO ?_)))))
       simp only[Qsq,QXq,or_false] at v
       rcases v with rfl|rfl
       · exact tK s u n y (by omega) (by omega) ok.2.1 ⟨rfl,rfl⟩
       · exact tK s u n y (by omega) (by omega) ok.2.2 ⟨rfl,rfl⟩
     refine dB (by show 3<=_;decide) ?_
     exact bW (λk z=>(nomatch z)) (Tr.low (ix (jY st) (.two o a b))) q
end
structure GB(sc:Sc):Prop where
 ws:∀x∈sc.ws,x="given" \/Nm x
 ps:∀x∈sc.ps,Nm x
 bs:∀x∈sc.bs,Nm x
 gs:∀g∈sc.gs,Nm g.1/\Nm g.2
 ts:∀x∈sc.ts,Nm x
section
variable{Γ:dw}{S:aL}
def eq1{i:Nat}{x a:Str}{Q:Bool->aL->Prop}(b:Γ[i]?=some (some (.str x)))(q:Q (decide (x=a)) S):E (aP (aI (fB false) (au i) (cF (.str a)))) Γ S Q:=dI (g_ (bj b (qp (iU q))))
def OJ{i:Nat}{x a b:Str}{Q:Bool->aL->Prop}(c:Γ[i]?=some (some (.str x)))(q:Q (decide (x∈[a,b])) S):E (aP (zr false (au i) (bx (bc (ar (cF (.str a)) (ar (cF (.str b)) ay)))))) Γ S Q:=by
 refine dI (wc (bj c (iq (DX (fI (qp (fI (qp (nO ⟨by show 2<=_;decide,cH ⟨_,_,rfl,rfl,?_⟩⟩)))))))))
 show Q (FR (.str x) ([a,b].map V.str)) S
 rw[DC]
 exact q
def cv{i:Nat}{x a:Str}{b r:dm}{Q:Out->Prop}(c:Γ[i]?=some (some (.str x)))(n:x≠a)(h:T r Γ S Q):T (aK (eU (aP (aI (fB false) (au i) (cF (.str a)))) b fX) r) Γ S Q:=by
 refine bH (dk (eq1 c ?_))
 rw[Qdq n]
 exact cz h
def fP{i:Nat}{x a c:Str}{b r:dm}{Q:Out->Prop}(d:Γ[i]?=some (some (.str x)))(n:x∉[a,c])(h:T r Γ S Q):T (aK (eU (aP (zr false (au i) (bx (bc (ar (cF (.str a)) (ar (cF (.str c)) ay)))))) b fX) r) Γ S Q:=by
 refine bH (dk (OJ d ?_))
 rw[Qdq n]
 exact cz h
def F8{i:Nat}{x:Str}{b r:dm}{Q:Out->Prop}(d:Γ[i]?=some (some (.str x)))(h:T b Γ S λo=>match o with|.nx a c=>T r a c Q|o=>Q o):T (aK (eU (aP (aI (fB false) (au i) (cF (.str x)))) b fX) r) Γ S Q:=by
 refine bH (dk (eq1 d ?_))
 rw[Qeq rfl]
 exact h
def C8{i:Nat}{x a c:Str}{b r:dm}{Q:Out->Prop}(f:Γ[i]?=some (some (.str x)))(n:x∈[a,c])(h:T b Γ S λo=>match o with|.nx d e=>T r d e Q|o=>Q o):T (aK (eU (aP (zr false (au i) (bx (bc (ar (cF (.str a)) (ar (cF (.str c)) ay)))))) b fX) r) Γ S Q:=by
 refine bH (dk (OJ f ?_))
 rw[Qeq n]
 exact h
end
section
variable{st:Str}(hst:st.length=1){sc:Sc}(hsc:GB sc)
include hst hsc
def ui{t:Tr}{S:aL}{Q:Res->aL->Prop}(ok:B3 sc t)(q:Q (.d (ix (jY st) t).d) S):Fn (et 6) [.str st,t.d] S Q:=tK hst hsc.ws hsc.bs 6 t (by have:=ok.2;omega) (by decide) ok.1 q
theorem pB{w:Str}{xs:List Str}{S:aL}{c:dw}{Q:Out->Prop}(j:xs.length<=2)(i:∀x∈xs,Nm x)(h:c.getD 0 none=some (.str st))(g:c[1]?=some (some (.tup ((w::xs).map D.str))))(e:c[2]?=some (some (.str w)))(q:Q (.rt (.tup (.str w::xs.map λx=>.str (jY st x))) S)):
  T (cQ (aI b_ (bc (ar (au 2) ay)) (tupQ (iV (cG [none,some 0] (jw (bx (pE (au 1) (pA (cF (.int 1))) qm))) (cu 0) cW (aI b_ (au 1) (au 0))))))) c S Q:=by
 refine j3 (g_ (DX (fI (bj e (nO ⟨by show 1<=_;decide,my (uS ?_)⟩)))))
 refine iO (α:=Str) (λb=>∃a,b= [a,some (.str st)]) D.str (λx=>.str (jY st x)) ⟨none,by show [none,c.getD 0 none]=_;rw[h]⟩ ?_
 refine iq (iM (bj g (cM (qp ⟨1,rfl,cJ ⟨_,rfl,cH ?_⟩⟩))))
 refine⟨xs,?_,trivial,by omega,λy f b d=> ?_,?_⟩
 ·show jh ((w::xs).map D.str) (some ((1:Nat):Int)) none=_
  rw[iu (by simp)]
  rfl
 ·obtain⟨k,rfl⟩:=d
  refine bh ⟨rfl,⟨_,rfl⟩,?_⟩
  refine g_ (bj rfl (bj rfl (kg hst (i y f) ⟨rfl,rfl⟩)))
 refine dB (by simp only[lQm,Qnq,QGq];exact nQl (bu (by omega))) ?_
 exact q
def Fm{r:Rw}{n:Nat}{S:aL}{Q:Res->aL->Prop}(ok:r.Ok sc n)(q:Q (.d (iz (jY st) r).d) S):Fn fU [.str st,r.d] S Q:=by
 have a:=Rw.low (iz (jY st) r)
 refine cf ?_
 unfold p6
 cases r with
 | put x t=>
   symm
   refine aA (d:=.str "put") rfl ?_
   apply cv rfl (by decide +kernel) (cv rfl (by decide +kernel) (fP rfl (by decide +kernel) (cv rfl (by decide +kernel) (C8 rfl (by decide +kernel) ?_))))
   refine aA (d:=.str x) rfl ?_
   apply kg hst (hsc.ps x ok.1) ?_
   apply aA (d:=t.d) rfl ?_
   apply ui hst hsc ok.2 ?_
   refine⟨by show 3<=_;decide,?_⟩
   exact bW (λk z=>(nomatch z)) a q
 | unl t m=>
   symm
   refine aA (d:=.str "unless") rfl ?_
   apply F8 rfl ?_
   apply aA (d:=t.d) rfl ?_
   apply ui hst hsc ok.1 ?_
   apply aA (d:=.int m) rfl ?_
   refine⟨by show 3<=_;decide,?_⟩
   exact bW (λk z=>(nomatch z)) a q
 | go m=>
   symm
   refine aA (d:=.str "go") rfl ?_
   apply cv rfl (by decide +kernel) (F8 rfl ?_)
   exact bW (λk z=>(nomatch z)) a q
 | do_ g i h t=>
   have f:=hsc.gs _ ok.2.1
   symm
   refine aA (d:=.str "do") rfl ?_
   apply cv rfl (by decide +kernel) (cv rfl (by decide +kernel) (fP rfl (by decide +kernel) (F8 rfl ?_)))
   apply aA (d:=FU g) rfl ?_
   refine xE ?_
   cases g with
   | none=>
     apply aW (λc=>by cases c) (λ_=>cz ?_)
     refine aA (d:=.str i) rfl ?_
     apply kg hst f.1 ?_
     refine aA (d:=.str h) rfl ?_
     apply kg hst f.2 ?_
     apply aA (d:=t.d) rfl ?_
     apply ui hst hsc ok.2.2 ?_
     refine⟨by show 5<=_;decide,?_⟩
     exact bW (λk z=>(nomatch z)) a q
   | some x=>
     apply aW (λ_=> ?_) (λc=>by cases c)
     apply kg hst (hsc.ps x (ok.1 x rfl)) ?_
     refine aA (d:=.str i) rfl ?_
     apply kg hst f.1 ?_
     refine aA (d:=.str h) rfl ?_
     apply kg hst f.2 ?_
     apply aA (d:=t.d) rfl ?_
     apply ui hst hsc ok.2.2 ?_
     refine⟨by show 5<=_;decide,?_⟩
     exact bW (λk z=>(nomatch z)) a q
 | wait b t=>
   symm
   refine aA (d:=.str "wait") rfl ?_
   apply cv rfl (by decide +kernel) (cv rfl (by decide +kernel) (fP rfl (by decide +kernel) (cv rfl (by decide +kernel) (C8 rfl (by decide +kernel) ?_))))
   refine aA (d:=.str b) rfl ?_
   apply kg hst (hsc.bs b ok.2.1) ?_
   apply aA (d:=t.d) rfl ?_
   apply ui hst hsc ok.2.2 ?_
   refine⟨by show 3<=_;decide,?_⟩
   exact bW (λk z=>(nomatch z)) a q
 | tell t=>
   symm
   refine aA (d:=.str "tell") rfl ?_
   apply cv rfl (by decide +kernel) (cv rfl (by decide +kernel) (C8 rfl (by decide +kernel) ?_))
   apply aA (d:=t.d) rfl ?_
   apply ui hst hsc ok.2 ?_
   refine⟨by show 2<=_;decide,?_⟩
   exact bW (λk z=>(nomatch z)) a q
 | say t=>
   symm
   refine aA (d:=.str "say") rfl ?_
   apply cv rfl (by decide +kernel) (cv rfl (by decide +kernel) (C8 rfl (by decide +kernel) ?_))
   apply aA (d:=t.d) rfl ?_
   apply ui hst hsc ok.2 ?_
   refine⟨by show 2<=_;decide,?_⟩
   exact bW (λk z=>(nomatch z)) a q
 | call b=>
   symm
   refine aA (d:=.str "call") rfl ?_
   refine cv rfl (by decide +kernel) (cv rfl (by decide +kernel) (fP rfl (by decide +kernel) (cv rfl (by decide +kernel) (fP rfl (by decide +kernel) ?_))))
   exact pB hst hsc (xs:= [b]) (by simp) (λx e=>by rw[Qfq.mp e];exact hsc.bs b ok.2) rfl rfl rfl (bW (λk z=>(nomatch z)) a q)
 | all b=>
   symm
   refine aA (d:=.str "all") rfl ?_
   refine cv rfl (by decide +kernel) (cv rfl (by decide +kernel) (fP rfl (by decide +kernel) (cv rfl (by decide +kernel) (fP rfl (by decide +kernel) ?_))))
   exact pB hst hsc (xs:= [b]) (by simp) (λx e=>by rw[Qfq.mp e];exact hsc.bs b ok.2) rfl rfl rfl (bW (λk z=>(nomatch z)) a q)
 | take p=>
   symm
   refine aA (d:=.str "take") rfl ?_
   refine cv rfl (by decide +kernel) (cv rfl (by decide +kernel) (fP rfl (by decide +kernel) (cv rfl (by decide +kernel) (fP rfl (by decide +kernel) ?_))))
   exact pB hst hsc (xs:= [p]) (by simp) (λx e=>by rw[Qfq.mp e];exact hsc.ts p ok.2) rfl rfl rfl (bW (λk z=>(nomatch z)) a q)
 | give p=>
   symm
   refine aA (d:=.str "give") rfl ?_
   refine cv rfl (by decide +kernel) (cv rfl (by decide +kernel) (fP rfl (by decide +kernel) (cv rfl (by decide +kernel) (fP rfl (by decide +kernel) ?_))))
   exact pB hst hsc (xs:= [p]) (by simp) (λx e=>by rw[Qfq.mp e];exact hsc.ts p ok.2) rfl rfl rfl (bW (λk z=>(nomatch z)) a q)
 | pass p j=>
   symm
   refine aA (d:=.str "pass") rfl ?_
   refine cv rfl (by decide +kernel) (cv rfl (by decide +kernel) (fP rfl (by decide +kernel) (cv rfl (by decide +kernel) (fP rfl (by decide +kernel) ?_))))
   refine pB hst hsc (xs:= [p,j]) (by simp) (λx e=> ?_) rfl rfl rfl (bW (λk z=>(nomatch z)) a q)
   simp only[Qsq,QXq,or_false] at e
   rcases e with rfl|rfl
   · exact hsc.ts _ ok.2.1
   · exact hsc.ts _ ok.2.2
end
section
variable{st:Str}(hst:st.length=1)
include hst
def kn{g:Type}(f:g->D){l:List (Str×g)}{S:aL}{Q:Res->aL->Prop}(i:l.length<=1000)(j:∀p∈l,Nm p.1)(h:∀p∈l,cq 0 (f p.2)=true)(q:Q (.d (.tup ((l.map (g8 (jY st))).map λp=>.tup [.str p.1,f p.2]))) S):
  Fn dW [.str st,.tup (l.map λp=>.tup [.str p.1,f p.2])] S Q:=by
 refine cf ?_
 unfold sm
 refine j3 (my (uS ?_))
 refine iO (α:=Str×g) (λc=>∃a b,c= [a,b,some (.str st)]) (λp=>.tup [.str p.1,f p.2]) (λp=>.tup [.str (jY st p.1),f p.2]) ⟨none,none,rfl⟩ ?_
 refine iq (bj rfl (cH ?_))
 refine⟨l,rfl,trivial,i,λy m c e=> ?_,?_⟩
 ·obtain⟨a,b,rfl⟩:=e
  refine eO rfl (aC (bh (aC (bh (bE ?_)))))
  refine⟨rfl,⟨_,_,rfl⟩,?_⟩
  refine DX (fI (g_ (bj rfl (bj rfl (kg hst (j y m) ?_)))))
  refine fI (bj rfl (nO ⟨by show 2<=_;decide,rfl,rfl⟩))
 refine bW (λk z=>(nomatch z)) ?_ ?_
 ·simp only[cq]
  exact bq λp n=>by simp only[cq,cj,h p n,Bool.and_true]
 ·rw[QPq] at q
  exact q
def D1{sc:Sc}(f:GB sc){rs:List Rw}{S:aL}{c:dw}{v j:Nat}{Q:D->aL->Prop}(g:rs.length<=1000)(ok:lK sc rs)(k:c[v]?=some (some (.tup (rs.map Rw.d))))(h:c.getD j none=some (.str st))(q:Q (.tup ((rs.map (iz (jY st))).map Rw.d)) S):
  E (tupQ (iV (cG [none,some j] (jw (bx (au v))) (cu 0) cW (aB fU (ar (au 1) (ar (au 0) ay)))))) c S Q:=by
 refine my (uS ?_)
 refine iO (α:=Rw) (λb=>∃a,b= [a,some (.str st)]) Rw.d (λr=>(iz (jY st) r).d) ⟨none,by show [none,c.getD j none]=_;rw[h]⟩ ?_
 refine iq (bj k (cH ?_))
 refine⟨rs,rfl,trivial,g,λy i b e=> ?_,?_⟩
 ·obtain⟨a,rfl⟩:=e
  refine bh ⟨rfl,⟨_,rfl⟩,?_⟩
  refine BL (fI (bj rfl (fI (bj rfl (nO ?_)))))
  exact Fm hst f (ok y i) ⟨rfl,rfl⟩
 rw[QPq] at q
 exact q
def A_{sc:Sc}(e:GB sc){l:List (Str×List Rw)}{S:aL}{Q:Res->aL->Prop}(h:l.length<=1000)(ok:∀p∈l,lK sc p.2/\p.2.length<=1000)(q:Q (.d (.tup ((l.map λp=>(p.1,p.2.map (iz (jY st)))).map iy))) S):
  Fn gP [.str st,.tup (l.map iy)] S Q:=by
 refine cf ?_
 unfold mS
 refine j3 (my (uS ?_))
 refine iO (α:=Str×List Rw) (λc=>∃a b,c= [a,b,some (.str st)]) iy (λp=>iy (p.1,p.2.map (iz (jY st)))) ⟨none,none,rfl⟩ ?_
 refine iq (bj rfl (cH ?_))
 refine⟨l,rfl,trivial,h,λy g c f=> ?_,?_⟩
 ·obtain⟨a,b,rfl⟩:=f
  refine eO rfl (aC (bh (aC (bh (bE ?_)))))
  refine⟨rfl,⟨_,_,rfl⟩,?_⟩
  refine DX (fI (bj rfl (fI (D1 hst e (ok y g).2 (ok y g).1 rfl rfl (nO ⟨by show 2<=_;decide,rfl,rfl⟩)))))
 refine bW (λk z=>(nomatch z)) ?_ ?_
 ·simp only[cq]
  exact bq λp i=>AG _
 ·rw[QPq] at q
  exact q
theorem Jd{w:c7}(o:fJ w)(n:KU w){r:Rm}(f:r∈w.aj):GB ⟨false,r.ao.map (·.1)++ft,r.ao.map (·.1),r.aa.map (·.1),aX w.aj,[]⟩:=by
 have d:=n.r r f
 refine⟨λx b=> ?_,λx b=> ?_,λx b=> ?_,λg i=> ?_,λx b=>(nomatch b)⟩
 ·rcases mQa.mp b with h|h
  ·obtain⟨p,a,rfl⟩:=Qkq.mp h
   exact .inr (d.2.1 p a)
  ·exact .inl (Qfq.mp h)
 ·obtain⟨p,a,rfl⟩:=Qkq.mp b
  exact d.2.1 p a
 ·obtain⟨p,a,rfl⟩:=Qkq.mp b
  exact d.2.2.1 p a
 ·obtain⟨e,c,h⟩:=QOq.mp i
  obtain⟨p,a,rfl⟩:=Qkq.mp h
  exact⟨(n.r e c).1,(n.r e c).2.2.2 p a⟩
theorem Jo{w:c7}(o:fJ w)(n:KU w){h:List (Str×Nat)×List Rw}(j:h∈w.af):GB ⟨true,h.1.map (·.1)++w.ak.map (·.1),h.1.map (·.1)++w.ak.map (·.1),[],aX w.aj,w.ai.map (·.1)⟩:=by
 have c:∀x∈h.1.map (·.1)++w.ak.map (·.1),Nm x:=λx b=>by
  rcases mQa.mp b with e|e
  ·obtain⟨p,a,rfl⟩:=Qkq.mp e
   exact n.h h j p a
  ·obtain⟨p,a,rfl⟩:=Qkq.mp e
   exact n.s p a
 refine⟨λx b=>.inr (c x b),c,λx b=>(nomatch b),λg i=> ?_,λx b=> ?_⟩
 ·obtain⟨f,d,h⟩:=QOq.mp i
  obtain⟨p,a,rfl⟩:=Qkq.mp h
  exact⟨(n.r f d).1,(n.r f d).2.2.2 p a⟩
 ·obtain⟨p,a,rfl⟩:=Qkq.mp b
  exact n.p p a
def HP{w:c7}(o:fJ w)(n:KU w){S:aL}{Q:Res->aL->Prop}(q:Q (.d (dz (jY st) w).d) S):Fn jI [.str st,w.d] S Q:=by
 have W:=o.l1
 have Y:=o.l2
 have U:=o.l3
 have R:=o.l4
 refine cf ?_
 unfold sC
 symm
 refine⟨by decide,?_⟩
 refine bH (ik (tf (iq (g_ (bj rfl (qp (aA (d:=.tup (w.aj.map Rm.d)) rfl (cH ?_))))))))
 refine⟨λj a e=>(∃c f x A g i,a= [some (.str st),some w.d,some (.ref S.length),c,f,x,A,g,i,none,none])/\e=S++ [.lst (((w.aj.take j).map (wq (jY st))).map Rm.d)],⟨⟨_,_,_,_,_,_,rfl⟩,rfl⟩,λ_ _ _ _=>trivial,?_,?_⟩
 ·rintro j d a e b ⟨⟨c,f,x,A,g,i,rfl⟩,rfl⟩
  have b:(w.aj.map Rm.d)[j]?=some d:=b
  rw[gQm] at b
  obtain⟨r,F,rfl⟩:=oQm.mp b
  have J:=(gQs.mp F).1
  have u:=mQg F
  have or:=o.rm r u
  have B:=n.r r u
  have N:=or.l1
  have L:=or.l2
  have X:=or.l3
  apply eO rfl (aC (bh (aC (bh (aC (bh (aC (bh (aC (bh (bE ?_)))))))))))
  apply kn hst (λl:List Rw=>.tup (l.map Rw.d)) (l:=r.ae) (by omega) B.2.2.2 (λp _=>u6 p.2) ?_
  refine A_ hst (Jd hst o n u) (l:=r.ae.map (g8 (jY st))) (by rw[lQm];omega) (λp M=> ?_) ?_
  ·obtain⟨y,I,rfl⟩:=Qkq.mp M
   exact⟨(or.pr y I).1,by have:=(or.pr y I).2;show y.2.length<=1000;omega⟩
  apply jq (jQ ?_)
  apply⟨_,_,rfl,a_,?_⟩
  apply kg hst B.1 ?_
  apply kn hst (λv:Nat=>.int v) (l:=r.ao) (by omega) B.2.1 (λp _=>rfl) ?_
  apply kn hst (λv:Str=>.str v) (l:=r.aa) (by omega) B.2.2.1 (λp _=>rfl) ?_
  refine⟨by show 5<=_;decide,?_⟩
  symm
  refine⟨_,a_,⟨_,by unfold g6;exact Qhq (by simp only[lQm,Qxq];exact bu (by omega)),?_⟩⟩
  refine⟨⟨_,_,_,_,_,_,rfl⟩,?_⟩
  rw[QYq,F]
  simp only[Option.toList_some,Qzq,QDq,List.map_nil]
  rw[List.set_append_right _ _ (Qmq _)]
  simp only[Nat.sub_self,List.set_cons_zero]
  congr 4
  simp only[Rm.d,wq,QPq]
  rfl
 ·rintro a e ⟨⟨c,f,x,A,g,i,rfl⟩,rfl⟩
  have H:w.aj.take (w.aj.map Rm.d).length=w.aj:=by rw[lQm,QEq]
  dsimp only
  rw[H]
  symm
  refine⟨by decide,?_⟩
  generalize t:S++ [O.lst ((w.aj.map (wq (jY st))).map Rm.d)]=S1
  have K:S1[S.length]?=some (O.lst ((w.aj.map (wq (jY st))).map Rm.d)):=by rw[←t];exact a_
  have P:S.length<S1.length:=by rw[←t];simp
  refine bH (ik (tf (iq (g_ (bj rfl (qp (aA (d:=.tup (w.af.map jF)) rfl (cH ?_))))))))
  refine⟨λj a e=>(∃c f x A g i m,a= [some (.str st),some w.d,some (.ref S.length),c,f,x,A,g,i,some (.ref S1.length),m])/\e=S1++ [.lst (((w.af.take j).map (CM (jY st))).map jF)],⟨⟨_,_,_,_,_,_,_,rfl⟩,rfl⟩,λ_ _ _ _=>trivial,?_,?_⟩
  ·rintro j d a e b ⟨⟨c,f,x,A,g,i,m,rfl⟩,rfl⟩
   have b:(w.af.map jF)[j]?=some d:=b
   rw[gQm] at b
   obtain⟨h,C,rfl⟩:=oQm.mp b
   have J:=(gQs.mp C).1
   have u:=mQg C
   have G:=o.hd h u
   have N:=G.l1
   have L:=G.l2
   refine eO rfl (aC (bh (aC (bh (bE ?_)))))
   apply jq (jQ ?_)
   apply⟨_,_,rfl,a_,?_⟩
   refine kn hst (λv:Nat=>.int v) (l:=h.1) (by omega) (n.h h u) (λp _=>rfl) ?_
   apply fI (D1 hst (Jo hst o n u) (rs:=h.2) (by omega) G.pr rfl rfl ?_)
   refine⟨by show 2<=_;decide,?_⟩
   symm
   refine⟨_,a_,⟨_,by unfold g6;exact Qhq (by simp only[lQm,Qxq];exact bu (by omega)),?_⟩⟩
   refine⟨⟨_,_,_,_,_,_,_,rfl⟩,?_⟩
   rw[QYq,C]
   simp only[Option.toList_some,Qzq,QDq,List.map_nil]
   rw[List.set_append_right _ _ (Qmq _)]
   simp only[Nat.sub_self,List.set_cons_zero]
   rfl
  ·rintro a e ⟨⟨c,f,x,A,g,i,m,rfl⟩,rfl⟩
   have H:w.af.take (w.af.map jF).length=w.af:=by rw[lQm,QEq]
   dsimp only
   rw[H]
   symm
   refine cE (bz K) ?_
   apply⟨rfl,?_⟩
   apply aA (d:=.tup (w.ai.map vM)) rfl ?_
   apply kn hst (λv:Nat=>.int v) (l:=w.ai) (by omega) n.p (λp _=>rfl) ?_
   apply aA (d:=.tup (w.ak.map vM)) rfl ?_
   apply kn hst (λv:Nat=>.int v) (l:=w.ak) (by omega) n.s (λp _=>rfl) ?_
   refine cE a_ ?_
   apply⟨rfl,?_⟩
   refine⟨by show 4<=_;decide,?_⟩
   refine Eb (d:=(dz (jY st) w).d) (by rw[←t];exact u3.refl.app.app) (λk z=>(nomatch z)) (c7.low _) q
end
end W28
namespace DL
open PySem PySem.Spec L2
section
variable{Γ:dw}{S:aL}
def Jn{f:gu}{Q:(List D×(aL->Prop))->aL->Prop}(h:E f Γ S λp a=>Q (pH 0 p.1,λb=>p.2.stays b p.1) a):E (Dh f) Γ S Q:=by
 obtain⟨p,a,c,q⟩:=h
 exact⟨_,a,by unfold Dh;rw[c];rfl,q⟩
def Mj{f:gu}{Q:D->aL->Prop}(h:E f Γ S λp a=>p.2.isL=true/\∃bs,Kp p.1=some bs/\Q (.bl (bs.all id)) a):E (IH f) Γ S Q:=by
 obtain⟨p,a,b,l,bs,c,q⟩:=h
 exact⟨_,a,by unfold IH;rw[b];simp only[Qbq];rw[Qhq l,c];rfl,q⟩
def Hb{i j:Int}{Q:D->Prop}(h:HR i j)(q:Q (.int (i^j.toNat))):Op (yn S (.int i) (.int j)) Q:=⟨_,by simp only[yn,intD];rw[Qhq h],q⟩
def KH{i j:Int}{Q:D->Prop}(h:IntMulOk i j)(q:Q (.int (i*j))):Op (oS S (.int i) (.int j)) Q:=⟨_,by simp only[oS,intD];rw[Qhq h],q⟩
end
theorem Bg:∀n:Nat,Kp (List.replicate n (.bl true))=some (List.replicate n true)
 |0=>rfl
 |n+1=>by simp only[QNq,Kp];rw[Bg n];rfl
end DL
namespace W28
open PySem PySem.Spec L2 DL
section
variable{S S0:aL}{Q:Res->aL->Prop}
def x9(l:List Nat):l.map m_=(l.map λh:Nat=>(h:Int)).map D.int:=by rw[QPq];rfl
def lF{l:List Nat}:∀d∈l.map m_,(∀k,d≠.ref k)/\cq 0 d=true:=λd b=>by
 obtain⟨a,_,rfl⟩:=Qkq.mp b
 exact⟨λk z=>(nomatch z),rfl⟩
def JD{k i:Nat}{l:List Nat}{e:Int}(x:Ex k S0 S)(hi:i≠k)(u:S[i]?=some (.lst (l.map m_)))(B:0<l.length)(C:l.length<1000)
  (h:∀(m:Nat) (f:aL),m∈l->Ex k S0 f->Ex k S f->f.length=S.length->Q (.d (.int m)) f):Fn lj [.ref k,.ref i,.int e] S Q:=by
 have y:Ex k S S:=by obtain⟨a,b,c,A⟩:=x.pot;exact Ex.refl A
 have g:∀q,Ex k S q->q.length=S.length->T (cQ (aB bQ (ar (au 0) (ar (au 1) ay)))) [some (.ref k),some (.ref i),some (.int e)] q (λo=>match o with
   |.nx _ f=>Op (settle S .non f) λp=>Q p.1 p.2|.rt d f=>Op (settle S d f) λp=>Q p.1 p.2|.rl l f=>Op (eX S l f) λp=>Q p.1 p.2|_=>False):=λq t F=>by
  symm
  refine fO (xs:=l.map m_) t hi (t.keep _ _ hi u) (by simpa using B) (by simpa using C) lF (λd j=>ed (lF d j).2) λd f j r w n=> ?_
  obtain⟨m,s,rfl⟩:=Qkq.mp j
  dsimp only
  refine lI r x.lt (lF _ j).1 (ed (lF _ j).2) λa b c=> ?_
  exact h m _ s x.set y.set (by simp)
 refine cf ?_
 unfold vY
 apply bH (dk (yo (dI (wc ?_))))
 refine cE u ?_
 refine⟨_,_,rfl,by rw[x9];exact eW _,?_⟩
 rw[jK]
 show if decide (e∈l.map λh:Nat=>(h:Int))=true then _ else _
 by_cases c:e∈l.map λh:Nat=>(h:Int)
 ·rw[Qeq c,Qhq rfl]
  obtain⟨m,s,rfl⟩:=Qkq.mp c
  symm
  apply bX y (by decide) (by decide) λd f j r w n=> ?_
  refine ff ?_
  dsimp only
  by_cases v:(d:Int)=0
  ·rw[Qeq v,Qhq rfl]
   symm
   refine lI r x.lt (λk z=>(nomatch z)) rfl λa b c=> ?_
   exact h m _ s x.set y.set (by simp)
  ·rw[Qdq v,Quq (by decide)]
   refine cz ?_
   exact g f r n
 ·rw[Qdq c,Quq (by decide)]
  rw[Quq (by decide)]
  refine cz ?_
  exact g S y rfl
end
end W28
namespace DL
open PySem PySem.Spec L2
theorem zip_map{α a:Type}(f:α->D)(g:a->D):∀(xs:List α) (ys:List a),wG (xs.map f) (ys.map g)=(xs.zip ys).map λp=>D.tup [f p.1,g p.2]
 | [],_=>rfl
 |_::_,[]=>rfl
 | x::xs,y::ys=>by
   have:=zip_map f g xs ys
   simp only[wG,QDq,List.zipWith_cons_cons,List.zip_cons_cons] at this⊢
   rw[this]
end DL
namespace W28
open PySem PySem.Spec L2 DL
noncomputable def rh(l:List Int)(h:Int):Nat:=(l.map V.int).countP λz=>ph z (.int h)
def ja{l:List Int}{h:Int}:rh l h=0↔h∉l:=by
 induction l with
 |nil=>simp[rh]
 | cons a l b=>
   unfold rh at b⊢
   rw[QDq,List.countP_cons]
   by_cases c:a=h
   · subst c
     simp[ph]
   · have d:¬h=a:=λz=>c z.symm
     have e:ph (.int a) (.int h)=false:=by simp[ph,c]
     rw[e]
     simp only[Qsq,not_or,d,not_false_eq_true,true_and]
     simpa using b
noncomputable def xx(h:Nat)(p:(Str×Nat)×(Int×List Int)):List D:=List.replicate (rh p.2.2 h) (.tup [.str "pass",.str p.1.1])
noncomputable def ur(h:Nat)(nm:Str)(p:(Str×Str)×List (Int×Int)):List D:=List.replicate (p.2.filter λq=>decide (q.2=(h:Int))).length (.tup [.str "bell",.str nm,.str p.1.1])
noncomputable def sy(h:Nat)(p:Rm×gf):List D:=List.replicate (rh p.2.row h) (.tup [.str "row",.str p.1.name])++List.replicate (rh p.2.ag h) (.tup [.str "late",.str p.1.name])
noncomputable def kA(h:Nat)(p:Rm×gf):List D:=sy h p++(p.1.aa.zip p.2.aa).flatMap (ur h p.1.name)
noncomputable def gA(w:c7)(s:bG)(h:Nat):List D:=(w.ai.zip s.ai).flatMap (xx h)++(w.aj.zip s.aj).flatMap (kA h)
def tN{n:Nat}{d:D}(h:cq 0 d=true):∀x∈List.replicate n d,cq 0 x=true:=λx a=>by rw[QkQ a];exact h
def Fd(w:c7)(s:bG)(h:Nat):cj 0 (gA w s h)=true:=by
 refine tV λd b=> ?_
 unfold gA at b
 rcases mQa.mp b with b|b
 ·obtain⟨p,_,a⟩:=QOq.mp b
  exact tN rfl d a
 ·obtain⟨p,_,a⟩:=QOq.mp b
  unfold kA sy at a
  rcases mQa.mp a with a|a
  ·rcases mQa.mp a with a|a
   ·exact tN rfl d a
   ·exact tN rfl d a
  ·obtain⟨q,_,c⟩:=QOq.mp a
   exact tN rfl d c
section
variable{w:c7}{n:Nat}{s:bG}{S:aL}{Q:Res->aL->Prop}
def dE.zroom(x:dE w n s){j:Nat}{p:Rm×gf}(h:(w.aj.zip s.aj)[j]?=some p):w.aj[j]?=some p.1/\s.aj[j]?=some p.2/\j6 n p.1 p.2:=by
 rw[List.getElem?_zip_eq_some] at h
 exact⟨h.1,h.2,x.rm j _ _ h.1 h.2⟩
end
noncomputable def qG(w:c7)(h:Nat):Nat:=((w.af[h]?).map λp=>p.2.length).getD 0
noncomputable def MC(w:c7)(i:Int):Str:=((w.aj[i.toNat]?).map (·.name)).getD ""
noncomputable def wit(s:bG)(i:Int):Int:=((s.aj[i.toNat]?).map (·.within)).getD (-1)
noncomputable def sj(w:c7)(s:bG)(h:Nat)(f:dg):Str:=if f.room= -1 then(if f.row=(qG w h:Int) then "done" else "out") else(if wit s f.room=(h:Int) then "within" else "called")
noncomputable def xh(w:c7)(s:bG)(h:Nat)(f:dg):D:=if f.room= -1 then .tup [.str (sj w s h f)] else .tup [.str (sj w s h f),.str (MC w f.room)]
noncomputable def vO(w:c7)(s:bG)(h:Nat)(f:dg):D:=match gA w s h with
 |d::_=>d
 | []=>xh w s h f
section
variable{w:c7}{n h:Nat}{s:bG}{S:aL}{Q:Res->aL->Prop}{vs:List Int}{fs:List dg}{f:dg}
def dE.at(x:dE w n s)(g:s.af[h]?=some (vs,fs))(k:fs.getLast? =some f):f.room= -1\/∃(i:Nat) (r:Rm) (rs:gf),f.room=i/\w.aj[i]?=some r/\s.aj[i]?=some rs/\MC w f.room=r.name/\wit s f.room=rs.within:=by
 obtain⟨p,z,v,l⟩:=x.whand g
 have e:=l.fr f (QcQ k)
 obtain⟨o,m,_⟩:=e.pr
 rcases lD m with⟨c,_⟩|⟨i,j,r,q,d,u,b,t⟩
 ·exact .inl c
 ·obtain⟨rs,a,y⟩:=x.wroom b
  refine .inr ⟨i,r,rs,d,b,a,?_,?_⟩
  ·unfold MC
   rw[d,show((i:Int)).toNat=i by omega,b]
   rfl
  ·unfold wit
   rw[d,show((i:Int)).toNat=i by omega,a]
   rfl
def FK{d:D}(e:d∈gA w s h):∃(a:Str) (ss:List Str),d=.tup ((a::ss).map D.str)/\a∈(["pass","row","late","bell"]:List Str)/\ss.length<=2:=by
 unfold gA at e
 rcases mQa.mp e with c|c
 ·obtain⟨p,_,b⟩:=QOq.mp c
  exact⟨"pass",[p.1.1],QkQ b,by simp,by simp⟩
 ·obtain⟨p,_,b⟩:=QOq.mp c
  unfold kA sy at b
  rcases mQa.mp b with b|b
  ·rcases mQa.mp b with b|b
   ·exact⟨"row",[p.1.name],QkQ b,by simp,by simp⟩
   ·exact⟨"late",[p.1.name],QkQ b,by simp,by simp⟩
  ·obtain⟨q,_,g⟩:=QOq.mp b
   exact⟨"bell",[p.1.name,q.1.1],QkQ g,by simp,by simp⟩
end
noncomputable def headD(l:List D):D:=match l with
 |d::_=>d
 | []=>.non
def jZ{α:Type}{f:α->List D}{l:List α}{n:Nat}{a:α}{d:D}{r:List D}(g:(l.take n).flatMap f= [])(b:l[n]?=some a)(hd:f a=d::r):∃t,l.flatMap f=d::t:=by
 have e:l=l.take n++a::l.drop (n+1):=by
  have c:=(gQs.mp b).1
  rw[gQe c] at b
  cases b
  rw[←QWq c,List.take_append_drop]
 rw[e,List.flatMap_append,g,QSq,hd]
 exact⟨_,rfl⟩
def tE{α:Type}{n:Nat}{d:α}(h:n≠0):∃t,List.replicate n d=d::t:=by
 cases n with
 |zero=>exact absurd rfl h
 |succ n=>exact⟨_,QNq⟩
def xk{h:Nat}{l:List (Int×Int)}:(l.filter λq=>decide (q.2=(h:Int))).length=0↔(h:Int)∉l.map (·.2):=by
 rw[List.length_eq_zero_iff,List.filter_eq_nil_iff]
 constructor
 ·intro g z
  obtain⟨q,a,e⟩:=Qkq.mp z
  exact g q a (Qeq e)
 ·intro g q a z
  exact g (Qkq.mpr ⟨q,a,QZq z⟩)
section
variable{w:c7}{n h:Nat}{s:bG}{S:aL}{Q:Res->aL->Prop}{vs:List Int}{fs:List dg}{f:dg}
def F0(o:fJ w)(x:dE w n s)(hn:n<=100)(q:Q (.d (headD (gA w s h))) S):Fn gn [w.d,s.d,.int h] S Q:=by
 have lr:=x.lr
 have lp:=x.lp
 have r:∀{d:D} {t:List D} {R:Res->aL->Prop},gA w s h=d::t->(∀k,d≠.ref k)->cq 0 d=true->Op (settle S d S) λp=>Q p.1 p.2:=λ{d t R} e h1 h2=>by
  rw[e] at q
  exact bW h1 h2 q
 refine cf ?_
 unfold lH
 apply bH (ik (uc ?_))
 refine aA rfl ?_
 apply cH (ds:=w.ai.map vM) ?_
 refine aA rfl ?_
 refine cH (ds:=s.ai.map CF) ?_
 refine⟨⟨trivial,by simp only[lQm];omega⟩,?_⟩
 rw[zip_map]
 refine⟨λj l I=>(∃a b c d e f g i k,l= [some w.d,some s.d,some (.int h),a,b,c,d,e,f,g,i,k])/\I=S/\((w.ai.zip s.ai).take j).flatMap (xx h)= [],⟨⟨_,_,_,_,_,_,_,_,_,rfl⟩,rfl,rfl⟩,λ_ _ _ _=>⟨trivial,trivial⟩,?_,?_⟩
 ·rintro j d l I y ⟨⟨a,b,c,G,e,P,g,i,k,rfl⟩,rfl,h0⟩
  rw[gQm] at y
  obtain⟨p,A,rfl⟩:=oQm.mp y
  refine eO rfl (aC (eO rfl (aC (bh (aC (bh (bE ?_)))))))
  refine aC (eO rfl (aC (bh (aC (bh (bE ?_))))))
  refine bE ?_
  apply dk (dI (wc ?_))
  refine cH (ds:=p.2.2.map D.int) ?_
  refine⟨_,_,rfl,eW _,?_⟩
  rw[jK]
  show if decide ((h:Int)∈p.2.2)=true then _ else _
  by_cases v:(h:Int)∈p.2.2
  ·rw[Qeq v,Qhq rfl]
   symm
   refine⟨by show 2<=_;decide,?_⟩
   obtain⟨t,C⟩:=tE (n:=rh p.2.2 h) (d:=D.tup [.str "pass",.str p.1.1]) λz=>ja.mp z v
   obtain⟨K,u⟩:=jZ h0 A (show xx h p=_::_ from C)
   exact r (R:=Q) (show gA w s h=_::(K++_) by unfold gA;rw[u];rfl) (λk z=>(nomatch z)) rfl
  ·rw[Qdq v,Quq (by decide)]
   refine cz ?_
   refine⟨⟨_,_,_,_,_,_,_,_,_,rfl⟩,rfl,?_⟩
   rw[ib A,h0]
   unfold xx
   rw[ja.mpr v]
   rfl
 rintro l I ⟨⟨a,b,c,G,e,P,g,i,k,rfl⟩,rfl,h0⟩
 rw[lQm,QEq] at h0
 have M:gA w s h=(w.aj.zip s.aj).flatMap (kA h):=by unfold gA;rw[h0];rfl
 apply bH (ik (uc ?_))
 refine aA rfl ?_
 apply cH (ds:=w.aj.map Rm.d) ?_
 refine aA rfl ?_
 refine cH (ds:=s.aj.map gf.d) ?_
 refine⟨⟨trivial,by simp only[lQm];omega⟩,?_⟩
 rw[zip_map]
 refine⟨λj l H=>(∃a b c d e f g i k,l= [some w.d,some s.d,some (.int h),a,b,c,d,e,f,g,i,k])/\H=I/\((w.aj.zip s.aj).take j).flatMap (kA h)= [],⟨⟨_,_,_,_,_,_,_,_,_,rfl⟩,rfl,rfl⟩,λ_ _ _ _=>⟨trivial,trivial⟩,?_,?_⟩
 ·rintro j d l H y ⟨⟨a,b,c,G,e,P,g,i,k,rfl⟩,rfl,h1⟩
  rw[gQm] at y
  obtain⟨p,A,rfl⟩:=oQm.mp y
  obtain⟨a2,a1,X⟩:=x.zroom A
  have lb:=X.lb
  refine eO rfl (aC (bh (aC (bh (bE ?_)))))
  apply bH (dk (dI (wc ?_)))
  refine aA rfl ?_
  refine cH (ds:=p.2.row.map D.int) ?_
  refine⟨_,_,rfl,eW _,?_⟩
  rw[jK]
  show if decide ((h:Int)∈p.2.row)=true then _ else _
  by_cases v:(h:Int)∈p.2.row
  ·rw[Qeq v,Qhq rfl]
   symm
   apply aA (d:=.str p.1.name) rfl ?_
   refine⟨by show 2<=_;decide,?_⟩
   obtain⟨t,C⟩:=tE (n:=rh p.2.row h) (d:=D.tup [.str "row",.str p.1.name]) λz=>ja.mp z v
   obtain⟨K,u⟩:=jZ h1 A (show kA h p=_::_ by unfold kA sy;rw[C];rfl)
   exact r (R:=Q) (M.trans u) (λk z=>(nomatch z)) rfl
  rw[Qdq v,Quq (by decide)]
  refine cz ?_
  have Y:List.replicate (rh p.2.row h) (D.tup [.str "row",.str p.1.name])= []:=by rw[ja.mpr v];rfl
  apply bH (dk (dI (wc ?_)))
  refine aA rfl ?_
  refine cH (ds:=p.2.ag.map D.int) ?_
  refine⟨_,_,rfl,eW _,?_⟩
  rw[jK]
  show if decide ((h:Int)∈p.2.ag)=true then _ else _
  by_cases L:(h:Int)∈p.2.ag
  ·rw[Qeq L,Qhq rfl]
   symm
   apply aA (d:=.str p.1.name) rfl ?_
   refine⟨by show 2<=_;decide,?_⟩
   obtain⟨t,C⟩:=tE (n:=rh p.2.ag h) (d:=D.tup [.str "late",.str p.1.name]) λz=>ja.mp z L
   obtain⟨K,u⟩:=jZ h1 A (show kA h p=_::_ by unfold kA sy;rw[Y,C];rfl)
   exact r (R:=Q) (M.trans u) (λk z=>(nomatch z)) rfl
  rw[Qdq L,Quq (by decide)]
  refine cz ?_
  have Z:sy h p= []:=by unfold sy;rw[Y,ja.mpr L];rfl
  have F:kA h p=(p.1.aa.zip p.2.aa).flatMap (ur h p.1.name):=by unfold kA;rw[Z];rfl
  apply ik (uc ?_)
  refine aA rfl ?_
  apply cH (ds:=p.1.aa.map Im) ?_
  refine aA rfl ?_
  refine cH (ds:=p.2.aa.map fM) ?_
  refine⟨⟨trivial,by simp only[lQm];omega⟩,?_⟩
  rw[zip_map]
  refine⟨λm l U=>(∃a b c d g i k,l= [some w.d,some s.d,some (.int h),a,b,c,d,some p.1.d,some p.2.d,g,i,k])/\U=H/\((p.1.aa.zip p.2.aa).take m).flatMap (ur h p.1.name)= [],⟨⟨_,_,_,_,_,_,_,rfl⟩,rfl,rfl⟩,λ_ _ _ _=>⟨trivial,trivial⟩,?_,?_⟩
  ·rintro m d l U y ⟨⟨a,b,c,G,g,i,k,rfl⟩,rfl,h2⟩
   rw[gQm] at y
   obtain⟨B,W,rfl⟩:=oQm.mp y
   have a0:=X.bb B.2 (QeQ (show(B.1,B.2)∈_ from mQg W)).2
   refine eO rfl (aC (eO rfl (aC (bh (aC (bh (bE ?_)))))))
   refine aC (bh (bE ?_))
   apply dk (dI (wc ?_))
   refine sM (by omega) ?_
   dsimp only
   refine⟨_,_,rfl,eW _,?_⟩
   rw[jK]
   show if decide ((h:Int)∈B.2.map (·.2))=true then _ else _
   by_cases J:(h:Int)∈B.2.map (·.2)
   ·rw[Qeq J,Qhq rfl]
    symm
    apply aA (d:=.str p.1.name) rfl ?_
    refine⟨by show 3<=_;decide,?_⟩
    obtain⟨t,C⟩:=tE (n:=(B.2.filter λq=>decide (q.2=(h:Int))).length) (d:=D.tup [.str "bell",.str p.1.name,.str B.1.1]) λz=>xk.mp z J
    obtain⟨t3,N⟩:=jZ h2 W (show ur h p.1.name B=_::_ from C)
    obtain⟨K,u⟩:=jZ h1 A (F.trans N)
    exact r (R:=Q) (M.trans u) (λk z=>(nomatch z)) rfl
   ·rw[Qdq J,Quq (by decide)]
    refine cz ?_
    refine⟨⟨_,_,_,_,_,_,_,rfl⟩,rfl,?_⟩
    rw[ib W,h2]
    unfold ur
    rw[xk.mpr J]
    rfl
  ·rintro l U ⟨⟨a,b,c,G,g,i,k,rfl⟩,rfl,h2⟩
   rw[lQm,QEq] at h2
   refine⟨⟨_,_,_,_,_,_,_,_,_,rfl⟩,rfl,?_⟩
   rw[ib A,h1,F,h2]
   rfl
 ·rintro l H ⟨⟨a,b,c,G,e,P,g,i,k,rfl⟩,rfl,h1⟩
  rw[lQm,QEq] at h1
  rw[M,h1] at q
  symm
  exact bW (λk z=>(nomatch z)) rfl q
def xK(o:fJ w)(x:dE w n s)(G:n<=100)(g:s.af[h]?=some (vs,fs))(y:fs.getLast? =some f)(q:Q (.d (vO w s h f)) S):Fn qg [w.d,s.d,.int h] S Q:=by
 have m:=Fd w s h
 have A:∀d∈gA w s h,_:=λd C=>FK C
 obtain⟨L,p,v,N⟩:=x.whand g
 have t:qG w h=p.length:=by unfold qG;rw[v];rfl
 refine cf ?_
 unfold DG
 symm
 apply F0 o x G ?_
 refine xE ?_
 unfold vO at q
 cases B:gA w s h with
 | cons d l=>
   rw[B] at q m A
   obtain⟨a,M,rfl,_⟩:=A d (QBq ..)
   apply aW (λ_=> ?_) (λc=>by cases c)
   exact bW (λk z=>(nomatch z)) (by simp only[cj,QCq] at m;exact m.1) q
 | nil=>
   rw[B] at q
   refine aW (λc=>by cases c) (λ_=>cz ?_)
   have q:Q (.d (xh w s h f)) S:=q
   unfold xh sj at q
   symm
   apply cx g y ?_
   apply aA (d:=.int f.room) rfl ?_
   refine ff ?_
   rcases x.at g y with c|⟨i,r,u,I,F,j,K,H⟩
   · rw[Qhq c,Qhq c,t] at q
     rw[Qeq c]
     refine aW (λ_=> ?_) (λc=>by cases c)
     have J:progOf w h f=some p:=by unfold progOf;rw[Qhq c,v];rfl
     symm
     apply aA (d:=.int f.row) rfl ?_
     apply gh J ?_
     refine ff ?_
     rw[lQm]
     by_cases b:f.row=(p.length:Int)
     · rw[Qhq b] at q
       rw[Qeq b]
       apply aW (λ_=> ?_) (λc=>by cases c)
       refine⟨by show 1<=_;decide,?_⟩
       exact bW (λk z=>(nomatch z)) rfl q
     · rw[Quq b] at q
       rw[Qdq b]
       apply aW (λc=>by cases c) (λ_=> ?_)
       refine⟨by show 1<=_;decide,?_⟩
       exact bW (λk z=>(nomatch z)) rfl q
   · have e:¬f.room= -1:=by omega
     rw[Quq e,Quq e,K,H] at q
     rw[Qdq e,I]
     apply aW (λc=>by cases c) (λ_=>cz ?_)
     apply aA rfl ?_
     refine aA (d:=r.d) (bD (by rw[gQm,F];rfl)) ?_
     symm
     apply aA (d:=.str r.name) rfl ?_
     apply aA rfl ?_
     refine aA (d:=u.d) (bD (by rw[gQm,j];rfl)) ?_
     symm
     apply aA (d:=.int u.within) rfl ?_
     refine ff ?_
     by_cases b:u.within=(h:Int)
     · rw[Qhq b] at q
       rw[Qeq b]
       apply aW (λ_=> ?_) (λc=>by cases c)
       refine⟨by show 2<=_;decide,?_⟩
       exact bW (λk z=>(nomatch z)) rfl q
     · rw[Quq b] at q
       rw[Qdq b]
       apply aW (λc=>by cases c) (λ_=> ?_)
       refine⟨by show 2<=_;decide,?_⟩
       exact bW (λk z=>(nomatch z)) rfl q
end
section
variable{S S0:aL}{Q:Res->aL->Prop}
def Pl:Nat->D->Prop
 |0,_=>False
 |_+1,.int _=>True
 |_+1,.str _=>True
 |n+1,.tup ds=>ds.length<=1000/\∀d∈ds,Pl n d
 |_+1,_=>False
theorem AW:∀ds:List D,wG ds ds=ds.map λd=>D.tup [d,d]
 | []=>rfl
 | d::ds=>by
   have:=AW ds
   simp only[wG,List.zipWith_cons_cons,QDq] at this⊢
   rw[this]
theorem yI:∀(n:Nat) (d:D) {S:aL} {Q:Res->aL->Prop},Pl n d->Q (.d (.bl true)) S->Fn (gE n) [d,d] S Q
 |0,_,_,_,h,_=>h.elim
 | n+1,.int i,S,Q,_,q=>by
   refine cf ?_
   unfold kT
   refine bH (dk (cT (d:=.int i) (bj rfl ⟨rfl,rfl⟩) rfl ?_))
   refine aW (λc=>by cases c) (λ_=>cz ?_)
   refine bH (dk (rT (cT (d:=.int i) (bj rfl ⟨rfl,rfl⟩) rfl ?_)))
   apply aW (λc=>by cases c) (λ_=> ?_)
   refine xE ?_
   refine aW (λc=>by cases c) (λ_=>cz ?_)
   refine j3 (vN (Bm (bj rfl ⟨_,rfl,true,rfl,?_⟩)))
   rw[Qhq rfl]
   refine vN (Kn (Bm (bj rfl ⟨_,rfl,false,rfl,true,rfl,?_⟩)))
   rw[Qhq rfl]
   symm
   refine ff ?_
   rw[Qeq rfl]
   exact bW (λk z=>(nomatch z)) rfl q
 | n+1,.str i,S,Q,_,q=>by
   refine cf ?_
   unfold kT
   refine bH (dk (cT (d:=.str i) (bj rfl ⟨rfl,rfl⟩) rfl ?_))
   refine aW (λc=>by cases c) (λ_=>cz ?_)
   refine bH (dk (rT (cT (d:=.str i) (bj rfl ⟨rfl,rfl⟩) rfl ?_)))
   refine aW (λ_=> ?_) (λc=>by cases c)
   refine aW (λ_=> ?_) (λc=>by cases c)
   refine j3 (vN (g_ (Bm (bj rfl ⟨_,rfl,Bm (bj rfl ⟨_,rfl,.bl true,rfl,true,rfl,?_⟩)⟩))))
   rw[Qhq rfl]
   symm
   refine iU ?_
   rw[Qeq rfl]
   exact bW (λk z=>(nomatch z)) rfl q
 | n+1,.tup ds,S,Q,h,q=>by
   refine cf ?_
   unfold kT
   refine bH (dk (cT (d:=.tup ds) (bj rfl ⟨rfl,rfl⟩) rfl ?_))
   refine aW (λ_=> ?_) (λc=>by cases c)
   refine bH (dk (rT (K8 (cT (d:=.tup ds) (bj rfl ⟨rfl,rfl⟩) rfl ?_))))
   apply aW (λc=>by cases c) (λ_=> ?_)
   refine nN ?_
   rw[Qeq rfl]
   refine aW (λc=>by cases c) (λ_=>cz ?_)
   refine j3 (Mj (uS ?_))
   apply t_ (α:=D) (λe=>∃a b,e= [a,b]) (λd=>D.tup [d,d]) (λ_=>.bl true) (λ_=>true) ⟨none,none,rfl⟩ (uc ?_)
   refine⟨⟨trivial,Qmq _⟩,ds,AW ds,⟨trivial,trivial⟩,h.1,λd g e f=> ?_,?_⟩
   · obtain⟨a,b,rfl⟩:=f
     refine eO rfl (aC (bh (aC (bh (bE ?_)))))
     apply⟨rfl,⟨_,_,rfl⟩,yS ⟨rfl,rfl,λ_=> ?_⟩⟩
     exact yI n d (h.2 d g) ⟨rfl,rfl⟩
   · refine⟨rfl,List.replicate ds.length true,?_,?_⟩
     · rw[←Bg]
       congr 1
       rw[List.filter_eq_self.mpr (λ_ _=>rfl),List.map_const']
     · have:(List.replicate ds.length true).all id=true:=by simp
       rw[this]
       exact bW (λk z=>(nomatch z)) rfl q
end
abbrev E9:=List (Nat×bG×Option Int)
noncomputable def fw(w:c7)(tr:E9):bG:=match tr.getLast? with
 |none=>eC w
 |some x=>x.2.1
noncomputable def nk(x:Nat×bG×Option Int):List (Nat×Int):=match x.2.2 with
 |none=> []
 |some v=> [(x.1,v)]
noncomputable def C3(tr:E9):List (Nat×Int):=tr.flatMap nk
noncomputable def L3(p:Nat×Int):D:=.tup [.int p.1,.int p.2]
def Aj(w:c7)(tr:E9):Prop:=∀(n:Nat) (h:Nat) (a:bG) (e:Option Int),tr[n]?=some (h,a,e)->Gs w (fw w (tr.take n))/\h∈nh w (fw w (tr.take n))/\uC w (fw w (tr.take n)) h a e
def Fx{w:c7}{tr:E9}{n:Nat}{x:Nat×bG×Option Int}(h:tr[n]?=some x):fw w (tr.take (n+1))=x.2.1:=by
 unfold fw
 rw[QYq,h]
 simp
def GS{w:c7}{tr:E9}{x:Nat×bG×Option Int}:fw w (tr++ [x])=x.2.1:=by
 unfold fw
 simp
def Aj.app{w:c7}{tr:E9}{h:Nat}{d:bG}{e:Option Int}(x:Aj w tr)(f:Gs w (fw w tr))(m:h∈nh w (fw w tr))(i:uC w (fw w tr) h d e):Aj w (tr++ [(h,d,e)]):=by
 intro n k g l a
 by_cases c:n<tr.length
 ·rw[QHq c] at a
  rw[List.take_append_of_le_length (by omega)]
  exact x n k g l a
 ·have j:=(gQs.mp a).1
  have b:n=tr.length:=by simp at j;omega
  subst b
  simp at a
  obtain⟨rfl,rfl,rfl⟩:=a
  rw[List.take_append_of_le_length (by omega),QEq]
  exact⟨f,m,i⟩
def zD{tr:E9}:(C3 tr).length<=tr.length:=by
 have:=mJ (f:=nk) (n:=1) (l:=tr) λx _=>by unfold nk;split <;>simp
 unfold C3
 omega
noncomputable def nP(w:c7)(tr:E9):D:=.tup [(fw w tr).d,.tup ((C3 tr).map L3)]
section
variable{S S0:aL}{Q:Res->aL->Prop}
def Fw{w:c7}{tr:E9}(o:fJ w)(ok:Aj w tr)(F:tr.length<=900)(q:Q (.d (nP w tr)) S):Fn tH [w.d,.tup ((tr.map (·.1)).map m_)] S Q:=by
 refine cf ?_
 unfold DR
 symm
 apply Ae o ?_
 refine⟨by decide,?_⟩
 apply bH (ik (Jn ?_))
 refine⟨λn g j=>(∃a b c,g= [some w.d,some (.tup ((tr.map (·.1)).map m_)),some (fw w (tr.take n)).d,some (.ref S.length),a,b,c])/\j=S++ [.lst ((C3 (tr.take n)).map L3)],⟨⟨_,_,_,rfl⟩,rfl⟩,λ_ _ _ _=>trivial,?_,?_⟩
 ·rintro n d g j B ⟨⟨a,b,c,rfl⟩,rfl⟩
  obtain⟨x,t,rfl⟩:=qB B
  rw[gQm,gQm] at t
  obtain⟨G,p,rfl⟩:=oQm.mp t
  obtain⟨⟨h,l,e⟩,f,rfl⟩:=oQm.mp p
  obtain⟨y,u,r⟩:=ok n h l e f
  have A:fw w (tr.take (n+1))=l:=Fx f
  have i:C3 (tr.take (n+1))=C3 (tr.take n)++nk (h,l,e):=ib f
  have C:(C3 (tr.take n)).length<=900:=by
   have:=zD (tr:=tr.take n)
   rw[Qxq] at this
   omega
  generalize fw w (tr.take n)=s at y u r⊢
  generalize C3 (tr.take n)=es at i C⊢
  refine eO rfl (aC (bh (aC (bh (bE ?_)))))
  apply bH (dk (dI (wc ?_)))
  refine y _ _ ?_
  dsimp only
  refine⟨_,_,rfl,by rw[x9];exact eW _,?_⟩
  rw[jK,Qeq (Qkq.mpr ⟨h,u,rfl⟩)]
  apply aW (λc=>by cases c) (λ_=>cz ?_)
  refine r _ _ ?_
  apply eO rfl (aC (bh (aC (bh (bE ?_)))))
  refine xE ?_
  cases e with
  | none=>
    refine aW (λc=>by cases c) (λ_=>cz ?_)
    refine⟨⟨_,_,_,by rw[A];rfl⟩,?_⟩
    rw[i]
    simp[nk]
  | some v=>
    refine aW (λ_=> ?_) (λc=>by cases c)
    apply jq (jQ ?_)
    apply⟨_,_,rfl,a_,?_⟩
    refine⟨_,a_,⟨_,by unfold g6;exact Qhq (by rw[lQm];exact bu (by omega)),?_⟩⟩
    refine⟨⟨_,_,_,by rw[A];rfl⟩,?_⟩
    rw[i]
    simp[nk,L3,J5]
 ·rintro g j ⟨⟨a,b,c,rfl⟩,rfl⟩
  have m:(pH 0 ((tr.map (·.1)).map m_)).length=tr.length:=by rw[qx];simp
  rw[m,QEq]
  symm
  refine cE a_ ?_
  apply⟨rfl,?_⟩
  refine⟨by show 2<=_;decide,?_⟩
  refine Eb (d:=nP w tr) (u3.refl.app) (λk z=>(nomatch z)) ?_ q
  simp only[nP,cq,cj,bG.low,Bool.and_true,Bool.true_and]
  exact bq λ_ _=>rfl
end
end W28
namespace DL
open PySem PySem.Spec L2
def GD{S:aL}{k:Nat}{ds:List D}{Q:List D×Tag->Prop}(a:S[k]?=some (.frz ds))(q:Q (ds,.fz k)):Op (pz S (.ref k)) Q:=⟨_,by simp only[pz,a],q⟩
def MP{S:aL}{k:Nat}{ds:List D}{i:Int}{d:D}{Q:D->Prop}(a:S[k]?=some (.frz ds))(h:lL ds i=some d)(q:Q d):Op (bg S (.ref k) (.int i)) Q:=⟨_,by simp only[bg,a];exact h,q⟩
def L7{i:Int}{Q:D->Prop}(q:Q (.int (if i<0 then -i else i))):Op (Jg [.int i]) Q:=⟨_,rfl,q⟩
def Gg{b:Bool}{Q:D->Prop}(q:Q (.int (if b then 1 else 0))):Op (intOfD [.bl b]) Q:=⟨_,rfl,q⟩
def vT{j:Nat}{n:Nat}{d:D}(h:(jx 0 (j:Int))[n]?=some d):d=.int n/\n<j:=by
 have a:n<j:=by
  have:=(gQs.mp h).1
  unfold jx at this
  simpa using this
 unfold jx at h
 rw[gQm,List.getElem?_range (by simpa using a)] at h
 cases h
 exact⟨by simp,a⟩
end DL
namespace W28
open PySem PySem.Spec L2 DL
section
variable{S:aL}{Q:Res->aL->Prop}
def LQ{ns:List Int}{k:Nat}(i:S[0]?=some (.frz (ns.map D.int)))(q:∀a b:Int,Q (.l [.int a,.int b,.int 0]) S):Fn m5 [.ref 0,.int k] S Q:=by
 refine cf ?_
 unfold xb
 have f:∀e:Int,T (aK (bt 3 (aI oS (aI sV (au 2) (aI oS (aI yn (cF (.int 10)) (cF (.int 60))) (aI yn (cF (.int 10)) (cF (.int 60))))) (Bw intOfD (ar (aI Om (au 2) (aI yn (cF (.int 10)) (cF (.int 18)))) ay))))
   (GW (cp (ar (au 3) (ar (aI sV (aI b_ (aI b_ (au 2) (aI oS (cF (.int 104729)) (au 1))) (cF (.int 7))) (cF (.int 2305843009213693951))) (ar (cF (.int 0)) ay))))))
   [some (.ref 0),some (.int k),some (.int e),none] S (λo=>match o with
   |.nx _ g=>Op (settle S .non g) λp=>Q p.1 p.2|.rt d g=>Op (settle S d g) λp=>Q p.1 p.2|.rl l g=>Op (eX S l g) λp=>Q p.1 p.2|_=>False):=by
  intro e
  symm
  apply Hb ⟨by decide,by decide,by decide⟩ ?_
  apply Hb ⟨by decide,by decide,by decide⟩ ?_
  refine KH (IntMulOk.of_bits (by decide +kernel) (by decide +kernel)) ?_
  refine vP (show(0:Int)<10^(60:Int).toNat*10^(60:Int).toNat by decide +kernel) ?_
  generalize e%(10^(60:Int).toNat*10^(60:Int).toNat)=c1
  symm
  refine Hb ⟨by decide,by decide,by decide⟩ ?_
  generalize (10:Int)^(18:Int).toNat=c2
  symm
  refine Gg ?_
  have h:Je c1 (if decide (c2<=e)=true then 1 else 0):=by
   right
   split <;>decide
  generalize (if decide (c2<=e)=true then(1:Int) else 0)=c3 at h⊢
  apply xj h ?_
  apply xj (.inl ⟨by decide,by decide⟩) ?_
  apply vP (by decide) ?_
  refine⟨by show 3<=_;decide,?_⟩
  exact Hx rfl (q _ _)
 symm
 apply GD i ?_
 rw[lQm]
 by_cases c:(k:Int)<ns.length
 ·rw[Qeq c,Qhq rfl]
  have j:k<ns.length:=by omega
  symm
  refine MP i (bD (x:=.int ns[k]) (by rw[gQm,gQe j];rfl)) ?_
  symm
  refine L7 ?_
  exact f _
 ·rw[Qdq c,Quq (by decide)]
  refine cz ?_
  exact f 0
end
section
variable{S:aL}{Q:Res->aL->Prop}
def m8{n:Nat}{l:List Int}(h:l.length<=1000):Pl (n+2) (dQ l):=⟨by simpa using h,λd b=>by
 obtain⟨a,_,rfl⟩:=Qkq.mp b
 exact trivial⟩
def oT{α:Type}{n:Nat}{f:α->D}{l:List α}(h:l.length<=1000)(e:∀a∈l,Pl n (f a)):Pl (n+1) (.tup (l.map f)):=⟨by simpa using h,λd c=>by
 obtain⟨a,b,rfl⟩:=Qkq.mp c
 exact e a b⟩
def HN{w:c7}{n:Nat}{s:bG}(o:fJ w)(x:dE w n s)(A:n<=100):Pl 9 s.d:=by
 have L:=o.l1
 have P:=o.l2
 have I:=o.l3
 have B:=o.l4
 have R:=x.lr
 have H:=x.lp
 have F:=x.ls
 have N:=x.lh
 refine⟨by show 4<=1000;decide,λd a=> ?_⟩
 simp only[Qsq,QXq,or_false] at a
 rcases a with rfl|rfl|rfl|rfl
 ·refine oT (n:=7) (by omega) λt m=> ?_
  obtain⟨i,k,e⟩:=QbQ m
  have j:s.aj[i]?=some t:=by rw[gQe k,e]
  have g:w.aj[i]?=some (w.aj[i]'(by omega)):=gQe (by omega)
  have b:=x.rm i _ t g j
  have c:=o.rm _ (mQg g)
  have r:=c.l1
  have y:=c.l2
  have v:=b.lv
  have K:=b.lb
  have G:=b.br
  have C:=b.bl
  refine⟨by show 5<=1000;decide,λd a=> ?_⟩
  simp only[Qsq,QXq,or_false] at a
  rcases a with rfl|rfl|rfl|rfl|rfl
  ·exact m8 (by omega)
  ·exact trivial
  ·exact m8 (by omega)
  ·exact m8 (by omega)
  ·refine oT (n:=5) (by omega) λl u=> ?_
   have:=b.bb l u
   refine oT (n:=4) (by omega) λp h=> ?_
   refine⟨by show 2<=1000;decide,λd a=> ?_⟩
   simp only[Qsq,QXq,or_false] at a
   rcases a with rfl|rfl <;>exact trivial
 ·refine oT (n:=7) (by omega) λp h=> ?_
  have:=x.ps p h
  refine⟨by show 2<=1000;decide,λd a=> ?_⟩
  simp only[Qsq,QXq,or_false] at a
  rcases a with rfl|rfl
  ·exact trivial
  ·exact m8 (by omega)
 ·exact m8 (by omega)
 ·refine oT (n:=7) (by omega) λp h=> ?_
  obtain⟨i,k,e⟩:=QbQ h
  have j:s.af[i]?=some (p.1,p.2):=by rw[gQe k,e]
  obtain⟨z,M,g,q⟩:=x.whand j
  have r:=(o.hd _ (mQg g)).l1
  have y:=q.lv
  have v:=q.lf
  refine⟨by show 2<=1000;decide,λd a=> ?_⟩
  simp only[Qsq,QXq,or_false] at a
  rcases a with rfl|rfl
  ·exact m8 (by dsimp only at r;omega)
  ·refine oT (n:=5) (by omega) λf J=> ?_
   refine⟨by show 5<=1000;decide,λd a=> ?_⟩
   simp only[Qsq,QXq,or_false] at a
   rcases a with rfl|rfl|rfl|rfl|rfl <;>exact trivial
def IZ{w:c7}{n:Nat}{tr:E9}(o:fJ w)(x:dE w n (fw w tr))(b:n<=100)(e:tr.length<=900):Pl 10 (nP w tr):=by
 refine⟨by show 2<=1000;decide,λd a=> ?_⟩
 simp only[Qsq,QXq,or_false] at a
 rcases a with rfl|rfl
 ·exact HN o x b
 ·refine oT (n:=8) (by have:=zD (tr:=tr);omega) λp c=> ?_
  refine⟨by show 2<=1000;decide,λd a=> ?_⟩
  simp only[Qsq,QXq,or_false] at a
  rcases a with rfl|rfl <;>exact trivial
end
abbrev G6:=Str×List Str
noncomputable def sD(p:G6):D:=.tup ((p.1::p.2).map D.str)
noncomputable def rS(σ:Str->Str)(p:G6):G6:=(p.1,p.2.map σ)
noncomputable def D0(h:Nat)(p:(Str×Nat)×(Int×List Int)):List G6:=List.replicate (rh p.2.2 h) ("pass",[p.1.1])
noncomputable def vD(h:Nat)(nm:Str)(p:(Str×Str)×List (Int×Int)):List G6:=List.replicate (p.2.filter λq=>decide (q.2=(h:Int))).length ("bell",[nm,p.1.1])
noncomputable def xt(h:Nat)(p:Rm×gf):List G6:=(List.replicate (rh p.2.row h) (("row",[p.1.name]):G6)++List.replicate (rh p.2.ag h) (("late",[p.1.name]):G6))++(p.1.aa.zip p.2.aa).flatMap (vD h p.1.name)
noncomputable def lT(w:c7)(s:bG)(h:Nat):List G6:=(w.ai.zip s.ai).flatMap (D0 h)++(w.aj.zip s.aj).flatMap (xt h)
def Bc{w:c7}{s:bG}{h:Nat}:gA w s h=(lT w s h).map sD:=by
 have c:xx h=λp=>(D0 h p).map sD:=by funext p;unfold xx D0;rw[QlQ];rfl
 have d:∀a,ur h a=λp=>(vD h a p).map sD:=λa=>by funext p;unfold ur vD;rw[QlQ];rfl
 have b:kA h=λp=>(xt h p).map sD:=by
  funext p
  unfold kA sy xt
  rw[Qzq,Qzq,QlQ,QlQ,List.map_flatMap,d]
  rfl
 unfold gA lT
 rw[Qzq,List.map_flatMap,List.map_flatMap,c,b]
def Fe{σ:Str->Str}{w:c7}{s:bG}{h:Nat}:lT (dz σ w) s h=(lT w s h).map (rS σ):=by
 have b:∀(a:Str) (l:List (Str×Str)) (m:List (List (Int×Int))),((l.map (g8 σ)).zip m).flatMap (vD h (σ a))=((l.zip m).flatMap (vD h a)).map (rS σ):=λa l m=>by
  rw[List.zip_map_left,List.flatMap_map,List.map_flatMap]
  congr 1
  funext p
  unfold vD
  rw[QlQ]
  rfl
 unfold lT
 rw[Qzq,List.map_flatMap,List.map_flatMap,show(dz σ w).ai=w.ai.map (g8 σ) from rfl,show(dz σ w).aj=w.aj.map (wq σ) from rfl,List.zip_map_left,List.zip_map_left,List.flatMap_map,List.flatMap_map]
 congr 1
 ·congr 1
  funext p
  unfold D0
  rw[QlQ]
  rfl
 ·congr 1
  funext p
  show xt h (wq σ p.1,p.2)=_
  unfold xt
  rw[Qzq,Qzq,QlQ,QlQ]
  show _++((p.1.aa.map (g8 σ)).zip p.2.aa).flatMap (vD h (σ p.1.name))=_
  rw[b]
  rfl
def Gn{w:c7}{s:bG}{h:Nat}(n:KU w):∀p∈lT w s h,p.2.length<=2/\∀x∈p.2,Nm x:=λp a=>by
 unfold lT at a
 rcases mQa.mp a with a|a
 ·obtain⟨q,d,a⟩:=QOq.mp a
  have e:=QkQ a
  subst e
  refine⟨by simp,λx c=> ?_⟩
  rw[Qfq.mp c]
  exact n.p q.1 (QeQ (show(q.1,q.2)∈_ from d)).1
 ·obtain⟨q,d,a⟩:=QOq.mp a
  have f:=n.r q.1 (QeQ (show(q.1,q.2)∈_ from d)).1
  unfold xt at a
  rcases mQa.mp a with a|a
  ·have e:p.2= [q.1.name]:=by
    rcases mQa.mp a with a|a <;>rw[QkQ a]
   rw[e]
   refine⟨by simp,λx c=> ?_⟩
   rw[Qfq.mp c]
   exact f.1
  ·obtain⟨b,g,a⟩:=QOq.mp a
   have e:=QkQ a
   subst e
   refine⟨by simp,λx c=> ?_⟩
   simp only[Qsq,QXq,or_false] at c
   rcases c with rfl|rfl
   ·exact f.1
   ·exact f.2.2.1 b.1 (QeQ (show(b.1,b.2)∈_ from g)).1
def BX{σ:Str->Str}{w:c7}{s:bG}{k h:Nat}{vs:List Int}{fs:List dg}{f:dg}(n:KU w)(x:dE w k s)(o:s.af[h]?=some (vs,fs))(q:fs.getLast? =some f):∃p:G6,vO w s h f=sD p/\vO (dz σ w) s h f=sD (rS σ p)/\p.2.length<=2/\∀x∈p.2,Nm x:=by
 unfold vO
 rw[Bc,Bc,Fe]
 cases t:lT w s h with
 | cons p l=>
   have:=Gn (s:=s) (h:=h) n p (by rw[t];exact QBq ..)
   exact⟨p,rfl,rfl,this.1,this.2⟩
 | nil=>
   have e:qG (dz σ w) h=qG w h:=by
     unfold qG dz
     rw[gQm]
     cases w.af[h]? with
     |none=>rfl
     |some p=>simp[CM]
   have g:sj (dz σ w) s h f=sj w s h f:=by unfold sj;rw[e]
   show∃p:G6,xh w s h f=_/\xh (dz σ w) s h f=_/\_
   unfold xh
   rw[g]
   by_cases c:f.room= -1
   · rw[Qhq c,Qhq c]
     exact⟨(sj w s h f,[]),rfl,rfl,by simp,λx a=>(nomatch a)⟩
   · rw[Quq c,Quq c]
     rcases x.at o q with b|⟨i,r,y,b,d,u,m,v⟩
     · exact absurd b c
     · have j:MC (dz σ w) f.room=σ r.name:=by
         unfold MC dz
         rw[gQm,b,show((i:Int)).toNat=i by omega,d]
         rfl
       rw[j,m]
       refine⟨(sj w s h f,[r.name]),rfl,rfl,by simp,λx a=> ?_⟩
       rw[Qfq.mp a]
       exact(n.r r (mQg d)).1
def ql{σ:Str->Str}{w:c7}{tr:E9}:fw (dz σ w) tr=fw w tr:=by
 unfold fw
 cases tr.getLast? with
 |none=>exact vk
 |some x=>rfl
def FI{σ:Str->Str}{w:c7}{tr:E9}:nP (dz σ w) tr=nP w tr:=by unfold nP;rw[ql]
def GC{S S0:aL}{k:Nat}{z:Str}{Q:Res->aL->Prop}(x:Ex k S0 S)(p:0<z.length)(q:z.length<1000)
  (h:∀(st:Str) (e:aL),st.length=1->Ex k S0 e->Ex k S e->e.length=S.length->Q (.d (.str st)) e):Fn bQ [.ref k,.str z] S Q:=by
 have y:Ex k S S:=by obtain⟨a,b,c,j⟩:=x.pot;exact Ex.refl j
 have i:z.length<=sizeLine:=nQl (bu (by omega))
 refine cf ?_
 unfold om
 symm
 apply He ?_
 refine⟨z.length,by unfold AA;exact Qhq i,?_⟩
 symm
 refine bX y (by omega) (by omega) λd e n m o l=> ?_
 dsimp only
 have f:d<z.length:=by omega
 have g:d<z.cps.toList.length:=by rw[Array.length_toList];exact f
 refine KZ (d:=D.str ⟨#[z.cps.toList[d]]⟩) (by simp only[bg];rw[Qhq i,bD (gQe g)];rfl) ?_
 refine lI m x.lt (λk z=>(nomatch z)) rfl λa b c=> ?_
 exact h _ _ rfl x.set y.set (by simp)
def G2:∀ns:List Int,ns.length<=63->∃A,JI [.ref 0] [.frz (ns.map D.int)]=some (.d (.bl true),A):=by
 intro ns b7
 suffices h:Fn JI [.ref 0] [.frz (ns.map D.int)] λr _=>r=.d (.bl true) by
  obtain⟨r,A,e,rfl⟩:=h
  exact⟨A,e⟩
 refine cf ?_
 unfold M_
 refine bH (ik ?_)
 apply Gy ?_
 apply GD rfl ?_
 apply Ia ?_
 refine J0 ?_
 obtain⟨m,hm,c0⟩:∃m:Nat,(if (if (5:Int)<((ns.map D.int).length:Nat) then(5:Int) else((ns.map D.int).length:Nat))>(1:Int) then(if (5:Int)<((ns.map D.int).length:Nat) then(5:Int) else((ns.map D.int).length:Nat)) else 1)=(m:Int)/\m<=5:=by
  refine⟨(if (if (5:Int)<((ns.map D.int).length:Nat) then(5:Int) else((ns.map D.int).length:Nat))>(1:Int) then(if (5:Int)<((ns.map D.int).length:Nat) then(5:Int) else((ns.map D.int).length:Nat)) else 1).toNat,?_,?_⟩ <;>(repeat' split) <;>omega
 refine⟨m,congrArg D.int hm,by omega,?_⟩
 refine⟨λn i A=>(∃a1 a2 a3 a4 a5 a6 a7 a8 a9 P Z W Q N,i= [some (.ref 0),a1,a2,a3,a4,a5,a6,a7,a8,a9,P,Z,W,Q,N])/\A[0]?=some (.frz (ns.map D.int)),⟨⟨_,_,_,_,_,_,_,_,_,_,_,_,_,_,rfl⟩,rfl⟩,λ_ _ _ _=>trivial,?_,?_⟩
 ·rintro n d i S R ⟨⟨a1,a2,a3,a4,a5,a6,a7,a8,a9,P,Z,W,Q,N,rfl⟩,hS⟩
  obtain⟨rfl,_⟩:=vT R
  apply bh ?_
  apply LQ hS λpa pb=> ?_
  have C:Ex S.length (S++ [qd pa pb 0]) (S++ [qd pa pb 0]):=Ex.refl a_
  have b3:(S++ [qd pa pb 0])[0]?=some (.frz (ns.map D.int)):=bz hS
  have h0:0≠S.length:=by
   have:=(gQs.mp hS).1
   omega
  show Fn fe [.ref S.length] (S++ [qd pa pb 0]) _
  generalize S.length=kp at C h0⊢
  generalize S++ [qd pa pb 0]=S1 at C b3⊢
  apply yw C λw S2 ok nm x2 _ _=> ?_
  apply GC x2 (by decide +kernel) (by decide +kernel) λv S3 Y x3 _ _=> ?_
  refine HP Y ok nm ?_
  have b0:Sg (jY v):=Lx Y
  have H:fJ (dz (jY v) w):=ok.ren b0
  symm
  apply Ae ok ?_
  apply⟨by decide,?_⟩
  apply⟨by decide,?_⟩
  refine⟨by show 2<=_;decide,?_⟩
  apply eO rfl (aC (bh (aC (bh (bE ?_)))))
  apply vU ?_
  refine⟨1,rfl,?_⟩
  apply bH (ik (Gy ?_))
  refine⟨(30:Nat),rfl,by decide,?_⟩
  refine⟨λj i A=>(∃(g:E9) (t:Int) (I K J u s:Option D),i= [some (.ref 0),some (.int n),some (.ref kp),some w.d,some (.str v),some (dz (jY v) w).d,some (fw w g).d,some (.tup ((g.map (·.1)).map m_)),some (.tup ((C3 g).map L3)),some (.int t),I,K,J,u,s]/\Aj (dz (jY v) w) g/\g.length<=j/\dE w (1+j) (fw w g)/\dE (dz (jY v) w) (1+j) (fw w g))/\Ex kp S1 A,?_,λ_ _ _ _=>trivial,?_,?_⟩
  ·exact⟨⟨[],-1,_,_,_,_,_,rfl,λn h s' e z=>by simp at z,Qmq _,xH ok,by have:=xH H;rw[vk] at this;exact this⟩,x3⟩
  ·rintro j d i A R ⟨⟨g,t,I,K,J,u,s,rfl,htr,hlen,b,q⟩,hex⟩
   obtain⟨rfl,hj⟩:=vT (j:=30) R
   refine bh ?_
   have hm:=b.mays ok (by omega)
   have b5:=q.mays H (by omega)
   have c1:kp<A.length:=hex.lt
   symm
   apply hm _ _ ?_
   apply cE a_ ?_
   apply⟨⟨rfl,a_⟩,?_⟩
   by_cases X:nh w (fw w g)= []
   ·rw[X]
    refine aW (λc=>by cases c) (λ_=>cz ?_)
    exact⟨⟨g,t,_,_,_,_,_,rfl,htr,by omega,b.mono (by omega),q.mono (by omega)⟩,hex.app⟩
   ·have b1:0<(nh w (fw w g)).length:=List.length_pos_iff.mpr X
    have b4:(!((nh w (fw w g)).map m_).isEmpty)=true:=by
     cases hc:nh w (fw w g) with
     |nil=>exact absurd hc X
     |cons a l=>rfl
    rw[b4,Qhq rfl]
    have b8:(nh w (fw w g)).length<=4:=by
     have h1:=List.length_filter_le (λh:Nat=> !decide ((h:Int)∈held (fw w g))&& !zf w (fw w g) h) (List.range (fw w g).af.length)
     have h2:=b.lh
     have h3:=ok.l4
     rw[QVq] at h1
     unfold nh
     omega
    symm
    refine JD (S0:=S1) hex.app (by omega) a_ b1 (by omega) λh S3 hh e1 _ _=> ?_
    have b6:h<(fw w g).af.length:=List.mem_range.mp (List.mem_filter.mp hh).1
    obtain⟨⟨vs,fs⟩,M⟩:∃p,(fw w g).af[h]?=some p:=⟨_,gQe b6⟩
    obtain⟨ts,pr,hw,hi⟩:=b.whand M
    obtain⟨f,hf,fi⟩:=hi.last
    obtain⟨G,b2⟩:=D3 ok b (by omega) hh M hf
    obtain⟨B,a0⟩:=D3 H q (by omega) (by rw[Ag];exact hh) M hf
    rw[Ey b0] at B a0
    have F:=htr.app (by rw[ql];exact b5) (by rw[ql,Ag];exact hh) (by rw[ql];exact B)
    generalize (iT w (fw w g) h).1=s2 at G b2 B a0 F
    generalize (iT w (fw w g) h).2=ev at G B F
    have k1:fw w (g++ [(h,s2,ev)])=s2:=GS
    have k2:D.tup (((g++ [(h,s2,ev)]).map (·.1)).map m_)=.tup (((g.map (·.1)).map m_)++ [.int h]):=by simp[m_]
    have k3:C3 (g++ [(h,s2,ev)])=C3 g++nk (h,s2,ev):=by simp[C3]
    have kl:(C3 g).length<=40:=by have:=zD (tr:=g);omega
    symm
    refine Ce hm hh G ?_
    apply eO rfl (aC (bh (aC (bh (bE ?_)))))
    refine⟨by show 1<=_;decide,?_⟩
    refine dB (by simp only[lQm,Qnq,QGq];exact qU (by omega)) ?_
    symm
    refine t_ (λi=>∃a,i= [a]) (λe:Option Int=>J5 h e) (λe=>J5 h e) (λe=>e.isSome) ⟨none,rfl⟩ ?_
    refine tf (uS (IC (fI (bj rfl (nO ⟨by show 1<=_;decide,?_⟩)))))
    refine⟨[ev],rfl,trivial,by simp,λy _ i U=> ?_,?_⟩
    ·obtain⟨a,rfl⟩:=U
     apply bh ⟨rfl,⟨_,rfl⟩,?_⟩
     refine xE ?_
     refine⟨rfl,?_,λ_=> ?_⟩
     ·cases y <;>rfl
     ·symm
      exact⟨rfl,rfl⟩
    have k4:([ev].filter λe=>e.isSome).map (λe=>J5 h e)=(nk (h,s2,ev)).map L3:=by cases ev <;>rfl
    rw[k4]
    have k5:(nk (h,s2,ev)).length<=1:=by cases ev <;>simp[nk]
    refine dB (by simp only[lQm];exact qU (by omega)) ?_
    refine⟨⟨g++ [(h,s2,ev)],h,some (.int j),some (.ref A.length),some (J5 h ev),u,s,?_,F,by simp;omega,by rw[k1];exact b2.mono (by omega),by rw[k1];exact a0.mono (by omega)⟩,e1⟩
    rw[k1,k2,k3,Qzq]
    rfl
  ·rintro i A ⟨⟨g,t,I,K,J,u,s,rfl,htr,hlen,b,q⟩,hex⟩
   have b9:g.length<=30:=by
    have:g.length<=(jx 0 ((30:Nat):Int)).length:=hlen
    have e:(jx 0 ((30:Nat):Int)).length=30:=by decide +kernel
    omega
   have L:1+(jx 0 ((30:Nat):Int)).length<=31:=by
    have e:(jx 0 ((30:Nat):Int)).length=30:=by decide +kernel
    omega
   replace b:=b.mono L
   replace q:=q.mono L
   symm
   refine Fw H htr (by omega) ?_
   rw[FI]
   symm
   refine⟨by show 2<=_;decide,?_⟩
   symm
   refine yI 10 (nP w g) (IZ ok b (by decide) (by omega)) ?_
   refine yl ?_
   refine aW (λc=>by cases c) (λ_=>cz ?_)
   apply ik (Gy ?_)
   apply aA (d:=.tup (w.af.map jF)) rfl ?_
   refine⟨w.af.length,by rw[lQm],by have:=ok.l4;omega,?_⟩
   refine⟨λj i S2=>(∃(u s:Option D),i= [some (.ref 0),some (.int n),some (.ref kp),some w.d,some (.str v),some (dz (jY v) w).d,some (fw w g).d,some (.tup ((g.map (·.1)).map m_)),some (.tup ((C3 g).map L3)),some (.int t),I,K,J,u,s])/\S2=A,⟨⟨_,_,rfl⟩,rfl⟩,λ_ _ _ _=>trivial,?_,?_⟩
   ·rintro j d i S2 R ⟨⟨u,s,rfl⟩,rfl⟩
    obtain⟨rfl,hj⟩:=vT (j:=w.af.length) R
    refine bh ?_
    obtain⟨⟨vs,fs⟩,M⟩:∃p,(fw w g).af[j]?=some p:=⟨_,gQe (by rw[←b.lh];exact hj)⟩
    obtain⟨ts,pr,hw,hi⟩:=b.whand M
    obtain⟨f,hf,fi⟩:=hi.last
    obtain⟨p,p1,p2,p3,p4⟩:=BX (σ:=jY v) nm b M hf
    symm
    refine xK ok b (by decide) M hf ?_
    rw[p1]
    symm
    refine xK H q (by decide) M hf ?_
    rw[p2]
    refine fI ?_
    refine g_ (iM (bj rfl (cJ (cM (qp ⟨1,rfl,_,rfl,?_⟩)))))
    refine my (uS ?_)
    refine iO (α:=Str) (λi=>∃a,i= [a,some (.str v)]) D.str (λx=>.str (jY v x)) ⟨none,rfl⟩ ?_
    refine iq (iM (bj rfl (cM (qp ⟨1,rfl,cJ ⟨_,rfl,cH ?_⟩⟩))))
    refine⟨p.2,?_,trivial,by omega,λy hy i U=> ?_,?_⟩
    ·show jh ((p.1::p.2).map D.str) (some ((1:Nat):Int)) none=_
     rw[iu (by simp)]
     rfl
    ·obtain⟨a',rfl⟩:=U
     refine bh ⟨rfl,⟨_,rfl⟩,?_⟩
     exact g_ (bj rfl (bj rfl (kg Y (p4 y hy) ⟨rfl,rfl⟩)))
    rw[show jh ((p.1::p.2).map D.str) none (some 1)= [D.str p.1] from by
     show jh ((p.1::p.2).map D.str) none (some ((1:Nat):Int))=_
     rw[B_ (by simp)]
     rfl]
    refine dB (by simp only[lQm,Qnq,QGq];exact nQl (bu (by omega))) ?_
    have pe:([D.str p.1]++p.2.map λx=>D.str (jY v x))=((rS (jY v) p).1::(rS (jY v) p).2).map D.str:=by simp[rS]
    rw[pe]
    refine nO ?_
    have pl:Pl 10 (sD (rS (jY v) p)):=⟨by simp[rS];omega,λd R=>by
     obtain⟨z,_,rfl⟩:=Qkq.mp R
     exact trivial⟩
    refine yI 10 (sD (rS (jY v) p)) pl ?_
    refine yl ?_
    refine aW (λc=>by cases c) (λ_=>cz ?_)
    exact⟨⟨_,_,rfl⟩,rfl⟩
   ·rintro i S2 ⟨⟨u,s,rfl⟩,rfl⟩
    exact⟨⟨_,_,_,_,_,_,_,_,_,_,_,_,_,_,rfl⟩,hex.keep 0 _ h0 b3⟩
 ·rintro i A ⟨⟨a1,a2,a3,a4,a5,a6,a7,a8,a9,P,Z,W,Q,N,rfl⟩,hS⟩
  symm
  have hl:=(gQs.mp hS).1
  refine jb (S2:= [.frz (ns.map D.int)]) ⟨by show 1<=A.length;omega,λk o hk e=> ?_⟩ ?_ (λk z=>(nomatch z)) rfl rfl
  ·have hk:k<1:=hk
   have:k=0:=by omega
   subst this
   rw[hS] at e
   exact .inl e
  ·cases A with
   |nil=>simp at hl
   | cons a l=>
     simp at hS
     subst hS
     rfl
end W28
open PySem PySem.W PyProof.Rows L2 DL
theorem PySem.Challenge.cw_calledroom_k17_called_otherwise_holds : PySem.Challenge.rw_calledroom_k17_called_otherwise.Holds := by
  w_on; o_law; k_head; (case hw => w_witness2)
  k_fill
  refine DL.nP (l := PySem.Challenge.rw_calledroom_k17_called_otherwise) (k := 14) rfl rfl ⟨rfl, by decide, by decide⟩ (λw h Y => PySem.W.kIn_of Y) (λw => ?nl) ?F
  case nl => rfl
  case F =>
    intro w mg fa h KX G hmg
    refine' W28.all_mk KX G hmg ?_ ?_ ?_ ?_ ?_ ?_ ?_ ?_ ?_ ?_ ?_ ?_ ?_ ?_ ?_ ?_ ?_ ?_ ?_ ?_ ?_ ?_ ?_ ?_ ?_ ?_ ?_ ?_ ?_ ?_ ?_ ?_ ?_ ?_ ?_ ?_ ?_ ?_ ?_ ?_ ?_ ?_ ?_ ?_ ?_ ?_ ?_ ?_ ?_ ?_ ?_ ?_ ?_ ?_ ?_ ?_ ?_ ?_ ?_ ?_ ?_ ?_ ?_ ?_ ?_ ?_ ?_ ?_ ?_ ?_ ?_ ?_ ?_ ?_ ?_ ?_ ?_ ?_ ?_ ?_ ?_ ?_ ?_ ?_ ?_ ?_ ?_ ?_ ?_ ?_ ?_ ?_ ?_ W28.G2
    any_goals first | exact DL.bA.of (by k_is) (by k_is) (by k_is) (by k_is) | k_is
