import PyProof.Rows.All
import Wide.FinOn
import KE.KEqDict
import KE.KSortTup
import KE.KUnpack
import KE.KDictOf
import KE.KFromBytes
import KE.KIsAll
import PySem.Challenge.RW_calledroom_k29_whole_any_weaving
set_option Elab.async false
set_option linter.all false
set_option compiler.extract_closed false
set_option maxRecDepth 100000
set_option maxHeartbeats 8000000
namespace PySem.W.Fast
def dk:=trivial
def tw13055696560009023391:=dk
def tw14048754034699626662:=dk
def tw15513073046072987947:=dk
def tw1714420468102750039:=dk
def tw3446002589464180841:=dk
def tw7475058983323461423:=dk
def tw4786418012811055183:=dk
def tw17514465393709619542:=dk
def tw2328067723765527658:=dk
def tw16525297691393782748:=dk
def tw2803719633946492719:=dk
def tw7120917104946271196:=dk
def tw17974980230227518410:=dk
def tw10468273355163851897:=dk
def tw1495384190438353241:=dk
def tw4633068389201712679:=dk
def tw6393474881787395179:=dk
def tw4187438035229490235:=dk
def tw16728849463773629132:=dk
def tw13180154514228793503:=dk
def tw15324167785286226898:=dk
def tw2042317695053525039:=dk
def tw15315744179170893040:=dk
def tw2438480703534009960:=dk
def tw10162965881063106822:=dk
def tw8776541616814791037:=dk
def tw17720075366485650385:=dk
def tw7163673863626453078:=dk
def tw1979520016043383371:=dk
def tw16672737670514531746:=dk
def tw10704632640265590418:=dk
def tw9629244139135512608:=dk
def tw17139827131583956773:=dk
def tw347455767022096414:=dk
def tw12017858038945431544:=dk
def tw1066085514862741785:=dk
def tw16889348672682487255:=dk
def tw4344446216645456191:=dk
def tw5377114509847769368:=dk
def tw11990325795539652076:=dk
def tw11516910203236364637:=dk
def tw16816046256449373636:=dk
def tw13138371948288335923:=dk
def tw5141173962763081193:=dk
def tw13635459770759131718:=dk
def tw16332131699787960578:=dk
def tw7871918065600062218:=dk
def tw11966206765303309411:=dk
def tw11148495576469360776:=dk
def tw13343164811883937769:=dk
def tw6599463586822047729:=dk
def tw16625149532264005837:=dk
def tw3582771535940585670:=dk
def tw8017810474605866283:=dk
def tw3621124057676726488:=dk
def tw14729090830351045683:=dk
def tw10308288460366117603:=dk
def tw2592555078089438653:=dk
def tw14270083737893568138:=dk
def tw5599994601192602043:=dk
def tw12773236381795206899:=dk
def tw18396495241695215146:=dk
def tw1925116464232006285:=dk
def tw15190514802298906952:=dk
def tw12822985995204060196:=dk
def tw12970079348173206456:=dk
def tw1197837792204950513:=dk
def tw5336162618613296422:=dk
def tw18433885207568744121:=dk
def tw7144103859815023026:=dk
def tw16778936538383626747:=dk
def tw4397503624381371355:=dk
def tw15291374906256625438:=dk
def tw12866031016689078942:=dk
def tw9505048979994841587:=dk
def tw15364598635830657507:=dk
def tw10710271232319219011:=dk
def tw17731982878417188855:=dk
def tw16250969570914017735:=dk
def tw16042348759075267536:=dk
def tw16308033493375801669:=dk
def tw17912621778673498350:=dk
def tw14341778720489062334:=dk
def tw589865703816361411:=dk
def tw379938516577401712:=dk
def tw2117366448299440049:=dk
def tw3181779378119679509:=dk
def tw11870021034879766609:=dk
def tw9147823044950062604:=dk
def tw10960390584728578419:=dk
def tw15338989960265833352:=dk
def tw8371399765257776804:=dk
def tw16025596215279675725:=dk
def tw15938104945064558683:=dk
def tw5661798539398318378:=dk
def tw7463366714155522165:=dk
def tw14119948733160507589:=dk
def tw5072271958147458073:=dk
def tw7442441391826085590:=dk
def tw14504612930922172883:=dk
def tw1144815084668149727:=dk
def tw3043709601242674487:=dk
def tw17515012909344828109:=dk
def tw15013977257783532914:=dk
def tw16971040558078676779:=dk
def tw15413086902870605347:=dk
def tw9508991756099021261:=dk
def tw3971982249247560770:=dk
def tw11455208056345410254:=dk
def tw214615369080135266:=dk
def tw1257641598165476252:=dk
def tw18304067983039768077:=dk
def tw5249569193632240397:=dk
def tw16570809155320079459:=dk
def tw5701370688433651739:=dk
def tw5758153818229218352:=dk
def tw13337445642617719962:=dk
def tw6423578362615743911:=dk
def tw12008495861449395788:=dk
def tw12842982277452182759:=dk
def tw13947383332281543397:=dk
def tw13059275870449050802:=dk
def tw3844995372095323892:=dk
def tw5696414319233666868:=dk
def tw12547069036212874139:=dk
def tw6563590100261422011:=dk
def tw13129937839388253742:=dk
def tw11267185798149995528:=dk
def tw17757398299612373997:=dk
def tw8657904123550725312:=dk
def tw10090813721531426668:=dk
def tw5164822100766917504:=dk
def tw2128931270737908250:=dk
def tw13476272529856904784:=dk
def tw11216887311609268428:=dk
def tw18354006929829735815:=dk
def tw8002011826289469876:=dk
def tw12975037019922468066:=dk
def tw14675995625767964968:=dk
def tw12496758261339208952:=dk
def tw564191131582235370:=dk
def tw7870639338153294392:=dk
def tw15415432930868518198:=dk
def tw2672500704678449002:=dk
def tw1595743467360012996:=dk
def tw13329438013948361138:=dk
def tw1405110312331078178:=dk
def tw15977677408415180740:=dk
def tw3047616598981042565:=dk
def tw6748375943259200452:=dk
def tw3835734300561927467:=dk
def tw9892338847454282655:=dk
def tw18389166039509933837:=dk
def tw601299944879848513:=dk
def tw1612491379329680527:=dk
def tw17398822038429387139:=dk
def tw15172281220935095705:=dk
def tw14932726295925699110:=dk
def tw14849046848252148538:=dk
def tw18442633193831881950:=dk
def tw17676286063439792708:=dk
def tw7183740499695532070:=dk
def tw8073000029219592735:=dk
def tw9381552682902920650:=dk
def tw186560589338878294:=dk
def tw14970905705721525065:=dk
def tw4611465626967126184:=dk
def tw5462099453051628566:=dk
def tw16813620179080480030:=dk
def tw9186759317356526348:=dk
def tw6254554052855963863:=dk
def tw12204496683546024441:=dk
def tw3491491553866929422:=dk
def tw10420643967265427560:=dk
def tw13142721222226578882:=dk
def tw176827505402558991:=dk
def tw1305293626483440869:=dk
def tw7345933820262702313:=dk
def tw14023588480696968552:=dk
def tw4452141261555030782:=dk
def tw12412691597845398884:=dk
def tw13971371179261916781:=dk
def tw592835640198988880:=dk
def tw610820332804759256:=dk
def tw10709017698478592457:=dk
def tw4957984641483674768:=dk
def tw18317143023973226961:=dk
def tw16268928934053552615:=dk
def tw5286069210211132923:=dk
def tw8150348688582001615:=dk
def tw17541968197127552734:=dk
def tw10248345046275099549:=dk
def tw4422531172410277085:=dk
def tw8402087026866845060:=dk
def tw13691206724257175958:=dk
def tw5689549972853725712:=dk
def tw15676712479363044201:=dk
def tw13402820540299780923:=dk
def tw96970909526831946:=dk
def tw13249116054978906928:=dk
def tw3385590612318421800:=dk
def tw8727500283670195027:=dk
def tw6782002561347597010:=dk
def tw5615500277088212631:=dk
def tw6469458970217132096:=dk
def tw2688716916977529437:=dk
def tw10659777085439015865:=dk
def tw7450926812066088724:=dk
def tw214359747966567034:=dk
def tw10483289483208785929:=dk
def tw7706472553344462555:=dk
def tw7775438490981422752:=dk
def tw15309270580301997258:=dk
def tw11543408919768033180:=dk
def tw895176781808927960:=dk
def tw9521138022675782539:=dk
def tw15701185514297020669:=dk
def tw17631084033254846664:=dk
def tw163058588081881357:=dk
def tw13999202649169983196:=dk
def tw7395991808088059111:=dk
def tw3922117705580910925:=dk
def tw16060204135361474922:=dk
def tw17352752907635599334:=dk
def tw12160232545223970523:=dk
def tw3594403250844856844:=dk
def tw18297092281472938829:=dk
def tw17761048779647908760:=dk
def tw3751443697908826649:=dk
def tw15532702798068565036:=dk
def tw13095128551189097450:=dk
def tw4356914270183912491:=dk
def tw16956674850584211455:=dk
def tw3276111951642291840:=dk
def tw10914986188846420382:=dk
def tw7930851837814838878:=dk
def tw9398756714748105898:=dk
def tw2468931401102484771:=dk
def tw7437054254484458150:=dk
def tw17980753934960836562:=dk
def tw14703635933194968370:=dk
def tw5289142004945299984:=dk
def tw4409685085050715459:=dk
def tw6890612569324016439:=dk
def tw16639942990671149844:=dk
def tw18370136399957623705:=dk
def tw3643249588920467261:=dk
def tw7923705183857163327:=dk
def tw10176759135351052024:=dk
def tw5886925518668244518:=dk
def tw17244816759805730326:=dk
def tw5745878891332769394:=dk
def tw2587381228143000153:=dk
def tw1721402001609593915:=dk
def tw13086746896341141319:=dk
def tw12552985363374777456:=dk
def tw14778199665662389275:=dk
def tw5153175546878949801:=dk
def tw123177813369510086:=dk
def tw1625687611797272782:=dk
def tw9534532301377755985:=dk
def tw5713397956633055720:=dk
def tw9867491675049846545:=dk
def tw4083172671781148981:=dk
def tw7673654321946476389:=dk
def tw7264025834991259707:=dk
def tw9817346264422802732:=dk
def tw14102740270010627404:=dk
def tw13800994983419382138:=dk
def tw2152345938239757761:=dk
def tw16238652439367696611:=dk
def tw7015197247609206145:=dk
def tw1350649930797094453:=dk
def tw6466931549706659008:=dk
def tw16012756074347631210:=dk
def tw17838244612384703285:=dk
def tw7832585588532283628:=dk
def tw15286425236465069702:=dk
def tw2931322921403473573:=dk
def tw14288503902875387304:=dk
def tw14643022152459387260:=dk
def tw831695532477034779:=dk
def tw10092582782978708250:=dk
def tw13057774081141746709:=dk
def tw13819991432322100138:=dk
def tw3755955554583658371:=dk
def tw6337445896594449010:=dk
def tw13265585285461689157:=dk
def tw4306384851758178679:=dk
def tw14039260139400002764:=dk
def tw1156236679977531419:=dk
def tw1645645498516269858:=dk
def tw3939759900437837351:=dk
def tw14583843768152519917:=dk
def tw9915133864824260020:=dk
def tw6406573803869570933:=dk
def tw1920195235363293466:=dk
def tw1383022507566601826:=dk
def tw9913023549699020912:=dk
def tw7707102110329961021:=dk
def tw8373471902715970409:=dk
def tw3532042212835791124:=dk
def tw16787059187911752039:=dk
def tw15472779036278952470:=dk
def tw1070827377018192730:=dk
def tw10638890520666760827:=dk
def tw13107922701416382214:=dk
def tw6051115807550654012:=dk
def tw3658603701379473186:=dk
def tw262811119798711991:=dk
def tw11452682730711373626:=dk
def tw4203571469268219836:=dk
def tw1495939194108310671:=dk
def tw5004782006734041649:=dk
def tw4079743037271400297:=dk
def tw16711340918289504417:=dk
def tw3364733731054178692:=dk
def tw8667905409749658976:=dk
def tw8896063874442009121:=dk
def tw10741557604828032794:=dk
def tw13163885043789275097:=dk
def tw780330778504524761:=dk
def tw6388397615177293569:=dk
def tw4573194593355632073:=dk
def tw8147411436536603152:=dk
def tw9986490700585345203:=dk
def tw5717354794462732813:=dk
def tw18044415320046966638:=dk
def tw11832070544687827336:=dk
def tw3069797553632335091:=dk
def tw5925721225435787406:=dk
def tw4300350031734603136:=dk
def tw15428075233215035158:=dk
def tw2014276689901503622:=dk
end PySem.W.Fast
set_option bootstrap.genMatcherCode false
def dl(h:True:=by first|show .inl rfl|show .inr rfl|assumption):=h
def dt(h:True:=by first|show .inl L|show .inr L|assumption):=h
def dL(h:True:=by decide):=h
def dO(h:True:=by rfl):=h
def ec(h:True:=by intro _;rfl):=h
def ei(h:True:=by intros;rfl):=h
def ej(h:True:=by first|show Or.inl L|show Or.inr (Or.inl L)|show Or.inr (Or.inr L)):=h
def eH(h:True:=by intro _ _;rfl):=h
def ge(h:True:=by size_fits):=h
def gz(h:True:=by first|show Or.inl L|show Or.inr L):=h
def hE(h:True:=by decide +kernel):=h
def hI(h:True:=by first|decide|omega):=h
def hP(h:True:=by repeat (first|show DR|show oW ?_)):=h
set_option compiler.extract_closed false
open Lean in
def pQ9:Nat->Syntax->MacroM (TSyntax `rcasesPat)
 |0,_=>Macro.throwUnsupported
 |n+1,s=>match s with
  |`(#[$a,*])=>do
   let b<-a.getElems.mapM λx=>do
    let p<-pQ9 n x
    `(Parser.Tactic.rcasesPatLo|$p:rcasesPat)
   `(rcasesPat|⟨$b,*⟩)
  |`($i:ident)=>`(rcasesPat|$i:ident)
  |`(_)=>`(rcasesPat|_)
  |_=>Macro.throwUnsupported
open Lean in
local macro_rules|`(tactic|let#[$a,*]:=$e)=>do
 let p<-pQ9 9 (<-`(#[$a,*]))
 `(tactic|set_option tactic.hygienic false in obtain $p:rcasesPat:=$e)
local macro_rules|`(#[$a,*])=>`(⟨$a,*⟩)
open Lean Parser.Tactic in
local macro_rules|`(tactic|erw[$a,*]$[$l:location]?)=>do
 let b<-a.getElems.mapM λr=>match r with
  |`(rwRule|$t:term)=>`(simpLemma|$t:term)
  |`(rwRule|←$t:term)=>`(simpLemma|←$t:term)
  |_=>Macro.throwUnsupported
 let c:Syntax.TSepArray `Lean.Parser.Tactic.simpLemma ",":=.ofElems b
 `(tactic|simp only[$c,*]$[$l:location]?)
local macro_rules|`(!0)=>`(by omega)
local macro_rules|`(!1)=>`(by decide)
open PySem PySem.Spec
abbrev X0:=Value->Shared->Prop
abbrev X1:=PySem.W.Frag
abbrev X2:=List (Addr×Obj)
abbrev X3:=Str->Option Value
abbrev X4:=Shared
abbrev X5:=List Value
abbrev X6:=List Str
abbrev X7:=List Addr
abbrev X8:=Addr
abbrev X9:=Program
abbrev X_:=Around
abbrev Xa:=Array Value
abbrev Xb:=Option Int
abbrev Xc:=World
abbrev Xd:=Value
abbrev Xe:=Heap
abbrev Xf:=Bool->Shared->Prop
abbrev L{α:Sort u}{a:α}:a=a:=rfl
local macro_rules|`(tactic|let $x:ident:=$e)=>`(tactic|have $x:ident:=$e)
noncomputable section
local macro_rules|`(tactic|omega)=>`(tactic|lia)
local macro_rules|`(tactic|show $e)=>`(tactic|refine $e)
open PySem PySem.Spec
abbrev gQm:=@List.getElem?_map
abbrev lQm:=@List.length_map
abbrev mQg:=@List.mem_of_getElem?
abbrev oQm:=@Option.map_eq_some_iff
abbrev gQe:=@List.getElem?_eq_getElem
abbrev gQs:=@List.getElem?_eq_some_iff
abbrev lQa:=@List.length_append
abbrev nQl:=@Nat.le_of_lt
abbrev mQa:=@List.mem_append
abbrev Qaq:=@PySem.wpAny_bind
abbrev Qbq:=@Option.bind_some
abbrev Qcq:=@PySem.Heap.get?_push_of_some
abbrev Qdq:=@decide_eq_false
abbrev Qeq:=@decide_eq_true
abbrev Qfq:=@List.mem_singleton
abbrev Qgq:=@PySem.wpAny_pure
abbrev Qhq:=@if_pos
abbrev Qiq:=@PySem.Heap.lt_size
abbrev Qjq:=@List.size_toArray
abbrev Qkq:=@List.mem_map
abbrev Qlq:=@List.getD_eq_getElem?_getD
abbrev Qmq:=@Nat.le_refl
abbrev Qnq:=@List.length_cons
abbrev Qoq:=@List.mem_append_right
abbrev Qpq:=@List.mem_cons_of_mem
abbrev Qqq:=@Nat.lt_of_lt_of_le
abbrev Qrq:=@PySem.Heap.get?_push_size
abbrev Qsq:=@List.mem_cons
abbrev Qtq:=@Bool.false_ne_true
abbrev Quq:=@if_neg
abbrev Qvq:=@List.append_assoc
abbrev Qwq:=@Nat.ne_of_lt
abbrev Qxq:=@List.length_take
abbrev Qyq:=@List.getElem?_set_self
abbrev Qzq:=@List.map_append
abbrev QAq:=@Nat.le_trans
abbrev QBq:=@List.mem_cons_self
abbrev QCq:=@Bool.and_eq_true
abbrev QDq:=@List.map_cons
abbrev QEq:=@List.take_length
abbrev QFq:=@PySem.W.mg_none_of
abbrev QGq:=@List.length_nil
abbrev QHq:=@List.getElem?_append_left
abbrev QIq:=@List.length_replicate
abbrev QJq:=@List.Perm.append_right
abbrev QKq:=@List.getElem?_set_ne
abbrev QLq:=@PySem.wpAny_holding
abbrev QMq:=@PySem.wpAny_field
abbrev QNq:=@List.replicate_succ
abbrev QOq:=@List.mem_flatMap
abbrev QPq:=@List.map_map
abbrev QQq:=@List.getElem?_append_right
abbrev QRq:=@PySem.wpAny_mono
abbrev QSq:=@List.flatMap_cons
abbrev QTq:=@List.mem_or_eq_of_mem_set
abbrev QUq:=@List.all_eq_true
abbrev QVq:=@List.length_range
abbrev QWq:=@List.drop_eq_getElem_cons
abbrev QXq:=@List.not_mem_nil
abbrev QYq:=@List.take_add_one
abbrev QZq:=@of_decide_eq_true
abbrev QaQ:=@of_decide_eq_false
abbrev QbQ:=@List.getElem_of_mem
abbrev QcQ:=@List.mem_of_getLast?
abbrev QdQ:=@Option.some.inj
abbrev QeQ:=@List.of_mem_zip
abbrev QfQ:=@List.getLast?_map
abbrev QgQ:=@PySem.wpAny_ite_false
abbrev QhQ:=@PySem.wpAny_newObj_type
abbrev QiQ:=@PySem.wpAny_callSpecial?_slot
abbrev QjQ:=@List.Sublist.refl
abbrev QkQ:=@List.eq_of_mem_replicate
abbrev QlQ:=@List.map_replicate
namespace L2
open PyProof.Rows
abbrev Key:=Sum Int Str
noncomputable def uQ:Key->Value->Bool
 |.inl k,v=>Value.isInt k v
 |.inr x,v=>Value.isStrOf x v
noncomputable def Qq(w:Xc):Key->Int
 |.inl k=>hashInt k
 |.inr x=>hashStr w x
def dP:∀{k:Key} {v:Xd},uQ k v=true->(∃i t,k=Sum.inl i/\v=Value.int i t)\/(∃x t,k=Sum.inr x/\v=Value.str x t)
 | .inl i,v,h=>by
   let#[t,e]:=Value.isInt_shape (k:=i) (v:=v) h
   show .inl #[i,t,L,e]
 | .inr x,v,h=>by
   let#[t,e]:=Value.isStrOf_shape (x:=x) (v:=v) h
   show .inr #[x,t,L,e]
def Hr(i:Int)(t:Tok):uQ (.inl i) (.int i t)=true:=by simp[uQ,Value.isInt]
def tw(x:Str)(t:Tok):uQ (.inr x) (.str x t)=true:=by simp[uQ,Value.isStrOf]
def MA(a b:Int):decide ((Sum.inl a:Key)=Sum.inl b)=(a==b):=by
 by_cases e:a=b
 ·subst e;simp
 ·have h:¬(Sum.inl a:Key)=Sum.inl b:=λq=>e (Sum.inl.inj q)
  rw[Qdq h]
  show(beq_eq_false_iff_ne.mpr e).symm
def Mj(a b:Str):decide ((Sum.inr a:Key)=Sum.inr b)=decide (a=b):=by
 by_cases e:a=b
 ·subst e;simp
 ·have h:¬(Sum.inr a:Key)=Sum.inr b:=λq=>e (Sum.inr.inj q)
  rw[Qdq h,Qdq e]
def NI(a:Int)(b:Str):decide ((Sum.inl a:Key)=Sum.inr b)=false:=Qdq (λq=>nomatch q)
def My(a:Str)(b:Int):decide ((Sum.inr a:Key)=Sum.inl b)=false:=Qdq (λq=>nomatch q)
noncomputable def cq(prog:X9)(w:Xc):PySem.KeyKind prog w Key where
 is:=uQ
 hash:=Qq w
 inj:=λv a b g f=>by
  rcases dP g with⟨i,t,rfl,rfl⟩|⟨x,t,rfl,rfl⟩
  ·rcases dP f with⟨j,u,rfl,e⟩|⟨y,u,rfl,e⟩
   ·injection e with c _;rw[c]
   ·show nomatch e
  ·rcases dP f with⟨j,u,rfl,e⟩|⟨y,u,rfl,e⟩
   ·show nomatch e
   ·injection e with c _;rw[c]
 byValue:=λk v h=>by
  rcases dP h with⟨i,t,rfl,rfl⟩|⟨x,t,rfl,rfl⟩ <;>rfl
 pyHash:=λd h=>by
  rcases dP d with⟨i,t,rfl,rfl⟩|⟨x,t,rfl,rfl⟩
  ·show wpAny_pyHash_int h
  ·show wpAny_pyHash_str h
 eqBool:=λl d h=>by
  rcases dP l with⟨i,t,rfl,rfl⟩|⟨x,t,rfl,rfl⟩
  ·rcases dP d with⟨j,u,rfl,rfl⟩|⟨y,u,rfl,rfl⟩
   ·rw[MA] at h;show wpAny_eqBool_int h
   ·rw[NI] at h;show SeqAt.EqAt.int_str i t y u _ _ _ _ h
  ·rcases dP d with⟨j,u,rfl,rfl⟩|⟨y,u,rfl,rfl⟩
   ·rw[My] at h;show SeqAt.EqAt.str_int x t j u _ _ _ _ h
   ·rw[Mj] at h;show wpAny_eqBool_str h
 «strs»:=λk x t v h=>by
  rcases dP h with⟨i,u,rfl,e⟩|⟨y,u,rfl,e⟩
  ·show nomatch e
  ·injection e with c _
   subst c
   cases v <;>rfl
def BR(prog:X9)(w:Xc)(i:Int)(t:Tok):(cq prog w).is (.inl i) (.int i t)=true:=Hr i t
def B2(prog:X9)(w:Xc)(x:Str)(t:Tok):(cq prog w).is (.inr x) (.str x t)=true:=tw x t
inductive V where
 |non|bl (b:Bool)|int (i:Int)|str (x:Str)|byt (b:Array UInt8)|flt (b:UInt64)|ref (a:X8)|ty (n:String)
 deriving DecidableEq
def RelV:V->Value->Prop
 |.non,u=>u=Value.none
 |.bl b,u=>u=Value.bool b
 |.int i,u=>∃t,u=Value.int i t
 |.str x,u=>∃t,u=Value.str x t
 |.byt b,u=>∃t,u=Value.bytes b t
 |.flt b,u=>∃t,u=Value.float b t
 |.ref a,u=>u=Value.ref a
 |.ty n,u=>u=Value.type n
abbrev bN:List V->List Value->Prop:=Paired RelV
def bN.length(r:bN xs a):xs.length=a.length:=Paired.length r
theorem bN.get:∀{xs:List V} {a:X5} {i:Nat} {x:V},bN xs a->xs[i]?=some x->∃u,a[i]?=some u/\RelV x u
 |_,_,_,_,.nil,e=>by simp at e
 |_,_,0,_,.cons r _,e=>by simp at e;subst e;show#[_,L,r]
 | _,_,i+1,x,.cons _ t,e=>by
   let#[u,c,b]:=bN.get (i:=i) (x:=x) t (by simpa using e)
   show#[u,by simpa using c,b]
theorem bN.set(r:RelV x u):∀{xs:List V} {a:X5} (i:Nat),bN xs a->bN (xs.set i x) (a.set i u)
 |_,_,_,.nil=>.nil
 |_,_,0,.cons _ t=>.cons r t
 |_,_,i+1,.cons q t=>.cons q (bN.set r i t)
theorem bN.append:∀{xs ys:List V} {a ws:X5},bN xs a->bN ys ws->bN (xs++ys) (a++ws)
 |_,_,_,_,.nil,s=>s
 |_,_,_,_,.cons r t,s=>.cons r (bN.append t s)
theorem bN.take:∀{xs:List V} {a:X5} (n:Nat),bN xs a->bN (xs.take n) (a.take n)
 |_,_,0,_=>.nil
 |_,_,_+1,.nil=>.nil
 |_,_,n+1,.cons r t=>.cons r (bN.take n t)
theorem bN.drop:∀{xs:List V} {a:X5} (n:Nat),bN xs a->bN (xs.drop n) (a.drop n)
 |_,_,0,r=>r
 |_,_,_+1,.nil=>.nil
 |_,_,n+1,.cons _ t=>bN.drop n t
def vM:Option V->Option Value->Prop
 |some v,some u=>RelV v u
 |none,none=>True
 |_,_=>False
def KV:List (κ×V)->List (κ×Value)->Prop:=Paired λ(p:κ×V) (q:κ×Value)=>p.1=q.1/\RelV p.2 q.2
noncomputable def kV:Key->V
 |.inl i=>.int i
 |.inr x=>.str x
inductive HO where
 |lst (xs:List V)
 |tup (xs:List V)
 |dK (kvs:List (Key×V))|dT (kvs:List (List Key×V))
 |set (S:Int->Bool) (n:Nat)
 |ins (C dx:X8) (fs:List (Str×V))
 |own (x:X8)
 |xd (fs:List (Str×V))
 |met (f x:X8)
 |rng (lo hi:Int)
 |frz (o:Obj) (u:HO)
 |tbl (ps:Xa)
 |ext (φ:Heap->Prop)
abbrev Hp:=Addr->Option HO
noncomputable def upd(H:Hp)(a:X8)(o:HO):Hp:=λb=>if b=a then some o else H b
def cg:upd H a o a=some o:=by unfold upd;rw[Qhq L]
def bF(h:b≠a):upd H a o b=H b:=by unfold upd;rw[Quq h]
def Im{H:Hp}(h:H a=some o)(h':H b=some u)(d:o≠u):a≠b:=by
 intro e;subst e;rw[h] at h';show d (QdQ h')
def gc{H:Hp}(h:H a=some o)(h':H b=none):a≠b:=by
 intro e;subst e;rw[h] at h';cases h'
def CB(h:Xe)(a:X8)(items:Xa):Prop:=∃o,h.get? a=some o/\o.cls=.type "tuple" /\o.dict=none/\∃n,o.data=.seq items n
def CB.it(x:CB h a items):IsTup h a items:=by
 let#[o,e,c,_,d]:=x
 show#[o,e,c,d]
def CB.new(h:Xe)(items:Xa):CB (h.push {cls:=.type "tuple",data:=.seq items}) h.objs.size items:=#[_,Qrq _ L,L,L,_,L]
section
variable(P:X9)(w:Xc)
def dF(H:Hp)(h:Xe)(a:X8):HO->Prop
 |.lst d=>d.length<=sizeLine/\∃(c:X5) (n:Nat),bN d c/\h.get? a=some {cls:=.type "list",data:=.seq c.toArray n}
 |.tup d=>d.length<=sizeLine/\∃c:List Value,bN d c/\CB h a c.toArray
 |.dK b=>b.length<=sizeLine/\(a==sysModules)=false/\∃l,KV b l/\h.DictOf (cq P w) a l
 |.dT b=>b.length<=sizeLine/\(a==sysModules)=false/\∃d:List (List Key×Addr×Value),
   Paired (λ(p:List Key×V) (q:List Key×Addr×Value)=>p.1=q.1/\H q.2.1=some (.tup (p.1.map kV))/\RelV p.2 q.2.2) b d∧
   ∃o r z,h.get? a=some o/\o.ExactDict/\o.data=.dict r z/\r.toList=d.map (entryOfKey<|tupleKind<|cq P w)/\(d.map (·.1)).Nodup
 |.set S n=>h.SetOf (intKind P w) a S n
 |.ins C i g=>H i=some (.own a)/\g.length<=1000/\i≠a/\h.get? a=some (PySem.W.instObj C i)∧
   ∃e,h.Ns1 i e/\(∀f,vM (g.lookup f)<|e f)/\PySem.Within e (g.map (·.1))
 |.own _=>∃o,h.get? a=some o
 |.xd g=>∃e,h.Ns1 a e/\∀f,vM (g.lookup f) (e f)
 |.rng A y=>∃t u v,h.get? a=some {cls:=.type "range",data:=.fields (List.toArray [.int A t,.int y u,.int 1 v])}
 |.frz o u=>h.get? a=some o/\dF H h a u
 |.tbl s=>h.get? a=some {cls:=.none,data:=.fields s}
 |.met f x=>h.get? a=some (PySem.W.methodObj (.ref f)<|.ref x)
 |.ext j=>j h/\(∃o,h.get? a=some o)/\∀m k:Heap,j m->(∀o,m.get? a=some o->k.get? a=some o)->j k
def qO(H:Hp)(h:Xe):Prop:=∀a o,H a=some o->dF P w H h a o
end
theorem dF.lt(x:dF P w H h a o):a<h.objs.size:=by
 cases o with
 |lst c=>let#[_,_,_,_,e]:=x;show Qiq e
 |tup c=>let#[_,_,_,p]:=x;show p.it.lt
 |dK b=>let#[_,_,_,_,o,_,_,e,_]:=x;show Qiq e
 |dT b=>let#[_,_,_,_,o,_,_,e,_]:=x;show Qiq e
 |set S n=>let#[o,_,_,_,e,_]:=x;show Qiq e
 |ins C m d=>let#[_,_,_,e,_]:=x;show Qiq e
 |own y=>let#[_,e]:=x;show Qiq e
 |xd d=>let#[_,#[_,_,_,e,_],_]:=x;show Qiq e
 |rng q l=>let#[_,_,_,e]:=x;show Qiq e
 |frz k u=>let#[e,_]:=x;show Qiq e
 |tbl j=>show Qiq (show h.get? a=some _ from x)
 |met f y=>show Qiq (show h.get? a=some _ from x)
 |ext i=>let#[_,#[_,e],_]:=x;show Qiq e
theorem Paired.mapP{F G:α->c->Prop}:∀{l₁:List α} {l₂:List c},Paired F l₁ l₂->(∀a b,F a b->G a b)->Paired G l₁ l₂
 |_,_,.nil,_=>.nil
 |_,_,.cons r t,f=>.cons (f _ _ r) (Paired.mapP t f)
def dF.stay{g:Hp}{h':Xe}(x:dF P w H h a o)(k:∀b u,(b=a\/H b=some (.own a))->h.get? b=some u->h'.get? b=some u)
  (L:∀b,H b=some (.own a)->g b=some (.own a)) (ht:∀b xs,H b=some (.tup xs)->g b=some (.tup xs)):dF P w g h' a o:=by
 induction o with
 |lst xs=>let#[z,m,n,r,e]:=x;show#[z,m,n,r,k _ _ (.inl rfl) e]
 |tup xs=>let#[z,m,r,i,e,c]:=x;show#[z,m,r,i,k _ _ (.inl rfl) e,c]
 |dK s=>let#[z,y,I,r,i,j,l,e,c]:=x;show#[z,y,I,r,i,j,l,k _ _ (.inl rfl) e,c]
 | dT s=>
   let#[z,y,xs,r,i,j,l,e,c]:=x
   show#[z,y,xs,Paired.mapP r λp q z=>#[z.1,ht _ _ z.2.1,z.2.2],i,j,l,k _ _ (.inl rfl) e,c]
 |set S n=>let#[i,j,l,t,e,c]:=x;show#[i,j,l,t,k _ _ (.inl rfl) e,c]
 | ins C U M=>
   let#[d,z,J,e,A,#[B,j,l,K,c],r]:=x
   show#[L _ d,z,J,k _ _ (.inl rfl) e,A,#[B,j,l,k _ _ (.inr d) K,c],r]
 |own y=>let#[i,e]:=x;show#[i,k _ _ (.inl rfl) e]
 |xd M=>let#[A,#[B,j,l,e,c],r]:=x;show#[A,#[B,j,l,k _ _ (.inl rfl) e,c],r]
 |rng X R=>let#[t,u,v,e]:=x;show#[t,u,v,k _ _ (.inl rfl) e]
 |frz i u N=>let#[e,q]:=x;show#[k _ _ (.inl rfl) e,N q]
 | tbl F=>
   have e:h.get? a=some {cls:=.none,data:=.fields F}:=x
   show h'.get? a=some {cls:=.none,data:=.fields F}
   show k a _ (.inl rfl) e
 | met f y=>
   have e:h.get? a=some (PySem.W.methodObj (.ref f)<|.ref y):=x
   show h'.get? a=some (PySem.W.methodObj (.ref f)<|.ref y)
   show k a _ (.inl rfl) e
 |ext Q=>let#[p,#[o,e],G]:=x;show#[G _ _ p λo q=>k _ _ (.inl rfl) q,#[o,k _ _ (.inl rfl) e],G]
def qO.lt(x:qO P w H h)(e:H a=some o):a<h.objs.size:=(x a o e).lt
def qO.fresh(x:qO P w H h)(e:h.objs.size<=a):H a=none:=by
 cases q:H a with
 |none=>rfl
 |some u=>show absurd (Qqq (x.lt q) e) (Nat.lt_irrefl _)
def qO.kept{h':Xe}(x:qO P w H h)(k:∀b u,h.get? b=some u->h'.get? b=some u):qO P w H h':=λa o e=>
 (x a o e).stay (λb u _ q=>k b u q) (λ_ q=>q) λ_ _ q=>q
def qO.laid{h':Xe}(x:qO P w H h)(k:∀b u,h.get? b=some u->h'.get? b=some u)(j:h.objs.size<=a)(d:dF P w (upd H a o) h' a o):qO P w (upd H a o) h':=λb u e=>by
 let i:=x.fresh j
 by_cases f:b=a
 ·subst f;rw[cg] at e;cases e;show d
 ·rw[bF f] at e
  show(x b u e).stay (λc v _ q=>k c v q) (λc q=>by rw[bF (gc q i)];show q) λc l q=>by rw[bF (gc q i)];show q
def Rd(H:Hp)(a:X8)(u:HO):Prop:=H a=some u\/∃o,H a=some (.frz o u)
def Rd.ok(r:Rd H a u)(x:qO P w H h):dF P w H h a u:=by
 rcases r with r|⟨o,r⟩
 ·show x a u r
 ·let#[_,q]:=x a _ r
  show q
def Pe:Option HO->Prop
 |some (.lst _)=>True
 |some (.dK _)=>True
 |some (.dT _)=>True
 |some (.set _ _)=>True
 |some (.ins _ _ _)=>True
 |some (.ext _)=>True
 |_=>False
def qO.write{h':Xe}(ok:qO P w H h)(l:Pe (H x))(he:e=x\/H e=some (.own x))(k:∀b u,b≠e->h.get? b=some u->h'.get? b=some u)(n:∃u,h'.get? e=some u)
  (o:dF P w (upd H x a) h' x a):qO P w (upd H x a) h':=λb u q=>by
 have f:∀c y,H c=some (.own y)->c≠x:=λc y r z=>by subst z;rw[r] at l;show l
 have g:∀c j,H c=some (.tup j)->c≠x:=λc j r z=>by subst z;rw[r] at l;show l
 by_cases i:b=x
 ·subst i;rw[cg] at q;cases q;show o
 ·rw[bF i] at q
  by_cases d:b=e
  ·have p:H b=some (.own x):=by
    rcases he with z|z
    ·show absurd (d.trans z) i
    ·rw[d];show z
   rw[q] at p;cases p
   let#[v,s]:=n
   show#[v,by rw[d];show s]
  ·show(ok b u q).stay (λc v m r=>k c v ?_ r) (λc r=>by rw[bF (f c b r)];show r) λc j r=>by rw[bF (g c j r)];show r
   rcases m with rfl|m
   ·show d
   ·rintro rfl
    rcases he with z|z
    ·show f c b m z
    ·rw[m] at z;cases z;show i L
structure Un(fs ex:X7)(H H':Hp)(h h':Xe):Prop where
 keep:∀b o,h.get? b=some o->H b=none->b∉fs->b∉ex->h'.get? b=some o
 slot:∀b o,h.get? b=some o->H b=none->b∈fs->b∉ex->∃sl,h'.get? b=some {o with slots:=sl}
 free:∀b o,h.get? b=some o->H b=none->b∉ex->H' b=none
 there:∀b o,h.get? b=some o->b∉ex->∃o',h'.get? b=some o'
 tups:∀b xs,H b=some (.tup xs)->H' b=some (.tup xs)
 frzs:∀b o u,H b=some (.frz o u)->H' b=some (.frz o u)
 tbls:∀b ps,H b=some (.tbl ps)->∃more,H' b=some (.tbl (ps++more))
def Un.any{fs:X7}{c:X7}{H:Hp}{H1:Hp}{h:Xe}{d:Xe}(u:Un fs c H H1 h d){b:X8}{j:Obj}(q:h.get? b=some j)(n:H b=none)(l:b∉c):∃m,d.get? b=some {j with slots:=m}:=by
 by_cases k:b∈fs
 ·show u.slot b j q n k l
 ·show#[j.slots,u.keep b j q n k l]
def Un.kept{h:Xe}{h':Xe}(k:∀b u,h.get? b=some u->h'.get? b=some u):Un fs c H H h h':=
 #[λb j q _ _ _=>k b j q,λb j q _ _ _=>#[j.slots,k b j q],λ_ _ _ n _=>n,λb j q _=>#[j,k b j q],λ_ _ q=>q,λ_ _ _ q=>q,λ_ l q=>#[(List.toArray []),by rw[q];simp]]
def Un.refl:Un fs c H H h h:=Un.kept λ_ _ q=>q
def Un.laid{H:Hp}{h:Xe}{h':Xe}(k:∀b u,h.get? b=some u->h'.get? b=some u)(l:h.objs.size<=a)(j:H a=none):Un fs c H (upd H a o) h h' where
 keep:=λb u q _ _ _=>k b u q
 slot:=λb u q _ _ _=>#[u.slots,k b u q]
 free:=λb u q n _=>by rw[bF (Qwq<|Qqq (Qiq q) l)];show n
 there:=λb u q _=>#[u,k b u q]
 tups:=λb m q=>by rw[bF (gc q j)];show q
 frzs:=λb u m q=>by rw[bF (gc q j)];show q
 tbls:=λb p q=>#[(List.toArray []),by rw[bF (gc q j),q];simp]
def Un.write{H:Hp}{h:Xe}{h':Xe}(l:Pe (H x))(he:e=x\/H e=some (.own x))(k:∀b u,b≠e->h.get? b=some u->h'.get? b=some u)(p:∃u,h'.get? e=some u):Un fs c H (upd H x o) h h':=by
 have t:∀b,H b=none->b≠x:=λb n z=>by subst z;rw[n] at l;show l
 have s:∀b,H b=none->b≠e:=λb n z=>by
  subst z
  rcases he with r|r
  ·show t b n r
  ·rw[n] at r;cases r
 have m:∀b u,H b=some u->¬Pe (some u)->b≠x:=λb u q v z=>by subst z;rw[q] at l;show v l
 show⟨λb u q n _ _=>k b u (s b n) q,λb u q n _ _=>⟨u.slots,k b u (s b n) q⟩,λb u q n _=>by rw[bF (t b n)];show n,λb u q _=>?_,
  λb w q=>by rw[bF (m b _ q λz=>z)];show q,λb u w q=>by rw[bF (m b _ q λz=>z)];show q,λb y q=>#[(List.toArray []),by rw[bF (m b _ q λz=>z),q];simp]⟩
 by_cases j:b=e
 ·subst j;show p
 ·show#[u,k b u j q]
noncomputable def P4(h:Xe)(H:Hp):List Addr:=(List.range h.objs.size).filter λa=>(H a).isSome
noncomputable def zT(h:Xe)(H:Hp):Heap:=PySem.W.hideAll h (P4 h H)
def GD(h:Xe)(H:Hp):(zT h H).objs.size=h.objs.size:=PySem.W.hideAll_size _ _
def Jv{h:Xe}{H:Hp}(e:h.get? b=some o)(n:H b=none):(zT h H).get? b=some o:=
 PySem.W.hideAll_get _ e λa=>by
  have q:(H b).isSome=true:=(List.mem_filter.mp a).2
  rw[n] at q;simp at q
def Ku(e:(zT h H).get? b=some o):h.get? b=some o/\H b=none:=by
 have a:h.get? b=some o:=PySem.W.of_hideAll (P4 h H) e
 show#[a,?_]
 cases q:H b with
 |none=>rfl
 | some x=>
   have c:b∈P4 h H:=List.mem_filter.mpr #[List.mem_range.mpr<|Qiq a,by simp[q]]
   have z:(zT h H).get? b=none:=PySem.W.hideAll_none (P4 h H) c
   rw[z] at e;cases e
structure Mod(K:X1)(mg:X3)(base:Xe):Prop where
 kin:K.In base
 glob:base.Ns mainGlobals mg
 blt:∃mb,base.Ns builtinsNs mb/\∀x:Str,x≠"__name__" ->mb x=bootBuiltins x
 nolimit:base.NoLimit
structure Cx where
 prog:Program
 w:World
 K:PySem.W.Frag
 mg:Str->Option Value
 base:Heap
 A:Around
 N:List Str
 s₀:Shared
 H₀:Hp
 env:Env
 outer:List Env
 stack:List Env
 ex:List Addr
 fn:Str->Bool
 calm:Bool
 pn:List (Addr×Obj)
 xe:Value->Shared->Prop
noncomputable def IV(l:List Env):List Addr:=l.filterMap (·.frame)
noncomputable abbrev Cx.fs(X:Cx):List Addr:=IV X.outer
def LZ(sc:Scope)(x:Str):Prop:=sc.names.lookup x=some .local\/sc.names.lookup x=some .cell\/sc.names.lookup x=some .free
def Loc(sc:Scope)(x:Str):Prop:=sc.names.lookup x=some .local\/sc.names.lookup x=some .cell
def Look(env:Env)(h:Xe)(m:X3)(x:Str)(u:Xd):Prop:=
 (env.kindOf x=some .local/\m x=some u)\/((env.kindOf x=some .cell\/env.kindOf x=some .free)/\∃c,env.cells.lookup x=some c/\h.IsCell c (some u))
structure Cx.Ok(X:Cx):Prop where
 mod:Mod X.K X.mg X.base
 kind:X.env.scope.kind=.function
 glob:X.env.globals=mainGlobals
 blt:X.env.builtins=builtinsNs
 above:X.s₀.heap.objs.size<=X.env.locals
 inj:∀x y c,X.env.cells.lookup x=some c->X.env.cells.lookup y=some c->x=y
 has:∀x,(X.env.kindOf x=some .cell\/X.env.kindOf x=some .free)->∃c,X.env.cells.lookup x=some c
 cab:∀x c,X.fn x=true->X.env.cells.lookup x=some c->X.s₀.heap.objs.size<=c
 hd:X.calm=true->X.A.handled=none
 frames:X.A.frames=some X.stack
 stk:X.stack=X.outer\/(X.stack=X.env::X.outer/\X.env.frame=some X.env.locals)
 exf:∀b∈X.ex,b≠X.env.locals/\∀x c,X.env.cells.lookup x=some c->c≠b
 bs:∀b o,X.base.get? b=some o->X.s₀.heap.get? b=some o/\X.H₀ b=none
 bsz:X.base.objs.size<=X.s₀.heap.objs.size
 noex:∀b o,X.base.get? b=some o->b∉X.ex
 exfs:∀b∈X.ex,b∉X.fs
 funs:X.s₀.heap.FunFrames X.base X.outer
 frf:∀b∈X.fs,X.H₀ b=none
structure Inv(X:Cx)(pins:X2)(σ:List (Option V))(H:Hp)(s:X4):Prop where
 ok:X.Ok
 os:s.os=X.s₀.os
 bare:AllBare s.gens
 base:Un X.fs X.ex X.H₀ H X.s₀.heap s.heap
 loc:∃m,s.heap.Ns X.env.locals m/\∀(i:Nat) (x:Str) (v:V),X.N[i]?=some x->σ[i]?=some (some v)->LZ X.env.scope x->∃u,RelV v u/\Look X.env s.heap m x u
 cell:∀x c,X.env.cells.lookup x=some c->∃v,s.heap.IsCell c v
 free:H X.env.locals=none
 freeC:∀x c,X.env.cells.lookup x=some c->H c=none
 pin:∀p∈X.pn++pins,s.heap.get? p.1=some p.2/\H p.1=none/\p.1≠X.env.locals/\p.1∉X.fs/\∀v,p.2.data≠.cell v
 hok:qO X.prog X.w H s.heap
 len:σ.length=X.N.length
def Cx.Ok.nofr{X:Cx}(ok:X.Ok)(e:X.base.get? b=some o):b∉X.fs:=λa=>by
 have:=(ok.funs.mem a).1
 rw[e] at this;cases this
def Inv.bs(I:Inv X f g H s):∀b o,X.base.get? b=some o->s.heap.get? b=some o/\H b=none:=λb o e=>
 #[I.base.keep b o (I.ok.bs b o e).1 (I.ok.bs b o e).2 (I.ok.nofr e)<|I.ok.noex b o e,I.base.free b o (I.ok.bs b o e).1 (I.ok.bs b o e).2<|I.ok.noex b o e]
def Inv.bk(I:Inv X f g H s):∀b o,X.base.get? b=some o->s.heap.get? b=some o:=λb o e=>(I.bs b o e).1
def Inv.mod(I:Inv X f g H s):Mod X.K X.mg X.base:=I.ok.mod
def Inv.kIn(I:Inv X f g H s):X.K.In s.heap:=I.ok.mod.kin.keeps I.bk
def Inv.lt(I:Inv X f g H s):X.env.locals<s.heap.objs.size:=let ⟨_,hn,_⟩:=I.loc;hn.lt
def Inv.sz(I:Inv X f g H s):X.s₀.heap.objs.size<=s.heap.objs.size:=QAq I.ok.above (nQl I.lt)
def Inv.nofs(I:Inv X f g H s)(h:s.heap.objs.size<=a):a∉X.fs:=λc=>by
 let#[_,o,b,_]:=I.ok.funs.mem c
 show absurd (Qqq (Qiq b)<|QAq I.sz h)<|Nat.lt_irrefl _
def Inv.cne(I:Inv X f g H s):∀x c,X.env.cells.lookup x=some c->c≠X.env.locals:=λx c e z=>by
 let#[v,o,h,d]:=I.cell x c e
 let#[m,#[k,j,i,b,a,_],_]:=I.loc
 rw[z,b] at h;cases h;rw[a] at d;cases d
theorem Inv.funs(I:Inv X f g H s):s.heap.FunFrames X.base X.outer:=by
 have h:∀(l:List Env),(∀b∈IV l,b∈X.fs)->X.s₀.heap.FunFrames X.base l->s.heap.FunFrames X.base l:=by
  intro l
  induction l with
  |nil=>intro _ _;trivial
  | cons m r u=>
    intro i p
    let#[k,#[L,o,d,t,n,j],q]:=p
    have c:L∈X.fs:=i L (by unfold IV;rw[List.filterMap_cons,d];show QBq)
    let#[v,e]:=I.base.slot L o n (I.ok.frf L c) c λz=>I.ok.exfs L z c
    show#[k,#[L,_,d,t,e,j],u (λb a=>i b (by unfold IV;rw[List.filterMap_cons,d];show Qpq _ a)) q]
 show h X.outer (λ_ a=>a) I.ok.funs
def Inv.stack(I:Inv X f g H s):s.heap.FunFrames X.base X.stack:=by
 rcases I.ok.stk with e|⟨e,a⟩
 ·rw[e];show I.funs
 ·rw[e]
  let#[m,b,_]:=I.loc
  show .cons (by rw[I.ok.kind];decide) a b ?_ I.funs
  show Heap.get?_none_of_le<|QAq I.ok.bsz I.ok.above
def Inv.stkSub(I:Inv X f g H s):∀b∈IV X.stack,b∈X.env.locals::X.fs:=λb a=>by
 rcases I.ok.stk with e|⟨e,c⟩
 ·rw[e] at a;show Qpq _ a
 ·rw[e] at a
  unfold IV at a
  rw[List.filterMap_cons,c] at a
  show a
def Inv.stkFree(I:Inv X f g H s):∀b∈IV X.stack,H b=none:=λb a=>by
 rcases Qsq.mp (I.stkSub b a) with e|a
 ·rw[e];show I.free
 ·let#[_,o,c,_]:=I.ok.funs.mem a
  show I.base.free b o c (I.ok.frf b a) λz=>I.ok.exfs b z a
def Inv.step{X:Cx}{f:X2}{g:List (Option V)}{H:Hp}{B:Hp}{s:X4}{h':Xe}{g':Array GenState}{t':Nat}{d':Drawn}{ch:X7}(I:Inv X f g H s)
  (A:∀b∈ch,(b∈X.ex\/X.s₀.heap.objs.size<=b)/\b≠X.env.locals/\(∀x c,X.env.cells.lookup x=some c->c≠b)/\∀p∈X.pn++f,p.1≠b)
  (y:∀b o,b≠X.env.locals->b∉X.fs->b∉ch->s.heap.get? b=some o->H b=none->h'.get? b=some o)
  (G:∀b o,b≠X.env.locals->b∈X.fs->b∉ch->s.heap.get? b=some o->H b=none->∃W,h'.get? b=some {o with slots:=W}) (h:∀b o,b∉ch->s.heap.get? b=some o->H b=none->B b=none)
  (K:∀b o,b∉ch->s.heap.get? b=some o->∃S,h'.get? b=some S)
  (Q:∀b xs,H b=some (.tup xs)->B b=some (.tup xs)) (N:∀b o u,H b=some (.frz o u)->B b=some (.frz o u)) (R:∀b ps,H b=some (.tbl ps)->∃more,B b=some (.tbl (ps++more)))
  (ns:∀m,s.heap.Ns X.env.locals m->h'.Ns X.env.locals m) (Y:qO X.prog X.w B h') (hg:AllBare g'):
  Inv X f g B {s with heap:=h',gens:=g',drawn:=d',toks:=t'}:=by
 have M:∀b o,X.s₀.heap.get? b=some o->b≠X.env.locals:=λb o e=>Qwq (Qqq (Qiq e) I.ok.above)
 have C:∀b o,X.s₀.heap.get? b=some o->b∉X.ex->b∉ch:=λb o e a J=>by
  rcases(A b J).1 with z|z
  ·show a z
  ·show absurd (Qqq (Qiq e) z)<|Nat.lt_irrefl _
 have j:∀x c,X.env.cells.lookup x=some c->∀v,s.heap.IsCell c v->h'.IsCell c v:=λx c e v qq=>by
  let#[o,L,U]:=qq
  have t:c∉ch:=λz=>(A c z).2.2.1 x c e rfl
  by_cases hc:c∈X.fs
  ·let#[W,q]:=G c o (I.cne x c e) hc t L (I.freeC x c e)
   show#[_,q,U]
  ·show#[o,y c o (I.cne x c e) hc t L<|I.freeC x c e,U]
 show#[I.ok,I.os,hg,#[λb o e n J a=>?_,λb o e n J a=>?_,λb o e n a=>?_,λb o e a=>?_,λb xs e=>Q b xs<|I.base.tups b xs e,λb o xs e=>N b o xs<|I.base.frzs b o xs e,λb ps e=>?_],?_,λx c e=>?_,?_,λx c e=>?_,λp hp=>?_,Y,I.len]
 ·show y b o (M b o e) J (C b o e a) (I.base.keep b o e n J a)<|I.base.free b o e n a
 ·let#[W,F]:=I.base.slot b o e n J a
  let#[Z,P]:=G b _ (M b o e) J (C b o e a) F (I.base.free b o e n a)
  show#[Z,P]
 ·let#[S,F]:=I.base.there b o e a
  show h b S (C b o e a) F<|I.base.free b o e n a
 ·let#[S,F]:=I.base.there b o e a
  show K b S (C b o e a) F
 ·let#[m1,F]:=I.base.tbls b ps e
  let#[m2,P]:=R b _ F
  show#[m1++m2,by rw[P,Array.append_assoc]]
 ·let#[m,hn,hl]:=I.loc
  show#[m,ns m hn,λi x v F P e3=>?_]
  let#[u,r,l]:=hl i x v F P e3
  show#[u,r,?_]
  rcases l with l|⟨k,c,e,z⟩
  ·show .inl l
  ·show .inr #[k,c,e,j x c e _ z]
 ·let#[v,z]:=I.cell x c e
  show#[v,j x c e v z]
 ·let#[m,#[o,_,_,L,_],_]:=I.loc
  show h _ o (λz=>(A _ z).2.1 rfl) L I.free
 ·let#[v,o,L,U]:=I.cell x c e
  show h c o (λz=>(A c z).2.2.1 x c e rfl) L<|I.freeC x c e
 ·let#[e,n,ne,nf,d]:=I.pin p hp
  have t:p.1∉ch:=λz=>(A p.1 z).2.2.2 p hp rfl
  show#[y p.1 p.2 ne nf t e n,h p.1 p.2 t e n,ne,nf,d]
def Inv.un(I:Inv X f g H s)(u:Un X.fs [] H B s.heap h')(i:qO X.prog X.w B h'):Inv X f g B {s with heap:=h',toks:=t'}:=by
 let#[m,#[o,t,y,j,r],_]:=id I.loc
 let#[q,l]:=u.any j I.free (by simp)
 show I.step (g':=s.gens) (d':=s.drawn) (ch:= []) (λ_ z=>nomatch z) (λb o _ c _ e n=>u.keep b o e n c (by simp)) (λb o _ c _ e n=>u.slot b o e n c (by simp)) (λb o _ e n=>u.free b o e n (by simp)) (λb o _ e=>u.there b o e (by simp)) u.tups u.frzs u.tbls (λx p=>by
  let#[v,h,d,a,k]:=p
  rw[j] at a;cases a
  show#[_,h,d,l,k]) i I.bare
def Inv.call(I:Inv X f g H s)(u:Un (IV X.stack) ch H B s.heap h')(l:qO X.prog X.w B h')(y:AllBare g')
  (h:∀b∈ch,(b∈X.ex\/X.s₀.heap.objs.size<=b)/\b≠X.env.locals/\(∀x c,X.env.cells.lookup x=some c->c≠b)/\∀p∈X.pn++f,p.1≠b):
  Inv X f g B {s with heap:=h',gens:=g',drawn:=d',toks:=t'}:=by
 let#[m,#[o,F,K,q,r],_]:=id I.loc
 let#[C,j]:=u.any q I.free λz=>(h _ z).2.1 L
 show I.step (ch:=ch) h (λb o j v a e n=>u.keep b o e n (λz=>(Qsq.mp (I.stkSub b z)).elim j v) a) (λb o _ _ a e n=>u.any e n a) (λb o a e n=>u.free b o e n a) (λb o a e=>u.there b o e a) u.tups u.frzs u.tbls (λJ A=>by
  let#[G,k,i,d,t]:=A
  rw[q] at d;cases d
  show#[_,k,i,j,t]) l y
def Inv.turned{h':Xe}(I:Inv X f g H s)(k:∀b o,b≠it->s.heap.get? b=some o->h'.get? b=some o)(A:H it=none)(h:it≠X.env.locals)
  (l:it∈X.ex\/X.s₀.heap.objs.size<=it) (i:∀x c,X.env.cells.lookup x=some c->c≠it) (y:∀p∈X.pn++f,p.1≠it):Inv X f g H {s with heap:=h',toks:=t'}:=by
 have d:∀b u,H b=some u->b≠it:=λb u e z=>by rw[z,A] at e;cases e
 show I.step (g':=s.gens) (d':=s.drawn) (ch:= [it]) (λb j=>?_) (λb o _ _ a e _=>k b o (λz=>a (by simp[z])) e) (λb o _ _ a e _=>#[o.slots,k b o (λz=>a (by simp[z])) e]) (λ_ _ _ _ n=>n)
  (λb o a e=>#[o,k b o (λz=>a (by simp[z])) e]) (λ_ _ e=>e) (λ_ _ _ e=>e) (λb G e=>#[(List.toArray []),by rw[e];simp]) (λm C=>?_) (λb u e=>?_) I.bare
 ·have e:b=it:=by simpa using j
  subst e
  show#[l,h,i,y]
 ·let#[o,w,F,t,r]:=C
  show#[o,w,F,k _ o (Ne.symm h) t,r]
 ·show(I.hok b u e).stay (λc v a q=>k c v ?_ q) (λ_ q=>q) λ_ _ q=>q
  rcases a with z|z
  ·rw[z];show d b u e
  ·show d c _ z
def Inv.tok(I:Inv X f g H s)(t:Nat):Inv X f g H {s with toks:=t}:=I.un (h':=s.heap) (t':=t) Un.refl I.hok
def Inv.kept{h':Xe}(I:Inv X f g H s)(k:∀b u,s.heap.get? b=some u->h'.get? b=some u):Inv X f g H {s with heap:=h',toks:=t'}:=I.un (Un.kept k) (I.hok.kept k)
def Inv.laid{h':Xe}(I:Inv X f g H s)(k:∀b u,s.heap.get? b=some u->h'.get? b=some u)(c:s.heap.objs.size<=a)(d:dF X.prog X.w (upd H a o) h' a o):
  Inv X f g (upd H a o) {s with heap:=h',toks:=t'}:=I.un (Un.laid k c<|I.hok.fresh c) (I.hok.laid k c d)
def Inv.write{h':Xe}(I:Inv X f g H s)(d:Pe (H x))(he:e=x\/H e=some (.own x))(k:∀b u,b≠e->s.heap.get? b=some u->h'.get? b=some u)(a:∃u,h'.get? e=some u)
  (c:dF X.prog X.w (upd H x o) h' x o):Inv X f g (upd H x o) {s with heap:=h',toks:=t'}:=I.un (Un.write d he k a) (I.hok.write d he k a c)
def Inv.pins_of(I:Inv X f g H s)(h:∀p∈a,s.heap.get? p.1=some p.2/\H p.1=none/\p.1≠X.env.locals/\p.1∉X.fs/\∀v,p.2.data≠.cell v):Inv X a g H s:=
 #[I.ok,I.os,I.bare,I.base,I.loc,I.cell,I.free,I.freeC,λp b=>(mQa.mp b).elim (λz=>I.pin p<|List.mem_append_left _ z) (h p),I.hok,I.len]
def BS{N:X6}(d:N.Nodup){i j:Nat}{x:Str}(a:N[i]?=some x)(b:N[j]?=some x):i=j:=by
 let#[k,c]:=gQs.mp a
 let#[h,e]:=gQs.mp b
 show(List.getElem_inj d).mp (c.trans e.symm)
def GL{E:X0}{Q:Unit->Shared->Prop}(I:Inv X f g H s)(hN:X.N.Nodup)(hi:X.N[i]?=some x)(G:Loc X.env.scope x)(r:RelV v u)
  (h:∀s',Inv X f (g.set i<|some v) H s'->(∃a,Heap.SameBut a s.heap s'.heap/\(a=X.env.locals\/X.env.cells.lookup x=some a))->Q () s') (hf:autoParam (X.fn x=true\/X.env.scope.names.lookup x=some .local) dl._auto_1):wpAny M A (storeName X.env x u) Q E s:=by
 let#[m,hn,hl]:=id I.loc
 have a2:(X.env.scope.kind==.class||(X.env.scope.kind==.module&&X.env.locals !=X.env.globals))=false:=by rw[I.ok.kind];rfl
 have P:i<g.length:=by rw[I.len];show(gQs.mp hi).1
 let S:=I.cne
 have t:∀{a:X8} {h':Xe},(∃o,s.heap.get? a=some o/\H a=none)->Heap.SameBut a s.heap h'->qO X.prog X.w H h':=λ{a h'} ha l b ob e=>by
  let#[_,_,J]:=ha
  show(I.hok b ob e).stay (λc w' F q=>(l.2 c ?_).trans q) (λ_ q=>q) λ_ _ q=>q
  rintro rfl
  rcases F with rfl|F
  ·rw[J] at e;cases e
  ·rw[J] at F;cases F
 rcases G with L|L
 ·show wpAny_storeName_local L hn (λh' a3 l=>?_) a2
  let#[oL,_,_,a4,_]:=id hn
  show h _ #[I.ok,I.os,I.bare,#[λb o e n R G=>?_,λb o e n R G=>?_,I.base.free,λb o e G=>?_,I.base.tups,I.base.frzs,I.base.tbls],#[_,a3,λj y v' C K e3=>?_],λy c e=>?_,I.free,I.freeC,λp hp=>?_,t #[oL,a4,I.free] l,by simpa using I.len] #[_,l,.inl rfl]
  ·show(l.2 b<|Qwq<|Qqq (Qiq e) I.ok.above).trans (I.base.keep b o e n R G)
  ·let#[sl,C]:=I.base.slot b o e n R G
   show#[sl,(l.2 b<|Qwq<|Qqq (Qiq e) I.ok.above).trans C]
  ·let#[o',C]:=I.base.there b o e G
   show#[o',(l.2 b<|Qwq<|Qqq (Qiq e) I.ok.above).trans C]
  ·by_cases U:j=i
   ·subst U
    rw[hi] at C;cases C
    rw[Qyq P] at K
    cases K
    show#[u,r,.inl #[L,by simp]]
   ·rw[QKq (Ne.symm U)] at K
    let#[u',r',q]:=hl j y v' C K e3
    show#[u',r',?_]
    rcases q with⟨k,e⟩|⟨k,c,e,z⟩
    ·show .inl #[k,?_]
     have:y≠x:=λe=>U (BS hN C (e▸hi))
     simp[this,e]
    ·show .inr #[k,c,e,z.sameBut l<|S y c e]
  ·let#[w',z]:=I.cell y c e
   show#[w',z.sameBut l<|S y c e]
  ·let#[e,n,ne,nf,d]:=I.pin p hp
   show#[(l.2 p.1 ne).trans e,n,ne,nf,d]
 ·have W:X.fn x=true:=by
   rcases hf with z|z
   ·show z
   ·rw[z] at L;cases L
  let#[c,F]:=I.ok.has x (.inl L)
  let#[w',z]:=I.cell x c F
  show wpAny_storeName_cell I.ok.kind L F z (λh' a1 l=>?_)
  let#[oc,Y,Z]:=id z
  show h {s with heap:=h'} #[I.ok,I.os,I.bare,#[λb o e n R G=>?_,λb o e n R G=>?_,I.base.free,λb o e G=>?_,I.base.tups,I.base.frzs,I.base.tbls],#[m,hn.sameBut l<|Ne.symm<|S x c F,λj y v' C K e3=>?_],λy c' e=>?_,I.free,I.freeC,λp hp=>?_,t #[oc,Y,I.freeC x c F] l,by simpa using I.len] #[c,l,.inr F]
  ·show(l.2 b<|Qwq<|Qqq (Qiq e)<|I.ok.cab x c W F).trans (I.base.keep b o e n R G)
  ·let#[sl,C]:=I.base.slot b o e n R G
   show#[sl,(l.2 b<|Qwq<|Qqq (Qiq e)<|I.ok.cab x c W F).trans C]
  ·let#[o',C]:=I.base.there b o e G
   show#[o',(l.2 b<|Qwq<|Qqq (Qiq e)<|I.ok.cab x c W F).trans C]
  ·by_cases U:j=i
   ·subst U
    rw[hi] at C;cases C
    rw[Qyq P] at K
    cases K
    show#[u,r,.inr #[.inl L,c,F,a1]]
   ·rw[QKq (Ne.symm U)] at K
    let#[u',r',q]:=hl j y v' C K e3
    show#[u',r',?_]
    rcases q with q|⟨k,c',e,z'⟩
    ·show .inl q
    ·show .inr #[k,c',e,z'.sameBut l ?_]
     rintro rfl
     show U<|BS hN C (I.ok.inj _ _ _ e F▸hi)
  ·by_cases a0:c'=c
   ·subst a0;show#[_,a1]
   ·let#[w2,z2]:=I.cell y c' e
    show#[w2,z2.sameBut l a0]
  ·let#[e,n,ne,nf,d]:=I.pin p hp
   show#[(l.2 p.1 ?_).trans e,n,ne,nf,d]
   intro q
   rw[q,Y] at e
   have q':oc=p.2:=QdQ e
   show d w' (by rw[<-q'];show Z)
def r_{E:X0}{Q:Unit->Shared->Prop}(I:Inv X f g H s)(d:X.N.Nodup)(hi:X.N[i]?=some x)(e:Loc X.env.scope x)(r:RelV v u)
  (h:∀a,Inv X f (g.set i<|some v) H a->Q () a) (b:autoParam (X.fn x=true\/X.env.scope.names.lookup x=some .local) dt._auto_1):wpAny M A (storeName X.env x u) Q E s:=
 GL I d hi e r (λa c _=>h a c) b
def Inv.call'{a:X4}(I:Inv X f g H s)(i:a.os=s.os)(u:Un (IV X.stack) ch H B s.heap a.heap)(d:qO X.prog X.w B a.heap)(j:AllBare a.gens)
  (h:∀b∈ch,(b∈X.ex\/X.s₀.heap.objs.size<=b)/\b≠X.env.locals/\(∀x c,X.env.cells.lookup x=some c->c≠b)/\∀p∈X.pn++f,p.1≠b):Inv X f g B a:=by
 let#[h',g',d',t',k]:=a
 have e:k=s.os:=i
 subst e
 show I.call (g':=g') (t':=t') (d':=d') u d j h
abbrev XK:=Value->Option Addr->Hp->Prop
abbrev St:=List (Option V)
abbrev VK:=V->Hp->Prop
abbrev TE:=St->Hp->VK->Prop
abbrev TT:=St->Hp->(Bool->Hp->Prop)->Prop
abbrev TA:=St->Hp->(List V->Hp->Prop)->Prop
structure Ends where
 nx:St->Hp->Prop
 rt:VK
 bk:St->Hp->Prop:=λ_ _=>False
 ct:St->Hp->Prop:=λ_ _=>False
abbrev TS:=Ends->St->Hp->Prop
def EP(X:Cx)(a:X2)(d:St)(Q:VK)(u:Xd)(c:X4):Prop:=∃v b,Inv X a d b c/\RelV v u/\Q v b
def TP(X:Cx)(a:X2)(e:St)(Q:Bool->Hp->Prop)(b:Bool)(d:X4):Prop:=∃c,Inv X a e c d/\Q b c
def AP(X:Cx)(a:X2)(f:St)(Q:List V->Hp->Prop)(e:X5)(d:X4):Prop:=∃b c,Inv X a f c d/\bN b e/\Q b c
def SP(X:Cx)(b:X2)(D:Ends)(f:Flow)(d:X4):Prop:=
 match f with
 |.next=>∃a c,Inv X b a c d/\D.nx a c
 |.brk=>∃a c,Inv X b a c d/\D.bk a c
 |.cont=>∃a c,Inv X b a c d/\D.ct a c
 |.ret u=>∃v a c,Inv X b a c d/\RelV v u/\D.rt v c
def PE(X:Cx)(e:Expr)(t:TE):Prop:=
 ∀(a:X2) (s:X4) (b:St) (H:Hp) (Q:VK),Inv X a b H s->t b H Q->wpAny (model X.prog X.w) X.A (eval e X.env) (EP X a b Q) X.xe s
def PT(X:Cx)(e:Expr)(t:TT):Prop:=
 ∀(a:X2) (s:X4) (b:St) (H:Hp) (Q:Bool->Hp->Prop),Inv X a b H s->t b H Q->wpAny (model X.prog X.w) X.A (isTrue e X.env<|eval e X.env) (TP X a b Q) X.xe s
def PW(X:Cx)(e:Expr)(t:TT):Prop:=
 ∀(b:Sem Value) (a:X2) (s:X4) (c:St) (H:Hp) (Q:Bool->Hp->Prop),Inv X a c H s->t c H Q->wpAny (model X.prog X.w) X.A (isTrue e X.env b) (TP X a c Q) X.xe s
def PW.pt(h:PW X e t):PT X e t:=h _
def PA(X:Cx)(d:List Expr)(t:TA):Prop:=
 ∀(b:Pos) (a:X2) (s:X4) (c:St) (H:Hp) (Q:List V->Hp->Prop),Inv X a c H s->t c H Q->wpAny (model X.prog X.w) X.A (spliced<|backTo b<|starEach d X.env) (AP X a c Q) X.xe s
def PS(X:Cx)(st:Stmt)(t:TS):Prop:=
 ∀(a:X2) (s:X4) (b:St) (H:Hp) (D:Ends),Inv X a b H s->t D b H->wpAny (model X.prog X.w) X.A (exec st X.env) (SP X a D) X.xe s
def vj(X:Cx)(st:List Stmt)(t:TS):Prop:=
 ∀(a:X2) (s:X4) (b:St) (H:Hp) (D:Ends),Inv X a b H s->t D b H->wpAny (model X.prog X.w) X.A (execs st X.env) (SP X a D) X.xe s
def di{Q b:α->Shared->Prop}{E:X0}(h:wpAny M A t Q E s)(c:∀a s,Q a s->b a s):wpAny M A t b E s:=QRq h c λ_ _ x=>x
def Na(i:Nat):TE:=λa H Q=>∃v,a[i]?=some (some v)/\Q v H
def tC(v:V):TE:=λ_ H Q=>Q v H
def J4{X:Cx}(q:X.N[i]?=some x)(y:LZ X.env.scope x)(j:autoParam ((x==("__debug__":Str))=false) dL._auto_1)(k:autoParam ((x==("__classdict__":Str))=false) dL._auto_1):PE X (.Name x f) (Na i):=by
 intro g s p H Q I h
 let#[v,e,h]:=h
 let#[m,t,o]:=I.loc
 let#[u,r,l]:=o i x v q e y
 have b:EP X g p Q u s:=#[v,H,I,r,h]
 rcases l with⟨d,w⟩|⟨d,c,n,a⟩
 ·show wpAny_Name (wpAny_loadName_local I.ok.kind d t w b) j
 ·rcases d with d|d
  ·show wpAny_Name (wpAny_loadName_cell I.ok.kind d n a b) j
  ·show wpAny_Name (wpAny_loadName_free I.ok.kind d n a b k) j
def Nk{i j f}:PE X (.Constant (.int i) j f) (tC<|.int i):=λ_ _ _ H _ I h=>wpAny_Constant_int #[.int i,H,I.tok _,#[_,L],h]
def OG{b j f}:PE X (.Constant (.bool b) j f) (tC<|.bl b):=λ_ _ _ H _ I h=>Constant_bool #[.bl b,H,I,L,h]
def MI{j f}:PE X (.Constant .none j f) (tC .non):=λ_ _ _ H _ I h=>Constant_none #[.non,H,I,L,h]
def Ng{x j f}:PE X (.Constant (.str x) j f) (tC<|.str x):=λ_ _ _ H _ I h=>Calls.Constant_str #[.str x,H,I.tok _,#[_,L],h]
def Gl(X:Cx)(x:Str):Prop:=X.env.kindOf x=some .globalImplicit
def AL{E:X0}{Q:X0}(I:Inv X a e H s)(d:Gl X x)(c:X.mg x=some u)(h:Q u s)
  (b:autoParam ((x==("__debug__":Str))=false) dL._auto_1):wpAny (model X.prog X.w) X.A (eval (.Name x f) X.env) Q E s:=
 Calls.Name_function_global I.ok.kind d (Calls.loadGlobal_global (by rw[I.ok.glob];show I.mod.glob.keeps I.bk) c h) b
def mV{E:X0}{Q:X0}(I:Inv X a g H s)(d:Gl X x)(j:X.mg x=none)(k:bootBuiltins x=some u)(h:Q u s)
  (i:autoParam (x≠"__name__") dL._auto_1) (b:autoParam ((x==("__debug__":Str))=false) dL._auto_1):wpAny (model X.prog X.w) X.A (eval (.Name x f) X.env) Q E s:=by
 let#[l,e,c]:=I.mod.blt
 show Calls.Name_function_global I.ok.kind d (Calls.loadGlobal_builtin (by rw[I.ok.glob];show I.mod.glob.keeps I.bk) j (by rw[I.ok.blt];show e.keeps I.bk) ((c x i).trans k) h) b
def FX(c:Gl X x)(b:X.mg x=some u)(r:RelV v u)(a:autoParam ((x==("__debug__":Str))=false) dL._auto_1):PE X (.Name x f) (tC v):=
 λ_ _ _ H _ I h=>AL I c b #[v,H,I,r,h] a
def K0(d:Gl X x)(b:X.mg x=none)(c:bootBuiltins x=some u)(r:RelV v u)(e:autoParam (x≠"__name__") dL._auto_1)(a:autoParam ((x==("__debug__":Str))=false) dL._auto_1):PE X (.Name x f) (tC v):=
 λ_ _ _ H _ I h=>mV I d b c #[v,H,I,r,h] e a
def Qs(t u:TT):TT:=λd H Q=>t d H λc H1=>if c=true then u d H1 Q else Q false H1
def Su(t u:TT):TT:=λd H Q=>t d H λc H1=>if c=true then Q true H1 else u d H1 Q
def Q4(t:TT):TT:=λd H Q=>t d H λc H1=>Q (!c) H1
def LJ(i:PT X a n):PW X (.BoolOp .And [a] f) n:=by
 intro l d s j H Q I h
 show isTrue_and (di (i d s j H Q I h) λc m e=>?_)
 cases c with
 |true=>show isTrue_and_nil e
 |false=>show e
def Mt(i:PT X a n):PW X (.BoolOp .Or [a] f) n:=by
 intro l d s j H Q I h
 show isTrue_or (di (i d s j H Q I h) λc m e=>?_)
 cases c with
 |false=>show isTrue_or_nil e
 |true=>show e
def ME(l:PT X a n)(r:PW X (.BoolOp .And (b::g) f) o):PW X (.BoolOp .And (a::b::g) f) (Qs n o):=by
 intro m d s j H Q I h
 show isTrue_and (di (l d s j H _ I h) λc q t=>?_)
 let#[H1,i,e]:=t
 cases c with
 |true=>show r m d q j H1 Q i e
 |false=>show#[H1,i,e]
def Pd(l:PT X a n)(r:PW X (.BoolOp .Or (b::g) f) o):PW X (.BoolOp .Or (a::b::g) f) (Su n o):=by
 intro m d s j H Q I h
 show isTrue_or (di (l d s j H _ I h) λc q t=>?_)
 let#[H1,i,e]:=t
 cases c with
 |true=>show#[H1,i,e]
 |false=>show r m d q j H1 Q i e
def Nf(e:PT X a n):PT X (.UnaryOp .Not a f) (Q4 n):=by
 intro d s i H Q I h
 show isTrue_not<|e d s i H (λc H1=>Q (!c) H1) I h
def OF(k p:TE):TE:=λd H Q=>k d H λx H1=>∃c,x=.bl c/\if c=true then p d H1 Q else Q (.bl false) H1
def OI(k:TE):TE:=λd H Q=>k d H λx H1=>∃c,x=.bl c/\Q (.bl (!c)) H1
def Mf{op}{t:TE}(h:PE X a t):PE X (.BoolOp op [a] f) t:=λc s e H Q I d=>BoolOp_one (h c s e H Q I d)
def MC(t:PE X a k)(m:PE X (.BoolOp .And (b::g) f) p):PE X (.BoolOp .And (a::b::g) f) (OF k p):=by
 intro d s j H Q I h
 show BoolOp_and (di (t d s j H _ I h) λv q r=>?_)
 let#[x,H1,i,l,e]:=r
 let#[c,rfl,e]:=e
 cases l
 show wpAny_truthy_bool ?_
 cases c with
 |true=>show m d q j H1 Q i e
 |false=>show#[.bl false,H1,i,L,e]
def Mk(i:PE X a k):PE X (.UnaryOp .Not a f) (OI k):=by
 intro d s q H Q I h
 show UnaryOp_ (di (i d s q H _ I h) λv r m=>?_)
 let#[x,H1,l,j,e]:=m
 let#[c,rfl,e]:=e
 cases j
 show not_of<|wpAny_truthy_bool #[.bl (!c),H1,l,L,e]
def So(t:TT)(k p:TE):TE:=λd H Q=>t d H λc H1=>if c=true then k d H1 Q else p d H1 Q
def IH(u:PT X c n)(q:PE X a k)(r:PE X b p):PE X (.IfExp c a b f) (So n k p):=by
 intro e s i H Q I h
 show wpAny_IfExp (di (u e s i H _ I h) λd l t=>?_)
 let#[H1,m,j]:=t
 cases d with
 |true=>show q e l i H1 Q m j
 |false=>show r e l i H1 Q m j
def jm(K:X1)(H:Hp)(a:X8)(xs:List V):Prop:=
 Rd H a (.lst xs)∨
  ∃(o:Obj) (b:Xa) (n:Nat),K.lookup a=some o/\o.cls=.type "list" /\o.dict=none/\o.data=.seq b n/\b.size<=sizeLine/\bN xs b.toList
def jM(K:X1)(H:Hp)(a:X8)(xs:List V):Prop:=
 Rd H a (.tup xs)∨
  ∃(o:Obj) (b:Xa) (n:Nat),K.lookup a=some o/\o.cls=.type "tuple" /\o.data=.seq b n/\b.size<=sizeLine/\bN xs b.toList
noncomputable def QE:Value->Option V
 |.none=>some .non
 |.bool b=>some (.bl b)
 |.int i _=>some (.int i)
 |.str x _=>some (.str x)
 |.bytes b _=>some (.byt b)
 |.float b _=>some (.flt b)
 |.ref a=>some (.ref a)
 |.type n=>some (.ty n)
 |_=>none
def RelV.abs(r:RelV x u):QE u=some x:=by
 cases x with
 |non=>cases r;rfl
 |bl _=>cases r;rfl
 |int _=>let#[t,rfl]:=r;rfl
 |str _=>let#[t,rfl]:=r;rfl
 |byt _=>let#[t,rfl]:=r;rfl
 |flt _=>let#[t,rfl]:=r;rfl
 |ref _=>cases r;rfl
 |ty _=>cases r;rfl
def RelV.inj(r:RelV x u)(q:RelV y u):x=y:=QdQ (r.abs.symm.trans q.abs)
theorem bN.inj:∀{xs ys:List V} {a:X5},bN xs a->bN ys a->xs=ys
 |_,_,_,.nil,.nil=>rfl
 |_,_,_,.cons r t,.cons r' t'=>by rw[r.inj r',bN.inj t t']
def jm.of{H:Hp}{a:X8}{xs:List V}{K:X1}(h:H a=some (.lst xs)):jm K H a xs:=.inl (.inl h)
def jM.of{H:Hp}{a:X8}{xs:List V}{K:X1}(h:H a=some (.tup xs)):jM K H a xs:=.inl (.inl h)
def Inv.list(I:Inv X b c H s)(h:jm X.K H a xs):∃d:List Value,bN xs d/\PlainL s.heap a d.toArray/\xs.length<=sizeLine:=by
 rcases h with h|⟨o,d,n,g,j,f,i,k,r⟩
 ·let#[z,d,n,r,e]:=h.ok I.hok
  show#[d,r,#[_,n,e,L,L,L],z]
 ·show#[d.toList,r,#[o,n,I.kIn a o g,j,f,by simpa using i],?_]
  let e:=r.length
  erw[Array.length_toList] at e
  omega
def Inv.tuple(I:Inv X b c H s)(h:jM X.K H a xs):∃d:List Value,bN xs d/\IsTup s.heap a d.toArray/\xs.length<=sizeLine:=by
 rcases h with h|⟨o,d,n,f,i,g,j,r⟩
 ·let#[z,d,r,p]:=h.ok I.hok
  show#[d,r,p.it,z]
 ·show#[d.toList,r,#[o,I.kIn a o f,i,n,by simpa using g],?_]
  let e:=r.length
  erw[Array.length_toList] at e
  omega
def Inv.list_inj(I:Inv X b c H s)(h:jm X.K H a xs)(h':jm X.K H a ys):xs=ys:=by
 let#[g,r,#[o,n,e,_,_,d],_]:=I.list h
 let#[f,k,#[p,m,j,_,_,i],_]:=I.list h'
 rw[e] at j;cases j
 rw[d] at i
 injection i with l _
 have:g=f:=by simpa using congrArg Array.toList l
 subst this
 show r.inj k
def Inv.tuple_inj(I:Inv X b c H s)(h:jM X.K H a xs)(h':jM X.K H a ys):xs=ys:=by
 let#[g,r,#[o,e,_,n,d],_]:=I.tuple h
 let#[f,k,#[p,j,_,m,i],_]:=I.tuple h'
 rw[e] at j;cases j
 rw[d] at i
 injection i with l _
 have:g=f:=by simpa using congrArg Array.toList l
 subst this
 show r.inj k
noncomputable abbrev Cx.wish(X:Cx)(E:X0):Cx:={X with xe:=E}
noncomputable abbrev Cx.nox(X:Cx):Cx:=X.wish λ_ _=>False
def Cx.Ok.wish{X:Cx}(ok:X.Ok)(E:X0):(X.wish E).Ok:=
 #[ok.mod,ok.kind,ok.glob,ok.blt,ok.above,ok.inj,ok.has,ok.cab,ok.hd,ok.frames,ok.stk,ok.exf,ok.bs,ok.bsz,ok.noex,ok.exfs,ok.funs,ok.frf]
def Cx.Ok.unwish{X:Cx}{E:X0}(ok:(X.wish E).Ok):X.Ok:=
 #[ok.mod,ok.kind,ok.glob,ok.blt,ok.above,ok.inj,ok.has,ok.cab,ok.hd,ok.frames,ok.stk,ok.exf,ok.bs,ok.bsz,ok.noex,ok.exfs,ok.funs,ok.frf]
def Inv.wish(I:Inv X a b H s)(E:X0):Inv (X.wish E) a b H s:=#[I.ok.wish E,I.os,I.bare,I.base,I.loc,I.cell,I.free,I.freeC,I.pin,I.hok,I.len]
def Inv.unwish{X:Cx}{E:X0}(I:Inv (X.wish E) a b H s):Inv X a b H s:=#[I.ok.unwish,I.os,I.bare,I.base,I.loc,I.cell,I.free,I.freeC,I.pin,I.hok,I.len]
theorem SP.unwish{X:Cx}{E:X0}{D:Ends}(h:SP (X.wish E) a D f e):SP X a D f e:=by
 cases f with
 |next=>let#[c,d,I,q]:=h;show#[c,d,I.unwish,q]
 |brk=>let#[c,d,I,q]:=h;show#[c,d,I.unwish,q]
 |cont=>let#[c,d,I,q]:=h;show#[c,d,I.unwish,q]
 |ret u=>let#[v,c,d,I,r,q]:=h;show#[v,c,d,I.unwish,r,q]
def vj.nox{X:Cx}{st:List Stmt}{t:TS}(h:vj X.nox st t):vj X st t:=λa s b H D I c=>
 QRq (h a s b H D (I.wish _) c) (λ_ _ q=>q.unwish) λ_ _ z=>False.elim z
def OU:TS:=λD a H=>D.nx a H
def QY(t u:TS):TS:=λD a H=>t {D with nx:=u D} a H
def K3:vj X [] OU:=λ_ _ a H _ I h=>wpAny_execs_nil #[a,H,I,h]
def HY{X:Cx}{st:Stmt}{j:List Stmt}{t:TS}{u:TS}(d:PS X st t)(c:vj X j u):vj X (st::j) (QY t u):=by
 intro a s n H D I h
 show wpAny_execs_cons (di (d a s n H {D with nx:=u D} I h) λf l q=>?_)
 cases f with
 | next=>
   let#[b,m,k,q]:=q
   show c a l b m D k q
 |ret v=>show q
 |brk=>show q
 |cont=>show q
def Lh{X:Cx}{st:Stmt}{t:TS}(b:PS X st t):vj X [st] t:=by
 intro a s c H D I h
 show wpAny_execs_cons (di (b a s c H D I h) λf d q=>?_)
 cases f with
 |next=>show wpAny_execs_nil q
 |ret v=>show q
 |brk=>show q
 |cont=>show q
def Inv.quiet(I:Inv X a b H s):interactive X.env=false:=by simp[interactive,I.ok.kind]
def Pj(i:TE):TS:=λD a H=>i a H λ_ H1=>D.nx a H1
def KA{g:Pos}(he:PE X e i)(d:autoParam (swapsWith e none g.line X.env=pure false) dO._auto_1):PS X (.Expr e g) (Pj i):=by
 intro a s b H D I h
 show wpAny_Expr_any (di (he a s b H _ I h) λv l ⟨x,H1,f,k,c⟩=>#[b,H1,f,c]) I.quiet d
def Qw(i:TE):TS:=λD a H=>i a H D.rt
def I_(he:PE X e i):PS X (.Return (some e) g) (Qw i):=by
 intro a s b H D I h
 show wpAny_Return_some (di (he a s b H _ I h) λv k ⟨x,H1,f,c,d⟩=>#[x,b,H1,f,c,d])
def Q0(c:TT)(t u:TS):TS:=λD a H=>c a H λb H1=>if b=true then t D a H1 else u D a H1
def PL(v:PT X c m)(r:vj X a t)(p:vj X b u):PS X (.If c a b g) (Q0 m t u):=by
 intro f s k H D I h
 show wpAny_If (di (v f s k H _ I h) λd o q=>?_)
 let#[H1,l,n]:=q
 cases d with
 |true=>show r f o k H1 D l n
 |false=>show p f o k H1 D l n
def Mp:TS:=λ_ _ _=>False
def Ia{X:Cx}{st:Stmt}:PS X st Mp:=λ_ _ _ _ _ _ h=>h.elim
abbrev TG:=V->St->Hp->(St->Hp->Prop)->Prop
abbrev JB:=List V->St->Hp->(St->Hp->Prop)->Prop
def PG(X:Cx)(a:Expr)(t:TG):Prop:=
 ∀ (b:X2) (s:X4) (e:St) (H:Hp) (v:V) (u:Xd) (Q:St->Hp->Prop),Inv X b e H s->RelV v u->t v e H Q->
   wpAny (model X.prog X.w) X.A (assign a X.env u) (λ_ f=>∃c d,Inv X b c d f/\Q c d) X.xe s
def HG(X:Cx)(ts:List Expr)(t:JB):Prop:=
 ∀ (a:X2) (s:X4) (f:St) (H:Hp) (d:List V) (c:X5) (Q:St->Hp->Prop),Inv X a f H s->bN d c->t d f H Q->
   wpAny (model X.prog X.w) X.A (assignInOrder ((assignEach ts X.env).map (·.2)) c) (λ_ g=>∃b e,Inv X a b e g/\Q b e) X.xe s
abbrev IE:=V->V->V->Hp->(Hp->Prop)->Prop
def NJ(X:Cx)(t:IE):Prop:=
 ∀ (a:X2) (s:X4) (e:St) (H:Hp) (o i v:V) (d b u:Xd) (Q:Hp->Prop),Inv X a e H s->RelV o d->RelV i b->RelV v u->t o i v H Q->
   wpAny (model X.prog X.w) X.A (setItem d b u) (λ_ f=>∃c,Inv X a e c f/\Q c) X.xe s
abbrev PX:=V->V->Hp->VK->Prop
def RB(X:Cx)(c:Operator)(t:PX):Prop:=
 ∀ (a:X2) (s:X4) (b:St) (H:Hp) (x y:V) (v u:Xd) (Q:VK),Inv X a b H s->RelV x v->RelV y u->t x y H Q->
   wpAny (model X.prog X.w) X.A (inplaceOp c v u) (EP X a b Q) X.xe s
def rZ(i:Nat):TG:=λv a H Q=>Q (a.set i<|some v) H
def Bd{X:Cx}(e:X.N.Nodup)(hi:X.N[i]?=some x)(f:Loc X.env.scope x)(b:autoParam (X.fn x=true\/X.env.scope.names.lookup x=some .local) dt._auto_1):PG X (.Name x c) (rZ i):=by
 intro a s j H v u Q I r h
 show wpAny_assign_Name<|r_ I e hi f r (λg d=>#[_,H,d,h]) b
def QT:JB:=λb a H Q=>b= []/\Q a H
def Pb(t:TG)(u:JB):JB:=λb e H Q=>∃v r,b=v::r/\t v e H λa d=>u r a d Q
def K2:HG X [] QT:=by
 intro a s b H f d Q I r h
 let#[e,h]:=h
 subst e
 cases r
 show assignInOrder_nil #[b,H,I,h]
def Je(j:PG X e t)(f:HG X b u)
  (m:autoParam ((assignEach (e::b) X.env).map (·.2)=assign e X.env::(assignEach b X.env).map (·.2)) dO._auto_1):HG X (e::b) (Pb t u):=by
 intro a s o H q x Q I r h
 let#[v,w,p,h]:=h
 subst p
 cases r with
 | cons r k=>
   rw[m]
   show assignInOrder_cons (di (j a s o H _ _ _ I r h) λ_ l n=>?_)
   let#[d,H1,g,i]:=n
   show f a l d H1 _ _ Q g k i
def Qz(K:X1)(n:Nat)(t:JB):TG:=λv d H Q=>∃a b,v=.ref a/\jM K H a b/\b.length=n/\t b d H Q
def Ny{X:Cx}(F:X.calm=true)(h:HG X f t)
  (A:autoParam ((assignEach f X.env).length=n) dO._auto_1) (g:autoParam ((assignEach f X.env).findIdx? (·.1)=none) dO._auto_1):PG X (.Tuple f k c) (Qz X.K n t):=by
 intro d s l H v u Q I r i
 let#[a,z,C,w,y,i]:=i
 subst C
 cases r
 let#[x,j,m,G]:=I.tuple w
 show assign_Tuple_tuple (I.ok.hd F) m (by simp[A,<-y,j.length]) g λq B=>?_
 have p:Inv X d l H {s with heap:=q}:=I.kept (t':=s.toks) λb o e=>B b o (Qwq<|Qiq e) e
 show h d _ l H z _ Q p (by simpa using j) i
def Ow(d b:TE)(t:IE):TG:=λv a H Q=>d a H λo H1=>b a H1 λi H2=>t o i v H2 λH3=>Q a H3
def Nd(z:PE X o g)(hi:PE X i j)(B:NJ X t)
  (F:autoParam (∀v,assign (.Subscript o i c) X.env v=(do
   let b<-holding [v] (eval o X.env)
   let e<-holding [v,b] (eval i X.env)
   standAt c
   holding [v,b,e] (setItem b e v)
   release [v,b,e] [])) ec._auto_1):PG X (.Subscript o i c) (Ow g j t):=by
 intro a s f H v u Q I r h
 rw[F]
 show Qaq<|QLq (di (z a s f H _ I h) λb A d=>?_)
 let#[x,H1,l,k,p]:=d
 show Qaq<|QLq (di (hi a A f H1 _ l p) λe n d=>?_)
 let#[y,H2,w,C,G]:=d
 show Qaq<|wpAny_standAt<|Qaq<|QLq (di (B a n f H2 x y v b e u _ w k C r G) λ_ J d=>?_)
 let#[H3,m,q]:=d
 show wpAny_release #[f,H3,m,q]
def Hj(b:TE)(g:TG):TS:=λD a H=>b a H λx H1=>g x a H1 D.nx
def MJ{c:Pos}(he:PE X e b)(i:PG X tg g)(o:autoParam (swapsWithSole [tg] e c.line X.env=pure false) dO._auto_1)(m:autoParam (swappedStores [tg] e X.env=pure none) dO._auto_1)
  (l:autoParam ((assignEach [tg] X.env).map (·.2)= [assign tg X.env]) dO._auto_1):PS X (.Assign [tg] e c) (Hj b g):=by
 intro a s d H D I h
 show wpAny_Assign_stores (di (he a s d H _ I h) λv n ⟨x,H1,j,f,k⟩=>?_) o m
 rw[l]
 show di (i a n d H1 x v _ j f k) λ_ p q=>q
def M9{X:Cx}{c:Pos}(o:X.N.Nodup)(hi:X.N[i]?=some x)(p:Loc X.env.scope x)(he:PE X e d)(m:autoParam (swapsWith e (some<|.Name x a) c.line X.env=pure false) dO._auto_1)(l:autoParam (X.fn x=true\/X.env.scope.names.lookup x=some .local) dt._auto_1):
  PS X (.Assign [.Name x a] e c) (Hj d<|rZ i):=by
 intro b s n H D I h
 show wpAny_Assign_Name (di (he b s n H _ I h) λv r ⟨y,H1,g,f,j⟩=>?_) m
 show r_ g o hi p f (λq k=>#[_,H1,k,j]) l
def PQ(i j:Nat)(d:TA):TS:=λD a H=>d a H λb H1=>∃v w,b= [v,w]/\D.nx ((a.set i<|some v).set j (some w)) H1
def Jl{X:Cx}{c:Pos}{i j:Nat}{x y:Str}{a b:Expr}{B:TA}{m u r:Pos}{kt k2 pt2}(hc:X.calm=true)(J:X.N.Nodup)(hi:X.N[i]?=some x)(Z:X.N[j]?=some y)(n:i≠j)
  (F:X.env.scope.names.lookup x=some .local) (C:X.env.scope.names.lookup y=some .local) (ha:PA X [a,b] B)
  (R:swappedStores [.Tuple [.Name x m,.Name y u] kt r] (.Tuple [a,b] k2 pt2) X.env=pure (some [x,y]))
  (S:autoParam (swapsWithSole [.Tuple [.Name x m,.Name y u] kt r] (.Tuple [a,b] k2 pt2) c.line X.env=pure false) dO._auto_1):
  PS X (.Assign [.Tuple [.Name x m,.Name y u] kt r] (.Tuple [a,b] k2 pt2) c) (PQ i j B):=by
 intro d s G H D I h
 rw[exec_Assign_arm]
 show Qaq<|wpAny_standAt ?_
 rw[S]
 show Qaq<|Qgq ?_
 rw[Quq (!1)]
 show Qaq<|Tuple_ (di (ha _ d s G H _ I h) λW k U=>?_)
 let#[vs,H1,M,K,t]:=U
 let#[v,w,Y,t]:=t
 subst Y
 obtain⟨g,f,rfl,rv,rw'⟩:∃g f,W= [g,f]/\RelV v g/\RelV w f:=by
  cases K with
  | cons p q=>
    cases q with
    | cons p' q'=>
      cases q'
      show#[_,_,rfl,p,p']
 show QhQ ?_ (by show 2<=_;decide)
 have Q:Inv X d G H1 {k with heap:=k.heap.push {cls:=.type "tuple",data:=.seq [g,f].toArray}}:=M.kept (t':=k.toks) λb o e=>Qcq _ e
 rw[R]
 show Qaq<|Qgq ?_
 show wpAny (model X.prog X.w) X.A (do rule "assign.swapped-stores";let items<-unpackItems (.ref k.heap.objs.size) 2 none;assignInOrder [λv=>bindName X.env y v,λv=>bindName X.env x v] items.reverse;pure Flow.next) _ _ _
 show Qaq<|wpAny_rule<|Qaq (unpackItems_tuple (items:= (List.toArray [g,f])) (I.ok.hd hc) (IsTup.new k.heap _) λh' l=>?_)
 let P:=Q.kept (h':=h') (t':=k.toks) λb o e=>l b o (Qwq<|Qiq e) e
 show wpAny _ _ (assignInOrder [λv=>bindName X.env y v,λv=>bindName X.env x v] [f,g] >>= λ_=>pure Flow.next) _ _ _
 show Qaq<|assignInOrder_cons<|wpAny_bindName<|r_ P J Z (.inl C) rw' (λs2 L=>?_)<|.inr C
 show assignInOrder_cons<|wpAny_bindName<|r_ L J hi (.inl F) rv (λs3 z=>assignInOrder_nil<|Qgq ?_)<|.inr F
 rw[List.set_comm _ _ (Ne.symm n)] at z
 show#[_,H1,z,t]
def OA(g j h:TE)(b:V->V->Hp->VK->Prop)(e:PX)(a:IE):TS:=λD d H=>g d H λo H1=>j d H1 λi H2=>b o i H2 λx H3=>h d H3 λy H4=>e x y H4 λz H5=>a o i z H5 λf=>D.nx d f
def Pf(X:Cx)(t:V->V->Hp->VK->Prop):Prop:=
 ∀ (a:X2) (s:X4) (e:St) (H:Hp) (o i:V) (d b:Xd) (Q:VK),Inv X a e H s->RelV o d->RelV i b->t o i H Q->
   wpAny (model X.prog X.w) X.A (getItem d b) (EP X a e Q) X.xe s
def Lk(ho:PE X o r)(hi:PE X i x)(K:Pf X f)(he:PE X e t)(hp:RB X y m)(hs:NJ X d)
  (ha:autoParam (∀g l b,augStore i g l b=(do holding [b,g,l] (setItem g l b);release [b,g,l] [];pure .next)) ei._auto_1):PS X (.AugAssign (.Subscript o i n) y e c) (OA r x t f m d):=by
 intro a s k H D I h
 show wpAny_AugAssign_SubscriptAny (di (ho a s k H _ I h) λg s1 ⟨z,H1,L,q,S⟩=>?_) ha
 show di (hi a s1 k H1 _ L S) λl Q j=>?_
 let#[u,H2,W,w,q2]:=j
 show di (K a Q k H2 z u g l _ W q w q2) λp s3 j=>?_
 let#[J,H3,N,B,U]:=j
 show di (he a s3 k H3 _ N U) λv C j=>?_
 let#[F,H4,G,M,q4]:=j
 show di (hp a C k H4 J F p v _ G B M q4) λb s5 j=>?_
 let#[x5,H5,R,Z,q5]:=j
 show di (hs a s5 k H5 z u x5 g l b _ R q w Z q5) λ_ s6 ⟨A,Y,P⟩=>#[k,A,Y,P]
def Sh(f:Int->Int->Int):PX:=λx y H Q=>∃i j,x=.int i/\y=.int j/\Q (.int (f i j)) H
def MD:RB X .Add (Sh λi j=>i+j):=by
 intro a s k H x y v u Q I b e h
 let#[i,j,f,d,q]:=h
 subst f;subst d
 let#[t,rfl]:=b
 let#[g,rfl]:=e
 show iadd_int #[.int _,H,I.tok _,#[_,L],q]
def NP(c:TT)(h:TS):TS:=λD d H=>∃W:Nat->St->Hp->Prop,(∃m,W m d H)/\∀m d H,W m d H->
 c d H λb H1=>if b=true then∃N:St->Hp->Prop,(∀e g,N e g->∃f,f<m/\W f e g)/\h {D with nx:=N,ct:=N,bk:=D.nx} d H1 else D.nx d H1
def H_{X:Cx}(z:PassesOwn (model X.prog X.w) X.A X.env X.xe)(U:PT X c u)(J:vj X i y):PS X (.While c i [] a) (NP u y):=by
 intro e s S H D I h
 let#[W,#[M,P],k]:=h
 show wpAny_While<|codeAny_whileLoop (λn F=>∃j B,Inv X e j B F/\W n j B) ?_ M #[S,H,I,P]
 rintro n Q ⟨g,H1,K,G⟩
 show wpAny_passesOwn z (di (U e Q g H1 _ K<|k n g H1 G) λb L R=>?_)
 let#[H2,x,m]:=R
 cases b with
 | true=>
   let#[N,C,m]:=m
   rw[Qhq rfl]
   show wpAny_passesOwn z (di (J e L g H2 _ x m) λf Y l=>?_)
   cases f with
   | next=>
     let#[d,H3,q,p]:=l
     let#[r,t,o]:=C d H3 p
     show#[r,t,d,H3,q,o]
   | cont=>
     let#[d,H3,q,p]:=l
     let#[r,t,o]:=C d H3 p
     show#[r,t,d,H3,q,o]
   |brk=>show l
   |ret v=>show l
 | false=>
   rw[Quq Qtq]
   show wpAny_execs_nil #[g,H2,x,m]
structure It where
 go:Nat->Hp->Prop
 yld:Nat->Hp->V->Hp->Prop
 stop:Nat->Hp->Prop
def t7(X:Cx)(a:X2)(H:Hp)(b:X8):Prop:=
 H b=none/\b≠X.env.locals/\b∉X.fs/\(b∈X.ex\/X.s₀.heap.objs.size<=b)/\(∀x c,X.env.cells.lookup x=some c->c≠b)/\∀p∈X.pn++a,p.1≠b
def Inv.fpOk{H f:Hp}(I:Inv X a h H s)(d:s.heap.objs.size<=b)(i:f b=none):t7 X a f b:=by
 show#[i,Nat.ne_of_gt<|Qqq I.lt d,I.nofs d,.inr (QAq I.sz d),λx c e z=>?_,λp g z=>?_]
 ·let#[v,q]:=I.cell x c e
  show absurd (Qqq q.lt (by rw[z];show d))<|Nat.lt_irrefl _
 ·show absurd (Qqq (Qiq (I.pin p g).1) (by rw[z];show d))<|Nat.lt_irrefl _
structure Turn(P:X9)(w:Xc)(K:X1)(tg:Expr)(J:It)(fp:X7)(it:X8)(tn:Nat->Heap->Prop):Prop where
 mem:it∈fp
 obj:∀i h,tn i h->∀b∈fp,∃o,h.get? b=some o/\∀v,o.data≠.cell v
 keep:∀i h h',tn i h->(∀b∈fp,∀o,h.get? b=some o->h'.get? b=some o)->tn i h'
 item:∀(X:Cx),X.prog=P->X.w=w->X.K=K->X.calm=true->∀(i:Nat) (pins:X2) (s:X4) (σ:St) (H:Hp) (E:X0),Inv X pins σ H s->(∀b∈fp,t7 X pins H b)->tn i s.heap->J.go i H->
  wpAny (model P w) X.A (pyNext (.ref it)) (λr s1=>∃u,r=some u∧
   wpAny (model P w) X.A (letOwnedTupleGo tg (.ref it) u) (λ_ s2=>∃x H',Inv X pins σ H' s2/\RelV x u/\J.yld i H x H'/\tn (i+1) s2.heap/\∀b∈fp,H' b=none) E s1) E s
 done:∀(X:Cx),X.prog=P->X.w=w->X.K=K->X.calm=true->∀(i:Nat) (pins:X2) (s:X4) (σ:St) (H:Hp) (E:X0),Inv X pins σ H s->(∀b∈fp,t7 X pins H b)->tn i s.heap->J.stop i H->
  wpAny (model P w) X.A (pyNext<|.ref it) (λr s1=>r=none/\Inv X pins σ H s1) E s
 self:∀(A:X_) (i:Nat) (s:X4) (Q:X0) (E:X0),tn i s.heap->Q (.ref it) s->wpAny (model P w) A (pyIter<|.ref it) Q E s
abbrev TI:=St->Hp->(It->Hp->Prop)->Prop
def R6(X:Cx)(a:X2)(i:St)(tg:Expr)(R:It->Hp->Prop)(c:Xd)(g:X4):Prop:=
 ∃(e:X8) (h:X7) (f:Nat->Heap->Prop) (J:It) (d:Hp),c=.ref e/\Inv X a i d g/\Turn X.prog X.w X.K tg J h e f/\f 0 g.heap/\(∀b∈h,t7 X a d b)/\R J d
def PI(X:Cx)(tg b:Expr)(d:TI):Prop:=
 ∀ (a:X2) (s:X4) (c:St) (H:Hp) (R:It->Hp->Prop),Inv X a c H s->d c H R->
   wpAny (model X.prog X.w) X.A (eval b X.env) (λv e=>wpAny (model X.prog X.w) X.A (pyIter v) (R6 X a c tg R) X.xe e) X.xe s
def HH{E:X0}{s:X4}{Q:Unit->Shared->Prop}(c:s.heap.get? it=some o)(d:o.cls=.type n)(b:o.data=.fields vs)
    (e: ["enumerate","zip","dict_itemiterator","dict_reverseitemiterator","odict_iterator","itertools.zip_longest","itertools.pairwise"].contains n=false) (a:Q () s):wpAny M A (letOwnedTupleGo tg (.ref it) u) Q E s:=by
  unfold letOwnedTupleGo
  cases tg <;>first
    |show Qgq a
    |(cases u <;>first
        |show Qgq a
        |(show Qaq (wpAny_load c ?_)
          rw[d,b]
          show wpAny M A (if (["enumerate","zip","dict_itemiterator","dict_reverseitemiterator","odict_iterator","itertools.zip_longest","itertools.pairwise"].contains n&&vs[0]? ==some (rawInt _))=true then _ else _) Q E s
          rw[Quq (by intro h;rw[e,Bool.false_and] at h;cases h)]
          show Qgq a))
noncomputable def Rc(K:X1)(a:X8):It:=
 #[λi H=>∃b x,jm K H a b/\b[i]?=some x,λi H x c=>c=H/\∀b,jm K H a b->b[i]?=some x,λi H=>∃b,jm K H a b/\b.length<=i]
noncomputable def RT(K:X1)(a:X8):It:=
 #[λi H=>∃b x,jM K H a b/\b[i]?=some x,λi H x c=>c=H/\∀b,jM K H a b->b[i]?=some x,λi H=>∃b,jM K H a b/\b.length<=i]
noncomputable def Ql(lo:Int)(n:Nat):It:=#[λi _=>i<n,λi H x a=>a=H/\x=.int (lo+i),λi _=>n<=i]
def Hl{P:X9}{w:Xc}{K:X1}{tg:Expr}(a it:X8):Turn P w K tg (Rc K a) [it] it (λi h=>h.IsListIter it a i) where
 mem:=by simp
 obj:=λi h f b j=>by
  have e:b=it:=by simpa using j
  subst e
  let#[o,e,c,d]:=f
  show#[o,e,λv z=>by rw[d] at z;cases z]
 keep:=λi h m f k=>f.at λo e=>k it (by simp) o e
 item:=by
  intro X M F B R i g s Q H E I q f r
  subst M F B
  let#[xs,x,n,J]:=r
  let#[A,C,p,Y]:=I.list n
  let#[u,hu,ru]:=C.get J
  let#[t,y,f2,N,L,G]:=q it (by simp)
  show wpAny_pyNext_list_item f p.isList (x:=u) (by simpa using hu) λm l sb=>?_
  have S:Inv X g Q H {s with heap:=m}:=I.turned (t':=s.toks) (λb o j e=>(sb.2 b j).trans e) t y N L G
  let#[o,e,c,d]:=id l
  show#[u,rfl,HH (s:={s with heap:=m}) e c d (!1) #[x,H,S,ru,#[rfl,λys Z=>by rw[I.list_inj Z n];show J],l,λb j=>(q b j).1]]
 done:=by
  intro X M F B R i g s Q H E I q f r
  subst M F B
  let#[xs,n,J]:=r
  let#[A,C,p,Y]:=I.list n
  let#[t,y,f2,N,L,G]:=q it (by simp)
  let hl:=C.length
  show wpAny_pyNext_list_end (I.ok.hd R) f p.isList (by simp;omega) λm U=>#[rfl,I.turned (t':=s.toks) (λb o j e=>U b o j e) t y N L G]
 self:=λ_ _ _ _ _ f h=>wpAny_pyIter_listiter f h
def Ew{P:X9}{w:Xc}{K:X1}{tg:Expr}(a it:X8):Turn P w K tg (RT K a) [it] it (λi h=>h.IsTupleIter it a i) where
 mem:=by simp
 obj:=λi h f b j=>by
  have e:b=it:=by simpa using j
  subst e
  let#[o,e,c,d]:=f
  show#[o,e,λv z=>by rw[d] at z;cases z]
 keep:=λi h n f k=>f.at λo e=>k it (by simp) o e
 item:=by
  intro X M F B R i g s Q H E I r f t
  subst M F B
  let#[xs,x,q,J]:=t
  let#[l,C,p,Y]:=I.tuple q
  let#[u,hu,ru]:=C.get J
  let#[y,A,f2,N,L,G]:=r it (by simp)
  show wpAny_pyNext_tuple_item f (show s.heap.IsTuple a l.toArray from p) (x:=u) (by simpa using hu) λn m sb=>?_
  have S:Inv X g Q H {s with heap:=n}:=I.turned (t':=s.toks) (λb o j e=>(sb.2 b j).trans e) y A N L G
  let#[o,e,c,d]:=id m
  show#[u,rfl,HH (s:={s with heap:=n}) e c d (!1) #[x,H,S,ru,#[rfl,λys Z=>by rw[I.tuple_inj Z q];show J],m,λb j=>(r b j).1]]
 done:=by
  intro X M F B R i g s Q H E I r f t
  subst M F B
  let#[xs,q,J]:=t
  let#[l,C,p,Y]:=I.tuple q
  let#[y,A,f2,N,L,G]:=r it (by simp)
  let hl:=C.length
  show wpAny_pyNext_tuple_end (I.ok.hd R) f (show s.heap.IsTuple a l.toArray from p) (by simp;omega) λn U=>#[rfl,I.turned (t':=s.toks) (λb o j e=>U b o j e) y A N L G]
 self:=λ_ _ _ _ _ f h=>wpAny_pyIter_tupleiter f h
def Ea{P:X9}{w:Xc}{K:X1}{tg:Expr}(it:X8)(lo:Int)(n:Nat):Turn P w K tg (Ql lo n) [it] it (λi h=>IsRangeIter h it (lo+(i:Nat)*1) ((n:Int)-(i:Nat)) 1) where
 mem:=by simp
 obj:=λi h a b d=>by
  have e:b=it:=by simpa using d
  subst e
  show⟨_,a,λv z=>by
   have G:Data.fields _=Data.cell v:=z
   cases G⟩
 keep:=λi h g a k=>k it (by simp) _ a
 item:=by
  intro X A u q r i c s F H E I j a l
  subst A u q
  let#[m,p,N,B,y,x]:=j it (by simp)
  let W:=Walks.range (prog:=X.prog) (w:=X.w) (I.ok.hd r) it lo 1 n
  show W.item i s _ _ l a λv g C Q f L=>?_
  let#[t,rfl]:=Q
  have J:Inv X c F H {s with heap:=g,toks:=C}:=I.turned (λb o d e=>L b o (by simpa using d) e) m p B y x
  show#[_,rfl,HH (s:={s with heap:=g,toks:=C}) (n:="range_iterator") f rfl rfl (!1) #[.int (lo+i),H,J,#[t,?_],#[rfl,rfl],f,λb d=>(j b d).1]]
  rw[Int.mul_one]
 done:=by
  intro X A u q r i c s F H E I j a l
  subst A u q
  let#[m,p,N,B,y,x]:=j it (by simp)
  show wpAny_pyNext_range_end (I.ok.hd r) a (by have:n<=i:=l;omega) λg M=>#[rfl,I.turned (t':=s.toks) (λb o d e=>M b o d e) m p B y x]
 self:=λ_ _ _ _ _ a h=>wpAny_pyIter_rangeiter a h
def Iu{X:Cx}{tg:Expr}{a:X2}{f:St}{H:Hp}{s:X4}{R:It->Hp->Prop}{E:X0}{lo hi:Int}{t u v:Tok}{d:Nat}(I:Inv X a f H s)(j: -(2^62)<=lo)(g:lo<2^62)(l: -(2^62)<=hi)(i:hi<2^62)
  (q:R (Ql lo (hi-lo).toNat) H):wpAny (model X.prog X.w) X.A (pyIter<|.ref s.heap.objs.size) (R6 X a f tg R) E {s with heap:=s.heap.push {cls:=.type "range",data:=.fields (List.toArray [.int lo t,.int hi u,.int 1 v])},toks:=d}:=by
 show wpAny_pyIter_range (IsRange.new ..) (small_one j g l i) ?_
 have c:Inv X a f H {s with heap:=s.heap.push {cls:=.type "range",data:=.fields (List.toArray [.int lo t,.int hi u,.int 1 v])},toks:=d}:=I.kept λb o e=>Qcq _ e
 show⟨(s.heap.push {cls:=.type "range",data:=.fields (List.toArray [.int lo t,.int hi u,.int 1 v])}).objs.size,[(s.heap.push {cls:=.type "range",data:=.fields (List.toArray [.int lo t,.int hi u,.int 1 v])}).objs.size],_,_,H,L,
  c.kept (t':=d) λb o e=>Qcq _ e,Ea _ lo (hi-lo).toNat,?_,λb h=>?_,q⟩
 ·have m:lo+((0:Nat):Int)*1=lo:=by simp
  have k:(((hi-lo).toNat:Nat):Int)-((0:Nat):Int)=Builtin.Range.rangeSize lo hi 1:=by rw[rangeSize_one];split <;>omega
  show IsRangeIter _ _ (lo+((0:Nat):Int)*1) ((((hi-lo).toNat:Nat):Int)-((0:Nat):Int)) 1
  rw[m,k]
  show Qrq _ L
 ·have e:b=(s.heap.push {cls:=.type "range",data:=.fields (List.toArray [.int lo t,.int hi u,.int 1 v])}).objs.size:=by simpa using h
  subst e
  show c.fpOk (Qmq _)<|c.hok.fresh<|Qmq _
def Pq(b:TA):TI:=λc H R=>b c H λa H1=>∃j:Int,a= [.int j]/\ -(2^62)<=j/\j<2^62/\R (Ql 0 j.toNat) H1
def Hg{X:Cx}{tg:Expr}{a:Expr}{f:TA}{p c:Pos}(i:Gl X "range")(o:X.mg "range"=none)(u:PA X [a] f)(m:autoParam (starEach [a] X.env= [(false,eval a X.env)]) dO._auto_1):PI X tg (.Call (.Name "range" p) [a] [] c) (Pq f):=by
 intro b s n H R I h
 show Call_<|mV I i o boot_range<|PyProof.Rows.callWith_type1 (di (u c b s n H _ I h) λy x ⟨w,H1,k,g,d⟩=>?_) m L
 let#[j,e,d,v,q]:=d
 subst e
 cases g with
 | cons r l=>
   cases l
   let#[t,rfl]:=r
   show call_range_1<|Iu k (!0) (!0) d v (by simpa using q)
def QP(f:TI)(g:TG)(h:TS):TS:=λD a H=>f a H λJ H1=>∃W:Nat->Nat->St->Hp->Prop,(∃m,W 0 m a H1)/\∀i m a H,W i m a H->
 (J.stop i H/\D.nx a H)\/(J.go i H/\∃N:St->Hp->Prop,(∀b c,N b c->∃e,e<m/\W (i+1) e b c)/\∀x c,J.yld i H x c->g x a c λd H2=>h {D with nx:=N,ct:=N,bk:=D.nx} d H2)
noncomputable def qJ(fp:X7)(h:Xe):List (Addr×Obj):=fp.filterMap λb=>(h.get? b).map λo=>(b,o)
def eg{h:Xe}(a:b∈fp)(e:h.get? b=some o):(b,o)∈qJ fp h:=List.mem_filterMap.mpr #[b,a,by rw[e];rfl]
def GZ(a:p∈qJ fp h):p.1∈fp/\h.get? p.1=some p.2:=by
 let#[b,c,e]:=List.mem_filterMap.mp a
 cases q:h.get? b with
 |none=>rw[q] at e;cases e
 | some o=>
   rw[q] at e
   have d:(b,o)=p:=QdQ e
   subst d
   show#[c,q]
def Inv.pinned(I:Inv X a g H s)(k:∀b∈fp,t7 X a H b)(l:∀b∈fp,∃o,s.heap.get? b=some o/\∀v,o.data≠.cell v):Inv X (a++qJ fp s.heap) g H s:=
 I.pins_of λp j=>(mQa.mp j).elim (λz=>I.pin p<|Qoq _ z) λz=>by
  let#[c,e]:=GZ z
  let#[h,i,m,_]:=k p.1 c
  let#[o,f,d]:=l p.1 c
  rw[e] at f;cases f
  show#[e,h,i,m,d]
def Inv.unpinned(I:Inv X (a++d) b H s):Inv X a b H s:=I.pins_of λp c=>I.pin p (Qoq _<|List.mem_append_left _ c)
def M1{X:Cx}(R:PassesOwn (model X.prog X.w) X.A X.env X.xe)(hc:X.calm=true)(hi:PI X tg p wi)(hg:PG X tg g)(k:vj X C tb)
  (hs:autoParam (∀x,foldedSetIterable p X.env x=pure x) ec._auto_1):PS X (.For tg p C [] Z) (QP wi g tb):=by
 intro c s σ H D I h
 show wpAny_For (di (hi c s σ H _ I h) λv s1 h1=>di h1 λa3 s2 h2=>?_) hs
 let#[it,L,tn,J,H2,e,I2,T,a1,f2,W,#[m0,w0],S]:=h2
 subst e
 have l:∀{z:Hp},(∀b∈L,z b=none)->∀b∈L,t7 X c z b:=λhn b k=>#[hn b k,(f2 b k).2]
 show codeAny_forLoop_any (λn s'=>∃i y z,Inv X c y z s'/\tn i s'.heap/\(∀b∈L,z b=none)/\W i n y z) ?_ m0 #[0,σ,H2,I2,a1,λb k=>(f2 b k).1,w0]
 rintro n s3 ⟨i,j,H3,I3,P,Q,w3⟩
 rcases S i n j H3 w3 with⟨stop,qn⟩|⟨go,N,hN,M⟩
 ·show wpAny_passesOwn R (di (T.done X rfl rfl rfl hc i c s3 j H3 X.xe I3 (l Q) P stop) λr s4 G=>?_)
  let#[hr,I4]:=G
  subst hr
  show wpAny_execs_nil #[j,H3,I4,qn]
 ·show wpAny_passesOwn R (di (T.item X rfl rfl rfl hc i c s3 j H3 X.xe I3 (l Q) P go) λr s4 G=>?_)
  let#[u,hr,h4]:=G
  subst hr
  show wpAny_passesOwn R (di h4 λ_ s5 G=>?_)
  let#[x,H5,I5,r5,y5,F,Y]:=G
  let a2:=I5.pinned (l Y) (T.obj _ _ F)
  show wpAny_passesOwn R (di (hg _ s5 j H5 x u _ a2 r5<|M x H5 y5) λ_ s6 G=>?_)
  let#[a0,H6,I6,q6]:=G
  show wpAny_passesOwn R (di (k _ s6 a0 H6 _ I6 q6) λf U B=>?_)
  have again:∀{a:St} {q:Hp},Inv X (c++qJ L s5.heap) a q U->N a q->∃m,m<n/\∃i y z,Inv X c y z U/\tn i U.heap/\(∀b∈L,z b=none)/\W i m y z:=λ{a q} t K=>by
   let#[m',hm,w7]:=hN a q K
   show#[m',hm,i+1,a,q,t.unpinned,T.keep _ _ _ F λb k o e=>(t.pin (b,o)<|Qoq _<|Qoq _<|eg k e).1,λb k=>?_,w7]
   let#[o,e,d]:=T.obj _ _ F b k
   show(t.pin (b,o)<|Qoq _<|Qoq _<|eg k e).2.1
  cases f with
  |next=>let#[a,q,t,K]:=B;show again t K
  |cont=>let#[a,q,t,K]:=B;show again t K
  |brk=>let#[a,q,t,B]:=B;show#[a,q,t.unpinned,B]
  |ret v=>let#[x7,a,q,t,r7,B]:=B;show#[x7,a,q,t.unpinned,r7,B]
abbrev R2:=V->V->Hp->VK->Prop
def mG(X:Cx)(f:Value->Value->Sem Value)(r:R2):Prop:=
 ∀ (a:X2) (s:X4) (b:St) (H:Hp) (x y:V) (v u:Xd) (Q:VK),Inv X a b H s->RelV x v->RelV y u->r x y H Q->
   wpAny (model X.prog X.w) X.A (f v u) (EP X a b Q) X.xe s
def Qt(X:Cx)(f:Value->Sem Value)(r:V->Hp->VK->Prop):Prop:=
 ∀ (a:X2) (s:X4) (b:St) (H:Hp) (x:V) (v:Xd) (Q:VK),Inv X a b H s->RelV x v->r x H Q->
   wpAny (model X.prog X.w) X.A (f v) (EP X a b Q) X.xe s
def kM(X:Cx)(f:Xd)(r:List V->Hp->VK->Prop):Prop:=
 ∀ (a:X2) (s:X4) (d:St) (H:Hp) (c:List V) (b:X5) (Q:VK),Inv X a d H s->bN c b->r c H Q->
   wpAny (model X.prog X.w) X.A (call f b) (EP X a d Q) X.xe s
def Qu(X:Cx)(r:V->Hp->(Bool->Hp->Prop)->Prop):Prop:=
 ∀ (a:X2) (s:X4) (b:St) (H:Hp) (x:V) (v:Xd) (Q:Bool->Hp->Prop),Inv X a b H s->RelV x v->r x H Q->
   wpAny (model X.prog X.w) X.A (truthy v) (TP X a b Q) X.xe s
def Ki(r:R2)(c b:TE):TE:=λa H Q=>c a H λx H1=>b a H1 λy H2=>r x y H2 Q
def Sj(r:V->Hp->VK->Prop)(a:TE):TE:=λb H Q=>a b H λx H1=>r x H1 Q
def rI(C:Int->Int->Prop)(g:Int->Int->V):R2:=λx y H Q=>∃i j,x=.int i/\y=.int j/\C i j/\Q (g i j) H
def GU(g:Int->Int->V):R2:=λx y H Q=>∃i j,x=.int i/\y=.int j/\Q (g i j) H
def rU(g:Int->V):V->Hp->VK->Prop:=λx H Q=>∃i,x=.int i/\Q (g i) H
def Ni(G:PE X a d)(q:PE X b k){R:V->V->Hp->Prop}(I:Inv X g i H s)
  (h:d i H λx H1=>k i H1 λy H2=>R x y H2)  {f:Value->Value->Sem Value}
  (B:∀v u n x y H2,Inv X g i H2 n->RelV x v->RelV y u->R x y H2->wpAny (model X.prog X.w) X.A (f v u) Q X.xe n):
  wpAny (model X.prog X.w) X.A (eval a X.env) (λv m=>wpAny (model X.prog X.w) X.A (eval b X.env) (λu j=>wpAny (model X.prog X.w) X.A (f v u) Q X.xe j) X.xe m) X.xe s:=by
 show di (G g s i H _ I h) λv C o=>?_
 let#[x,H1,r,p,t]:=o
 show di (q g C i H1 _ r t) λu n o=>?_
 let#[y,H2,z,F,J]:=o
 show B v u n x y H2 z p F J
def uT{X:Cx}{a:Expr}{b:Expr}{d:TE}{k:TE}{e:Pos}{g:Operator}{r:R2}(n:mG X (binaryOp g) r)(w:PE X a d)(i:PE X b k):PE X (.BinOp a g b e) (Ki r d k):=by
 intro f s t H Q I h
 show wpAny_BinOp (Ni w i I h λv u j x y H2 m o p q=>n f j t H2 x y v u Q m o p q)
def Oi{X:Cx}{a:Expr}{d:TE}{e:Pos}{g:UnaryOp}{r:V->Hp->VK->Prop}(j:Qt X (unaryOp g) r)(m:PE X a d):PE X (.UnaryOp g a e) (Sj r d):=by
 intro f s i H Q I h
 show UnaryOp_ (di (m f s i H _ I h) λv p ⟨x,H1,q,n,o⟩=>j f p i H1 x v Q q n o)
def PU{X:Cx}{f:Value->Value->Sem Value}{C:Int->Int->Prop}{g:Int->Int->Int}
  (m:∀(i j:Int) (t u:Tok) (s:X4) (Q:X0) (E:X0),C i j->Q (.int (g i j) s.toks) {s with toks:=s.toks+1}->wpAny (model X.prog X.w) X.A (f (.int i t)<|.int j u) Q E s):
  mG X f (rI C λi j=>.int (g i j)):=by
 intro n s z H x y v u Q I p r h
 let#[i,j,rfl,rfl,hc,q]:=h
 let#[t,rfl]:=p
 let#[o,rfl]:=r
 show m i j t o s _ _ hc #[.int (g i j),H,I.tok _,#[_,L],q]
def O_{X:Cx}{f:Value->Value->Sem Value}{g:Int->Int->Int}
  (m:∀(i j:Int) (t u:Tok) (s:X4) (Q:X0) (E:X0),Q (.int (g i j) s.toks) {s with toks:=s.toks+1}->wpAny (model X.prog X.w) X.A (f (.int i t)<|.int j u) Q E s):
  mG X f (GU λi j=>.int (g i j)):=by
 intro n s z H x y v u Q I p r h
 let#[i,j,rfl,rfl,q]:=h
 let#[t,rfl]:=p
 let#[o,rfl]:=r
 show m i j t o s _ _ #[.int (g i j),H,I.tok _,#[_,L],q]
def K8{X:Cx}{f:Value->Value->Sem Value}{g:Int->Int->Bool}
  (m:∀(i j:Int) (t u:Tok) (s:X4) (Q:X0) (E:X0),Q (.bool (g i j)) s->wpAny (model X.prog X.w) X.A (f (.int i t)<|.int j u) Q E s):
  mG X f (GU λi j=>.bl (g i j)):=by
 intro n s z H x y v u Q I p r h
 let#[i,j,rfl,rfl,q]:=h
 let#[t,rfl]:=p
 let#[o,rfl]:=r
 show m i j t o s _ _ #[.bl (g i j),H,I,L,q]
def HJ(i j:Int):Prop:=0<j/\j<1073741824
def JP(i j:Int):Prop:=0<=j/\j<=1000000/\i.natAbs<2^64
def Ik(i j:Int):Prop:=(-(2^64)<i/\i<2^64)\/(-(2^64)<j/\j<2^64)
def Ik.ok(h:Ik i j):IntMulOk i j:=by
 rcases h with⟨g,f⟩|⟨g,f⟩
 ·show .of_left (intBits_le_64 g f)
 ·show .of_right (intBits_le_64 g f)
def NL:mG X (binaryOp .Add) (GU λi j=>.int (i+j)):=O_ λ_ _ _ _ _ _ _ q=>add_int q
def MN:mG X (binaryOp .Sub) (GU λi j=>.int (i-j)):=O_ λ_ _ _ _ _ _ _ q=>sub_int q
def KN:mG X (binaryOp .FloorDiv) (rI HJ λi j=>.int (i/j)):=PU λi j _ _ _ _ _ f q=>by
 have h:(0:Int)<j:=f.1
 have g:j<1073741824:=f.2
 show floordiv_int (!0) (by rw[Int.fdiv_eq_ediv_of_nonneg i (!0)];show q)<|.inl (PyProof.noPylong_small (!0))
def MW:mG X (binaryOp .Mod) (rI (λ_ j=>0<j) λi j=>.int (i%j)):=PU λi j _ _ _ _ _ f q=>by
 have g:(0:Int)<j:=f
 show mod_int' (!0) (by rw[Int.fmod_eq_emod_of_nonneg i (!0)];show q)
def ND:mG X (binaryOp .Pow) (rI JP λi j=>.int (i^j.toNat)):=PU λ_ _ _ _ _ _ _ f q=>pow_int_small f.1 f.2.1 f.2.2 q
def Sl{X:Cx}{g:Int->Int}
  (j:∀(i:Int) (t:Tok) (s:X4) (Q:X0) (E:X0),Q (.int (g i) s.toks) {s with toks:=s.toks+1}->wpAny (model X.prog X.w) X.A (f<|.int i t) Q E s):
  Qt X f (rU λi=>.int (g i)):=by
 intro m s o H x v Q I n h
 let#[i,rfl,q]:=h
 let#[t,rfl]:=n
 show j i t s _ _ #[.int (g i),H,I.tok _,#[_,L],q]
def Mx:Qt X (unaryOp .USub) (rU λi=>.int (-i)):=Sl λ_ _ _ _ _ q=>neg_int q
noncomputable def Ci:V->V->Bool
 |.non,.non=>true|.non,.int _=>true|.int _,.non=>true|.non,.bl _=>true|.bl _,.non=>true|.non,.str _=>true|.str _,.non=>true
 |.int _,.int _=>true|.bl _,.bl _=>true|.str _,.str _=>true|.byt _,.byt _=>true
 |.int _,.str _=>true|.str _,.int _=>true|.bl _,.str _=>true|.str _,.bl _=>true
 |_,_=>false
def Ru:R2:=λx y H Q=>Ci x y=true/\Q (.bl (decide (x=y))) H
def RE:R2:=λx y H Q=>Ci x y=true/\Q (.bl (!decide (x=y))) H
def Fo:decide (V.int i=V.int j)=(i==j):=by
 rw[Bool.eq_iff_iff]
 simp
def HK:decide (V.bl i=V.bl j)=(i==j):=by
 rw[Bool.eq_iff_iff]
 simp
def FF:decide (V.str i=V.str j)=(i==j):=by
 rw[Bool.eq_iff_iff]
 simp
def Fc:decide (V.byt i=V.byt j)=(i.toList==j.toList):=by
 rw[Bool.eq_iff_iff]
 cases i
 cases j
 simp
def cx{Q:VK}(I:Inv X f i H s)(q:Q (.bl k) H)(e:k=h):EP X f i Q (.bool h) s:=by
 subst e
 show#[.bl k,H,I,L,q]
def RI:mG X (compareOp .Eq) Ru:=by
 intro o s p H x y v u Q I m e h
 let#[k,q]:=h
 cases x with
 | non=>
   cases m
   cases y with
   |non=>cases e;show PySem.EqNone.eq_none_none (cx I q (by simp))
   |bl j=>cases e;show PySem.EqNone.eq_none_bool (cx I q (by simp))
   |int j=>let#[f,rfl]:=e;show PySem.EqNone.eq_none_int (cx I q (by simp))
   |str j=>let#[f,rfl]:=e;show PySem.EqNone.eq_none_str (cx I q (by simp))
   |_=>show absurd (show false=true from k) Qtq
 | bl i=>
   cases m
   cases y with
   |non=>cases e;show PySem.EqNone.eq_bool_none (cx I q (by simp))
   |bl j=>cases e;show eq_bool (cx I q HK)
   |str j=>let#[f,rfl]:=e;show PySem.EqMixed.eq_bool_str (cx I q (by simp))
   |_=>show absurd (show false=true from k) Qtq
 | int i=>
   let#[t,rfl]:=m
   cases y with
   |non=>cases e;show PySem.EqNone.eq_int_none (cx I q (by simp))
   |int j=>let#[f,rfl]:=e;show eq_int (cx I q Fo)
   |str j=>let#[f,rfl]:=e;show PySem.EqMixed.eq_int_str (cx I q (by simp))
   |_=>show absurd (show false=true from k) Qtq
 | str i=>
   let#[t,rfl]:=m
   cases y with
   |non=>cases e;show PySem.EqNone.eq_str_none (cx I q (by simp))
   |bl j=>cases e;show PySem.EqMixed.eq_str_bool (cx I q (by simp))
   |int j=>let#[f,rfl]:=e;show PySem.EqMixed.eq_str_int (cx I q (by simp))
   |str j=>let#[f,rfl]:=e;show eq_str (cx I q FF)
   |_=>show absurd (show false=true from k) Qtq
 | byt i=>
   let#[t,rfl]:=m
   cases y with
   |byt j=>let#[f,rfl]:=e;show PySem.W.eq_bytes (cx I q Fc)
   |_=>show absurd (show false=true from k) Qtq
 |_=>cases y <;>show absurd (show false=true from k) Qtq
def RD:mG X (compareOp .NotEq) RE:=by
 intro o s p H x y v u Q I m e h
 let#[k,q]:=h
 cases x with
 | non=>
   cases m
   cases y with
   |non=>cases e;show PySem.EqNone.ne_none_none (cx I q (by simp))
   |bl j=>cases e;show PySem.EqNone.ne_none_bool (cx I q (by simp))
   |int j=>let#[f,rfl]:=e;show PySem.EqNone.ne_none_int (cx I q (by simp))
   |str j=>let#[f,rfl]:=e;show PySem.EqNone.ne_none_str (cx I q (by simp))
   |_=>show absurd (show false=true from k) Qtq
 | bl i=>
   cases m
   cases y with
   |non=>cases e;show PySem.EqNone.ne_bool_none (cx I q (by simp))
   |bl j=>cases e;show ne_bool (cx I q<|congrArg not HK)
   |str j=>let#[f,rfl]:=e;show PySem.EqMixed.ne_bool_str (cx I q (by simp))
   |_=>show absurd (show false=true from k) Qtq
 | int i=>
   let#[t,rfl]:=m
   cases y with
   |non=>cases e;show PySem.EqNone.ne_int_none (cx I q (by simp))
   |int j=>let#[f,rfl]:=e;show ne_int (cx I q<|congrArg not Fo)
   |str j=>let#[f,rfl]:=e;show PySem.EqMixed.ne_int_str (cx I q (by simp))
   |_=>show absurd (show false=true from k) Qtq
 | str i=>
   let#[t,rfl]:=m
   cases y with
   |non=>cases e;show PySem.EqNone.ne_str_none (cx I q (by simp))
   |bl j=>cases e;show PySem.EqMixed.ne_str_bool (cx I q (by simp))
   |int j=>let#[f,rfl]:=e;show PySem.EqMixed.ne_str_int (cx I q (by simp))
   |str j=>let#[f,rfl]:=e;show ne_str (cx I q<|congrArg not FF)
   |_=>show absurd (show false=true from k) Qtq
 | byt i=>
   let#[t,rfl]:=m
   cases y with
   |byt j=>let#[f,rfl]:=e;show PySem.W.ne_bytes (cx I q<|congrArg not Fc)
   |_=>show absurd (show false=true from k) Qtq
 |_=>cases y <;>show absurd (show false=true from k) Qtq
def Rj:mG X (compareOp .Lt) (GU λi j=>.bl (decide (i<j))):=K8 λ_ _ _ _ _ _ _ q=>lt_int q
def R8:mG X (compareOp .LtE) (GU λi j=>.bl (decide (i<=j))):=K8 λ_ _ _ _ _ _ _ q=>le_int q
def RR:mG X (compareOp .Gt) (GU λi j=>.bl (decide (j<i))):=K8 λ_ _ _ _ _ _ _ q=>gt_int q
def RK:mG X (compareOp .GtE) (GU λi j=>.bl (decide (j<=i))):=K8 λ_ _ _ _ _ _ _ q=>ge_int q
def Q3:mG X (compareOp .Is) (λx y H Q=>y=.non/\Q (.bl (decide (x=.non))) H):=by
 intro e s j H x y v u Q I f i h
 let#[rfl,q]:=h
 cases i
 show is_none_gen<|cx I q ?_
 cases x <;>first
  |(cases f;rfl)
  |(let#[t,rfl]:=f;rfl)
def P7:mG X (compareOp .IsNot) (λx y H Q=>y=.non/\Q (.bl (!decide (x=.non))) H):=by
 intro e s j H x y v u Q I f i h
 let#[rfl,q]:=h
 cases i
 show isnot_none_gen<|cx I q ?_
 cases x <;>first
  |(cases f;rfl)
  |(let#[t,rfl]:=f;rfl)
def mG.or(h:mG X f r)(h':mG X f r'):mG X f (λx y H Q=>r x y H Q\/r' x y H Q):=by
 intro e s k H x y v u Q I i j q
 rcases q with q|q
 ·show h e s k H x y v u Q I i j q
 ·show h' e s k H x y v u Q I i j q
def Iy(b:Expr){e:CmpOp}(h:autoParam (e≠.In) dL._auto_1)(i:autoParam (e≠.NotIn) dL._auto_1):behindInMarks e b=false:=by
 have f:(e==CmpOp.In)=false:=by cases e <;>first|rfl|show absurd L h
 have j:(e==CmpOp.NotIn)=false:=by cases e <;>first|rfl|show absurd L i
 cases b <;>simp[behindInMarks,f,j]
def FA{X:Cx}{a:Expr}{b:Expr}{d:TE}{l:TE}{g:Pos}{f:CmpOp}{r:R2}(m:mG X (compareOp f) r)(z:PE X a d)(i:PE X b l)(w:behindInMarks f b=false):PE X (.Compare a [f] [b] g) (Ki r d l):=by
 intro e s t H Q I h
 show wpAny_Compare1 (Ni z i I h λv u j x y H2 k o p q=>m e j t H2 x y v u Q k o p q) w
def II(t:TE):TT:=λf H Q=>t f H λx e=>∃k,x=.bl k/\Q k e
def qV(F:mG X (compareOp j) r)(L:PE X a d)(p:PE X b l)(K:behindInMarks j b=false):PT X (.Compare a [j] [b] g) (II<|Ki r d l):=by
 intro f s i H Q I h
 show wpAny_isTrue_Compare1 (di (L f s i H _ I h) λv G ⟨x,H1,q,o,A⟩=>di (p f G i H1 _ q A) λu w ⟨y,H2,C,J,M⟩=>
  di (F f w i H2 x y v u _ C o J M) λc N ⟨z,H3,t,m,k,e,B⟩=>?_) K
 subst e
 cases m
 show wpAny_truthy_bool #[H3,t,B]
def Ml(K:X1)(x:V)(H:Hp)(k:Bool):Prop:=
 match x with
 |.non=>k=false
 |.bl b=>k=b
 |.int i=>k=(i !=0)
 |.str y=>y.length<=sizeLine/\k=((y.length:Int) !=0)
 |.byt y=>y.size<=sizeLine/\k=((y.size:Int) !=0)
 |.ref p=>(∃f,jm K H p f/\k= !f.isEmpty)\/(∃f,jM K H p f/\k= !f.isEmpty)\/∃e,H p=some (.dK e)/\k= !e.isEmpty
 |_=>False
def EN{κ:Type}{e:List (κ×V)}{vs:List (κ×Value)}(r:KV e vs):(!vs.isEmpty)= !e.isEmpty:=by
 cases r <;>rfl
def wJ{xs:List V}{e:X5}(r:bN xs e):(!e.toArray.isEmpty)= !xs.isEmpty:=by
 cases r <;>simp
def mH:(sizeLine:Nat)<2^63:=by rw[sizeLine_eq];decide
def Nj:Qu X (λx H Q=>∃k,Ml X.K x H k/\Q k H):=by
 intro J s S H x v Q I z h
 let#[k,e,q]:=h
 let N:=mH
 have R:sizeLine=16777216:=sizeLine_eq
 cases x with
 | non=>
   cases z
   have f:k=false:=e
   subst f
   show truthy_none #[H,I,q]
 | bl b=>
   cases z
   have f:k=b:=e
   subst f
   show wpAny_truthy_bool #[H,I,q]
 | int i=>
   let#[t,rfl]:=z
   have f:k=(i !=0):=e
   subst f
   show PySem.P.truthy_int #[H,I,q]
 | str y=>
   let#[t,rfl]:=z
   obtain⟨L,f⟩:y.length<=sizeLine/\k=((y.length:Int) !=0):=e
   subst f
   show PySem.P.truthy_str (!0) #[H,I.tok _,q]
 | byt y=>
   let#[t,rfl]:=z
   obtain⟨L,f⟩:y.size<=sizeLine/\k=((y.size:Int) !=0):=e
   subst f
   show PySem.W.truthy_bytes (!0) #[H,I.tok _,q]
 | ref p=>
   cases z
   have f:(∃u,jm X.K H p u/\k= !u.isEmpty)\/(∃u,jM X.K H p u/\k= !u.isEmpty)\/∃j,H p=some (.dK j)/\k= !j.isEmpty:=e
   rcases f with⟨u,A,f⟩|⟨u,A,f⟩|⟨j,A,f⟩
   · subst f
     let#[C,r,F,G]:=I.list A
     let o:=r.length
     show wpAny_truthy_list F.isList (by erw[Qjq];omega) #[H,I.tok _,by rw[wJ r];show q]
   · subst f
     let#[C,r,F,G]:=I.tuple A
     let o:=r.length
     show truthy_tuple F (by erw[Qjq];omega) ⟨H,I.tok _,by rw[wJ r];show q⟩
   · subst f
     obtain⟨G,M,B,r,m⟩:j.length<=sizeLine/\(p==sysModules)=false/\∃B,KV j B/\s.heap.DictOf (cq X.prog X.w) p B:=I.hok p _ A
     have o:j.length=B.length:=Paired.length r
     show wpAny_truthy_dict M m (!0) #[H,I.tok _,by rw[EN r];show q]
 |_=>show(show False from e).elim
def J8(r:PE X a d)(he:∀e,isTrue a X.env e=(do let v<-e;standAt a.pos;holding [v] (truthy v))):
  PT X a (λi H Q=>d i H λx j=>∃k,Ml X.K x j k/\Q k j):=by
 intro f s i H Q I h
 show isTrue_plain (di (r f s i H _ I h) λv q ⟨x,H1,o,m,p⟩=>Nj f q i H1 x v Q o m p)<|he _
def EL:mG X (binaryOp .Add) (λx y H Q=>∃i j,x=.str i/\y=.str j/\i.length+j.length<=sizeLine/\Q (.str (i++j)) H):=by
 intro e s p H x y v u Q I k m h
 let#[i,j,rfl,rfl,hz,q]:=h
 let#[t,rfl]:=k
 let#[f,rfl]:=m
 show add_str (λf o=>#[.str (i++j),H,I.tok _,#[_,L],q]) hz
def vals1(r:bN [x] e):∃u,e= [u]/\RelV x u:=by
 cases r with
 |cons h f=>cases f;show#[_,L,h]
def vals2(r:bN [x,y] e):∃u f,e= [u,f]/\RelV x u/\RelV y f:=by
 cases r with
 | cons k h=>
   cases h with
   |cons j i=>cases i;show#[_,_,L,k,j]
def Om:kM X (.builtin "abs") (λxs H Q=>∃i,xs= [.int i]/\Q (.int (if i<0 then -i else i)) H):=by
 intro e s k H xs f Q I r h
 let#[i,rfl,q]:=h
 let#[u,rfl,t,rfl]:=vals1 r
 show call_abs_int λu j=>#[.int (if i<0 then -i else i),H,I.tok _,#[_,L],q]
def NX{X:Cx}(m:X.calm=true):kM X (.builtin "max") (λxs H Q=>∃i j,xs= [.int i,.int j]/\Q (.int (if j>i then j else i)) H):=by
 intro f s w H xs x Q I r h
 let#[i,j,rfl,q]:=h
 let#[u,o,rfl,#[t,rfl],#[t',rfl]]:=vals2 r
 show max_two_ints (I.ok.hd m) λp v k=>#[_,H,I.kept k,?_,q]
 by_cases e:j>i
 ·rw[Qhq e,Qhq e];show#[_,L]
 ·rw[Quq e,Quq e];show#[_,L]
def NV{X:Cx}(m:X.calm=true):kM X (.builtin "min") (λxs H Q=>∃i j,xs= [.int i,.int j]/\Q (.int (if j<i then j else i)) H):=by
 intro f s w H xs x Q I r h
 let#[i,j,rfl,q]:=h
 let#[u,o,rfl,#[t,rfl],#[t',rfl]]:=vals2 r
 show min_two_ints (I.ok.hd m) λp v k=>#[_,H,I.kept k,?_,q]
 by_cases e:j<i
 ·rw[Qhq e,Qhq e];show#[_,L]
 ·rw[Quq e,Quq e];show#[_,L]
def NU:kM X (.type "int") (λxs H Q=>(∃i,xs= [.int i]/\Q (.int i) H)\/∃k,xs= [.bl k]/\Q (.int (if k then 1 else 0)) H):=by
 intro e s j H xs f Q I r h
 rcases h with⟨i,rfl,q⟩|⟨k,rfl,q⟩
 ·let#[u,rfl,t,rfl]:=vals1 r
  show call_int_int #[.int i,H,I,#[_,L],q]
 ·let#[u,rfl,r1]:=vals1 r
  cases r1
  show call_int_bool #[.int (if k then 1 else 0),H,I.tok _,#[_,L],q]
structure Nl(h:Xe)(x dx C:X8)(mA:X3):Prop where
 obj:h.get? x=some (PySem.W.instObj C dx)
 ns:h.Ns1 dx mA
 ne:dx≠x
def GS{h:Xe}(n:h.Ns1 g d):∃f,h.get? g=some f/\∀name,PySem.W.lookIn name f=some (d name):=by
 let#[o,c,r,l,i,j,_,p]:=n
 show#[o,l,λname=>?_]
 let e:=p name
 unfold nsFind findBy at e
 rw[<-Array.find?_toList] at e
 unfold PySem.W.lookIn
 rw[i]
 dsimp only
 split
 ·rename_i y q
  rw[q] at e
  show congrArg some e
 ·rename_i q
  rw[q] at e
  have a:c.toList.any (·.refKey)=false:=by
   rw[List.any_eq_false]
   intro y m
   let#[z,t,b]:=j y (Array.mem_toList_iff.mp m)
   simp[DictEntry.refKey,b]
  have k:¬c.toList.any (·.refKey)=true:=by rw[a];show Qtq
  rw[Quq k]
  show congrArg some e
def Nl.look(I:Nl h x b C c):∃a,PySem.W.InstAt h x (PySem.W.instObj C b) C (some a)/\∀name,PySem.W.lookIn name a=some (c name):=
 let ⟨a,ho,hl⟩:=GS I.ns
 #[a,#[I.obj,L,L,ho],hl]
def vM.some_of(r:vM (some v) o):∃u,o=some u/\RelV v u:=by
 cases o with
 |none=>show(show False from r).elim
 |some u=>show#[u,L,r]
def Ln(j:qO P w H h)(e:H a=some (.ins C b fs)):∃i,Nl h a b C i/\(∀f,vM (fs.lookup f)<|i f)/\PySem.Within i (fs.map (·.1))/\fs.length<=1000/\H b=some (.own a):=by
 let#[d,z,k,l,i,n,r,q]:=(show dF P w H h a (.ins C b fs) from j a _ e)
 show#[i,#[l,n,k],r,q,z,d]
structure QN(K:X1)(C:X8):Prop where
 pg:PySem.W.plainGet K C Str.empty=true
 hd:PySem.W.hasDictIn K C=true
 po:PySem.W.plainOver K C=true
 sa:PySem.W.findIn K (.ref C) "__setattr__"=some (some<|.builtin "object.__setattr__")
def QN.get{K:X1}{C:X8}(c:QN K C)(f:Str):PySem.W.plainGet K C f=true:=c.pg
inductive tX(K:X1)(H:Hp):V->Value->Prop where
 |non:tX K H .non (.type "NoneType")
 |bl (x:Bool):tX K H (.bl x) (.type "bool")
 |int (i:Int):tX K H (.int i) (.type "int")
 |str (x:Str):tX K H (.str x) (.type "str")
 |flt (x:UInt64):tX K H (.flt x) (.type "float")
 |lst {a:X8} {xs:List V} (e:H a=some (.lst xs)):tX K H (.ref a) (.type "list")
 |frz {a:X8} {o:Obj} {xs:List V} (e:H a=some (.frz o (.lst xs))):tX K H (.ref a) (.type "list")
 |tup {a:X8} {xs:List V} (e:H a=some (.tup xs)):tX K H (.ref a) (.type "tuple")
 |dK {a:X8} {kvs:List (Key×V)} (e:H a=some (.dK kvs)):tX K H (.ref a) (.type "dict")
 |dT {a:X8} {kvs:List (List Key×V)} (e:H a=some (.dT kvs)):tX K H (.ref a) (.type "dict")
 |ins {a C dx:X8} {fs:List (Str×V)} (e:H a=some (.ins C dx fs)) (cl:QN K C) (ha:PySem.W.findIn K (.ref C) "__class__"=some (some<|.builtin "object.__class__"))
   (hn:PySem.W.specialIn K (.builtin "object.__class__") "__get__"=some (some<|.builtin "getset_descriptor.__get__")) (htk:PySem.W.takesIn K (.builtin "object.__class__")=some true)
   (hm:PySem.W.mroIn K C (.type "object")=some true):tX K H (.ref a) (.ref C)
def Hk{X:Cx}{d:X2}{f:St}{H:Hp}{s:X4}{A:X_}{E:X0}{Q:X0}{c:Xd}{b:Bool}{x:V}{u t:Xd}(I:Inv X d f H s)(g:RelV x u)(v:tX X.K H x t)(e:PySem.W.kitOne X.K t c=some b)(h:∀m,Q (.bool b) {s with toks:=m}):
  wpAny (model X.prog X.w) A (call (.builtin "isinstance") [u,c]) Q E s:=by
 cases v with
 |non=>cases (show u=Value.none from g);show PySem.W.kia_one PySem.W.kitx_none I.kIn True.intro e (λz=>nomatch z) h
 |bl y=>cases (show u=Value.bool y from g);show PySem.W.kia_one PySem.W.kitx_bool I.kIn True.intro e (λz=>nomatch z) h
 |int i=>let#[t,q]:=(show∃t,u=Value.int i t from g);cases q;show PySem.W.kia_one PySem.W.kitx_int I.kIn True.intro e (λz=>nomatch z) h
 |str y=>let#[t,q]:=(show∃t,u=Value.str y t from g);cases q;show PySem.W.kia_one PySem.W.kitx_str I.kIn True.intro e (λz=>nomatch z) h
 |flt y=>let#[t,q]:=(show∃t,u=Value.float y t from g);cases q;show PySem.W.kia_one PySem.W.kitx_float I.kIn True.intro e (λz=>nomatch z) h
 | @lst a k ea=>
   cases (show u=Value.ref a from g)
   let#[_,_,n,_,j]:=(show dF X.prog X.w H s.heap a (.lst k) from I.hok a _ ea)
   show PySem.W.kia_one PySem.W.kitx_list I.kIn #[_,j,rfl] e (λz=>nomatch z) h
 | @frz a ob k ea=>
   cases (show u=Value.ref a from g)
   let#[_,_,_,n,_,j]:=(show dF X.prog X.w H s.heap a (.frz ob (.lst k)) from I.hok a _ ea)
   show PySem.W.kia_one PySem.W.kitx_list I.kIn #[_,j,rfl] e (λz=>nomatch z) h
 | @tup a k ea=>
   cases (show u=Value.ref a from g)
   let#[_,_,_,p]:=(show dF X.prog X.w H s.heap a (.tup k) from I.hok a _ ea)
   let#[o,j,l,_]:=p
   show PySem.W.kia_one PySem.W.kitx_tuple I.kIn #[o,j,l] e (λz=>nomatch z) h
 | @dK a kvs ea=>
   cases (show u=Value.ref a from g)
   let#[_,_,F,_,p]:=(show dF X.prog X.w H s.heap a (.dK kvs) from I.hok a _ ea)
   let#[o,r,B,j,l,_]:=p
   show PySem.W.kia_one PySem.W.kitx_dict I.kIn #[o,j,l.1] e (λz=>nomatch z) h
 | @dT a kvs ea=>
   cases (show u=Value.ref a from g)
   let#[_,_,k,_,o,r,B,j,l,_]:=(show dF X.prog X.w H s.heap a (.dT kvs) from I.hok a _ ea)
   show PySem.W.kia_one PySem.W.kitx_dict I.kIn #[o,j,l.1] e (λz=>nomatch z) h
 | @ins a C dx fs ea cl ha hn htk hm=>
   cases (show u=Value.ref a from g)
   let#[G,O,_]:=Ln I.hok ea
   let#[L,J,_]:=O.look
   show PySem.W.kia_one (PySem.W.kitx_own (cl.get _) cl.hd ha hn htk hm) I.kIn J e (λz=>nomatch z) h
structure gE(k:Nat)(A:X_):Prop where
 hd:A.handled=none
 dp:A.depth+3*k+5<recursionLimit
 un:A.units+16*k+200<cLine
def gE.mono(r:gE k A)(h:j<=k):gE j A:=#[r.hd,by have:=r.dp;omega,by have:=r.un;omega]
def gE.deeper(r:gE (k+1) A)(env:Env):gE k (A.deeper env):=
 #[r.hd,by have:=r.dp;show A.depth+1+3*k+5<_;omega,by have:=r.un;show A.units+3+16*k+200<_;omega]
def gE.depth(r:gE k A):A.depth<recursionLimit:=by have:=r.dp;omega
def gE.units(r:gE k A):A.units+64<cLine:=by have:=r.un;omega
def gE.units0(r:gE k A):A.units<cLine:=by have:=r.un;omega
def Mm:TA:=λ_ H Q=>Q [] H
def IZ(c:TE)(tr:TA):TA:=λa H Q=>c a H λx H1=>tr a H1 λb H2=>Q (x::b) H2
def gX:PA X [] Mm:=λ_ _ _ _ H Q I h=>Calls.spliced_nil #[[],H,I,.nil,h]
def eB(r:PE X e d)(l:PA X c t)(o:autoParam (starEach (e::c) X.env=(false,eval e X.env)::starEach c X.env) dO._auto_1):PA X (e::c) (IZ d t):=by
 intro a b s f H Q I h
 rw[o]
 show wpAny _ _ (spliced ((false,eval e X.env)::backTo a (starEach c X.env))) _ _ s
 show Calls.spliced_cons (di (r b s f H _ I h) λu n p=>?_)
 let#[x,H1,i,g,j]:=p
 show di (l a b n f H1 _ i j) λy w ⟨m,H2,k,q,v⟩=>#[x::m,H2,k,.cons g q,v]
def QH(t:TA):TE:=λf H Q=>t f H λb H1=>b.length<=sizeLine/\∀p,H1 p=none->Q (.ref p) (upd H1 p<|.tup b)
def Qr(t:TA):TE:=λf H Q=>t f H λb H1=>b.length<=sizeLine/\∀p,H1 p=none->Q (.ref p) (upd H1 p<|.lst b)
def Ms{x1}(h:PA X c t):PE X (.Tuple c x1 a) (QH t):=by
 intro f s m H Q I j
 show wpAny_Tuple_spliced (di (h a f s m H _ I j) λn g ⟨l,H1,i,r,z,q⟩=>#[by rw[<-r.length];show z,?_])
 have k:H1 g.heap.objs.size=none:=i.hok.fresh (Qmq _)
 show#[.ref g.heap.objs.size,upd H1 g.heap.objs.size<|.tup l,i.laid (t':=g.toks) (λb u e=>Qcq _ e) (Qmq _) ?_,L,q _ k]
 show#[z,n,r,#[_,Qrq _ L,L,L,_,L]]
def NQ(h:PA X c t):PE X (.List c a) (Qr t):=by
 intro f s m H Q I j
 show wpAny_List_spliced (di (h a f s m H _ I j) λn g ⟨l,H1,i,r,z,q⟩=>#[by rw[<-r.length];show z,?_])
 have k:H1 g.heap.objs.size=none:=i.hok.fresh (Qmq _)
 show#[.ref g.heap.objs.size,upd H1 g.heap.objs.size<|.lst l,i.laid (t':=g.toks) (λb u e=>Qcq _ e) (Qmq _) ?_,L,q _ k]
 show#[z,n,0,r,Qrq _ L]
abbrev Sp:=List V->Hp->VK->XK->Prop
abbrev HD:=List Env->Hp->Shared->XK->Value->Shared->Prop
structure KU(P:X9)(w:Xc)(K:X1)(mg:X3)(base:Xe)(A:X_)(outer:List Env)(s:X4)(H:Hp):Prop where
 frames:A.frames=some outer
 mod:Mod K mg base
 bs:∀b o,base.get? b=some o->s.heap.get? b=some o/\H b=none
 bsz:base.objs.size<=s.heap.objs.size
 funs:s.heap.FunFrames base outer
 frf:∀b∈IV outer,H b=none
 hok:qO P w H s.heap
 bare:AllBare s.gens
def CE(a:List Env)(P:X9)(w:Xc)(H:Hp)(s:X4)(Q:VK)(u:Xd)(b:X4):Prop:=
 ∃v c,b.os=s.os/\AllBare b.gens/\Un (IV a) [] H c s.heap b.heap/\qO P w c b.heap/\RelV v u/\Q v c
def CR(CX:HD)(a:List Env)(P:X9)(w:Xc)(H:Hp)(s:X4)(Q:VK)(E:XK)(r:Result)(b:X4):Prop:=
 match r with
 |.ok (.ret u)=>CE a P w H s Q u b
 |.ok _=>False
 |.error e=>CX a H s E e b
structure bx(P:X9)(w:Xc)(K:X1)(mg:X3)(base:Xe)(CX:HD)(k:Nat)(f:X8)(fd:FuncData)(ps:X6)(sp:Sp):Prop where
 len:∀vs H Q E,sp vs H Q E->vs.length=ps.length
 run:∀(A:X_) (outer:List Env) (s:X4) (H:Hp) (args:Args) (us:X5) (vs:List V) (Q:VK) (E:XK),gE k A->KU P w K mg base A outer s H->BindsTo s fd args (ps.zip us)->bN vs us->sp vs H Q E->
  codeAny (model P w) A (.call (.ref f) args) (CR CX outer P w H s Q E) s
def bx.mono{P:X9}{w:Xc}{K:X1}{e:X3}{a:Xe}{CX:HD}{j k:Nat}{f:X8}{d:FuncData}{ps:X6}{sp:Sp}(F:bx P w K e a CX j f d ps sp)(h:j<=k):
  bx P w K e a CX k f d ps sp:=#[F.len,λA b s H c l g Q E i=>F.run A b s H c l g Q E<|i.mono h]
def bx.imp{P:X9}{w:Xc}{K:X1}{g:X3}{a:Xe}{CX:HD}{k:Nat}{f:X8}{e:FuncData}{ps:X6}{sp d:Sp}(F:bx P w K g a CX k f e ps sp)
  (h:∀vs H Q E,d vs H Q E->sp vs H Q E):bx P w K g a CX k f e ps d:=
 #[λvs H Q E q=>F.len vs H Q E<|h _ _ _ _ q,λA b s H c m vs Q E j n i o l=>F.run A b s H c m vs Q E j n i o<|h _ _ _ _ l]
def Inv.env0(I:Inv X a e H s):KU X.prog X.w X.K X.mg X.base X.A X.stack s H:=
 #[I.ok.frames,I.ok.mod,I.bs,QAq I.ok.bsz I.sz,I.stack,I.stkFree,I.hok,I.bare]
def Inv.after(I:Inv X a e H s)(h:CE X.stack X.prog X.w H s Q u c):EP X a e Q u c:=by
 let#[v,n,k,f,l,j,r,q]:=h
 let#[m,g,d,t,i]:=c
 obtain rfl:i=s.os:=k
 show#[v,n,I.call (h':=m) (g':=g) (d':=d) (t':=t) (ch:= []) l j f (λb z=>absurd z (by simp)),r,q]
def Js(sp:Sp)(a:List V)(E:XK)(t:TA):TE:=λc H Q=>t c H λb H1=>sp (b++a) H1 Q E
def Binds(K:X1)(b:FuncData)(ps:X6)(ds:X5):Prop:=
 ∀(s:X4) (a:X5),K.In s.heap->(a++ds).length=ps.length->BindsTo s b #[a,[]] (ps.zip (a++ds))
def Binds.all{K:X1}{b:FuncData}{ps:X6}(h:∀a:List Value,a.length=ps.length->bindArgs b #[a,[]]=pure (ps.zip a)):Binds K b ps []:=λs a _ c=>by
 rw[List.append_nil] at c|-
 show .of_eq (h a c)
def EA(CX:HD)(X:Cx)(E:XK):Prop:=∀(a:X2) (c:St) (H:Hp) (s:X4) (e:Xd) (b:X4),Inv X a c H s->CX X.stack H s E e b->X.xe e b
def J1{X:Cx}{E:XK}(F:bx X.prog X.w X.K X.mg X.base CX k f d ps sp)(J:gE k X.A)(B:Binds X.K d ps ds)(y:bN a ds)(M:EA CX X E)
  (I:Inv X j q H s) (r:bN vs l) (h:sp (vs++a) H Q E):wpAny (model X.prog X.w) X.A (call (.ref f) l) (EP X j q Q) X.xe s:=by
 have v:bN (vs++a) (l++ds):=r.append y
 have G:(l++ds).length=ps.length:=by rw[<-v.length];show F.len _ _ _ _ h
 show wpAny_call (codeAny_mono (F.run X.A X.stack s H #[l,[]] (l++ds) (vs++a) Q E J I.env0 (B s l I.kIn G) v h) λr z n=>?_)
 cases r with
 |error e=>show M j q H s e z I n
 | ok L=>
   cases L with
   |ret u=>show I.after n
   |next=>show False.elim n
   |brk=>show False.elim n
   |cont=>show False.elim n
def Fy{X:Cx}{E:XK}(F:bx X.prog X.w X.K X.mg X.base CX k f d ps sp)(B:gE k X.A)(y:Gl X x)(L:X.mg x=some (.ref f))(z:PySem.W.keepIn X.K (.ref f)=true)(v:Binds X.K d ps ds)(u:bN a ds)(J:EA CX X E)
  (M:PA X (e::c) t) (l:autoParam ((x==("__debug__":Str))=false) dL._auto_1) (he:autoParam (starEach (e::c) X.env=(false,eval e X.env)::starEach c X.env) dO._auto_1) (hpl:autoParam ((backTo b<|starEach c X.env).any (·.1)=false) dO._auto_1):
  PE X (.Call (.Name x p) (e::c) [] b) (Js sp a E t):=by
 intro j s G H Q I h
 show wpAny_Call_Name_kw<|AL I y L ?_ l
 show PySem.W.callWith_K (h₀:=X.base) I.ok.mod.kin z (di (M b j s G H _ I h) λR P ⟨N,H1,n,r,q⟩=>#[n.kIn,?_]) he hpl
 show J1 F B v u J n r q
structure aF(N P:X6)(sc:Scope):Prop where
 kind:sc.kind=.function
 co:sc.isCoroutine=false
 gen:sc.isGenerator=false
 nd:N.Nodup
 pre:N.take P.length=P
 par:∀x∈P,sc.names.lookup x=some .local\/sc.names.lookup x=some .cell
 nofree:∀y∈sc.names,y.2≠.free
theorem y8:∀{a:List (Str×Value)} {m:X3},(∀v,(x,v)∉a)->bindL b a m x=m x
 | [],_,_=>rfl
 | (n,v)::r,m,h=>by
   unfold bindL
   rw[y8 λw c=>h w (Qpq _ c)]
   split
   · have:x≠n:=by rintro rfl;show h v QBq
     simp[this]
   · rfl
theorem yI:∀{a:List (Str×Value)} {m:X3},(∀v,(x,v)∉a)->bindC b a m x=m x
 | [],_,_=>rfl
 | (n,v)::r,m,h=>by
   unfold bindC
   rw[yI λw c=>h w (Qpq _ c)]
   split
   · rfl
   · have:x≠n:=by rintro rfl;show h v QBq
     simp[this]
theorem ze{a:Str->Option NameKind}:∀{P:X6} {vs:X5} {i:Nat} {m:X3},P.Nodup->P[i]?=some x->vs[i]?=some v->a x=some .local->
  bindL a (P.zip vs) m x=some v
 | [],_,_,_,_,h,_,_=>by simp at h
 |_::_,[],_,_,_,_,h,_=>by simp at h
 | p::P,w::vs,0,m,nd,h1,h2,hk=>by
   simp at h1 h2;subst h1;subst h2
   show bindL a ((p,w)::P.zip vs) m p=_
   unfold bindL
   rw[y8 λv b=>(List.nodup_cons.mp nd).1 (QeQ b).1,Qhq hk]
   simp
 | p::P,w::vs,i+1,m,nd,h1,h2,hk=>by
   show bindL a ((p,w)::P.zip vs) m x=_
   unfold bindL
   show ze (i:=i) (List.nodup_cons.mp nd).2 (by simpa using h1) (by simpa using h2) hk
theorem zh{a:Str->Option NameKind}:∀{P:X6} {vs:X5} {i:Nat} {m:X3},P.Nodup->P[i]?=some x->vs[i]?=some v->a x≠some .local->
  bindC a (P.zip vs) m x=some v
 | [],_,_,_,_,h,_,_=>by simp at h
 |_::_,[],_,_,_,_,h,_=>by simp at h
 | p::P,w::vs,0,m,nd,h1,h2,hk=>by
   simp at h1 h2;subst h1;subst h2
   show bindC a ((p,w)::P.zip vs) m p=_
   unfold bindC
   rw[yI λv b=>(List.nodup_cons.mp nd).1 (QeQ b).1,Quq hk]
   simp
 | p::P,w::vs,i+1,m,nd,h1,h2,hk=>by
   show bindC a ((p,w)::P.zip vs) m x=_
   unfold bindC
   show zh (i:=i) (List.nodup_cons.mp nd).2 (by simpa using h1) (by simpa using h2) hk
noncomputable def start(N:X6)(vs:List V):St:=vs.map some++List.replicate (N.length-vs.length) none
noncomputable def Cm(CX:HD)(P:X9)(w:Xc)(K:X1)(mg:X3)(base:Xe)(N:X6)(b:Str)(a:Scope)(f:X8)(d:Xd)(A:X_)(outer:List Env)(s:X4)(H:Hp)(E:XK):Cx where
 prog:=P
 w:=w
 K:=K
 mg:=mg
 base:=base
 A:=A.deeper (envOfC b a s.heap.objs.size f d)
 N:=N
 s₀:=s
 H₀:=H
 env:=envOfC b a s.heap.objs.size f d
 outer:=outer
 stack:=envOfC b a s.heap.objs.size f d::outer
 ex:= []
 calm:=true
 fn:=λ_=>true
 pn:= []
 xe:=λe g=>wpAny (model P w) (A.deeper<|envOfC b a s.heap.objs.size f d) (leaving (envOfC b a s.heap.objs.size f d) e) (λ_ c=>CX outer H s E e c) (λh c=>CX outer H s E h c) g
def B4{sc:Scope}(h:sc.names.lookup x=some .cell):∃c,(cellsFrom n sc.names []).lookup x=some c:=by
 let q:=PySem.W.cellsFrom_some sc.names n [] (.inl h)
 show Option.isSome_iff_exists.mp q
def Gn{CX:HD}{P:X9}{w:Xc}{K:X1}{L:X3}{m:Xe}{N ps:X6}{j:Str}{d:Scope}{f:X8}{I:Xd}{A:X_}{g:List Env}{s R:X4}{H:Hp}{E:XK}{M:X5}{vs:List V}
  (S:aF N ps d) (U:A.handled=none) (o:KU P w K L m A g s H) (hl:vs.length=ps.length) (r:bN vs M)
  (x:InCallC s s.heap.objs.size (bindL (envOfC j d s.heap.objs.size f I).kindOf (ps.zip M) λ_=>none) (cellsFrom (s.heap.objs.size+1) d.names []) (bindC (envOfC j d s.heap.objs.size f I).kindOf (ps.zip M) λ_=>none) R):
  Inv (Cm CX P w K L m N j d f I A g s H E) [] (start N vs) H R:=by
 have X:ps.length<=N.length:=by have:=congrArg List.length S.pre;rw[Qxq] at this;omega
 let#[G,tk,rfl,hk]:=x.done
 have B:∀b:Addr,b∉(Cm CX P w K L m N j d f I A g s H E).ex:=λb z=>absurd (show b∈([]:List Addr) from z) (by simp)
 show⟨⟨o.mod,S.kind,rfl,rfl,Qmq _,λy z c G l=>?_,λy t=>?_,λy c _ h=>?_,λ_=>U,Around.frames_deeper o.frames,.inr ⟨rfl,rfl⟩,λb z=>absurd z (B b),o.bs,o.bsz,λb _ _=>B b,λb z=>absurd z (B b),o.funs,o.frf⟩,
  rfl,o.bare,Un.kept hk,#[_,x.toInCall.ns,λi y v G l h3=>?_],λy c h=>#[_,x.cell y c h],o.hok.fresh (Qmq _),λy c h=>?_,λp C=>absurd (show p∈([]:List (Addr×Obj)) from C) (by simp),o.hok.kept hk,?_⟩
 ·show name_of_addr x.apart (PySem.mem_of_lookup G)<|PySem.mem_of_lookup l
 ·have t:d.names.lookup y=some .cell\/d.names.lookup y=some .free:=t
  rcases t with t|t
  ·show B4 t
  ·show absurd rfl<|S.nofree _<|PySem.mem_of_lookup t
 ·show nQl<|x.above y c<|PySem.mem_of_lookup h
 ·have J:i<vs.length:=by
   unfold start at l
   by_cases J:i<vs.length
   ·show J
   ·rw[QQq (by simpa using J)] at l
    rw[List.getElem?_replicate] at l
    split at l <;>cases l
  have Z:vs[i]?=some v:=by
   unfold start at l
   rw[QHq (by simpa using J),gQm] at l
   cases e:vs[i]? with
   |none=>rw[e] at l;cases l
   |some a=>rw[e] at l;cases l;rfl
  let#[u,Q,Y]:=r.get Z
  have C:ps[i]?=some y:=by
   rw[<-S.pre,List.getElem?_take_of_lt (!0)];show G
  have F:ps.Nodup:=by rw[<-S.pre];show S.nd.sublist (List.take_sublist _ _)
  show#[u,Y,?_]
  rcases S.par y (mQg C) with k|k
  ·show .inl #[k,ze F C Q k]
  ·let#[c,e]:=B4 (n:=s.heap.objs.size+1) k
   show .inr #[.inl k,c,e,?_]
   let q:=x.cell y c e
   rw[zh F C Q (by show d.names.lookup y≠_;rw[k];decide)] at q
   show q
 ·show o.hok.fresh<|nQl<|x.above y c<|PySem.mem_of_lookup h
 ·unfold start
  show _=N.length
  rw[lQa,lQm,QIq]
  omega
def Pt{K:X1}{dV kV G pm g ct oc:Xd}
    {sp:Sp} (lk:K.lookup f=some #[oc,od,.func (PySem.W.fnOf name d i j a dV kV G pm an g ct),X]) (a0:PySem.W.codeIn K g d=true) (S:aF N ps a)
  (M:∀vs H Q E,sp vs H Q E->vs.length=ps.length)
  (z:∀(A:X_) (c:List Env) (s:X4) (H:Hp) (vs:List V) (Q:VK) (E:XK),gE k (A.deeper (envOfC d a s.heap.objs.size f g))->sp vs H Q E->
   ∃t,vj (Cm CX P w K R h N d a f g A c s H E) j t/\t {nx:=λ_ m=>Q .non m,rt:=Q} (start N vs) H):
  bx P w K R h CX (k+1) f (PySem.W.fnOf name d i j a dV kV G pm an g ct) ps sp:=by
 show#[M,λA c s H a1 us vs Q E hr C hb r L=>?_]
 let hl:=M _ _ _ _ L
 have KX:K.In s.heap:=C.mod.kin.keeps λb o e=>(C.bs b o e).1
 have U:s.heap.NoLimit:=C.mod.nolimit.keeps λb o e=>(C.bs b o e).1
 have p:∀y∈ps.zip us,a.names.lookup y.1=some .local\/(a.names.lookup y.1=some .cell/\((cellsFrom (s.heap.objs.size+1) a.names []).lookup y.1).isSome=true):=λ⟨n,v⟩ hy=>by
  rcases S.par n (QeQ hy).1 with q|q
  ·show .inl q
  ·show .inr #[q,PySem.W.cellsFrom_some _ _ _<|.inl q]
 show codeAny_call_function hr.depth (KX _ _ lk) rfl S.co S.gen rfl (PySem.W.codeRec_of KX a0)<|hb _ _ _ _ ?_
 show wpAny_newFunctionEnv_cells S.kind p λa2 he s1 x=>?_
 subst he
 show#[U.keeps x.toInCall.keep,codeAny_func ?_]
 let#[t,ht,hq]:=z A c s H vs Q E (hr.deeper _) L
 have I:Inv (Cm CX P w K R h N d a f g A c s H E) [] (start N vs) H s1:=Gn S hr.hd C hl r x
 show QRq (ht [] s1 (start N vs) H _ I hq) (λfl Y B=>?_) λe Y B=>B
 have F:∀{l:St} {m:Hp} {v:V} {u:Xd},Inv (Cm CX P w K R h N d a f g A c s H E) [] l m Y->RelV v u->Q v m->CE c P w H s Q u Y:=
  λ{l m v u} J Z q=>#[v,m,J.os,J.bare,J.base,J.hok,Z,q]
 cases fl with
 | ret u=>
   let#[v,l,m,J,Z,q]:=B
   show F J Z q
 | next=>
   let#[l,m,J,q]:=B
   show F (v:=V.non) (u:=Value.none) J rfl q
 | brk=>
   let#[_,_,_,q]:=B
   show False.elim q
 | cont=>
   let#[_,_,_,q]:=B
   show False.elim q
def P0(r:List V->Hp->VK->Prop)(t:TA):TE:=λd H Q=>t d H λc H1=>r c H1 Q
def kI{X:Cx}{x:Str}{p:Pos}{a:Pos}{e:Expr}{b:List Expr}{t:TA}{id:String}{r:List V->Hp->VK->Prop}(m:kM X (.builtin id) r)(i:Gl X x)(q:X.mg x=none)(v:bootBuiltins x=some (.builtin id))(w:PA X (e::b) t)(o:autoParam (x≠"__name__") dL._auto_1)(d:autoParam ((x==("__debug__":Str))=false) dL._auto_1)
  (he:autoParam (starEach (e::b) X.env=(false,eval e X.env)::starEach b X.env) dO._auto_1) (hpl:autoParam ((backTo a<|starEach b X.env).any (·.1)=false) dO._auto_1):PE X (.Call (.Name x p) (e::b) [] a) (P0 r t):=by
 intro c s f H Q I h
 show wpAny_Call_Name_kw<|mV I i q v ?_ o d
 show PyProof.Rows.callWith_builtin1 (di (w a c s f H _ I h) λu n ⟨k,H1,j,g,l⟩=>m c n f H1 k u Q j g l) he hpl
def GW{T:String}(m:kM X (.type T) r)(i:Gl X x)(q:X.mg x=none)(v:bootBuiltins x=some (.type T))(w:PA X (e::b) t)(o:autoParam (x≠"__name__") dL._auto_1)(d:autoParam ((x==("__debug__":Str))=false) dL._auto_1)
  (he:autoParam (starEach (e::b) X.env=(false,eval e X.env)::starEach b X.env) dO._auto_1) (hpl:autoParam ((backTo a<|starEach b X.env).any (·.1)=false) dO._auto_1):PE X (.Call (.Name x p) (e::b) [] a) (P0 r t):=by
 intro c s f H Q I h
 show wpAny_Call_Name_kw<|mV I i q v ?_ o d
 show PyProof.Rows.callWith_type1 (di (w a c s f H _ I h) λu n ⟨k,H1,j,g,l⟩=>m c n f H1 k u Q j g l) he hpl
section
variable{κ:Type}[DecidableEq κ]
noncomputable def sO(a:List (κ×V))(k:κ):Option V:=(a.find? λb=>decide (b.1=k)).map (·.2)
noncomputable def putK(a:List (κ×V))(k:κ)(v:V):List (κ×V):=
 if (a.any λb=>decide (b.1=k))=true then a.map (λb=>if b.1=k then(b.1,v) else b) else a++ [(k,v)]
def wO{p:κ×V}(e:p.1=k):sO (p::r) k=some p.2:=by simp[sO,List.find?_cons,e]
def wm{p:κ×V}(e:¬p.1=k):sO (p::r) k=sO r k:=by simp[sO,List.find?_cons,e]
theorem BG(k:κ):∀a:List (κ×V),(a.any λkv=>decide (kv.1=k))=(sO a k).isSome
 | []=>rfl
 | p::r=>by
   rw[List.any_cons]
   by_cases e:p.1=k
   · erw[wO e,Qeq e,Bool.true_or,Option.isSome_some]
   · rw[wm e,Qdq e,Bool.false_or];show BG k r
def jH(a:List (κ×V))(k:κ)(v:V):(putK a k v).length<=a.length+1:=by
 unfold putK
 split
 ·rw[lQm];omega
 ·rw[lQa,Qnq,QGq];omega
def vM.isSome_eq(r:vM o u):o.isSome=u.isSome:=by
 cases o with
 | none=>cases u with
   |none=>rfl
   |some _=>show(show False from r).elim
 | some _=>cases u with
   |none=>show(show False from r).elim
   |some _=>rfl
def KV.val(r:KV a vs)(k:κ):vM (sO a k) (valueAt vs k):=by
 unfold KV at r
 induction r with
 |nil=>show True.intro
 | @cons p q ps qs h t ih=>
   let#[d,f]:=h
   by_cases e:p.1=k
   · have c:q.1=k:=d.symm.trans e
     have b:valueAt (q::qs) k=some q.2:=by simp[valueAt,List.find?_cons,c]
     rw[wO e,b];show f
   · have c:¬q.1=k:=λz=>e (d.trans z)
     have b:valueAt (q::qs) k=valueAt qs k:=by simp[valueAt,List.find?_cons,c]
     rw[wm e,b];show ih
theorem KV.any(r:KV a vs)(k:κ):(a.any λkv=>decide (kv.1=k))=vs.any λkv=>decide (kv.1=k):=by
 unfold KV at r
 induction r with
 |nil=>rfl
 |cons h t b=>rw[List.any_cons,List.any_cons,b,h.1]
def KV.repl(r:KV a vs)(k:κ)(d:RelV y u):
  KV (a.map λkv=>if kv.1=k then(kv.1,y) else kv) (vs.map λkv=>if kv.1=k then(kv.1,u) else kv):=by
 unfold KV at r|-
 induction r with
 |nil=>show .nil
 | @cons p q ps qs h t ih=>
   rw[QDq,QDq]
   show .cons ?_ ih
   let#[b,c]:=h
   by_cases e:p.1=k
   · rw[Qhq e,Qhq (b.symm.trans e)];show#[b,d]
   · rw[Quq e,Quq (λz=>e<|b.trans z)];show#[b,c]
def KV.put(r:KV a vs)(k:κ)(b:RelV y u):KV (putK a k y) (stored vs k u):=by
 unfold putK stored
 rw[r.any k]
 by_cases e:(vs.any λc=>decide (c.1=k))=true
 ·rw[Qhq e,Qhq e];show r.repl k b
 ·rw[Quq e,Quq e];show Paired.snoc r #[L,b]
def KV.length(r:KV a vs):a.length=vs.length:=Paired.length r
end
def Dr(r:RelV (kV k) u):(cq P w).is k u=true:=by
 cases k with
 |inl i=>let#[t,e]:=(show∃t,u=Value.int i t from r);subst e;show BR P w i t
 |inr x=>let#[t,e]:=(show∃t,u=Value.str x t from r);subst e;show B2 P w x t
theorem y_:∀{a:List Key} {b:X5},bN (a.map kV) b->ItemsAre (cq P w) a b
 | [],_,r=>by rw[List.map_nil] at r;cases r;show .nil
 | k::a,_,r=>by
   rw[QDq] at r
   cases r with
   |cons h t=>show .cons (Dr h) (y_ t)
abbrev KT(H:Hp):List (List Key×V)->List (List Key×Addr×Value)->Prop:=Paired λp q=>p.1=q.1/\H q.2.1=some (.tup (p.1.map kV))/\RelV p.2 q.2.2
def KT.val(r:KT H a xs)(k:List Key):vM (sO a k) ((atKey xs k).map (·.2)):=by
 induction r with
 |nil=>show True.intro
 | @cons p q ps qs h t ih=>
   let#[d,_,f]:=h
   by_cases e:p.1=k
   · have c:q.1=k:=d.symm.trans e
     have b:atKey (q::qs) k=some q.2:=by simp[atKey,List.find?_cons,c]
     rw[wO e,b];show f
   · have c:¬q.1=k:=λz=>e (d.trans z)
     have b:atKey (q::qs) k=atKey qs k:=by simp[atKey,List.find?_cons,c]
     rw[wm e,b];show ih
def KT.repl(r:KT H a xs)(k:List Key)(f:RelV y u):
  KT H (a.map λkv=>if kv.1=k then(kv.1,y) else kv) (xs.map<|putAt k u):=by
 induction r with
 |nil=>show .nil
 | @cons p q ps qs h t ih=>
   rw[QDq,QDq]
   show .cons ?_ ih
   let#[b,c,d]:=h
   unfold putAt
   by_cases e:p.1=k
   · rw[Qhq e,Qhq (b.symm.trans e)];show#[b,c,f]
   · rw[Quq e,Quq (λz=>e<|b.trans z)];show#[b,c,d]
def KT.put(r:KT H a xs)(k:List Key)(f:H b=some (.tup (k.map kV)))(c:RelV y u):
  KT H (putK a k y) (storedH xs k b u):=by
 have e:(a.any λd=>decide (d.1=k))=(atKey xs k).isSome:=by
  rw[BG,(r.val k).isSome_eq,Option.isSome_map]
 unfold putK storedH
 rw[e]
 by_cases q:(atKey xs k).isSome=true
 ·rw[Qhq q,Qhq q];show r.repl k c
 ·rw[Quq q,Quq q];show Paired.snoc r #[L,f,c]
def KT.keeps{H c:Hp}(r:KT H a xs)(ht:∀b ys,H b=some (.tup ys)->c b=some (.tup ys)):KT c a xs:=
 Paired.mapP r λ_ _ z=>#[z.1,ht _ _ z.2.1,z.2.2]
def L9(ok:qO P w H h)(e:Rd H a u):dF P w H h a u:=e.ok ok
def HX(ok:qO P w H h)(e:Rd H a (.dK b)):b.length<=sizeLine/\(a==sysModules)=false/\∃vs,KV b vs/\h.DictOf (cq P w) a vs:=
 show dF P w H h a (.dK b) from L9 ok e
def Fw(ok:qO P w H h)(e:H a=some (.dK b)):b.length<=sizeLine/\(a==sysModules)=false/\∃vs,KV b vs/\h.DictOf (cq P w) a vs:=HX ok (.inl e)
def DY{c:List Key}(ok:qO P w H h)(e:H a=some (.tup (c.map kV))):(tupleKind<|cq P w).is h c a:=by
 let#[_,b,r,o,f,d,_,n,g]:=(show dF P w H h a (.tup (c.map kV)) from ok a _ e)
 show#[o,b.toArray,n,f,d,g,by simpa using y_ r]
def J0(ok:qO P w H h)(e:Rd H a (.dT b)):b.length<=sizeLine/\(a==sysModules)=false∧
  ∃xs,KT H b xs/\h.DictOfH (tupleKind<|cq P w) a xs:=by
 let#[z,y,xs,r,o,k,s,i,f,n,g,j]:=(show dF P w H h a (.dT b) from L9 ok e)
 show#[z,y,xs,r,o,k,s,i,f,n,g,λx c=>?_,j]
 have d:∀{l:List (List Key×V)} {m:List (List Key×Addr×Value)},KT H l m->∀x∈m,(tupleKind<|cq P w).is h x.1 x.2.1:=by
  intro l m q
  induction q with
  |nil=>intro x c;show nomatch c
  | @cons p q ps qs hq t ih=>
    intro x c
    rcases Qsq.mp c with e|c
    · subst e
      show DY ok (by rw[<-hq.1];show hq.2.1)
    · show ih x c
 show d r x c
def Pu(ok:qO P w H h)(e:H a=some (.dT b)):b.length<=sizeLine/\(a==sysModules)=false∧
  ∃xs,KT H b xs/\h.DictOfH (tupleKind<|cq P w) a xs:=J0 ok (.inl e)
def G8(H:Hp)(a:X8)(y:V)(r:Option V):Prop:=
 (∃c k,Rd H a (.dK c)/\y=kV k/\r=sO c k)\/∃c k b,Rd H a (.dT c)/\y=.ref b/\H b=some (.tup (k.map kV))/\r=sO c k
def Ir(H:Hp)(a:X8)(y v:V)(d:Hp):Prop:=
 (∃c k,H a=some (.dK c)/\y=kV k/\c.length<sizeLine/\d=upd H a (.dK (putK c k v)))∨
 ∃c k b,H a=some (.dT c)/\y=.ref b/\H b=some (.tup (k.map kV))/\c.length<sizeLine/\d=upd H a (.dT (putK c k v))
def G8.k{H:Hp}{a:X8}{b:List (Key×V)}{k:Key}(e:H a=some (.dK b)):G8 H a (kV k) (sO b k):=.inl #[b,k,.inl e,L,L]
def Ir.k{H:Hp}{a:X8}{b:List (Key×V)}{k:Key}{v:V}(e:H a=some (.dK b))(c:b.length<sizeLine):Ir H a (kV k) v (upd H a<|.dK (putK b k v)):=.inl #[b,k,e,L,c,L]
def Inv.big(I:Inv X d f H s):sysModules<s.heap.objs.size:=by
 have h:mainGlobals<s.heap.objs.size:=(I.mod.glob.keeps I.bk).lt
 show Nat.lt_trans (!1) h
def Ho{A:X_}{E:X0}{Q:X0}(M:A.units+1<cLine)(I:Inv X d f H s)(g:G8 H a y (some v))(C:RelV y u)(h:∀j B,Inv X d f H B->RelV v j->Q j B):
  wpAny (model X.prog X.w) A (getItem (.ref a) u) Q E s:=by
 rcases g with⟨m,k,e,x,l⟩|⟨m,k,b,e,x,J,l⟩
 ·subst x
  let#[z,F,G,i,t]:=HX I.hok e
  let#[j,q,c]:=vM.some_of (v:=v) (o:=valueAt G k) (by rw[l];show i.val k)
  show wpAny_getItem_of (Dr C) t.mapOf q<|h j _ (I.tok _) c
 ·subst x
  cases (show u=Value.ref b from C)
  let#[z,F,L,i,t]:=J0 I.hok e
  let#[j,q,c]:=vM.some_of (v:=v) (o:=(atKey L k).map (·.2)) (by rw[l];show i.val k)
  let#[p,K,n]:=oQm.mp q
  show wpAny_getItem_heap (tupleKind_room_in1 M) (DY I.hok J) t K ?_
  rw[n]
  show h j _ (I.tok _) c
def vJ(I:Inv X d f H s)(j:Pe (H a))(i:Heap.SameBut a s.heap h')(he:∃q,h'.get? a=some q)(c:dF X.prog X.w (upd H a g) h' a g):
  Inv X d f (upd H a g) {s with heap:=h',toks:=t'}:=
 I.write (x:=a) (e:=a) j (.inl L) (λb q h z=>(i.2 b h).trans z) he c
def wx{h':Xe}{b:List (Key×V)}(z:b.length<=sizeLine)(e:(a==sysModules)=false)(c:KV b vs)(h:h'.DictOf (cq P w) a vs):
  dF P w g h' a (.dK b):=#[z,e,vs,c,h]
def Hz{X:Cx}{d:X2}{f:St}{H:Hp}{s:X4}{a:X8}{y:V}{v:V}{u:Xd}{r:Xd}{A:X_}{E:X0}{R:Hp}{Q:Unit->Shared->Prop}(hu:A.units+1<cLine)(I:Inv X d f H s)(g:Ir H a y v R)(P:RelV y u)(N:RelV v r)(h:∀J,Inv X d f R J->Q () J):
  wpAny (model X.prog X.w) A (setItem (.ref a) u r) Q E s:=by
 rcases g with⟨i,k,e,G,l,t⟩|⟨i,k,b,e,G,M,l,t⟩
 ·subst G t
  let#[z,p,U,j,F]:=Fw I.hok e
  have x:U.length<=sizeLine:=by rw[<-j.length];show z
  have B:(putK i k v).length<=sizeLine:=by have:=jH i k v;omega
  show wpAny_setItem_pairs (hsz:=x) (Dr P) F λL m C=>h _ ?_
  have he:∃q,L.get? a=some q:=let ⟨q,_,_,n,_⟩:=m;#[q,n]
  show vJ I (by rw[e];show True.intro) C he<|wx B p (j.put k N) m
 ·subst G t
  cases (show u=Value.ref b from P)
  let#[z,p,Z,j,F]:=Pu I.hok e
  have x:Z.length<=sizeLine:=by rw[<-Paired.length j];show z
  have B:(putK i k v).length<=sizeLine:=by have:=jH i k v;omega
  show wpAny_setItem_heap (hsz:=x) (tupleKind_room_in1 hu) (DY I.hok M) F λL m C=>h _ ?_
  let#[q,es,ep,n,S,h3,W,_,Y]:=m
  show vJ I (by rw[e];show True.intro) C #[q,n] #[B,p,_,(j.put k M N).keeps λc ys K=>?_,q,es,ep,n,S,h3,W,Y]
  rw[bF (Im K e (λz=>nomatch z))]
  show K
def LM(i:Expr):Prop:=∀b a,subscripted i false b a=operate [b,a] (getItem b a)
def Gb{E:X0}{T id:String}
  (n:typeLookup (.type T) "__getitem__"=pure (some<|.builtin id)) (p:LM a)
  (h:wpAny (model prog w) A (eval b env) (λo f=>wpAny (model prog w) A (eval a env) (λi c=>c.TypeIs o T/\wpAny (model prog w) A (getItem o i) Q E c) E f) E s):
  wpAny (model prog w) A (eval (.Subscript b a l) env) Q E s:=by
 show Subscript_ (QRq h (λo f j=>QRq j (λi c d=>?_) λ_ _ x=>x) λ_ _ x=>x)
 let#[m,d]:=d
 unfold subscriptTail
 show Qaq ?_
 rw[getitemInPython_of_ne m.not_modules]
 show Qaq<|wpAny_specialOf m n ?_
 have g:wpAny (model prog w) A (subscripted a false o i) (λr e=>wpAny (model prog w) A (letTemporaryGo b o r >>= λ_=>pure r) Q E e) E c:=by
  rw[p o i]
  show wpAny_operating (QRq d (λr e k=>Qaq<|wpAny_letTemporaryGo<|Qgq k) λ_ _ x=>x)
 first
  |show Qgq (Qaq g)
  |show Qaq (Qgq<|Qaq g)
  |show Qaq g
def Bu(I:Inv X c h H s)(g:G8 H a y o):s.TypeIs (.ref a) "dict":=by
 rcases g with⟨d,k,e,_,_⟩|⟨d,k,b,e,_,_,_⟩
 ·let#[_,_,i,_,f]:=HX I.hok e
  show f.typeIs
 ·let#[_,_,j,_,f]:=J0 I.hok e
  show f.typeIs
def OZ(c d:TE):TE:=λb H Q=>c b H λx H1=>d b H1 λy H2=>∃a v,x=.ref a/\G8 H2 a y (some v)/\Q v H2
def Oj(d e c:TE):TS:=λD b H=>c b H λv H1=>d b H1 λx H2=>e b H2 λy H3=>∃a H4,x=.ref a/\Ir H3 a y v H4/\D.nx b H4
def Lo{X:Cx}(C:X.A.units+1<cLine)(B:PE X o f)(hi:PE X i j)(K:LM i):PE X (.Subscript o i d) (OZ f j):=by
 intro m s q H Q I h
 show Gb PySem.F.slot_dict_getitem.lookup K (di (B m s q H _ I h) λu G ⟨x,H1,t,J,z⟩=>di (hi m G q H1 _ t z) λU R L=>?_)
 let#[y,H2,p,M,a,v,r,g,N]:=L
 subst r
 obtain rfl:u=Value.ref a:=J
 show#[Bu p g,Ho C p g M λP S w n=>#[v,H2,w,n,N]]
def KE{X:Cx}{d:Pos}(K:X.A.units+1<cLine)(J:PE X o f)(hi:PE X i j)(Q:PE X b k)(N:swapsWith b (some<|.Subscript o i c) d.line X.env=pure false):
  PS X (.Assign [.Subscript o i c] b d) (Oj f j k):=by
 intro m s n H D I h
 show wpAny_Assign_Subscript (di (Q m s n H _ I h) λr L ⟨v,H1,t,G,B⟩=>di (J m L n H1 _ t B) λu z ⟨x,H2,F,M,R⟩=>di (hi m z n H2 _ F R) λW U ⟨y,H3,w,P,a,H4,p,g,C⟩=>?_) N
 subst p
 obtain rfl:u=Value.ref a:=M
 show Hz K w g P G λS q=>#[n,H4,q,C]
def JC(h:Xe)(a:sysModules<h.objs.size):dF P w H (h.push {cls:=.type "dict",data:=.dict (List.toArray [])}) h.objs.size (.dK []):=
 #[Nat.zero_le _,beq_eq_false_iff_ne.mpr<|Ne.symm<|Qwq a,[],.nil,Heap.DictOf.new h]
def MG:TE:=λ_ H Q=>∀p,H p=none->Q (.ref p) (upd H p<|.dK [])
def IC:PE X (.Dict [] [] b) MG:=λc s d H Q I h=>
 wpAny_Dict_empty #[.ref s.heap.objs.size,_,I.laid (a:=s.heap.objs.size) (o:=.dK []) (t':=s.toks) (λ_ _ q=>Qcq _ q) (Qmq _)<|JC s.heap I.big,L,h _<|I.hok.fresh<|Qmq _]
noncomputable def lD(a more:List (Key×V)):List (Key×V):=more.foldl (λb c=>putK b c.1 c.2) a
def KV.merge:∀{more:List (Key×V)} {rs:List (Key×Value)} {a:List (Key×V)} {vs:List (Key×Value)},KV more rs->KV a vs->KV (lD a more) (merged vs rs):=by
 intro more rs a vs r
 unfold KV at r
 induction r generalizing a vs with
 |nil=>intro q;show q
 | @cons p q ps qs h t ih=>
   intro b
   have e:KV (putK a p.1 p.2) (stored vs q.1 q.2):=by
     have:=b.put p.1 h.2
     rw[<-h.1];show this
   show ih e
theorem j0:∀(more a:List (Key×V)),(lD a more).length<=a.length+more.length
 | [],a=>by show a.length<=a.length+0;omega
 | p::r,a=>by
   let c:=j0 r (putK a p.1 p.2)
   let b:=jH a p.1 p.2
   show(lD (putK a p.1 p.2) r).length<=_
   rw[Qnq];omega
end L2
namespace HT
open PySem PyProof.Rows
section
open PySem.SeqAt
open PySem.AutoSeq1 (wpAny_loadPart')
open PySem.MeetsSeq PySem.MeetsSeq2 PySem.MeetsSeq3
end
def Kn{E:X0}{s:X4}{vs ws:X5}{Q:X0}(ht:IsTup s.heap t vs.toArray)(v:IsTup s.heap b ws.toArray)(p:vs≠[])
  (x:ws= []->Q (.ref t) s) (u:ws≠[]->Q (.ref s.heap.objs.size) {s with heap:=s.heap.push {cls:=.type "tuple",data:=.seq (vs++ws).toArray}})
  (hsz:vs.length+ws.length<=sizeLine):wpAny (model prog w) A (binaryOp .Add (.ref t)<|.ref b) Q E s:=by
 let#[#[cls,o,data,l],i,r,n,k]:=id ht
 let#[#[m,d,j,g],a,f,q,c]:=id v
 simp only at r k f c
 subst r k f c
 have e:vs.toArray++ws.toArray=(vs++ws).toArray:=by simp
 by_cases h:ws= []
 ·show concat_meets #[_,i,L] #[_,a,L] noFill_tuple_add seq_tuple_add PySem.F.slot_tuple_add PySem.F.entry_tuple_add (PySem.F.args_tuple_add_2 _ _)
   (tuple_addW1 t b vs.toArray ws.toArray n q o d l g (by simpa using p) (by simp[h])) #[i,a,x h]
 ·show concat_meets #[_,i,L] #[_,a,L] noFill_tuple_add seq_tuple_add PySem.F.slot_tuple_add PySem.F.entry_tuple_add (PySem.F.args_tuple_add_2 _ _)
   (tuple_addW2 t b vs.toArray ws.toArray n q o d l g (by simpa using p) (by simpa using h) (by rw[Qjq,Qjq];show hsz)) #[i,a,?_]
  rw[e]
  show u h
noncomputable def ft(n d:Nat):Option Int->Nat
 |none=>d
 |some v=>if v<0 then(v+(n:Int)).toNat else min v.toNat n
def xi(n d:Nat):ft n d none=d:=rfl
def Fg(n d k:Nat):ft n d (some (k:Int))=min k n:=by
 show(if (k:Int)<0 then((k:Int)+(n:Int)).toNat else min (k:Int).toNat n)=min k n
 rw[Quq (!0),Int.toNat_natCast]
def Nm(n d:Nat)(b:d<=n)(o:Xb):ft n d o<=n:=by
 cases o with
 |none=>show b
 | some v=>
   show(if v<0 then(v+(n:Int)).toNat else min v.toNat n)<=n
   by_cases a:v<0
   · rw[Qhq a];omega
   · rw[Quq a];show Nat.min_le_right _ _
def F2(v:Int)(n d:Nat):(if v<0 then max (v+(n:Int)) 0 else min v (n:Int))=((ft n d (some v):Nat):Int):=by
 show(if v<0 then max (v+(n:Int)) 0 else min v (n:Int))=(((if v<0 then(v+(n:Int)).toNat else min v.toNat n):Nat):Int)
 by_cases a:v<0
 ·erw[Qhq a];omega
 ·erw[Quq a];omega
def EK(lo hi:Xb)(n:Nat):Builtin.Slice.sliceAdjust lo hi 1 (n:Int)=(((ft n 0 lo:Nat):Int),((ft n n hi:Nat):Int)):=by
 have a:¬((1:Int)<0):=by omega
 unfold Builtin.Slice.sliceAdjust
 erw[a,if_false]
 show Prod.ext ?_ ?_
 ·cases lo with
  |none=>rfl
  |some v=>show F2 v n 0
 ·cases hi with
  |none=>rfl
  |some v=>show F2 v n n
def DZ(i j:Nat):Builtin.Slice.slicePlaces (i:Int) (j:Int) 1=j-i:=by
 unfold Builtin.Slice.slicePlaces
 have a:(1:Int)>0:=by omega
 erw[a,if_true,Int.ediv_one]
 split <;>omega
def wM{E:X0}{Q:Option Int->Shared->Prop}(p:IsPart v o)(h:Q o s):wpAny (model prog w) A (Builtin.Slice.slicePartIndex v) Q E s:=by
 cases p with
 |none=>show slicePart_none h
 |int i t=>show slicePart_int h
def ku{prog:X9}{w:Xc}{A:X_}{E:X0}{s:X4}{e:X8}{d c:Xd}{lo hi:Xb}{n:Nat}{Q:Int×Int×Nat->Shared->Prop}(j:s.heap.IsSliceOf e d c .none)(f:IsPart d lo)(g:IsPart c hi)
  (h:Q (((ft n 0 lo:Nat):Int),1,ft n n hi-ft n 0 lo) s):wpAny (model prog w) A (Builtin.Slice.sliceApplied (.ref e)<|pure (n:Int)) Q E s:=by
 let#[k,a,i,b]:=id j
 unfold Builtin.Slice.sliceApplied Builtin.Slice.sliceFields
 show Qaq<|Qaq<|QMq a b (x:=d) L<|Qaq<|QMq a b (x:=c) L<|Qaq<|QMq a b (x:=.none) L<|Qgq ?_
 show Qaq<|slicePart_none ?_
 show wpAny _ _ (if ((1:Int)==0)=true then _ else _) _ _ s
 rw[Quq (!1)]
 show Qaq<|wM f<|Qaq<|wM g<|Qaq<|Qgq ?_
 show wpAny _ _ (match Builtin.Slice.sliceAdjust lo hi 1 (n:Int) with|(lo,hi)=>pure (lo,(1:Int),Builtin.Slice.slicePlaces lo hi 1)) _ _ s
 rw[EK lo hi n]
 show wpAny _ _ (pure (((ft n 0 lo:Nat):Int),(1:Int),Builtin.Slice.slicePlaces ((ft n 0 lo:Nat):Int) ((ft n n hi:Nat):Int) 1)) _ _ s
 rw[DZ]
 show Qgq h
def JV(xs:Xa)(i k:Nat):((List.range k).filterMap λ(m:Nat)=>xs[((i:Int)+(m:Int)*1).toNat]?).toArray=((xs.toList.drop i).take k).toArray:=by
 have e:(λ(m:Nat)=>xs[((i:Int)+(m:Int)*1).toNat]?)=λm=>xs[i+m]? :=by
  funext m
  have:((i:Int)+(m:Int)*1).toNat=i+m:=by omega
  rw[this]
 rw[e]
 have:=pick_run xs i k
 rw[List.filterMap_map] at this
 have a:((λx=>xs[x]?)∘λx=>i+x)=λm=>xs[i+m]? :=rfl
 rw[a] at this
 rw[this]
def rB{prog:X9}{w:Xc}{A:X_}{E:X0}{s:X4}{t c:X8}{items:Xa}{i g:Xd}{lo hi:Xb}{Q:X0}(ht:IsTup s.heap t items)(j:s.heap.IsSliceOf c i g .none)(o:IsPart i lo)(p:IsPart g hi)
  (n:¬(ft items.size 0 lo=0/\ft items.size items.size hi=items.size))
  (h:Q (.ref s.heap.objs.size) {s with heap:=s.heap.push {cls:=.type "tuple",data:=.seq ((items.toList.drop<|ft items.size 0 lo).take (ft items.size items.size hi-ft items.size 0 lo)).toArray}})
  (hsz:items.size<=sizeLine):wpAny (model prog w) A (getItem (.ref t)<|.ref c) Q E s:=by
 have a:sizeOk (.seq ((items.toList.drop<|ft items.size 0 lo).take (ft items.size items.size hi-ft items.size 0 lo)).toArray):=by
  show((items.toList.drop<|ft items.size 0 lo).take (ft items.size items.size hi-ft items.size 0 lo)).toArray.size<=sizeLine
  rw[Qjq,Qxq,List.length_drop,Array.length_toList]
  omega
 have u:ft items.size items.size hi<=items.size:=Nm _ _ (Qmq _) hi
 let#[l,e,d,k]:=id j
 have f:s.TypeIs (.ref c) "slice":=#[l,e,d]
 unfold getItem
 try with_reducible show QLq ?_
 first|show Qaq (Qgq ?_)|skip
 show Qaq<|wpAny_sequenceKey ht.typeIs (!1) ?_
 show Qaq (QiQ (name:=Str.ofString "__getitem__") ht.typeIs PyProof.Rows.slot_tuple_getitem
  (wpAny_call_entry PyProof.Rows.slot_tuple_getitem ht.typeIs entry_tuple_getitem ?_ (args_tuple_getitem _ _)))
 show wpAny _ _ (Builtin.Tuple.tupleItemsOf (.ref t) >>= _) _ _ s
 show Qaq<|tupleItemsOf_ ht ?_
 show Qaq<|wpAny_typeOf f ?_
 rw[Qhq (!1)]
 show Qaq<|ku j o p ?_
 have b:¬((((ft items.size 0 lo:Nat):Int)==0&&(1:Int)==1&&(ft items.size items.size hi-ft items.size 0 lo)==items.size)=true):=by
  intro q
  rw[QCq,QCq] at q
  have r:((ft items.size 0 lo:Nat):Int)=0:=eq_of_beq q.1.1
  have v:ft items.size items.size hi-ft items.size 0 lo=items.size:=eq_of_beq q.2
  show n #[by omega,by omega]
 show wpAny _ _ (if (((ft items.size 0 lo:Nat):Int)==0&&(1:Int)==1&&(ft items.size items.size hi-ft items.size 0 lo)==items.size)=true then _ else _) _ _ s
 rw[Quq b,JV]
 first
  |show Qaq (m:=Builtin.Tuple.tupleExact _) (QhQ (Qgq #[_,L,Qgq h]) a)
  |show Qaq (m:=Builtin.Tuple.tupleExact _) (QhQ (Qaq<|Qgq<|Qgq #[_,L,Qgq h]) a)
  |show Qaq (Qaq (m:=Builtin.Tuple.tupleExact _)<|QhQ (Qgq<|Qgq #[_,L,Qgq h]) a)
  |show Qaq (Qaq (m:=Builtin.Tuple.tupleExact _)<|QhQ (Qgq #[_,L,Qgq h]) a)
end HT
namespace L2
open PyProof.Rows
abbrev TO:=St->Hp->(Option Int->Hp->Prop)->Prop
def PO(X:Cx)(e:Option Expr)(t:TO):Prop:=
 ∀ (a:X2) (s:X4) (b:St) (H:Hp) (Q:Option Int->Hp->Prop),Inv X a b H s->t b H Q->
   wpAny (model X.prog X.w) X.A (evalPart e X.env) (λu d=>∃o c,Inv X a b c d/\IsPart u o/\Q o c) X.xe s
def Kx:TO:=λ_ H Q=>Q none H
def PP(t:TE):TO:=λa H Q=>t a H λx H1=>∃i,x=.int i/\Q (some i) H1
def Le:PO X none Kx:=by
 intro a s b H Q I h
 rw[evalPart_none]
 show Qgq #[none,H,I,.none,h]
def Kr(h:PE X e c):PO X (some e) (PP c):=by
 intro a s n H Q I b
 rw[evalPart_some]
 show di (h a s n H _ I b) λu o m=>?_
 let#[x,H1,l,j,k]:=m
 let#[i,rfl,q]:=k
 let#[t,rfl]:=j
 show#[some i,H1,l,.int i t,q]
def P6(X:Cx)(r:V->Option Int->Option Int->Hp->VK->Prop):Prop:=
 ∀ (a:X2) (s:X4) (j:St) (H:Hp) (x:V) (v i h:Xd) (lo hi:Xb) (b:X8) (Q:VK),Inv X a j H s->RelV x v->s.heap.IsSliceOf b i h .none->IsPart i lo->IsPart h hi->r x lo hi H Q->
   ∃T id,typeLookup (.type T) "__getitem__"=pure (some<|.builtin id)/\s.TypeIs v T/\wpAny (model X.prog X.w) X.A (getItem v<|.ref b) (EP X a j Q) X.xe s
def Ss(r:V->Option Int->Option Int->Hp->VK->Prop)(c:TE)(d th:TO):TE:=λa H Q=>c a H λx H1=>d a H1 λl H2=>th a H2 λu H3=>r x l u H3 Q
def Ct{X:Cx}{e:Expr}{c:TE}{lo:Option Expr}{hi:Option Expr}{d:TO}{th:TO}{g:Pos}{f:Pos}{r:V->Option Int->Option Int->Hp->VK->Prop}(J:P6 X r)(he:PE X e c)(G:PO X lo d)(M:PO X hi th):PE X (.Subscript e (.Slice lo hi none f) g) (Ss r c d th):=by
 intro a s j H Q I h
 show Subscript_ (di (he a s j H _ I h) λv N n=>?_)
 let#[x,H1,t,o,B]:=n
 show wpAny_Slice (di (G a N j H1 _ t B) λm z ⟨l,H2,F,K,P⟩=>di (M a z j H2 _ F P) λk i n=>?_)
 let#[u,H3,y,L,C]:=n
 rw[evalPart_none]
 show Qgq ?_
 have p:Inv X a j H3 {i with heap:=i.heap.push {cls:=.type "slice",data:=.fields (List.toArray [m,k,.none])}}:=y.kept (t':=i.toks) λb R q=>Qcq _ q
 let#[T,id,hT,ht,hg]:=J a {i with heap:=i.heap.push {cls:=.type "slice",data:=.fields (List.toArray [m,k,.none])}} j H3 x v m k l u i.heap.objs.size Q p o (Heap.IsSliceOf.new ..) K L C
 show wpAny (model X.prog X.w) X.A (subscriptTail e (.Slice lo hi none f) v<|.ref i.heap.objs.size) (EP X a j Q) X.xe {i with heap:=i.heap.push {cls:=.type "slice",data:=.fields (List.toArray [m,k,.none])}}
 show tail_any (ops:= [.ref i.heap.objs.size,v]) ht hT hg (by with_unfolding_all rfl)
noncomputable def A2(xs:List V)(lo hi:Xb):List V:=(xs.drop<|HT.ft xs.length 0 lo).take (HT.ft xs.length xs.length hi-HT.ft xs.length 0 lo)
def uz(xs:List V)(lo hi:Xb):(A2 xs lo hi).length<=xs.length:=by
 unfold A2
 rw[Qxq,List.length_drop]
 omega
def QG(K:X1):V->Option Int->Option Int->Hp->VK->Prop:=λx lo hi H Q=>∃a b,x=.ref a/\jM K H a b∧
 ¬(HT.ft b.length 0 lo=0/\HT.ft b.length b.length hi=b.length)/\∀p,H p=none->Q (.ref p) (upd H p<|.tup (A2 b lo hi))
def Mz:P6 X (QG X.K):=by
 intro n s C H x v B y lo hi z Q I u w p t h
 let#[a,j,rfl,hx,hw,q]:=h
 cases u
 let#[k,r,l,m]:=I.tuple hx
 have i:k.toArray.size=j.length:=by rw[Qjq];show r.length.symm
 show#["tuple",_,PyProof.Rows.slot_tuple_getitem.lookup,l.typeIs,?_]
 show HT.rB l w p t (by rw[i];show hw) ?_ (by rw[i];show m)
 rw[i]
 show#[.ref s.heap.objs.size,_,I.laid (t':=s.toks) (o:=.tup (A2 j lo hi)) (λb A q=>Qcq _ q) (Qmq _) ?_,L,q _<|I.hok.fresh<|Qmq _]
 show#[QAq (uz j lo hi) m,_,(r.drop<|HT.ft j.length 0 lo).take (HT.ft j.length j.length hi-HT.ft j.length 0 lo),CB.new _ _]
def Me(K:X1):R2:=λx y H Q=>∃a b i h,x=.ref a/\y=.ref b/\jM K H a i/\jM K H b h/\i≠[]/\i.length+h.length<=sizeLine∧
 (h= []->Q (.ref a) H)/\(h≠[]->∀p,H p=none->Q (.ref p) (upd H p<|.tup (i++h)))
def bN.nil_iff(r:bN xs a):a= []↔xs= []:=by
 cases r with
 |nil=>simp
 |cons _ _=>simp
def Kw:mG X (binaryOp .Add) (Me X.K):=by
 intro k s C H x y v u Q I r t h
 let#[a,b,p,A,rfl,rfl,ha,hb,hx,hz,q1,q2]:=h
 cases r
 cases t
 let#[m,j,n,_]:=I.tuple ha
 let#[l,i,f,_]:=I.tuple hb
 show HT.Kn n f (λz=>hx<|j.nil_iff.mp z) (λz=>#[.ref a,H,I,L,q1<|i.nil_iff.mp z]) (λz=>?_) (by rw[<-j.length,<-i.length];show hz)
 show#[.ref s.heap.objs.size,_,I.laid (t':=s.toks) (o:=.tup (p++A)) (λb B q=>Qcq _ q) (Qmq _) ?_,L,q2 (λw=>z<|i.nil_iff.mpr w) _<|I.hok.fresh<|Qmq _]
 show#[by rw[lQa];show hz,_,j.append i,CB.new _ _]
noncomputable def Ef(n:Nat)(i:Int):Option Nat:=if 0<=i then(if i<n then some i.toNat else none) else if -(n:Int)<=i then some (i+n).toNat else none
noncomputable def kq(xs:List α)(i:Int):Option α:=(Ef xs.length i).bind λj=>xs[j]?
def Bm(h:Ef n i=some j):seqIndex? i n=some j/\j<n/\ -(n:Int)<=i/\i<n:=by
 unfold Ef at h
 by_cases b:0<=i
 ·rw[Qhq b] at h
  by_cases a:i<n
  ·rw[Qhq a] at h
   have e:i.toNat=j:=QdQ h
   show#[by rw[seqIndex_of b a,e],by omega,by omega,a]
  ·rw[Quq a] at h;cases h
 ·rw[Quq b] at h
  by_cases a: -(n:Int)<=i
  ·rw[Qhq a] at h
   have e:(i+n).toNat=j:=QdQ h
   show#[by rw[seqIndex_neg (!0) a,e],by omega,a,by omega]
  ·rw[Quq a] at h;cases h
def AE(h:kq xs i=some v):∃j,seqIndex? i xs.length=some j/\xs[j]?=some v/\j<xs.length/\ -(xs.length:Int)<=i/\i<xs.length:=by
 unfold kq at h
 cases e:Ef xs.length i with
 |none=>rw[e] at h;cases h
 | some j=>
   rw[e] at h
   let#[c,a,d,b]:=Bm e
   show#[j,c,h,a,d,b]
def FO(b:Expr):Prop:=∀o i,subscripted b false o i=operate [o,i] (getItem o i)
def Km(X:Cx)(r:R2):Prop:=
 ∀ (c a:Expr) (b:X2) (s:X4) (d:St) (H:Hp) (x y:V) (v u:Xd) (Q:VK),Inv X b d H s->RelV x v->RelV y u->r x y H Q->
   subscripted a false v u=operate [v,u] (getItem v u)->wpAny (model X.prog X.w) X.A (subscriptTail c a v u) (EP X b d Q) X.xe s
def P_(X:Cx)(id:String)(r:V->List V->Hp->VK->Prop):Prop:=
 ∀ (a:X2) (s:X4) (d:St) (H:Hp) (x:V) (c:List V) (v:Xd) (b:X5) (Q:VK),Inv X a d H s->RelV x v->bN c b->r x c H Q->
   wpAny (model X.prog X.w) X.A (call (.builtin id) (v::b)) (EP X a d Q) X.xe s
def Km.or(h:Km X r)(h':Km X r'):Km X (λx y H Q=>r x y H Q\/r' x y H Q):=by
 intro d c e s j H x y v u Q I f i q g
 rcases q with q|q
 ·show h d c e s j H x y v u Q I f i q g
 ·show h' d c e s j H x y v u Q I f i q g
def OD(g:Km X r)(m:PE X a G)(d:PE X b F)(j:FO b):PE X (.Subscript a b C) (Ki r G F):=by
 intro c s l H Q I h
 show Subscript_ (Ni m d I h λv u e x y H2 f i k q=>g a b c e l H2 x y v u Q f i k q<|j _ _)
def OK(K:X1):R2:=λx y H Q=>∃p c i v,x=.ref p/\y=.int i/\jm K H p c/\kq c i=some v/\Q v H
def Oz(K:X1):R2:=λx y H Q=>∃p c i v,x=.ref p/\y=.int i/\jM K H p c/\kq c i=some v/\Q v H
def N6:R2:=λx y H Q=>∃z i c,x=.str z/\y=.int i/\z.length<=sizeLine/\kq z.cps.toList i=some c/\Q (.str #[(List.toArray [c])]) H
def LC:Km X (OK X.K):=by
 intro g f c s J H x y v u Q I S U h B
 let#[p,Y,i,z,rfl,rfl,hq,he,q]:=h
 cases S
 let#[t,rfl]:=U
 let#[l,r,m,W]:=I.list hq
 let#[j,e,M,Z,N,P]:=AE he
 let#[w,A,k]:=r.get M
 let R:=r.length
 let hn:=mH
 have d:EP X c J Q w s:=#[z,H,I,k,q]
 by_cases o:0<=i
 ·have n:i.toNat=j:=by
   rw[seqIndex_of o P] at e
   show QdQ e
  show item_listR m.isList o (!0) (by rw[n];simpa using A) d B
 ·have n:(i+(l.toArray.size:Int)).toNat=j:=by
   rw[seqIndex_neg (!0) N] at e
   rw[Qjq,<-R]
   show QdQ e
  show subscriptTail_builtinR (x:=w) m.isList.typeIs slot_list_getitem.lookup
   (wpAny_getItem_list_neg (Q:=λr L=>r=w/\EP X c J Q r L) m.isList (!0) (by rw[Qjq] <;>omega) (!0) (by rw[n];simpa using A) #[rfl,d]) B
def MP:Km X (Oz X.K):=by
 intro e d c s l H x y v u Q I L N h M
 let#[p,U,i,z,rfl,rfl,hq,he,q]:=h
 cases L
 let#[t,rfl]:=N
 let#[o,r,k,S]:=I.tuple hq
 let#[j,A,n,W,P,R]:=AE he
 let#[w,B,g]:=r.get n
 let J:=r.length
 let Y:=mH
 have f:EP X c l Q w s:=#[z,H,I,g,q]
 show subscriptTail_builtinR (x:=w) k.typeIs slot_tuple_getitem.lookup
  (getItem_tuple (j:=j) (Q:=λr m=>r=w/\EP X c l Q r m) k (!0) (!0) (by rw[Qjq,<-J];show A) (by simpa using B) #[rfl,f]) M
def M5:Km X N6:=by
 intro e d g s K H x y v u Q I p w h r
 let#[z,i,c,rfl,rfl,hz,he,q]:=h
 let#[t,rfl]:=p
 let#[B,rfl]:=w
 let#[j,f,k,J,l,m]:=AE he
 have o:z.cps.toList.length=z.length:=by simp[Str.length]
 rw[o] at f l m
 let L:=mH
 show tail_any (typeIs_str s z t) slot_str_getitem.lookup (getItem_str (c:=c) (by
  have A:decide (i< -(2^63:Int))=false:=Qdq (!0)
  have n:decide (i>=2^63)=false:=Qdq (!0)
  rw[A,n,Bool.or_false]) (by rw[f];simpa using k) #[.str #[(List.toArray [c])],H,I.tok _,#[_,rfl],q]) r
def Rv(K:X1):R2:=λx y H Q=>OK K x y H Q\/Oz K x y H Q\/N6 x y H Q
def NR:Km X (Rv X.K):=LC.or (MP.or M5)
def Ee(c:X5)(n j:Nat)(u:Xd):Obj.mapSeq (·.setIfInBounds j u) {cls:=.type "list",data:=.seq c.toArray n}={cls:=.type "list",data:=.seq (c.set j u).toArray n}:=by
 simp[Obj.mapSeq]
def Inv.lst(I:Inv X d f H s)(h:H p=some (.lst xs)):
  ∃(c:X5) (n:Nat),bN xs c/\s.heap.get? p=some {cls:=.type "list",data:=.seq c.toArray n}/\xs.length<=sizeLine:=by
 let#[z,c,n,r,e]:=I.hok p _ h
 show#[c,n,r,e,z]
def Inv.lstUpd{d its':X5}(I:Inv X c j H s)(h:H p=some (.lst xs))
  (l:s.heap.get? p=some {cls:=.type "list",data:=.seq d.toArray n}) (i:f {cls:=.type "list",data:=.seq d.toArray n}={cls:=.type "list",data:=.seq its'.toArray g}) (r:bN ys its') (hz:ys.length<=sizeLine) (t:Nat):
  Inv X c j (upd H p<|.lst ys) {s with heap:=s.heap.update p f,toks:=t}:=by
 have e:(s.heap.update p f).get? p=some {cls:=.type "list",data:=.seq its'.toArray g}:=by
  rw[Heap.get?_update_self f l (by rw[i] <;>rfl),i]
 show I.write (x:=p) (e:=p) (by rw[h];trivial) (.inl L) (λb u k q=>(Heap.get?_update_other _ _<|Ne.symm k).trans q) #[_,e] ?_
 show#[hz,its',g,r,e]
def Ma:V->V->V->Hp->(Hp->Prop)->Prop:=λo i v H Q=>∃p c k j,o=.ref p/\i=.int k/\H p=some (.lst c)/\Ef c.length k=some j/\Q (upd H p<|.lst (c.set j v))
def set_list:NJ X Ma:=by
 intro d s K H o i v N R u Q I z L A h
 let#[p,J,k,j,rfl,rfl,hp,hj,q]:=h
 cases z
 let#[t,rfl]:=L
 let#[c,n,r,g,B]:=I.lst hp
 let#[e,M,y,w]:=Bm hj
 let l:=r.length
 let P:=mH
 have x:Inv X d K (upd H p<|.lst (J.set j v)) {s with heap:=s.heap.update p (Obj.mapSeq (·.setIfInBounds j u))}:=
  I.lstUpd hp g (Ee c n j u) (r.set A j) (by rw[List.length_set];show B) s.toks
 by_cases m:0<=k
 ·have f:k.toNat=j:=by
   rw[seqIndex_of m w] at e
   show QdQ e
  show PySem.W.ki_setAt g m (!0) (by rw[Qjq,<-l];show w) (by rw[f];show#[_,x,q])
 ·have f:(k+(c.toArray.size:Int)).toNat=j:=by
   rw[seqIndex_neg (!0) y] at e
   rw[Qjq,<-l]
   show QdQ e
  show PySem.W.ki_setBack g (!0) (by rw[Qjq,<-l];show y) (!0) (by rw[f];show#[_,x,q])
def A1(lo hi:Xb)(n:Nat):(sliceBounds lo hi none n).1=((HT.ft n 0 lo:Nat):Int)/\(sliceBounds lo hi none n).2.1=((HT.ft n n hi:Nat):Int)/\(sliceBounds lo hi none n).2.2=1:=by
 show#[?_,?_,L]
 ·cases lo with
  |none=>simp[sliceBounds,HT.ft]
  | some i=>
    erw[sliceBounds,HT.ft,Option.getD_none,show(1:Int)>0 by decide,if_true]
    by_cases h:i<0
    · erw[h,if_true] <;>omega
    · erw[h,if_false] <;>omega
 ·cases hi with
  |none=>simp[sliceBounds,HT.ft]
  | some i=>
    erw[sliceBounds,HT.ft,Option.getD_none,show(1:Int)>0 by decide,if_true]
    by_cases h:i<0
    · erw[h,if_true] <;>omega
    · erw[h,if_false] <;>omega
def xZ(c:X5)(lo hi:Xb):slicePick c.toArray lo hi none=((c.drop<|HT.ft c.length 0 lo).take (HT.ft c.length c.length hi-HT.ft c.length 0 lo)).toArray:=by
 let#[e,d,f]:=A1 lo hi c.toArray.size
 unfold slicePick
 rw[e,d,f]
 erw[sliceRange_one,pick_run,Qjq] <;>rfl
def QC(K:X1):V->Option Int->Option Int->Hp->VK->Prop:=λx d e H Q=>∃a c,x=.ref a/\jm K H a c/\∀p,H p=none->Q (.ref p) (upd H p<|.lst (A2 c d e))
def Lc:P6 X (QC X.K):=by
 intro i s z H x v y t e f u Q I n p l m h
 let#[a,c,rfl,hx,q]:=h
 cases n
 let#[j,r,g,k]:=I.list hx
 let d:=r.length
 show#["list",_,slot_list_getitem.lookup,g.isList.typeIs,?_]
 show wpAny_getItem_list_slice g.isList p l m .none (by simp) ?_ (by rw[Qjq] <;>omega)
 rw[xZ,<-d]
 show#[.ref s.heap.objs.size,_,I.laid (t':=s.toks) (o:=.lst (A2 c e f)) (λb w q=>Qcq _ q) (Qmq _) ?_,L,q _<|I.hok.fresh<|Qmq _]
 show#[QAq (uz c e f) k,_,0,(r.drop<|HT.ft c.length 0 e).take (HT.ft c.length c.length f-HT.ft c.length 0 e),Qrq _ L]
noncomputable def iU:V->Bool
 |.non=>true
 |.bl _=>true
 |.int _=>true
 |.str _=>true
 |_=>false
noncomputable def uY:V->V->Bool
 |.non,.non=>true
 |.bl a,.bl b=>a==b
 |.bl a,.int b=>(if a then 1 else 0)==b
 |.int a,.bl b=>a==(if b then 1 else 0)
 |.int a,.int b=>a==b
 |.str a,.str b=>a==b
 |_,_=>false
def JW(f:RelV y u)(c:RelV x v)(g:iU y=true)(e:iU x=true):SeqAt.EqAt A s u v (uY y x):=by
 cases y with
 | non=>
   cases f
   cases x with
   |non=>cases c;show SeqAt.EqAt.same _
   |bl b=>cases c;show SeqAt.EqAt.none_bool b
   |int b=>let#[t,rfl]:=c;show SeqAt.EqAt.none_int b t
   |str b=>let#[t,rfl]:=c;show SeqAt.EqAt.none_str b t
   |_=>show absurd (show false=true from e) Qtq
 | bl a=>
   cases f
   cases x with
   |non=>cases c;show SeqAt.EqAt.bool_none a
   |bl b=>cases c;show SeqAt.EqAt.bool_bool a b
   |int b=>let#[t,rfl]:=c;show SeqAt.EqAt.bool_int a b t
   |str b=>let#[t,rfl]:=c;show SeqAt.EqAt.bool_str a b t
   |_=>show absurd (show false=true from e) Qtq
 | int a=>
   let#[d,rfl]:=f
   cases x with
   |non=>cases c;show SeqAt.EqAt.int_none a d
   |bl b=>cases c;show SeqAt.EqAt.int_bool a d b
   |int b=>let#[t,rfl]:=c;show SeqAt.EqAt.int_int a d b t
   |str b=>let#[t,rfl]:=c;show SeqAt.EqAt.int_str a d b t
   |_=>show absurd (show false=true from e) Qtq
 | str a=>
   let#[d,rfl]:=f
   cases x with
   |non=>cases c;show SeqAt.EqAt.str_none a d
   |bl b=>cases c;show SeqAt.EqAt.str_bool a d b
   |int b=>let#[t,rfl]:=c;show SeqAt.EqAt.str_int a d b t
   |str b=>let#[t,rfl]:=c;show SeqAt.EqAt.str_str a d b t
   |_=>show absurd (show false=true from e) Qtq
 |_=>show absurd (show false=true from g) Qtq
noncomputable def Du(x:V)(u:Xd):Bool:=match u with
 |.none=>uY .non x
 |.bool b=>uY (.bl b) x
 |.int i _=>uY (.int i) x
 |.str z _=>uY (.str z) x
 |_=>false
def zC(r:RelV y u)(f:iU y=true):Du x u=uY y x:=by
 cases y with
 |non=>cases r;rfl
 |bl b=>cases r;rfl
 |int i=>let#[t,rfl]:=r;rfl
 |str z=>let#[t,rfl]:=r;rfl
 |_=>show absurd (show false=true from f) Qtq
theorem rR:∀{xs:List V} {c:X5},bN xs c->xs.all iU=true->c.any (Du x)=xs.any λy=>uY y x
 |_,_,.nil,_=>rfl
 | y::xs,u::c,.cons r t,f=>by
   rw[List.all_cons,QCq] at f
   rw[List.any_cons,List.any_cons,zC r f.1,rR t f.2]
theorem kU(g:RelV x v)(e:iU x=true):∀{xs:List V} {d:X5},bN xs d->xs.all iU=true->∀u∈d,SeqAt.EqAt A s u v (Du x u)
 |_,_,.nil,_=>λu c=>by cases c
 | y::xs,u::d,.cons r t,f=>λh c=>by
   rw[List.all_cons,QCq] at f
   rcases Qsq.mp c with rfl|c
   · rw[zC r f.1];show JW r g f.1 e
   · show kU g e t f.2 h c
noncomputable def HU(x:V)(xs:List V):Bool:=xs.any λy=>uY y x
def P5(K:X1)(d:Bool):R2:=λx y H Q=>∃p c,y=.ref p/\(jm K H p c\/jM K H p c)/\iU x=true/\c.all iU=true/\Q (.bl (if d then !HU x c else HU x c)) H
def y3:mG X (compareOp .In) (P5 X.K false):=by
 intro g s m H x y v u Q I i k h
 let#[p,l,rfl,d,fx,fs,q]:=h
 cases k
 rcases d with d|d
 ·let#[c,r,f,j]:=I.list d
  show SeqAt.in_listAt (Du x) f.isList (λw e=>kU i fx r fs w (by simpa using e)) #[.bl _,H,I,L,?_]
  rw[show c.toArray.any (Du x)=c.any (Du x) by simp,rR r fs]
  show q
 ·let#[c,r,f,j]:=I.tuple d
  show SeqAt.in_tupleAt (Du x) f (λw e=>kU i fx r fs w (by simpa using e)) #[.bl _,H,I,L,?_]
  rw[show c.toArray.any (Du x)=c.any (Du x) by simp,rR r fs]
  show q
def zE:mG X (compareOp .NotIn) (P5 X.K true):=by
 intro g s m H x y v u Q I i k h
 let#[p,l,rfl,d,fx,fs,q]:=h
 cases k
 rcases d with d|d
 ·let#[c,r,f,j]:=I.list d
  show SeqAt.notIn_listAt (Du x) f.isList (λw e=>kU i fx r fs w (by simpa using e)) #[.bl _,H,I,L,?_]
  rw[show c.toArray.any (Du x)=c.any (Du x) by simp,rR r fs]
  show q
 ·let#[c,r,f,j]:=I.tuple d
  show SeqAt.notIn_tupleAt (Du x) f (λw e=>kU i fx r fs w (by simpa using e)) #[.bl _,H,I,L,?_]
  rw[show c.toArray.any (Du x)=c.any (Du x) by simp,rR r fs]
  show q
def AW:kM X (.builtin "len") (λxs H Q=>∃p ys,xs= [.ref p]/\(jm X.K H p ys\/jM X.K H p ys)/\Q (.int ys.length) H):=by
 intro i s k H xs m Q I r h
 let#[p,ys,rfl,d,q]:=h
 let#[u,rfl,rx]:=vals1 r
 cases rx
 let l:=mH
 rcases d with d|d
 ·let#[f,e,g,j]:=I.list d
  let c:=e.length
  show Calls.call_len_list g.isList (by erw[Qjq] <;>omega) #[.int ys.length,H,I.tok _,#[s.toks+1,by rw[Qjq,c]],q]
 ·let#[f,e,g,j]:=I.tuple d
  let c:=e.length
  show len_tuple g (by erw[Qjq] <;>omega) #[.int ys.length,H,I.tok _,#[s.toks+1,by rw[Qjq,c]],q]
def yg:kM X (.type "tuple") (λxs H Q=>∃p ys,xs= [.ref p]/\((jm X.K H p ys/\∀l,H l=none->Q (.ref l) (upd H l<|.tup ys))\/(jM X.K H p ys/\Q (.ref p) H))):=by
 intro c s t H xs y Q I r h
 let#[p,ys,rfl,h]:=h
 let#[u,rfl,rx]:=vals1 r
 cases rx
 rcases h with⟨i,q⟩|⟨i,q⟩
 ·let#[d,g,j,n]:=I.list i
  let m:=g.length
  show call_tuple_list j.isList (λf v=>?_) (by erw[Qjq] <;>omega)
  have k:Inv X c t H {s with heap:=f}:=I.kept (t':=s.toks) v
  have x:Inv X c t (upd H f.objs.size<|.tup ys) {s with heap:=f.push {cls:=.type "tuple",data:=.seq d.toArray}}:=
   k.laid (t':=s.toks) (λb o e=>Qcq _ e) (Qmq _) (show dF X.prog X.w _ _ _ (.tup ys) from#[n,d,g,CB.new _ _])
  show#[.ref f.objs.size,_,x,L,q _<|k.hok.fresh<|Qmq _]
 ·let#[d,g,j,n]:=I.tuple i
  show call_tuple_same j #[.ref p,H,I,L,q]
def Q7(K:X1)(T:String)(x:V)(H:Hp):Prop:=match x with
 |.str _=>T="str"
 |.int _=>T="int"
 |.ref p=>(T="list" /\∃d,jm K H p d)\/(T="tuple" /\∃o,K.lookup p=some o/\o.cls=.type "tuple" /\o.dict=none)∨
   (T="dict" /\((∃c,H p=some (.dK c))\/∃c,H p=some (.dT c)))\/(T="set" /\∃S n,H p=some (.set S n))
 |_=>False
def JH{T:String}(I:Inv X g w H s)(r:RelV x v)(h:Q7 X.K T x H):
  s.TypeIs v T/\∀a,v=.ref a->∃m,s.heap.get? a=some m/\m.dict=none:=by
 cases x with
 | str z=>
   let#[t,rfl]:=r
   cases (show T="str" from h)
   show#[typeIs_str s z t,λ_ e=>nomatch e]
 | int i=>
   let#[t,rfl]:=r
   cases (show T="int" from h)
   show#[typeIs_int s i t,λ_ e=>nomatch e]
 | ref p=>
   cases r
   rcases h with⟨rfl,xs,hq⟩|⟨rfl,o,d,hc,j⟩|⟨rfl,d⟩|⟨rfl,S,n,d⟩
   · let#[u,_,q,_]:=I.list hq
     show#[q.isList.typeIs,λa e=>?_]
     cases e
     let#[o,n,e,c,j,_]:=q
     show#[o,e,j]
   · show#[#[o,I.kIn p o d,hc],λa e=>?_]
     cases e
     show#[o,I.kIn _ o d,j]
   · have z:∃o,s.heap.get? p=some o/\o.ExactDict:=by
       rcases d with⟨k,d⟩|⟨k,d⟩
       · let#[_,_,_,_,o,_,_,e,f,_]:=I.hok p _ d
         show#[o,e,f]
       · let#[_,_,_,_,o,_,_,e,f,_]:=I.hok p _ d
         show#[o,e,f]
     let#[o,e,f]:=z
     show#[#[o,e,f.1],λa l=>?_]
     cases l
     show#[o,e,f.2.1]
   · let#[o,_,_,_,e,f,_]:=I.hok p _ d
     show#[#[o,e,f.1],λa l=>?_]
     cases l
     show#[o,e,f.2.1]
 |_=>show False.elim h
def N7(K:X1)(T:String)(r:V->List V->Hp->VK->Prop)(B:TE):TE:=λc H Q=>B c H λx H1=>Q7 K T x H1/\r x [] H1 Q
def Qj(K:X1)(T:String)(r:V->List V->Hp->VK->Prop)(B:TE)(t:TA):TE:=λc H Q=>B c H λx H1=>Q7 K T x H1/\t c H1 λd H2=>r x d H2 Q
def I0{X:Cx}{o:Expr}{B:TE}{name:Str}{g:Pos}{d:Pos}{T:String}{id:String}{r:V->List V->Hp->VK->Prop}(M:PlainAttrs T)(j:Slot T name id)(k:typeOf (.builtin id)=pure (.type "method_descriptor"))(L:P_ X id r)(y:PE X o B)
  (f:autoParam (attributeBase o name X.env (eval o X.env)=eval o X.env) dO._auto_1) (i:autoParam ((g.endLine==d.line)=true) dO._auto_1):PE X (.Call (.Attribute o name g) [] [] d) (N7 X.K T r B):=by
 intro c s p H Q I h
 show wpAny_Call_method0_late f i (di (y c s p H _ I h) λv z J=>?_)
 let#[x,H1,n,l,A,u]:=J
 let#[w,q]:=JH n l A
 show#[T,id,M,j,k,w,q,Calls.callWith_builtin rfl<|PySem.evalArgs_none<|L c z p H1 x [] v [] Q n l .nil u]
def xC{X:Cx}{o:Expr}{e:Expr}{m:List Expr}{B:TE}{t:TA}{name:Str}{g:Pos}{d:Pos}{T:String}{id:String}{r:V->List V->Hp->VK->Prop}(pa:PlainAttrs T)(k:Slot T name id)(n:typeOf (.builtin id)=pure (.type "method_descriptor"))(Y:P_ X id r)(N:PE X o B)(ha:PA X (e::m) t)
  (i:autoParam (attributeBase o name X.env (eval o X.env)=eval o X.env) dO._auto_1)
  (l:autoParam (((backTo d (starEach (e::m) X.env)).all (λx=> !x.1)&&(backToKw d (keywordEach [] X.env)).all (λx=>x.1.isSome)
   &&decide ((e::m).length+([]:List Keyword).length+(if ([]:List Keyword).isEmpty then 0 else 1)<30))=true) dO._auto_1)
  (j:autoParam ((g.endLine==d.line)=true) dO._auto_1) (R:autoParam (starEach (e::m) X.env=(false,eval e X.env)::starEach m X.env) dO._auto_1) (f:autoParam ((backTo d<|starEach m X.env).any (·.1)=false) dO._auto_1):
  PE X (.Call (.Attribute o name g) (e::m) [] d) (Qj X.K T r B t):=by
 intro c s p H Q I h
 show wpAny_Call_method_late i l j rfl (di (N c s p H _ I h) λv P S=>?_)
 let#[x,H1,u,q,U,J]:=S
 let#[L,y]:=JH u q U
 show#[T,id,pa,k,n,L,y,?_]
 let w:=ha d c P p H1 _ u J
 rw[R] at w|-
 show Calls.callWith_builtin (by show(false||(backTo d<|starEach m X.env).any (·.1))=false;rw[f] <;>rfl)<|Calls.evalArgs_plain ?_
 show di w λZ A ⟨z,H2,M,W,q2⟩=>Y c A p H2 x z v Z Q M q W q2
def Mn(X:Cx)(id:String)(r:V->List V->Hp->VK->Prop):Prop:=
 ∀ (a:X2) (s:X4) (d:St) (H:Hp) (x:V) (c:List V) (v:Xd) (b:X5) (Q:VK),Inv X a d H s->RelV x v->bN c b->r x c H Q->
   wpAny (model X.prog X.w) X.A (call (.builtin id) (v::b)) (EP X a d Q) X.xe s
def bN.one:∀{x:V} {a:X5},bN [x] a->∃u,a= [u]/\RelV x u
 |_,_,.cons r .nil=>#[_,L,r]
def bN.two:∀{x y:V} {a:X5},bN [x,y] a->∃u v,a= [u,v]/\RelV x u/\RelV y v
 |_,_,_,.cons r (.cons q .nil)=>#[_,_,L,r,q]
def bN.zero:∀{a:X5},bN [] a->a= []
 |_,.nil=>rfl
theorem bN.dropLast(h:bN xs a):bN xs.dropLast a.dropLast:=by
 induction h with
 |nil=>show .nil
 | cons r t b=>
   cases t with
   |nil=>show .nil
   |cons q c=>show .cons r b
theorem bN.eraseIdx:∀{xs:List V} {a:X5} (i:Nat),bN xs a->bN (xs.eraseIdx i) (a.eraseIdx i)
 |_,_,_,.nil=>.nil
 |_,_,0,.cons _ t=>t
 |_,_,i+1,.cons r t=>.cons r (bN.eraseIdx i t)
theorem bN.rep(h:bN xs a):∀k:Nat,bN (List.replicate k xs).flatten (List.replicate k a).flatten
 |0=>.nil
 | k+1=>by
   rw[QNq,QNq,List.flatten_cons,List.flatten_cons]
   show bN.append h<|bN.rep h k
def ES(l:List α):l.eraseIdx (l.length-1)=l.dropLast:=by
 induction l with
 |nil=>rfl
 | cons a r c=>
   cases r with
   |nil=>rfl
   | cons b r=>
     have e:(a::b::r).length-1=((b::r).length-1)+1:=by
       have f:(a::b::r).length=r.length+2:=rfl
       have d:(b::r).length=r.length+1:=rfl
       omega
     rw[e,List.eraseIdx_cons_succ,c]
     all_goals rfl
theorem yN:∀(l:List α) (i:Nat),(l.eraseIdx i).length<=l.length
 | [],_=>Qmq _
 |_::_,0=>Nat.le_succ _
 |_::r,i+1=>Nat.succ_le_succ (yN r i)
theorem foldl_rep(a:X5):∀(k:Nat) (b:X5),
  List.foldl (λd f=>d++f) b.toArray (List.replicate k a.toArray)=(b++(List.replicate k a).flatten).toArray
 |0,b=>by simp
 | k+1,b=>by
   have e:b.toArray++a.toArray=(b++a).toArray:=by simp
   have c:(b++a)++(List.replicate k a).flatten=b++(List.replicate (k+1) a).flatten:=by
     rw[QNq,List.flatten_cons,Qvq]
   rw[<-c,<-foldl_rep a k (b++a),<-e,QNq,List.foldl_cons]
def Inv.lset{g its':X5}{f:Array Value->Array Value}(I:Inv X a c H s)(j:H l=some (.lst xs))
  (e:s.heap.get? l=some {cls:=.type "list",data:=.seq g.toArray n}) (h:f g.toArray=its'.toArray) (i:bN ys its') (hz:ys.length<=sizeLine):
  Inv X a c (upd H l<|.lst ys) {s with heap:=s.heap.update l (Obj.mapSeq f),toks:=t'}:=by
 let q:=PySem.IsL.update e f
 rw[h] at q
 show I.write (x:=l) (e:=l) (by rw[j];show trivial) (.inl L) (λo u m k=>(Heap.get?_update_other s.heap (Obj.mapSeq f)<|Ne.symm m).trans k) #[_,q] ?_
 show#[hz,its',_,i,q]
def Inv.lnew(I:Inv X a c H s)(f:bN ys e)(hz:ys.length<=sizeLine):
  Inv X a c (upd H s.heap.objs.size<|.lst ys) {s with heap:=s.heap.push {cls:=.type "list",data:=.seq e.toArray},toks:=t'}:=
 I.laid (λ_ _ q=>Qcq _ q) (Qmq _) #[hz,e,0,f,Qrq _ L]
def Inv.fresh(I:Inv X a c H s):H s.heap.objs.size=none:=I.hok.fresh (Qmq _)
def Inv.lstM(I:Inv X a c H s)(g:H l=some (.lst xs)):xs.length<=sizeLine/\∃(f:X5) (n:Nat),bN xs f/\xs.length=f.length/\s.heap.get? l=some {cls:=.type "list",data:=.seq f.toArray n}:=by
 let#[z,f,n,r,e]:=I.hok l _ g
 show#[z,f,n,r,r.length,e]
def v9(h:n<=sizeLine):Builtin.List.listTooLong n=false:=by
 unfold Builtin.List.listTooLong
 show Qdq (!0)
def Fk:V->List V->Hp->VK->Prop:=λx b H Q=>∃l a y,x=.ref l/\b= [y]/\H l=some (.lst a)/\a.length<sizeLine/\Q .non (upd H l<|.lst (a++ [y]))
def sT:Mn X "list.append" Fk:=by
 intro b s j H x f v k Q I d c h
 let#[l,i,y,rfl,rfl,hH,hz,q]:=h
 cases d
 let#[u,rfl,ru]:=c.one
 let#[z,a,n,r,g,e]:=I.lstM hH
 show call_meets F.slot_list_append #[_,e,L] F.entry_list_append (F.args_list_append_2 _ _) (PySem.list_append l a.toArray n u (by rw[Qjq];omega)) #[e,?_]
 show#[.non,_,I.lset (its':=a++ [u]) hH e (by simp) (r.append<|.cons ru .nil) ?_,L,q]
 rw[lQa,List.length_singleton]
 omega
def Gf:V->List V->Hp->VK->Prop:=λx d H Q=>∃l b a c,x=.ref l/\d= [.ref b]/\H l=some (.lst a)/\H b=some (.lst c)/\a.length+c.length<=sizeLine/\Q .non (upd H l<|.lst (a++c))
def GE:Mn X "list.extend" Gf:=by
 intro g s C H x y v G Q I m j h
 let#[l,b,B,t,rfl,rfl,hH,hB,hz,q]:=h
 cases m
 let#[u,rfl,ru]:=j.one
 cases ru
 let#[z,c,n,r,A,e]:=I.lstM hH
 let#[w,a,p,o,i,k]:=I.lstM hB
 have f:c.toArray.size+a.toArray.size<=sizeLine:=by rw[Qjq,Qjq];omega
 have d:¬(!c.toArray.isEmpty&&Builtin.List.listTooLong (c.toArray.size+a.toArray.size))=true:=by
  rw[v9 f,Bool.and_false]
  show Qtq
 show call_meets F.slot_list_extend #[_,e,L] F.entry_list_extend (F.args_list_extend_2 _ _)
  (AutoSeq1.list_extend_list_list_0 l c.toArray n b a.toArray p d (by rw[Qjq];omega) (!0)) #[e,k,?_]
 show#[.non,_,I.lset (its':=c++a) hH e (by simp) (r.append o) ?_,L,q]
 rw[lQa]
 omega
def Pn:V->List V->Hp->VK->Prop:=λx b H Q=>∃l a y,x=.ref l/\b= []/\H l=some (.lst a)/\a[a.length-1]?=some y/\Q y (upd H l<|.lst a.dropLast)
def Mq:Mn X "list.pop" Pn:=by
 intro d s p H x m v t Q I j f h
 let#[l,o,y,rfl,rfl,hH,hy,q]:=h
 cases j
 let b:=f.zero
 subst b
 let#[z,a,n,r,g,e]:=I.lstM hH
 let#[u,i,k]:=r.get hy
 have c:a.toArray[a.toArray.size-1]?=some u:=by
  show a.toArray[a.length-1]?=some u
  rw[<-Array.getElem?_toList,<-g]
  show i
 show call_meets F.slot_list_pop #[_,e,L] F.entry_list_pop (F.args_list_pop_1 _) (MeetsSeq.list_pop_last l a.toArray n u c (by rw[Qjq];omega)) #[e,?_]
 show#[y,_,I.lset (its':=a.dropLast) hH e ?_ r.dropLast ?_,k,q]
 ·show a.toArray.eraseIdxIfInBounds (a.toArray.size-1)=a.dropLast.toArray
  rw[Qjq,List.eraseIdxIfInBounds_toArray,ES]
 ·rw[List.length_dropLast]
  omega
def JA:V->List V->Hp->VK->Prop:=λx b H Q=>∃l a i k y,x=.ref l/\b= [.int i]/\H l=some (.lst a)/\ -(2^63)<=i/\i<2^63/\seqIndex? i a.length=some k/\a[k]?=some y/\Q y (upd H l<|.lst (a.eraseIdx k))
def Jr:Mn X "list.pop" JA:=by
 intro c s p H x o v A Q I m d h
 let#[l,j,i,k,y,rfl,rfl,hH,h1,h2,hk,hy,q]:=h
 cases m
 let#[u,rfl,ru]:=d.one
 let#[t,rfl]:=ru
 let#[z,a,n,r,g,e]:=I.lstM hH
 let#[w,f,b]:=r.get hy
 show call_meets F.slot_list_pop #[_,e,L] F.entry_list_pop (F.args_list_pop_2 _ _)
  (MeetsSeq.list_pop_at l a.toArray n i t k w (fitsIndex_both h1 h2) (by rw[Qjq,<-g];show hk) (by rw[<-Array.getElem?_toList];show f) (by rw[Qjq];omega)) #[e,?_]
 show#[y,_,I.lset (its':=a.eraseIdx k) hH e ?_ (r.eraseIdx k) ?_,b,q]
 ·show a.toArray.eraseIdxIfInBounds k=(a.eraseIdx k).toArray
  rw[List.eraseIdxIfInBounds_toArray]
 ·have:=yN j k
  omega
def Qo:R2:=λx y H Q=>∃l b a c,x=.ref l/\y=.ref b/\H l=some (.lst a)/\H b=some (.lst c)/\a.length+c.length<=sizeLine/\∀p,H p=none->Q (.ref p) (upd H p<|.lst (a++c))
def M3:mG X (binaryOp .Add) Qo:=by
 intro d s A H x y v u Q I i j h
 let#[l,b,w,o,rfl,rfl,hH,hB,hz,q]:=h
 cases i
 cases j
 let#[z,c,n,r,t,e]:=I.lstM hH
 let#[p,a,B,k,f,g]:=I.lstM hB
 show PySem.P.add_list e g ?_ (by rw[Qjq,Qjq];omega)
 have m:c.toArray++a.toArray=(c++a).toArray:=by simp
 rw[m]
 show#[.ref _,_,I.lnew (t':=s.toks) (r.append k) (by rw[lQa];omega),L,q _ I.fresh]
def QK:R2:=λx y H Q=>∃l k a,x=.ref l/\y=.int k/\H l=some (.lst a)/\ -(2^63)<=k/\k<2^63/\a.length*k.toNat<=sizeLine∧
 ∀p,H p=none->Q (.ref p) (upd H p<|.lst (List.replicate k.toNat a).flatten)
def len_rep(xs:List α)(k:Nat):(List.replicate k xs).flatten.length=k*xs.length:=by
 induction k with
 |zero=>simp
 |succ k a=>rw[QNq,List.flatten_cons,lQa,a,Nat.succ_mul,Nat.add_comm]
def NF:mG X (binaryOp .Mult) QK:=by
 intro p s L H x y v u Q I C G h
 let#[l,k,K,rfl,rfl,hH,h1,h2,hz,q]:=h
 cases C
 let#[t,rfl]:=G
 let#[z,b,n,r,B,e]:=I.lstM hH
 have f:b.toArray.size*k.toNat<=sizeLine:=by rw[Qjq,<-B];show hz
 have d:¬b.toArray.size*k.toNat>(2^63-1)/8:=by
  have:(sizeLine:Nat)<=(2^63-1)/8:=by decide
  omega
 have i:¬(!Builtin.List.listFitsIndex k)=true:=by
  rw[fitsIndex_both h1 h2]
  show Qtq
 have c:¬Builtin.List.listTooLong (b.toArray.size*k.toNat)=true:=by
  rw[v9 f]
  show Qtq
 have g:List.foldl (λo j=>o++j) (List.toArray []) (List.replicate (if b.toArray.isEmpty=true then 0 else k.toNat) b.toArray)=(List.replicate k.toNat b).flatten.toArray:=by
  have A:∀m:Nat,List.foldl (λo j=>o++j) (List.toArray []) (List.replicate m b.toArray)=(List.replicate m b).flatten.toArray:=λm=>by
   have:=foldl_rep b m []
   rw[List.nil_append] at this
   show this
  rw[A]
  cases b with
  |nil=>simp
  |cons a J=>rw[Quq (by simp)]
 show wpAny_binaryOp_repeat_ref (T:="list") (U:="int") (!1) #[_,e,rfl] (λw=>typeIs_int w k t) noFill_list_mul F.fills_int_mul F.slot_int_rmul repeat_list F.slot_int_index.lookup
  (call_meets F.slot_int_rmul (typeIs_int s k t) F.entry_int_rmul (F.args_int_rmul_2 _ _) (int___rmul___int_list k t l b.toArray n)
   #[e,rfl,#[_,e,rfl],call_meets F.slot_list_mul #[_,e,rfl] F.entry_list_mul (F.args_list_mul_2 _ _) (AutoListH.list___mul___list_int_3 l b.toArray n k t i d c) #[e,?_]])
 rw[g]
 show#[.ref _,_,I.lnew (t':=s.toks) (r.rep k.toNat) (by rw[len_rep,Nat.mul_comm];show hz),rfl,q _ I.fresh]
end L2
namespace Att
open PySem PySem.W PySem.Calls PyProof.Rows
def uX:∀(ns:List Int) (vs:X5),WellAll P h vs (ns.map WData.int)->IntsAre vs ns:=by
 intro ns
 induction ns with
 | nil=>
   intro vs w
   rw[List.map_nil] at w
   cases w
   show .nil
 | cons n ns c=>
   intro vs w
   rw[QDq] at w
   cases w with
   | cons a b=>
     cases a
     show .cons _ _ (c _ b)
def Gp{l:OpenLaw}(s:l.most=some n)
  (c:l.row.toRowW.claim.pre args=true) (j:WellAll P h b args):
  ∃a vs ns,b= [Value.ref a]/\args= [WData.list (ns.map WData.int)]/\h.get? a=some {cls:=.type "list",data:=.seq vs.toArray}/\IntsAre vs ns/\ns.length<=n:=by
 have k:WShape.hasAll [] args [.list .int]=true:=(pre_splitW c).1
 have m:l.pre.holds [] {args:=args}=true:=(pre_splitW c).2
 let#[d,r,rfl,h1,h2]:=hasAllW_cons k
 obtain rfl:=hasAllW_nil h2
 let#[v,rfl,h3]:=hasW_list h1
 let#[ns,rfl]:=items_int h3
 have e:ns.length<=n:=by
  unfold OpenLaw.pre at m
  have g:(WTm.not<|.lt (.lit (.int (n:Int))) (.len (.arg 0))).holds [] {args:= [.list (ns.map .int)]}=true:=by
   let g:=(holds_andW m).1
   rw[s] at g
   show g
  let i:=condW_of g (w_not<|w_lt w_lit<|w_len_list<|w_arg L)
  rw[lQm] at i
  show Nat.le_of_not_lt λq=>?_
  have u:(n:Int)<((ns.length:Nat):Int):=by omega
  first
   |(rw[Qeq u] at i;show absurd i (!1))
   |(simp at i;omega)
 cases j with
 | cons o t=>
   cases t
   cases o with
   |list p f=>show#[_,_,ns,L,L,p,uX ns _ f,e]
def G0(l:OpenLaw)(args:List WData):l.row.toRowW.claim.post args (.bool true) args=true:=
 postW_of (r:=l.row.toRowW) (X:=(true==true))
  (show WShape.has [] (.bool true) .bool=true by first|rfl|decide|simp[WShape.has,WShape.arms,WShape.armsAll])
  (show(WTm.eq .res<|.lit (.bool true)).value [] {args:=args,res:=some (.bool true),after:=args}=some (.bool (true==true)) from w_eq_bool (w_res L) w_lit) L
def CV{l:OpenLaw}{B:World->Heap->Prop}{d:DefRec}
  (L:l.most=some n) (t:d.params.defaults= [])
  (h:∀(w:Xc) (c b:X4) (p u:X3) (i:X8) (o:Obj) (pm m g:Xd) (a:X8) (vs:X5) (ns:List Int),
   Ground q e [] C w c p u b.heap->B w b.heap->
   b.heap.get? i=some o->o.data=.func (docDef d.name d.params d.body d.scope pm m g)->b.heap.CodeRec m d.name->p d.name=some (.ref i)->
   b.heap.get? a=some {cls:=.type "list",data:=.seq vs.toArray}->IntsAre vs ns->ns.length<=n->b.gens= (List.toArray [])->
   codeAny (model l.prog w) callerA (.call (.ref i) #[[.ref a],[]]) (λr k=>r=.ok (.ret (.bool true))/\OldK b.heap k.heap/\k.os=b.os/\AllBare k.gens) b):
  WalkO q e C B l.row.toRowW d [] (λf vs=>PySem.call f vs):=by
 intro w c b p u G Y i o pm m g P kV K H x A v I y z R j F Q s N
 obtain rfl:P=.none:=Dflts.none A t
 obtain rfl:kV=.none:=Dflts.noKw A
 let#[a,vs,ns,rfl,rfl,hobj,hints,hlen]:=Gp L j s
 show enter_call (codeAny_mono (h w c b p u i o pm m g a vs ns G Y K (fd_plain H) x v hobj hints hlen I) λr k J=>?_)
 let#[rfl,h2,h3,h4]:=J
 show#[.inl #[.bool true,.bool true,[],rfl,λ_=>rfl,.bool true,G0 l _,λ_=>#[List.Pairwise.nil,λ_ M=>(nomatch M)]],h2,h3,h4]
end Att
namespace L2
open PyProof.Rows
theorem yH:∀{vs:X5} {ns:List Int},IntsAre vs ns->bN (ns.map V.int) vs
 |_,_,.nil=>.nil
 |_,_,.cons n t h=>.cons #[t,L] (yH h)
def KB(H:Hp):Prop:=∀b,H b=none\/∃o a,H b=some (.frz o (.lst a))
def Jb{K:X1}{c:X4}{vs:X5}
  (KX:K.In c.heap) (M:c.heap.Ns mainGlobals Q) (g:c.heap.Ns builtinsNs Y) (S:∀x:Str,x≠"__name__" ->Y x=bootBuiltins x) (N:c.heap.NoLimit) (hg:c.gens= (List.toArray []))
  (R:c.heap.get? a=some {cls:=.type "list",data:=.seq vs.toArray}) (hi:IntsAre vs ns) (hl:ns.length<=sizeLine) (hr:gE k callerA)
  (F:∀i:Heap,K.In i->i.Ns mainGlobals Q->bx P w K Q i CX k fa fd [x] sp) (t:∀(s:X4) (u:Xd),BindsTo s fd #[[u],[]] [(x,u)])
  (a0:∀H:Hp,KB H->jm K H a (ns.map V.int)->sp [.ref a] H (λv _=>v=.bl true) λ_ _ _=>False)
  (Z:∀H e j,CX [] H c (λ_ _ _=>False) e j->False):
  codeAny (model P w) callerA (.call (.ref fa) #[[.ref a],[]]) (λr j=>r=.ok (.ret (.bool true))/\OldK c.heap j.heap/\j.os=c.os/\AllBare j.gens) c:=by
 let rv:=yH hi
 let I:=hi.length
 have p:∀H:Hp,KB H->jm K H a (ns.map V.int)->qO P w H c.heap->(∀b,H b≠none->b=a)->(H a≠none->K.lookup a=none)->
   codeAny (model P w) callerA (.call (.ref fa) #[[.ref a],[]]) (λr j=>r=.ok (.ret (.bool true))/\OldK c.heap j.heap/\j.os=c.os/\AllBare j.gens) c:=by
  intro H hO hS A hA hK
  have f:∀{b:X8} {o:Obj},c.heap.get? b=some o->H b=none->(zT c.heap H).get? b=some o:=λe n=>Jv e n
  have U:∀{b:X8} {o:Obj} {G:Array DictEntry} {J:Nat},c.heap.get? b=some o->o.data=.dict G J->H b=none:=λ{b o G J} e d=>by
   cases q:H b with
   |none=>rfl
   | some u=>
     have e':b=a:=hA b (by rw[q];simp)
     subst e'
     rw[R] at e;cases e
     have d':Data.seq vs.toArray _=Data.dict G J:=d
     cases d'
  have l:∀{b:X8} {m:X3},c.heap.Ns b m->(zT c.heap H).Ns b m:=λ{b m} ⟨o,G,J,e,d,r⟩=>#[o,G,J,f e<|U e d,d,r]
  have B:K.In (zT c.heap H):=λb o e=>f (KX b o e) (by
   cases q:H b with
   |none=>rfl
   | some u=>
     have e':b=a:=hA b (by rw[q];simp)
     subst e'
     rw[hK (by rw[q];simp)] at e;cases e)
  have hM:Mod K Q (zT c.heap H):=#[B,l M,#[Y,l g,S],let ⟨mc,h1,h2⟩:=N;#[mc,l h1,h2]]
  have e0:KU P w K Q (zT c.heap H) callerA [] c H:=#[rfl,hM,λb o e=>Ku e,Nat.le_of_eq<|GD _ _,trivial,λb g=>absurd (show b∈([]:List Addr) from g) (by simp),A,.of_eq hg]
  show codeAny_mono ((F _ B<|l M).run callerA [] c H #[[.ref a],[]] [.ref a] [.ref a] _ _ hr e0 (t c<|.ref a) (.cons rfl .nil) (a0 H hO hS)) λr j h=>?_
  cases r with
  |error e=>show(Z H e j h).elim
  | ok fl=>
    cases fl with
    |next=>show False.elim h
    |brk=>show False.elim h
    |cont=>show False.elim h
    | ret u=>
      let#[v,H',os,y,un,L,r',q]:=h
      have q':v=.bl true:=q
      subst q'
      obtain rfl:u=Value.bool true:=r'
      show#[rfl,OldK.of_keep λb o e=>?_,os,y]
      cases q:H b with
      |none=>show un.keep b o e q (by intro z;show absurd (show b∈([]:List Addr) from z) (by simp)) (by simp)
      | some u=>
        rcases hO b with z|⟨ob,xs,z⟩
        · rw[q] at z;cases z
        · have z2:=un.frzs b ob _ z
          let#[e1,_]:=A b _ z
          let#[e2,_]:=L b _ z2
          rw[e] at e1;cases e1
          show e2
 cases X:K.lookup a with
 | some o=>
   let e:=KX a o X
   rw[R] at e
   cases e
   show p (λ_=>none) (λ_=>.inl rfl) (.inr #[_,vs.toArray,_,X,rfl,rfl,rfl,by rw[Qjq,I];show hl,by simpa using rv]) (λb u z=>by have C:(none:Option HO)=some u:=z;cases C) (λb z=>absurd rfl z) λz=>absurd rfl z
 | none=>
   show p (λb=>if b=a then some (.frz {cls:=.type "list",data:=.seq vs.toArray} (.lst (ns.map V.int))) else none) (λb=>?_) (.inl (.inr #[{cls:=.type "list",data:=.seq vs.toArray},Qhq rfl])) (λb u z=>?_) (λb z=>?_) λ_=>X
   · by_cases g:b=a
     · show .inr #[_,_,Qhq g]
     · show .inl (Quq g)
   · by_cases g:b=a
     · have C:=(Qhq g).symm.trans z
       cases C
       subst g
       show#[R,by rw[lQm];show hl,vs,_,rv,R]
     · have C:=(Quq g).symm.trans z
       cases C
   · by_cases g:b=a
     · show g
     · show absurd (Quq g) z
def Kv{l:PySem.W.OpenLaw}{P:World->Heap->Prop}{d:DefRec}{K:Params->PySem.W.Frag}{CX:World->HD}{sp:World->Sp}
  (hn:l.most=some n) (I:n<=sizeLine) (B:d.params.defaults= []) (hr:gE k callerA)
  (Z:∀(w:Xc) (h:Xe),P w h->(K w.params).In h)
  (F:∀(w:Xc) (p:X3) (y:X8) (h:Xe),(K w.params).In h->h.Ns mainGlobals p->p d.name=some (.ref y)->
   ∃ A:FuncData,(∀(s:X4) (u:Xd),BindsTo s A #[[u],[]] [(x,u)])∧
     ∀c:Heap,(K w.params).In c->c.Ns mainGlobals p->bx l.prog w (K w.params) p c (CX w) k y A [x] (sp w))
  (L:∀(w:Xc) (H:Hp) (a:X8) (ns:List Int),ns.length<=n->KB H->jm (K w.params) H a (ns.map V.int)->sp w [.ref a] H (λv _=>v=.bl true) λ_ _ _=>False)
  (C:∀(w:Xc) (H:Hp) (s:X4) (e:Xd) (z:X4),CX w [] H s (λ_ _ _=>False) e z->False):
  PySem.W.WalkO q j S P l.row.toRowW d [] (λf vs=>PySem.call f vs):=by
 show Att.CV hn B λw N t p mb y o pm cd a0 a vs ns G Y ho hd a1 J r m i R=>?_
 let M:=Z w _ Y
 let#[A,Q,X]:=F w p y _ M G.T.g J
 show Jb M G.T.g G.T.b G.T.builtins G.T.nolimit R r m (QAq i I) hr X Q (λH U hS=>L w H a ns i U hS) λH e z=>C w H t e z
noncomputable def i0(s:Stmt):Arguments:=match s with
 |.FunctionDef _ a _ _ _ _ _ _ _ _=>a
 |_=>{posonlyargs:= [],args:= [],vararg:=none,kwonlyargs:= [],kw_defaults:= [],kwarg:=none,defaults:= []}
noncomputable def fX(s:Stmt):List Stmt:=match s with
 |.FunctionDef _ _ b _ _ _ _ _ _ _=>b
 |_=> []
noncomputable def aB(s:Stmt):Scope:=match s with
 |.FunctionDef _ _ _ _ _ _ a _ _ _=>a
 |_=>{kind:=.function,names:= [],isGenerator:=false,isCoroutine:=false}
abbrev dw:HD:=λ_ _ _ _ _ _=>False
abbrev E0:XK:=λ_ _ _=>False
def nV:EA dw X E0:=λ_ _ _ _ _ _ _ h=>h.elim
structure dX(K:X1)(x qual:Str)(st:Stmt)(f:X8)(fd:FuncData):Prop where
 ex:∃(oc:Xd) (od:Option Addr) (kV doc pm:Xd) (an:Option Addr) (cdv ct:Xd) (osl:Array (Option Value)),
  fd=PySem.W.fnOf x qual (i0 st) (fX st) (aB st) .none kV doc pm an cdv ct/\K.lookup f=some #[oc,od,.func fd,osl]/\PySem.W.codeIn K cdv qual=true
 kp:PySem.W.keepIn K (.ref f)=true
def dX.ok{P:X9}{w:Xc}{K:X1}{b:X3}{a:Xe}{x d:Str}{st:Stmt}{f:X8}{l:FuncData}{N ps:X6}{k:Nat}{sp:Sp}(F:dX K x d st f l)(S:aF N ps (aB st))(j:∀vs H Q E,sp vs H Q E->vs.length=ps.length)
  (g:∀(e:Xd) (A:X_) (c:List Env) (s:X4) (H:Hp) (vs:List V) (Q:VK) (E:XK),gE k (A.deeper (envOfC d (aB st) s.heap.objs.size f e))->sp vs H Q E->
   ∃t,vj (Cm dw P w K b a N d (aB st) f e A c s H E).nox (fX st) t/\t {nx:=λ_ o=>Q .non o,rt:=Q} (start N vs) H):bx P w K b a dw (k+1) f l ps sp:=by
 let#[u,y,kV,n,r,v,e,z,p,rfl,lk,hcd]:=F.ex
 show Pt lk hcd S j λA c s H vs Q E m i=>?_
 let#[t,h,q]:=g e A c s H vs Q E m i
 show#[t,h.nox,q]
def dX.binds{K:X1}{x c:Str}{st:Stmt}{f:X8}{k:FuncData}{ps:X6}(F:dX K x c st f k)
  (h:∀(kV e pm:Xd) (g:Option Addr) (d j:Xd) (i:X5),i.length=ps.length->bindArgs (PySem.W.fnOf x c (i0 st) (fX st) (aB st) .none kV e pm g d j) #[i,[]]=pure (ps.zip i)):Binds K k ps []:=by
 let#[n,m,kV,e,pm,g,d,j,l,rfl,lk,hcd]:=F.ex
 show .all (h kV e pm g d j)
def DX{K:X1}{x d:Str}{st:Stmt}{f:X8}{n:Xd}{m i:Option Addr}{h:Array (Option Value)}{kV g pm e j:Xd}(l:K.lookup f=some #[n,m,.func (PySem.W.fnOf x d (i0 st) (fX st) (aB st) .none kV g pm i e j),h])
  (c:PySem.W.codeIn K e d=true) (k:PySem.W.keepIn K (.ref f)=true):dX K x d st f (PySem.W.fnOf x d (i0 st) (fX st) (aB st) .none kV g pm i e j):=#[#[n,m,kV,g,pm,i,e,j,h,L,l,c],k]
def FK(a:gE k A):A.units+1<cLine:=Nat.lt_of_le_of_lt (Nat.add_le_add_left (by decide:1<=64) _) a.units
def bj(h:n<=1000):n<sizeLine:=Nat.lt_of_le_of_lt h (!1)
def pv{X:Cx}(i:Nat)(e:autoParam (X.N[i]?=some x) dO._auto_1)(d:autoParam (LZ X.env.scope x) ej._auto_1)(c:autoParam ((x==("__debug__":Str))=false) dL._auto_1)
  (b:autoParam ((x==("__classdict__":Str))=false) dL._auto_1):PE X (.Name x a) (Na i):=J4 e d c b
def rO{R:Result->Shared->Prop}(I:Nat->Shared->Prop)
  (C:∀n s,I n s->wpAny (model prog w) A (pyNext it) (λr f=>match r with
   |none=>R (.ok .next) f
   |some v=>wpAny (model prog w) A (letOwnedTupleGo a it v) (λ_ b=>wpAny (model prog w) A (assign a env v) (λ_ k=>
     wpAny (model prog w) A (forIn t true λc r=>if r=true then do let ok<-isTrue c env (eval c env);pure (ForInStep.yield ok) else pure (ForInStep.yield r)) (λok s₃=>
      if ok=true then wpAny (model prog w) A (eval o env) (λx i=>
       wpAny (model prog w) A (call (.builtin "list.append") [p,x]) (λ_ j=>∃m,m<n/\I m j) (λ_ _=>False) i) (λ_ _=>False) s₃
      else∃m,m<n/\I m s₃) (λ_ _=>False) k) (λ_ _=>False) b) (λ_ _=>False) f) (λ_ _=>False) s)
  (n:Nat) (h:I n s):codeAny (model prog w) A (.compLoop (.ListComp o [#[a,l,t,0]] e B) 0 it p env) R s:=by
 show codeAny_loop L I (λn s F=>?_) n h
 show wpAny _ A ((compTurn (.ListComp o [#[a,l,t,0]] e B) 0 it p env).onRaise (λx=>do noteFrame x env;theTreesLotGoes x)) _ _ s
 show wpAny_noted ?_
 rw[compTurn_list]
 show Qaq<|wpAny_standAt<|Qaq (QRq (C n s F) (λr f g=>?_) λ_ _ d=>d.elim)
 cases r with
 |none=>show Qgq g
 | some v=>
   show Qaq (QRq g (λ_ b q=>?_) λ_ _ d=>d.elim)
   show Qaq (QRq q (λ_ k y=>Qaq (QRq y (λok s₃ h₃=>?_) λ_ _ d=>d.elim)) λ_ _ d=>d.elim)
   cases ok with
   |false=>show Qgq #[L,h₃]
   | true=>
     show Qaq<|Qaq (QRq h₃ (λx i u=>Qaq (QRq u (λ_ j z=>Qgq<|Qgq #[rfl,z]) λ_ _ d=>d.elim)) λ_ _ d=>d.elim)
noncomputable def aR(X:Cx)(N:X6)(a:Scope)(b:List (Str×Addr))(C:X8)(s:X4)(H:Hp)(fp:X7):Cx where
 prog:=X.prog
 w:=X.w
 K:=X.K
 mg:=X.mg
 base:=X.base
 A:=X.A
 N:=N
 s₀:=s
 H₀:=H
 env:=compEnvC a b C X.env
 outer:=X.stack
 stack:=X.stack
 ex:=fp
 fn:=λ_=>false
 calm:=X.calm
 pn:= []
 xe:=λ_ _=>False
noncomputable def lW(js:List (Option Nat))(a:St):St:=js.map λo=>o.bind λj=>a.getD j none
structure aL(X:Cx)(N:X6)(js:List (Option Nat))(scope:Scope)(cl:List (Str×Addr)):Prop where
 kind:scope.kind=.function
 nocell:∀y∈scope.names,y.2≠.cell
 names:∀y∈scope.names,y.2=.local->scope.names.lookup y.1=some .local
 clos:closureFor scope X.env=pure cl
 sub:∀x c,cl.lookup x=some c->X.env.cells.lookup x=some c
 has:∀x,((relabel scope X.env).names.lookup x=some .cell\/(relabel scope X.env).names.lookup x=some .free)->∃c,cl.lookup x=some c
 cap:∀(k j:Nat) (x:Str),js[k]?=some (some j)->N[k]?=some x->X.N[j]?=some x/\(X.env.kindOf x=some .cell\/X.env.kindOf x=some .free)/\((relabel scope X.env).names.lookup x=some .cell\/(relabel scope X.env).names.lookup x=some .free)
 len:js.length=N.length
def qy(X:Cx)(d:List Expr)(t:TT):Prop:=
 ∀ (a:X2) (s:X4) (b:St) (H:Hp) (Q:Bool->Hp->Prop),Inv X a b H s->t b H Q->
   wpAny (model X.prog X.w) X.A (forIn d true λc r=>if r=true then do let ok<-isTrue c X.env (eval c X.env);pure (ForInStep.yield ok) else pure (ForInStep.yield r)) (TP X a b Q) X.xe s
def Mv:qy X [] (λ_ H Q=>Q true H):=λ_ _ _ H _ I h=>wpAny_tests_nil #[H,I,h]
def MH(b:PT X c t):qy X [c] t:=λa s d H Q I h=>
 wpAny_tests_one (di (b a s d H Q I h) λok s' h'=>h')
def Ph(J:It)(g:TG)(l:TT)(k:TE)(Q:VK)(D:X8)(n:St)(H:Hp):Prop:=
 ∃ W:Nat->Nat->St->Hp->Prop,(∃m,W 0 m n H)/\∀i m d e,W i m d e->
   (J.stop i e/\Q (.ref D) e)\/(J.go i e/\∃f:St->Hp->Prop,(∀b c,f b c->∃j,j<m/\W (i+1) j b c)∧
     ∀ x H2,J.yld i e x H2->g x d H2 λa H3=>l a H3 λok H4=>
       if ok=true then k a H4 λy H5=>∃h,H5 D=some (.lst h)/\h.length<sizeLine/\f a (upd H5 D (.lst (h++ [y]))) else f a H4)
def JJ(js:List (Option Nat))(b:TI)(g:TG)(d:TT)(c:TE):TE:=λa H Q=>b a H λJ H1=>∀D,H1 D=none->Ph J g d c Q D (lW js a) (upd H1 D<|.lst [])
def KJ
  (S:aL X N js a R) (hc:X.calm=true) (hi:PI X tg P wi)
  (hg:∀C s H fp,PG (aR X N a R C s H fp) tg g) (ht:∀C s H fp,qy (aR X N a R C s H fp) b3 tt) (he:∀C s H fp,PE (aR X N a R C s H fp) a9 te)
  (hs:autoParam (∀x,foldedSetIterable P X.env x=pure x) ec._auto_1):PE X (.ListComp a9 [⟨tg,P,b3,0⟩] a b8) (JJ js wi g tt te):=by
 intro a7 s σ H Q I h
 rw[eval_ListComp]
 show wpAny_comprehension_free (use:=none) rfl hs S.clos S.kind S.names (di (hi a7 s σ H _ I h) λv s1 h1=>di h1 λd4 f h2=>?_)
 let#[it,fp,tn,J,H2,e,B,T,b1,f2,hD]:=h2
 subst e
 show QhQ<|wpAny_newFunctionEnv S.nocell (by intro y hy;simp at hy) (λL G t=>?_) S.kind
 dsimp only at G t|-
 generalize b0:f.heap.push {cls:=.type "list",dict:=none,data:=.seq ([]:List Value).toArray}=P2 at G t|-
 have hC:P2.objs.size=f.heap.objs.size+1:=by rw[<-b0,Heap.size_push]
 have c5:f.heap.objs.size≠P2.objs.size:=by rw[hC];show Qwq (Nat.lt_succ_self _)
 have a5:f.heap.objs.size<=P2.objs.size:=by rw[hC];show Nat.le_succ _
 have F:∀b,b<f.heap.objs.size->b≠P2.objs.size:=λb k=>by rw[hC];show Qwq (Nat.lt_succ_of_lt k)
 have U:∀b o,f.heap.get? b=some o->L.get? b=some o:=λb o e=>t.extBut b o (F b<|Qiq e) (Qcq _ (b0▸Qcq _ e))
 have c4:L.get? f.heap.objs.size=some {cls:=.type "list",dict:=none,data:=.seq ([]:List Value).toArray}:=t.extBut _ _ c5 (Qcq _ (b0▸Qrq _ rfl))
 have nD:H2 f.heap.objs.size=none:=B.fresh
 have nC:H2 P2.objs.size=none:=B.hok.fresh a5
 have b2:∀b∈fp,b<f.heap.objs.size:=λb k=>by
  let#[o,e,_]:=T.obj _ _ b1 b k
  show Qiq e
 let#[W,#[m0,w0],c6]:=hD f.heap.objs.size nD
 have b4:(aR X N a R P2.objs.size f H2 fp).Ok:=by
  show⟨B.ok.mod,S.kind,B.ok.glob,B.ok.blt,a5,λx y c h1 h2=>B.ok.inj x y c (S.sub x c h1) (S.sub y c h2),S.has,(λx c h=>by cases h),B.ok.hd,B.ok.frames,.inl rfl,
   λb k=>#[F b (b2 b k),λx c h=>(f2 b k).2.2.2.2.1 x c (S.sub x c h)],B.bs,QAq B.ok.bsz B.sz,λb o e k=>?_,λb k z=>?_,B.stack,B.stkFree⟩
  ·rcases(f2 b k).2.2.2.1 with z|z
   ·show B.ok.noex b o e z
   ·show absurd (Qqq (Qqq (Qiq e) B.ok.bsz) z)<|Nat.lt_irrefl _
  ·rcases Qsq.mp (B.stkSub b z) with q|q
   ·show(f2 b k).2.1 q
   ·show(f2 b k).2.2.1 q
 have c0:dF X.prog X.w (upd H2 f.heap.objs.size<|.lst []) L f.heap.objs.size (.lst []):=#[Nat.zero_le _,[],0,.nil,c4]
 have I4:Inv (aR X N a R P2.objs.size f H2 fp) [] (lW js σ) (upd H2 f.heap.objs.size<|.lst []) {f with heap:=L,toks:=f.toks+([]:List (Str×Value)).length}:=by
  show#[b4,rfl,B.bare,Un.laid U (Qmq _) nD,#[_,G,λi x v h1 h2 h3=>?_],λx c h=>?_,by show upd H2 _ _ P2.objs.size=none;rw[bF c5.symm];show nC,λx c h=>?_,λp hp=>absurd (show p∈([]:List (Addr×Obj)) from hp) (by simp),B.hok.laid U (Qmq _) c0,by show(lW js σ).length=N.length;unfold lW;rw[lQm];show S.len]
  ·unfold lW at h2
   rw[gQm] at h2
   cases e:js[i]? with
   |none=>rw[e] at h2;cases h2
   | some o=>
     rw[e] at h2
     cases o with
     |none=>cases h2
     | some j=>
       have a1:σ.getD j none=some v:=QdQ h2
       have hj:σ[j]?=some (some v):=by
         rw[Qlq] at a1
         cases q:σ[j]? with
         |none=>rw[q] at a1;cases a1
         |some y=>rw[q] at a1;show congrArg some a1
       let#[c1,c2,c3]:=S.cap i j x e h1
       let#[m,hn,hl]:=B.loc
       have d2:LZ X.env.scope x:=by
         rcases c2 with z|z
         · show .inr (.inl z)
         · show .inr (.inr z)
       let#[u,r,l]:=hl j x v c1 hj d2
       show#[u,r,.inr #[c3,?_]]
       let#[c,b7]:=S.has x c3
       show#[c,b7,?_]
       rcases l with⟨z,_⟩|⟨_,c',e',z⟩
       · rcases c2 with y|y <;>rw[y] at z <;>cases z
       · rw[S.sub x c b7] at e'
         cases e'
         let#[o,ho,hd]:=z
         show#[o,U _ _ ho,hd]
  ·let#[v,o,ho,hd]:=B.cell x c (S.sub x c h)
   show#[v,o,U _ _ ho,hd]
  ·let#[v,o,ho,hd]:=B.cell x c (S.sub x c h)
   rw[bF (Qwq<|Qiq ho)]
   show B.freeC x c<|S.sub x c h
 have a0:∀{M:X2} {Y:Hp},M= []->(∀b∈fp,Y b=none)->∀b∈fp,t7 (aR X N a R P2.objs.size f H2 fp) M Y b:=λ{M Y} ep hn b k=>by
  subst ep
  show#[hn b k,F b<|b2 b k,λz=>b4.exfs b k z,.inl k,λx c h=>(f2 b k).2.2.2.2.1 x c (S.sub x c h),λp hp=>absurd (show p∈([]:List (Addr×Obj)) from hp) (by simp)]
 have a6:codeAny (model X.prog X.w) X.A (.compLoop (.ListComp a9 [⟨tg,P,b3,0⟩] a b8) 0 (.ref it) (.ref f.heap.objs.size) (compEnvC a R P2.objs.size X.env))
   (compPost (model X.prog X.w) X.A X.xe none (EP X a7 σ Q) (.ref f.heap.objs.size) P2.objs.size) {f with heap:=L,toks:=f.toks+([]:List (Str×Value)).length}:=by
  show rO (λn s'=>∃i a2 Y,Inv (aR X N a R P2.objs.size f H2 fp) [] a2 Y s'/\tn i s'.heap/\(∀b∈fp,Y b=none)/\W i n a2 Y) ?_ m0
   #[0,_,_,I4,T.keep _ _ _ b1 λb _ o e=>U b o e,λb k=>by rw[bF (Qwq<|b2 b k)];show(f2 b k).1,w0]
  rintro n s3 ⟨i,a3,H3,I3,b6,b9,w3⟩
  rcases c6 i n a3 H3 w3 with⟨stop,q⟩|⟨go,Nx,hN,b5⟩
  ·show di (T.done (aR X N a R P2.objs.size f H2 fp) rfl rfl rfl hc i [] s3 a3 H3 _ I3 (a0 rfl b9) b6 stop) λr s4 Z=>?_
   let#[hr,I5]:=Z
   subst hr
   let#[m,hn,_]:=id I5.loc
   show#[m,hn,λh' a4=>#[.ref f.heap.objs.size,H3,?_,rfl,q]]
   let u:=I5.base
   have ne:∀b o,f.heap.get? b=some o->b≠P2.objs.size:=λb o e=>F b (Qiq e)
   show B.call' (ch:=fp) I5.os #[λb o e n k hx=>(a4.2 b<|ne b o e).trans (u.keep b o e n k hx),λb o e n k hx=>?_,u.free,λb o e hx=>?_,u.tups,u.frzs,u.tbls] (λb ob e=>?_) I5.bare λb k=>#[(f2 b k).2.2.2.1,(f2 b k).2.1,(f2 b k).2.2.2.2.1,(f2 b k).2.2.2.2.2]
   ·let#[sl,e1]:=u.slot b o e n k hx
    show#[sl,(a4.2 b<|ne b o e).trans e1]
   ·let#[o',e1]:=u.there b o e hx
    show#[o',(a4.2 b<|ne b o e).trans e1]
   ·show(I5.hok b ob e).stay (λc w' hc q=>(a4.2 c ?_).trans q) (λ_ q=>q) λ_ _ q=>q
    have fC:H3 P2.objs.size=none:=I5.free
    rintro rfl
    rcases hc with z|z
    ·rw[<-z,fC] at e;cases e
    ·rw[fC] at z;cases z
  ·show di (T.item (aR X N a R P2.objs.size f H2 fp) rfl rfl rfl hc i [] s3 a3 H3 _ I3 (a0 rfl b9) b6 go) λr s4 Z=>?_
   let#[u,hr,h4]:=Z
   subst hr
   show di h4 λ_ s5 Z=>?_
   let#[x,H5,I5,r5,y5,a8,d1]:=Z
   let d3:=I5.pinned (a0 rfl d1) (T.obj _ _ a8)
   show di (hg P2.objs.size f H2 fp _ s5 a3 H5 x u _ d3 r5<|b5 x H5 y5) λ_ s6 Z=>?_
   let#[K,H6,I6,q6]:=Z
   show di (ht P2.objs.size f H2 fp _ s6 K H6 _ I6 q6) λok s7 Z=>?_
   let#[H7,I7,q7]:=Z
   have again:∀{s8:X4} {H8:Hp},Inv (aR X N a R P2.objs.size f H2 fp) ([]++qJ fp s5.heap) K H8 s8->Nx K H8->∃m,m<n/\∃i a2 Y,Inv (aR X N a R P2.objs.size f H2 fp) [] a2 Y s8/\tn i s8.heap/\(∀b∈fp,Y b=none)/\W i m a2 Y:=λ{s8 H8} I8 n8=>by
    let#[m',hm,w8]:=hN K H8 n8
    show#[m',hm,i+1,K,H8,I8.unpinned,T.keep _ _ _ a8 λb k o e=>(I8.pin (b,o)<|Qoq _<|Qoq _<|eg k e).1,λb k=>?_,w8]
    let#[o,e,d]:=T.obj _ _ a8 b k
    show(I8.pin (b,o)<|Qoq _<|Qoq _<|eg k e).2.1
   cases ok with
   |false=>show again I7 q7
   | true=>
     show di (he P2.objs.size f H2 fp _ s7 K H7 _ I7 q7) λyv s8 Z=>?_
     let#[y,H8,I8,ry,xs,hx,hl,n8]:=Z
     show di (sT (X:=aR X N a R P2.objs.size f H2 fp) _ s8 K H8 (.ref f.heap.objs.size) [y] (.ref f.heap.objs.size) [yv] (λ_ Y=>Nx K Y) I8 rfl (.cons ry .nil) #[_,xs,y,rfl,rfl,hx,hl,n8]) λ_ s9 Z=>?_
     let#[z,H9,I9,_,q9]:=Z
     show again I9 q9
 show codeAny_compStart_list a6<|T.self _ 0 _ _ _ (T.keep _ _ _ b1 λb _ o e=>U b o e) a6
def Jj:kM X (.builtin "isinstance") (λxs H Q=>∃x T t b,xs= [x,.ty T]/\tX X.K H x t/\PySem.W.kitOne X.K t (.type T)=some b/\Q (.bl b) H):=by
 intro a s g H xs f Q I r h
 let#[x,T,t,b,rfl,ty,e,q]:=h
 let#[u,c,rfl,rx,rt]:=vals2 r
 cases (show c=Value.type T from rt)
 show Hk I rx ty e λd=>#[.bl b,H,I.tok d,L,q]
noncomputable def FC:List V->List V->Bool
 | [],[]=>true
 |x::xs,y::ys=>uY x y&&FC xs ys
 |_,_=>false
theorem FB:∀{xs ys:List V},xs.length≠ys.length->FC xs ys=false
 | [],[],h=>absurd L h
 | [],_::_,_=>rfl
 |_::_,[],_=>rfl
 | x::xs,y::ys,h=>by
   have:=FB (xs:=xs) (ys:=ys) λe=>h (by simp[e])
   show(uY x y&&FC xs ys)=false
   rw[this,Bool.and_false]
theorem Gk:∀{xs ys:List V},xs.length=ys.length->(List.range xs.length).all (λj=>uY (xs.getD j .non)<|ys.getD j .non)=FC xs ys
 | [],[],_=>rfl
 | [],_::_,h=>by cases h
 |_::_,[],h=>by cases h
 | x::xs,y::ys,h=>by
   let a:=Gk (xs:=xs) (ys:=ys) (Nat.succ.inj h)
   rw[Qnq,List.range_succ_eq_map,List.all_cons,List.all_map]
   show(uY x y&&_)=(uY x y&&FC xs ys)
   rw[<-a]
   rfl
def Mw(r:bN xs a)(r':bN ys vs)(f:xs.all iU=true)(f':ys.all iU=true)(j:Nat)(h:j<a.toArray.size)(e:j<vs.toArray.size):
  SeqAt.EqAt A s a.toArray[j] vs.toArray[j] (uY (xs.getD j .non)<|ys.getD j .non):=by
 let n:=r.length
 let o:=r'.length
 have c:j<xs.length:=by rw[n];simpa using h
 have b:j<ys.length:=by rw[o];simpa using e
 let#[u,l,g]:=r.get (gQe c)
 let#[v,k,q]:=r'.get (gQe b)
 have i:xs.getD j .non=xs[j]:=by rw[Qlq,gQe c];rfl
 have d:ys.getD j .non=ys[j]:=by rw[Qlq,gQe b];rfl
 have m:a.toArray[j]=u:=by
  have:=(gQs.mp l).2
  simpa using this
 have p:vs.toArray[j]=v:=by
  have:=(gQs.mp k).2
  simpa using this
 rw[m,p,i,d]
 show JW g q (QUq.mp f _<|List.getElem_mem c)<|QUq.mp f' _<|List.getElem_mem b
def Pa(K:X1)(e:Bool):R2:=λx y H Q=>∃a b d c,x=.ref a/\y=.ref b/\jm K H a d/\jm K H b c/\d.all iU=true/\c.all iU=true/\Q (.bl (if e then !FC d c else FC d c)) H
def IJ{X:Cx}(o:X.A.units<cLine):mG X (compareOp .NotEq) (Pa X.K true):=by
 intro p s J H x y v u Q I B C h
 let#[a,b,g,m,rfl,rfl,ha,hb,fa,fb,q]:=h
 cases B
 cases C
 let#[c,r,n,G]:=I.list ha
 let#[l,i,d,F]:=I.list hb
 by_cases f:g.length=m.length
 ·have k:c.toArray.size=l.toArray.size:=by simp[<-r.length,<-i.length,f]
  show SeqAt.RcNeAt.lists (e:=λj=>uY (g.getD j .non)<|m.getD j .non) n.isList d.isList k o (λj z w=>Mw r i fa fb j z w) _ _ _ _ #[.bl _,H,I,L,?_]
  rw[show c.toArray.size=g.length by simp[r.length],Gk f]
  show q
 ·show SeqAt.RcNeAt.lists_lengths n.isList d.isList (by simpa [<-r.length,<-i.length] using f) o _ _ _ _ #[.bl _,H,I,L,?_]
  have t:Q (.bl (!FC g m)) H:=q
  rw[FB f] at t
  show t
def BU{bs:List Bool}{a:X5}(r:bN (bs.map V.bl) a){i:Nat}{v:Xd}(h:a.toArray[i]?=some v):v=.bool (bs.getD i false):=by
 have f:i<a.length:=by
  have:=(Array.getElem?_eq_some_iff.mp h).1
  simpa using this
 let l:=r.length
 rw[lQm] at l
 have b:i<bs.length:=by omega
 let#[u,e,q]:=r.get (i:=i) (x:=V.bl bs[i]) (by rw[gQm,gQe b];rfl)
 have c:a[i]?=some v:=by simpa using h
 rw[e] at c
 cases c
 have d:bs.getD i false=bs[i]:=by rw[Qlq,gQe b];rfl
 rw[d]
 show q
theorem CP:∀bs:List Bool,(List.range bs.length).all (λi=>bs.getD i false)=bs.all id
 | []=>rfl
 | b::bs=>by
   rw[Qnq,List.range_succ_eq_map,List.all_cons,List.all_map,List.all_cons,<-CP bs]
   rfl
theorem Dg:∀bs:List Bool,(List.range bs.length).any (λi=>bs.getD i false)=bs.any id
 | []=>rfl
 | b::bs=>by
   rw[Qnq,List.range_succ_eq_map,List.any_cons,List.any_map,List.any_cons,<-Dg bs]
   rfl
def LX(K:X1)(f:List Bool->Bool):List V->Hp->VK->Prop:=λc H Q=>∃a b,c= [.ref a]/\jm K H a (b.map V.bl)/\Q (.bl (f b)) H
def Hf{X:Cx}(p:X.calm=true):kM X (.builtin "all") (LX X.K λbs=>bs.all id):=by
 intro j s B H z F Q I r h
 let#[a,bs,rfl,ha,q]:=h
 let#[u,rfl,rx]:=vals1 r
 cases (show u=Value.ref a from rx)
 let#[c,g,f,y]:=I.list ha
 have m:c.toArray.size=bs.length:=by have:=g.length;simp at this;simp[this]
 have d:a<s.heap.objs.size:=by let#[o,e,_]:=f.isList;show Qiq e
 show call_all_walk<|wpAny_pyIter_list f.isList #[s.heap.objs.size,_,_,_,_,_,λi=>bs.getD i false,L,Walks.list (A:=X.A.in1) (show X.A.in1.handled=none from I.ok.hd p) s.heap.objs.size a (Qwq d) c.toArray,#[#[_,Qrq _ L,L,L],f.isList.at λo e=>Qcq _ e],?_,λh' w k=>?_]
 ·intro i v t C x n l
  rw[BU g n]
  show wpAny_truthy_bool l
 ·rw[m,CP]
  show#[.bl _,H,I.kept (h':=h') λb o e=>k b o ?_<|Qcq _ e,L,q]
  have:=Qiq e
  simp
  show Qwq this
def Gu{X:Cx}(p:X.calm=true):kM X (.builtin "any") (LX X.K λbs=>bs.any id):=by
 intro j s B H z F Q I r h
 let#[a,bs,rfl,ha,q]:=h
 let#[u,rfl,rx]:=vals1 r
 cases (show u=Value.ref a from rx)
 let#[c,g,f,y]:=I.list ha
 have m:c.toArray.size=bs.length:=by have:=g.length;simp at this;simp[this]
 have d:a<s.heap.objs.size:=by let#[o,e,_]:=f.isList;show Qiq e
 show call_any_walk<|wpAny_pyIter_list f.isList #[s.heap.objs.size,_,_,_,_,_,λi=>bs.getD i false,L,Walks.list (A:=X.A.in1) (show X.A.in1.handled=none from I.ok.hd p) s.heap.objs.size a (Qwq d) c.toArray,#[#[_,Qrq _ L,L,L],f.isList.at λo e=>Qcq _ e],?_,λh' w k=>?_]
 ·intro i v t C x n l
  rw[BU g n]
  show wpAny_truthy_bool l
 ·rw[m,Dg]
  show#[.bl _,H,I.kept (h':=h') λb o e=>k b o ?_<|Qcq _ e,L,q]
  have:=Qiq e
  simp
  show Qwq this
end L2
namespace Dk
open PySem
def wq:mroOf (Value.type "dict")=pure [Value.type "dict",Value.type "object"]:=by
 rw[mroOf_type]
 rfl
def u3:typeLookup (Value.type "dict") (Str.ofString "__new__")=pure (some<|Value.builtin "dict.__new__"):=by
 rw[typeLookup_type,builtinLookup_eq_fast]
 rfl
def Dl:isSubtype (Value.type "dict") (Value.type "dict")=pure true:=by
 rw[isSubtype_type]
 rfl
def jl:plainId "dict.__new__"=true:=by decide +kernel
def dU:TypeCalled "dict" "dict.__new__" "dict.__init__" where
 notType:=by decide +kernel
 canCreate:=by decide +kernel
 mro:=#[_,_,wq]
 made:=madeBy_type wq u3 (by decide +kernel)
 plain:=jl
 sub:=Dl
 init:=F.slot_dict_init
def vm(a:Xd):checkTypeCall "dict" {pos:= [a]}=pure ():=by rfl
def v7(a:Xd):checkBuiltinCall "dict.__new__" {pos:= [Value.type "dict",a]}=pure ():=by with_unfolding_all rfl
def wY:entryFor table "dict.__new__"=some Builtin.«dict.__new__»:=by rfl
def vd{E:X0}{s:X4}(a:Xd){Q₁:X0}
  (h:Q₁ (.ref s.heap.objs.size) {s with heap:=s.heap.push {cls:=.type "dict",data:=.dict (List.toArray [])}}):
  codeAny (model prog w) A (.call (.builtin "dict.__new__") {pos:= [.type "dict",a]}) (wants Q₁ E) s:=by
 show codeAny_of_tree ?_
 show wpAny _ _ (do checkBuiltinCall "dict.__new__" _;_) _ _ _
 show Qaq<|wpAny_of_eq (v7 a)<|Qgq #[plainId_quiet jl _,codeAny_builtin wY ?_]
 rw[Around.under_plainId jl]
 show Qaq<|Qgq<|QgQ L<|Qaq<|wpAny_of_eq Dl<|QgQ L<|Qaq<|wpAny_of_eq wq<|QgQ ?_ ?_
 ·rfl
 ·show Qaq ?_
  have e:newObj (.type "dict") (.dict (List.toArray []))=newObjAsIs (.type "dict") (.dict (List.toArray [])):=by
   unfold newObj
   simp
  rw[e]
  show Qaq<|wpAny_alloc<|Qgq<|Qgq h
def Da{A:X_}{E:X0}{s:X4}{Q:X0}
  (h:wpAny (model prog w) A.in1.in1 (Builtin.«dict.__init__» {pos:= [.ref s.heap.objs.size,a]})
   (λm l=>match m with|.done f=>wants (λr b=>r=.none/\Q (.ref s.heap.objs.size) b) E (.ok f) l|.again x=>x.quiet=true/\codeAny (model prog w) A.in1 x (wants (λr b=>r=.none/\Q (.ref s.heap.objs.size) b) E) l)
   (λe l=>wants (λr b=>r=.none/\Q (.ref s.heap.objs.size) b) E (.error e) l) {s with heap:=s.heap.push {cls:=.type "dict",data:=.dict (List.toArray [])}}):
  wpAny (model prog w) A (call (.type "dict") [a]) Q E s:=by
 let#[c,C,k]:=dU.mro
 let g:=dU.made
 let j:=dU.sub
 show wpAny_call<|codeAny_of_tree ?_
 show Qgq #[Code.quiet_builtin _ (by decide +kernel),codeAny_builtin F.entry_type_call ?_]
 rw[Around.under_plain (weight_type_call_type "dict" [a] []) L]
 let G:=dU.notType
 let y:=dU.canCreate
 let q:=vm a
 unfold Builtin.«type.__call__»
 dsimp only
 show QgQ L ?_
 show QgQ (by rw[y];rfl) ?_
 show Qaq<|wpAny_of_eq q<|Qaq<|wpAny_of_eq k<|QgQ L<|Qaq<|wpAny_of_eq g<|Qaq<|Qgq<|Qaq<|QLq<|wpAny_call (codeAny_mono (vd (E:=E) (Q₁:=λv d=>v=.ref s.heap.objs.size/\d={s with heap:=s.heap.push {cls:=.type "dict",data:=.dict (List.toArray [])}}) a #[L,L]) λr d i=>?_)
 cases r with
 |error e=>show i
 | ok t=>
   cases t with
   | ret z=>
     let#[rfl,rfl]:=i
     let B:=Qrq s.heap (o:={cls:=.type "dict",data:=.dict (List.toArray [])}) L
     have n:Shared.TypeIs {s with heap:=s.heap.push {cls:=.type "dict",data:=.dict (List.toArray [])}} (.ref s.heap.objs.size) "dict":=#[_,B,L]
     let u:=dU.init.lookup
     let p:=dU.init.bind (.ref s.heap.objs.size)
     show Qaq<|wpAny_isInstance n j<|QgQ L<|Qaq<|QLq ?_
     unfold callSpecial?
     show Qaq<|wpAny_specialOf n u<|QLq<|Qaq<|wpAny_of_eq p<|Qaq<|wpAny_call (codeAny_mono (codeAny_call_builtin dU.init.plain F.entry_dict_init<|dU.init.check _ _ _ _ _ [a] [] _ n (F.args_dict_init_2 _ _) h) λr b i=>?_)
     cases r with
     |error e=>show i
     | ok t=>
       cases t with
       | ret v=>
         let#[rfl,hq]:=i
         show Qgq<|QgQ L<|Qgq hq
       |_=>show i.elim
   |_=>show i.elim
def mB:entryFor table "dict.update.loop"=some Builtin.«dict.update.loop»:=by rfl
def iL:plainId "dict.update.loop"=true:=by decide +kernel
section
variable{K:Type}[DecidableEq K]
def EM(a:List (K×Value))(k:K)(v:Xd):(stored a k v).length<=a.length+1:=by
 unfold stored
 split
 ·rw[lQm];omega
 ·rw[lQa];simp
noncomputable def Nu(b:Nat->K)(a:Nat->Value):Nat->List (K×Value)
 |0=> []
 |i+1=>stored (Nu b a i) (b i) (a i)
theorem F5(b:Nat->K)(a:Nat->Value):∀i,(Nu b a i).length<=i
 |0=>Qmq _
 |i+1=>QAq (EM _ _ _) (Nat.succ_le_succ<|F5 b a i)
end
end Dk
namespace L2
open PyProof.Rows
def key_is(r:RelV (kV k) u)(P:X9)(w:Xc):(cq P w).is k u=true:=by
 cases k with
 |inl i=>let#[t,rfl]:=(show∃t,u=Value.int i t from r);simp[cq,uQ,Value.isInt]
 |inr x=>let#[t,rfl]:=(show∃t,u=Value.str x t from r);simp[cq,uQ,Value.isStrOf]
end L2
namespace Dk
open PySem
end Dk
namespace L2
open PyProof.Rows
def Ky{X:Cx}{N:X6}{js:List (Option Nat)}{a:Scope}{Y:List (Str×Addr)}{tg M a6 G:Expr}{a8:List Expr}{b2 a9:Pos}{wi:TI}{g gt:TG}{tt:TT}{te:TE}
  (S:aL X N js a Y) (hc:X.calm=true) (hi:PI X tg M wi)
  (hg:∀C s H fp,PG (aR X N a Y C s H fp) tg g) (ht:∀C s H fp,qy (aR X N a Y C s H fp) a8 tt) (he:∀C s H fp,PE (aR X N a Y C s H fp) a6 te) (d8:PG X G gt)
  (hs:autoParam (∀x,foldedSetIterable M X.env x=pure x) ec._auto_1) (d9:autoParam (swapsWithSole [G] (.ListComp a6 [⟨tg,M,a8,0⟩] a b2) a9.line X.env=pure true) dO._auto_1)
  (h1:autoParam ((assignEach [G] X.env).map (·.2)= [assign G X.env]) dO._auto_1):PS X (.Assign [G] (.ListComp a6 [#[tg,M,a8,0]] a b2) a9) (Hj (JJ js wi g tt te) gt):=by
 intro U s σ H Dn I h
 rw[exec_Assign_arm]
 show Qaq<|wpAny_standAt<|Qaq<|wpAny_of_eq d9<|wpAny_ite_true rfl<|Qaq ?_
 rw[h1]
 show wpAny _ _ (do let _<-comprehension _ _ _ _ _ _ _ (some λv=>assignAll v [assign G X.env]);pure ()) _ _ _
 show Qaq ?_
 show wpAny_comprehension_free (use:=some λv=>assignAll v [assign G X.env]) rfl hs S.clos S.kind S.names (di (hi U s σ H _ I h) λv s1 h1=>di h1 λe2 k h2=>?_)
 let#[it,fp,tn,J,H2,e,B,T,b4,f2,hD]:=h2
 subst e
 show QhQ<|wpAny_newFunctionEnv S.nocell (by intro y hy;simp at hy) (λP L t=>?_) S.kind
 dsimp only at L t|-
 generalize b3:k.heap.push {cls:=.type "list",dict:=none,data:=.seq ([]:List Value).toArray}=P2 at L t|-
 have hC:P2.objs.size=k.heap.objs.size+1:=by rw[<-b3,Heap.size_push]
 have c6:k.heap.objs.size≠P2.objs.size:=by rw[hC];show Qwq (Nat.lt_succ_self _)
 have a1:k.heap.objs.size<=P2.objs.size:=by rw[hC];show Nat.le_succ _
 have K:∀b,b<k.heap.objs.size->b≠P2.objs.size:=λb f=>by rw[hC];show Qwq (Nat.lt_succ_of_lt f)
 have Z:∀b o,k.heap.get? b=some o->P.get? b=some o:=λb o e=>t.extBut b o (K b<|Qiq e) (Qcq _ (b3▸Qcq _ e))
 have c5:P.get? k.heap.objs.size=some {cls:=.type "list",dict:=none,data:=.seq ([]:List Value).toArray}:=t.extBut _ _ c6 (Qcq _ (b3▸Qrq _ rfl))
 have nD:H2 k.heap.objs.size=none:=B.fresh
 have nC:H2 P2.objs.size=none:=B.hok.fresh a1
 have b5:∀b∈fp,b<k.heap.objs.size:=λb f=>by
  let#[o,e,_]:=T.obj _ _ b4 b f
  show Qiq e
 let#[W,#[m0,w0],d2]:=hD k.heap.objs.size nD
 have b6:(aR X N a Y P2.objs.size k H2 fp).Ok:=by
  show⟨B.ok.mod,S.kind,B.ok.glob,B.ok.blt,a1,λx y c h1 h2=>B.ok.inj x y c (S.sub x c h1) (S.sub y c h2),S.has,(λx c h=>by cases h),B.ok.hd,B.ok.frames,.inl rfl,
   λb f=>#[K b (b5 b f),λx c h=>(f2 b f).2.2.2.2.1 x c (S.sub x c h)],B.bs,QAq B.ok.bsz B.sz,λb o e f=>?_,λb f z=>?_,B.stack,B.stkFree⟩
  ·rcases(f2 b f).2.2.2.1 with z|z
   ·show B.ok.noex b o e z
   ·show absurd (Qqq (Qqq (Qiq e) B.ok.bsz) z)<|Nat.lt_irrefl _
  ·rcases Qsq.mp (B.stkSub b z) with q|q
   ·show(f2 b f).2.1 q
   ·show(f2 b f).2.2.1 q
 have c4:dF X.prog X.w (upd H2 k.heap.objs.size<|.lst []) P k.heap.objs.size (.lst []):=#[Nat.zero_le _,[],0,.nil,c5]
 have I4:Inv (aR X N a Y P2.objs.size k H2 fp) [] (lW js σ) (upd H2 k.heap.objs.size<|.lst []) {k with heap:=P,toks:=k.toks+([]:List (Str×Value)).length}:=by
  show#[b6,rfl,B.bare,Un.laid Z (Qmq _) nD,#[_,L,λi x v h1 h2 h3=>?_],λx c h=>?_,by show upd H2 _ _ P2.objs.size=none;rw[bF c6.symm];show nC,λx c h=>?_,λp hp=>absurd (show p∈([]:List (Addr×Obj)) from hp) (by simp),B.hok.laid Z (Qmq _) c4,by show(lW js σ).length=N.length;unfold lW;rw[lQm];show S.len]
  ·unfold lW at h2
   rw[gQm] at h2
   cases e:js[i]? with
   |none=>rw[e] at h2;cases h2
   | some o=>
     rw[e] at h2
     cases o with
     |none=>cases h2
     | some j=>
       have a3:σ.getD j none=some v:=QdQ h2
       have hj:σ[j]?=some (some v):=by
         rw[Qlq] at a3
         cases q:σ[j]? with
         |none=>rw[q] at a3;cases a3
         |some y=>rw[q] at a3;show congrArg some a3
       let#[c1,c2,c3]:=S.cap i j x e h1
       let#[m,hn,hl]:=B.loc
       have d7:LZ X.env.scope x:=by
         rcases c2 with z|z
         · show .inr (.inl z)
         · show .inr (.inr z)
       let#[u,r,l]:=hl j x v c1 hj d7
       show#[u,r,.inr #[c3,?_]]
       let#[c,b9]:=S.has x c3
       show#[c,b9,?_]
       rcases l with⟨z,_⟩|⟨_,c',e',z⟩
       · rcases c2 with y|y <;>rw[y] at z <;>cases z
       · rw[S.sub x c b9] at e'
         cases e'
         let#[o,ho,hd]:=z
         show#[o,Z _ _ ho,hd]
  ·let#[v,o,ho,hd]:=B.cell x c (S.sub x c h)
   show#[v,o,Z _ _ ho,hd]
  ·let#[v,o,ho,hd]:=B.cell x c (S.sub x c h)
   rw[bF (Qwq<|Qiq ho)]
   show B.freeC x c<|S.sub x c h
 have a2:∀{Q:X2} {H':Hp},Q= []->(∀b∈fp,H' b=none)->∀b∈fp,t7 (aR X N a Y P2.objs.size k H2 fp) Q H' b:=λ{Q H'} ep hn b f=>by
  subst ep
  show#[hn b f,K b<|b5 b f,λz=>b6.exfs b f z,.inl f,λx c h=>(f2 b f).2.2.2.2.1 x c (S.sub x c h),λp hp=>absurd (show p∈([]:List (Addr×Obj)) from hp) (by simp)]
 have b0:codeAny (model X.prog X.w) X.A (.compLoop (.ListComp a6 [⟨tg,M,a8,0⟩] a b2) 0 (.ref it) (.ref k.heap.objs.size) (compEnvC a Y P2.objs.size X.env))
   (compPost (model X.prog X.w) X.A X.xe (some λv=>assignAll v [assign G X.env]) (λ_ s9=>wpAny (model X.prog X.w) X.A (pure ()) (λ_ d3=>wpAny (model X.prog X.w) X.A (pure Flow.next) (SP X U Dn) X.xe d3) X.xe s9) (.ref k.heap.objs.size) P2.objs.size) {k with heap:=P,toks:=k.toks+([]:List (Str×Value)).length}:=by
  show rO (λn s'=>∃i a4 H',Inv (aR X N a Y P2.objs.size k H2 fp) [] a4 H' s'/\tn i s'.heap/\(∀b∈fp,H' b=none)/\W i n a4 H') ?_ m0
   #[0,_,_,I4,T.keep _ _ _ b4 λb _ o e=>Z b o e,λb f=>by rw[bF (Qwq<|b5 b f)];show(f2 b f).1,w0]
  rintro n s3 ⟨i,a5,H3,I3,b8,c0,w3⟩
  rcases d2 i n a5 H3 w3 with⟨stop,q⟩|⟨go,Nx,hN,b7⟩
  ·show di (T.done (aR X N a Y P2.objs.size k H2 fp) rfl rfl rfl hc i [] s3 a5 H3 _ I3 (a2 rfl c0) b8 stop) λr s4 R=>?_
   let#[hr,I5]:=R
   subst hr
   let#[m,hn,_]:=id I5.loc
   have d5:∀h',Heap.SameBut P2.objs.size s4.heap h'->Inv X U σ H3 {s4 with heap:=h'}:=by
    intro h' a0
    let u:=I5.base
    have ne:∀b o,k.heap.get? b=some o->b≠P2.objs.size:=λb o e=>K b (Qiq e)
    show B.call' (ch:=fp) I5.os #[λb o e n f hx=>(a0.2 b<|ne b o e).trans (u.keep b o e n f hx),λb o e n f hx=>?_,u.free,λb o e hx=>?_,u.tups,u.frzs,u.tbls] (λb ob e=>?_) I5.bare λb f=>#[(f2 b f).2.2.2.1,(f2 b f).2.1,(f2 b f).2.2.2.2.1,(f2 b f).2.2.2.2.2]
    ·let#[sl,e1]:=u.slot b o e n f hx
     show#[sl,(a0.2 b<|ne b o e).trans e1]
    ·let#[o',e1]:=u.there b o e hx
     show#[o',(a0.2 b<|ne b o e).trans e1]
    ·show(I5.hok b ob e).stay (λc w' hc q=>(a0.2 c ?_).trans q) (λ_ q=>q) λ_ _ q=>q
     have fC:H3 P2.objs.size=none:=I5.free
     rintro rfl
     rcases hc with z|z
     ·rw[<-z,fC] at e;cases e
     ·rw[fC] at z;cases z
   let IX:=d5 s4.heap #[rfl,λ_ _=>rfl]
   have a7:t7 X U H3 P2.objs.size:=B.fpOk a1 I5.free
   let#[oC,es,ep,d1,xP,d4]:=hn
   let IP:=IX.pinned (fp:= [P2.objs.size]) (λb f=>by rw[Qfq] at f;rw[f];show a7) (λb f=>by rw[Qfq] at f;rw[f];show#[oC,d1,λv=>by rw[xP];simp])
   show wpAny _ _ (assignAll (.ref k.heap.objs.size) [assign G X.env]) _ _ _
   rw[assignAll.eq_2]
   show di (d8 _ s4 σ H3 (.ref k.heap.objs.size) (.ref k.heap.objs.size) _ IP rfl q) λ_ s6 R=>?_
   let#[F,H6,I6,q6]:=R
   let pC:=I6.pin (P2.objs.size,oC) (Qoq _<|Qoq _<|eg (Qfq.mpr rfl) d1)
   show#[m,#[oC,es,ep,pC.1,xP,d4],λh' a0=>Qgq<|Qgq #[F,H6,?_,q6]]
   show I6.unpinned.turned (it:=P2.objs.size) (t':=s6.toks) (λb o' f e=>(a0.2 b f).trans e) pC.2.1 pC.2.2.1 a7.2.2.2.1 a7.2.2.2.2.1 a7.2.2.2.2.2
  ·show di (T.item (aR X N a Y P2.objs.size k H2 fp) rfl rfl rfl hc i [] s3 a5 H3 _ I3 (a2 rfl c0) b8 go) λr s4 R=>?_
   let#[u,hr,h4]:=R
   subst hr
   show di h4 λ_ s5 R=>?_
   let#[x,H5,I5,r5,y5,b1,d6]:=R
   let e0:=I5.pinned (a2 rfl d6) (T.obj _ _ b1)
   show di (hg P2.objs.size k H2 fp _ s5 a5 H5 x u _ e0 r5<|b7 x H5 y5) λ_ s6 R=>?_
   let#[F,H6,I6,q6]:=R
   show di (ht P2.objs.size k H2 fp _ s6 F H6 _ I6 q6) λok s7 R=>?_
   let#[H7,I7,q7]:=R
   have again:∀{s8:X4} {H8:Hp},Inv (aR X N a Y P2.objs.size k H2 fp) ([]++qJ fp s5.heap) F H8 s8->Nx F H8->∃m,m<n/\∃i a4 H',Inv (aR X N a Y P2.objs.size k H2 fp) [] a4 H' s8/\tn i s8.heap/\(∀b∈fp,H' b=none)/\W i m a4 H':=λ{s8 H8} I8 n8=>by
    let#[m',hm,w8]:=hN F H8 n8
    show#[m',hm,i+1,F,H8,I8.unpinned,T.keep _ _ _ b1 λb f o e=>(I8.pin (b,o)<|Qoq _<|Qoq _<|eg f e).1,λb f=>?_,w8]
    let#[o,e,d]:=T.obj _ _ b1 b f
    show(I8.pin (b,o)<|Qoq _<|Qoq _<|eg f e).2.1
   cases ok with
   |false=>show again I7 q7
   | true=>
     show di (he P2.objs.size k H2 fp _ s7 F H7 _ I7 q7) λyv s8 R=>?_
     let#[y,H8,I8,ry,xs,hx,hl,n8]:=R
     show di (sT (X:=aR X N a Y P2.objs.size k H2 fp) _ s8 F H8 (.ref k.heap.objs.size) [y] (.ref k.heap.objs.size) [yv] (λ_ H'=>Nx F H') I8 rfl (.cons ry .nil) #[_,xs,y,rfl,rfl,hx,hl,n8]) λ_ s9 R=>?_
     let#[z,H9,I9,_,q9]:=R
     show again I9 q9
 show codeAny_compStart_list b0<|T.self _ 0 _ _ _ (T.keep _ _ _ b4 λb _ o e=>Z b o e) b0
end L2
namespace Dk
open PySem
end Dk
namespace L2
open PyProof.Rows
def Lg(K:X1):List V->Hp->VK->Prop:=λd H Q=>∃(a:X8) (c:X6),d= [.ref a]/\jm K H a (c.map V.str)/\c.length<64/\∀(l:X8) (b:X6),H l=none->sortedS b=true->b.Perm c->Q (.ref l) (upd H l<|.lst (b.map V.str))
theorem zi:∀{ys:X6} {a:X5},bN (ys.map V.str) a->StrsAre a ys
 | [],_,r=>by cases r;show .nil
 | y::ys,_,r=>by
   cases r with
   | cons h t=>
     let#[b,rfl]:=h
     show .cons y b (zi t)
def Bk(h:StrsAre vs ss):bN (ss.map V.str) vs:=by
 induction h with
 |nil=>show .nil
 |cons y t _ a=>show .cons #[t,L] a
def zA:kM X (.builtin "sorted") (Lg X.K):=by
 intro m s A H z B Q I r h
 let#[a,j,rfl,ha,h64,q]:=h
 let#[u,rfl,rx]:=vals1 r
 cases (show u=Value.ref a from rx)
 let#[f,k,t,y]:=I.list ha
 have v:f.length=j.length:=by have:=k.length;simpa using this.symm
 have g:s.heap.objs.size<=s.heap.objs.size+1:=Nat.le_succ _
 show sorted_strs t.isList (zi k) (!0) λc d p l w=>?_
 let#[e,x]:=sortedAll_at s.heap f c
 have i:d.length=j.length:=l.length_eq
 show#[.ref (s.heap.objs.size+1),_,I.laid (a:=s.heap.objs.size+1) (o:=.lst (d.map V.str)) (h':=sortedAll s.heap f c) (t':=s.toks) (λb o n=>?_) g #[?_,c.toList,e,Bk p,?_],L,q _ d (I.hok.fresh g) w l]
 ·show sortedAll_old n
 ·rw[lQm,i]
  show QAq (nQl h64) (!1)
 ·simpa using x
end L2
namespace Zp
open PySem
def OE{E:X0}{s:X4}{Q:X0}(c:s.heap.IsTupleIter i t k)(g:s.heap.IsTuple t vs)(h:vs[k]?=some v)
  (q:∀h',h'.IsTupleIter i t (k+1)->Heap.SameBut i s.heap h'->Q v {s with heap:=h'}):wpAny (model prog w) A (Builtin.SmallTypes.nextOf<|.ref i) Q E s:=by
 let#[j,b,e,a]:=id c
 let#[m,f,_,l,d]:=g
 unfold Builtin.SmallTypes.nextOf
 show Qaq<|QiQ (name:=Str.ofString "__next__") c.typeIs F.slot_tuple_iterator_next<|wpAny_call_entry F.slot_tuple_iterator_next c.typeIs F.entry_tuple_iterator_next ?_<|F.args_tuple_iterator_next_1 _
 show(?_:wpAny _ _ (field (.ref i) 0 >>= _) _ _ s)
 show Qaq<|QMq b a (x:=.ref t) L ?_
 show(?_:wpAny _ _ (if (Value.ref t==Value.none)=true then _ else _) _ _ s)
 rw[Quq (λz=>by cases (show false=true from z))]
 show(?_:wpAny _ _ (field (.ref i) 1 >>= _) _ _ s)
 show Qaq<|QMq b a (x:=.int k 0) L ?_
 show(?_:wpAny _ _ (seqItems? (.ref t) >>= _) _ _ s)
 show Qaq<|wpAny_seqItems f d ?_
 erw[Int.toNat_natCast,h]
 show Qaq<|wpAny_setField b a (by simp)<|Qgq #[v,L,Qgq<|q _ #[_,Heap.get?_update_self _ b<|Obj.isFreed_of_fields<|Obj.data_mapFields a _,(Obj.cls_mapFields ..).trans e,?_]<|Heap.SameBut.update ..]
 rw[Obj.data_mapFields a]
 simp[rawInt]
def Ov{A:X_}{E:X0}{s:X4}(f:A.handled=none)(b:s.heap.IsTupleIter i t k)(j:s.heap.IsTuple t vs)(l:vs[k]?=none)
  (q:∀h' e,Heap.ExtBut i s.heap h'->(∃o,h'.get? e=some o/\o.cls=.type "StopIteration")->E (.ref e) {s with heap:=h'}):wpAny (model prog w) A (Builtin.SmallTypes.nextOf<|.ref i) Q E s:=by
 let#[p,c,n,d]:=id b
 let#[u,h,_,r,g]:=j
 unfold Builtin.SmallTypes.nextOf
 show Qaq<|QiQ (name:=Str.ofString "__next__") b.typeIs F.slot_tuple_iterator_next<|wpAny_call_entry F.slot_tuple_iterator_next b.typeIs F.entry_tuple_iterator_next ?_<|F.args_tuple_iterator_next_1 _
 show(?_:wpAny _ _ (field (.ref i) 0 >>= _) _ _ s)
 show Qaq<|QMq c d (x:=.ref t) L ?_
 show(?_:wpAny _ _ (if (Value.ref t==Value.none)=true then _ else _) _ _ s)
 rw[Quq (λz=>by cases (show false=true from z))]
 show(?_:wpAny _ _ (field (.ref i) 1 >>= _) _ _ s)
 show Qaq<|QMq c d (x:=.int k 0) L ?_
 show(?_:wpAny _ _ (seqItems? (.ref t) >>= _) _ _ s)
 show Qaq<|wpAny_seqItems h g ?_
 erw[Int.toNat_natCast,l]
 show Qaq<|wpAny_rule<|Qaq<|wpAny_setField c d (by simp) ?_
 show(?_:wpAny _ _ (newExc (.type "StopIteration") [] >>= _) _ _ _)
 show Qaq ?_
 erw[newExc,newTuple]
 show Qaq<|QhQ ?_ (by size_fits)
 show Qaq (m:=firstArgMember _ _)<|wpAny_of_eq (a:=Value.none) (by first|rfl|(erw[firstArgMember];rfl))<|QhQ ?_ (by size_fits)
 erw[raiseNew]
 show Qaq<|wpAny_handled ?_
 first|rw[show A.in1.handled=none from f]|rw[f]
 show Qaq<|Qgq<|wpAny_throw<|q _ _ (((Heap.SameBut.update ..).extBut.push _).push _) #[_,Qrq _ L,L]
def Rest(z O i j:X8)(h h':Xe):Prop:=∀c o,c≠z->c≠O->c≠i->c≠j->h.get? c=some o->h'.get? c=some o
end Zp
namespace L2
open PyProof.Rows
def Inv.turnedL{X:Cx}{a:X2}{d:St}{H:Hp}{s:X4}{h':Xe}{t':Nat}{fp:X7}(I:Inv X a d H s)(g:∀b∈fp,t7 X a H b)(k:∀b o,b∉fp->s.heap.get? b=some o->h'.get? b=some o):Inv X a d H {s with heap:=h',toks:=t'}:=by
 have h:∀b u,H b=some u->b∉fp:=λb u e z=>by rw[(g b z).1] at e;cases e
 show I.step (g':=s.gens) (d':=s.drawn) (ch:=fp) (λb i=>#[(g b i).2.2.2.1,(g b i).2.1,(g b i).2.2.2.2.1,(g b i).2.2.2.2.2]) (λb o _ _ f e _=>k b o f e) (λb o _ _ f e _=>#[o.slots,k b o f e]) (λ_ _ _ _ n=>n)
  (λb o f e=>#[o,k b o f e]) (λ_ _ e=>e) (λ_ _ _ e=>e) (λb w e=>#[(List.toArray []),by rw[e];simp]) (λm p=>?_) (λb u e=>?_) I.bare
 ·let#[o,l,t,j,r]:=p
  show#[o,l,t,k _ o (λz=>(g _ z).2.1 L) j,r]
 ·show(I.hok b u e).stay (λc v f q=>k c v ?_ q) (λ_ q=>q) λ_ _ q=>q
  rcases f with z|z
  ·rw[z];show h b u e
  ·show h c _ z
def Inv.turnedNew{X:Cx}{a:X2}{d:St}{H:Hp}{s:X4}{h':Xe}{t':Nat}{fp:X7}{p:X8}{o:HO}(I:Inv X a d H s)(h:∀b∈fp,t7 X a H b)(k:∀b u,b∉fp->s.heap.get? b=some u->h'.get? b=some u)(t:s.heap.objs.size<=p)
  (l:dF X.prog X.w (upd H p o) h' p o):Inv X a d (upd H p o) {s with heap:=h',toks:=t'}:=by
 let A:=I.hok.fresh t
 have j:∀b u,H b=some u->b∉fp:=λb u e z=>by rw[(h b z).1] at e;cases e
 have i:∀b u,H b=some u->upd H p o b=some u:=λb u e=>by rw[bF (gc e A)];show e
 show I.step (g':=s.gens) (d':=s.drawn) (ch:=fp) (λb f=>#[(h b f).2.2.2.1,(h b f).2.1,(h b f).2.2.2.2.1,(h b f).2.2.2.2.2]) (λb o _ _ g e _=>k b o g e) (λb o _ _ g e _=>#[o.slots,k b o g e])
  (λb u _ e n=>by rw[bF (λz=>Nat.lt_irrefl _<|Qqq (Qiq e) (by rw[z];show t))];show n)
  (λb o g e=>#[o,k b o g e]) (λb G e=>i b _ e) (λb u v e=>i b _ e) (λb F e=>#[(List.toArray []),by rw[i b _ e];simp]) (λm B=>?_) (λb u e=>?_) I.bare
 ·let#[o,y,C,x,r]:=B
  show#[o,y,C,k _ o (λz=>(h _ z).2.1 L) x,r]
 ·by_cases f:b=p
  ·subst f
   rw[cg] at e
   cases e
   show l
  ·rw[bF f] at e
   show(I.hok b u e).stay (λc v g q=>k c v ?_ q) (λc q=>i c _ q) λc _ q=>i c _ q
   rcases g with z|z
   ·rw[z];show j b u e
   ·show j c _ z
end L2
namespace Zp
open PySem PySem.W PyProof.Rows
noncomputable def sE:KasT (Array Nat)->List (Array Nat)
 |.ret p=> [p]
 |.ask _ _ k=>sE (k true)++sE (k false)
noncomputable def xB(n:Nat):KasT (Array Nat)->Bool
 |.ret _=>true
 |.ask i j k=>decide (i<n)&&decide (j<n)&&decide (i≠j)&&xB n (k true)&&xB n (k false)
def vB:∀n:Nat,n<=3->2<=n->xB n (kas_sort n)=true/\(sE<|kas_sort n).all (λp=>p.toList.isPerm<|List.range n)=true:=by
 intro n b a
 have:n=2\/n=3:=by omega
 rcases this with rfl|rfl
 ·decide +kernel
 ·decide +kernel
inductive fE(h:Xe):List Value->List Str->Prop
 |nil:fE h [] []
 |cons {a:X8} {o:Obj} {xs:Xa} {n:Nat} {x:Str} {t:Tok} {vs:X5} {fs:X6}:h.get? a=some o->o.cls=.type "tuple" ->o.data=.seq xs n->xs[0]?=some (.str x t)->fE h vs fs->fE h (.ref a::vs) (x::fs)
theorem fE.keep{h h':Xe}(k:∀a o,h.get? a=some o->o.cls=.type "tuple" ->h'.get? a=some o):∀{vs:X5} {fs:X6},fE h vs fs->fE h' vs fs
 |_,_,.nil=>.nil
 |_,_,.cons e c d f r=>.cons (k _ _ e c) c d f (r.keep k)
theorem fE.len:∀{vs:X5} {fs:X6},fE h vs fs->vs.length=fs.length
 |_,_,.nil=>rfl
 |_,_,.cons _ _ _ _ r=>congrArg (·+1) r.len
theorem fE.get:∀{vs:X5} {fs:X6} {i:Nat},fE h vs fs->i<fs.length->∃a o xs n t,vs.getD i Value.none=.ref a/\h.get? a=some o/\o.data=.seq xs n/\xs[0]?=some (.str (fs.getD i "") t)
 |_,_,0,.cons e c d f r,_=>#[_,_,_,_,_,L,e,d,f]
 | _,_,i+1,.cons e c d f r,hi=>by
   have:=r.get (i:=i) (by simpa using hi)
   simpa using this
 |_,_,_,.nil,hi=>by simp at hi
theorem fE.firsts:∀{vs:X5} {fs:X6},fE h vs fs->∃a:List Value,KatTups h vs a/\a.length=fs.length/\∀v∈a,∃x t,v=.str x t
 |_,_,.nil=>#[[],KatTups.nil,L,by simp]
 | _,_,.cons e c d f r=>by
   let#[a,k,l,m]:=r.firsts
   show⟨_::a,KatTups.cons e c d f k,by simp[l],λv b=>by
     rcases Qsq.mp b with z|z
     · show#[_,_,z]
     · show m v z⟩
end Zp
namespace L2
open PyProof.Rows
def KM:mG X (binaryOp .Mult) (rI IntMulOk λi j=>.int (i*j)):=PU λ_ _ _ _ _ _ _ a q=>mul_int q a
inductive yW(H:Hp):List Addr->List Str->Prop
 |nil:yW H [] []
 |cons {a:X8} {x:Str} {us:List V} {rs:X7} {ss:X6}:H a=some (.tup (.str x::us))->yW H rs ss->yW H (a::rs) (x::ss)
theorem Dd(I:Inv X b j H s):∀{rs:X7} {ss:X6},yW H rs ss->Zp.fE s.heap (rs.map Value.ref) ss
 |_,_,.nil=>.nil
 | _,_,.cons (a:=a) h r=>by
   let#[c,i,#[o,f,d,n,g],l]:=I.tuple (jM.of h)
   cases i with
   | cons e k=>
     let#[t,rfl]:=e
     show .cons (t:=t) f d g (by simp) (Dd I r)
theorem yD:∀{rs:X7} {b:X5},bN (rs.map V.ref) b->b=rs.map Value.ref
 | [],_,r=>by cases r;rfl
 | a::rs,_,r=>by
   cases r with
   | cons h t=>
     cases h
     rw[yD t]
     rfl
theorem wG:∀(rs:X7),bN (rs.map V.ref) (rs.map Value.ref)
 | []=>.nil
 |a::rs=>.cons L (wG rs)
def HM:Pf X (λx y H Q=>∃p xs k v,x=.ref p/\y=.int ((k:Nat):Int)/\jm X.K H p xs/\xs[k]?=some v/\Q v H):=by
 intro b s m H x y v u Q I g i h
 let#[p,xs,k,z,rfl,rfl,hq,he,q]:=h
 cases g
 let#[t,rfl]:=i
 let#[d,r,f,l]:=I.list hq
 let#[c,e,a]:=r.get he
 have j:k<xs.length:=(gQs.mp he).1
 let n:=mH
 show wpAny_getItem_list f.isList (x:=c) (Int.natCast_nonneg k) (!0) (by simpa using e) #[z,H,I,a,q]
def IR(K:X1):R2:=λx y H Q=>∃a b c,x=.ref a/\y=.ref b/\jm K H a c/\jm K H b []/\Q (.bl (!c.isEmpty)) H
def HN{X:Cx}(e:X.A.units<cLine):mG X (compareOp .NotEq) (IR X.K):=by
 intro c s n H x y v u Q I f g h
 let#[a,b,m,rfl,rfl,ha,hb,q]:=h
 cases m with
 |nil=>show IJ e c s n H _ _ v u Q I f g #[a,b,[],[],L,L,ha,hb,L,L,q]
 | cons z w=>
   cases f
   cases g
   let#[j,r,l,B]:=I.list ha
   let#[k,i,d,t]:=I.list hb
   let o:=r.length
   let p:=i.length
   show SeqAt.RcNeAt.lists_lengths l.isList d.isList (by simp[<-o,<-p]) e _ _ _ _ #[.bl true,H,I,L,q]
end L2
namespace HT
open PyProof.Rows
def o_{prog:X9}{w:Xc}{A:X_}{E:X0}{s:X4}{t b:X8}{items:Xa}{i f:Xd}{lo hi:Xb}{Q:X0}(ht:IsTup s.heap t items)(j:s.heap.IsSliceOf b i f .none)(o:IsPart i lo)(p:IsPart f hi)
  (g:ft items.size 0 lo=0/\ft items.size items.size hi=items.size) (h:Q (.ref t) s):wpAny (model prog w) A (getItem (.ref t)<|.ref b) Q E s:=by
 let#[n,d,c,l]:=id j
 have e:s.TypeIs (.ref b) "slice":=#[n,d,c]
 unfold getItem
 try with_reducible show QLq ?_
 first|show Qaq (Qgq ?_)|skip
 show Qaq<|wpAny_sequenceKey ht.typeIs (!1) ?_
 show Qaq (QiQ (name:=Str.ofString "__getitem__") ht.typeIs PyProof.Rows.slot_tuple_getitem
  (wpAny_call_entry PyProof.Rows.slot_tuple_getitem ht.typeIs entry_tuple_getitem ?_ (args_tuple_getitem _ _)))
 show wpAny _ _ (Builtin.Tuple.tupleItemsOf (.ref t) >>= _) _ _ s
 show Qaq<|tupleItemsOf_ ht ?_
 show Qaq<|wpAny_typeOf e ?_
 rw[Qhq (!1)]
 show Qaq<|ku j o p ?_
 have a:(((ft items.size 0 lo:Nat):Int)==0&&(1:Int)==1&&(ft items.size items.size hi-ft items.size 0 lo)==items.size)=true:=by
  rw[g.1,g.2]
  simp
 show wpAny _ _ (if (((ft items.size 0 lo:Nat):Int)==0&&(1:Int)==1&&(ft items.size items.size hi-ft items.size 0 lo)==items.size)=true then _ else _) _ _ s
 rw[Qhq a]
 have k:∀{A:X_} {E:X0} {R:Xf},R true s->wpAny (model prog w) A (Builtin.Tuple.tupleIsExact<|.ref t) R E s:=λ{A E R} h=>by
  unfold Builtin.Tuple.tupleIsExact
  show Qaq<|wpAny_typeOf ht.typeIs<|Qgq h
 show Qaq (m:=Builtin.Tuple.tupleIsExact _)<|k ?_
 rw[Qhq L]
 show Qaq<|wpAny_rule ?_
 show Qgq #[_,L,Qgq h]
end HT
namespace L2
open PyProof.Rows
def Q6(K:X1):V->Option Int->Option Int->Hp->VK->Prop:=λx c d H Q=>∃a b,x=.ref a/\jM K H a b∧
 (HT.ft b.length 0 c=0/\HT.ft b.length b.length d=b.length->Q (.ref a) H)/\(¬(HT.ft b.length 0 c=0/\HT.ft b.length b.length d=b.length)->∀p,H p=none->Q (.ref p) (upd H p<|.tup (A2 b c d)))
def Lp:P6 X (Q6 X.K):=by
 intro d s t H x v q o n m p Q I k l i j h
 let#[a,b,rfl,hx,q1,q2]:=h
 by_cases e:HT.ft b.length 0 n=0/\HT.ft b.length b.length m=b.length
 ·cases k
  let#[f,r,g,u]:=I.tuple hx
  have c:f.toArray.size=b.length:=by rw[Qjq];show r.length.symm
  show#["tuple",_,PyProof.Rows.slot_tuple_getitem.lookup,g.typeIs,?_]
  show HT.o_ g l i j (by rw[c];show e) #[.ref a,H,I,L,q1 e]
 ·show Mz d s t H _ v q o n m p Q I k l i j #[a,b,L,hx,e,q2 e]
end L2
namespace DL
open PyProof.Rows L2
inductive D where
 |non|bl (b:Bool)|int (i:Int)|str (x:Str)|tup (xs:List D)|ref (k:Nat)|fn (x:Str)
inductive O where
 |lst (xs:List D)|frz (xs:List D)|dct (kvs:List (Key×D))
abbrev aE:=List O
abbrev cG:=List (Option D)
structure Md where
 K:PySem.W.Frag
 mg:Str->Option Value
mutual
inductive Rel(M:Md)(ρ:X7)(H:Hp):D->V->Prop
 |non:Rel M ρ H .non .non
 |bl (b:Bool):Rel M ρ H (.bl b) (.bl b)
 |int (i:Int):Rel M ρ H (.int i) (.int i)
 |str (x:Str):Rel M ρ H (.str x) (.str x)
 |tup {a:X8} {vs:List V} {ds:List D}:H a=some (.tup vs)->bt M ρ H ds vs->Rel M ρ H (.tup ds) (.ref a)
 |ref {k:Nat} {a:X8}:ρ[k]?=some a->Rel M ρ H (.ref k) (.ref a)
 |fn {x:Str} {a:X8}:M.mg x=some (.ref a)->Rel M ρ H (.fn x) (.ref a)
inductive bt(M:Md)(ρ:X7)(H:Hp):List D->List V->Prop
 |nil:bt M ρ H [] []
 |cons {d:D} {v:V} {ds:List D} {vs:List V}:Rel M ρ H d v->bt M ρ H ds vs->bt M ρ H (d::ds) (v::vs)
end
def RV:HO->Prop
 |.tup _=>True
 |.frz _ _=>True
 |_=>False
structure cI(ρ:X7)(H:Hp)(g:X7)(s:Hp):Prop where
 pre:ρ <+: g
 new:∀a∈g,a∈ρ\/H a=none
 keep:∀a o,H a=some o->a∉ρ\/RV o->s a=some o
 grow:∀a,s a=none->H a=none
def cI.refl:cI ρ H ρ H:=#[List.prefix_refl _,λ_ h=>.inl h,λ_ _ h _=>h,λ_ h=>h]
def cI.trans{H1 H2:Hp}(e:cI ρ H b H1)(f:cI b H1 d H2):cI ρ H d H2 where
 pre:=e.pre.trans f.pre
 new:=λa h=>(f.new a h).elim (λh=>e.new a h) λh=>.inr (e.grow a h)
 keep:=λa o h c=>f.keep a o (e.keep a o h c) (c.imp (λn m=>(e.new a m).elim n λz=>by rw[z] at h;cases h) id)
 grow:=λa h=>e.grow a (f.grow a h)
def cI.laid{H:Hp}(h:H a=none):cI ρ H ρ (upd H a o) where
 pre:=List.prefix_refl _
 new:=λ_ h=>.inl h
 keep:=λb c e _=>by rw[bF];show e;intro z;subst z;rw[h] at e;cases e
 grow:=λb e=>by
  by_cases z:b=a
  ·subst z;show h
  ·rw[bF z] at e;show e
theorem mK:∀{l:List α},l.Nodup->∀{i j:Nat} {a:α},l[i]?=some a->l[j]?=some a->i=j
 | [],_,_,_,_,h,_=>by simp at h
 |x::l,n,0,0,_,_,_=>rfl
 | x::l,n,0,j+1,a,h1,h2=>by
   rw[List.nodup_cons] at n
   simp at h1 h2
   subst h1
   show absurd (mQg h2) n.1
 | x::l,n,i+1,0,a,h1,h2=>by
   rw[List.nodup_cons] at n
   simp at h1 h2
   subst h2
   show absurd (mQg h1) n.1
 | x::l,n,i+1,j+1,a,h1,h2=>by
   rw[List.nodup_cons] at n
   simp at h1 h2
   show congrArg (·+1)<|mK n.2 h1 h2
def cH(h:some (a,b)=some (c,d)):a=c/\b=d:=by cases h;show#[L,L]
def dz{α:Type}{l l':List α}(h:l <+: l'){k:Nat}{a:α}(e:l[k]?=some a):l'[k]?=some a:=by
 let#[t,rfl]:=h
 rw[QHq (gQs.mp e).1]
 show e
mutual
theorem Rel.ext(e:cI ρ H g s):∀{d:D} {v:V},Rel M ρ H d v->Rel M g s d v
 |_,_,.non=>.non
 |_,_,.bl b=>.bl b
 |_,_,.int i=>.int i
 |_,_,.str x=>.str x
 |_,_,.tup h hs=>.tup (e.keep _ _ h<|.inr trivial) (bt.ext e hs)
 |_,_,.ref h=>.ref (dz e.pre h)
 |_,_,.fn h=>.fn h
theorem bt.ext(e:cI ρ H g s):∀{ds:List D} {vs:List V},bt M ρ H ds vs->bt M g s ds vs
 |_,_,.nil=>.nil
 |_,_,.cons h hs=>.cons (Rel.ext e h) (bt.ext e hs)
end
mutual
theorem Rel.pre(e:ρ <+: g):∀{d:D} {v:V},Rel M ρ H d v->Rel M g H d v
 |_,_,.non=>.non
 |_,_,.bl b=>.bl b
 |_,_,.int i=>.int i
 |_,_,.str x=>.str x
 |_,_,.tup h hs=>.tup h (bt.pre e hs)
 |_,_,.ref h=>.ref (dz e h)
 |_,_,.fn h=>.fn h
theorem bt.pre(e:ρ <+: g):∀{ds:List D} {vs:List V},bt M ρ H ds vs->bt M g H ds vs
 |_,_,.nil=>.nil
 |_,_,.cons h hs=>.cons (Rel.pre e h) (bt.pre e hs)
end
theorem bt.length:∀{ds:List D} {vs:List V},bt M ρ H ds vs->ds.length=vs.length
 |_,_,.nil=>rfl
 |_,_,.cons _ h=>congrArg (·+1) h.length
theorem bt.append:∀{ds a:List D} {vs ws:List V},bt M ρ H ds vs->bt M ρ H a ws->bt M ρ H (ds++a) (vs++ws)
 |_,_,_,_,.nil,h=>h
 |_,_,_,_,.cons h hs,h'=>.cons h (hs.append h')
theorem bt.get:∀{ds:List D} {vs:List V} {i:Nat} {d:D},bt M ρ H ds vs->ds[i]?=some d->∃v,vs[i]?=some v/\Rel M ρ H d v
 |_,_,0,_,.cons h _,e=>by cases e;show#[_,L,h]
 |_,_,i+1,_,.cons _ hs,e=>hs.get (i:=i) (by simpa using e)
 |_,_,_,_,.nil,e=>by simp at e
theorem bt.set(h:Rel M ρ H d v):∀{ds:List D} {vs:List V} (i:Nat),bt M ρ H ds vs->bt M ρ H (ds.set i d) (vs.set i v)
 |_,_,_,.nil=>.nil
 |_,_,0,.cons _ t=>.cons h t
 |_,_,i+1,.cons q t=>.cons q (bt.set h i t)
theorem bt.take:∀{ds:List D} {vs:List V} (n:Nat),bt M ρ H ds vs->bt M ρ H (ds.take n) (vs.take n)
 |_,_,0,_=>.nil
 |_,_,_+1,.nil=>.nil
 |_,_,n+1,.cons h hs=>.cons h (hs.take n)
theorem bt.drop:∀{ds:List D} {vs:List V} (n:Nat),bt M ρ H ds vs->bt M ρ H (ds.drop n) (vs.drop n)
 |_,_,0,h=>h
 |_,_,_+1,.nil=>.nil
 |_,_,n+1,.cons _ hs=>hs.drop n
theorem bt.eraseIdx:∀{ds:List D} {vs:List V} (n:Nat),bt M ρ H ds vs->bt M ρ H (ds.eraseIdx n) (vs.eraseIdx n)
 |_,_,_,.nil=>.nil
 |_,_,0,.cons _ h=>h
 |_,_,n+1,.cons h hs=>.cons h (hs.eraseIdx n)
def bt.dropLast(h:bt M ρ H ds vs):bt M ρ H ds.dropLast vs.dropLast:=by
 rw[List.dropLast_eq_take,List.dropLast_eq_take,h.length]
 show h.take _
theorem bt.rep(h:bt M ρ H ds vs):∀k:Nat,bt M ρ H (List.replicate k ds).flatten (List.replicate k vs).flatten
 |0=>.nil
 |k+1=>by rw[QNq,QNq,List.flatten_cons,List.flatten_cons];show h.append (h.rep k)
def cN(M:Md)(ρ:X7)(H:Hp):List (Key×D)->List (Key×V)->Prop
 | [],kv=>kv= []
 |(k,d)::r,kv=>∃v t,kv=(k,v)::t/\Rel M ρ H d v/\cN M ρ H r t
theorem cN.imp(f:∀d v,Rel M ρ H d v->Rel M g s d v):∀{l:List (Key×D)} {kv:List (Key×V)},cN M ρ H l kv->cN M g s l kv
 | [],_,h=>h
 |(_,_)::_,_,#[v,t,e,h,hs]=>#[v,t,e,f _ _ h,cN.imp f hs]
theorem cN.length:∀{l:List (Key×D)} {kv:List (Key×V)},cN M ρ H l kv->l.length=kv.length
 | [],_,h=>by cases h;rfl
 |(_,_)::_,_,#[v,t,e,h,hs]=>by subst e;show congrArg (·+1) hs.length
def qU(M:Md)(ρ:X7)(H:Hp)(a:X8):O->Prop
 |.lst d=>∃b,H a=some (.lst b)/\bt M ρ H d b
 |.frz d=>∃b o,H a=some (.frz o (.lst b))/\bt M ρ H d b
 |.dct c=>∃e,H a=some (.dK e)/\cN M ρ H c e
structure gN(M:Md)(ρ:X7)(S:aE)(H:Hp):Prop where
 len:ρ.length=S.length
 nd:ρ.Nodup
 obj:∀(k:Nat) (a:X8) (o:O),ρ[k]?=some a->S[k]?=some o->qU M ρ H a o
def qU.lay(h:qU M ρ H a o)(j:H b=none):qU M ρ (upd H b u) a o:=by
 have e:cI ρ H ρ (upd H b u):=cI.laid j
 have i:∀{x},H a=some x->upd H b u a=some x:=λ{x} h=>by rw[bF];show h;intro z;subst z;rw[j] at h;cases h
 cases o with
 |lst m=>let#[f,d,c]:=h;show#[f,i d,c.ext e]
 |frz m=>let#[f,o,d,c]:=h;show#[f,o,i d,c.ext e]
 |dct k=>let#[l,d,c]:=h;show#[l,i d,c.imp λ_ _ r=>r.ext e]
def gN.lay(h:gN M ρ S H)(e:H b=none):gN M ρ S (upd H b u):=#[h.len,h.nd,λk a o d c=>(h.obj k a o d c).lay e]
theorem qU.pre(e:ρ <+: g)(h:qU M ρ H a o):qU M g H a o:=by
 cases o with
 |lst j=>let#[d,c,b]:=h;show#[d,c,b.pre e]
 |frz j=>let#[d,o,c,b]:=h;show#[d,o,c,b.pre e]
 |dct f=>let#[i,c,b]:=h;show#[i,c,b.imp λ_ _ r=>r.pre e]
def gN.box(h:gN M ρ S H)(m:a∉ρ)(i:qU M (ρ++ [a]) H a o):gN M (ρ++ [a]) (S++ [o]) H where
 len:=by rw[lQa,lQa,h.len];rfl
 nd:=by rw[List.nodup_append];show#[h.nd,by simp,λx l y f=>by rw[Qfq] at f;subst f;show λz=>m (z▸l)]
 obj:=λk b u d e=>by
  by_cases c:k<ρ.length
  ·rw[QHq c] at d
   rw[QHq (h.len▸c)] at e
   show(h.obj k b u d e).pre (List.prefix_append _ _)
  ·have c:ρ.length<=k:=Nat.le_of_not_lt c
   rw[QQq c] at d
   rw[QQq (h.len▸c)] at e
   have z:k-ρ.length=0:=by
    have:=(gQs.mp d).1
    simp at this
    omega
   have j:k-S.length=0:=by rw[<-h.len];show z
   rw[z] at d
   rw[j] at e
   cases d
   cases e
   show i
def gN.put(h:gN M ρ S H)(t:ρ[k]?=some a)(K:S[k]?=some o)(L:qU M ρ (upd H a u) a y)(G:∀x,H a=some x->¬RV x):gN M ρ (S.set k y) (upd H a u)/\cI ρ H ρ (upd H a u):=by
 have I:a∈ρ:=mQg t
 have e:cI ρ H ρ (upd H a u):=by
  show#[List.prefix_refl _,λ_ h=>.inl h,λb x A c=>?_,λb m=>?_]
  ·rw[bF]
   ·show A
   ·intro z
    subst z
    show c.elim (λn=>n I) λP=>G _ A P
  ·by_cases z:b=a
   ·subst z;rw[cg] at m;cases m
   ·rw[bF z] at m;show m
 show#[#[by rw[List.length_set];show h.len,h.nd,λj b p f l=>?_],e]
 by_cases c:j=k
 ·subst c
  rw[t] at f
  cases f
  rw[Qyq (gQs.mp K).1] at l
  cases l
  show L
 ·rw[QKq (Ne.symm c)] at l
  have w:b≠a:=by
   intro z
   subst z
   let B:=(gQs.mp f)
   let C:=(gQs.mp t)
   let#[B,R]:=B
   let#[C,Q]:=C
   show c<|mK h.nd f t
  let q:=h.obj j b p f l
  cases p with
  |lst J=>let#[v,d,i]:=q;show#[v,by rw[bF w];show d,i.ext e]
  |frz J=>let#[v,o,d,i]:=q;show#[v,o,by rw[bF w];show d,i.ext e]
  |dct F=>let#[N,d,i]:=q;show#[N,by rw[bF w];show d,i.imp λ_ _ r=>r.ext e]
structure En(M:Md)(ρ:X7)(H:Hp)(Γ:cG)(σ:L2.St):Prop where
 len:σ.length=Γ.length
 get:∀(i:Nat) (d:D),Γ[i]?=some (some d)->∃v,σ[i]?=some (some v)/\Rel M ρ H d v
def En.ext(h:En M ρ H c f)(e:cI ρ H a b):En M a b c f:=#[h.len,λi d q=>by let#[v,j,g]:=h.get i d q;show#[v,j,g.ext e]]
def En.set(h:En M ρ H a b)(r:Rel M ρ H d v):En M ρ H (a.set i<|some d) (b.set i<|some v) where
 len:=by rw[List.length_set,List.length_set];show h.len
 get:=λj e q=>by
  by_cases c:i=j
  ·subst c
   have l:i<a.length:=by
    have:=(gQs.mp q).1
    rwa [List.length_set] at this
   rw[Qyq l] at q
   cases q
   show#[v,Qyq (h.len▸l),r]
  ·rw[QKq c] at q|-
   show h.get j e q
structure Ok(M:Md)(ρ:X7)(Γ:cG)(S:aE)(σ:L2.St)(H:Hp):Prop where
 en:En M ρ H Γ σ
 st:gN M ρ S H
def Ok.to(h:Ok M ρ d S f H)(e:cI ρ H a b)(s:gN M a c b):Ok M a d c f b:=#[h.en.ext e,s]
abbrev bL:=cG->aE->Option (D×aE)
abbrev iD:=cG->aE->Option (List D×aE)
abbrev ke:=cG->aE->Option (Bool×aE)
def tD(M:Md)(f:bL):TE:=λh H Q=>∃e g S d c,Ok M e g S h H/\f g S=some (d,c)/\∀a v b,cI e H a b->gN M a c b->Rel M a b d v->Q v b
def tL(M:Md)(f:iD):TE:=λj H Q=>∃g h S i d,Ok M g h S j H/\f h S=some (i,d)∧
 ∀b a e c,cI g H b c->gN M b d c->H a=none->a∉b->c a=some (.lst e)->bt M b c i e->Q (.ref a) c
def Cy(M:Md)(f:iD):TA:=λi H Q=>∃e g S h c,Ok M e g S i H/\f g S=some (h,c)/\∀a d b,cI e H a b->gN M a c b->bt M a b h d->Q d b
def tB(M:Md)(f:ke):TT:=λh H Q=>∃e g S b d,Ok M e g S h H/\f g S=some (b,d)/\∀a c,cI e H a c->gN M a d c->Q b c
noncomputable abbrev md(X:Cx):Md:=#[X.K,X.mg]
def ko{t t':TE}(h:PE X e t)(w:∀b H Q,t' b H Q->t b H Q):PE X e t':=λa s b H Q I q=>h a s b H Q I (w _ _ _ q)
def PY{t t':TT}(h:PT X e t)(w:∀b H Q,t' b H Q->t b H Q):PT X e t':=λa s b H Q I q=>h a s b H Q I (w _ _ _ q)
def RJ{t t':TT}(h:PW X e t)(w:∀b H Q,t' b H Q->t b H Q):PW X e t':=λc a s b H Q I q=>h c a s b H Q I (w _ _ _ q)
def RM{t t':TA}(h:PA X d t)(w:∀b H Q,t' b H Q->t b H Q):PA X d t':=λc a s b H Q I q=>h c a s b H Q I (w _ _ _ q)
def Fp{t t':TS}(h:PS X e t)(w:∀D b H,t' D b H->t D b H):PS X e t':=λa s b H D I q=>h a s b H D I (w _ _ _ q)
def PR{t t':TS}(h:vj X e t)(w:∀D b H,t' D b H->t D b H):vj X e t':=λa s b H D I q=>h a s b H D I (w _ _ _ q)
noncomputable def ar(i:Nat):bL:=λa S=>match a[i]? with
 |some (some d)=>some (d,S)
 |_=>none
def Hv(h:ar i b S=some (d,a)):b[i]?=some (some d)/\a=S:=by
 unfold ar at h
 split at h
 ·cases h;show#[by assumption,L]
 ·cases h
def Oy(h:PE X e (Na i)):PE X e (tD (md X)<|ar i):=ko h λl H Q b=>by
 let#[c,k,S,d,j,ok,e,q]:=b
 let#[a,rfl]:=Hv e
 let#[v,g,f]:=ok.en.get i d a
 show#[v,g,q c v H cI.refl ok.st f]
noncomputable def cF(d:D):bL:=λ_ S=>some (d,S)
def oV(h:PE X e (tC v))(r:∀ρ H,Rel (md X) ρ H d v):PE X e (tD (md X)<|cF d):=ko h λg H Q a=>by
 let#[ρ,f,S,c,b,ok,e,q]:=a
 cases e
 show q ρ v H cI.refl ok.st<|r _ _
def Gd{i:Int}{j pos}:PE X (.Constant (.int i) j pos) (tD (md X)<|cF<|.int i):=oV Nk λ_ _=>.int i
def Sm{b:Bool}{j pos}:PE X (.Constant (.bool b) j pos) (tD (md X)<|cF<|.bl b):=oV OG λ_ _=>.bl b
def RO{j pos}:PE X (.Constant .none j pos) (tD (md X)<|cF .non):=oV MI λ_ _=>.non
def N8{x:Str}{j pos}:PE X (.Constant (.str x) j pos) (tD (md X)<|cF<|.str x):=oV Ng λ_ _=>.str x
noncomputable def bO(f:iD):bL:=λb S=>(f b S).bind λ(c,a)=>some (.ref a.length,a++ [.lst c])
def HV(h:PE X e (tL (md X) f)):PE X e (tD (md X)<|bO f):=ko h λz H Q t=>by
 let#[u,k,S,d,A,ok,e,q]:=t
 unfold bO at e
 cases j:f k S with
 |none=>rw[j] at e;cases e
 | some p=>
   let#[n,w]:=p
   rw[j] at e
   let#[rfl,rfl]:=cH e
   show#[u,k,S,n,w,ok,j,λg a m y x l o s v r=>?_]
   let i:=r.pre (List.prefix_append g [a])
   show q (g++ [a]) (.ref a) y #[x.pre.trans<|List.prefix_append _ _,λb c=>?_,x.keep,x.grow] (l.box s #[m,v,i])<|.ref ?_
   · rcases mQa.mp c with c|c
     · show x.new b c
     · rw[Qfq] at c;subst c;show .inr o
   · rw[<-l.len,QQq (Qmq _)]
     simp
noncomputable def av:iD:=λ_ S=>some ([],S)
noncomputable def aq(f:bL)(g:iD):iD:=λa S=>(f a S).bind λ(d,c)=>(g a c).bind λ(e,b)=>some (d::e,b)
def au{o:Option α}(h:o.bind f=some b):∃a,o=some a/\f a=some b:=by
 cases o with
 |none=>cases h
 |some a=>show#[a,L,h]
def jN:PA X [] (Cy (md X) av):=RM gX λg H Q a=>by
 let#[b,f,S,d,c,ok,e,q]:=a
 cases e
 show q b [] H cI.refl ok.st .nil
def dA(B:PE X e (tD (md X) f))(u:PA X a (Cy (md X) g))(y:autoParam (starEach (e::a) X.env=(false,eval e X.env)::starEach a X.env) dO._auto_1):PA X (e::a) (Cy (md X)<|aq f g):=
 RM (eB B u y) λC H Q s=>by
  let#[t,j,S,d,F,ok,e,q]:=s
  let#[#[x,l],A,e]:=au e
  let#[#[w,r],p,e]:=au e
  let#[rfl,rfl]:=cH e
  show#[t,j,S,x,l,ok,A,λi v H1 m b n=>#[i,j,l,w,r,ok.to m b,p,λc o H2 k h z=>?_]]
  show q c (v::o) H2 (m.trans k) h<|.cons (n.ext k) z
noncomputable def bp(f:iD):bL:=λc S=>(f c S).bind λ(a,b)=>if a.length<=sizeLine then some (.tup a,b) else none
def Ou{j:List Expr}{f:iD}{k pos}(h:PA X j (Cy (md X) f)):PE X (.Tuple j k pos) (tD (md X)<|bp f):=ko (Ms h) λv H Q m=>by
 let#[n,o,S,d,w,ok,e,q]:=m
 let#[#[l,s],r,e]:=au e
 dsimp only at e
 split at e
 ·rename_i c
  let#[rfl,rfl]:=cH e
  show#[n,o,S,l,s,ok,r,λb u H1 t a i=>#[i.length▸c,λp g=>?_]]
  show q b (.ref p) _ (t.trans<|cI.laid g) (a.lay g)<|.tup cg (i.ext<|cI.laid g)
 ·cases e
noncomputable def bD(f:iD):iD:=λc S=>(f c S).bind λ(a,b)=>if a.length<=sizeLine then some (a,b) else none
def dM(x:cI ρ H a c)(st:gN M a S c)(b:c p=none):p∉a:=λm=>by
 let#[k,d]:=List.getElem?_of_mem m
 have l:k<S.length:=st.len▸(gQs.mp d).1
 have:=st.obj k p _ d (gQe l)
 cases e:S[k] with
 |lst g=>rw[e] at this;let#[f,h,_]:=this;rw[b] at h;cases h
 |frz g=>rw[e] at this;let#[f,o,h,_]:=this;rw[b] at h;cases h
 |dct g=>rw[e] at this;let#[f,h,_]:=this;rw[b] at h;cases h
def Ig{k:List Expr}{f:iD}{pos}(h:PA X k (Cy (md X) f)):PE X (.List k pos) (tL (md X)<|bD f):=ko (NQ h) λu H Q n=>by
 let#[o,r,S,d,v,ok,e,q]:=n
 let#[#[m,t],s,e]:=au e
 dsimp only at e
 split at e
 ·rename_i c
  let#[rfl,rfl]:=cH e
  show#[o,r,S,m,t,ok,s,λg l H1 i a j=>#[j.length▸c,λp b=>?_]]
  show q g p l _ (i.trans<|cI.laid b) (a.lay b) (i.grow p b) (dM i a b) cg<|j.ext<|cI.laid b
 ·cases e
def JR:mG X (binaryOp .Add) (λx y H Q=>∃a b ys,x=.ref a/\y=.ref b/\jM X.K H a []/\jM X.K H b ys/\Q (.ref b) H):=by
 intro z s S H x y v u Q I M N h
 let#[a,b,ys,rfl,rfl,ha,j,q]:=h
 cases M
 cases N
 let#[L,C,G,_]:=I.tuple ha
 let#[g,U,j,_]:=I.tuple j
 cases C
 let#[#[B,P,r,J],w,A,n,p]:=id G
 let#[#[t,k,o,l],i,f,R,d]:=id j
 simp only at A p f d
 subst A p f d
 show concat_meets #[_,w,rfl] #[_,i,rfl] noFill_tuple_add seq_tuple_add PySem.F.slot_tuple_add PySem.F.entry_tuple_add (PySem.F.args_tuple_add_2 _ _)
   (tuple_addW0 a b _ g.toArray n R P k J l (by simp)) #[w,i,.ref b,H,I,rfl,q]
abbrev yh:=aE->D->D->Option D
def oZ(M:Md)(r:R2)(o:yh):Prop:=∀{f:X7} {S:aE} {H:Hp} {x y d:D} {u v:V} {Q:VK},gN M f S H->Rel M f H x u->Rel M f H y v->o S x y=some d->(∀w g,cI f H f g->gN M f S g->Rel M f g d w->Q w g)->r u v H Q
noncomputable def aQ(o:yh)(f g:bL):bL:=λi S=>(f i S).bind λ(x,j)=>(g i j).bind λ(y,h)=>(o h x y).bind λd=>some (d,h)
def uk(I:oZ (md X) r o)(h:PE X e (Ki r (tD (md X) f)<|tD (md X) g)):PE X e (tD (md X)<|aQ o f g):=ko h λR H Q J=>by
 let#[K,p,S,d,U,ok,e,q]:=J
 let#[#[x,t],M,e]:=au e
 let#[#[y,G],F,e]:=au e
 let#[P,N,e]:=au e
 let#[rfl,rfl]:=cH e
 show#[K,p,S,x,t,ok,M,λn v H1 u i B=>#[n,p,t,y,G,ok.to u i,F,λj w H2 s l L=>?_]]
 show I l (B.ext s) L N λA H3 C k z=>q j A H3 ((u.trans s).trans C) k z
noncomputable def cD:yh:=λ_ x y=>match x,y with
 |.int i,.int j=>some (.int (i+j))
 |.str i,.str j=>if i.length+j.length<=sizeLine then some (.str (i++j)) else none
 |.tup i,.tup j=>if i.length+j.length<=sizeLine then some (.tup (i++j)) else none
 |_,_=>none
abbrev PN(K:X1):R2:=λx y H Q=>(∃i j,x=.int i/\y=.int j/\Q (.int (i+j)) H)\/(∃i j,x=.str i/\y=.str j/\i.length+j.length<=sizeLine/\Q (.str (i++j)) H)∨
 (∃a b d,x=.ref a/\y=.ref b/\jM K H a []/\jM K H b d/\Q (.ref b) H)\/Me K x y H Q
def LG:mG X (binaryOp .Add) (PN X.K):=NL.or (EL.or<|JR.or Kw)
def M8:oZ M (PN M.K) cD:=by
 intro A S H x y d u v Q h r o e q
 cases r with
 |int i=>cases o <;>erw[cD,reduceCtorEq] at e;cases e;show .inl #[_,_,L,L,q _ _ cI.refl h<|.int _]
 | str i=>
   cases o <;>erw[cD,reduceCtorEq] at e
   split at e <;>cases e
   show .inr (.inl #[_,_,L,L,by assumption,q _ _ cI.refl h<|.str _])
 | tup k f=>
   cases o with
   | tup n j=>
     erw[cD] at e
     split at e <;>cases e
     rename_i s
     let t:=f.length
     let w:=j.length
     cases f with
     |nil=>show .inr (.inr (.inl #[_,_,_,L,L,jM.of k,jM.of n,q _ _ cI.refl h<|.tup n j]))
     | cons f g=>
       show .inr (.inr (.inr #[_,_,_,_,L,L,jM.of k,jM.of n,by simp,by rw[<-t,<-w];show s,λz=>?_,λz p l=>?_]))
       · subst z
         cases j
         rw[List.append_nil] at q
         show q _ _ cI.refl h<|.tup k (.cons f g)
       · show q _ _ (cI.laid l) (h.lay l)<|.tup cg ((bt.append (.cons f g) j).ext (cI.laid l))
   |_=>erw[cD,reduceCtorEq] at e
 |_=>erw[cD,reduceCtorEq] at e
def Sa(d:PE X a (tD (md X) f))(h:PE X b (tD (md X) g)):PE X (.BinOp a .Add b m) (tD (md X)<|aQ cD f g):=uk M8 (uT LG d h)
noncomputable def intD(C:Int->Int->Prop)[∀i j,Decidable (C i j)](k:Int->Int->D):yh:=λ_ x y=>match x,y with
 |.int i,.int j=>if C i j then some (k i j) else none
 |_,_=>none
def Ar{C:Int->Int->Prop}[∀i j,Decidable (C i j)]{k:Int->Int->D}{g:Int->Int->V}(h:∀i j ρ H,Rel M ρ H (k i j)<|g i j):oZ M (rI C g) (intD C k):=by
 intro ρ S H x y d u v Q l f n e q
 cases f <;>cases n <;>erw[intD,reduceCtorEq] at e
 split at e <;>cases e
 show#[_,_,L,L,by assumption,q _ _ cI.refl l<|h _ _ _ _]
def r8{k:Int->Int->D}{g:Int->Int->V}(h:∀i j ρ H,Rel M ρ H (k i j)<|g i j):oZ M (GU g) (intD (λ_ _=>True) k):=by
 intro ρ S H x y d u v Q l f n e q
 cases f <;>cases n <;>erw[intD,reduceCtorEq] at e
 rw[Qhq trivial] at e
 cases e
 show#[_,_,L,L,q _ _ cI.refl l<|h _ _ _ _]
instance{i j:Int}:Decidable (HJ i j):=by unfold HJ;infer_instance
instance{i j:Int}:Decidable (JP i j):=by unfold JP;infer_instance
open Classical in
noncomputable instance{i j:Int}:Decidable (IntMulOk i j):=Classical.propDecidable _
noncomputable abbrev kb:yh:=intD (λ_ _=>True) λi j=>.int (i-j)
noncomputable abbrev oX:yh:=intD IntMulOk λi j=>.int (i*j)
noncomputable abbrev u5:yh:=intD (λ_ j=>0<j) λi j=>.int (i%j)
noncomputable abbrev zr:yh:=intD HJ λi j=>.int (i/j)
noncomputable abbrev A5:yh:=intD JP λi j=>.int (i^j.toNat)
def Rz(d:PE X a (tD (md X) f))(h:PE X b (tD (md X) g)):PE X (.BinOp a .Sub b m) (tD (md X)<|aQ kb f g):=uk (r8 λi j _ _=>.int _) (uT MN d h)
def Ro(d:PE X a (tD (md X) f))(h:PE X b (tD (md X) g)):PE X (.BinOp a .Mult b m) (tD (md X)<|aQ oX f g):=uk (Ar λi j _ _=>.int _) (uT KM d h)
def Rk(d:PE X a (tD (md X) f))(h:PE X b (tD (md X) g)):PE X (.BinOp a .Mod b m) (tD (md X)<|aQ u5 f g):=uk (Ar λi j _ _=>.int _) (uT MW d h)
def Q_(d:PE X a (tD (md X) f))(h:PE X b (tD (md X) g)):PE X (.BinOp a .FloorDiv b m) (tD (md X)<|aQ zr f g):=uk (Ar λi j _ _=>.int _) (uT KN d h)
def Rx(d:PE X a (tD (md X) f))(h:PE X b (tD (md X) g)):PE X (.BinOp a .Pow b m) (tD (md X)<|aQ A5 f g):=uk (Ar λi j _ _=>.int _) (uT ND d h)
noncomputable def g6(f:bL):bL:=λh S=>(f h S).bind λ(d,g)=>match d with
 |.int i=>some (.int (-i),g)
 |_=>none
def R1(o:PE X a (tD (md X) f)):PE X (.UnaryOp .USub a m) (tD (md X)<|g6 f):=ko (Oi Mx o) λs H Q j=>by
 let#[k,l,S,d,t,ok,e,q]:=j
 let#[#[x,p],n,e]:=au e
 dsimp only at e
 split at e
 ·let#[rfl,rfl]:=cH e
  show#[k,l,S,_,p,ok,n,λi v H1 r g h=>?_]
  cases h
  show#[_,L,q _ _ _ r g<|.int _]
 ·cases e
noncomputable def xT:D->Option V
 |.non=>some .non
 |.bl b=>some (.bl b)
 |.int i=>some (.int i)
 |.str x=>some (.str x)
 |_=>none
def nN(r:Rel M ρ H d u)(e:xT d=some v):u=v:=by
 cases r <;>simp[xT] at e <;>show e
noncomputable def dE(d:Bool):yh:=λ_ x y=>match xT x,xT y with
 |some u,some v=>if Ci u v=true then some (.bl (if d then !decide (u=v) else decide (u=v))) else none
 |_,_=>none
def CF(e:dE f S x y=some d):∃u v,xT x=some u/\xT y=some v/\Ci u v=true/\d=.bl (if f then !decide (u=v) else decide (u=v)):=by
 unfold dE at e
 split at e
 ·split at e <;>cases e
  show#[_,_,by assumption,by assumption,by assumption,L]
 ·cases e
def RF:oZ M Ru (dE false):=by
 intro o S H x y d u v Q j g k e q
 let#[n,l,h,f,i,rfl]:=CF e
 cases nN g h
 cases nN k f
 show#[i,q _ _ cI.refl j<|.bl _]
def RU:oZ M RE (dE true):=by
 intro o S H x y d u v Q j g k e q
 let#[n,l,h,f,i,rfl]:=CF e
 cases nN g h
 cases nN k f
 show#[i,q _ _ cI.refl j<|.bl _]
noncomputable abbrev Dv:yh:=intD (λ_ _=>True) λi j=>.bl (decide (i<j))
noncomputable abbrev Qf:yh:=intD (λ_ _=>True) λi j=>.bl (decide (i<=j))
noncomputable abbrev Kf:yh:=intD (λ_ _=>True) λi j=>.bl (decide (j<i))
noncomputable abbrev PJ:yh:=intD (λ_ _=>True) λi j=>.bl (decide (j<=i))
def Rp:oZ M (GU λi j=>.bl (decide (i<j))) Dv:=r8 λi j _ _=>.bl _
def R_:oZ M (GU λi j=>.bl (decide (i<=j))) Qf:=r8 λi j _ _=>.bl _
def RZ:oZ M (GU λi j=>.bl (decide (j<i))) Kf:=r8 λi j _ _=>.bl _
def RY:oZ M (GU λi j=>.bl (decide (j<=i))) PJ:=r8 λi j _ _=>.bl _
noncomputable def isNone:D->Bool
 |.non=>true
 |_=>false
noncomputable def wF(d:Bool):yh:=λ_ x y=>match y with
 |.non=>some (.bl (if d then !isNone x else isNone x))
 |_=>none
def zk(r:Rel M ρ H d u):decide (u=V.non)=isNone d:=by
 cases r <;>simp[isNone]
def QQ:oZ M (λx y H Q=>y=.non/\Q (.bl (decide (x=.non))) H) (wF false):=by
 intro i S H x y d u v Q h g f e q
 cases f <;>erw[wF,reduceCtorEq] at e
 cases e
 rw[zk g]
 show#[L,q _ _ cI.refl h<|.bl _]
def Qb:oZ M (λx y H Q=>y=.non/\Q (.bl (!decide (x=.non))) H) (wF true):=by
 intro i S H x y d u v Q h g f e q
 cases f <;>erw[wF,reduceCtorEq] at e
 cases e
 rw[zk g]
 show#[L,q _ _ cI.refl h<|.bl _]
def Rt(j:mG X (compareOp d) r)(h:oZ (md X) r o)(k:PE X a (tD (md X) f))(l:PE X b (tD (md X) g))(i:behindInMarks d b=false):PE X (.Compare a [d] [b] m) (tD (md X)<|aQ o f g):=uk h (FA j k l i)
noncomputable def aH(f:bL):ke:=λh S=>(f h S).bind λ(d,g)=>match d with
 |.bl k=>some (k,g)
 |_=>none
def xf(e:aH f h S=some (k,g)):f h S=some (.bl k,g):=by
 let#[#[d,j],i,e]:=au e
 dsimp only at e
 split at e
 ·cases e;show i
 ·cases e
def Po(G:oZ (md X) r o)(h:PT X e (II<|Ki r (tD (md X) f)<|tD (md X) g)):PT X e (tB (md X)<|aH<|aQ o f g):=PY h λR H Q I=>by
 let#[J,p,S,d,U,ok,e,q]:=I
 let e:=xf e
 let#[#[x,t],L,e]:=au e
 let#[#[y,F],C,e]:=au e
 let#[P,M,e]:=au e
 let#[rfl,rfl]:=cH e
 show#[J,p,S,x,t,ok,L,λn v H1 u i A=>#[n,p,t,y,F,ok.to u i,C,λj w H2 s l K=>?_]]
 show G l (A.ext s) K M λN H3 B k z=>by cases z;show#[_,rfl,q j H3 ((u.trans s).trans B) k]
def RQ(j:mG X (compareOp d) r)(h:oZ (md X) r o)(k:PE X a (tD (md X) f))(l:PE X b (tD (md X) g))(i:behindInMarks d b=false):PT X (.Compare a [d] [b] m) (tB (md X)<|aH<|aQ o f g):=Po h (qV j k l i)
noncomputable def EW(S:aE):D->Option Bool
 |.non=>some false
 |.bl b=>some b
 |.int i=>some (i !=0)
 |.str y=>if y.length<=sizeLine then some ((y.length:Int) !=0) else none
 |.tup d=>some (!d.isEmpty)
 | .ref k=>match S[k]? with
   |some (.lst d)=>some (!d.isEmpty)
   |some (.dct d)=>some (!d.isEmpty)
   |_=>none
 |.fn _=>none
def bt.isEmpty(h:bt M ρ H ds vs):ds.isEmpty=vs.isEmpty:=by cases h <;>rfl
theorem cN.isEmpty(h:cN M ρ H ds vs):ds.isEmpty=vs.isEmpty:=by
 cases ds with
 |nil=>cases h;rfl
 |cons p r=>let#[v,t,e,_]:=h;subst e;rfl
def KC(st:gN M ρ S H)(r:Rel M ρ H d u)(e:EW S d=some k):Ml M.K u H k:=by
 cases r with
 |non=>cases e;rfl
 |bl=>cases e;rfl
 |int=>cases e;rfl
 |str=>erw[EW] at e;split at e <;>cases e;show#[by assumption,L]
 |tup h j=>cases e;show .inr (.inl #[_,jM.of h,by rw[j.isEmpty]])
 |fn=>cases e
 | ref h=>
   erw[EW] at e
   split at e
   · cases e
     let#[f,i,g]:=st.obj _ _ _ h (by assumption)
     show .inl #[f,jm.of i,by rw[g.isEmpty]]
   · cases e
     let#[f,i,g]:=st.obj _ _ _ h (by assumption)
     show .inr (.inr #[f,i,by rw[g.isEmpty]])
   · cases e
noncomputable def kK(f:bL):ke:=λh S=>(f h S).bind λ(d,g)=>(EW g d).bind λk=>some (k,g)
def Rr(s:PE X a (tD (md X) f))(he:autoParam (∀d,isTrue a X.env d=(do let v<-d;standAt a.pos;holding [v] (truthy v))) ec._auto_1):PT X a (tB (md X)<|kK f):=PY (J8 s he) λw H Q n=>by
 let#[o,p,S,k,y,ok,e,q]:=n
 let#[#[x,t],r,e]:=au e
 let#[j,l,e]:=au e
 let#[rfl,rfl]:=cH e
 show#[o,p,S,x,t,ok,r,λi v H1 u g h=>#[j,KC g h l,q _ _ u g]]
noncomputable def xY(f:ke):ke:=λg S=>(f g S).bind λ(k,d)=>some (!k,d)
def RX(o:PT X a (tB (md X) f)):PT X (.UnaryOp .Not a m) (tB (md X)<|xY f):=PY (Nf o) λs H Q i=>by
 let#[j,l,S,k,t,ok,e,q]:=i
 let#[#[g,p],n,e]:=au e
 let#[rfl,rfl]:=cH e
 show#[j,l,S,g,p,ok,n,λh H1 r d=>q _ _ r d]
noncomputable def iP(f g:ke):ke:=λh S=>(f h S).bind λ(k,d)=>if k=true then g h d else some (false,d)
noncomputable def Nq(f g:ke):ke:=λh S=>(f h S).bind λ(k,d)=>if k=true then some (true,d) else g h d
def Qn(d:PT X a (tB (md X) f)):PW X (.BoolOp .And [a] m) (tB (md X) f):=LJ d
def RN(d:PT X a (tB (md X) f)):PW X (.BoolOp .Or [a] m) (tB (md X) f):=Mt d
def w_and(y:PT X a (tB (md X) f))(r:PW X (.BoolOp .And (b::d) m) (tB (md X) g)):PW X (.BoolOp .And (a::b::d) m) (tB (md X)<|iP f g):=RJ (ME y r) λz H Q t=>by
 let#[u,n,S,k,w,ok,e,q]:=t
 let#[#[p,o],x,e]:=au e
 show#[u,n,S,p,o,ok,x,λj H1 l h=>?_]
 dsimp only at e
 split at e
 ·rename_i c
  rw[Qhq c]
  show#[j,n,o,k,w,ok.to l h,e,λs H2 v i=>q _ _ (l.trans v) i]
 ·rename_i c
  rw[Quq c]
  let#[rfl,rfl]:=cH e
  show q _ _ l h
def w_or(y:PT X a (tB (md X) f))(r:PW X (.BoolOp .Or (b::d) m) (tB (md X) g)):PW X (.BoolOp .Or (a::b::d) m) (tB (md X)<|Nq f g):=RJ (Pd y r) λz H Q t=>by
 let#[u,n,S,k,w,ok,e,q]:=t
 let#[#[p,o],x,e]:=au e
 show#[u,n,S,p,o,ok,x,λj H1 l h=>?_]
 dsimp only at e
 split at e
 ·rename_i c
  rw[Qhq c]
  let#[rfl,rfl]:=cH e
  show q _ _ l h
 ·rename_i c
  rw[Quq c]
  show#[j,n,o,k,w,ok.to l h,e,λs H2 v i=>q _ _ (l.trans v) i]
noncomputable def sR(f g:bL):bL:=λi S=>(f i S).bind λ(d,h)=>match d with
 |.bl true=>g i h
 |.bl false=>some (.bl false,h)
 |_=>none
noncomputable def K9(f:bL):bL:=λh S=>(f h S).bind λ(d,g)=>match d with
 |.bl k=>some (.bl (!k),g)
 |_=>none
def Rh{op}{f:bL}(h:PE X a (tD (md X) f)):PE X (.BoolOp op [a] m) (tD (md X) f):=Mf h
def RG(C:PE X a (tD (md X) f))(r:PE X (.BoolOp .And (b::h) m) (tD (md X) g)):PE X (.BoolOp .And (a::b::h) m) (tD (md X)<|sR f g):=ko (MC C r) λF H Q t=>by
 let#[u,o,S,d,A,ok,e,q]:=t
 let#[#[x,p],B,e]:=au e
 show#[u,o,S,x,p,ok,B,λk v H1 l i n=>?_]
 dsimp only at e
 split at e
 ·cases n
  show#[_,L,?_]
  rw[Qhq L]
  show#[k,o,p,d,A,ok.to l i,e,λs w H2 y j z=>q _ _ _ (l.trans y) j z]
 ·cases n
  show#[_,L,?_]
  rw[Quq Qtq]
  let#[rfl,rfl]:=cH e
  show q _ _ _ l i<|.bl _
 ·cases e
def RP(o:PE X a (tD (md X) f)):PE X (.UnaryOp .Not a m) (tD (md X)<|K9 f):=ko (Mk o) λs H Q j=>by
 let#[k,l,S,d,t,ok,e,q]:=j
 let#[#[x,p],n,e]:=au e
 show#[k,l,S,x,p,ok,n,λi v H1 r g h=>?_]
 dsimp only at e
 split at e
 ·cases h
  let#[rfl,rfl]:=cH e
  show#[_,L,q _ _ _ r g<|.bl _]
 ·cases e
noncomputable def yq(c:ke)(f g:bL):bL:=λd S=>(c d S).bind λ(k,h)=>if k=true then f d h else g d h
def RL(B:PT X c (tB (md X) h))(A:PE X a (tD (md X) f))(v:PE X b (tD (md X) g)):PE X (.IfExp c a b m) (tD (md X)<|yq h f g):=ko (IH B A v) λC H Q x=>by
 let#[y,o,S,d,t,ok,e,q]:=x
 let#[#[u,s],z,e]:=au e
 show#[y,o,S,u,s,ok,z,λk H1 l j=>?_]
 dsimp only at e
 split at e
 ·rename_i c
  rw[Qhq c]
  show#[k,o,s,d,t,ok.to l j,e,λn w H2 p i r=>q _ _ _ (l.trans p) i r]
 ·rename_i c
  rw[Quq c]
  show#[k,o,s,d,t,ok.to l j,e,λn w H2 p i r=>q _ _ _ (l.trans p) i r]
noncomputable def fO:yh:=λS x y=>match x,y with
 |.tup xs,.int i=>kq xs i
 |.str z,.int i=>if z.length<=sizeLine then(kq z.cps.toList i).map λc=>.str #[(List.toArray [c])] else none
 | .ref k,.int i=>match S[k]? with
   |some (.lst xs)=>kq xs i
   |some (.frz xs)=>kq xs i
   |_=>none
 |_,_=>none
def Lj{ys:List d}(h:kq xs i=some x)(l:xs.length=ys.length):∃j:Nat,xs[j]?=some x/\∀y,ys[j]?=some y->kq ys i=some y:=by
 unfold kq at h
 let#[j,e,h]:=au h
 show#[j,h,λy f=>by unfold kq;rw[<-l,e];show f]
def bt.atI(h:bt M ρ H ds vs)(e:L2.kq ds i=some d):∃v,L2.kq vs i=some v/\Rel M ρ H d v:=by
 let#[j,k,f]:=Lj e h.length
 let#[v,l,g]:=h.get k
 show#[v,f v l,g]
def OT:oZ M (Rv M.K) fO:=by
 intro s S H x y d u v Q i l r e q
 cases r <;>cases l <;>erw[fO,reduceCtorEq] at e
 ·split at e
  ·let#[c,g,f]:=oQm.mp e
   subst f
   show .inr (.inr #[_,_,c,L,L,by assumption,g,q _ _ cI.refl i<|.str _])
  ·cases e
 ·rename_i h p
  let#[v,g,f]:=p.atI e
  show .inr (.inl #[_,_,_,v,L,L,jM.of h,g,q _ _ cI.refl i f])
 ·rename_i h
  split at e
  ·let#[n,k,j]:=i.obj _ _ _ h (by assumption)
   let#[v,g,f]:=j.atI e
   show .inl #[_,_,_,v,L,L,jm.of k,g,q _ _ cI.refl i f]
  ·let#[n,o,k,j]:=i.obj _ _ _ h (by assumption)
   let#[v,g,f]:=j.atI e
   show .inl #[_,_,_,v,L,L,.inl (.inr #[o,k]),g,q _ _ cI.refl i f]
  ·cases e
def LD(d:PE X a (tD (md X) f))(h:PE X b (tD (md X) g))(i:autoParam (FO b) eH._auto_1):PE X (.Subscript a b m) (tD (md X)<|aQ fO f g):=uk OT (OD NR d h i)
inductive Tag where
 |tu|fr|st (k:Nat)|fz (k:Nat)
def Eg(M:Md)(ρ:X7)(H:Hp)(a:X8)(vs:List V):Tag->Prop
 |.tu=>jM M.K H a vs
 |.fr=>H a=some (.lst vs)/\a∉ρ
 |.st k=>ρ[k]?=some a/\H a=some (.lst vs)
 |.fz k=>ρ[k]?=some a/\∃o,H a=some (.frz o (.lst vs))
abbrev e_:=cG->aE->Option ((List D×Tag)×aE)
def tQ(M:Md)(f:e_):TE:=λj H Q=>∃g h S i t d,Ok M g h S j H/\f h S=some ((i,t),d)∧
 ∀b a e c,cI g H b c->gN M b d c->Eg M b c a e t->bt M b c i e->Q (.ref a) c
def Eg.sq(h:Eg M ρ H a vs t):jm M.K H a vs\/jM M.K H a vs:=by
 cases t with
 |tu=>show .inr h
 |fr=>show .inl (jm.of h.1)
 |st k=>show .inl (jm.of h.2)
 |fz k=>let#[_,o,h]:=h;show .inl (.inl (.inr #[o,h]))
noncomputable def Tag.isL:Tag->Bool
 |.tu=>false
 |_=>true
noncomputable def Tag.isM:Tag->Bool
 |.fr=>true
 |.st _=>true
 |_=>false
def Eg.sqL(h:Eg M ρ H a vs t)(c:t.isL=true):jm M.K H a vs:=by
 cases t with
 |tu=>cases c
 |fr=>show jm.of h.1
 |st k=>show jm.of h.2
 |fz k=>let#[_,o,h]:=h;show .inl (.inr #[o,h])
def Eg.sqM(h:Eg M ρ H a vs t)(c:t.isM=true):H a=some (.lst vs):=by
 cases t with
 |tu=>cases c
 |fr=>show h.1
 |st k=>show h.2
 |fz k=>cases c
def Eg.sqT(h:Eg M ρ H a vs t)(c:t.isL=false):jM M.K H a vs:=by
 cases t with
 |tu=>show h
 |fr=>cases c
 |st k=>cases c
 |fz k=>cases c
def Tag.stays(S:aE)(ds:List D):Tag->Prop
 |.st k=>S[k]?=some (.lst ds)
 |.fz k=>S[k]?=some (.frz ds)
 |_=>True
def jM.ext{K:X1}{ρ b:X7}{H c:Hp}{a:X8}{vs:List V}(e:cI ρ H b c)(h:jM K H a vs):jM K c a vs:=by
 rcases h with(h|⟨o,h⟩)|h
 ·show .inl (.inl (e.keep _ _ h<|.inr trivial))
 ·show .inl (.inr #[o,e.keep _ _ h<|.inr trivial])
 ·show .inr h
def Eg.to(h:Eg M ρ H a vs t)(r:bt M ρ H ds vs)(e:cI ρ H d i)(st:gN M d S i)(c:t.stays S ds):∃b,Eg M d i a b t/\bt M d i ds b:=by
 cases t with
 |tu=>show#[vs,jM.ext e h,r.ext e]
 |fr=>show#[vs,#[e.keep _ _ h.1<|.inl h.2,λm=>(e.new a m).elim h.2 λz=>by have f:=h.1;rw[z] at f;cases f],r.ext e]
 | st k=>
   let g:=dz e.pre h.1
   let#[b,f,j]:=st.obj k a _ g c
   show#[b,#[g,f],j]
 | fz k=>
   let g:=dz e.pre h.1
   let#[b,o,f,j]:=st.obj k a _ g c
   show#[b,#[g,o,f],j]
noncomputable def gU(f:iD):e_:=λg S=>(f g S).bind λ(h,d)=>some ((h,.fr),d)
def RC(h:PE X e (tL (md X) f)):PE X e (tQ (md X)<|gU f):=ko h λz H Q l=>by
 let#[n,o,S,w,t,A,ok,e,q]:=l
 let#[#[d,u],r,e]:=au e
 let#[i,rfl]:=cH e
 let#[rfl,rfl]:=Prod.mk.inj i
 show#[n,o,S,d,u,ok,r,λg a v B x p y k s j=>q _ _ _ _ x p #[s,k] j]
noncomputable def wo(S:aE):D->Option (List D×Tag)
 |.tup d=>some (d,.tu)
 | .ref k=>match S[k]? with
   |some (.lst d)=>some (d,.st k)
   |some (.frz d)=>some (d,.fz k)
   |_=>none
 |_=>none
noncomputable def aP(f:bL):e_:=λh S=>(f h S).bind λ(d,g)=>(wo g d).bind λp=>some (p,g)
def Kl(st:gN M ρ S H)(r:Rel M ρ H d v)(e:wo S d=some (ds,t)):∃a vs,v=.ref a/\Eg M ρ H a vs t/\bt M ρ H ds vs:=by
 cases r with
 |tup h i=>erw[wo] at e;cases e;show#[_,_,L,jM.of h,i]
 | ref h=>
   erw[wo] at e
   split at e
   · rename_i q
     cases e
     let#[vs,g,f]:=st.obj _ _ _ h q
     show#[_,vs,L,#[h,g],f]
   · rename_i q
     cases e
     let#[vs,o,g,f]:=st.obj _ _ _ h q
     show#[_,vs,L,#[h,o,g],f]
   · cases e
 |_=>erw[wo,reduceCtorEq] at e
def Px(h:PE X e (tD (md X) f)):PE X e (tQ (md X)<|aP f):=ko h λA H Q l=>by
 let#[n,o,S,z,t,B,ok,e,q]:=l
 let#[#[d,u],p,e]:=au e
 let#[#[k,w],j,e]:=au e
 let#[s,rfl]:=cH e
 let#[rfl,rfl]:=Prod.mk.inj s
 show#[n,o,S,d,u,ok,p,λi v C x g r=>?_]
 let#[a,y,rfl,h1,h2]:=Kl g r j
 show q _ _ _ _ x g h1 h2
def L_(n:Gl X "len")(w:X.mg "len"=none)(z:PE X a (tQ (md X) f))(k:autoParam (starEach [a] X.env= [(false,eval a X.env)]) dO._auto_1):
  PE X (.Call (.Name "len" p) [a] [] m) (tD (md X) λg S=>(f g S).bind λ(p,i)=>some (.int p.1.length,i)):=
 ko (kI AW n w PySem.boot_len (eB z gX k) (he:=k)) λA H Q s=>by
  let#[u,g,S,d,B,ok,e,q]:=s
  let#[#[#[o,t],i],y,e]:=au e
  let#[rfl,rfl]:=cH e
  show#[u,g,S,o,t,i,ok,y,λl a j C x v h r=>#[a,j,L,h.sq,?_]]
  have:=q _ (.int j.length) _ x v (by rw[<-r.length];show .int _)
  show this
noncomputable def gP(f:e_):bL:=λg S=>(f g S).bind λ(p,d)=>some (.int p.1.length,d)
noncomputable def tupQ(f:e_):bL:=λg S=>(f g S).bind λ(p,d)=>some (.tup p.1,d)
def Lf(s:Gl X "tuple")(z:X.mg "tuple"=none)(A:PE X a (tQ (md X) f))(j:autoParam (starEach [a] X.env= [(false,eval a X.env)]) dO._auto_1)(ht:∀i S ds t k,f i S=some ((ds,t),k)->t.isL=true):
  PE X (.Call (.Name "tuple" p) [a] [] m) (tD (md X)<|tupQ f):=
 ko (GW yg s z (by rfl) (eB A gX j) (he:=j)) λC H Q v=>by
  let#[w,i,S,d,k,ok,e,q]:=v
  let#[#[#[ds,t],B],n,e]:=au e
  let#[rfl,rfl]:=cH e
  show#[w,i,S,ds,t,B,ok,n,λo a u F x y h r=>#[a,u,L,.inl #[h.sqL<|ht _ _ _ _ _ n,λl g=>?_]]]
  show q _ _ _ (x.trans<|cI.laid g) (y.lay g)<|.tup cg (r.ext<|cI.laid g)
def KP:∀g S ds t d,gU f g S=some ((ds,t),d)->t.isL=true:=λg S ds t d e=>by
 let#[#[h,j],i,e]:=au e
 cases e
 rfl
noncomputable def cO(f:e_):e_:=λg S=>(f g S).bind λ(p,d)=>if p.2.isL=true then some (p,d) else none
def L6:∀g S ds t d,cO f g S=some ((ds,t),d)->t.isL=true:=λg S ds t d e=>by
 let#[#[#[h,k],j],i,e]:=au e
 dsimp only at e
 split at e <;>cases e
 assumption
def RH(h:PE X e (tQ (md X) f)):PE X e (tQ (md X)<|cO f):=ko h λs H Q i=>by
 let#[j,o,S,r,t,p,ok,e,q]:=i
 let#[#[#[d,n],l],g,e]:=au e
 dsimp only at e
 split at e
 ·let#[k,rfl]:=cH e
  let#[rfl,rfl]:=Prod.mk.inj k
  show#[j,o,S,d,n,l,ok,g,q]
 ·cases e
noncomputable def IK:List D->Option (List Bool)
 | []=>some []
 |.bl b::r=>(IK r).bind λd=>some (b::d)
 |_::_=>none
theorem Et:∀{ds:List D} {vs:List V} {bs:List Bool},bt M ρ H ds vs->IK ds=some bs->vs=bs.map V.bl
 | [],_,_,h,e=>by cases h;cases e;rfl
 | d::ds,_,_,h,e=>by
   cases d with
   | bl b=>
     erw[IK] at e
     let#[g,f,e]:=au e
     cases e
     cases h with
     | cons h i=>
       cases h
       rw[Et i f]
       rfl
   |_=>cases e
noncomputable def LB(f:e_):bL:=λg S=>(f g S).bind λ(p,d)=>if p.2.isL=true then(IK p.1).bind λh=>some (.bl (h.all id),d) else none
noncomputable def Lw(f:e_):bL:=λg S=>(f g S).bind λ(p,d)=>if p.2.isL=true then(IK p.1).bind λh=>some (.bl (h.any id),d) else none
def R9{X:Cx}(B:X.calm=true)(k:Gl X "all")(w:X.mg "all"=none)(z:PE X a (tQ (md X) f))(g:autoParam (starEach [a] X.env= [(false,eval a X.env)]) dO._auto_1):
  PE X (.Call (.Name "all" p) [a] [] m) (tD (md X)<|LB f):=
 ko (kI (Hf B) k w (by rfl) (eB z gX g) (he:=g)) λF H Q o=>by
  let#[s,u,S,d,G,ok,e,q]:=o
  let#[#[#[l,t],A],y,e]:=au e
  dsimp only at e
  split at e
  ·rename_i c
   let#[j,n,e]:=au e
   let#[rfl,rfl]:=cH e
   show#[s,u,S,l,t,A,ok,y,λi a C I x v h r=>#[a,j,L,?_,q _ _ _ x v<|.bl _]]
   rw[<-Et r n]
   show h.sqL c
  ·cases e
def Ry{X:Cx}(B:X.calm=true)(k:Gl X "any")(w:X.mg "any"=none)(z:PE X a (tQ (md X) f))(g:autoParam (starEach [a] X.env= [(false,eval a X.env)]) dO._auto_1):
  PE X (.Call (.Name "any" p) [a] [] m) (tD (md X)<|Lw f):=
 ko (kI (Gu B) k w (by rfl) (eB z gX g) (he:=g)) λF H Q o=>by
  let#[s,u,S,d,G,ok,e,q]:=o
  let#[#[#[l,t],A],y,e]:=au e
  dsimp only at e
  split at e
  ·rename_i c
   let#[j,n,e]:=au e
   let#[rfl,rfl]:=cH e
   show#[s,u,S,l,t,A,ok,y,λi a C I x v h r=>#[a,j,L,?_,q _ _ _ x v<|.bl _]]
   rw[<-Et r n]
   show h.sqL c
  ·cases e
noncomputable def Kt(S:aE)(T:String):D->Option Bool
 |.non=>some (T=="NoneType")
 |.bl _=>some (T=="bool" ||T=="int")
 |.int _=>some (T=="int")
 |.str _=>some (T=="str")
 |.tup _=>some (T=="tuple")
 | .ref k=>match S[k]? with
   |some (.lst _)=>some (T=="list")
   |some (.frz _)=>some (T=="list")
   |some (.dct _)=>some (T=="dict")
   |_=>none
 |.fn _=>none
def Ob(K:X1)(T:String):Prop:=(PySem.W.kitOne K (.type "NoneType") (.type T)=some (T=="NoneType"))/\(PySem.W.kitOne K (.type "bool") (.type T)=some (T=="bool" ||T=="int"))/\(PySem.W.kitOne K (.type "int") (.type T)=some (T=="int"))/\(PySem.W.kitOne K (.type "str") (.type T)=some (T=="str"))∧
 (PySem.W.kitOne K (.type "tuple") (.type T)=some (T=="tuple"))/\(PySem.W.kitOne K (.type "list") (.type T)=some (T=="list"))/\(PySem.W.kitOne K (.type "dict") (.type T)=some (T=="dict"))
noncomputable def pO(T:String)(f:bL):bL:=λh S=>(f h S).bind λ(d,g)=>(Kt g T d).bind λk=>some (.bl k,g)
def R5{X:Cx}{T:String}(F:Ob X.K T)(B:Gl X "isinstance")(P:X.mg "isinstance"=none)(W:PE X a (tD (md X) f))(ht:PE X l (tC<|.ty T))(u:autoParam (starEach [a,l] X.env= [(false,eval a X.env),(false,eval l X.env)]) dO._auto_1)(j:autoParam (starEach [l] X.env= [(false,eval l X.env)]) dO._auto_1):
  PE X (.Call (.Name "isinstance" p) [a,l] [] m) (tD (md X)<|pO T f):=
 ko (kI Jj B P boot_isinstance (eB W (eB ht gX j) (by rw[u,j])) (he:=by rw[u,j]) (hpl:=by rw[j];rfl)) λσ H Q J=>by
  let#[L,N,S,d,S',ok,e,q]:=J
  let#[#[M,Y],U,e]:=au e
  let#[k,i,e]:=au e
  let#[rfl,rfl]:=cH e
  let#[z,R,G,Z,I,y,C]:=F
  show#[L,N,S,M,Y,ok,U,λA v H' x t r=>?_]
  let g:=q _ _ _ x t (.bl _)
  cases r with
  |non=>cases i;show#[_,_,_,_,rfl,.non,z,g]
  |bl=>cases i;show#[_,_,_,_,rfl,.bl _,R,g]
  |int=>cases i;show#[_,_,_,_,rfl,.int _,G,g]
  |str=>cases i;show#[_,_,_,_,rfl,.str _,Z,g]
  |tup h u=>cases i;show#[_,_,_,_,rfl,.tup h,I,g]
  |fn=>cases i
  | ref h=>
    erw[Kt] at i
    split at i
    · rename_i s;cases i;let#[w,n,_]:=t.obj _ _ _ h s;show#[_,_,_,_,rfl,.lst n,y,g]
    · rename_i s;cases i;let#[w,o,n,_]:=t.obj _ _ _ h s;show#[_,_,_,_,rfl,.frz n,y,g]
    · rename_i s;cases i;let#[w,n,_]:=t.obj _ _ _ h s;show#[_,_,_,_,rfl,.dK n,C,g]
    · cases i
abbrev Mc:=List D->Option D
def Ie(M:Md)(r:List V->Hp->VK->Prop)(o:Mc):Prop:=∀{f:X7} {S:aE} {H:Hp} {h:List D} {d:D} {g:List V} {Q:VK},gN M f S H->bt M f H h g->o h=some d->(∀w,Rel M f H d w->Q w H)->r g H Q
noncomputable def vg(o:Mc)(f:iD):bL:=λi S=>(f i S).bind λ(h,g)=>(o h).bind λd=>some (d,g)
def Qp(l:Ie (md X) r o)(h:PE X e (P0 r<|Cy (md X) f)):PE X e (tD (md X)<|vg o f):=ko h λB H Q n=>by
 let#[p,t,S,d,C,ok,e,q]:=n
 let#[#[s,x],u,e]:=au e
 let#[A,v,e]:=au e
 let#[rfl,rfl]:=cH e
 show#[p,t,S,s,x,ok,u,λi z H1 y g k=>l g k v λw j=>q i w H1 y g j]
noncomputable def Lr:Mc
 | [.int i]=>some (.int (if i<0 then -i else i))
 |_=>none
noncomputable def maxD:Mc
 | [.int i,.int j]=>some (.int (if j>i then j else i))
 |_=>none
noncomputable def minD:Mc
 | [.int i,.int j]=>some (.int (if j<i then j else i))
 |_=>none
noncomputable def intOfD:Mc
 | [.int i]=>some (.int i)
 | [.bl k]=>some (.int (if k then 1 else 0))
 |_=>none
def QU:Ie M (λxs H Q=>∃i,xs= [.int i]/\Q (.int (if i<0 then -i else i)) H) Lr:=by
 intro h S H xs d g Q j r e q
 unfold Lr at e
 split at e <;>cases e
 cases r with|cons r f=>cases f;cases r;show#[_,L,q _<|.int _]
def QS:Ie M (λxs H Q=>∃i j,xs= [.int i,.int j]/\Q (.int (if j>i then j else i)) H) maxD:=by
 intro k S H xs d h Q l r e q
 unfold maxD at e
 split at e <;>cases e
 cases r with|cons r f=>cases f with|cons g f=>cases f;cases r;cases g;show#[_,_,L,q _<|.int _]
def QI:Ie M (λxs H Q=>∃i j,xs= [.int i,.int j]/\Q (.int (if j<i then j else i)) H) minD:=by
 intro k S H xs d h Q l r e q
 unfold minD at e
 split at e <;>cases e
 cases r with|cons r f=>cases f with|cons g f=>cases f;cases r;cases g;show#[_,_,L,q _<|.int _]
def OH:Ie M (λxs H Q=>(∃i,xs= [.int i]/\Q (.int i) H)\/∃k,xs= [.bl k]/\Q (.int (if k then 1 else 0)) H) intOfD:=by
 intro h S H xs d g Q j r e q
 unfold intOfD at e
 split at e <;>cases e
 ·cases r with|cons r f=>cases f;cases r;show .inl #[_,L,q _<|.int _]
 ·cases r with|cons r f=>cases f;cases r;show .inr #[_,L,q _<|.int _]
noncomputable def kF:List D->Option (List V)
 | []=>some []
 |d::r=>(xT d).bind λv=>(kF r).bind λf=>some (v::f)
def rh(e:xT d=some v):iU v=true:=by
 cases d <;>simp[xT] at e <;>subst e <;>rfl
theorem kB:∀{ds:List D} {d vs:List V},bt M ρ H ds d->kF ds=some vs->d=vs/\vs.all iU=true
 |_,_,_,.nil,e=>by cases e;show#[L,L]
 | _,_,_,.cons h hs,e=>by
   let#[v,f,e]:=au e
   let#[vs,j,e]:=au e
   cases e
   let#[i,g]:=kB hs j
   rw[nN h f,i]
   show#[L,by rw[List.all_cons,rh f,g];rfl]
noncomputable def Bt(d:Bool)(f:bL)(g:e_):bL:=λi S=>(f i S).bind λ(x,k)=>(g i k).bind λ(p,j)=>(xT x).bind λv=>(kF p.1).bind λh=>some (.bl (if d then !HU v h else HU v h),j)
def OX(h:PE X e (Ki (P5 X.K i) (tD (md X) f)<|tQ (md X) g)):PE X e (tD (md X)<|Bt i f g):=ko h λU H Q F=>by
 let#[G,n,S,d,W,ok,e,q]:=F
 let#[#[x,p],N,e]:=au e
 let#[#[#[A,t],C],B,e]:=au e
 let#[v,o,e]:=au e
 let#[R,P,e]:=au e
 let#[rfl,rfl]:=cH e
 show#[G,n,S,x,p,ok,N,λl u H1 r j w=>#[l,n,p,A,t,C,ok.to r j,B,λy a M H2 J k s L=>?_]]
 cases nN w o
 let#[I,z]:=kB L P
 subst I
 show#[a,M,rfl,s.sq,rh o,z,q _ _ _ (r.trans J) k<|.bl _]
def zB{t:TE}(g:∀d H Q,tD (md X) f d H Q->t d H Q)(h:PT X e (II t)):PT X e (tB (md X)<|aH f):=PY h λd H Q ⟨j,n,S,k,i,ok,e,q⟩=>
 g _ _ _ #[j,n,S,.bl k,i,ok,xf e,λl v p x o r=>by cases r;show#[k,L,q _ _ x o]]
def Mb:∀l H Q,tD (md X) (Bt h f g) l H Q->Ki (P5 X.K h) (tD (md X) f) (tQ (md X) g) l H Q:=λl H Q F=>by
 let#[G,n,S,d,U,ok,e,q]:=F
 let#[#[x,p],N,e]:=au e
 let#[#[#[A,t],C],B,e]:=au e
 let#[v,o,e]:=au e
 let#[R,P,e]:=au e
 let#[rfl,rfl]:=cH e
 show#[G,n,S,x,p,ok,N,λk u H1 r i w=>#[k,n,p,A,t,C,ok.to r i,B,λy a M H2 J j s L=>?_]]
 cases nN w o
 let#[I,z]:=kB L P
 subst I
 show#[a,M,rfl,s.sq,rh o,z,q _ _ _ (r.trans J) j<|.bl _]
def Si(h:PE X a (tD (md X) f))(i:PE X b (tQ (md X) g))(d:autoParam (behindInMarks .In b=false) dO._auto_1):PE X (.Compare a [.In] [b] m) (tD (md X)<|Bt false f g):=OX (FA y3 h i d)
def Sn(h:PE X a (tD (md X) f))(i:PE X b (tQ (md X) g))(d:autoParam (behindInMarks .In b=false) dO._auto_1):PT X (.Compare a [.In] [b] m) (tB (md X)<|aH<|Bt false f g):=zB Mb (qV y3 h i d)
def P9(h:PE X a (tD (md X) f))(i:PE X b (tQ (md X) g))(d:autoParam (behindInMarks .NotIn b=false) dO._auto_1):PT X (.Compare a [.NotIn] [b] m) (tB (md X)<|aH<|Bt true f g):=zB Mb (qV zE h i d)
inductive Out where
 |nx (Γ:cG) (S:aE)|bk (Γ:cG) (S:aE)|ct (Γ:cG) (S:aE)|rt (d:D) (S:aE)|rl (ds:List D) (S:aE)
abbrev cJ:=cG->aE->Option Out
def zX(M:Md)(ρ:X7)(H:Hp)(D:Ends):Out->Prop
 |.nx f g=>∀b e c,cI ρ H b c->Ok M b f g e c->D.nx e c
 |.bk f g=>∀b e c,cI ρ H b c->Ok M b f g e c->D.bk e c
 |.ct f g=>∀b e c,cI ρ H b c->Ok M b f g e c->D.ct e c
 |.rt d g=>∀b v c,cI ρ H b c->gN M b g c->Rel M b c d v->D.rt v c
 |.rl i g=>∀b a h c,cI ρ H b c->gN M b g c->H a=none->a∉b->c a=some (.lst h)->bt M b c i h->D.rt (.ref a) c
def zX.to{H H1:Hp}{D:Ends}(h:zX M ρ H D o)(e:cI ρ H c H1):zX M c H1 D o:=by
 cases o with
 |nx=>show λb d f x ok=>h _ _ _ (e.trans x) ok
 |bk=>show λb d f x ok=>h _ _ _ (e.trans x) ok
 |ct=>show λb d f x ok=>h _ _ _ (e.trans x) ok
 |rt=>show λb v f x g r=>h _ _ _ (e.trans x) g r
 |rl=>show λb a l f x g i j k r=>h _ _ _ _ (e.trans x) g (e.grow _ i) j k r
def tS(M:Md)(g:cJ):TS:=λD c H=>∃a b S o,Ok M a b S c H/\g b S=some o/\zX M a H D o
noncomputable def fK:cJ:=λd S=>some (.nx d S)
def Rl:vj X [] (tS (md X) fK):=PR K3 λD g H ⟨d,f,S,o,ok,e,q⟩=>by cases e;show q _ _ _ cI.refl ok
noncomputable def aD(f g:cJ):cJ:=λi S=>(f i S).bind λo=>match o with
 |.nx d h=>g d h
 |o=>some o
def qi{X:Cx}{st:Stmt}{C:List Stmt}{f g:cJ}(l:PS X st (tS (md X) f))(k:vj X C (tS (md X) g)):vj X (st::C) (tS (md X)<|aD f g):=PR (HY l k) λD v H n=>by
 let#[p,r,S,o,ok,e,q]:=n
 let#[j,s,e]:=au e
 show#[p,r,S,j,ok,s,?_]
 cases j with
 |nx i t=>show λd m H1 u h=>#[d,i,t,o,h,e,q.to u]
 |bk=>cases e;show q
 |ct=>cases e;show q
 |rt=>cases e;show q
 |rl=>cases e;show q
def FW{X:Cx}{st:Stmt}{f:cJ}(d:PS X st (tS (md X) f)):vj X [st] (tS (md X) f):=Lh d
noncomputable def never:cJ:=λ_ _=>none
def P8{X:Cx}{st:Stmt}:PS X st (tS (md X) never):=Fp Ia λD g H ⟨d,f,S,o,ok,e,q⟩=>by cases e
noncomputable def g8(f:bL):cJ:=λd S=>(f d S).bind λ(_,g)=>some (.nx d g)
def HZ{y:Pos}(h:PE X e (tD (md X) f))(l:autoParam (swapsWith e none y.line X.env=pure false) dO._auto_1):PS X (.Expr e y) (tS (md X)<|g8 f):=Fp (KA h l) λD p H i=>by
 let#[j,k,S,o,ok,e,q]:=i
 let#[#[d,n],m,e]:=au e
 cases e
 show#[j,k,S,d,n,ok,m,λg v s x st r=>q _ _ _ x<|ok.to x st]
noncomputable def cy(f:bL):cJ:=λh S=>(f h S).bind λ(d,g)=>some (.rt d g)
def L3(h:PE X e (tD (md X) f)):PS X (.Return (some e) y) (tS (md X)<|cy f):=Fp (I_ h) λD m H i=>by
 let#[j,l,S,o,ok,e,q]:=i
 let#[#[d,k],g,e]:=au e
 cases e
 show#[j,l,S,d,k,ok,g,q]
noncomputable def HF(f:iD):cJ:=λg S=>(f g S).bind λ(h,d)=>some (.rl h d)
def QL(h:PE X e (tL (md X) f)):PS X (.Return (some e) y) (tS (md X)<|HF f):=Fp (I_ h) λD m H i=>by
 let#[j,l,S,o,ok,e,q]:=i
 let#[#[d,k],g,e]:=au e
 cases e
 show#[j,l,S,d,k,ok,g,q]
noncomputable def de(c:ke)(f g:cJ):cJ:=λd S=>(c d S).bind λ(k,h)=>if k=true then f d h else g d h
def Sv(u:PT X c (tB (md X) h))(t:vj X z (tS (md X) f))(n:vj X B (tS (md X) g)):PS X (.If c z B y) (tS (md X)<|de h f g):=Fp (PL u t n) λD v H p=>by
 let#[r,l,S,o,ok,e,q]:=p
 let#[#[k,m],s,e]:=au e
 show#[r,l,S,k,m,ok,s,λi H1 j d=>?_]
 dsimp only at e
 split at e
 ·rename_i c
  rw[Qhq c]
  show#[i,l,m,o,ok.to j d,e,q.to j]
 ·rename_i c
  rw[Quq c]
  show#[i,l,m,o,ok.to j d,e,q.to j]
abbrev oM:=D->cG->aE->Option (cG×aE)
abbrev qj:=List D->cG->aE->Option (cG×aE)
def tG(M:Md)(g:oM):TG:=λv n H Q=>∃j m S d f l,Ok M j m S n H/\Rel M j H d v/\g d m S=some (f,l)/\∀h i k,cI j H h k->Ok M h f l i k->Q i k
def Pw(M:Md)(g:qj):JB:=λn o H Q=>∃i l S m f k,Ok M i l S o H/\bt M i H m n/\g m l S=some (f,k)/\∀h d j,cI i H h j->Ok M h f k d j->Q d j
def Qe{t t':TG}(h:PG X e t)(w:∀v f H Q,t' v f H Q->t v f H Q):PG X e t':=λd s f H v u Q I r q=>h d s f H v u Q I r (w _ _ _ _ q)
def Pz{t t':JB}(h:HG X g t)(w:∀v f H Q,t' v f H Q->t v f H Q):HG X g t':=λd s f H v u Q I r q=>h d s f H v u Q I r (w _ _ _ _ q)
noncomputable def bJ(i:Nat):oM:=λd f S=>some (f.set i<|some d,S)
def Ib(h:PG X e (rZ i)):PG X e (tG (md X)<|bJ i):=Qe h λv m H Q f=>by
 let#[k,l,S,d,g,j,ok,r,e,q]:=f
 cases e
 show q _ _ _ cI.refl #[ok.en.set r,ok.st]
noncomputable def dC:qj:=λd f S=>match d with
 | []=>some (f,S)
 |_=>none
noncomputable def aK(f:oM)(g:qj):qj:=λk j S=>match k with
 |d::r=>(f d j S).bind λ(h,i)=>g r h i
 | []=>none
def QO:HG X [] (Pw (md X) dC):=Pz K2 λh l H Q d=>by
 let#[i,j,S,k,f,g,ok,r,e,q]:=d
 cases r with
 |nil=>cases e;show#[L,q _ _ _ cI.refl ok]
 |cons=>cases e
def Qi(s:PG X e (tG (md X) f))(o:HG X h (Pw (md X) g))(A:autoParam ((assignEach (e::h) X.env).map (·.2)=assign e X.env::(assignEach h X.env).map (·.2)) dO._auto_1):HG X (e::h) (Pw (md X)<|aK f g):=
 Pz (Je s o A) λK M H Q v=>by
  let#[w,x,S,L,l,G,ok,r,e,q]:=v
  cases r with
  |nil=>cases e
  | cons r t=>
    let#[#[d,m],I,e]:=au e
    show#[_,_,rfl,w,x,S,_,d,m,ok,r,I,λj u H1 n k=>#[j,d,m,_,l,G,k,t.ext n,e,λp J H2 F i=>q _ _ _ (n.trans F) i]]
noncomputable def kP(g:qj):oM:=λd f S=>match d with
 |.tup h=>g h f S
 |_=>none
noncomputable def nG(n:Nat)(g:qj):qj:=λd f S=>if d.length=n then g d f S else none
def Sb{X:Cx}(t:X.calm=true)(h:HG X f (Pw (md X) g))(p:autoParam ((assignEach f X.env).length=n) dO._auto_1)(i:autoParam ((assignEach f X.env).findIdx? (·.1)=none) dO._auto_1):
  PG X (.Tuple f k y) (tG (md X)<|kP<|nG n g):=Qe (Ny t h p i) λv u H Q ⟨m,o,S,d,j,s,ok,r,e,q⟩=>by
 cases r with
 | tup h l=>
   erw[kP,nG] at e
   split at e
   · rename_i c
     show#[_,_,L,jM.of h,by rw[<-l.length];show c,m,o,S,_,j,s,ok,l,e,q]
   · cases e
 |_=>cases e
noncomputable def kc(f:bL)(g:oM):cJ:=λi S=>(f i S).bind λ(d,k)=>(g d i k).bind λ(h,j)=>some (.nx h j)
def PD:∀D k H,tS (md X) (kc f g) D k H->Hj (tD (md X) f) (tG (md X) g) D k H:=λD k H w=>by
 let#[x,m,S,o,ok,e,q]:=w
 let#[#[d,n],F,e]:=au e
 let#[#[l,u],t,e]:=au e
 cases e
 show#[x,m,S,d,n,ok,F,λj v H1 p h r=>#[j,m,n,d,l,u,ok.to p h,r,t,λs G H2 A i=>q _ _ _ (p.trans A) i]]
def Se{y:Pos}(he:PE X e (tD (md X) f))(j:PG X tg (tG (md X) g))(i:autoParam (swapsWithSole [tg] e y.line X.env=pure false) dO._auto_1)(d:autoParam (swappedStores [tg] e X.env=pure none) dO._auto_1)
  (h:autoParam ((assignEach [tg] X.env).map (·.2)= [assign tg X.env]) dO._auto_1):PS X (.Assign [tg] e y) (tS (md X)<|kc f g):=Fp (MJ he j i d h) PD
noncomputable def aW(i:Nat)(f:bL):cJ:=λg S=>(f g S).bind λ(d,h)=>some (.nx (g.set i<|some d) h)
def OQ{X:Cx}{st:Stmt}{i:Nat}{f:bL}(h:PS X st (Hj (tD (md X) f)<|rZ i)):PS X st (tS (md X)<|aW i f):=Fp h λD t H m=>by
 let#[n,p,S,o,ok,e,q]:=m
 let#[#[d,s],r,e]:=au e
 cases e
 show#[n,p,S,d,s,ok,r,λl v H1 j g k=>q _ _ _ j #[(ok.en.ext j).set k,g]]
abbrev yu:=cG->aE->Option ((List D×(aE->Prop))×aE)
def Walks(M:Md)(J:It)(ρ:X7)(H:Hp)(ds:List D)(W:aE->Prop):Prop:=∀(i:Nat) (f:X7) (j:aE) (h:Hp),cI ρ H f h->gN M f j h->W j->
 (∀d,ds[i]?=some d->J.go i h/\∀x g,J.yld i h x g->cI f h f g/\gN M f j g/\Rel M f g d x)/\(i=ds.length->J.stop i h)
def tI(M:Md)(f:yu):TI:=λl H R=>∃i j S k W h,Ok M i j S l H/\f j S=some ((k,W),h)/\∀d J g,cI i H d g->gN M d h g->Walks M J d g k W->R J g
def Qd{t t':TI}(h:PI X tg e t)(w:∀f H R,t' f H R->t f H R):PI X tg e t':=λd s f H R I q=>h d s f H R I (w _ _ _ q)
def Nt(A:PE X l r):PI X tg l (λn H R=>r n H λx H1=>∃a,x=.ref a/\((∃xs,jm X.K H1 a xs)/\R (Rc X.K a) H1\/(∃xs,jM X.K H1 a xs)/\R (RT X.K a) H1)):=by
 intro i s n H R I h
 show di (A i s n H _ I h) λv d F=>?_
 let#[x,H1,f,t,m]:=F
 let#[a,e,m]:=m
 subst e
 cases t
 rcases m with⟨⟨xs,k⟩,q⟩|⟨⟨xs,k⟩,q⟩
 ·let#[g,u,p,w]:=f.list k
  show wpAny_pyIter_list p.isList ?_
  show#[d.heap.objs.size,[d.heap.objs.size],_,_,H1,L,f.kept (t':=d.toks) λb o e=>Qcq _ e,Hl a _,#[_,Qrq _ L,L,L],λb j=>?_,q]
  have e:b=d.heap.objs.size:=by simpa using j
  subst e
  show f.fpOk (Qmq _)<|f.hok.fresh<|Qmq _
 ·let#[g,u,p,w]:=f.tuple k
  show wpAny_pyIter_tuple (show d.heap.IsTuple a g.toArray from p) ?_
  show#[d.heap.objs.size,[d.heap.objs.size],_,_,H1,L,f.kept (t':=d.toks) λb o e=>Qcq _ e,Ew a _,#[_,Qrq _ L,L,L],λb j=>?_,q]
  have e:b=d.heap.objs.size:=by simpa using j
  subst e
  show f.fpOk (Qmq _)<|f.hok.fresh<|Qmq _
noncomputable def fT(f:e_):yu:=λh S=>(f h S).bind λ(p,g)=>some ((p.1,λd=>p.2.stays d p.1),g)
def L0{X:Cx}{tg l:Expr}{f:e_}(P:PE X l (tQ (md X) f)):PI X tg l (tI (md X)<|fT f):=Qd (Nt P) λσ H R N=>by
 let#[Q,U,S,ds,W,S',ok,e,q]:=N
 let#[#[#[A,t],Z],Y,e]:=au e
 let#[L,rfl]:=cH e
 let#[rfl,rfl]:=Prod.mk.inj L
 show#[Q,U,S,A,t,Z,ok,Y,λK a J H' x st h r=>#[a,rfl,?_]]
 cases c:t.isL with
 | true=>
   show .inl #[#[J,h.sqL c],q _ _ _ x st λi s M H2 G j w=>?_]
   let#[g,u,n]:=h.to r G j w
   let k:=u.sqL c
   show#[λd p=>?_,λI=>#[g,k,by rw[I,n.length];show Qmq _]]
   let#[v,o,F]:=n.get p
   show#[#[g,v,k,o],λx H3 m=>?_]
   let#[rfl,m]:=m
   have:=m g k
   rw[o] at this
   cases this
   show#[cI.refl,j,F]
 | false=>
   show .inr #[#[J,h.sqT c],q _ _ _ x st λi s M H2 G j w=>?_]
   let#[g,u,n]:=h.to r G j w
   let k:=u.sqT c
   show#[λd p=>?_,λI=>#[g,k,by rw[I,n.length];show Qmq _]]
   let#[v,o,F]:=n.get p
   show#[#[g,v,k,o],λx H3 m=>?_]
   let#[rfl,m]:=m
   have:=m g k
   rw[o] at this
   cases this
   show#[cI.refl,j,F]
noncomputable def jG(lo hi:Int):List D:=(List.range (hi-lo).toNat).map λ(i:Nat)=>D.int (lo+(i:Int))
noncomputable def vO(f:bL):yu:=λh S=>(f h S).bind λ(d,g)=>match d with
 |.int j=>if -(2^62)<=j/\j<2^62 then some ((jG 0 j,λ_=>True),g) else none
 |_=>none
def G2{M:Md}{ρ:X7}{H:Hp}{lo hi:Int}:Walks M (Ql lo (hi-lo).toNat) ρ H (jG lo hi) (λ_=>True):=λi l o H2 p g w=>by
 unfold jG
 show#[λd h=>?_,λhi=>by rw[lQm,QVq] at hi;show Nat.le_of_eq hi.symm]
 rw[gQm] at h
 let#[k,m,rfl]:=oQm.mp h
 let f:=(gQs.mp m)
 let#[f,j]:=f
 rw[List.getElem_range] at j
 subst j
 rw[QVq] at f
 show#[f,λx H3 n=>?_]
 let#[rfl,rfl]:=n
 show#[cI.refl,g,.int _]
def QZ(k:Gl X "range")(s:X.mg "range"=none)(u:PE X a (tD (md X) f))(h:autoParam (starEach [a] X.env= [(false,eval a X.env)]) dO._auto_1):PI X tg (.Call (.Name "range" p) [a] [] y) (tI (md X)<|vO f):=
 Qd (Hg k s (dA u jN h) h) λG H R n=>by
  let#[ρ,o,S,F,W,I,ok,e,q]:=n
  let#[#[d,v],t,e]:=au e
  dsimp only at e
  split at e
  ·rename_i j
   split at e
   ·rename_i i
    let#[l,rfl]:=cH e
    let#[rfl,rfl]:=Prod.mk.inj l
    show#[ρ,o,S,[.int j],v,ok,by unfold aq av;rw[t];rfl,λg A w x st r=>?_]
    cases r with
    | cons r m=>
      cases m
      cases r
      show#[j,L,i.1,i.2,q _ _ _ x st ?_]
      have:=G2 (M:=md X) (ρ:=g) (H:=w) (lo:=0) (hi:=j)
      rw[Int.sub_zero] at this
      show this
   ·cases e
  ·cases e
open Classical in
def forL(g:oM)(b:cJ)(W:aE->Prop):List D->cG->aE->Option Out
 | [],Γ,S=>if W S then some (.nx Γ S) else none
 |d ::ds,Γ,S=>if W S then(g d Γ S).bind λ(i,j)=>(b i j).bind λo=>match o with
    |.nx f h=>forL g b W ds f h
    |.ct f h=>forL g b W ds f h
    |.bk f h=>some (.nx f h)
    |.rt x h=>some (.rt x h)
    |.rl x h=>some (.rl x h)
  else none
def iV(i:yu)(g:oM)(b:cJ):cJ:=λd S=>(i d S).bind λ(p,f)=>forL g b p.2 p.1 d f
def Pg{X:Cx}(hp:PassesOwn (model X.prog X.w) X.A X.env X.xe)(hc:X.calm=true)(hi:PI X tg j (tI (md X) i))(hg:PG X tg (tG (md X) g))(hb:vj X z (tS (md X) f))
  (hs:autoParam (∀x,foldedSetIterable j X.env x=pure x) ec._auto_1):PS X (.For tg j z [] y) (tS (md X)<|iV i g f):=Fp (M1 hp hc hi hg hb hs) λD σ H ⟨ρ,Γ,S,o,ok,e,q⟩=>by
 let#[#[#[h,W],S1],e1,e]:=au e
 show#[ρ,Γ,S,h,W,S1,ok,e1,λu J H1 x1 a2 wk=>?_]
 let R:=q.to x1
 let U:=ok.to x1 a2
 show#[λi m t I=>m=h.length-i/\i<=h.length/\∃d r G,cI u H1 d I/\Ok (md X) d r G t I/\forL g f W (h.drop i) r G=some o,#[h.length,by simp,Nat.zero_le _,u,Γ,S1,cI.refl,U,e],?_]
 rintro i m a4 H2 ⟨rfl,hi,d,r,G,x2,ok2,e2⟩
 by_cases v:i<h.length
 ·have hd:h[i]?=some h[i]:=gQe v
  rw[QWq v] at e2
  unfold forL at e2
  split at e2
  ·rename_i w
   let#[w1,w2]:=wk i d G H2 x2 ok2.st w
   let#[go,Y]:=w1 _ hd
   show .inr #[go,λt I=>∃n p Q,cI u H1 n I/\Ok (md X) n p Q t I/\forL g f W (h.drop (i+1)) p Q=some o,λt I ⟨n,p,Q,h1,h2,h3⟩=>#[h.length-(i+1),by omega,rfl,v,n,p,Q,h1,h2,h3],λx H3 hy=>?_]
   let#[x3,Z,r3]:=Y x H3 hy
   let#[#[L,S4],e4,e5]:=au e2
   show#[d,r,G,_,L,S4,ok2.to x3 Z,r3,e4,λa0 a3 H4 x4 a1=>?_]
   let#[o5,e6,K]:=au e5
   let M:=(x2.trans x3).trans x4
   show#[a0,L,S4,o5,a1,e6,?_]
   cases o5 with
   |nx s F=>show λl N H6 P k=>#[l,s,F,M.trans P,k,K]
   |ct s F=>show λl N H6 P k=>#[l,s,F,M.trans P,k,K]
   |bk s F=>cases K;show λl N H6 P k=>R _ _ _ (M.trans P) k
   |rt d6 F=>cases K;show R.to M
   |rl d6 F=>cases K;show R.to M
  ·cases e2
 ·have e3:i=h.length:=by omega
  subst e3
  rw[List.drop_length] at e2
  unfold forL at e2
  split at e2
  ·rename_i w
   cases e2
   let#[w1,w2]:=wk h.length d G H2 x2 ok2.st w
   show .inl #[w2 rfl,R _ _ _ x2 ok2]
  ·cases e2
mutual
theorem Rel.off{H:Hp}(a:H b=some (.lst f)):∀{d:D} {v:V},Rel M ρ H d v->Rel M ρ (upd H b<|.lst ws) d v
 |_,_,.non=>.non
 |_,_,.bl x=>.bl x
 |_,_,.int i=>.int i
 |_,_,.str x=>.str x
 |_,_,.tup h hs=>.tup (by rw[bF (Im h a (by intro z;cases z))];show h) (bt.off a hs)
 |_,_,.ref h=>.ref h
 |_,_,.fn h=>.fn h
theorem bt.off{H:Hp}(a:H b=some (.lst f)):∀{ds:List D} {vs:List V},bt M ρ H ds vs->bt M ρ (upd H b<|.lst ws) ds vs
 |_,_,.nil=>.nil
 |_,_,.cons h hs=>.cons (Rel.off a h) (bt.off a hs)
end
theorem gN.off(st:gN M ρ S H)(e:H b=some (.lst f))(n:b∉ρ):gN M ρ S (upd H b (.lst ws)):=⟨st.len,st.nd,λk a o i l=>by
 let q:=st.obj k a o i l
 have h:a≠b:=λz=>n (z▸mQg i)
 cases o with
 |lst m=>let#[g,c,d]:=q;show#[g,by rw[bF h];show c,d.off e]
 |frz m=>let#[g,o,c,d]:=q;show#[g,o,by rw[bF h];show c,d.off e]
 |dct j=>let#[p,c,d]:=q;show#[p,by rw[bF h];show c,d.imp λ_ _ r=>r.off e]⟩
def En.off(h:En M ρ H a c)(j:H b=some (.lst f)):En M ρ (upd H b<|.lst ws) a c:=#[h.len,λi d q=>by let#[v,g,e]:=h.get i d q;show#[v,g,e.off j]]
def cI.off(e:cI d g ρ H)(i:g b=none)(u:HO):cI d g ρ (upd H b u):=⟨e.pre,e.new,λa o h c=>by rw[bF (gc h i)];show e.keep a o h c,λa h=>by
 by_cases z:a=b
 ·subst z;show i
 ·rw[bF z] at h;show e.grow a h⟩
noncomputable def qz(js:List (Option Nat))(a:cG):cG:=js.map λo=>o.bind λj=>a.getD j none
def En.sig(js:List (Option Nat))(h:En M ρ H a c):En M ρ H (qz js a) (lW js c) where
 len:=by unfold qz lW;rw[lQm,lQm]
 get:=λi d q=>by
  unfold qz at q
  unfold lW
  rw[gQm] at q|-
  cases e:js[i]? with
  |none=>rw[e] at q;cases q
  | some o=>
    rw[e] at q
    cases o with
    |none=>cases q
    | some j=>
      have b:a.getD j none=some d:=QdQ q
      have k:a[j]?=some (some d):=by
        rw[Qlq] at b
        cases z:a[j]? with
        |none=>rw[z] at b;cases b
        |some y=>rw[z] at b;show congrArg some b
      let#[v,g,f]:=h.get j d k
      show#[v,?_,f]
      show some (c.getD j none)=some (some v)
      rw[Qlq,g]
      rfl
open Classical in
def pJ(g:oM)(t:ke)(f:bL)(W:aE->Prop):List D->cG->aE->List D->Option (List D×aE)
 | [],Γ,S,acc=>if W S then some (acc,S) else none
 |d ::ds,Γ,S,acc=>if W S then(g d Γ S).bind λ(a,e)=>(t a e).bind λ(k,b)=>
    if k=true then(f a b).bind λ(y,c)=>if acc.length<sizeLine then pJ g t f W ds a c (acc++ [y]) else none
    else pJ g t f W ds a b acc
  else none
def bG(js:List (Option Nat))(i:yu)(g:oM)(t:ke)(f:bL):iD:=λa S=>(i a S).bind λ(p,b)=>pJ g t f p.2 p.1 (qz js a) b []
def HS:∀Z H Q,tL M (bG js i g t f) Z H Q->JJ js (tI M i) (tG M g) (tB M t) (tD M f) Z H Q:=λZ H Q qq=>by
 let#[ρ,Γ,S,rs,S',ok,e,q]:=qq
 let#[#[#[j,W],S1],e1,e]:=au e
 show#[ρ,Γ,S,j,W,S1,ok,e1,λl J H1 x1 P wk D K=>?_]
 have n1:D∉l:=dM x1 P K
 have a1:Ok M l (qz js Γ) S1 (lW js Z) (upd H1 D<|.lst []):=#[((ok.en.ext x1).ext (cI.laid K)).sig js,P.lay K]
 show⟨λi m B d=>m=j.length-i/\i<=j.length/\∃c s L b h,cI l H1 c d/\Ok M c s L B d/\D∉c/\d D=some (.lst h)/\bt M c d b h/\pJ g t f W (j.drop i) s L b=some (rs,S'),
  #[j.length,by simp,Nat.zero_le _,l,_,S1,[],[],cI.laid K,a1,n1,cg,.nil,e],?_⟩
 rintro i m a8 H2 ⟨rfl,hi,c,s,L,b,h,x2,ok2,n2,hD2,racc,e2⟩
 by_cases G:i<j.length
 ·have hd:j[i]?=some j[i]:=gQe G
  rw[QWq G] at e2
  unfold pJ at e2
  split at e2
  ·rename_i w
   let#[w1,w2]:=wk i c L H2 x2 ok2.st w
   let#[go,a2]:=w1 _ hd
   show .inr ⟨go,λB d=>∃a r A b h,cI l H1 a d/\Ok M a r A B d/\D∉a/\d D=some (.lst h)/\bt M a d b h/\pJ g t f W (j.drop (i+1)) r A b=some (rs,S'),
    λB d ⟨a,r,A,b,h,h1,h2,h3,h4,h5,h6⟩=>#[j.length-(i+1),by omega,rfl,G,a,r,A,b,h,h1,h2,h3,h4,h5,h6],λx H3 hy=>?_⟩
   let#[x3,a3,r3]:=a2 x H3 hy
   let#[#[n,S4],e4,e5]:=au e2
   show#[c,s,L,_,n,S4,ok2.to x3 a3,r3,e4,λa5 a7 H4 x4 p=>?_]
   let#[#[k,S5],e6,U]:=au e5
   show#[a5,n,S4,k,S5,p,e6,λR H5 X N=>?_]
   let o:=(x3.trans x4).trans X
   have C:∀{a d},cI c H2 a d->d D=some (.lst h)/\D∉a:=λ{a d} x=>#[x.keep _ _ hD2<|.inl n2,λm=>(x.new _ m).elim n2 λz=>by rw[z] at hD2;cases hD2]
   dsimp only at U|-
   split at U
   ·rename_i ck
    rw[Qhq ck]
    let#[#[y,S6],e8,Y]:=au U
    show#[R,n,S5,y,S6,p.to X N,e8,λa0 v H6 x6 a4 r6=>?_]
    let I:=o.trans x6
    let#[u,n6]:=C I
    let F:=racc.ext I
    dsimp only at Y
    split at Y
    ·rename_i cl
     show#[h,u,by rw[<-racc.length];show cl,a0,n,S6,b++ [y],h++ [v],(x2.trans I).off K _,#[((p.en.ext X).ext x6).off u,a4.off u n6],n6,cg,(F.append<|.cons r6 .nil).off u,Y]
    ·cases Y
   ·rename_i ck
    rw[Quq ck]
    let#[a6,n5]:=C o
    show#[R,n,S5,b,h,x2.trans o,p.to X N,n5,a6,racc.ext o,U]
  ·cases e2
 ·have e3:i=j.length:=by omega
  subst e3
  rw[List.drop_length] at e2
  unfold pJ at e2
  split at e2
  ·rename_i w
   let#[rfl,rfl]:=cH e2
   let#[w1,w2]:=wk j.length c L H2 x2 ok2.st w
   show .inl #[w2 rfl,q c D h H2 (x1.trans x2) ok2.st (x1.grow _ K) n2 hD2 racc]
  ·cases e2
noncomputable def bQ:ke:=λ_ S=>some (true,S)
def N1{t t':TT}(h:qy X f t)(w:∀g H Q,t' g H Q->t g H Q):qy X f t':=λd s g H Q I q=>h d s g H Q I (w _ _ _ q)
def PF:qy X [] (tB (md X) bQ):=N1 Mv λh H Q ⟨f,g,S,k,d,ok,e,q⟩=>by cases e;show q _ _ cI.refl ok.st
def Sd(d:PT X c (tB (md X) f)):qy X [c] (tB (md X) f):=MH d
def Iw
  (S:aL X N js d n) (u:X.calm=true) (hi:PI X tg h (tI (md X) i))
  (o:∀C s H fp,PG (aR X N d n C s H fp) tg<|tG (md X) g) (ht:∀C s H fp,qy (aR X N d n C s H fp) m<|tB (md X) t) (he:∀C s H fp,PE (aR X N d n C s H fp) k<|tD (md X) f)
  (q:autoParam (∀x,foldedSetIterable h X.env x=pure x) ec._auto_1):PE X (.ListComp k [⟨tg,h,m,0⟩] d j) (tL (md X)<|bG js i g t f):=ko (KJ S u hi o ht he q) HS
def Nv{u:Pos}
  (S:aL X N js h A) (hc:X.calm=true) (hi:PI X tg k (tI (md X) i))
  (P:∀C s H fp,PG (aR X N h A C s H fp) tg<|tG (md X) g) (ht:∀C s H fp,qy (aR X N h A C s H fp) y<|tB (md X) t) (he:∀C s H fp,PE (aR X N h A C s H fp) w<|tD (md X) f) (B:PG X m (rZ n))
  (hs:autoParam (∀x,foldedSetIterable k X.env x=pure x) ec._auto_1) (I:autoParam (swapsWithSole [m] (.ListComp w [⟨tg,k,y,0⟩] h j) u.line X.env=pure true) dO._auto_1)
  (R:autoParam ((assignEach [m] X.env).map (·.2)= [assign m X.env]) dO._auto_1):PS X (.Assign [m] (.ListComp w [#[tg,k,y,0]] h j) u) (tS (md X)<|aW n<|bO<|bG js i g t f):=
 Fp (Ky S hc hi P ht he B hs I R) λD σ H qq=>by
  let#[L,Γ,S,o,ok,e,q]:=qq
  let#[#[d,S1],e1,e]:=au e
  cases e
  let#[#[K,Y],U,e3]:=au e1
  let#[rfl,rfl]:=cH e3
  show HS σ H _ #[L,Γ,S,K,Y,ok,U,λv a Q M x st W nr ha Z=>?_]
  let F:=Z.pre (List.prefix_append v [a])
  let G:=st.box (o:=.lst K) nr #[Q,ha,F]
  have J:cI L H (v++ [a]) M:=⟨x.pre.trans (List.prefix_append _ _),λb z=>by
   rcases mQa.mp z with z|z
   ·show x.new b z
   ·rw[Qfq] at z;subst z;show .inr W,x.keep,x.grow⟩
  show q (v++ [a]) _ M J #[((ok.en.ext J).set (.ref ?_)),G]
  rw[<-st.len,QQq (Qmq _)]
  simp
noncomputable def Kg(c:ke)(b:cJ):Nat->cG->aE->Option Out
 |0,_,_=>none
 |n +1,Γ,S=>(c Γ S).bind λ(k,g)=>if k=true then(b Γ g).bind λo=>match o with
    |.nx d f=>Kg c b n d f
    |.ct d f=>Kg c b n d f
    |.bk d f=>some (.nx d f)
    |.rt x f=>some (.rt x f)
    |.rl x f=>some (.rl x f)
  else some (.nx Γ g)
def KY{X:Cx}(n:Nat)(hp:PassesOwn (model X.prog X.w) X.A X.env X.xe)(hc:PT X c (tB (md X) h))(Z:vj X l (tS (md X) f)):PS X (.While c l [] j) (tS (md X)<|Kg h f n):=Fp (H_ hp hc Z) λD σ H qq=>by
 let#[P,Γ,S,o,ok,e,q]:=qq
 show#[λm v B=>∃d g y,cI P H d B/\Ok (md X) d g y v B/\Kg h f m g y=some o,#[n,P,Γ,S,cI.refl,ok,e],?_]
 rintro m a0 H1 ⟨M,I,S1,x1,F,i⟩
 cases m with
 |zero=>cases i
 | succ m=>
   unfold Kg at i
   let#[#[k,R],e2,i]:=au i
   show#[M,I,S1,k,R,F,e2,λK H2 W L=>?_]
   dsimp only at i|-
   let C:=F.to W L
   let s:=x1.trans W
   split at i
   · rename_i N
     rw[Qhq N]
     let#[U,e3,i]:=au i
     show#[λv B=>∃d g y,cI P H d B/\Ok (md X) d g y v B/\Kg h f m g y=some o,λv B ⟨d,g,y,h1,Y,h3⟩=>#[m,Nat.lt_succ_self _,d,g,y,h1,Y,h3],K,I,R,U,C,e3,?_]
     cases U with
     |nx x z=>show λu J Q G t=>#[u,x,z,s.trans G,t,i]
     |ct x z=>show λu J Q G t=>#[u,x,z,s.trans G,t,i]
     |bk x z=>cases i;show λu J Q G t=>q _ _ _ (s.trans G) t
     |rt d6 z=>cases i;show q.to s
     |rl d6 z=>cases i;show q.to s
   · rename_i N
     rw[Quq N]
     cases i
     show q _ _ _ s C
inductive Res where
 |d (x:D)|l (ds:List D)
abbrev c8:=List D->aE->Option (Res×aE)
def MS(M:Md)(ρ:X7)(H b:Hp)(v:V):Res->Prop
 |.d x=>Rel M ρ b x v
 |.l e=>∃a c,v=.ref a/\H a=none/\a∉ρ/\b a=some (.lst c)/\bt M ρ b e c
def dW(M:Md)(n:Nat)(F:c8):Sp:=λf H Q _=>∃c S d r e,d.length=n/\bt M c H d f/\gN M c S H/\F d S=some (r,e)/\∀a v b,cI c H a b->gN M a e b->MS M a H b v r->Q v b
mutual
noncomputable def cA(m:Nat):D->Bool
 |.ref k=>decide (k<m)
 |.tup a=>cn m a
 |_=>true
noncomputable def cn(m:Nat):List D->Bool
 | []=>true
 |d::ds=>cA m d&&cn m ds
end
noncomputable def K5(m:Nat):O->Bool
 |.lst a=>cn m a
 |.frz a=>cn m a
 |.dct b=>cn m (b.map (·.2))
mutual
theorem Rel.cut(e:ρ <+: f):∀{d:D} {v:V},Rel M f H d v->cA ρ.length d=true->Rel M ρ H d v
 |_,_,.non,_=>.non
 |_,_,.bl x,_=>.bl x
 |_,_,.int i,_=>.int i
 |_,_,.str x,_=>.str x
 |_,_,.tup h hs,b=>.tup h (bt.cut e hs (by simpa [cA] using b))
 | _,_,.ref (k:=k) (a:=a) h,b=>.ref (by
   let#[t,rfl]:=e
   have c:k<ρ.length:=by simpa [cA] using b
   rwa [QHq c] at h)
 |_,_,.fn h,_=>.fn h
theorem bt.cut(e:ρ <+: f):∀{ds:List D} {vs:List V},bt M f H ds vs->cn ρ.length ds=true->bt M ρ H ds vs
 |_,_,.nil,_=>.nil
 | _,_,.cons h hs,b=>by
   let a:=b
   erw[cn,QDq,QCq] at a
   show .cons (Rel.cut e h a.1) (bt.cut e hs a.2)
end
theorem cN.cut(e:ρ <+: f):∀{l:List (Key×D)} {kv:List (Key×V)},cN M f H l kv->cn ρ.length (l.map (·.2))=true->cN M ρ H l kv
 | [],_,h,_=>h
 | (_,_)::_,_,#[v,t,q,h,hs],b=>by
   let a:=b
   erw[cn,QDq,QCq] at a
   show#[v,t,q,h.cut e a.1,cN.cut e hs a.2]
theorem qU.cut(e:ρ <+: f)(h:qU M f H a o)(b:K5 ρ.length o=true):qU M ρ H a o:=by
 cases o with
 |lst k=>let#[g,d,c]:=h;show#[g,d,c.cut e b]
 |frz k=>let#[g,o,d,c]:=h;show#[g,o,d,c.cut e b]
 |dct i=>let#[j,d,c]:=h;show#[j,d,c.cut e b]
mutual
theorem Rel.low:∀{d:D} {v:V},Rel M ρ H d v->cA ρ.length d=true
 |_,_,.non=>rfl
 |_,_,.bl x=>rfl
 |_,_,.int i=>rfl
 |_,_,.str x=>rfl
 |_,_,.tup h hs=>by erw[cA];show bt.low hs
 |_,_,.ref h=>by erw[cA];show Qeq (gQs.mp h).1
 |_,_,.fn h=>rfl
theorem bt.low:∀{ds:List D} {vs:List V},bt M ρ H ds vs->cn ρ.length ds=true
 |_,_,.nil=>rfl
 |_,_,.cons h hs=>by erw[cn];rw[Rel.low h,bt.low hs];rfl
end
theorem cN.low:∀{l:List (Key×D)} {kv:List (Key×V)},cN M ρ H l kv->cn ρ.length (l.map (·.2))=true
 | [],_,_=>rfl
 |(_,_)::_,_,#[v,t,q,h,hs]=>by erw[QDq,cn];rw[h.low,cN.low hs];rfl
theorem qU.low(h:qU M ρ H a o):K5 ρ.length o=true:=by
 cases o with
 |lst g=>let#[e,c,b]:=h;show b.low
 |frz g=>let#[e,o,c,b]:=h;show b.low
 |dct d=>let#[i,c,b]:=h;show b.low
def qW(S a:aE):Prop:=S.length<=a.length/\∀k o,k<S.length->a[k]?=some o->S[k]?=some o\/K5 S.length o=true
open Classical in
def settle(S:aE)(d:D)(a:aE):Option (Res×aE):=if qW S a then match d with
  | .ref k=>if k<S.length then some (.d (.ref k),a.take S.length) else match a[k]? with
    |some (.lst ds)=>if cn S.length ds=true then some (.l ds,a.take S.length) else none
    |_=>none
  |d=>if cA S.length d=true then some (.d d,a.take S.length) else none
 else none
open Classical in
def eY(S:aE)(ds:List D)(a:aE):Option (Res×aE):=if qW S a/\cn S.length ds=true then some (.l ds,a.take S.length) else none
noncomputable def fB(n:Nat)(b:cJ):c8:=λc S=>(b (c.map some++List.replicate (n-c.length) none) S).bind λo=>match o with
 |.nx _ a=>settle S .non a
 |.rt d a=>settle S d a
 |.rl l a=>eY S l a
 |_=>none
noncomputable def B0(n:Nat)(b:cJ):c8:=λc S=>(b (c.map some++List.replicate (n-c.length) none) S).bind λo=>match o with
 |.nx _ a=>some (.d .non,a)
 |.rt d a=>some (.d d,a)
 |.rl l a=>some (.l l,a)
 |_=>none
def gN.clean(st:gN M ρ S H)(x:cI ρ H b e)(i:gN M b j e)(c:qW S j):gN M ρ (j.take S.length) e/\cI ρ H ρ e:=by
 show#[#[?_,st.nd,λk a o g f=>?_],List.prefix_refl _,λ_ h=>.inl h,x.keep,x.grow]
 ·rw[Qxq,st.len]
  have:=c.1
  omega
 ·have l:k<ρ.length:=(gQs.mp g).1
  have d:k<S.length:=st.len▸l
  rw[List.getElem?_take_of_lt d] at f
  show(i.obj k a o (dz x.pre g) f).cut x.pre ?_
  rcases c.2 k o d f with z|z
  ·show(st.obj k a o g z).low
  ·rw[st.len];show z
def y2(st:gN M ρ S H)(x:cI ρ H b g)(f:gN M b t g)(l:Rel M b g d v)(e:settle S d t=some (r,h)):
  cI ρ H ρ g/\gN M ρ h g/\MS M ρ H g v r:=by
 unfold settle at e
 split at e
 ·rename_i c
  let#[o,q]:=st.clean x f c
  cases d with
  | ref k=>
    dsimp only at e
    split at e
    · rename_i n
      let#[rfl,rfl]:=cH e
      show#[q,o,l.cut x.pre (by erw[cA];rw[st.len];show Qeq n)]
    · rename_i n
      split at e
      · rename_i B A
        split at e
        · rename_i i
          let#[rfl,rfl]:=cH e
          cases l with
          | ref p=>
            rename_i a
            let#[y,z,w]:=f.obj k a _ p A
            have s:a∉ρ:=λm=>by
              let#[j,u]:=List.getElem?_of_mem m
              have:=mK f.nd (dz x.pre u) p
              subst this
              show n (st.len▸(gQs.mp u).1)
            show#[q,o,a,y,L,(x.new a<|mQg p).resolve_left s,s,z,w.cut x.pre (by rw[st.len];show i)]
        · cases e
      · cases e
  | _=>
    dsimp only at e
    split at e
    · rename_i i
      let#[rfl,rfl]:=cH e
      show#[q,o,l.cut x.pre (by rw[st.len];show i)]
    · cases e
 ·cases e
def E4(st:gN M ρ S H)(x:cI ρ H b d)(g:gN M b h d)(j:H a=none)(k:a∉b)(n:d a=some (.lst vs))(i:bt M b d ds vs)(e:eY S ds h=some (r,f)):
  cI ρ H ρ d/\gN M ρ f d/\MS M ρ H d (.ref a) r:=by
 unfold eY at e
 split at e
 ·rename_i c
  let#[l,o]:=st.clean x g c.1
  let#[rfl,rfl]:=cH e
  show#[o,l,a,vs,L,j,λm=>k<|x.pre.subset m,n,i.cut x.pre (by rw[st.len];show c.2)]
 ·cases e
def Dp{N:X6}(r:bt M ρ H ds vs):En M ρ H (ds.map some++List.replicate (N.length-ds.length) none) (L2.start N vs) where
 len:=by unfold L2.start;simp[r.length]
 get:=λi d q=>by
  unfold L2.start
  by_cases c:i<ds.length
  ·rw[QHq (by rw[lQm];show c),gQm] at q
   let#[g,e,a]:=oQm.mp q
   cases a
   let#[v,f,b]:=r.get e
   show#[v,by rw[QHq (by rw[lQm,<-r.length];show c),gQm,f];rfl,b]
  ·rw[QQq (by rw[lQm];omega)] at q
   have:=mQg q
   rw[List.mem_replicate] at this
   cases this.2
def bz{P:X9}{w:Xc}{K:X1}{g:X3}{c:Xe}{x i:Str}{st:Stmt}{f:X8}{I:FuncData}{N ps:X6}{k:Nat}{b:cJ}(F:dX K x i st f I)(S:aF N ps (aB st))
  (m:∀(j:Xd) (A:X_) (h:List Env) (s:X4) (H:Hp) (E:XK),gE k (A.deeper (envOfC i (aB st) s.heap.objs.size f j))->
   vj (Cm dw P w K g c N i (aB st) f j A h s H E).nox (fX st) (tS #[K,g] b)):bx P w K g c dw (k+1) f I ps (dW #[K,g] ps.length (fB N.length b)):=by
 show F.ok S (λJ H Q E ⟨M,S,X,r,S',L,C,_⟩=>by rw[<-C.length];show L) λj A h s H J Q E hr ⟨M,S,X,r,S',L,C,z,W,q⟩=>#[_,m j A h s H E hr,?_]
 let#[o,e1,e]:=au W
 show#[M,_,S,o,#[Dp C,z],e1,?_]
 cases o with
 |nx a1 R=>show λn a0 U t G=>by let#[u,p,y]:=y2 z t G.st .non e;show q _ _ _ u p y
 |rt d R=>show λn v U t l B=>by let#[u,p,y]:=y2 z t l B e;show q _ _ _ u p y
 |rl d R=>show λn a J U t l Y Z ha B=>by let#[u,p,y]:=E4 z t l Y Z ha B e;show q _ _ _ u p y
 |bk=>cases e
 |ct=>cases e
def iJ{P:X9}{w:Xc}{K:X1}{g:X3}{c:Xe}{x i:Str}{st:Stmt}{f:X8}{B:FuncData}{N ps:X6}{k:Nat}{b:cJ}(F:dX K x i st f B)(S:aF N ps (aB st))
  (m:∀(j:Xd) (A:X_) (h:List Env) (s:X4) (H:Hp) (E:XK),gE k (A.deeper (envOfC i (aB st) s.heap.objs.size f j))->
   vj (Cm dw P w K g c N i (aB st) f j A h s H E).nox (fX st) (tS #[K,g] b)):bx P w K g c dw (k+1) f B ps (dW #[K,g] ps.length (B0 N.length b)):=by
 show F.ok S (λy H Q E ⟨G,S,M,r,Z,C,u,_⟩=>by rw[<-u.length];show C) λj A h s H y Q E W ⟨G,S,M,r,Z,C,u,X,L,q⟩=>#[_,m j A h s H E W,?_]
 let#[o,e1,e]:=au L
 show#[G,_,S,o,#[Dp u,X],e1,?_]
 cases o with
 |nx a0 I=>cases e;show λn Y J p z=>q _ _ _ p z.st .non
 |rt d I=>cases e;show λn v J p l t=>q _ _ _ p l t
 |rl d I=>cases e;show λn a y J p l R U ha t=>q _ _ _ p l #[a,y,rfl,R,U,ha,t]
 |bk=>cases e
 |ct=>cases e
noncomputable def az(F:c8)(g:iD):bL:=λj S=>(g j S).bind λ(m,h)=>(F m h).bind λ(r,a)=>match r with
 |.d x=>some (x,a)
 |.l _=>none
noncomputable def dN(F:c8)(g:iD):iD:=λm S=>(g m S).bind λ(a,j)=>(F a j).bind λ(r,h)=>match r with
 |.d _=>none
 |.l a=>some (a,h)
def nA(n:Nat)(g:iD):Prop:=∀h S a d,g h S=some (a,d)->a.length=n
def DR:nA 0 av:=λ_ _ _ _ e=>by cases e;rfl
def oW{n:Nat}{f:bL}{g:iD}(h:nA n g):nA (n+1) (aq f g):=λr S s l e=>by
 let#[#[d,q],o,e]:=au e
 let#[#[j,m],a,e]:=au e
 cases e
 rw[Qnq,h _ _ _ _ a]
def E8(I:nA n g):∀o H Q,tD M (az F g) o H Q->Js (dW M n F) [] E0 (Cy M g) o H Q:=λo H Q A=>by
 let#[B,C,S,d,N,ok,e,q]:=A
 let#[#[m,t],s,e]:=au e
 let#[#[r,z],y,e]:=au e
 show#[B,C,S,m,t,ok,s,λj L H1 K a u=>#[j,t,m,r,z,I _ _ _ _ s,by rw[List.append_nil];show u,a,y,λw v H2 G h J=>?_]]
 cases r with
 |d x=>let#[rfl,rfl]:=cH e;show q _ _ _ (K.trans G) h J
 |l m=>cases e
def LS(L:nA n g):∀s H Q,tL M (dN F g) s H Q->Js (dW M n F) [] E0 (Cy M g) s H Q:=λs H Q G=>by
 let#[I,J,S,d,P,ok,e,q]:=G
 let#[#[o,u],t,e]:=au e
 let#[#[r,C],B,e]:=au e
 show#[I,J,S,o,u,ok,t,λm A H1 w h y=>#[m,u,o,r,C,L _ _ _ _ t,by rw[List.append_nil];show y,h,B,λz v H2 K j N=>?_]]
 cases r with
 |d x=>cases e
 | l o=>
   let#[rfl,rfl]:=cH e
   let#[a,A,rfl,fr,na,ha,rr]:=N
   show q _ _ _ _ (w.trans K) j (w.grow _ fr) na ha rr
def MO{X:Cx}(G:bx X.prog X.w X.K X.mg X.base dw k f i ps (dW (md X) n F))(l:gE k X.A)(o:Gl X x)(d:X.mg x=some (.ref f))(h:PySem.W.keepIn X.K (.ref f)=true)(m:Binds X.K i ps [])(j:PA X (e::b) (Cy (md X) g))(q:nA n g)
  (a:autoParam ((x==("__debug__":Str))=false) dL._auto_1) (he:autoParam (starEach (e::b) X.env=(false,eval e X.env)::starEach b X.env) dO._auto_1) (hpl:autoParam ((backTo c<|starEach b X.env).any (·.1)=false) dO._auto_1):
  PE X (.Call (.Name x p) (e::b) [] c) (tD (md X)<|az F g):=ko (Fy G l o d h m .nil nV j a he hpl) (E8 q)
def MM{X:Cx}(G:bx X.prog X.w X.K X.mg X.base dw k f i ps (dW (md X) n F))(l:gE k X.A)(o:Gl X x)(d:X.mg x=some (.ref f))(h:PySem.W.keepIn X.K (.ref f)=true)(m:Binds X.K i ps [])(j:PA X (e::b) (Cy (md X) g))(q:nA n g)
  (a:autoParam ((x==("__debug__":Str))=false) dL._auto_1) (he:autoParam (starEach (e::b) X.env=(false,eval e X.env)::starEach b X.env) dO._auto_1) (hpl:autoParam ((backTo c<|starEach b X.env).any (·.1)=false) dO._auto_1):
  PE X (.Call (.Name x p) (e::b) [] c) (tL (md X)<|dN F g):=ko (Fy G l o d h m .nil nV j a he hpl) (LS q)
noncomputable def jF(xs:List α)(lo hi:Xb):List α:=(xs.drop<|HT.ft xs.length 0 lo).take (HT.ft xs.length xs.length hi-HT.ft xs.length 0 lo)
def bt.cut3{M:Md}{ρ:X7}{H:Hp}{ds:List D}{vs:List V}{lo hi:Xb}(h:bt M ρ H ds vs):bt M ρ H (jF ds lo hi) (A2 vs lo hi):=by
 unfold jF A2
 rw[h.length]
 show(h.drop _).take _
def Kj{α:Type}{xs:List α}{lo hi:Xb}(b:HT.ft xs.length 0 lo=0)(a:HT.ft xs.length xs.length hi=xs.length):jF xs lo hi=xs:=by
 unfold jF
 rw[b,a]
 simp
abbrev K_:=cG->aE->Option (Option Int×aE)
def NS(M:Md)(f:K_):TO:=λg H Q=>∃d e S o c,Ok M d e S g H/\f e S=some (o,c)/\∀a b,cI d H a b->gN M a c b->Q o b
noncomputable def ua:K_:=λ_ S=>some (none,S)
noncomputable def sQ(f:bL):K_:=λh S=>(f h S).bind λ(d,g)=>match d with
 |.int i=>some (some i,g)
 |_=>none
def Rg{t t':TO}(h:PO X o t)(w:∀f H Q,t' f H Q->t f H Q):PO X o t':=λd s f H Q I q=>h d s f H Q I (w _ _ _ q)
def Qy:PO X none (NS (md X) ua):=Rg Le λh H Q ⟨f,g,S,o,d,ok,e,q⟩=>by cases e;show q _ _ cI.refl ok.st
def QD(h:PE X e (tD (md X) f)):PO X (some e) (NS (md X)<|sQ f):=Rg (Kr h) λp H Q i=>by
 let#[k,l,S,o,s,ok,e,q]:=i
 let#[#[d,n],m,e]:=au e
 dsimp only at e
 split at e
 ·let#[rfl,rfl]:=cH e
  show#[k,l,S,_,n,ok,m,λg v t x st r=>?_]
  cases r
  show#[_,L,q _ _ x st]
 ·cases e
noncomputable def uK(f:bL)(lo hi:K_):bL:=λg S=>(f g S).bind λ(d,m)=>(lo g m).bind λ(l,i)=>(hi g i).bind λ(h,k)=>match d with
 |.tup n=>some (.tup (jF n l h),k)
 |_=>none
def Qc{X:Cx}{e:Expr}{j:Pos}{lo hi:Option Expr}{J:Pos}{f:bL}{l h:K_}(he:PE X e (tD (md X) f))(P:PO X lo (NS (md X) l))(U:PO X hi (NS (md X) h)):PE X (.Subscript e (.Slice lo hi none J) j) (tD (md X)<|uK f l h):=
 ko (Ct Lp he P U) λσ H Q N=>by
  let#[R,t,S,d,S',ok,e,q]:=N
  let#[#[x,F],Y,e]:=au e
  let#[#[G,B],M,e]:=au e
  let#[#[z,W],Z,e]:=au e
  cases x with
  | tup A=>
    dsimp only at e
    let#[rfl,rfl]:=cH e
    show#[R,t,S,_,F,ok,Y,λr v H1 w g K=>#[r,t,F,G,B,ok.to w g,M,λn H2 u o=>#[n,t,B,z,W,(ok.to w g).to u o,Z,λL H3 y i=>?_]]]
    let k:=(w.trans u).trans y
    let I:=K.ext (u.trans y)
    cases I with
    | tup C m=>
      show#[_,_,rfl,jM.of C,λc=>?_,λc p s=>?_]
      · have:jF A G z=A:=Kj (by rw[m.length];show c.1) (by rw[m.length];show c.2)
        rw[this] at q
        show q _ _ _ k i<|.tup C m
      · show q _ _ _ (k.trans<|cI.laid s) (i.lay s)<|.tup cg (m.cut3.ext<|cI.laid s)
  |_=>cases e
open Classical in
def P3(f:e_)(lo hi:K_):iD:=λd S=>(f d S).bind λ(p,k)=>(lo d k).bind λ(l,i)=>(hi d i).bind λ(h,g)=>if p.2.isL=true/\p.2.stays g p.1 then some (jF p.1 l h,g) else none
def PV{X:Cx}{e:Expr}{j:Pos}{lo hi:Option Expr}{B:Pos}{f:e_}{l h:K_}(he:PE X e (tQ (md X) f))(M:PO X lo (NS (md X) l))(P:PO X hi (NS (md X) h)):PE X (.Subscript e (.Slice lo hi none B) j) (tL (md X)<|P3 f l h):=
 ko (Ct Lc he M P) λσ H Q L=>by
  let#[N,s,S,d,S',ok,e,q]:=L
  let#[#[#[J,t],z],W,e]:=au e
  let#[#[Z,y],K,e]:=au e
  let#[#[F,U],Y,e]:=au e
  dsimp only at e
  split at e
  ·rename_i c
   let#[rfl,rfl]:=cH e
   show#[N,s,S,J,t,z,ok,W,λr a vs H1 w k G C=>#[r,s,z,Z,y,ok.to w k,K,λn H2 u o=>#[n,s,y,F,U,(ok.to w k).to u o,Y,λI H3 x g=>?_]]]
   let i:=(w.trans u).trans x
   let#[v,R,A]:=G.to C (u.trans x) g c.2
   show#[_,v,rfl,R.sqL c.1,λp m=>?_]
   show q _ _ _ _ (i.trans<|cI.laid m) (g.lay m) (i.grow _ m) (dM i g m) cg<|A.cut3.ext<|cI.laid m
  ·cases e
open Classical in
def A4(f g:e_):iD:=λh S=>(f h S).bind λ(p,i)=>(g h i).bind λ(r,d)=>if p.2.isM=true/\r.2.isM=true/\p.2.stays d p.1/\p.1.length+r.1.length<=sizeLine then some (p.1++r.1,d) else none
def R0(R:PE X a (tQ (md X) f))(A:PE X b (tQ (md X) g)):PE X (.BinOp a .Add b j) (tL (md X)<|A4 f g):=ko (uT M3 R A) λW H Q K=>by
 let#[L,r,S,d,Y,ok,e,q]:=K
 let#[#[#[F,t],v],P,e]:=au e
 let#[#[#[M,x],J],I,e]:=au e
 dsimp only at e
 split at e
 ·rename_i c
  let#[rfl,rfl]:=cH e
  show#[L,r,S,F,t,v,ok,P,λm a U H1 w l C z=>#[m,r,v,M,x,J,ok.to w l,I,λB b G H2 s h y u=>?_]]
  let#[n,N,o]:=C.to z s h c.2.2.1
  let i:=w.trans s
  show#[_,_,n,G,rfl,rfl,N.sqM c.1,y.sqM c.2.1,by rw[<-o.length,<-u.length];show c.2.2.2,λp k=>?_]
  show q _ _ _ _ (i.trans<|cI.laid k) (h.lay k) (i.grow _ k) (dM i h k) cg ((o.append u).ext (cI.laid k))
 ·cases e
open Classical in
def K6(f:e_)(g:bL):iD:=λh S=>(f h S).bind λ(p,i)=>(g h i).bind λ(r,d)=>match r with
 |.int k=>if p.2.isM=true/\p.2.stays d p.1/\ -(2^63)<=k/\k<2^63/\p.1.length*k.toNat<=sizeLine then some ((List.replicate k.toNat p.1).flatten,d) else none
 |_=>none
def Rq(P:PE X a (tQ (md X) f))(A:PE X b (tD (md X) g)):PE X (.BinOp a .Mult b j) (tL (md X)<|K6 f g):=ko (uT NF P A) λU H Q J=>by
 let#[K,u,S,d,W,ok,e,q]:=J
 let#[#[#[F,t],x],N,e]:=au e
 let#[#[r,I],G,e]:=au e
 cases r with
 | int k=>
   dsimp only at e
   split at e
   · rename_i c
     let#[rfl,rfl]:=cH e
     show#[K,u,S,F,t,x,ok,N,λn a R H1 y m C z=>#[n,u,x,_,I,ok.to y m,G,λB w H2 v h M=>?_]]
     let#[o,L,s]:=C.to z v h c.2.1
     let i:=y.trans v
     cases M
     show#[_,k,o,rfl,rfl,L.sqM c.1,c.2.2.1,c.2.2.2.1,by rw[<-s.length];show c.2.2.2.2,λp l=>?_]
     show q _ _ _ _ (i.trans<|cI.laid l) (h.lay l) (i.grow _ l) (dM i h l) cg ((s.rep _).ext (cI.laid l))
   · cases e
 |_=>cases e
open Classical in
def eqQ(d:Bool)(f g:e_):bL:=λl S=>(f l S).bind λ(p,m)=>(g l m).bind λ(r,h)=>if p.2.isL=true/\r.2.isL=true/\p.2.stays h p.1 then(kF p.1).bind λi=>(kF r.1).bind λk=>some (.bl (if d then !FC i k else FC i k),h) else none
def Pr:∀n H Q,tD (md X) (eqQ i f g) n H Q->Ki (Pa X.K i) (tQ (md X) f) (tQ (md X) g) n H Q:=λn H Q G=>by
 let#[I,o,S,d,Y,ok,e,q]:=G
 let#[#[#[B,t],r],N,e]:=au e
 let#[#[#[J,u],F],C,e]:=au e
 dsimp only at e
 split at e
 ·rename_i c
  let#[Z,P,e]:=au e
  let#[W,R,e]:=au e
  let#[rfl,rfl]:=cH e
  show#[I,o,S,B,t,r,ok,N,λm a U H1 s l A x=>#[m,o,r,J,u,F,ok.to s l,C,λy b z H2 p h w M=>?_]]
  let#[k,L,v]:=A.to x p h c.2.2
  let#[rfl,f1]:=kB v P
  let#[rfl,f2]:=kB M R
  show#[a,b,k,z,rfl,rfl,L.sqL c.1,w.sqL c.2.1,f1,f2,q _ _ _ (s.trans p) h<|.bl _]
 ·cases e
def Ri{X:Cx}(h:X.A.units<cLine)(d:PE X a (tQ (md X) f))(i:PE X b (tQ (md X) g)):PT X (.Compare a [.NotEq] [b] j) (tB (md X)<|aH<|eqQ true f g):=zB Pr (qV (IJ h) d i<|Iy _)
open Classical in
def dg(f:e_):bL:=λg S=>(f g S).bind λ(p,d)=>if p.2.isL=true/\p.2.stays d p.1 then some (.bl (!p.1.isEmpty),d) else none
def KI:∀l H Q,tD (md X) (dg f) l H Q->Ki (IR X.K) (tQ (md X) f) (tL (md X)<|bD av) l H Q:=λl H Q y=>by
 let#[z,n,S,d,L,ok,e,q]:=y
 let#[#[#[x,t],m],C,e]:=au e
 dsimp only at e
 split at e
 ·rename_i c
  let#[rfl,rfl]:=cH e
  show#[z,n,S,x,t,m,ok,C,λk a F H1 p i w s=>#[k,n,m,[],m,ok.to p i,rfl,λv b G H2 o g I J u B=>?_]]
  let#[h,A,r]:=w.to s o g c.2
  cases B
  show#[a,b,h,rfl,rfl,A.sqL c.1,jm.of u,?_]
  rw[<-r.isEmpty]
  show q _ _ _ (p.trans o) g<|.bl _
 ·cases e
def O0:PE X (.List [] j) (tL (md X)<|bD av):=Ig jN
def Ko{X:Cx}(d:X.A.units<cLine)(g:PE X a (tQ (md X) f)):PT X (.Compare a [.NotEq] [.List [] p] j) (tB (md X)<|aH<|dg f):=zB KI (qV (HN d) g O0<|Iy _)
def gN.putL{M:Md}{ρ:X7}{S:aE}{H:Hp}{k:Nat}{a:X8}{ds h:List D}{ws:List V}(st:gN M ρ S H)(d:ρ[k]?=some a)(f:S[k]?=some (.lst ds))(r:bt M ρ H h ws):gN M ρ (S.set k<|.lst h) (upd H a<|.lst ws)/\cI ρ H ρ (upd H a<|.lst ws):=by
 let#[l,g,m]:=st.obj k a _ d f
 show st.put d f #[ws,cg,r.off g] λx i=>by rw[g] at i;cases i;show id
noncomputable def jd(m:List D->List D->Option (List D×D))(f:bL)(g:iD):bL:=λl S=>(f l S).bind λ(x,i)=>match x with
 | .ref k=>(g l i).bind λ(n,h)=>match i[k]?,h[k]? with
   |some (.lst _),some (.lst ds)=>(m ds n).bind λ(o,d)=>some (d,h.set k<|.lst o)
   |_,_=>none
 |_=>none
def DA(M:Md)(r:V->List V->Hp->VK->Prop)(m:List D->List D->Option (List D×D)):Prop:=∀{f:X7} {H:Hp} {a:X8} {n i l:List D} {d:D} {k h:List V} {Q:VK},H a=some (.lst k)->bt M f H n k->bt M f H i h->m n i=some (l,d)->
 (∀g w,bt M f H l g->Rel M f H d w->Q w (upd H a<|.lst g))->r (.ref a) h H Q
def M0(R:DA (md X) r m):∀u H Q,tD (md X) (jd m f g) u H Q->Qj X.K "list" r (tD (md X) f) (Cy (md X) g) u H Q:=λu H Q W=>by
 let#[Y,z,S,d,S',ok,e,q]:=W
 let#[#[x,C],e1,e]:=au e
 cases x with
 | ref k=>
   dsimp only at e
   let#[#[ys,P],N,e]:=au e
   dsimp only at e
   split at e
   · rename_i J ds t l
     let#[#[es,d'],e3,e]:=au e
     let#[rfl,rfl]:=cH e
     show#[Y,z,S,_,C,ok,e1,λs v H1 F h I=>?_]
     cases I with
     | ref B=>
       rename_i a
       let#[o,U,_]:=h.obj k a _ B t
       show#[.inl #[rfl,o,jm.of U],s,z,C,ys,P,ok.to F h,N,λL us H2 A i Z=>?_]
       let n:=dz A.pre B
       let#[vs,M,G]:=i.obj k a _ n l
       show R M G Z e3 λws w rw rd=>?_
       let#[p,y]:=i.putL n l rw
       show q _ _ _ ((F.trans A).trans y) p<|rd.ext y
   · cases e
 |_=>cases e
noncomputable def eN:List D->List D->Option (List D×D):=λd f=>match f with
 | [y]=>if d.length<sizeLine then some (d++ [y],.non) else none
 |_=>none
def NM:DA M Fk eN:=by
 intro o H a r n p d h m Q l g f e q
 unfold eN at e
 split at e
 ·split at e
  ·rename_i i
   let#[rfl,rfl]:=cH e
   cases f with
   | cons f k=>
     cases k
     show#[a,h,_,L,L,l,by rw[<-g.length];show i,q _ _ (g.append<|.cons f .nil) .non]
  ·cases e
 ·cases e
def HL{h d:Pos}(n:PE X o (tD (md X) f))(p:PE X e (tD (md X) g))(i:autoParam (attributeBase o "append" X.env (eval o X.env)=eval o X.env) dO._auto_1) (l:autoParam (((backTo d (starEach [e] X.env)).all (λx=> !x.1)&&(backToKw d (keywordEach [] X.env)).all (λx=>x.1.isSome)
   &&decide ([e].length+([]:List Keyword).length+(if ([]:List Keyword).isEmpty then 0 else 1)<30))=true) dO._auto_1)
  (k:autoParam ((h.endLine==d.line)=true) dO._auto_1) (m:autoParam (starEach [e] X.env= [(false,eval e X.env)]) dO._auto_1):PE X (.Call (.Attribute o "append" h) [e] [] d) (tD (md X)<|jd eN f<|aq g av):=
 ko (xC PySem.F.plainAttrs_list PySem.F.slot_list_append PySem.F.type_list_append sT n (dA p jN m) i l k m) (M0 NM)
def L7(B:DA (md X) r m):∀j H Q,tD (md X) (jd m f av) j H Q->N7 X.K "list" r (tD (md X) f) j H Q:=λj H Q C=>by
 let#[G,I,S,d,Z,ok,e,q]:=C
 let#[#[x,M],J,e]:=au e
 cases x with
 | ref k=>
   dsimp only at e
   let#[#[ys,U],A,e]:=au e
   cases A
   dsimp only at e
   split at e
   · rename_i u P F h
     let#[#[Y,W],L,e]:=au e
     let#[rfl,rfl]:=cH e
     show#[G,I,S,_,M,ok,J,λz v H1 N g t=>?_]
     cases t with
     | ref p=>
       rename_i a
       let#[y,o,s]:=g.obj k a _ p h
       show#[.inl #[rfl,y,jm.of o],B o s .nil L λR w rw rd=>?_]
       let#[i,n]:=g.putL p h rw
       show q _ _ _ (N.trans n) i<|rd.ext n
   · cases e
 |_=>cases e
noncomputable def G1:List D->List D->Option (List D×D):=λd f=>match f with
 | []=>(d[d.length-1]?).bind λy=>some (d.dropLast,y)
 |_=>none
def MV:DA M Pn G1:=by
 intro o H a n s p d i r Q j f k e q
 unfold G1 at e
 split at e
 ·let#[y,m,e]:=au e
  let#[rfl,rfl]:=cH e
  cases k
  let#[v,g,h]:=f.get m
  rw[f.length] at g
  show#[a,i,v,L,L,j,g,q _ _ f.dropLast h]
 ·cases e
def QW{g d:Pos}(j:PE X o (tD (md X) f))(i:autoParam (attributeBase o "pop" X.env (eval o X.env)=eval o X.env) dO._auto_1)(h:autoParam ((g.endLine==d.line)=true) dO._auto_1):PE X (.Call (.Attribute o "pop" g) [] [] d) (tD (md X)<|jd G1 f av):=
 ko (I0 PySem.F.plainAttrs_list PySem.F.slot_list_pop PySem.F.type_list_pop Mq j i h) (L7 MV)
noncomputable def g_:List D->List D->Option (List D×D):=λd f=>match f with
 | [.int i]=>if -(2^63)<=i/\i<2^63 then(seqIndex? i d.length).bind λk=>(d[k]?).bind λy=>some (d.eraseIdx k,y) else none
 |_=>none
def IA:DA M JA g_:=by
 intro u H a t z w d n x Q p f g e q
 unfold g_ at e
 split at e
 ·split at e
  ·rename_i i h
   let#[k,j,e]:=au e
   let#[y,r,e]:=au e
   let#[rfl,rfl]:=cH e
   cases g with
   | cons g o=>
     cases o
     cases g
     let#[v,s,m]:=f.get r
     rw[f.length] at j
     show#[a,n,i,k,v,L,L,p,h.1,h.2,j,s,q _ _ (f.eraseIdx k) m]
  ·cases e
 ·cases e
def KF{h d:Pos}(n:PE X o (tD (md X) f))(p:PE X e (tD (md X) g))(i:autoParam (attributeBase o "pop" X.env (eval o X.env)=eval o X.env) dO._auto_1) (k:autoParam (((backTo d (starEach [e] X.env)).all (λx=> !x.1)&&(backToKw d (keywordEach [] X.env)).all (λx=>x.1.isSome)
   &&decide ([e].length+([]:List Keyword).length+(if ([]:List Keyword).isEmpty then 0 else 1)<30))=true) dO._auto_1)
  (j:autoParam ((h.endLine==d.line)=true) dO._auto_1) (m:autoParam (starEach [e] X.env= [(false,eval e X.env)]) dO._auto_1):PE X (.Call (.Attribute o "pop" h) [e] [] d) (tD (md X)<|jd g_ f<|aq g av):=
 ko (xC PySem.F.plainAttrs_list PySem.F.slot_list_pop PySem.F.type_list_pop Jr n (dA p jN m) i k j m) (M0 IA)
noncomputable def Ad(f:bL)(g:e_):bL:=λi S=>(f i S).bind λ(x,h)=>match x with
 | .ref k=>(g i h).bind λ(p,d)=>match h[k]?,d[k]? with
   |some (.lst _),some (.lst ds)=>if p.2.isM=true/\ds.length+p.1.length<=sizeLine then some (.non,d.set k<|.lst (ds++p.1)) else none
   |_,_=>none
 |_=>none
def PB:∀s H Q,tD (md X) (Ad f g) s H Q->Qj X.K "list" Gf (tD (md X) f) (IZ (tQ (md X) g) Mm) s H Q:=λs H Q U=>by
 let#[W,w,S,d,S',ok,e,q]:=U
 let#[#[x,B],e1,e]:=au e
 cases x with
 | ref k=>
   dsimp only at e
   let#[#[#[ys,t],P],N,e]:=au e
   dsimp only at e
   split at e
   · rename_i I ds r j
     split at e
     · rename_i c
       let#[rfl,rfl]:=cH e
       show#[W,w,S,_,B,ok,e1,λp v H1 C h G=>?_]
       cases G with
       | ref A=>
         rename_i a
         let#[n,R,_]:=h.obj k a _ A r
         show#[.inl #[rfl,n,jm.of R],p,w,B,ys,t,P,ok.to C h,N,λJ b Z H2 y i F z=>?_]
         let m:=dz y.pre A
         let#[M,Y,u]:=i.obj k a _ m j
         show#[a,b,M,Z,rfl,rfl,Y,F.sqM c.1,by rw[<-u.length,<-z.length];show c.2,?_]
         let#[o,L]:=i.putL m j (u.append z)
         show q _ _ _ ((C.trans y).trans L) o .non
     · cases e
   · cases e
 |_=>cases e
def Jp{h d:Pos}(n:PE X o (tD (md X) f))(p:PE X e (tQ (md X) g))(i:autoParam (attributeBase o "extend" X.env (eval o X.env)=eval o X.env) dO._auto_1) (k:autoParam (((backTo d (starEach [e] X.env)).all (λx=> !x.1)&&(backToKw d (keywordEach [] X.env)).all (λx=>x.1.isSome)
   &&decide ([e].length+([]:List Keyword).length+(if ([]:List Keyword).isEmpty then 0 else 1)<30))=true) dO._auto_1)
  (j:autoParam ((h.endLine==d.line)=true) dO._auto_1) (m:autoParam (starEach [e] X.env= [(false,eval e X.env)]) dO._auto_1):PE X (.Call (.Attribute o "extend" h) [e] [] d) (tD (md X)<|Ad f g):=
 ko (xC PySem.F.plainAttrs_list PySem.F.slot_list_extend PySem.F.type_list_extend GE n (eB p gX m) i k j m) PB
noncomputable def xS(f g:bL):oM:=λd h S=>(f h S).bind λ(x,n)=>(g h n).bind λ(y,m)=>match x,y with
 | .ref k,.int i=>match m[k]? with
   |some (.lst ds)=>(Ef ds.length i).bind λj=>some (h,m.set k<|.lst (ds.set j d))
   |_=>none
 |_,_=>none
def QA:∀v t H Q,tG (md X) (xS f g) v t H Q->Ow (tD (md X) f) (tD (md X) g) Ma v t H Q:=λv t H Q M=>by
 let#[N,z,S,d,Y,S',ok,r,e,q]:=M
 let#[#[x,F],U,e]:=au e
 let#[#[y,L],K,e]:=au e
 cases x with
 | ref k=>
   cases y with
   | int i=>
     dsimp only at e
     split at e
     · rename_i ds A
       let#[j,W,e]:=au e
       let#[rfl,rfl]:=cH e
       show#[N,z,S,_,F,ok,U,λs Z H1 G o n=>#[s,z,F,_,L,ok.to G o,K,λI v2 H2 B h R=>?_]]
       cases R
       let n:=n.ext B
       cases n with
       | ref C=>
         let#[J,P,w]:=h.obj k _ _ C A
         let m:=G.trans B
         let#[p,u]:=h.putL C A (bt.set (r.ext m) j w)
         show#[_,J,i,j,rfl,rfl,P,by rw[<-w.length];show W,q _ _ _ (m.trans u) ((ok.to m h).to u p)]
     · cases e
   |_=>cases e
 |_=>cases e
def RS(d:PE X o (tD (md X) f))(hi:PE X i (tD (md X) g))
  (h:autoParam (∀v,assign (.Subscript o i l) X.env v=(do
   let ov<-holding [v] (eval o X.env)
   let iv<-holding [v,ov] (eval i X.env)
   standAt l
   holding [v,ov,iv] (setItem ov iv v)
   release [v,ov,iv] [])) ec._auto_1):PG X (.Subscript o i l) (tG (md X) (xS f g)):=Qe (Nd d hi set_list h) QA
noncomputable def Qg(f g h:bL):cJ:=λd S=>(f d S).bind λ(x,q)=>(g d q).bind λ(y,o)=>match x,y with
 | .ref k,.int i=>match o[k]? with
   | some (.lst ds)=>if 0<=i then(ds[i.toNat]?).bind λz=>(h d o).bind λ(w,p)=>match z,w,p[k]? with
     |.int m,.int n,some (.lst es)=>(Ef es.length i).bind λj=>some (.nx d (p.set k<|.lst (es.set j<|.int (m+n))))
     |_,_,_=>none
     else none
   |_=>none
 |_,_=>none
def Q9(ho:PE X o (tD (md X) f))(hi:PE X i (tD (md X) g))(he:PE X e (tD (md X) h))
  (F:autoParam (∀C G p,augStore i C G p=(do holding [p,C,G] (setItem C G p);release [p,C,G] [];pure .next)) ei._auto_1):PS X (.AugAssign (.Subscript o i A) .Add e l) (tS (md X)<|Qg f g h):=
 Fp (Lk ho hi HM he MD set_list F) λD σ H qq=>by
  let#[ρ,P,S,o,ok,e,q]:=qq
  let#[#[x,S1],e1,e]:=au e
  let#[#[y,U],e2,e]:=au e
  cases x with
  | ref k=>
    cases y with
    | int i=>
      dsimp only at e
      split at e
      · rename_i ds hs
        split at e
        · rename_i hi
          let#[z,e3,e]:=au e
          let#[#[w,Z],e4,e]:=au e
          cases z with
          | int m=>
            cases w with
            | int n=>
              cases d:Z[k]? with
              |none=>rw[d] at e;cases e
              | some o3=>
                rw[d] at e
                cases o3 with
                | lst es=>
                  dsimp only at e
                  let#[j,e5,e]:=au e
                  cases e
                  show#[ρ,P,S,_,S1,ok,e1,λN v1 H1 x1 K J=>#[N,P,S1,_,U,ok.to x1 K,e2,λL v2 H2 Y t r2=>?_]]
                  cases r2
                  let J:=J.ext Y
                  cases J with
                  | ref F=>
                    let u:=x1.trans Y
                    let#[vs,h3,h4]:=t.obj k _ _ F hs
                    let#[v,h5,h6]:=h4.get e3
                    cases h6
                    show#[_,vs,i.toNat,_,rfl,by rw[Int.toNat_of_nonneg hi],jm.of h3,h5,L,P,U,_,Z,ok.to u t,e4,λa0 v3 H3 R r r3=>?_]
                    cases r3
                    let s:=dz R.pre F
                    let#[M,g3,W]:=r.obj k _ _ s d
                    let B:=u.trans R
                    let#[I,Q]:=r.putL s d (bt.set (.int (m+n)) j W)
                    show#[m,n,rfl,rfl,_,M,i,j,rfl,rfl,g3,by rw[<-W.length];show e5,q _ _ _ (B.trans Q) ((ok.to B r).to Q I)]
                |_=>cases e
            |_=>cases e
          |_=>cases e
        · cases e
      · cases e
    |_=>cases e
  |_=>cases e
noncomputable def HQ(i j:Nat)(f:iD):cJ:=λd S=>(f d S).bind λ(h,g)=>match h with
 | [v,w]=>some (.nx ((d.set i<|some v).set j (some w)) g)
 |_=>none
def L4{X:Cx}{st:Stmt}{i j:Nat}{f:iD}(h:PS X st (PQ i j<|Cy (md X) f)):PS X st (tS (md X)<|HQ i j f):=Fp h λD w H m=>by
 let#[n,p,S,o,ok,e,q]:=m
 let#[#[v,t],s,e]:=au e
 dsimp only at e
 split at e
 ·cases e
  show#[n,p,S,_,t,ok,s,λk u y x st r=>?_]
  cases r with
  | cons r d=>
    cases d with
    | cons g d=>
      cases d
      show#[_,_,L,q _ _ _ x #[((ok.en.ext x).set r).set g,st]]
 ·cases e
noncomputable def fm(cells:List (Str×Addr)):List (Str×NameKind)->List (Str×Addr)->List (Str×Addr)
 | [],acc=>acc
 |(n,k)::r,acc=>if (k==.free)=true then fm cells r ((n,(cells.lookup n).getD 0)::acc) else fm cells r acc
theorem sD{env:Env}:∀(b:List (Str×NameKind)) (d:List (Str×Addr)),(∀y∈b,y.2=.free->(env.cells.lookup y.1).isSome=true)->
  (forIn b d λ(x:Str×NameKind) (g:List (Str×Addr))=>(do
   if (x.2==NameKind.free)=true then do
    let c<-cellOf env x.1
    pure (ForInStep.yield ((x.1,c)::g))
   else pure (ForInStep.yield g):Sem (ForInStep (List (Str×Addr)))))=(pure (fm env.cells b d):Sem _)
 | [],d,_=>rfl
 | (n,k)::r,d,h=>by
   rw[List.forIn_cons]
   unfold fm
   by_cases c:(k==NameKind.free)=true
   · let#[a,f]:=Option.isSome_iff_exists.mp (h (n,k) QBq (by simpa using c))
     erw[c,if_true]
     have i:cellOf env n=pure a:=by
       unfold cellOf
       rw[f]
     rw[i,pure_bind,pure_bind,f]
     show sD r _ λy e=>h y (Qpq _ e)
   · erw[c,Bool.false_eq_true,if_false]
     rw[pure_bind]
     show sD r _ λy e=>h y (Qpq _ e)
def Ka{a:Scope}{env:Env}(h:∀y∈a.names,y.2=.free->(env.cells.lookup y.1).isSome=true):closureFor a env=pure (fm env.cells a.names []):=by
 unfold closureFor
 have:=sD a.names [] h
 rw[bind_pure]
 show this
theorem xm:∀(a:List (Str×NameKind)) (b:List (Str×Addr)) (p:Str×Addr),p∈fm cells a b->p∈b\/∃n,(n,NameKind.free)∈a/\p=(n,(cells.lookup n).getD 0)
 | [],b,p,h=>.inl h
 | (n,k)::r,b,p,h=>by
   unfold fm at h
   split at h
   · rename_i c
     rcases xm r _ p h with h|⟨m,e,d⟩
     · rcases Qsq.mp h with h|h
       · show .inr #[n,by rw[show k=NameKind.free by simpa using c];show QBq,h]
       · show .inl h
     · show .inr #[m,Qpq _ e,d]
   · rcases xm r _ p h with h|⟨m,e,d⟩
     · show .inl h
     · show .inr #[m,Qpq _ e,d]
theorem wy:∀(a:List (Str×NameKind)) (b:List (Str×Addr)),((x,NameKind.free)∈a\/∃c,(x,c)∈b)->∃c,(x,c)∈fm cells a b
 | [],b,h=>by
   rcases h with h|h
   · cases h
   · show h
 | (n,k)::r,b,h=>by
   unfold fm
   split
   · rename_i c
     show wy r _ ?_
     rcases h with h|⟨c,h⟩
     · rcases Qsq.mp h with h|h
       · cases h;show .inr #[_,QBq]
       · show .inl h
     · show .inr #[c,Qpq _ h]
   · rename_i c
     show wy r _ ?_
     rcases h with h|h
     · rcases Qsq.mp h with h|h
       · cases h;show absurd L c
       · show .inl h
     · show .inr h
theorem pH:∀{l:List (Str×Addr)},(x,c)∈l->∃a,l.lookup x=some a
 | [],h=>by cases h
 | (n,d)::r,h=>by
   unfold List.lookup
   by_cases e:(x==n)=true
   · rw[e];show#[d,L]
   · have b:(x==n)=false:=by simpa using e
     rw[b]
     rcases Qsq.mp h with h|h
     · cases h;simp at e
     · show pH h
noncomputable def xH(c:X6)(a:Str->Option NameKind)(b:List (Str×NameKind)):List (Option Nat)->List Str->Bool
 |some j::js,x::N=>(c[j]? ==some x)&&(a x==some .cell||a x==some .free)&&(b.lookup x==some .free)&&xH c a b js N
 |none::js,_::N=>xH c a b js N
 |_,_=>true
theorem vU:∀{js:List (Option Nat)} {N:X6} {k j:Nat} {x:Str},xH c a b js N=true->js[k]?=some (some j)->N[k]?=some x->c[j]?=some x/\(a x=some .cell\/a x=some .free)/\b.lookup x=some .free
 | some i::js,y::N,0,j,x,h,h1,h2=>by
   cases h1
   cases h2
   erw[xH,QCq,Bool.or_eq_true,beq_iff_eq] at h
   show#[h.1.1.1,h.1.1.2,h.1.2]
 | some i::js,y::N,k+1,j,x,h,h1,h2=>by
   erw[xH,QCq] at h
   show vU h.2 (by simpa using h1) (by simpa using h2)
 |none::js,y::N,0,j,x,h,h1,h2=>by cases h1
 |none::js,y::N,k+1,j,x,h,h1,h2=>vU (k:=k) (by simpa [xH] using h) (by simpa using h1) (by simpa using h2)
 | [],N,k,j,x,h,h1,h2=>by simp at h1
 |some i::js,[],k,j,x,h,h1,h2=>by simp at h2
 |none::js,[],k,j,x,h,h1,h2=>by simp at h2
theorem rX{env:Env}:∀{a:List (Str×NameKind)},a.lookup x=some .free->(a.map λ(n,k)=>if (k==NameKind.free&&env.scope.kind==.function&&env.kindOf n==some .cell) then(n,NameKind.cell) else(n,k)).lookup x=some .cell∨
  (a.map λ(n,k)=>if (k==NameKind.free&&env.scope.kind==.function&&env.kindOf n==some .cell) then(n,NameKind.cell) else(n,k)).lookup x=some .free
 | [],h=>by cases h
 | (n,k)::r,h=>by
   unfold List.lookup at h
   rw[QDq]
   by_cases e:(x==n)=true
   · rw[e] at h
     cases h
     dsimp only
     split
     · left;unfold List.lookup;rw[e]
     · right;unfold List.lookup;rw[e]
   · have b:(x==n)=false:=by simpa using e
     rw[b] at h
     let c:=rX (env:=env) h
     dsimp only
     split <;>(unfold List.lookup;rw[b];show c)
def aL.gen{X:Cx}{d:Scope}(k:d.kind=.function)(o:d.names.all (λy=>y.2 !=.cell)=true)(r:d.names.all (λy=>y.2 !=.local||d.names.lookup y.1==some .local)=true)
  (p:d.names.all (λy=>y.2 !=.free||(X.env.cells.lookup y.1).isSome)=true) (u:xH X.N X.env.kindOf d.names js N=true) (v:js.length=N.length):aL X N js d (fm X.env.cells d.names []) where
 kind:=k
 nocell:=λy f=>by
  have:=QUq.mp o y f
  simpa using this
 names:=λy f e=>by
  have:=QUq.mp r y f
  rw[e] at this
  simpa using this
 clos:=Ka λy f e=>by
  have:=QUq.mp p y f
  rw[e] at this
  simpa using this
 sub:=λx c h=>by
  rcases xm _ _ _ (PySem.mem_of_lookup h) with h|⟨n,m,e⟩
  ·cases h
  ·cases e
   have:=QUq.mp p _ m
   have w:(X.env.cells.lookup x).isSome=true:=by simpa using this
   let#[c,g]:=Option.isSome_iff_exists.mp w
   rw[g]
   rfl
 has:=λx h=>by
  have l:(x,NameKind.free)∈d.names:=by
   have:∃k,(relabel d X.env).names.lookup x=some k/\(k=.cell\/k=.free):=by
    rcases h with h|h
    ·show#[_,h,.inl L]
    ·show#[_,h,.inr L]
   let#[B,s,g]:=this
   let q:=PySem.mem_of_lookup s
   unfold relabel at q
   let#[#[n,t],f,i]:=Qkq.mp q
   dsimp only at i
   split at i
   ·rename_i c
    cases i
    erw[QCq] at c
    have:t=NameKind.free:=by simpa using c.1.1
    rw[<-this]
    show f
   ·cases i
    rcases g with z|z
    ·have:=QUq.mp o _ f
     rw[z] at this
     simp at this
    ·rw[<-z];show f
  let#[c,g]:=wy (cells:=X.env.cells) d.names [] (.inl l)
  show pH g
 cap:=λk j x A m=>by
  let#[a,b,c]:=vU u A m
  show#[a,b,?_]
  unfold relabel
  show rX c
 len:=v
structure eD(P:X9)(w:Xc)(K:X1)(mg:X3)(base:Xe)(k:Nat)(x:Str)(ps:X6)(F:c8):Prop where
 ex:∃f fd,bx P w K mg base dw k f fd ps (dW #[K,mg] ps.length F)/\Binds K fd ps []/\PySem.W.keepIn K (.ref f)=true/\mg x=some (.ref f)
def N5{X:Cx}(C:eD X.prog X.w X.K X.mg X.base k x ps F)(j:gE k X.A)(l:Gl X x)(i:PA X (e::a) (Cy (md X) g))(o:nA ps.length g)
  (d:autoParam ((x==("__debug__":Str))=false) dL._auto_1) (he:autoParam (starEach (e::a) X.env=(false,eval e X.env)::starEach a X.env) dO._auto_1) (hpl:autoParam ((backTo c<|starEach a X.env).any (·.1)=false) dO._auto_1):
  PE X (.Call (.Name x p) (e::a) [] c) (tD (md X)<|az F g):=by
 let#[f,q,G,b,h,m]:=C.ex
 show MO G j l m h b i o d he hpl
def Ol{X:Cx}(C:eD X.prog X.w X.K X.mg X.base k x ps F)(j:gE k X.A)(l:Gl X x)(i:PA X (e::a) (Cy (md X) g))(o:nA ps.length g)
  (d:autoParam ((x==("__debug__":Str))=false) dL._auto_1) (he:autoParam (starEach (e::a) X.env=(false,eval e X.env)::starEach a X.env) dO._auto_1) (hpl:autoParam ((backTo c<|starEach a X.env).any (·.1)=false) dO._auto_1):
  PE X (.Call (.Name x p) (e::a) [] c) (tL (md X)<|dN F g):=by
 let#[f,q,G,b,h,m]:=C.ex
 show MM G j l m h b i o d he hpl
def eD.mono{P:X9}{w:Xc}{K:X1}{c:X3}{a:Xe}{j k:Nat}{x:Str}{ps:X6}{F:c8}(C:eD P w K c a j x ps F)(h:j<=k):eD P w K c a k x ps F:=by
 let#[f,d,G,b,e,m]:=C.ex
 show#[f,d,G.mono h,b,e,m]
structure Bl(mg:X3):Prop where
 len:mg "len"=none
 tuple:mg "tuple"=none
 list:mg "list"=none
 dict:mg "dict"=none
 set:mg "set"=none
 int:mg "int"=none
 str:mg "str"=none
 bool:mg "bool"=none
 all:mg "all"=none
 any:mg "any"=none
 range:mg "range"=none
 zip:mg "zip"=none
 sorted:mg "sorted"=none
 isi:mg "isinstance"=none
 min:mg "min"=none
 max:mg "max"=none
 abs:mg "abs"=none
 enum:mg "enumerate"=none
 reversed:mg "reversed"=none
open AutoSeq1 in
def qK(l:X8)(items:Xa)(n:Nat)(b:X8)(a:Xa)(q:Nat)(p:Option Addr)(o:Array (Option Value))(m:¬(!items.isEmpty&&Builtin.List.listTooLong (items.size+a.size))=true)(c:items.size<=sizeLine)(e:items.size+a.size<=sizeLine+1):
  Meets (Builtin.«list.extend» #[[.ref l,.ref b],[]]) (λ_ R s=>s.heap.get? l=some {cls:=.type "list",dict:=none,data:=.seq items n,slots:= (List.toArray [])}/\s.heap.get? b=some {cls:=.type "tuple",dict:=p,data:=.seq a q,slots:=o}/\R (.ok (.ret Value.none)) {s with heap:=s.heap.update l (Obj.mapSeq λx=>x++a),toks:=s.toks}):=
 .of_wp λj w A R s h=>by
  let#[v,g,d,r,t]:=s;let#[i,k,h]:=h;let u:=idx_int;let z:=AutoSeq1.sub_tuple_tuple;let C:=AutoSeq1.sub_list_list;let B:=AutoSeq1.sub_tuple_list;let y:=AutoSeq1.sub_list_tuple;
  have f:(items++a).size<=sizeLine+1:=by rw[Array.size_append];show e
  wp_walk using (wpAny_updateSeq i L (hz:=c) (_hz':=f)),AutoSeq1.wpAny_loadPart' i,AutoSeq1.wpAny_loadPart' k;show#[_,L,h]
def KG:Mn X "list.extend" (λx vs H Q=>∃l b xs i,x=.ref l/\vs= [.ref b]/\H l=some (.lst xs)/\jM X.K H b i/\xs.length+i.length<=sizeLine/\Q .non (upd H l<|.lst (xs++i))):=by
 intro m s R H x vs v S Q I L C h
 let#[l,b,xs,i,rfl,rfl,hH,hB,hz,q]:=h
 cases L
 let#[u,rfl,ru]:=C.one
 cases ru
 let#[z,f,n,r,P,e]:=I.lstM hH
 let#[d,o,#[#[t,M,w,B],G,p,N,k],J]:=I.tuple hB
 let y:=o.length
 simp only at p k
 subst p k
 have j:f.toArray.size+d.toArray.size<=sizeLine:=by rw[Qjq,Qjq];omega
 have g:¬(!f.toArray.isEmpty&&Builtin.List.listTooLong (f.toArray.size+d.toArray.size))=true:=by
  rw[v9 j,Bool.and_false]
  show Qtq
 show call_meets F.slot_list_extend #[_,e,rfl] F.entry_list_extend (F.args_list_extend_2 _ _)
  (qK l f.toArray n b d.toArray N M B g (by rw[Qjq];omega) (!0)) #[e,G,?_]
 show#[.non,_,I.lset (its':=f++d) hH e (by simp) (r.append o) ?_,rfl,q]
 rw[lQa]
 omega
noncomputable def zq(f:bL)(g:e_):bL:=λi S=>(f i S).bind λ(x,h)=>match x with
 | .ref k=>(g i h).bind λ(p,d)=>match h[k]?,d[k]? with
   |some (.lst _),some (.lst ds)=>if p.2.isL=false/\ds.length+p.1.length<=sizeLine then some (.non,d.set k<|.lst (ds++p.1)) else none
   |_,_=>none
 |_=>none
def MY:∀u H Q,tD (md X) (zq f g) u H Q->Qj X.K "list" (λx vs H Q=>∃l b xs o,x=.ref l/\vs= [.ref b]/\H l=some (.lst xs)/\jM X.K H b o/\xs.length+o.length<=sizeLine/\Q .non (upd H l<|.lst (xs++o))) (tD (md X) f) (IZ (tQ (md X) g) Mm) u H Q:=λu H Q W=>by
 let#[Y,y,S,d,S',ok,e,q]:=W
 let#[#[x,F],e1,e]:=au e
 cases x with
 | ref k=>
   dsimp only at e
   let#[#[#[ys,t],R],P,e]:=au e
   dsimp only at e
   split at e
   · rename_i L ds s j
     split at e
     · rename_i c
       let#[rfl,rfl]:=cH e
       show#[Y,y,S,_,F,ok,e1,λr v H1 G h J=>?_]
       cases J with
       | ref C=>
         rename_i a
         let#[n,U,_]:=h.obj k a _ C s
         show#[.inl #[rfl,n,jm.of U],r,y,F,ys,t,R,ok.to G h,P,λM b us H2 z i I B=>?_]
         let m:=dz z.pre C
         let#[vs,Z,w]:=i.obj k a _ m j
         show#[a,b,vs,us,rfl,rfl,Z,I.sqT c.1,by rw[<-w.length,<-B.length];show c.2,?_]
         let#[p,N]:=i.putL m j (w.append B)
         show q _ _ _ ((G.trans z).trans N) p .non
     · cases e
   · cases e
 |_=>cases e
def NT{h d:Pos}(m:PE X o (tD (md X) f))(n:PE X e (tQ (md X) g))(i:autoParam (attributeBase o "extend" X.env (eval o X.env)=eval o X.env) dO._auto_1) (k:autoParam (((backTo d (starEach [e] X.env)).all (λx=> !x.1)&&(backToKw d (keywordEach [] X.env)).all (λx=>x.1.isSome)
   &&decide ([e].length+([]:List Keyword).length+(if ([]:List Keyword).isEmpty then 0 else 1)<30))=true) dO._auto_1)
  (j:autoParam ((h.endLine==d.line)=true) dO._auto_1) (l:autoParam (starEach [e] X.env= [(false,eval e X.env)]) dO._auto_1):PE X (.Call (.Attribute o "extend" h) [e] [] d) (tD (md X)<|zq f g):=
 ko (xC PySem.F.plainAttrs_list PySem.F.slot_list_extend PySem.F.type_list_extend KG m (eB n gX l) i k j l) MY
noncomputable def rq(x:V):List V->Option Nat
 | []=>none
 |y::r=>if uY y x=true then some 0 else(rq x r).map (·+1)
theorem Gg:∀{xs:List V} {j:Nat},rq x xs=some j->(∃y,xs[j]?=some y/\uY y x=true)/\∀m y,m<j->xs[m]?=some y->uY y x=false
 | [],_,h=>by cases h
 | y::r,j,h=>by
   unfold rq at h
   split at h
   · rename_i c
     cases h
     show#[#[y,L,c],λm _ d=>absurd d<|Nat.not_lt_zero _]
   · rename_i c
     let#[i,n,rfl]:=oQm.mp h
     let#[#[z,k,g],l]:=Gg n
     show#[#[z,by simpa using k,g],λm w d f=>?_]
     cases m with
     |zero=>cases f;simpa using c
     |succ m=>show l m w (!0) (by simpa using f)
def J_:P_ X "list.index" (λx vs H Q=>∃a xs y j,x=.ref a/\vs= [y]/\jm X.K H a xs/\iU y=true/\xs.all iU=true/\rq y xs=some j/\Q (.int (j:Nat)) H):=by
 intro G s σ H x vs v us Q I rx U h
 let#[a,xs,y,j,rfl,rfl,hq,fy,fs,hj,q]:=h
 cases rx
 let#[u,rfl,ru]:=U.one
 let#[f,r,Y,hz]:=I.list hq
 let#[#[M,dd,P,R],n,e,J,g,C]:=Y
 simp only at J g C
 subst J g C
 let#[#[z,t,N],Z]:=Gg hj
 let hl:=r.length
 have S:j<xs.length:=(gQs.mp t).1
 let#[w,B,p]:=r.get t
 have i:f.toArray[j]'(by rw[Qjq];omega)=w:=by
  have:=(gQs.mp B).2
  simpa using this
 let L:=mH
 show call_meets PySem.F.slot_list_index #[_,e,rfl] PySem.F.entry_list_index (PySem.F.args_list_index_2 _ _)
  (SeqAt.list_indexAt a f.toArray n none R u (Du y) j (by rw[Qjq];omega) (!0) (by rw[i,zC p (QUq.mp fs z<|mQg t)];show N) λm hm k=>?_)
  #[e,λw B=>kU ru fy r fs w (by simpa using B),#[.int j,H,I.tok _,#[_,rfl],q]]
 have d:m<xs.length:=by rw[Qjq] at hm;omega
 let#[w2,l,o]:=r.get (gQe d)
 have W:f.toArray[m]=w2:=by
  have:=(gQs.mp l).2
  simpa using this
 rw[W,zC o (QUq.mp fs _<|List.getElem_mem d)]
 show Z m _ k<|gQe d
end DL
namespace Zq
open PySem
def It(t:Bool)(h:Xe)(i a:X8)(k:Nat):Prop:=if t=true then h.IsTupleIter i a k else h.IsListIter i a k
def Sq(t:Bool)(h:Xe)(a:X8)(xs:Xa):Prop:=if t=true then h.IsTuple a xs else h.IsList a xs
theorem It.at{h':Xe}(g:It t h i a k)(f:∀o,h.get? i=some o->h'.get? i=some o):It t h' i a k:=by
 cases t with
 |true=>show(show h.IsTupleIter i a k from g).at f
 |false=>show(show h.IsListIter i a k from g).at f
def It.ext(g:It t h i a k)(f:Heap.ExtBut c h h')(n:i≠c):It t h' i a k:=g.at λo e=>f i o n e
def Sq.at{h':Xe}(g:Sq t h a xs)(f:∀o,h.get? a=some o->h'.get? a=some o):Sq t h' a xs:=by
 cases t with
 |true=>let#[o,e,r]:=(show h.IsTuple a xs from g);show(show h'.IsTuple a xs from#[o,f o e,r])
 |false=>let#[o,e,r]:=(show h.IsList a xs from g);show(show h'.IsList a xs from#[o,f o e,r])
def Sq.ext(g:Sq t h a xs)(f:Heap.ExtBut c h h')(n:a≠c):Sq t h' a xs:=g.at λo e=>f a o n e
def It.obj(g:It t h i a k):∃o,h.get? i=some o/\∀v,o.data≠.cell v:=by
 cases t with
 |true=>let#[o,e,_,d]:=(show h.IsTupleIter i a k from g);show#[o,e,λv n=>by rw[d] at n;cases n]
 |false=>let#[o,e,_,d]:=(show h.IsListIter i a k from g);show#[o,e,λv n=>by rw[d] at n;cases n]
def draw{E:X0}{s:X4}{Q:X0}(e:It t s.heap i a k)(c:Sq t s.heap a xs)(d:xs[k]?=some v)
  (q:∀h',It t h' i a (k+1)->Heap.SameBut i s.heap h'->Q v {s with heap:=h'}):wpAny (model prog w) A (Builtin.SmallTypes.nextOf<|.ref i) Q E s:=by
 cases t with
 |true=>show Zp.OE e c d q
 |false=>show wpAny_nextOf_list_item e c d q
def Ge{A:X_}{E:X0}{s:X4}(f:A.handled=none)(g:It t s.heap i a k)(c:Sq t s.heap a xs)(d:xs[k]?=none)
  (q:∀h' e,Heap.ExtBut i s.heap h'->(∃o,h'.get? e=some o/\o.cls=.type "StopIteration")->E (.ref e) {s with heap:=h'}):wpAny (model prog w) A (Builtin.SmallTypes.nextOf<|.ref i) Q E s:=by
 cases t with
 |true=>show Zp.Ov f g c d q
 |false=>show wpAny_nextOf_list_end f g c d q
abbrev xO(h:Xe)(z T O:X8)(d c:Xd):Prop:=
 h.get? z=some {cls:=.type "zip",dict:=none,data:=.fields (List.toArray [d,c,.bool false,.ref T,.ref O]),slots:= (List.toArray [])}
def item{E:X0}{s:X4}{T:X8}{O:X8}(D:ZipApart z T O i j a b){Q:X0}(m:xO s.heap z T O .none (.bool false))(gT:IsPair s.heap T (.ref i) (.ref j))(gO:IsPair s.heap O u v)(gi:It t s.heap i a k)(gj:It t2 s.heap j b k)
  (ga:Sq t s.heap a xs) (gb:Sq t2 s.heap b ys) (ex:xs[k]?=some x) (ey:ys[k]?=some y)
  (q:∀h',xO h' z T O (rawInt s.heap.objs.size) (.bool false)->IsPair h' O x y->It t h' i a (k+1)->It t2 h' j b (k+1)->IsPair h' s.heap.objs.size x y->Zp.Rest z O i j s.heap h'->Q (.ref s.heap.objs.size) {s with heap:=h'}):
  wpAny (model prog w) A (Builtin.«zip.__next__» #[[.ref z],[]]) (λK s'=>∃r,K=.done (.ret r)/\Q r s') E s:=by
 show(?_:wpAny _ _ (field (.ref z) 2 >>= _) _ _ _)
 show Qaq<|QMq m rfl (x:=.bool false) rfl ?_
 show(?_:wpAny _ _ (field (.ref z) 3 >>= _) _ _ _)
 show Qaq<|QMq m rfl (x:=.ref T) rfl<|Qaq<|wpAny_seqItems gT rfl ?_
 show(?_:wpAny _ _ (Builtin.SmallTypes.ownedTupleIsFree (.ref z) >>= _) _ _ _)
 show Qaq ?_
 unfold Builtin.SmallTypes.ownedTupleIsFree
 show Qaq<|QMq m rfl (x:=.none) rfl<|Qgq ?_
 erw[if_true]
 show Qaq<|wpAny_rule<|Qaq<|QMq m rfl (x:=.ref O) rfl<|Qaq (wpAny_setField_rec m (by simp) λh1 L f=>?_)
 replace L:xO h1 z T O .ellipsis (.bool false):=L
 show Qaq ?_
 erw[List.zipIdx_cons,List.zipIdx_nil,List.forIn_nil,List.forIn_cons]
 show Qaq<|Qaq<|wpAny_onRaise ?_
 show(?_:wpAny _ _ (Builtin.SmallTypes.nextOf (.ref i) >>= _) _ _ _)
 show Qaq (draw (gi.ext f.extBut D.i1z) (ga.ext f.extBut D.l1z) ex λh2 i2 l=>Qgq ?_)
 have S:IsPair h2 O u v:=l.extBut _ _ D.TOi1 (f.extBut _ _ D.TOz gO)
 show Qaq<|wpAny_seqItems S rfl<|Qaq (wpAny_updateSeq_pair S λh3 I h=>Qaq<|wpAny_letGo<|Qgq ?_)
 replace I:IsPair h3 O x v:=I
 show Qaq<|Qaq<|wpAny_onRaise ?_
 show(?_:wpAny _ _ (Builtin.SmallTypes.nextOf (.ref j) >>= _) _ _ _)
 show Qaq (draw (((gj.ext f.extBut D.i2z).ext l.extBut D.i12.symm).ext h.extBut D.TOi2.symm) (((gb.ext f.extBut D.l2z).ext l.extBut D.l2i1).ext h.extBut D.l2TO) ey λh4 j4 p=>Qgq ?_)
 have X:IsPair h4 O x v:=p.extBut _ _ D.TOi2 I
 show Qaq<|wpAny_seqItems X rfl<|Qaq (wpAny_updateSeq_pair X λd F n=>Qaq<|wpAny_letGo<|Qgq<|Qgq ?_)
 replace F:IsPair d O x y:=F
 show Qaq<|wpAny_seqItems F rfl<|Qaq<|wpAny_newTuple ?_
 have U:d.objs.size=s.heap.objs.size:=by rw[n.1,p.1,h.1,l.1,f.1]
 have P:xO d z T O .ellipsis (.bool false):=n.extBut _ _ D.TOz.symm (p.extBut _ _ D.i2z.symm<|h.extBut _ _ D.TOz.symm<|l.extBut _ _ D.i1z.symm L)
 have r5:Zp.Rest z O i j s.heap d:=λc o g B M N e=>n.extBut _ _ B (p.extBut _ _ N<|h.extBut _ _ B<|l.extBut _ _ M<|f.extBut _ _ g e)
 have i5:It t d i a (k+1):=((i2.ext h.extBut D.TOi1.symm).ext p.extBut D.i12).ext n.extBut D.TOi1.symm
 have j5:It t2 d j b (k+1):=j4.ext n.extBut D.TOi2.symm
 have Y:z<d.objs.size:=Qiq P
 show(?_:wpAny _ _ (Builtin.SmallTypes.ownedTupleHandOut (.ref z) (.ref d.objs.size) >>= _) _ _ _)
 show Qaq ?_
 unfold Builtin.SmallTypes.ownedTupleHandOut
 have z6:xO (d.push {cls:=.type "tuple",data:=.seq (List.toArray [x,y])}) z T O .ellipsis (.bool false):=Qcq _ P
 show Qaq (wpAny_setField_rec z6 (by simp) λh7 J R=>?_)
 replace J:xO h7 z T O (rawInt d.objs.size) (.bool false):=J
 show wpAny_setField_rec J (by simp) λC H Z=>?_
 replace H:xO C z T O (rawInt d.objs.size) (.bool false):=H
 have G:∀c o,c≠z->d.get? c=some o->C.get? c=some o:=λc o g e=>Z.extBut _ _ g (R.extBut _ _ g<|Qcq _ e)
 have W:IsPair C d.objs.size x y:=Z.extBut _ _ (Nat.ne_of_gt Y) (R.extBut _ _ (Nat.ne_of_gt Y)<|Qrq _ rfl)
 rw[U] at H W
 show Qgq #[_,rfl,?_]
 show(?_:Q (.ref d.objs.size) _)
 rw[U]
 show q C H (G _ _ D.TOz F) (i5.at λo e=>G _ o D.i1z e) (j5.at λo e=>G _ o D.i2z e) W λc o g B M N e=>G c o g (r5 c o g B M N e)
def alive{E:X0}{s:X4}{Q:Option Obj->Shared->Prop}(h:Q (s.heap.get? α) s):wpAny (model prog w) A (loadIfAlive α) Q E s:=λ_ _ _=>h
def again{prog:X9}{w:Xc}{A:X_}{E:X0}{s:X4}{t:Bool}{t2:Bool}{z:X8}{T:X8}{O:X8}{i:X8}{j:X8}{a:X8}{b:X8}{k:Nat}{xs:Xa}{ys:Xa}{x:Xd}{y:Xd}(D:ZipApart z T O i j a b){p:X8}{op:Obj}{m:Xd}{Q:X0}(g:xO s.heap z T O (rawInt p) m)(S:s.heap.get? p=some op)(Y:IsPair s.heap T (.ref i) (.ref j))(gi:It t s.heap i a k)(U:It t2 s.heap j b k)
  (L:Sq t s.heap a xs) (P:Sq t2 s.heap b ys) (M:xs[k]?=some x) (ey:ys[k]?=some y)
  (q:∀h',xO h' z T O (rawInt p) (.bool true)->It t h' i a (k+1)->It t2 h' j b (k+1)->IsPair h' s.heap.objs.size x y->Zp.Rest z O i j s.heap h'->Q (.ref s.heap.objs.size) {s with heap:=h'}):
  wpAny (model prog w) A (Builtin.«zip.__next__» #[[.ref z],[]]) (λH B=>∃r,H=.done (.ret r)/\Q r B) E s:=by
 show(?_:wpAny _ _ (field (.ref z) 2 >>= _) _ _ _)
 show Qaq<|QMq g rfl (x:=.bool false) rfl ?_
 show(?_:wpAny _ _ (field (.ref z) 3 >>= _) _ _ _)
 show Qaq<|QMq g rfl (x:=.ref T) rfl<|Qaq<|wpAny_seqItems Y rfl ?_
 show(?_:wpAny _ _ (Builtin.SmallTypes.ownedTupleIsFree (.ref z) >>= _) _ _ _)
 show Qaq ?_
 unfold Builtin.SmallTypes.ownedTupleIsFree
 show Qaq<|QMq g rfl (x:=rawInt p) rfl ?_
 show(?_:wpAny _ _ (loadIfAlive ((p:Int).toNat) >>= _) _ _ _)
 show Qaq ?_
 rw[Int.toNat_natCast]
 show alive ?_
 rw[S]
 show(?_:wpAny _ _ (field (.ref z) 1 >>= _) _ _ _)
 show Qaq<|QMq g rfl (x:=m) rfl ?_
 have I:wpAny (model prog w) A (if (m !=Value.bool true)=true then(do let _<-setField (.ref z) 1 (.bool true);pure false) else pure false)
   (λr B=>r=false/\∃l,B={s with heap:=l}/\xO l z T O (rawInt p) (.bool true)/\Heap.SameBut z s.heap l) E s:=by
  by_cases c:(m !=Value.bool true)=true
  ·rw[Qhq c]
   show Qaq (wpAny_setField_rec g (by simp) λl J d=>Qgq #[rfl,l,rfl,J,d])
  ·rw[Quq c]
   have e:m=Value.bool true:=by simpa using c
   subst e
   show Qgq #[rfl,s.heap,rfl,g,Heap.SameBut.refl _ _]
 show QRq I (λr B G=>?_) λ_ _ h=>h
 let#[rfl,l,rfl,J,d]:=G
 erw[Bool.false_eq_true,if_false]
 show Qaq ?_
 erw[List.forIn_toArray,List.forIn_cons,List.forIn_nil]
 show Qaq<|Qaq<|QLq ?_
 show(?_:wpAny _ _ (Builtin.SmallTypes.nextOf (.ref i) >>= _) _ _ _)
 show Qaq (draw (gi.ext d.extBut D.i1z) (L.ext d.extBut D.l1z) M λh2 N n=>Qgq<|Qgq ?_)
 show Qaq<|Qaq<|QLq ?_
 show(?_:wpAny _ _ (Builtin.SmallTypes.nextOf (.ref j) >>= _) _ _ _)
 show Qaq (draw ((U.ext d.extBut D.i2z).ext n.extBut D.i12.symm) ((P.ext d.extBut D.l2z).ext n.extBut D.l2i1) ey λf R C=>Qgq<|Qgq<|Qgq ?_)
 show Qaq<|wpAny_newTuple ?_ (by show 2<=_;decide)
 have X:f.objs.size=s.heap.objs.size:=by rw[C.1,n.1,d.1]
 have F:∀c o,f.get? c=some o->(f.push {cls:=.type "tuple",data:=.seq (List.toArray [x,y])}).get? c=some o:=λc o e=>Qcq _ e
 have K:IsPair (f.push {cls:=.type "tuple",data:=.seq (List.toArray [x,y])}) f.objs.size x y:=Qrq _ rfl
 have z8:xO (f.push {cls:=.type "tuple",data:=.seq (List.toArray [x,y])}) z T O (rawInt p) (.bool true):=F _ _ (C.extBut _ _ D.i2z.symm<|n.extBut _ _ D.i1z.symm J)
 show Qgq #[_,rfl,?_]
 show(?_:Q (.ref f.objs.size) _)
 rw[X] at K|-
 show q _ z8 ((N.ext C.extBut D.i12).at λo e=>F _ o e) (R.at λo e=>F _ o e) K λc o W c2 Z c4 e=>F c o (C.extBut _ _ c4<|n.extBut _ _ Z<|d.extBut _ _ W e)
def stop{A:X_}{E:X0}{s:X4}{T:X8}{O:X8}(D:ZipApart z T O i j a b)(K:A.handled=none)(d:xO s.heap z T O .none (.bool false))(L:IsPair s.heap T (.ref i) (.ref j))(R:It t s.heap i a k)(C:Sq t s.heap a xs)(F:xs[k]?=none)
  (q:∀h' e,Zp.Rest z O i j s.heap h'->(∃o,h'.get? e=some o/\o.cls=.type "StopIteration")->E (.ref e) {s with heap:=h'}):
  wpAny (model prog w) A (Builtin.«zip.__next__» #[[.ref z],[]]) Q E s:=by
 show(?_:wpAny _ _ (field (.ref z) 2 >>= _) _ _ _)
 show Qaq<|QMq d rfl (x:=.bool false) rfl ?_
 show(?_:wpAny _ _ (field (.ref z) 3 >>= _) _ _ _)
 show Qaq<|QMq d rfl (x:=.ref T) rfl<|Qaq<|wpAny_seqItems L rfl ?_
 show(?_:wpAny _ _ (Builtin.SmallTypes.ownedTupleIsFree (.ref z) >>= _) _ _ _)
 show Qaq ?_
 unfold Builtin.SmallTypes.ownedTupleIsFree
 show Qaq<|QMq d rfl (x:=.none) rfl<|Qgq ?_
 erw[if_true]
 show Qaq<|wpAny_rule<|Qaq<|QMq d rfl (x:=.ref O) rfl<|Qaq (wpAny_setField_rec d (by simp) λI g f=>?_)
 replace g:xO I z T O .ellipsis (.bool false):=g
 show Qaq ?_
 erw[List.zipIdx_cons,List.zipIdx_nil,List.forIn_nil,List.forIn_cons]
 show Qaq<|Qaq<|wpAny_onRaise ?_
 show(?_:wpAny _ _ (Builtin.SmallTypes.nextOf (.ref i) >>= _) _ _ _)
 show Qaq (Ge K (R.ext f.extBut D.i1z) (C.ext f.extBut D.l1z) F λG e r P=>?_)
 let#[J,h,B]:=P
 have m:xO G z T O .ellipsis (.bool false):=r _ _ D.i1z.symm g
 have H:e≠z:=λn=>by rw[n,m] at h;cases h;simp at B
 show wpAny_setField_rec m (by simp) λN _ l=>q N e (λc o p _ M _ n=>l.extBut _ _ p<|r _ _ M<|f.extBut _ _ p n) #[J,l.extBut _ _ H h,B]
def Og{prog:X9}{w:Xc}{A:X_}{E:X0}{s:X4}{t:Bool}{z:X8}{T:X8}{O:X8}{i:X8}{j:X8}{a:X8}{b:X8}{k:Nat}{xs:Xa}(D:ZipApart z T O i j a b){p:X8}{R:Obj}{g:Xd}{Q:Fin->Shared->Prop}(K:A.handled=none)(d:xO s.heap z T O (rawInt p) g)(J:s.heap.get? p=some R)(M:IsPair s.heap T (.ref i) (.ref j))(U:It t s.heap i a k)(G:Sq t s.heap a xs)(H:xs[k]?=none)
  (q:∀h' e,Zp.Rest z O i j s.heap h'->(∃o,h'.get? e=some o/\o.cls=.type "StopIteration")->E (.ref e) {s with heap:=h'}):
  wpAny (model prog w) A (Builtin.«zip.__next__» #[[.ref z],[]]) Q E s:=by
 show(?_:wpAny _ _ (field (.ref z) 2 >>= _) _ _ _)
 show Qaq<|QMq d rfl (x:=.bool false) rfl ?_
 show(?_:wpAny _ _ (field (.ref z) 3 >>= _) _ _ _)
 show Qaq<|QMq d rfl (x:=.ref T) rfl<|Qaq<|wpAny_seqItems M rfl ?_
 show(?_:wpAny _ _ (Builtin.SmallTypes.ownedTupleIsFree (.ref z) >>= _) _ _ _)
 show Qaq ?_
 unfold Builtin.SmallTypes.ownedTupleIsFree
 show Qaq<|QMq d rfl (x:=rawInt p) rfl ?_
 show(?_:wpAny _ _ (loadIfAlive ((p:Int).toNat) >>= _) _ _ _)
 show Qaq ?_
 rw[Int.toNat_natCast]
 show alive ?_
 rw[J]
 show(?_:wpAny _ _ (field (.ref z) 1 >>= _) _ _ _)
 show Qaq<|QMq d rfl (x:=g) rfl ?_
 have B:wpAny (model prog w) A (if (g !=Value.bool true)=true then(do let _<-setField (.ref z) 1 (.bool true);pure false) else pure false)
   (λr C=>r=false/\∃f,C={s with heap:=f}/\xO f z T O (rawInt p) (.bool true)/\Heap.SameBut z s.heap f) E s:=by
  by_cases c:(g !=Value.bool true)=true
  ·rw[Qhq c]
   show Qaq (wpAny_setField_rec d (by simp) λf F l=>Qgq #[rfl,f,rfl,F,l])
  ·rw[Quq c]
   have e:g=Value.bool true:=by simpa using c
   subst e
   show Qgq #[rfl,s.heap,rfl,d,Heap.SameBut.refl _ _]
 show QRq B (λr C m=>?_) λ_ _ h=>h
 let#[rfl,f,rfl,F,l]:=m
 erw[Bool.false_eq_true,if_false]
 show Qaq ?_
 erw[List.forIn_toArray,List.forIn_cons,List.forIn_nil]
 show Qaq<|Qaq<|QLq ?_
 show(?_:wpAny _ _ (Builtin.SmallTypes.nextOf (.ref i) >>= _) _ _ _)
 show Qaq (Ge K (U.ext l.extBut D.i1z) (G.ext l.extBut D.l1z) H λI e P S=>?_)
 show q I e (λc o L _ N _ n=>P _ _ N<|l.extBut _ _ L n) S
def Zs(h:Xe)(z T O i j:X8):Prop:=xO h z T O .none (.bool false)/\(∃u v,IsPair h O u v)\/∃(p:X8) (c:Obj) (d:Xd),xO h z T O (rawInt (p:Nat)) d/\h.get? p=some c/\p≠z/\p≠O/\p≠i/\p≠j
def Zs.but{T:X8}{O:X8}{h h':Xe}(g:Zs h z T O i j)(f:∀c o,c≠S->h.get? c=some o->h'.get? c=some o)(e:z≠S)(F:O≠S)(B:∃o,h'.get? S=some o):Zs h' z T O i j:=by
 rcases g with⟨d,u,v,C⟩|⟨p,r,l,d,m,n⟩
 ·show .inl #[f _ _ e d,u,v,f _ _ F C]
 ·by_cases c:p=S
  ·subst c
   let#[o,q]:=B
   show .inr #[p,o,l,f _ _ e d,q,n]
  ·show .inr #[p,r,l,f _ _ e d,f _ _ c m,n]
def JZ{E:X0}{s:X4}{T:X8}{O:X8}(D:ZipApart z T O i j a b){Q:Option Value->Shared->Prop}(d:Zs s.heap z T O i j)(P:IsPair s.heap T (.ref i) (.ref j))(C:It t s.heap i a k)(m:It t2 s.heap j b k)
  (G:Sq t s.heap a xs) (L:Sq t2 s.heap b ys) (I:xs[k]?=some x) (R:ys[k]?=some y)
  (q:∀h',Zs h' z T O i j->It t h' i a (k+1)->It t2 h' j b (k+1)->IsPair h' s.heap.objs.size x y->Zp.Rest z O i j s.heap h'->Q (some<|.ref s.heap.objs.size) {s with heap:=h'}):
  wpAny (model prog w) A (pyNext<|.ref z) Q E s:=by
 unfold pyNext
 have g:∀{c o},s.heap.get? c=some o->s.heap.objs.size≠c:=λe=>Nat.ne_of_gt (Qiq e)
 let#[Z,U,_]:=C.obj
 let#[oj,W,_]:=m.obj
 rcases d with⟨d,u,v,S⟩|⟨p,X,Y,d,M,N,K,H,J⟩
 ·have f:s.TypeIs (.ref z) "zip":=#[_,d,rfl]
  show Qaq (wpAny_attempt (QiQ (name:=Str.ofString "__next__") f F.slot_zip_next (wpAny_call_entry F.slot_zip_next f F.entry_zip_next
   (item D d P S C m G L I R λh' B a2 n r h l=>Qgq (q h' (.inr #[_,_,_,B,h,g d,g S,g U,g W]) n r h l)) (F.args_zip_next_1 _))))
 ·have f:s.TypeIs (.ref z) "zip":=#[_,d,rfl]
  show Qaq (wpAny_attempt (QiQ (name:=Str.ofString "__next__") f F.slot_zip_next (wpAny_call_entry F.slot_zip_next f F.entry_zip_next
   (again D d M P C m G L I R λh' B n r h l=>Qgq (q h' (.inr #[p,X,_,B,l _ _ N K H J M,N,K,H,J]) n r h l)) (F.args_zip_next_1 _))))
def C5{A:X_}{E:X0}{s:X4}{T:X8}{O:X8}(D:ZipApart z T O i j a b){Q:Option Value->Shared->Prop}(m:A.handled=none)(c:Zs s.heap z T O i j)(n:IsPair s.heap T (.ref i) (.ref j))(B:It t s.heap i a k)(h:Sq t s.heap a xs)(l:xs[k]?=none)
  (q:∀h',Zp.Rest z O i j s.heap h'->Q none {s with heap:=h'}):wpAny (model prog w) A (pyNext<|.ref z) Q E s:=by
 unfold pyNext
 rcases c with⟨c,u,v,I⟩|⟨p,H,G,c,C,_⟩
 ·have d:s.TypeIs (.ref z) "zip":=#[_,c,L]
  show Qaq (wpAny_attempt (QiQ (name:=Str.ofString "__next__") d F.slot_zip_next (wpAny_call_entry F.slot_zip_next d F.entry_zip_next
   (stop D m c n B h l λh' e r ⟨o,f,g⟩=>Qaq (wpAny_isInstance (T:="StopIteration") (b:=true) #[o,f,g] isSubtype_stop (Qgq (q _ r)))) (F.args_zip_next_1 _))))
 ·have d:s.TypeIs (.ref z) "zip":=#[_,c,L]
  show Qaq (wpAny_attempt (QiQ (name:=Str.ofString "__next__") d F.slot_zip_next (wpAny_call_entry F.slot_zip_next d F.entry_zip_next
   (Og D m c C n B h l λh' e r ⟨o,f,g⟩=>Qaq (wpAny_isInstance (T:="StopIteration") (b:=true) #[o,f,g] isSubtype_stop (Qgq (q _ r)))) (F.args_zip_next_1 _))))
noncomputable def Qx(t:Bool):String:=if t=true then "tuple_iterator" else "list_iterator"
noncomputable abbrev H1(t:Bool)(h:Xe)(a:X8):Heap:=h.push {cls:=.type (Qx t),data:=.fields (List.toArray [.ref a,.int 0 0])}
noncomputable abbrev H2(t t2:Bool)(h:Xe)(a b:X8):Heap:=(H1 t h a).push {cls:=.type (Qx t2),data:=.fields (List.toArray [.ref b,.int 0 0])}
noncomputable abbrev H3(t t2:Bool)(h:Xe)(a b:X8):Heap:=(H2 t t2 h a b).push {cls:=.type "tuple",data:=.seq (List.toArray [.ref h.objs.size,.ref (H1 t h a).objs.size])}
noncomputable abbrev H4(t t2:Bool)(h:Xe)(a b:X8):Heap:=(H3 t t2 h a b).push {cls:=.type "tuple",data:=.seq (List.toArray [.none,.none])}
noncomputable abbrev H5(t t2:Bool)(h:Xe)(a b:X8):Heap:=(H4 t t2 h a b).push {cls:=.type "zip",data:=.fields (List.toArray [.none,.bool false,.bool false,.ref (H2 t t2 h a b).objs.size,.ref (H3 t t2 h a b).objs.size])}
def Sq.push(g:Sq t h a xs)(o:Obj):Sq t (h.push o) a xs:=g.at λ_ e=>Qcq _ e
def Hb(t t2:Bool)(a b:X8)(xs ys:Xa):Meets (Builtin.«zip.__new__» #[[.type "zip",.ref a,.ref b],[]]) (λ_ R s=>Sq t s.heap a xs/\Sq t2 s.heap b ys/\R (.ok (.ret (.ref (H4 t t2 s.heap a b).objs.size))) {s with heap:=H5 t t2 s.heap a b}):=
 .of_wp λm w A R s h=>by
  let#[i,g,d,e,f]:=s
  let#[l,n,h]:=h
  let o:=sub_zip
  let c:=n.push {cls:=.type (Qx t),data:=.fields (List.toArray [.ref a,.int 0 0])}
  cases t <;>cases t2
  ·have j:Heap.IsList (Shared.heap #[i,g,d,e,f]) a xs:=l
   have k:Heap.IsList (Shared.heap ⟨i.push {cls:=.type "list_iterator",data:=.fields (List.toArray [.ref a,.int 0 0])},g,d,e,f⟩) b ys:=c
   wp_walk using wpAny_pyIter_list j,wpAny_pyIter_list k
   show#[_,L,h]
  ·have j:Heap.IsList (Shared.heap #[i,g,d,e,f]) a xs:=l
   have k:Heap.IsTuple (Shared.heap ⟨i.push {cls:=.type "list_iterator",data:=.fields (List.toArray [.ref a,.int 0 0])},g,d,e,f⟩) b ys:=c
   wp_walk using wpAny_pyIter_list j,wpAny_pyIter_tuple k
   show#[_,L,h]
  ·have j:Heap.IsTuple (Shared.heap #[i,g,d,e,f]) a xs:=l
   have k:Heap.IsList (Shared.heap ⟨i.push {cls:=.type "tuple_iterator",data:=.fields (List.toArray [.ref a,.int 0 0])},g,d,e,f⟩) b ys:=c
   wp_walk using wpAny_pyIter_tuple j,wpAny_pyIter_list k
   show#[_,L,h]
  ·have j:Heap.IsTuple (Shared.heap #[i,g,d,e,f]) a xs:=l
   have k:Heap.IsTuple (Shared.heap ⟨i.push {cls:=.type "tuple_iterator",data:=.fields (List.toArray [.ref a,.int 0 0])},g,d,e,f⟩) b ys:=c
   wp_walk using wpAny_pyIter_tuple j,wpAny_pyIter_tuple k
   show#[_,L,h]
def LU{E:X0}{s:X4}{Q:X0}(p:Sq t s.heap a xs)(r:Sq t2 s.heap b ys)
  (q:∀h',xO h' (s.heap.objs.size+4) (s.heap.objs.size+2) (s.heap.objs.size+3) .none (.bool false)->IsPair h' (s.heap.objs.size+2) (.ref s.heap.objs.size) (.ref (s.heap.objs.size+1))->IsPair h' (s.heap.objs.size+3) .none .none->
   It t h' s.heap.objs.size a 0->It t2 h' (s.heap.objs.size+1) b 0->(∀c o,s.heap.get? c=some o->h'.get? c=some o)->Q (.ref (s.heap.objs.size+4)) {s with heap:=h'}):
  wpAny (model prog w) A (call (.type "zip") [.ref a,.ref b]) Q E s:=by
 show callType_new F.called_zip (!1) (F.typeCall_zip_2 _ _) (F.newCall_zip_2 _ _) (λf=>F.args_object_init_3 f _ _) F.entry_zip_new (Hb t t2 a b xs ys) #[p,r,?_]
 have g:(H1 t s.heap a).objs.size=s.heap.objs.size+1:=Heap.size_push ..
 have e:(H2 t t2 s.heap a b).objs.size=s.heap.objs.size+2:=by rw[Heap.size_push,g]
 have h:(H3 t t2 s.heap a b).objs.size=s.heap.objs.size+3:=by rw[Heap.size_push,e]
 have k:(H4 t t2 s.heap a b).objs.size=s.heap.objs.size+4:=by rw[Heap.size_push,h]
 have d:(H5 t t2 s.heap a b).get? (H4 t t2 s.heap a b).objs.size=some _:=Qrq _ L
 have l:(H5 t t2 s.heap a b).get? (H3 t t2 s.heap a b).objs.size=some _:=Qcq _ (Qrq _ L)
 have i:(H5 t t2 s.heap a b).get? (H2 t t2 s.heap a b).objs.size=some _:=Qcq _ (Qcq _<|Qrq _ L)
 have j:(H5 t t2 s.heap a b).get? (H1 t s.heap a).objs.size=some _:=Qcq _ (Qcq _<|Qcq _<|Qrq _ L)
 have m:(H5 t t2 s.heap a b).get? s.heap.objs.size=some _:=Qcq _ (Qcq _<|Qcq _<|Qcq _<|Qrq _ L)
 show(?_:_/\_)
 rw[e,h,k] at d
 rw[g,e] at i
 rw[h] at l
 rw[g] at j
 rw[k]
 show#[#[_,d,L],q _ d i l ?_ ?_ λc o n=>Qcq _<|Qcq _<|Qcq _<|Qcq _<|Qcq _ n]
 ·cases t <;>show#[_,m,L,L]
 ·cases t2 <;>show#[_,j,L,L]
def tT:typeLookup (.type "zip") "__getattr__"=pure none:=by rw[typeLookup_type,builtinLookup_eq_fast];kernel_rfl
def lH:entryFor table "zip.__getattribute__"=some Builtin.«object.__getattribute__»:=
 entryFor_alias (id':="object.__getattribute__") (by kernel_rfl) (by decide +kernel) (by decide +kernel) (by kernel_rfl)
def u_:typeLookup (Value.type "zip") (Str.ofString "keys")=pure none:=by
 rw[typeLookup_type,builtinLookup_eq_fast]
 rfl
def xt(a:X8)(fs:Xa)(name:Str)(u:Tok)(e:typeLookup (.type "zip") name=pure none)(b:(["__module__","__name__","__qualname__","__doc__","__annotations__"]:List Str).contains name=false)(hsz:autoParam (name.length+100<=sizeLine) ge._auto_1):
  Meets (Builtin.«object.__getattribute__» #[[.ref a,.str name u],[]]) (λA R s=>s.heap.get? a=some {cls:=.type "zip",dict:=none,data:=.fields fs,slots:= (List.toArray [])}/\raisesAttr (.ref a) name A R s):=
 Meets.of_wp λf w A R s c=>by
  let#[j,g,d,h,i]:=s
  let#[k,c]:=c
  have l:(⟨j,g,d,h,i⟩:Shared).TypeIs (.ref a) "zip":=#[_,k,L]
  unfold Builtin.«object.__getattribute__»
  repeat (any_goals (first|assumption|wp_step))
  erw[b,Bool.false_eq_true,if_false]
  repeat (any_goals (first|assumption|wp_step))
  show wpAny_raiseAttrError c.1 c.2<|attrMsg_fits (by decide +kernel) hsz
def Gm{A:X_}{E:X0}{s:X4}{Q:Option Value->Shared->Prop}
  (j:s.heap.get? a=some {cls:=.type "zip",dict:=none,data:=.fields fs,slots:= (List.toArray [])}) (p:A.handled=none)
  (h:∀(h':Xe) (i:Nat),(∀b o,s.heap.get? b=some o->h'.get? b=some o)->Q none {s with heap:=h',toks:=i}):
  wpAny (model prog w) A (getAttr? (.ref a)<|Str.ofString "keys") Q E s:=by
 let#[q,g,d,i,k]:=s
 have n:∀x,Shared.TypeIs ⟨q,g,d,x,k⟩ (.ref a) "zip":=λx=>#[_,j,L]
 let l:=sub_AttributeError
 let v:=F.slot_zip_getattribute.lookup
 let t:=F.slot_zip_getattribute.bind (Value.ref a)
 let r:=tT
 unfold getAttr? mkText getAttrBy? getAttrBy
 show Qaq<|Qaq<|wpAny_fresh'<|Qgq<|Qaq<|wpAny_attempt<|QLq ?_
 unfold typeOf
 show Qaq<|Qaq<|wpAny_loadPart' j<|Qgq<|Qaq<|wpAny_of_eq v<|QgQ L ?_
 unfold getAttrByItsOwn hookBefore
 show Qaq<|QgQ L<|Qgq<|Qaq<|wpAny_attempt<|QLq ?_
 unfold callGetattribute
 show QgQ L ?_
 unfold boundAndCalled
 show Qaq<|wpAny_of_eq t ?_
 show call_meets F.slot_zip_getattribute (n (i+1)) lH (F.args_zip_getattribute_2 (Value.ref a) _) (xt a fs (Str.ofString "keys") i u_ (by decide +kernel) (by decide +kernel)) #[j,p,λh' f e c=>?_]
 let#[y,z,u]:=c.there
 have m:Shared.TypeIs ⟨h',g,d,f,k⟩ (.ref e) "AttributeError":=#[_,u,L]
 show wpAny _ _ (getattributeRaised _ _ _ _ _ _ _) _ _ _
 unfold getattributeRaised
 show Qaq<|wpAny_isInstance m l<|wpAny_ite_true L ?_
 unfold hookBehind hookOrError
 show Qaq<|QgQ L<|wpAny_of_eq r ?_
 show wpAny _ _ (attributeErrorLeaves _ _ _ _ _) _ _ _
 unfold attributeErrorLeaves
 show wpAny_ite_true L<|wpAny_throw ?_
 show Qaq<|wpAny_isInstance m l<|wpAny_ite_true L<|Qgq<|h h' f c.keeps
def xU{A:X_}{E:X0}{s:X4}{Q:X0}
  (l:s.heap.get? z=some {cls:=.type "zip",dict:=none,data:=.fields fs,slots:= (List.toArray [])}) (j:A.handled=none)
  (h:∀(h':Xe) (f:Nat),(∀b o,(s.heap.push {cls:=.type "dict",data:=.dict (List.toArray [])}).get? b=some o->h'.get? b=some o)->
   wpAny (model prog w) A.in1.in1 (pyIter (.ref z)) (λit d=>codeAny (model prog w) A.in1 (.builtin "dict.update.loop" {pos:= [.ref s.heap.objs.size,it,rawInt 0,.none]}) (wants (λr c=>r=.none/\Q (.ref s.heap.objs.size) c) E) d) E {s with heap:=h',toks:=f}):
  wpAny (model prog w) A (call (.type "dict") [.ref z]) Q E s:=by
 show Dk.Da ?_
 let m:=Qrq s.heap (o:={cls:=.type "dict",data:=.dict (List.toArray [])}) L
 have i:Shared.TypeIs {s with heap:=s.heap.push {cls:=.type "dict",data:=.dict (List.toArray [])}} (.ref s.heap.objs.size) "dict":=#[_,m,L]
 let a:=Qcq {cls:=.type "dict",data:=.dict (List.toArray [])} l
 have k:Shared.TypeIs {s with heap:=s.heap.push {cls:=.type "dict",data:=.dict (List.toArray [])}} (.ref z) "zip":=#[_,a,L]
 unfold Builtin.«dict.__init__» Builtin.Dict.selfAndRest
 show Qaq<|Qaq<|wpAny_notOrdered_dict i ?_
 show Qaq<|Qgq<|Qgq ?_
 show wpAny _ _ (Builtin.Dict.updateFrom _ _ _ _ _) _ _ _
 unfold Builtin.Dict.updateFrom
 show Qaq<|wpAny_typeOf k<|wpAny_ite_true (by decide +kernel)<|Qaq (Gm a (by simpa using j) λh' f g=>?_)
 show wpAny_ite_true L ?_
 show Qaq<|wpAny_rule<|Qaq (QRq (h h' f g) (λit d q=>?_) λe d q=>q)
 show Qgq #[plainId_quiet (by decide +kernel) _,q]
end Zq
namespace Zq
open PySem Dk
section
variable{K:Type}[DecidableEq K]
def DV{prog:X9}{w:Xc}{knd:KeyKind prog w K}{T:X8}{O:X8}{ys:Xa}{A:X_}{R:Result->Shared->Prop}(hA:A.in1.handled=none)(D:ZipApart z T O i j a b)(nS:S≠z/\S≠T/\S≠O/\S≠i/\S≠j/\S≠a/\S≠b)(a4:a≠T/\b≠T)(f:Nat->K)(x:∀(n:Nat) v,xs[n]?=some v->knd.is (f n) v=true)(a5:xs.size<=ys.size)(hn:xs.size<=sizeLine):
  ∀ (m n:Nat) (c:Int) (s:X4),xs.size-n=m->n<=xs.size->Zs s.heap z T O i j->IsPair s.heap T (.ref i) (.ref j)->It t s.heap i a n->It t2 s.heap j b n->Sq t s.heap a xs->Sq t2 s.heap b ys->Heap.DictOf knd s.heap S (Nu f (λn=>ys.getD n .none) n)->
    (∀h' W,Heap.DictOf knd h' S (Nu f (λn=>ys.getD n .none) xs.size)->(∀c o,c≠z->c≠O->c≠i->c≠j->c≠S->s.heap.get? c=some o->h'.get? c=some o)->R (.ok (.ret .none)) {s with heap:=h',toks:=W})->
    codeAny (model prog w) A (.builtin "dict.update.loop" {pos:= [.ref S,.ref z,rawInt c,.none]}) R s:=by
 let#[n1,n2,N,P,J,n6,n7]:=nS
 intro m
 induction m with
 | zero=>
   intro n c s hm a2 I B gi gj y M G h
   have e:n=xs.size:=by omega
   subst e
   show codeAny_builtin mB ?_
   rw[Around.under_plainId iL]
   show wpAny _ _ (do let __x<-pyNext (.ref z);_) _ _ _
   show Qaq (C5 D hA I B gi y (by simp) λh' r=>?_)
   show Qaq<|Qgq<|Qgq (h h' s.toks ?_ λc o g l p k _ e=>r c o g l p k e)
   let#[o,es,ep,Y,L]:=G
   show#[o,es,ep,r _ _ n1 N P J Y,L]
 | succ m ih=>
   intro n c s hm a2 I B gi gj y M G h
   have u:n<xs.size:=by omega
   have ex:xs[n]?=some xs[n]:=by simp[u]
   have ey:ys[n]?=some ys[n]:=by simp[show n<ys.size by omega]
   show codeAny_builtin mB ?_
   rw[Around.under_plainId iL]
   show wpAny _ _ (do let __x<-pyNext (.ref z);_) _ _ _
   show Qaq (JZ D I B gi gj y M ex ey λhp a0 Q H gp r=>?_)
   have a1:Heap.DictOf knd hp S (Nu f (λn=>ys.getD n .none) n):=by
     let#[o,es,ep,Y,L]:=G
     show#[o,es,ep,r _ _ n1 N P J Y,L]
   show Qaq<|QLq<|Qaq<|wpAny_tryCatch ?_
   unfold Builtin.Dict.pairItems
   show Qaq<|wpAny_typeOf (T:="tuple") #[_,gp,rfl]<|wpAny_ite_true rfl<|Qaq ?_
   unfold seqItems?
   show Qaq<|wpAny_load' gp<|Qgq<|Qgq<|QLq<|wpAny_dictSet_pairs (x n _ ex) a1 (λh' q hs=>?_)<|QAq (F5 f _ n) (!0)
   have ev:ys.getD n .none=ys[n]:=by simp[Array.getD,show n<ys.size by omega]
   have F:∀c o,c≠S->hp.get? c=some o->h'.get? c=some o:=λc o hc e=>by rw[hs.2 c hc];show e
   have d:∀c o,c≠z->c≠O->c≠i->c≠j->c≠S->s.heap.get? c=some o->h'.get? c=some o:=λc o g l p k C e=>F c o C (r c o g l p k e)
   have Z:∃o,h'.get? S=some o:=by let#[o,_,_,e,_]:=q;show#[o,e]
   have X:Heap.DictOf knd h' S (Nu f (λn=>ys.getD n .none) (n+1)):=by
     show Heap.DictOf knd h' S (stored _ (f n)<|ys.getD n .none)
     rw[ev]
     show q
   show Qgq #[plainId_quiet iL _,ih (n+1) (c+1) _ (!0) u (a0.but F n1.symm N.symm Z) ?_ (Q.at λo e=>F _ o P.symm e) (H.at λo e=>F _ o J.symm e) ?_ ?_ X λU W a3 k4=>h U W a3 λc o g l p k C e=>k4 c o g l p k C<|d c o g l p k C e]
   · show d _ _ D.TIz D.TITO D.TIi1 D.TIi2 n2.symm B
   · show y.at λo e=>d _ o D.l1z D.l1TO D.l1i1 D.l1i2 n6.symm e
   · show M.at λo e=>d _ o D.l2z D.l2TO D.l2i1 D.l2i2 n7.symm e
end
end Zq
namespace L2
open PyProof.Rows Zq
def Bz(K:X1)(t:Bool)(H:Hp)(a:X8)(xs:List V):Prop:=if t=true then jM K H a xs else jm K H a xs
def Inv.sq(I:Inv X c d H s)(h:Bz X.K t H a xs):∃b:List Value,bN xs b/\Sq t s.heap a b.toArray/\xs.length<=sizeLine:=by
 cases t with
 | true=>
   let#[b,r,p,z]:=I.tuple h
   show#[b,r,(show s.heap.IsTuple a b.toArray from p),z]
 | false=>
   let#[b,r,p,z]:=I.list h
   show#[b,r,(show s.heap.IsList a b.toArray from p.isList),z]
def Sq.lt(g:Sq t h a xs):a<h.objs.size:=by
 cases t with
 |true=>let#[o,e,_]:=(show h.IsTuple a xs from g);show Qiq e
 |false=>let#[o,e,_]:=(show h.IsList a xs from g);show Qiq e
def Nc(K:X1):List V->Hp->VK->Prop:=λf H Q=>∃(t e:Bool) (a b:X8) (d:List Key) (c:List V),f= [.ref a,.ref b]/\Bz K t H a (d.map kV)/\Bz K e H b c/\d.length=c.length/\∀p,H p=none->Q (.ref p) (upd H p<|.dK (lD []<|d.zip c))
def EZ{X:Cx}(B:X.calm=true)(a0:Gl X "dict")(a1:X.mg "dict"=none)(hg:Gl X "zip")(hm:X.mg "zip"=none)(ha:PA X [x,y] ta)(hs:autoParam (starEach [x,y] X.env= [(false,eval x X.env),(false,eval y X.env)]) dO._auto_1)(L:autoParam (starEach [y] X.env= [(false,eval y X.env)]) dO._auto_1)
  (he:autoParam (starEach [Expr.Call (.Name "zip" R) [x,y] [] J] X.env= [(false,eval (Expr.Call (.Name "zip" R) [x,y] [] J) X.env)]) dO._auto_1):
  PE X (.Call (.Name "dict" p1) [.Call (.Name "zip" R) [x,y] [] J] [] c1) (P0 (Nc X.K) ta):=by
 intro C s σ H Q I h
 show wpAny_Call_Name_kw<|mV I a0 a1 (by rfl) ?_
 show PyProof.Rows.callWith_type1 ?_ he rfl
 rw[he]
 show wpAny _ _ (spliced ((false,eval (Expr.Call (.Name "zip" R) [x,y] [] J) X.env)::backTo c1 (starEach [] X.env))) _ _ s
 show Calls.spliced_cons ?_
 show wpAny_Call_Name_kw<|mV I hg hm (by rfl) ?_
 show PyProof.Rows.callWith_type1 (di (ha J C s σ H _ I h) λus j ⟨vs,H1,F,r1,q1⟩=>?_) (by rw[hs,L]) (by rw[L];rfl)
 let#[t,t2,a,b,d,ys,e,qa,qb,hl,q]:=q1
 subst e
 cases r1 with
 | cons r rr=>
   cases rr with
   | cons r' rr=>
     cases rr
     cases r
     cases r'
     let#[z,ra,pa,za]:=F.sq qa
     let#[m,rb,pb,zb]:=F.sq qb
     let lx:=Sq.lt pa
     let ly:=Sq.lt pb
     let la:=ra.length
     let lb:=rb.length
     rw[lQm] at la
     show Zq.LU pa pb λg S gT gO gi gj Y=>Calls.spliced_nil ?_
     have I2:Inv X C σ H1 {j with heap:=g}:=F.kept (t':=j.toks) Y
     show Zq.xU S (F.ok.hd B) λU tk Z=>?_
     have p:∀c o,g.get? c=some o->U.get? c=some o:=λc o e=>Z c o (Qcq _ e)
     have a5:U.get? g.objs.size=some {cls:=.type "dict",data:=.dict (List.toArray [])}:=Z _ _ (Qrq g rfl)
     show wpAny_pyIter_zip (p _ _ S) ?_
     let DD:=PyProof.Rows.zipApart_new lx ly
     have f:j.heap.objs.size+4<g.objs.size:=Qiq S
     have P:∀(n:Nat) k,d[n]?=some k->d.getD n (.inl 0)=k:=λn k e=>by rw[Qlq,e];rfl
     have G:∀c,c<j.heap.objs.size->c≠j.heap.objs.size+4/\c≠j.heap.objs.size+3/\c≠j.heap.objs.size/\c≠j.heap.objs.size+1/\c≠g.objs.size:=λc B=>
       #[Qwq<|Qqq B<|Nat.le_add_right _ _,Qwq<|Qqq B<|Nat.le_add_right _ _,Qwq B,Qwq<|Qqq B<|Nat.le_add_right _ _,Qwq<|Nat.lt_trans (Qqq B<|Nat.le_add_right _ 4) f]
     show Zq.DV (knd:=cq X.prog X.w) (t:=t) (t2:=t2) (xs:=z.toArray) (ys:=m.toArray) (show X.A.in1.in1.handled=none from F.ok.hd B) DD ?_ ?_ (λn=>d.getD n<|.inl 0) ?_ (by simp;omega) (by simp;omega) z.toArray.size 0 0 _ rfl (Nat.zero_le _)
       (.inl #[p _ _ S,_,_,p _ _ gO]) (p _ _ gT) (gi.at λo e=>p _ o e) (gj.at λo e=>p _ o e) (pa.at λo e=>p _ o<|Y _ o e) (pb.at λo e=>p _ o<|Y _ o e) ?_ ?_
     · show#[Nat.ne_of_gt f,Nat.ne_of_gt<|Nat.lt_trans ?_ f,Nat.ne_of_gt<|Nat.lt_trans ?_ f,Nat.ne_of_gt<|Nat.lt_trans ?_ f,Nat.ne_of_gt<|Nat.lt_trans ?_ f,(G _ lx).2.2.2.2.symm,(G _ ly).2.2.2.2.symm] <;>(show _<j.heap.objs.size+4) <;>omega
     · show#[Qwq<|Qqq lx<|Nat.le_add_right _ _,Qwq<|Qqq ly<|Nat.le_add_right _ _]
     · intro n v hv
       have N:z[n]?=some v:=by simpa using hv
       have hn:n<d.length:=by
         have:=(gQs.mp N).1
         omega
       let M:=gQe hn
       let#[u,W,ru]:=ra.get (i:=n) (x:=kV d[n]) (by rw[gQm,M];rfl)
       rw[N] at W
       cases W
       show(cq X.prog X.w).is (d.getD n<|.inl 0) v=true
       rw[P n _ M]
       show key_is ru _ _
     · let#[o,es,ep,e1,e2]:=Heap.DictOf.new (knd:=cq X.prog X.w) g
       show#[o,es,ep,Z _ _ e1,e2]
     · intro h3 a3 dd k3
       have a2:g.objs.size≠sysModules:=by
         have:=I2.big
         show Nat.ne_of_gt this
       have le:j.heap.objs.size<=g.objs.size:=nQl (Nat.lt_of_le_of_lt (Nat.le_add_right _ 4) f)
       show#[rfl,.ref g.objs.size,_,F.laid (a:=g.objs.size) (o:=.dK (lD []<|d.zip ys)) (t':=a3) (h':=h3) (λc o e=>?_) le<|wx ?_ (beq_eq_false_iff_ne.mpr a2) ?_ dd,rfl,q _<|F.hok.fresh le]
       · let#[o1,o2,o3,o4,o5]:=G c (Qiq e)
         show k3 c o o1 o2 o3 o4 o5<|p c o<|Y c o e
       · have:=j0 (d.zip ys) []
         rw[QGq,List.length_zip] at this
         omega
       · have a4:∀n,n<=d.length->KV (lD [] ((d.zip ys).take n)) (Dk.Nu (λn=>d.getD n<|.inl 0) (λn=>m.toArray.getD n .none) n):=by
           intro n
           induction n with
           |zero=>intro _;show .nil
           | succ n ih=>
             intro hn
             let M:=gQe (l:=d) (i:=n) (!0)
             let hy:=gQe (l:=ys) (i:=n) (!0)
             let#[u,W,ru]:=rb.get hy
             have ez:(d.zip ys)[n]?=some (d[n],ys[n]):=by rw[List.getElem?_zip_eq_some];show#[M,hy]
             have e3:(d.zip ys).take (n+1)=(d.zip ys).take n++ [(d[n],ys[n])]:=by rw[QYq,ez];rfl
             have eu:m.toArray.getD n .none=u:=by
               have:=(gQs.mp W)
               let#[g,U]:=this
               simp[Array.getD,g,U]
             rw[e3]
             show KV (List.foldl _ [] ((d.zip ys).take n++ [(d[n],ys[n])])) (stored _ (d.getD n<|.inl 0)<|m.toArray.getD n .none)
             rw[List.foldl_append,P n _ M,eu]
             show(ih (!0)).put d[n] ru
         have:=a4 d.length (Qmq _)
         have e4:(d.zip ys).take d.length=d.zip ys:=by
           have:(d.zip ys).length=d.length:=by rw[List.length_zip];omega
           rw[<-this,QEq]
         rw[e4] at this
         have e5:z.toArray.size=d.length:=by simp;omega
         rw[e5]
         show this
end L2
namespace Zq
open PySem
def Hu{E:X0}{s:X4}{T:X8}{O:X8}(D:ZipApart z T O i j a b){Q:Option Value->Shared->Prop}(c:xO s.heap z T O .none (.bool false))(o:IsPair s.heap T (.ref i) (.ref j))(G:IsPair s.heap O u v)(H:It t s.heap i a k)(h:It t2 s.heap j b k)
  (e:Sq t s.heap a xs) (g:Sq t2 s.heap b ys) (f:xs[k]?=some x) (C:ys[k]?=some y)
  (q:∀h',xO h' z T O (rawInt s.heap.objs.size) (.bool false)->IsPair h' O x y->It t h' i a (k+1)->It t2 h' j b (k+1)->IsPair h' s.heap.objs.size x y->Zp.Rest z O i j s.heap h'->Q (some<|.ref s.heap.objs.size) {s with heap:=h'}):
  wpAny (model prog w) A (pyNext<|.ref z) Q E s:=by
 have d:s.TypeIs (.ref z) "zip":=#[_,c,L]
 unfold pyNext
 show Qaq (wpAny_attempt (QiQ (name:=Str.ofString "__next__") d F.slot_zip_next (wpAny_call_entry F.slot_zip_next d F.entry_zip_next
  (item D c o G H h e g f C λh' r B l n m p=>Qgq (q h' r B l n m p)) (F.args_zip_next_1 _))))
end Zq
namespace L2
open PyProof.Rows Zq
def Inv.sq_inj(I:Inv X b c H s)(h:Bz X.K t H a xs)(h':Bz X.K t H a ys):xs=ys:=by
 cases t with
 |true=>show I.tuple_inj h h'
 |false=>show I.list_inj h h'
noncomputable def R3(K:X1)(t t2:Bool)(a b:X8):It:=
  ⟨λi H=>∃c d x y,Bz K t H a c/\Bz K t2 H b d/\c[i]?=some x/\d[i]?=some y,
   λi H v e=>∃p,v=.ref p/\H p=none/\∀c d x y,Bz K t H a c->Bz K t2 H b d->c[i]?=some x->d[i]?=some y->e=upd H p (.tup [x,y]),
   λi H=>∃c,Bz K t H a c/\c.length<=i⟩
def Hc{P:X9}{w:Xc}{K:X1}{C:List Expr}{x1:Nat}{tp:Pos}{t t2:Bool}{z T O i j a b:X8}(D:ZipApart z T O i j a b):
  Turn P w K (.Tuple C x1 tp) (R3 K t t2 a b) [z,T,O,i,j] z (λn h=>xO h z T O .none (.bool false)/\IsPair h T (.ref i) (.ref j)/\(∃u v,IsPair h O u v)/\Zq.It t h i a n/\Zq.It t2 h j b n) where
 mem:=by simp
 obj:=λn h ⟨f,g,⟨u,v,l⟩,m,q⟩ c d=>by
  simp at d
  rcases d with rfl|rfl|rfl|rfl|rfl
  ·show#[_,f,λv n=>by cases n]
  ·show#[_,g,λv n=>by cases n]
  ·show#[_,l,λv n=>by cases n]
  ·show m.obj
  ·show q.obj
 keep:=λn h h' ⟨f,g,⟨u,v,l⟩,m,q⟩ k=>#[k z (by simp) _ f,k T (by simp) _ g,#[u,v,k O (by simp) _ l],m.at λo e=>k i (by simp) o e,q.at λo e=>k j (by simp) o e]
 item:=by
  rintro X S R Z d n p s σ H E I G ⟨f,g,⟨u,v,l⟩,m,q⟩ Q
  subst S R Z
  let#[xs,ys,x,y,F,qb,M,hy]:=Q
  let#[Y,N,U,_]:=I.sq F
  let#[a0,rb,pb,_]:=I.sq qb
  let#[ux,ex,rx]:=N.get M
  let#[uy,ey,ry]:=rb.get hy
  have B:∀{c o},s.heap.get? c=some o->c≠s.heap.objs.size:=λe=>Qwq (Qiq e)
  have A:∀c∈[z,T,O,i,j],c≠s.heap.objs.size:=λc d=>by
   let#[oi,e1,_]:=m.obj
   let#[oj,e2,_]:=q.obj
   simp at d
   rcases d with rfl|rfl|rfl|rfl|rfl
   ·show B f
   ·show B g
   ·show B l
   ·show B e1
   ·show B e2
  show Zq.Hu D f g l m q U pb (x:=ux) (y:=uy) (by simpa using ex) (by simpa using ey) λh1 z1 O1 i1 j1 n1 J=>#[_,rfl,?_]
  let T1:=J _ _ D.TIz D.TITO D.TIi1 D.TIi2 g
  show wpAny_letOwnedTupleGo_zip z1 λh2 z2 r=>?_
  have I2:Inv X p σ (upd H s.heap.objs.size<|.tup [x,y]) {s with heap:=h2}:=I.turnedNew (t':=s.toks) (fp:= [z,T,O,i,j]) G (λc o d e=>?_) (Qmq _) ?_
  ·show#[.ref s.heap.objs.size,_,I2,rfl,#[s.heap.objs.size,rfl,I.hok.fresh<|Qmq _,λa1 a2 x' y' q1 q2 L q4=>?_],#[z2,r.extBut _ _ D.TIz T1,#[_,_,r.extBut _ _ D.TOz O1],i1.ext r.extBut D.i1z,j1.ext r.extBut D.i2z],λc d=>?_]
   ·rw[I.sq_inj q1 F] at L
    rw[I.sq_inj q2 qb] at q4
    rw[M] at L
    rw[hy] at q4
    cases L
    cases q4
    rfl
   ·rw[bF (A c d)]
    show(G c d).1
  ·simp at d
   show r.extBut _ _ d.1<|J c o d.1 d.2.2.1 d.2.2.2.1 d.2.2.2.2 e
  ·show#[by show 2<=_;decide,[ux,uy],.cons rx (.cons ry .nil),_,r.extBut _ _ (λe=>A z (by simp) e.symm) n1,rfl,rfl,0,rfl]
 done:=by
  rintro X S R Z d n p s σ H E I G ⟨f,g,⟨u,v,l⟩,m,q⟩ Q
  subst S R Z
  let#[xs,F,M]:=Q
  let#[Y,N,U,_]:=I.sq F
  let hl:=N.length
  show Zq.C5 D (I.ok.hd d) (.inl #[f,u,v,l]) g m U (by simp;omega) λh1 J=>#[rfl,I.turnedL (t':=s.toks) (fp:= [z,T,O,i,j]) G λc o d e=>?_]
  simp at d
  show J c o d.1 d.2.2.1 d.2.2.2.1 d.2.2.2.2 e
 self:=λ_ _ _ _ _ ⟨f,_⟩ h=>wpAny_pyIter_zip f h
def Sr(K:X1)(g:TA):TI:=λh H R=>g h H λd H1=>∃(t c:Bool) (a b:X8) (f e:List V),d= [.ref a,.ref b]/\Bz K t H1 a f/\Bz K c H1 b e/\R (R3 K t c a b) H1
def KW(C:Gl X "zip")(Y:X.mg "zip"=none)(Z:PA X [a,b] o)(U:autoParam (starEach [a,b] X.env= [(false,eval a X.env),(false,eval b X.env)]) dO._auto_1)(g:autoParam (starEach [b] X.env= [(false,eval b X.env)]) dO._auto_1):
  PI X (.Tuple d x1 S) (.Call (.Name "zip" p) [a,b] [] j) (Sr X.K o):=by
 intro i s W H R I h
 show Call_<|mV I C Y (by rfl)<|PyProof.Rows.callWith_type1 (di (Z j i s W H _ I h) λus v ⟨vs,H1,f,B,N⟩=>?_) (by rw[U,g]) (by rw[g];rfl)
 let#[t,t2,x,y,xs,ys,e,qa,G,q]:=N
 subst e
 cases B with
 | cons r l=>
   cases l with
   | cons A l=>
     cases l
     cases r
     cases A
     let#[M,ra,w,_]:=f.sq qa
     let#[P,rb,u,_]:=f.sq G
     let J:=Sq.lt w
     let F:=Sq.lt u
     show Zq.LU w u λh' m Q gO gi L k=>?_
     show wpAny_pyIter_zip m #[_,_,_,_,H1,rfl,f.kept (t':=v.toks) k,Hc<|PyProof.Rows.zipApart_new J F,#[m,Q,#[_,_,gO],gi,L],λc z=>?_,q]
     have n:v.heap.objs.size<=c:=by
       erw[Qsq,QXq,or_false] at z
       rcases z with e|e|e|e|e <;>(rw[e];first|show Qmq _|show Nat.le_add_right _ _)
     show f.fpOk n<|f.hok.fresh n
end L2
namespace DL
open PyProof.Rows L2
def Eg.sqB(h:Eg M ρ H a vs t):L2.Bz M.K (!t.isL) H a vs:=by
 cases c:t.isL with
 |true=>show h.sqL c
 |false=>show h.sqT c
noncomputable def Ck(xs ys:List D):List D:=List.zipWith (λx y=>D.tup [x,y]) xs ys
open Classical in
def J2(f g:e_):yu:=λb S=>(f b S).bind λ(p,c)=>(g b c).bind λ(r,a)=>if p.2.stays a p.1/\p.1.length<=r.1.length then some ((Ck p.1 r.1,λS=>p.2.stays S p.1/\r.2.stays S r.1),a) else none
def RA(hg:Gl X "zip")(hm:X.mg "zip"=none)(ha:PE X a (tQ (md X) f))(hb:PE X b (tQ (md X) g))(N:autoParam (starEach [a,b] X.env= [(false,eval a X.env),(false,eval b X.env)]) dO._auto_1)(k:autoParam (starEach [b] X.env= [(false,eval b X.env)]) dO._auto_1):
  PI X (.Tuple n t tp) (.Call (.Name "zip" p) [a,b] [] h) (tI (md X)<|J2 f g):=Qd (KW hg hm (eB ha (eB hb gX k) (by rw[N,k])) N k) λσ H R ⟨ρ,M,S,ds,W,S',ok,e,q⟩=>by
 let#[#[#[r,t1],Z],e1,e]:=au e
 let#[#[#[m,t2],S2],e2,e]:=au e
 dsimp only at e
 split at e
 ·rename_i c
  let#[e3,rfl]:=cH e
  let#[rfl,rfl]:=Prod.mk.inj e3
  show#[ρ,M,S,r,t1,Z,ok,e1,λA a1 a0 H1 t G h1 r1=>#[A,M,Z,m,t2,S2,ok.to t G,e2,λa3 b1 ws H2 L o P r2=>?_]]
  let#[B,K,r3]:=h1.to r1 L o c.1
  show#[_,_,a1,b1,B,ws,rfl,K.sqB,P.sqB,q _ _ _ (t.trans L) o λi a2 S3 H3 U l w=>?_]
  let#[C,I,g2]:=K.to r3 U l w.1
  let#[Q,g3,g4]:=P.to r2 U l w.2
  show#[λd j=>?_,λhi=>#[C,I.sqB,?_]]
  ·unfold Ck at j
   rw[List.getElem?_zipWith] at j
   cases s:r[i]? with
   |none=>rw[s] at j;cases j
   | some x=>
     cases F:m[i]? with
     |none=>rw[s,F] at j;cases j
     | some y=>
       rw[s,F] at j
       cases j
       let#[u,Y,ru]:=g2.get s
       let#[z,J,rz]:=g4.get F
       show#[#[C,Q,u,z,I.sqB,g3.sqB,Y,J],λv H4 hv=>?_]
       let#[p,rfl,hp,hq]:=hv
       have:=hq C Q u z I.sqB g3.sqB Y J
       subst this
       show#[cI.laid hp,l.lay hp,.tup cg ((bt.cons ru<|.cons rz .nil).ext (cI.laid hp))]
  ·rw[hi]
   unfold Ck
   rw[List.length_zipWith,g2.length.symm]
   have:=c.2
   omega
 ·cases e
noncomputable def yl:D->Option Key
 |.int i=>some (.inl i)
 |.str x=>some (.inr x)
 |_=>none
def vI(r:Rel M ρ H d v)(e:yl d=some k):v=kV k:=by
 cases r <;>simp[yl] at e <;>subst e <;>rfl
noncomputable def Dm:List D->Option (List Key)
 | []=>some []
 |d::r=>(yl d).bind λk=>(Dm r).bind λa=>some (k::a)
theorem CQ:∀{ds:List D} {vs:List V} {a:List Key},bt M ρ H ds vs->Dm ds=some a->vs=a.map kV
 |_,_,_,.nil,e=>by cases e;rfl
 | _,_,_,.cons h hs,e=>by
   let#[k,b,e]:=au e
   let#[a,c,e]:=au e
   cases e
   rw[vI h b,CQ hs c]
   rfl
noncomputable def i7(a:List (Key×D))(k:Key):Option D:=(a.find? λb=>decide (b.1=k)).map (·.2)
noncomputable def putD(a:List (Key×D))(k:Key)(v:D):List (Key×D):=
 if (a.any λb=>decide (b.1=k))=true then a.map (λb=>if b.1=k then(b.1,v) else b) else a++ [(k,v)]
noncomputable def bE(a more:List (Key×D)):List (Key×D):=more.foldl (λb c=>putD b c.1 c.2) a
theorem cN.append:∀{l m:List (Key×D)} {kv kw:List (Key×V)},cN M ρ H l kv->cN M ρ H m kw->cN M ρ H (l++m) (kv++kw)
 | [],_,_,_,h,h'=>by cases h;show h'
 |(_,_)::_,_,_,_,#[v,t,e,h,hs],h'=>by subst e;show#[v,_,L,h,cN.append hs h']
theorem cN.any:∀{l:List (Key×D)} {kv:List (Key×V)} (k:Key),cN M ρ H l kv->(l.any λp=>decide (p.1=k))=kv.any λp=>decide (p.1=k)
 | [],_,_,h=>by cases h;rfl
 |(_,_)::_,_,k,#[v,t,e,h,hs]=>by subst e;erw[List.any_cons,cN.any k hs]
theorem cN.mapP{k:Key}(r:Rel M ρ H d v):∀{l:List (Key×D)} {kv:List (Key×V)},cN M ρ H l kv->cN M ρ H (l.map λp=>if p.1=k then(p.1,d) else p) (kv.map λp=>if p.1=k then(p.1,v) else p)
 | [],_,h=>by cases h;rfl
 | (k',_)::_,_,#[u,t,e,h,hs]=>by
   subst e
   erw[QDq]
   by_cases c:k'=k
   · erw[c,if_true];show#[v,_,L,r,cN.mapP r hs]
   · erw[c,if_false];show#[u,_,L,h,cN.mapP r hs]
def cN.put(h:cN M ρ H l kv)(r:Rel M ρ H d v):cN M ρ H (putD l k d) (putK kv k v):=by
 unfold putD putK
 rw[h.any k]
 split
 ·show h.mapP r
 ·show h.append #[v,[],L,r,L]
theorem cN.merge:∀{m:List (Key×D)} {kw:List (Key×V)} {l:List (Key×D)} {kv:List (Key×V)},cN M ρ H m kw->cN M ρ H l kv->cN M ρ H (bE l m) (lD kv kw)
 | [],_,_,_,h,h'=>by cases h;show h'
 | (k,d)::m,_,_,_,#[v,t,e,h,hs],h'=>by
   subst e
   unfold bE lD
   rw[List.foldl_cons,List.foldl_cons]
   show cN.merge (m:=m) (kw:=t) hs<|h'.put h
theorem cN.zip:∀{a:List Key} {ds:List D} {vs:List V},bt M ρ H ds vs->cN M ρ H (a.zip ds) (a.zip vs)
 | [],_,_,_=>rfl
 |_::_,_,_,.nil=>rfl
 |k::a,_,_,.cons h hs=>#[_,_,L,h,cN.zip hs]
theorem cN.val:∀{l:List (Key×D)} {kv:List (Key×V)} {k:Key} {d:D},cN M ρ H l kv->i7 l k=some d->∃v,sO kv k=some v/\Rel M ρ H d v
 | [],_,_,_,_,e=>by cases e
 | (k',d')::_,_,k,d,#[v,t,e,h,hs],e'=>by
   subst e
   unfold i7 at e'
   unfold sO
   rw[List.find?_cons] at e'|-
   by_cases c:k'=k
   · erw[c,decide_true] at e'|-
     cases e'
     show#[v,L,h]
   · erw[c,decide_false] at e'|-
     show cN.val hs e'
def cN.ext'(h:cN M ρ H l kv)(e:cI ρ H a b):cN M a b l kv:=h.imp λ_ _ r=>r.ext e
def cN.pre'(h:cN M ρ H l kv)(e:ρ <+: a):cN M a H l kv:=h.imp λ_ _ r=>r.pre e
def OW{Q:VK}(x:cI ρ H d h)(st:gN M d n h)(j:h p=none)(r:cN M d h l kv)
  (q:∀f v g,cI ρ H f g->gN M f (n++ [.dct l]) g->Rel M f g (.ref n.length) v->Q v g):Q (.ref p) (upd h p<|.dK kv):=by
 have t:p∉d:=dM x st j
 have s:cI d h d (upd h p<|.dK kv):=cI.laid j
 let k:=(st.lay (u:=.dK kv) j).box (o:=.dct l) t #[kv,cg,(r.ext' s).pre' (List.prefix_append _ _)]
 show q (d++ [p]) (.ref p) _ #[x.pre.trans<|List.prefix_append _ _,λc i=>?_,(x.trans s).keep,(x.trans s).grow] k<|.ref ?_
 ·rcases mQa.mp i with i|i
  ·show x.new c i
  ·rw[Qfq] at i;subst i;show .inr (x.grow _ j)
 ·rw[<-st.len,QQq (Qmq _)]
  simp
open Classical in
def Kq(f g:e_):bL:=λh S=>(f h S).bind λ(p,i)=>(g h i).bind λ(r,d)=>if p.2.stays d p.1/\p.1.length=r.1.length then(Dm p.1).bind λj=>some (.ref d.length,d++ [.dct (bE []<|j.zip r.1)]) else none
def NY{X:Cx}{a:Expr}{b:Expr}{p1 j Z s:Pos}{f g:e_}(hc:X.calm=true)(n:Gl X "dict")(o:X.mg "dict"=none)(P:Gl X "zip")(hm:X.mg "zip"=none)(ha:PE X a (tQ (md X) f))(L:PE X b (tQ (md X) g))(y:autoParam (starEach [a,b] X.env= [(false,eval a X.env),(false,eval b X.env)]) dO._auto_1)(h:autoParam (starEach [b] X.env= [(false,eval b X.env)]) dO._auto_1)
  (he:autoParam (starEach [Expr.Call (.Name "zip" j) [a,b] [] s] X.env= [(false,eval (Expr.Call (.Name "zip" j) [a,b] [] s) X.env)]) dO._auto_1):
  PE X (.Call (.Name "dict" p1) [.Call (.Name "zip" j) [a,b] [] s] [] Z) (tD (md X)<|Kq f g):=ko (EZ hc n o P hm (eB ha (eB L gX h) (by rw[y,h])) y h he) λσ H Q ⟨ρ,x,S,d,S',ok,e,q⟩=>by
 let#[#[#[t,t1],B],e1,e]:=au e
 let#[#[#[u,F],S2],Y,e]:=au e
 dsimp only at e
 split at e
 ·rename_i c
  let#[M,e3,e]:=au e
  let#[rfl,rfl]:=cH e
  show#[ρ,x,S,t,t1,B,ok,e1,λr a1 K H1 C k U J=>#[r,x,B,u,F,S2,ok.to C k,Y,λN G W H2 z i I A=>?_]]
  let#[a0,h3,v]:=U.to J z i c.1
  let R:=CQ v e3
  subst R
  let w:=v.length
  rw[lQm] at w
  show#[_,_,a1,G,M,W,rfl,h3.sqB,I.sqB,by rw[<-w,<-A.length];show c.2,λp hp=>?_]
  show OW (C.trans z) i hp (cN.merge (l:= []) (cN.zip A) rfl) q
 ·cases e
noncomputable def PZ:bL:=λ_ S=>some (.ref S.length,S++ [.dct []])
def Qm:PE X (.Dict [] [] m) (tD (md X) PZ):=ko IC λk H Q g=>by
 let#[i,j,S,d,h,ok,e,q]:=g
 let#[rfl,rfl]:=cH e
 show λp f=>OW cI.refl ok.st f (l:= []) (kv:= []) L q
noncomputable def M7(f g:bL):bL:=λi S=>(f i S).bind λ(x,j)=>(g i j).bind λ(y,h)=>match x with
 | .ref k=>match h[k]? with
   |some (.dct l)=>(yl y).bind λn=>(i7 l n).bind λd=>some (d,h)
   |_=>none
 |_=>none
def QR{X:Cx}(L:X.A.units+1<cLine)(p:PE X a (tD (md X) f))(z:PE X b (tD (md X) g))(o:LM b):PE X (.Subscript a b m) (tD (md X)<|M7 f g):=ko (Lo L p z o) λσ H Q J=>by
 let#[K,r,S,d,S',ok,e,q]:=J
 let#[#[x,t],P,e]:=au e
 let#[#[y,I],G,e]:=au e
 cases x with
 | ref k=>
   dsimp only at e
   split at e
   · rename_i l o
     let#[W,R,e]:=au e
     let#[Z,U,e]:=au e
     let#[rfl,rfl]:=cH e
     show#[K,r,S,_,t,ok,P,λn Y H1 u j i=>#[n,r,t,y,I,ok.to u j,G,λB v2 H2 s h N=>?_]]
     cases vI N R
     let i:=i.ext s
     cases i with
     | ref p=>
       let#[kv,F,w]:=h.obj k _ _ p o
       let#[v,M,C]:=w.val U
       show#[_,v,rfl,by rw[<-M];show G8.k F,q _ _ _ (u.trans s) h C]
   · cases e
 |_=>cases e
noncomputable def PC(f g h:bL):cJ:=λi S=>(h i S).bind λ(d,o)=>(f i o).bind λ(x,n)=>(g i n).bind λ(y,j)=>match x with
 | .ref k=>match j[k]? with
   |some (.dct l)=>(yl y).bind λp=>if l.length<sizeLine then some (.nx i (j.set k<|.dct (putD l p d))) else none
   |_=>none
 |_=>none
mutual
theorem Rel.offK{H:Hp}(f:H b=some (.dK g)):∀{d:D} {v:V},Rel M ρ H d v->Rel M ρ (upd H b o) d v
 |_,_,.non=>.non
 |_,_,.bl x=>.bl x
 |_,_,.int i=>.int i
 |_,_,.str x=>.str x
 |_,_,.tup h hs=>.tup (by rw[bF (Im h f (by intro z;cases z))];show h) (bt.offK f hs)
 |_,_,.ref h=>.ref h
 |_,_,.fn h=>.fn h
theorem bt.offK{H:Hp}(d:H b=some (.dK f)):∀{ds:List D} {vs:List V},bt M ρ H ds vs->bt M ρ (upd H b o) ds vs
 |_,_,.nil=>.nil
 |_,_,.cons h hs=>.cons (Rel.offK d h) (bt.offK d hs)
end
def gN.putKd(st:gN M ρ S H)(d:ρ[k]?=some a)(h:S[k]?=some (.dct l))(r:cN M ρ H l' kw):gN M ρ (S.set k<|.dct l') (upd H a<|.dK kw)/\cI ρ H ρ (upd H a<|.dK kw):=by
 let#[j,f,i]:=st.obj k a _ d h
 show st.put d h #[kw,cg,r.imp λ_ _ q=>q.offK f] λx g=>by rw[f] at g;cases g;show id
def QJ{X:Cx}{m:Pos}(hu:X.A.units+1<cLine)(s:PE X a (tD (md X) f))(Q:PE X b (tD (md X) g))(hv:PE X v (tD (md X) h))(r:autoParam (swapsWith v (some<|.Subscript a b i) m.line X.env=pure false) dO._auto_1):PS X (.Assign [.Subscript a b i] v m) (tS (md X)<|PC f g h):=
 Fp (KE hu s Q hv r) λD σ H Z=>by
  let#[ρ,F,S,o,ok,e,q]:=Z
  let#[#[d,N],e1,e]:=au e
  let#[#[x,M],Y,e]:=au e
  let#[#[y,S3],e3,e]:=au e
  cases x with
  | ref k=>
    dsimp only at e
    split at e
    · rename_i l r
      let#[R,e4,e]:=au e
      split at e
      · rename_i hl
        cases e
        show#[ρ,F,S,d,N,ok,e1,λC v1 H1 J n u=>#[C,F,N,_,M,ok.to J n,Y,λw v2 H2 G B I=>#[w,F,M,y,S3,(ok.to J n).to G B,e3,λW v3 H3 z j P=>?_]]]
        cases vI P e4
        let I:=I.ext z
        let u:=u.ext (G.trans z)
        let p:=(J.trans G).trans z
        cases I with
        | ref s=>
          let#[kv,U,K]:=j.obj k _ _ s r
          let#[t,L]:=j.putKd s r (K.put (k:=R) u)
          show#[_,_,rfl,Ir.k U (by rw[<-K.length];show hl),q _ _ _ (p.trans L) ((ok.to p j).to L t)]
      · cases e
    · cases e
  |_=>cases e
open Classical in
def J6(f:e_)(g:bL):bL:=λh S=>(f h S).bind λ(p,k)=>if p.2.isL=true then(g h k).bind λ(y,d)=>if p.2.stays d p.1 then(xT y).bind λv=>(kF p.1).bind λi=>(rq v i).bind λj=>some (.int (j:Nat),d) else none else none
def Qh{i h:Pos}(ho:PE X o (tQ (md X) f))(ha:PE X e (tD (md X) g))(k:autoParam (attributeBase o "index" X.env (eval o X.env)=eval o X.env) dO._auto_1) (p:autoParam (((backTo h (starEach [e] X.env)).all (λx=> !x.1)&&(backToKw h (keywordEach [] X.env)).all (λx=>x.1.isSome)
   &&decide ([e].length+([]:List Keyword).length+(if ([]:List Keyword).isEmpty then 0 else 1)<30))=true) dO._auto_1)
  (l:autoParam ((i.endLine==h.line)=true) dO._auto_1) (C:autoParam (starEach [e] X.env= [(false,eval e X.env)]) dO._auto_1):PE X (.Call (.Attribute o "index" i) [e] [] h) (tD (md X)<|J6 f g):=
 ko (xC PySem.F.plainAttrs_list PySem.F.slot_list_index PySem.F.type_list_index J_ ho (dA ha jN C) k p l C) λσ H Q qq=>by
  let#[ρ,B,S,d,S',ok,e,q]:=qq
  let#[#[#[U,t],J],e1,e]:=au e
  dsimp only at e
  split at e
  ·rename_i z
   let#[#[y,Z],W,e]:=au e
   dsimp only at e
   split at e
   ·rename_i P
    let#[v,I,e]:=au e
    let#[vs,e4,e]:=au e
    let#[j,L,e]:=au e
    let#[rfl,rfl]:=cH e
    show#[ρ,B,S,U,t,J,ok,e1,λu a us H1 K r A N=>#[.inl #[rfl,us,A.sqL z],u,B,J,[y],Z,ok.to K r,by erw[aq,av,W,Qbq],λR ws H2 G n w=>?_]]
    let#[s,h3,M]:=A.to N G n P
    cases w with
    | cons w Y=>
      cases Y
      cases nN w I
      let#[rfl,f1]:=kB M e4
      show#[a,s,_,j,rfl,rfl,h3.sqL z,rh I,f1,L,q _ _ _ (K.trans G) n<|.int _]
   ·cases e
  ·cases e
def Q8:V->List V->Hp->VK->Prop:=λx g H Q=>∃a b f d,x=.ref a/\g= [.ref b]/\a≠b/\H a=some (.dK f)/\H b=some (.dK d)/\f.length+d.length<=sizeLine/\Q .non (upd H a<|.dK (lD f d))
def Hx:P_ X "dict.update" Q8:=by
 intro n s M H x K v N Q I B A h
 let#[a,b,l,f,rfl,rfl,ab,ha,hb,hz,q]:=h
 cases B
 let#[u,rfl,ru]:=A.one
 cases ru
 let#[z,p,t,g,o]:=Fw I.hok ha
 let#[J,k,r,d,m]:=Fw I.hok hb
 show call_meetsIn PySem.F.slot_dict_update o.typeIs PySem.F.entry_dict_update (PySem.F.args_dict_update_2 _ _) (meets_dict_update (cq X.prog X.w) a b ab k) #[t,r,o,m,by rw[<-g.length,<-d.length];show hz,λy j _ C=>?_]
 have G:∃q,y.get? a=some q:=let ⟨q,_,_,hq,_⟩:=j;#[q,hq]
 let L:=j0 f l
 show#[.non,_,vJ I (by rw[ha];show True.intro) C G<|wx (!0) p (KV.merge d g) j,rfl,q]
noncomputable def KR(f g:bL):bL:=λn S=>(f n S).bind λ(x,h)=>(g n h).bind λ(y,d)=>match x,y with
 | .ref k,.ref j=>if k≠j then match h[k]?,d[k]?,d[j]? with
   |some (.dct _),some (.dct l),some (.dct m)=>if l.length+m.length<=sizeLine then some (.non,d.set k<|.dct (bE l m)) else none
   |_,_,_=>none
   else none
 |_,_=>none
def OV{p h:Pos}(ho:PE X o (tD (md X) f))(B:PE X e (tD (md X) g))(r:autoParam (attributeBase o "update" X.env (eval o X.env)=eval o X.env) dO._auto_1) (w:autoParam (((backTo h (starEach [e] X.env)).all (λx=> !x.1)&&(backToKw h (keywordEach [] X.env)).all (λx=>x.1.isSome)
   &&decide ([e].length+([]:List Keyword).length+(if ([]:List Keyword).isEmpty then 0 else 1)<30))=true) dO._auto_1)
  (s:autoParam ((p.endLine==h.line)=true) dO._auto_1) (Y:autoParam (starEach [e] X.env= [(false,eval e X.env)]) dO._auto_1):PE X (.Call (.Attribute o "update" p) [e] [] h) (tD (md X)<|KR f g):=
 ko (xC PySem.F.plainAttrs_dict PySem.F.slot_dict_update PySem.F.type_dict_update Hx ho (dA B jN Y) r w s Y) λσ H Q qq=>by
  let#[ρ,W,S,d,S',ok,e,q]:=qq
  let#[#[x,N],e1,e]:=au e
  let#[#[y,J],e2,e]:=au e
  cases x with
  | ref k=>
    cases y with
    | ref j=>
      dsimp only at e
      split at e
      · rename_i ne
        cases I:N[k]? with
        |none=>rw[I] at e;cases e
        | some o1=>
          rw[I] at e
          cases o1 with
          | dct l0=>
            cases A:J[k]? with
            |none=>rw[A] at e;cases e
            | some o2=>
              rw[A] at e
              cases o2 with
              | dct l=>
                cases L:J[j]? with
                |none=>rw[L] at e;cases e
                | some o3=>
                  rw[L] at e
                  cases o3 with
                  | dct m=>
                    dsimp only at e
                    split at e
                    · rename_i hl
                      let#[rfl,rfl]:=cH e
                      show#[ρ,W,S,_,N,ok,e1,λG v H1 x1 u r1=>?_]
                      cases r1 with
                      | ref B=>
                        rename_i a
                        let#[K,g0,_]:=u.obj k a _ B I
                        show#[.inr (.inr (.inl #[rfl,.inl #[K,g0]])),G,W,N,[.ref j],J,ok.to x1 u,by erw[aq,av,e2,Qbq],λa0 ws H2 Z n M=>?_]
                        cases M with
                        | cons M rr=>
                          cases rr
                          cases M with
                          | ref P=>
                            rename_i b
                            let t:=dz Z.pre B
                            let#[kv,g1,R]:=n.obj k a _ t A
                            let#[kw,g3,U]:=n.obj j b _ P L
                            have ab:a≠b:=λz=>by subst z;show ne (mK n.nd t P)
                            let#[C,x3]:=n.putKd t A (cN.merge U R)
                            show#[a,b,kv,kw,rfl,rfl,ab,g1,g3,by rw[<-R.length,<-U.length];show hl,q _ _ _ ((x1.trans Z).trans x3) C .non]
                    · cases e
                  |_=>cases e
              |_=>cases e
          |_=>cases e
      · cases e
    |_=>cases e
  |_=>cases e
end DL
namespace L2
open PyProof.Rows
def yd{D:X8}{R:Result->Shared->Prop}(I:Nat->Shared->Prop)
  (F:∀n s,I n s->wpAny (model prog w) A (pyNext it) (λr f=>match r with
   |none=>R (.ok .next) f
   |some v=>wpAny (model prog w) A (letOwnedTupleGo a it v) (λ_ d=>wpAny (model prog w) A (assign a env v) (λ_ l=>
     wpAny (model prog w) A (forIn q true λc r=>if r=true then do let ok<-isTrue c env (eval c env);pure (ForInStep.yield ok) else pure (ForInStep.yield r)) (λok s₃=>
      if ok=true then wpAny (model prog w) A (eval G env) (λx i=>wpAny (model prog w) A (eval H env) (λy j=>
       wpAny (model prog w) A (dictSet D x y) (λ_ k=>∃m,m<n/\I m k) (λ_ _=>False) j) (λ_ _=>False) i) (λ_ _=>False) s₃
      else∃m,m<n/\I m s₃) (λ_ _=>False) l) (λ_ _=>False) d) (λ_ _=>False) f) (λ_ _=>False) s)
  (n:Nat) (h:I n s):codeAny (model prog w) A (.compLoop (.DictComp G H [#[a,o,q,0]] e B) 0 it (.ref D) env) R s:=by
 show codeAny_loop L I (λn s J=>?_) n h
 show wpAny _ A ((compTurn (.DictComp G H [#[a,o,q,0]] e B) 0 it (.ref D) env).onRaise (λx=>do noteFrame x env;theTreesLotGoes x)) _ _ s
 show wpAny_noted ?_
 rw[compTurn_dict]
 show Qaq<|wpAny_standAt<|Qaq (QRq (F n s J) (λr f g=>?_) λ_ _ b=>b.elim)
 cases r with
 |none=>show Qgq g
 | some v=>
   show Qaq (QRq g (λ_ d p=>?_) λ_ _ b=>b.elim)
   show Qaq (QRq p (λ_ l u=>Qaq (QRq u (λok s₃ h₃=>?_) λ_ _ b=>b.elim)) λ_ _ b=>b.elim)
   cases ok with
   |false=>show Qgq #[L,h₃]
   | true=>
     show Qaq<|Qaq (QRq h₃ (λx i t=>Qaq<|QLq (QRq t (λy j z=>Qaq<|wpAny_standAt<|QLq (QRq z (λ_ k C=>Qgq #[L,C]) λ_ _ b=>b.elim)) λ_ _ b=>b.elim)) λ_ _ b=>b.elim)
def ML(J:It)(g:TG)(q:TT)(p o:TE)(Q:VK)(D:X8)(r:St)(H:Hp):Prop:=
 ∃ W:Nat->Nat->St->Hp->Prop,(∃m,W 0 m r H)/\∀i m e f,W i m e f->
   (J.stop i f/\Q (.ref D) f)\/(J.go i f/\∃h:St->Hp->Prop,(∀b d,h b d->∃n,n<m/\W (i+1) n b d)∧
     ∀ x H2,J.yld i f x H2->g x e H2 λa H3=>q a H3 λok H4=>
       if ok=true then p a H4 λk H5=>o a H5 λy j=>∃c l,k=kV l/\j D=some (.dK c)/\c.length<sizeLine/\h a (upd j D (.dK (putK c l y))) else h a H4)
def Iz(js:List (Option Nat))(c:TI)(g:TG)(e:TT)(d b:TE):TE:=λa H Q=>c a H λJ H1=>∀D,H1 D=none->ML J g e d b Q D (lW js a) (upd H1 D<|.dK [])
def Kc{X:Cx}{N:X6}{js:List (Option Nat)}{a:Scope}{cl:List (Str×Addr)}{tg P kx vx G:Expr}{a8:List Expr}{b2 a9:Pos}{wi:TI}{g gt:TG}{tt:TT}{tk tv:TE}
  (S:aL X N js a cl) (hc:X.calm=true) (hi:PI X tg P wi)
  (hg:∀C s H fp,PG (aR X N a cl C s H fp) tg g) (ht:∀C s H fp,qy (aR X N a cl C s H fp) a8 tt) (hk:∀C s H fp,PE (aR X N a cl C s H fp) kx tk) (hv:∀C s H fp,PE (aR X N a cl C s H fp) vx tv) (d8:PG X G gt)
  (hs:autoParam (∀x,foldedSetIterable P X.env x=pure x) ec._auto_1) (d9:autoParam (swapsWithSole [G] (.DictComp kx vx [⟨tg,P,a8,0⟩] a b2) a9.line X.env=pure true) dO._auto_1)
  (h1:autoParam ((assignEach [G] X.env).map (·.2)= [assign G X.env]) dO._auto_1):PS X (.Assign [G] (.DictComp kx vx [#[tg,P,a8,0]] a b2) a9) (Hj (Iz js wi g tt tk tv) gt):=by
 intro Z s σ H Dn I h
 rw[exec_Assign_arm]
 show Qaq<|wpAny_standAt<|Qaq<|wpAny_of_eq d9<|wpAny_ite_true rfl<|Qaq ?_
 rw[h1]
 show wpAny _ _ (do let _<-comprehension _ _ _ _ _ _ _ (some λv=>assignAll v [assign G X.env]);pure ()) _ _ _
 show Qaq ?_
 show wpAny_comprehension_free (use:=some λv=>assignAll v [assign G X.env]) rfl hs S.clos S.kind S.names (di (hi Z s σ H _ I h) λv s1 h1=>di h1 λe5 t h2=>?_)
 let#[it,fp,tn,J,H2,e,F,T,b3,f2,hD]:=h2
 subst e
 show QhQ<|wpAny_newFunctionEnv S.nocell (by intro y hy;simp at hy) (λR M B=>?_) S.kind
 dsimp only at M B|-
 generalize a6:t.heap.push {cls:=.type "dict",data:=.dict (List.toArray [])}=P2 at M B|-
 have hC:P2.objs.size=t.heap.objs.size+1:=by rw[<-a6,Heap.size_push]
 have b5:t.heap.objs.size≠P2.objs.size:=by rw[hC];show Qwq (Nat.lt_succ_self _)
 have a1:t.heap.objs.size<=P2.objs.size:=by rw[hC];show Nat.le_succ _
 have K:∀b,b<t.heap.objs.size->b≠P2.objs.size:=λb f=>by rw[hC];show Qwq (Nat.lt_succ_of_lt f)
 have a0:∀b o,t.heap.get? b=some o->R.get? b=some o:=λb o e=>B.extBut b o (K b<|Qiq e) (Qcq _ (a6▸Qcq _ e))
 have e4:R.get? t.heap.objs.size=some {cls:=.type "dict",data:=.dict (List.toArray [])}:=B.extBut _ _ b5 (Qcq _ (a6▸Qrq _ rfl))
 have nD:H2 t.heap.objs.size=none:=F.fresh
 have nC:H2 P2.objs.size=none:=F.hok.fresh a1
 have b4:∀b∈fp,b<t.heap.objs.size:=λb f=>by
  let#[o,e,_]:=T.obj _ _ b3 b f
  show Qiq e
 let#[W,#[m0,w0],d2]:=hD t.heap.objs.size nD
 have b6:(aR X N a cl P2.objs.size t H2 fp).Ok:=by
  show⟨F.ok.mod,S.kind,F.ok.glob,F.ok.blt,a1,λx y c h1 h2=>F.ok.inj x y c (S.sub x c h1) (S.sub y c h2),S.has,(λx c h=>by cases h),F.ok.hd,F.ok.frames,.inl rfl,
   λb f=>#[K b (b4 b f),λx c h=>(f2 b f).2.2.2.2.1 x c (S.sub x c h)],F.bs,QAq F.ok.bsz F.sz,λb o e f=>?_,λb f z=>?_,F.stack,F.stkFree⟩
  ·rcases(f2 b f).2.2.2.1 with z|z
   ·show F.ok.noex b o e z
   ·show absurd (Qqq (Qqq (Qiq e) F.ok.bsz) z)<|Nat.lt_irrefl _
  ·rcases Qsq.mp (F.stkSub b z) with q|q
   ·show(f2 b f).2.1 q
   ·show(f2 b f).2.2.1 q
 have c5:dF X.prog X.w (upd H2 t.heap.objs.size<|.dK []) R t.heap.objs.size (.dK []):=by
  let#[o,es,ep,e1,e2]:=Heap.DictOf.new (knd:=cq X.prog X.w) t.heap
  show wx (Nat.zero_le _) (beq_eq_false_iff_ne.mpr<|Ne.symm<|Qwq F.big) .nil #[o,es,ep,B.extBut _ _ b5<|Qcq _ (a6▸e1),e2]
 have I4:Inv (aR X N a cl P2.objs.size t H2 fp) [] (lW js σ) (upd H2 t.heap.objs.size<|.dK []) {t with heap:=R,toks:=t.toks+([]:List (Str×Value)).length}:=by
  show#[b6,rfl,F.bare,Un.laid a0 (Qmq _) nD,#[_,M,λi x v h1 h2 h3=>?_],λx c h=>?_,by show upd H2 _ _ P2.objs.size=none;rw[bF b5.symm];show nC,λx c h=>?_,λp hp=>absurd (show p∈([]:List (Addr×Obj)) from hp) (by simp),F.hok.laid a0 (Qmq _) c5,by show(lW js σ).length=N.length;unfold lW;rw[lQm];show S.len]
  ·unfold lW at h2
   rw[gQm] at h2
   cases e:js[i]? with
   |none=>rw[e] at h2;cases h2
   | some o=>
     rw[e] at h2
     cases o with
     |none=>cases h2
     | some j=>
       have a3:σ.getD j none=some v:=QdQ h2
       have hj:σ[j]?=some (some v):=by
         rw[Qlq] at a3
         cases q:σ[j]? with
         |none=>rw[q] at a3;cases a3
         |some y=>rw[q] at a3;show congrArg some a3
       let#[c1,c2,c3]:=S.cap i j x e h1
       let#[m,hn,hl]:=F.loc
       have d7:LZ X.env.scope x:=by
         rcases c2 with z|z
         · show .inr (.inl z)
         · show .inr (.inr z)
       let#[u,r,l]:=hl j x v c1 hj d7
       show#[u,r,.inr #[c3,?_]]
       let#[c,c0]:=S.has x c3
       show#[c,c0,?_]
       rcases l with⟨z,_⟩|⟨_,c',e',z⟩
       · rcases c2 with y|y <;>rw[y] at z <;>cases z
       · rw[S.sub x c c0] at e'
         cases e'
         let#[o,ho,hd]:=z
         show#[o,a0 _ _ ho,hd]
  ·let#[v,o,ho,hd]:=F.cell x c (S.sub x c h)
   show#[v,o,a0 _ _ ho,hd]
  ·let#[v,o,ho,hd]:=F.cell x c (S.sub x c h)
   rw[bF (Qwq<|Qiq ho)]
   show F.freeC x c<|S.sub x c h
 have a2:∀{U:X2} {H':Hp},U= []->(∀b∈fp,H' b=none)->∀b∈fp,t7 (aR X N a cl P2.objs.size t H2 fp) U H' b:=λ{U H'} ep hn b f=>by
  subst ep
  show#[hn b f,K b<|b4 b f,λz=>b6.exfs b f z,.inl f,λx c h=>(f2 b f).2.2.2.2.1 x c (S.sub x c h),λp hp=>absurd (show p∈([]:List (Addr×Obj)) from hp) (by simp)]
 have b0:codeAny (model X.prog X.w) X.A (.compLoop (.DictComp kx vx [⟨tg,P,a8,0⟩] a b2) 0 (.ref it) (.ref t.heap.objs.size) (compEnvC a cl P2.objs.size X.env))
   (compPost (model X.prog X.w) X.A X.xe (some λv=>assignAll v [assign G X.env]) (λ_ s9=>wpAny (model X.prog X.w) X.A (pure ()) (λ_ d3=>wpAny (model X.prog X.w) X.A (pure Flow.next) (SP X Z Dn) X.xe d3) X.xe s9) (.ref t.heap.objs.size) P2.objs.size) {t with heap:=R,toks:=t.toks+([]:List (Str×Value)).length}:=by
  show yd (λn s'=>∃i a4 H',Inv (aR X N a cl P2.objs.size t H2 fp) [] a4 H' s'/\tn i s'.heap/\(∀b∈fp,H' b=none)/\W i n a4 H') ?_ m0
   #[0,_,_,I4,T.keep _ _ _ b3 λb _ o e=>a0 b o e,λb f=>by rw[bF (Qwq<|b4 b f)];show(f2 b f).1,w0]
  rintro n s3 ⟨i,a5,H3,I3,b9,c4,w3⟩
  rcases d2 i n a5 H3 w3 with⟨stop,q⟩|⟨go,Nx,hN,b8⟩
  ·show di (T.done (aR X N a cl P2.objs.size t H2 fp) rfl rfl rfl hc i [] s3 a5 H3 _ I3 (a2 rfl c4) b9 stop) λr s4 Y=>?_
   let#[hr,I5]:=Y
   subst hr
   let#[m,hn,_]:=id I5.loc
   have d5:∀h',Heap.SameBut P2.objs.size s4.heap h'->Inv X Z σ H3 {s4 with heap:=h'}:=by
    intro h' Q
    let u:=I5.base
    have ne:∀b o,t.heap.get? b=some o->b≠P2.objs.size:=λb o e=>K b (Qiq e)
    show F.call' (ch:=fp) I5.os #[λb o e n f hx=>(Q.2 b<|ne b o e).trans (u.keep b o e n f hx),λb o e n f hx=>?_,u.free,λb o e hx=>?_,u.tups,u.frzs,u.tbls] (λb ob e=>?_) I5.bare λb f=>#[(f2 b f).2.2.2.1,(f2 b f).2.1,(f2 b f).2.2.2.2.1,(f2 b f).2.2.2.2.2]
    ·let#[sl,e1]:=u.slot b o e n f hx
     show#[sl,(Q.2 b<|ne b o e).trans e1]
    ·let#[o',e1]:=u.there b o e hx
     show#[o',(Q.2 b<|ne b o e).trans e1]
    ·show(I5.hok b ob e).stay (λc w' hc q=>(Q.2 c ?_).trans q) (λ_ q=>q) λ_ _ q=>q
     have fC:H3 P2.objs.size=none:=I5.free
     rintro rfl
     rcases hc with z|z
     ·rw[<-z,fC] at e;cases e
     ·rw[fC] at z;cases z
   let IX:=d5 s4.heap #[rfl,λ_ _=>rfl]
   have a7:t7 X Z H3 P2.objs.size:=F.fpOk a1 I5.free
   let#[oC,es,ep,d1,xP,d4]:=hn
   let IP:=IX.pinned (fp:= [P2.objs.size]) (λb f=>by rw[Qfq] at f;rw[f];show a7) (λb f=>by rw[Qfq] at f;rw[f];show#[oC,d1,λv=>by rw[xP];simp])
   show wpAny _ _ (assignAll (.ref t.heap.objs.size) [assign G X.env]) _ _ _
   rw[assignAll.eq_2]
   show di (d8 _ s4 σ H3 (.ref t.heap.objs.size) (.ref t.heap.objs.size) _ IP rfl q) λ_ s6 Y=>?_
   let#[L,H6,I6,q6]:=Y
   let pC:=I6.pin (P2.objs.size,oC) (Qoq _<|Qoq _<|eg (Qfq.mpr rfl) d1)
   show#[m,#[oC,es,ep,pC.1,xP,d4],λh' Q=>Qgq<|Qgq #[L,H6,?_,q6]]
   show I6.unpinned.turned (it:=P2.objs.size) (t':=s6.toks) (λb o' f e=>(Q.2 b f).trans e) pC.2.1 pC.2.2.1 a7.2.2.2.1 a7.2.2.2.2.1 a7.2.2.2.2.2
  ·show di (T.item (aR X N a cl P2.objs.size t H2 fp) rfl rfl rfl hc i [] s3 a5 H3 _ I3 (a2 rfl c4) b9 go) λr s4 Y=>?_
   let#[u,hr,h4]:=Y
   subst hr
   show di h4 λ_ s5 Y=>?_
   let#[x,H5,I5,r5,y5,b1,d6]:=Y
   let e3:=I5.pinned (a2 rfl d6) (T.obj _ _ b1)
   show di (hg P2.objs.size t H2 fp _ s5 a5 H5 x u _ e3 r5<|b8 x H5 y5) λ_ s6 Y=>?_
   let#[L,H6,I6,q6]:=Y
   show di (ht P2.objs.size t H2 fp _ s6 L H6 _ I6 q6) λok s7 Y=>?_
   let#[H7,I7,q7]:=Y
   have again:∀{s8:X4} {H8:Hp},Inv (aR X N a cl P2.objs.size t H2 fp) ([]++qJ fp s5.heap) L H8 s8->Nx L H8->∃m,m<n/\∃i a4 H',Inv (aR X N a cl P2.objs.size t H2 fp) [] a4 H' s8/\tn i s8.heap/\(∀b∈fp,H' b=none)/\W i m a4 H':=λ{s8 H8} I8 n8=>by
    let#[m',hm,w8]:=hN L H8 n8
    show#[m',hm,i+1,L,H8,I8.unpinned,T.keep _ _ _ b1 λb f o e=>(I8.pin (b,o)<|Qoq _<|Qoq _<|eg f e).1,λb f=>?_,w8]
    let#[o,e,d]:=T.obj _ _ b1 b f
    show(I8.pin (b,o)<|Qoq _<|Qoq _<|eg f e).2.1
   cases ok with
   |false=>show again I7 q7
   | true=>
     show di (hk P2.objs.size t H2 fp _ s7 L H7 _ I7 q7) λkv s8 Y=>?_
     let#[k,H8,I8,rk,q8]:=Y
     show di (hv P2.objs.size t H2 fp _ s8 L H8 _ I8 q8) λyv s9 Y=>?_
     let#[y,H9,I9,ry,e0,ky,ek,hx,hl,n9]:=Y
     subst ek
     let#[z,hd,vs,c6,dd]:=Fw I9.hok hx
     show wpAny_dictSet_pairs (Dr rk) dd (λh' b7 Q=>?_) (by rw[<-c6.length];show z)
     have he:∃q,h'.get? t.heap.objs.size=some q:=let ⟨q,_,_,hq,_⟩:=b7;#[q,hq]
     let e6:=jH e0 ky y
     show again (vJ I9 (by rw[hx];show True.intro) Q he<|wx (!0) hd (c6.put ky ry) b7) n9
 show codeAny_compStart_dict b0<|T.self _ 0 _ _ _ (T.keep _ _ _ b3 λb _ o e=>a0 b o e) b0
end L2
namespace DL
open PyProof.Rows L2
theorem gN.offK(st:gN M ρ S H)(f:H b=some (.dK c))(n:b∉ρ):gN M ρ S (upd H b o):=⟨st.len,st.nd,λk a p i l=>by
 let q:=st.obj k a p i l
 have h:a≠b:=λz=>n (z▸mQg i)
 cases p with
 |lst m=>let#[g,d,e]:=q;show#[g,by rw[bF h];show d,e.offK f]
 |frz m=>let#[g,o,d,e]:=q;show#[g,o,by rw[bF h];show d,e.offK f]
 |dct j=>let#[s,d,e]:=q;show#[s,by rw[bF h];show d,e.imp λ_ _ r=>r.offK f]⟩
def En.offK(h:En M ρ H a e)(j:H b=some (.dK c)):En M ρ (upd H b o) a e:=#[h.len,λi d q=>by let#[v,g,f]:=h.get i d q;show#[v,g,f.offK j]]
open Classical in
def j8(g:oM)(t:ke)(b c:bL)(W:aE->Prop):List D->cG->aE->List (Key×D)->Option (List (Key×D)×aE)
 | [],Γ,S,acc=>if W S then some (acc,S) else none
 |d ::ds,Γ,S,acc=>if W S then(g d Γ S).bind λ(a,j)=>(t a j).bind λ(k,e)=>
    if k=true then(b a e).bind λ(x,f)=>(c a f).bind λ(y,i)=>(yl x).bind λh=>if acc.length<sizeLine then j8 g t b c W ds a i (putD acc h y) else none
    else j8 g t b c W ds a e acc
  else none
def sN(js:List (Option Nat))(i:yu)(g:oM)(t:ke)(b d:bL):cG->aE->Option (List (Key×D)×aE):=λa S=>(i a S).bind λ(p,c)=>j8 g t b d p.2 p.1 (qz js a) c []
def LF{Q:VK}(ok:Ok M ρ Γ S σ H)(e:sN js i g t fk fv Γ S=some (l,S'))
  (q:∀b a kv f,cI ρ H b f->gN M b S' f->H a=none->a∉b->f a=some (.dK kv)->cN M b f l kv->Q (.ref a) f):Iz js (tI M i) (tG M g) (tB M t) (tD M fk) (tD M fv) σ H Q:=by
 let#[#[#[n,W],S1],e1,e]:=au e
 show#[ρ,Γ,S,n,W,S1,ok,e1,λo J H1 x1 Y wk D R=>?_]
 have n1:D∉o:=dM x1 Y R
 have a1:Ok M o (qz js Γ) S1 (lW js σ) (upd H1 D<|.dK []):=#[((ok.en.ext x1).ext (cI.laid R)).sig js,Y.lay R]
 show⟨λi m F f=>m=n.length-i/\i<=n.length/\∃d B U c j,cI o H1 d f/\Ok M d B U F f/\D∉d/\f D=some (.dK j)/\cN M d f c j/\j8 g t fk fv W (n.drop i) B U c=some (l,S'),
  #[n.length,by simp,Nat.zero_le _,o,_,S1,[],[],cI.laid R,a1,n1,cg,rfl,e],?_⟩
 rintro i m b3 H2 ⟨rfl,hi,d,B,U,c,j,x2,ok2,n2,hD2,racc,e2⟩
 by_cases L:i<n.length
 ·have hd:n[i]?=some n[i]:=gQe L
  rw[QWq L] at e2
  unfold j8 at e2
  split at e2
  ·rename_i w
   let#[w1,w2]:=wk i d U H2 x2 ok2.st w
   let#[go,a3]:=w1 _ hd
   show .inr ⟨go,λF f=>∃b A C c j,cI o H1 b f/\Ok M b A C F f/\D∉b/\f D=some (.dK j)/\cN M b f c j/\j8 g t fk fv W (n.drop (i+1)) A C c=some (l,S'),
    λF f ⟨b,A,C,c,j,h1,h2,h3,h4,h5,h6⟩=>#[n.length-(i+1),by omega,rfl,L,b,A,C,c,j,h1,h2,h3,h4,h5,h6],λx H3 hy=>?_⟩
   let#[x3,a4,r3]:=a3 x H3 hy
   let#[#[h,S4],e4,e5]:=au e2
   show#[d,B,U,_,h,S4,ok2.to x3 a4,r3,e4,λa6 b2 H4 x4 p=>?_]
   let#[#[k,S5],e6,e7]:=au e5
   show#[a6,h,S4,k,S5,p,e6,λZ H5 X I=>?_]
   let u:=(x3.trans x4).trans X
   have G:∀{b f},cI d H2 b f->f D=some (.dK j)/\D∉b:=λ{b f} x=>#[x.keep _ _ hD2<|.inl n2,λm=>(x.new _ m).elim n2 λz=>by rw[z] at hD2;cases hD2]
   dsimp only at e7|-
   split at e7
   ·rename_i ck
    rw[Qhq ck]
    let#[#[kx,S6],e8,e9]:=au e7
    let#[#[y,S7],a8,b0]:=au e9
    let#[kk,a9,K]:=au b0
    show#[Z,h,S5,kx,S6,p.to X I,e8,λa0 kv H6 x6 a5 r6=>#[a0,h,S6,y,S7,(p.to X I).to x6 a5,a8,λa2 v H7 x7 a7 r7=>?_]]
    let N:=(u.trans x6).trans x7
    let#[s,n7]:=G N
    let P:=racc.ext' N
    split at K
    ·rename_i cl
     show#[j,kk,vI r6 a9,s,by rw[<-racc.length];show cl,a2,h,S7,putD c kk y,_,(x2.trans N).off R _,#[(((p.en.ext X).ext x6).ext x7).offK s,a7.offK s n7],n7,cg,(P.put r7).imp λ_ _ r=>r.offK s,K]
    ·cases K
   ·rename_i ck
    rw[Quq ck]
    let#[b1,n5]:=G u
    show#[Z,h,S5,c,j,x2.trans u,p.to X I,n5,b1,racc.ext' u,e7]
  ·cases e2
 ·have e3:i=n.length:=by omega
  subst e3
  rw[List.drop_length] at e2
  unfold j8 at e2
  split at e2
  ·rename_i w
   let#[rfl,rfl]:=cH e2
   let#[w1,w2]:=wk n.length d U H2 x2 ok2.st w
   show .inl #[w2 rfl,q d D j H2 (x1.trans x2) ok2.st (x1.grow _ R) n2 hD2 racc]
  ·cases e2
noncomputable def Pm(n:Nat)(f:cG->aE->Option (List (Key×D)×aE)):cJ:=λb S=>(f b S).bind λ(l,a)=>some (.nx (b.set n<|some<|.ref a.length) (a++ [.dct l]))
def LI{j:Pos}
  (S:aL X N js d r) (hc:X.calm=true) (hi:PI X tg f (tI (md X) i))
  (J:∀C s H fp,PG (aR X N d r C s H fp) tg<|tG (md X) g) (ht:∀C s H fp,qy (aR X N d r C s H fp) m<|tB (md X) t) (K:∀C s H fp,PE (aR X N d r C s H fp) u<|tD (md X) A) (hv:∀C s H fp,PE (aR X N d r C s H fp) v<|tD (md X) I) (w:PG X h (rZ n))
  (W:autoParam (∀x,foldedSetIterable f X.env x=pure x) ec._auto_1) (z:autoParam (swapsWithSole [h] (.DictComp u v [⟨tg,f,m,0⟩] d c) j.line X.env=pure true) dO._auto_1)
  (L:autoParam ((assignEach [h] X.env).map (·.2)= [assign h X.env]) dO._auto_1):PS X (.Assign [h] (.DictComp u v [#[tg,f,m,0]] d c) j) (tS (md X)<|Pm n<|sN js i g t A I):=
 Fp (Kc S hc hi J ht K hv w W z L) λD σ H R=>by
  let#[U,Γ,S,o,ok,e,q]:=R
  let#[#[l,S1],Z,e]:=au e
  cases e
  show LF ok Z λk a Y G x F M Q ha P=>?_
  let y:=F.box (o:=.dct l) Q #[Y,ha,P.pre'<|List.prefix_append k [a]]
  have B:cI U H (k++ [a]) G:=⟨x.pre.trans (List.prefix_append _ _),λb p=>by
   rcases mQa.mp p with p|p
   ·show x.new b p
   ·rw[Qfq] at p;subst p;show .inr M,x.keep,x.grow⟩
  show q (k++ [a]) _ G B #[((ok.en.ext B).set (.ref ?_)),y]
  rw[<-F.len,QQq (Qmq _)]
  simp
end DL
namespace Zp
open PySem PySem.W PyProof.Rows
noncomputable def kD(a:Nat->Nat->Bool):KasT (Array Nat)->Array Nat
 |.ret p=>p
 |.ask i j k=>kD a (k<|a i j)
theorem jr(a:Nat->Nat->Bool):∀t:KasT (Array Nat),kD a t∈sE t
 |.ret p=>by simp[kD,sE]
 | .ask i j k=>by
   unfold kD sE
   cases a i j with
   |true=>show List.mem_append_left _ (jr a<|k true)
   |false=>show Qoq _ (jr a<|k false)
theorem Af{a:Nat->Nat->(Bool->Shared->Prop)->Shared->Prop}{Q:Array Nat->Shared->Prop}{b:Nat->Nat->Bool}(c:∀i j C,i<n->j<n->i≠j->C (b i j) s->a i j C s):
  ∀t:KasT (Array Nat),xB n t=true->Q (kD b t) s->t.kasWp a Q s
 |.ret p,_,h=>h
 | .ask i j k,ha,h=>by
   erw[xB,QCq,decide_eq_true_eq] at ha
   let#[#[#[#[g,d],m],f],l]:=ha
   show c i j _ g d m ?_
   cases e:b i j with
   |true=>show Af c (k true) f (by unfold kD at h;rw[e] at h;show h)
   |false=>show Af c (k false) l (by unfold kD at h;rw[e] at h;show h)
noncomputable def NW(fs:X6)(i j:Nat):Bool:=decide ((fs.getD i "").cps.toList<(fs.getD j "").cps.toList)
noncomputable def sortBy(fs:X6)(d:α)(xs:List α):List α:=if xs.length<2 then xs else(kD (NW fs)<|kas_sort xs.length).toList.map λi=>xs.getD i d
def fI(fs:X6)(xs:List α)(h:xs.length<=3):(sortBy fs d xs).Perm xs:=by
 unfold sortBy
 split
 ·show List.Perm.refl _
 ·rename_i b
  let#[_,a]:=vB xs.length h (!0)
  have c:(kD (NW fs)<|kas_sort xs.length).toList.Perm (List.range xs.length):=List.isPerm_iff.mp (QUq.mp a _<|jr _ _)
  have e:(List.range xs.length).map (λi=>xs.getD i d)=xs:=by
   apply List.ext_getElem
   ·simp
   ·intro i f b
    simp[Qlq,b]
  have:=c.map λi=>xs.getD i d
  rw[e] at this
  show this
def D4{E:X0}{s:X4}{vs:X5}{P:PySem.Fin->Shared->Prop}(H:s.heap.get? a=some (seqObj "list" vs.toArray n))(h3:vs.length<=3)(ht:fE s.heap vs fs)(hd:fs.Nodup)
  (q:∀K:Array Value,K.toList=sortBy fs Value.none vs->P (.done (.ret .none)) {s with heap:=sortedHeap s.heap a vs K}):wpAny (model prog w) A (Builtin.«list.sort» ⟨[.ref a],[]⟩) P E s:=by
 rw[list_sort_plain]
 have ha:a<s.heap.objs.size:=Qiq H
 show Qaq<|listItems_at H rfl<|Qaq<|listUpdate_at H rfl ?_ (by rw[Qjq,sizeLine_eq];omega)<|Nat.zero_le _
 obtain⟨S,I⟩:∃S,(s.heap.update a (Obj.mapSeq λ_=> (List.toArray []))).get? a=some (seqObj "list" (List.toArray []) S):=#[_,get?_update_seq H (λ_=> (List.toArray []))]
 show Qaq<|seqEpoch_at I rfl<|Qaq<|wpAny_newTuple ?_ (by show vs.length<=_;rw[sizeLine_eq];omega)
 show Qaq<|wpAny_newList (QLq ?_)<|Nat.zero_le _
 have h:(((s.heap.update a (Obj.mapSeq λ_=> (List.toArray []))).push (seqObj "tuple" vs.toArray 0)).push (seqObj "list" (List.toArray []) 0)).get? a=some (seqObj "list" (List.toArray []) S):=Qcq _ (Qcq _ I)
 have u:fE (((s.heap.update a (Obj.mapSeq λ_=> (List.toArray []))).push (seqObj "tuple" vs.toArray 0)).push (seqObj "list" (List.toArray []) 0)) vs fs:=ht.keep λb o e c=>by
  have nb:b≠a:=λz=>by rw[z,H] at e;cases e;simp[seqObj] at c
  show Qcq _<|Qcq _ (by rw[Heap.get?_update_ne _ _ _ _ nb];show e)
 show(?_:wpAny (model prog w) A _ P E {s with heap:=((s.heap.update a (Obj.mapSeq λ_=> (List.toArray []))).push (seqObj "tuple" vs.toArray 0)).push (seqObj "list" (List.toArray []) 0)})
 dsimp only
 by_cases F:vs.toArray.size<2
 ·rw[Qhq F,Qhq F]
  show Qaq<|Qgq ?_
  rw[StateT.run_pure]
  show Qaq<|Qgq ?_
  dsimp only
  have e2:((vs.toArray.zip vs.toArray).map (·.2))=vs.toArray:=by
   apply Array.toList_inj.mp
   simp
   show List.map_snd_zip<|Qmq _
  show Qaq (seqEpoch_at h rfl (Qaq (listUpdate_at h rfl ?_ (hsz2:=by
   show QAq (Nat.le_of_eq<|congrArg Array.size e2) ?_
   rw[Qjq,sizeLine_eq]
   omega))))
  erw[bne_self_eq_false,Bool.false_eq_true,if_false]
  show Qgq ?_
  have:=q vs.toArray (by unfold sortBy;rw[Qhq (by simpa using F)])
  rw[<-e2] at this
  show this
 ·rw[Quq F,Quq F]
  have hn:2<=vs.length:=by simpa using F
  let#[gs,kt,lg,mg]:=u.firsts
  let lf:=ht.len
  show Qaq<|kat_kind (T:=.type "str") kt (!0) (λv hv=>?_) rfl ?_
  ·let#[x,t,rfl]:=mg v hv
   show .now
  let#[ok,perm]:=vB vs.length h3 hn
  have X:SortSt.mk' (tuples' true) (vs.toArray.zip vs.toArray) (List.toArray []) 7 none=kas_st (tuples' true) (pairsOf vs) (List.toArray<|List.range vs.length):=by
   let e:=kas_range (pairsOf vs)
   rw[pairsOf_size] at e
   show(?_:SortSt.mk' (tuples' true) (pairsOf vs) (List.toArray []) 7 none=SortSt.mk' (tuples' true) ((List.toArray<|List.range vs.length).map (kas_item<|pairsOf vs)) (List.toArray []) 7 none)
   rw[e]
  show(?_:wpAny (model prog w) A (StateT.run sortRuns' (SortSt.mk' (tuples' true) (vs.toArray.zip vs.toArray) (List.toArray []) 7 none) >>= _) P E _)
  rw[X]
  let R:=kas_runs (prog:=prog) (w:=w) (A:=A) (E:=E) (κ:=tuples' true) (it:=pairsOf vs) (n:=vs.length)
   (s:={s with heap:=((s.heap.update a (Obj.mapSeq λ_=> (List.toArray []))).push (seqObj "tuple" vs.toArray 0)).push (seqObj "list" (List.toArray []) 0)})
   (G:=λp J=>p=kD (NW fs) (kas_sort vs.length)/\J={s with heap:=((s.heap.update a (Obj.mapSeq λ_=> (List.toArray []))).push (seqObj "tuple" vs.toArray 0)).push (seqObj "list" (List.toArray []) 0)})
   (Q:=λ_ f J=>J={s with heap:=((s.heap.update a (Obj.mapSeq λ_=> (List.toArray []))).push (seqObj "tuple" vs.toArray 0)).push (seqObj "list" (List.toArray []) 0)}/\failedOf f=none/\∃p,p=kD (NW fs) (kas_sort vs.length)/\arrOf f=p.map (kas_item<|pairsOf vs))
   hn (!0) (λp' f J a1 a2 a3 a4=>#[a4.2,a3,p',a4.1,a2]) (Af (n:=vs.length) (λi j C hi hj U hC=>?_) _ ok #[rfl,rfl])
  ·show Qaq (QRq R ?_ λ_ _ e=>e)
   rintro⟨⟨⟩,f⟩ J ⟨rfl,hf,p,hp,har⟩
   dsimp only
   have l:((arrOf f).map (·.2)).toList=sortBy fs Value.none vs:=by
    unfold sortBy
    rw[Quq (!0),har,Array.map_map,Array.toList_map,hp]
    show List.map_congr_left λk _=>?_
    show(kas_item (pairsOf vs) k).2=_
    rw[kas_item_eq]
   let g:=fI (d:=Value.none) fs vs h3
   have N:((arrOf f).map (·.2)).size=vs.length:=by
    have:=congrArg List.length l
    rw[g.length_eq] at this
    simpa using this
   show Qaq (seqEpoch_at h rfl (Qaq (listUpdate_at h rfl ?_ (hsz2:=by
    show QAq (Nat.le_of_eq N) ?_
    rw[sizeLine_eq]
    omega))))
   rw[hf]
   erw[bne_self_eq_false,Bool.false_eq_true,if_false]
   show Qgq<|q _ l
  ·unfold kas_cmp
   rw[kas_item_eq,kas_item_eq]
   let#[x,ox,xs,nx,tx,ex,gx,dx,Z]:=u.get (i:=i) (!0)
   let#[y,oy,ys,ny,ty,ey,gy,dy,fy]:=u.get (i:=j) (!0)
   dsimp only
   rw[ex,ey]
   have L:¬fs.getD i ""=fs.getD j "":=λz=>by
    have m:i<fs.length:=by omega
    have B:j<fs.length:=by omega
    rw[Qlq,Qlq,gQe m,gQe B] at z
    have z':fs[i]=fs[j]:=z
    rcases Nat.lt_or_gt_of_ne U with W|W
    ·show List.pairwise_iff_getElem.mp hd i j m B W z'
    ·show List.pairwise_iff_getElem.mp hd j i B m W z'.symm
   show kat_lt gx dx gy dy ?_
   obtain⟨xr,Y⟩:∃r,xs.toList=.str (fs.getD i "") tx::r:=by
    cases e:xs.toList with
    |nil=>have:=congrArg (·[0]?) e;simp[Z] at this
    |cons v r=>have:=congrArg (·[0]?) e;simp[Z] at this;show⟨r,by rw[Qlq,this]⟩
   obtain⟨yr,M⟩:∃r,ys.toList=.str (fs.getD j "") ty::r:=by
    cases e:ys.toList with
    |nil=>have:=congrArg (·[0]?) e;simp[fy] at this
    |cons v r=>have:=congrArg (·[0]?) e;simp[fy] at this;show#[r,by rw[Qlq,this]]
   rw[Y,M,List.zip_cons_cons]
   show kat_cons<|wpAny_eqBool_str ?_
   rw[Qdq L]
   show kat_no<|oneLt_str hC
def Ax{E:X0}{s:X4}{vs:X5}{Q:X0}(j:s.heap.IsList l vs.toArray)(k:vs.length<=3)(ht:fE s.heap vs fs)(g:fs.Nodup)
  (q:∀a:Array Value,a.toList=sortBy fs Value.none vs->Q (.ref (s.heap.objs.size+1)) {s with heap:=sortedAll s.heap vs a}):wpAny (model prog w) A (call (.builtin "sorted") [.ref l]) Q E s:=by
 show Calls.call_function_entry kind_sorted plain_sorted entry_sorted (args_sorted1 _) ?_
 unfold Builtin.«sorted»
 show Qaq (m:=checkCount "sorted" 1 1 _)<|Qgq<|Qaq<|collect_list j (Qaq<|wpAny_newList ?_ (by rw[sizeLine_eq];omega)) (by rw[sizeLine_eq];omega)
 have f:((s.heap.push (seqObj "list" (List.toArray []) 0)).update s.heap.objs.size (Obj.mapSeq (·++vs.toArray))).objs.size=s.heap.objs.size+1:=by rw[Heap.size_update,size_push']
 have d:(((s.heap.push (seqObj "list" (List.toArray []) 0)).update s.heap.objs.size (Obj.mapSeq (·++vs.toArray))).push (seqObj "list" vs.toArray 0)).get? (s.heap.objs.size+1)=some (seqObj "list" vs.toArray 0):=by
  rw[<-f]
  show Qrq _ L
 have c:fE (((s.heap.push (seqObj "list" (List.toArray []) 0)).update s.heap.objs.size (Obj.mapSeq (·++vs.toArray))).push (seqObj "list" vs.toArray 0)) vs fs:=ht.keep λb o e _=>by
  have h:b<s.heap.objs.size:=Qiq e
  show Qcq _ ?_
  rw[Heap.get?_update_ne _ _ _ _ (Qwq h)]
  show Qcq _ e
 show(?_:wpAny _ _ _ _ _ {s with heap:=((s.heap.push (seqObj "list" (List.toArray []) 0)).update s.heap.objs.size (Obj.mapSeq (·++vs.toArray))).push (seqObj "list" vs.toArray 0)})
 rw[f]
 show Qaq<|QLq<|wpAny_call_entry slot_list_sort #[_,d,rfl] entry_list_sort (D4 d k c g λa i=>#[_,L,?_])<|args_list_sort _
 show Qgq #[_,L,q a i]
end Zp
namespace L2
open PyProof.Rows
def K7(K:X1):List V->Hp->VK->Prop:=λd H Q=>∃(a:X8) (b:X7) (c:X6),d= [.ref a]/\jm K H a (b.map V.ref)/\b.length<=3/\yW H b c/\c.Nodup/\∀(l:X8),H l=none->Q (.ref l) (upd H l<|.lst ((Zp.sortBy c 0 b).map V.ref))
def yA:kM X (.builtin "sorted") (K7 X.K):=by
 intro l s F H C G Q I r h
 let#[a,c,g,rfl,ha,h3,hF,hd,q]:=h
 let#[u,rfl,rx]:=vals1 r
 cases (show u=Value.ref a from rx)
 let#[n,p,w,B]:=I.list ha
 cases yD p
 have j:s.heap.objs.size<=s.heap.objs.size+1:=Nat.le_succ _
 show Zp.Ax w.isList (by simpa using h3) (Dd I hF) hd λd t=>?_
 have y:d.toList=(Zp.sortBy g 0 c).map Value.ref:=by
  rw[t]
  unfold Zp.sortBy
  rw[lQm]
  split
  ·rfl
  ·rename_i A
   rw[QPq]
   let#[_,k]:=Zp.vB c.length h3 (!0)
   have f:(Zp.kD (Zp.NW g)<|PySem.W.kas_sort c.length).toList.Perm (List.range c.length):=List.isPerm_iff.mp (QUq.mp k _<|Zp.jr _ _)
   show List.map_congr_left λi x=>?_
   have v:i<c.length:=List.mem_range.mp (f.mem_iff.mp x)
   show(c.map Value.ref).getD i Value.none=Value.ref (c.getD i 0)
   rw[Qlq,Qlq,gQm,gQe v]
   rfl
 let#[e,z]:=sortedAll_at s.heap (c.map Value.ref) d
 show#[.ref (s.heap.objs.size+1),_,I.laid (a:=s.heap.objs.size+1) (o:=.lst ((Zp.sortBy g 0 c).map V.ref)) (h':=sortedAll s.heap (c.map Value.ref) d) (t':=s.toks) (λb o m=>sortedAll_old m) j #[?_,d.toList,e,?_,?_],L,q _<|I.hok.fresh j]
 ·rw[lQm,(Zp.fI g c h3).length_eq]
  show QAq h3 (!1)
 ·have:=wG (Zp.sortBy g 0 c)
  rw[<-y] at this
  show this
 ·simpa using z
end L2
namespace DL
open PyProof.Rows L2
def yS(a b:Str):Prop:=¬(b.cps.toList<a.cps.toList)
instance(a b:Str):Decidable (yS a b):=by unfold yS;infer_instance
def Gy(a b:Str):yS a b\/yS b a:=by
 by_cases h:b.cps.toList<a.cps.toList
 ·show .inr λc=>List.lt_asymm h c
 ·show .inl h
def yX(e:yS a b)(d:yS b c):yS a c:=by
 unfold yS at *
 rw[List.not_lt] at *
 show List.le_trans e d
def Jo(c:yS a b)(d:yS b a):a=b:=by
 unfold yS at *
 rw[List.not_lt] at *
 have:=List.le_antisymm c d
 cases a
 cases b
 erw[Str.mk.injEq]
 show Array.toList_inj.mp this
noncomputable def DG(x:Str):List Str->List Str
 | []=> [x]
 |y::r=>if yS x y then x::y::r else y::DG x r
noncomputable def t_:List Str->List Str
 | []=> []
 |x::r=>DG x (t_ r)
theorem t6(x:Str):∀l:List Str,(DG x l).Perm (x::l)
 | []=>List.Perm.refl _
 | y::r=>by
   unfold DG
   split
   · show List.Perm.refl _
   · show((t6 x r).cons y).trans (List.Perm.swap _ _ _)
theorem jW:∀l:List Str,(t_ l).Perm l
 | []=>List.Perm.refl _
 |x::r=>(t6 x _).trans ((jW r).cons x)
theorem uj:∀{l:X6},l.Pairwise yS->(DG x l).Pairwise yS
 | [],_=>by simp[DG]
 | y::r,h=>by
   rw[List.pairwise_cons] at h
   unfold DG
   split
   · rename_i c
     show List.pairwise_cons.mpr #[λz a=>?_,List.pairwise_cons.mpr h]
     rcases Qsq.mp a with rfl|a
     · show c
     · show yX c<|h.1 z a
   · rename_i c
     show List.pairwise_cons.mpr #[λz a=>?_,uj h.2]
     rcases Qsq.mp ((t6 x r).mem_iff.mp a) with rfl|a
     · show(Gy _ _).resolve_left c
     · show h.1 z a
theorem pw:∀l:List Str,(t_ l).Pairwise yS
 | []=>List.Pairwise.nil
 |x::r=>uj (pw r)
def zQ:∀{l:X6},sortedS l=true->l.Pairwise yS
 | [],_=>List.Pairwise.nil
 | x::r,h=>by
   have e:∀(r:X6) (x:Str),risingS x r=true->(x::r).Pairwise yS:=by
     intro r
     induction r with
     |nil=>intro x _;simp
     | cons y r d=>
       intro x h
       unfold risingS at h
       erw[QCq] at h
       let c:=d y h.2
       have b:yS x y:=by
         have:=h.1
         unfold yS
         rw[ltCps_eq] at this
         simpa using this
       show List.pairwise_cons.mpr #[λz a=>?_,c]
       rcases Qsq.mp a with rfl|a
       · show b
       · show yX b ((List.pairwise_cons.mp c).1 z a)
   show e r x h
def Gq(h:sortedS c=true)(p:c.Perm ss):c=t_ ss:=
 List.Perm.eq_of_pairwise (le:=yS) (λa b _ _ e d=>Jo e d) (zQ h) (pw ss) (p.trans (jW ss).symm)
end DL
namespace L2
open PyProof.Rows
end L2
namespace DL
open L2
noncomputable def yL:List D->Option (List Str)
 | []=>some []
 |.str x::r=>(yL r).bind λc=>some (x::c)
 |_::_=>none
theorem CS:∀{ds:List D} {vs:List V} {xs:X6},bt M ρ H ds vs->yL ds=some xs->vs=xs.map V.str
 | [],_,_,h,e=>by cases h;cases e;rfl
 | d::ds,_,_,h,e=>by
   cases d with
   | str b=>
     erw[yL] at e
     let#[f,c,e]:=au e
     cases e
     cases h with
     | cons h g=>
       cases h
       rw[CS g c]
       rfl
   |_=>cases e
theorem zc:∀ss:List Str,bt M ρ H (ss.map D.str) (ss.map V.str)
 | []=>.nil
 |s::ss=>.cons (.str s) (zc ss)
noncomputable def Fq(f:e_):iD:=λg S=>(f g S).bind λ(p,d)=>if p.2.isL=true then(yL p.1).bind λc=>if c.length<64 then some ((t_ c).map D.str,d) else none else none
def On(s:Gl X "sorted")(F:X.mg "sorted"=none)(I:PE X a (tQ (md X) f))(i:autoParam (starEach [a] X.env= [(false,eval a X.env)]) dO._auto_1):
  PE X (.Call (.Name "sorted" p) [a] [] j) (tL (md X)<|Fq f):=
 ko (kI zA s F PyProof.Rows.boot_sorted (eB I gX i) (he:=i)) λL H Q A=>by
  let#[B,C,S,d,M,ok,e,q]:=A
  let#[#[#[w,t],J],G,e]:=au e
  dsimp only at e
  split at e
  ·rename_i c
   let#[n,y,e]:=au e
   split at e
   ·rename_i z
    let#[rfl,rfl]:=cH e
    show#[B,C,S,w,t,J,ok,G,λo a K N x k h r=>#[a,n,rfl,?_,z,λl u g v m=>?_]]
    ·rw[<-CS r y];show h.sqL c
    ·cases Gq v m
     show q _ _ _ _ (x.trans<|cI.laid g) (k.lay g) (x.grow _ g) (dM x k g) cg<|zc _
   ·cases e
  ·cases e
noncomputable def ub:List D->Option (List Str)
 | []=>some []
 |.tup (.str x::_)::r=>(ub r).bind λc=>some (x::c)
 |_::_=>none
theorem Cu:∀{ds:List D} {vs:List V} {xs:X6},bt M ρ H ds vs->ub ds=some xs->∃rs:List Addr,vs=rs.map V.ref/\yW H rs xs
 | [],_,_,h,e=>by cases h;cases e;show#[[],L,.nil]
 | .tup (.str x::us)::r,_,_,h,e=>by
   erw[ub] at e
   let#[f,d,e]:=au e
   cases e
   cases h with
   | cons h g=>
     cases h with
     | tup h c=>
       let#[rs,rfl,F]:=Cu g d
       cases c with
       | cons i c=>
         cases i
         show#[_::rs,L,.cons h F]
 |.tup (.non::_)::_,_,_,_,e=>by cases e
 |.tup (.bl _::_)::_,_,_,_,e=>by cases e
 |.tup (.int _::_)::_,_,_,_,e=>by cases e
 |.tup (.tup _::_)::_,_,_,_,e=>by cases e
 |.tup (.ref _::_)::_,_,_,_,e=>by cases e
 |.tup (.fn _::_)::_,_,_,_,e=>by cases e
 |.tup []::_,_,_,_,e=>by cases e
 |.non::_,_,_,_,e=>by cases e
 |.bl _::_,_,_,_,e=>by cases e
 |.int _::_,_,_,_,e=>by cases e
 |.str _::_,_,_,_,e=>by cases e
 |.ref _::_,_,_,_,e=>by cases e
 |.fn _::_,_,_,_,e=>by cases e
noncomputable def w9(ss:X6)(ds:List D):List D:=Zp.sortBy ss .non ds
def wj{α m:Type}{R:α->m->Prop}{ss:X6}{xs:List α}{ys:List m}{d:α}{d':m}(p:xs.length=ys.length)(q:xs.length<=3)(h:∀(i:Nat) (x:α),xs[i]?=some x->∃y,ys[i]?=some y/\R x y):
  ∀(i:Nat) (x:α),(Zp.sortBy ss d xs)[i]?=some x->∃y,(Zp.sortBy ss d' ys)[i]?=some y/\R x y:=by
 intro i x e
 unfold Zp.sortBy at *
 rw[<-p]
 split at e
 ·rename_i c;rw[Qhq c];show h i x e
 ·rename_i t
  let#[_,l]:=Zp.vB xs.length q (!0)
  have f:(Zp.kD (Zp.NW ss)<|PySem.W.kas_sort xs.length).toList.Perm (List.range xs.length):=List.isPerm_iff.mp (QUq.mp l _<|Zp.jr _ _)
  rw[gQm] at e
  let#[k,n,e]:=oQm.mp e
  have g:k<xs.length:=List.mem_range.mp (f.mem_iff.mp<|mQg n)
  have o:xs[k]?=some x:=by
   rw[Qlq,gQe g] at e
   rw[gQe g]
   show congrArg some e
  let#[y,s,r]:=h k x o
  show#[y,?_,r]
  rw[Quq (!0),gQm,n]
  simp[Qlq,s]
theorem bt.of_get:∀{ds:List D} {vs:List V},ds.length=vs.length->(∀(i:Nat) (d:D),ds[i]?=some d->∃v,vs[i]?=some v/\Rel M ρ H d v)->bt M ρ H ds vs
 | [],[],_,_=>.nil
 | [],_::_,h,_=>by cases h
 |_::_,[],h,_=>by cases h
 | d::ds,v::vs,h,g=>by
   let#[f,e,r]:=g 0 d L
   cases e
   show .cons r (bt.of_get (Nat.succ.inj h) λi d c=>by
     let#[v,e,r]:=g (i+1) d (by simpa using c)
     show#[v,by simpa using e,r])
noncomputable def Bf(f:e_):iD:=λg S=>(f g S).bind λ(p,d)=>if p.2.isL=true then(ub p.1).bind λc=>if p.1.length<=3/\c.Nodup then some (w9 c p.1,d) else none else none
def Hy(I:Gl X "sorted")(P:X.mg "sorted"=none)(W:PE X a (tQ (md X) f))(B:autoParam (starEach [a] X.env= [(false,eval a X.env)]) dO._auto_1):
  PE X (.Call (.Name "sorted" p) [a] [] j) (tL (md X)<|Bf f):=
 ko (kI yA I P PyProof.Rows.boot_sorted (eB W gX B) (he:=B)) λσ H Q L=>by
  let#[M,N,S,d,S',ok,e,q]:=L
  let#[#[#[o,t],Y],U,e]:=au e
  dsimp only at e
  split at e
  ·rename_i c
   let#[m,J,e]:=au e
   split at e
   ·rename_i s
    let#[rfl,rfl]:=cH e
    show#[M,N,S,o,t,Y,ok,U,λn a vs Z x C h r=>?_]
    let#[u,rfl,F]:=Cu r J
    have A:o.length=u.length:=by have:=r.length;simpa using this
    show#[a,u,m,rfl,h.sqL c,by omega,F,s.2,λl g=>?_]
    show q _ _ _ _ (x.trans<|cI.laid g) (C.lay g) (x.grow _ g) (dM x C g) cg<|bt.ext (cI.laid g) ?_
    show bt.of_get ?_ λi d k=>?_
    ·rw[lQm]
     unfold w9
     rw[(Zp.fI m o s.1).length_eq,(Zp.fI m u (!0)).length_eq,A]
    ·let#[y,w,G]:=wj (R:=λ(d:D) (a:X8)=>Rel (md X) n Z d (.ref a)) (d':=0) A s.1 (λi d k=>by
      let#[v,z,K]:=r.get k
      rw[gQm] at z
      let#[y,w,rfl]:=oQm.mp z
      show#[y,w,K]) i d k
     show#[.ref y,by rw[gQm,w];rfl,G]
   ·cases e
  ·cases e
def vG{K:X1}:bx P w K d a dw k f g ps (dW #[K,d] n λ_ _=>none):=
 {len:=λi H Q E h=>by
   let#[_,_,_,_,_,_,_,_,e,_]:=h
   cases e
  run:=λA b s H c j i Q E _ _ _ _ h=>by
   let#[_,_,_,_,_,_,_,_,e,_]:=h
   cases e}
end DL
namespace Zq
open PySem PyProof.Rows
def KL{A:X_}(n:A.handled=none)(t:Bool)(it a:X8)(f:a≠it)(items:Xa):
  Draws prog w A it [it,a] items.size (λi v=>items[i]?=some v) (λi h=>It t h it a i/\Sq t h a items) where
 live:=λ_ _ b=>by let#[o,h,_]:=b.1.obj;show#[o,h]
 frame:=λ_ _ _ b g=>#[b.1.at λo e=>g it (by simp) o e,b.2.at λo e=>g a (by simp) o e]
 item:=λi s Q E j b k=>draw b.1 b.2 (v:=items[i]) (by simp[j]) λl d c=>k _ l s.toks (by simp[j]) #[d,b.2.ext c.extBut f] c
 done:=λs Q E b m=>Ge n b.1 b.2 (by simp) m
def JO{A:X_}(f:A.handled=none)(t:Bool)(it a:X8)(items:Xa)(k:Nat)(c:items.size<=k):
  Draws prog w A it [it,a] k (λi v=>items[i]?=some v) (λi h=>i=k/\It t h it a k/\Sq t h a items) where
 live:=λ_ _ b=>by let#[o,h,_]:=b.2.1.obj;show#[o,h]
 frame:=λ_ _ _ b c=>#[b.1,b.2.1.at λo e=>c it (by simp) o e,b.2.2.at λo e=>c a (by simp) o e]
 item:=λi s Q E g b j=>absurd b.1 (Qwq g)
 done:=λs Q E b d=>Ge f b.2.1 b.2.2 (by simp[c]) d
noncomputable abbrev E2(t:Bool)(h:Xe)(a:X8):Heap:=(H1 t h a).push {cls:=.type "enumerate",data:=.fields (List.toArray [.none,.bool false,.ref h.objs.size,rawInt 0,.none,.none])}
def D_(t:Bool)(a:X8)(xs:Xa):Meets (Builtin.«enumerate.__new__» #[[.type "enumerate",.ref a],[]]) (λ_ R s=>Sq t s.heap a xs/\R (.ok (.ret (.ref (H1 t s.heap a).objs.size))) {s with heap:=E2 t s.heap a}):=
 .of_wp λk w A R s h=>by
  let#[j,g,d,f,i]:=s
  let#[e,h]:=h
  let l:=sub_enumerate
  cases t
  ·have b:Heap.IsList (Shared.heap #[j,g,d,f,i]) a xs:=e
   wp_walk
   show wpAny_stack_any λm=>Qgq ?_
   split
   ·rename_i c _ _ _ _ _
    cases (c==Value.type "enumerate")
    ·wp_walk using wpAny_pyIter_list b
     show#[_,L,h]
    ·wp_walk using wpAny_pyIter_list b
     show#[_,L,h]
   ·wp_walk using wpAny_pyIter_list b
    show#[_,L,h]
  ·have b:Heap.IsTuple (Shared.heap #[j,g,d,f,i]) a xs:=e
   wp_walk
   show wpAny_stack_any λm=>Qgq ?_
   split
   ·rename_i c _ _ _ _ _
    cases (c==Value.type "enumerate")
    ·wp_walk using wpAny_pyIter_tuple b
     show#[_,L,h]
    ·wp_walk using wpAny_pyIter_tuple b
     show#[_,L,h]
   ·wp_walk using wpAny_pyIter_tuple b
    show#[_,L,h]
def N2{E:X0}{s:X4}{Q:X0}(g:Sq t s.heap a xs)
  (q:∀h',IsEnum h' (s.heap.objs.size+1) s.heap.objs.size 0 .none->It t h' s.heap.objs.size a 0->(∀c o,s.heap.get? c=some o->h'.get? c=some o)->Q (.ref (s.heap.objs.size+1)) {s with heap:=h'}):
  wpAny (model prog w) A (call (.type "enumerate") [.ref a]) Q E s:=by
 show callType_new F.called_enumerate (!1) (F.typeCall_enumerate_1 _) (F.newCall_enumerate_1 _) (λd=>F.args_object_init_2 d _) F.entry_enumerate_new (D_ t a xs) #[g,?_]
 have e:(H1 t s.heap a).objs.size=s.heap.objs.size+1:=Heap.size_push ..
 have b:(E2 t s.heap a).get? (H1 t s.heap a).objs.size=some _:=Qrq _ L
 have f:(E2 t s.heap a).get? s.heap.objs.size=some _:=Qcq _ (Qrq _ L)
 show(?_:_/\_)
 rw[e] at b
 rw[e]
 show#[#[_,b,L],q _ b ?_ λc o n=>Qcq _<|Qcq _ n]
 cases t <;>show#[_,f,L,L]
end Zq
namespace L2
open PySem PyProof.Rows Zq
noncomputable def Rf(K:X1)(t:Bool)(a:X8):It:=
  ⟨λi H=>∃b x,Bz K t H a b/\b[i]?=some x,
   λi H v c=>∃p,v=.ref p/\H p=none/\∀b x,Bz K t H a b->b[i]?=some x->c=upd H p (.tup [.int (i:Nat),x]),
   λi H=>∃b,Bz K t H a b/\b.length<=i⟩
def GJ{P:X9}{w:Xc}{K:X1}{m:List Expr}{x1:Nat}{tp:Pos}{t:Bool}{e it a:X8}(l:e≠it)(B:a≠e)(R:a≠it):
  Turn P w K (.Tuple m x1 tp) (Rf K t a) [e,it] e (λn h=>(∃d,IsEnum h e it (n:Nat) d)/\Zq.It t h it a n) where
 mem:=by simp
 obj:=λn h ⟨⟨d,f⟩,j⟩ c b=>by
  simp at b
  rcases b with rfl|rfl
  ·show#[_,f,λv n=>by cases n]
  ·show j.obj
 keep:=λn h h' ⟨⟨d,f⟩,j⟩ k=>#[#[d,k e (by simp) _ f],j.at λo e=>k it (by simp) o e]
 item:=by
  rintro X r M J b n i s σ H E I u ⟨⟨d,f⟩,j⟩ G
  subst r M J
  let#[xs,x,y,Q]:=G
  let#[g,C,S,_]:=I.sq y
  let#[ux,U,rx]:=C.get Q
  have Z:∀{c o},s.heap.get? c=some o->c≠s.heap.objs.size:=λe=>Qwq (Qiq e)
  have p:∀c∈[e,it],c≠s.heap.objs.size:=λc b=>by
   let#[oi,e1,_]:=j.obj
   simp at b
   rcases b with rfl|rfl
   ·show Z f
   ·show Z e1
  have z:n<g.toArray.size:=by
   have:=(gQs.mp U).1
   simpa using this
  show wpAny_pyNext_enum_itemD (KL (A:=X.A.in1) (I.ok.hd b) t it a R g.toArray) f #[j,S] z l (by simp[l,Ne.symm B]) λx' h1 Y r ho F hT a1 hk=>#[_,rfl,?_]
  obtain rfl:x'=ux:=by
   have:=r
   erw[List.getElem?_toArray] at this
   rw[U] at this
   show(QdQ this).symm
  show wpAny_letOwnedTupleGo_enum ho λh2 e2 N=>?_
  have I2:Inv X i σ (upd H s.heap.objs.size<|.tup [.int (n:Nat),x]) {s with heap:=h2,toks:=Y+1}:=I.turnedNew (t':=Y+1) (fp:= [e,it]) u (λc o b q=>?_) (Qmq _) ?_
  ·show#[.ref s.heap.objs.size,_,I2,rfl,#[s.heap.objs.size,rfl,I.hok.fresh<|Qmq _,λa0 x' q1 L=>?_],#[#[_,by simpa using e2],F.1.ext N.extBut<|Ne.symm l],λc b=>?_]
   ·rw[I.sq_inj q1 y] at L
    rw[Q] at L
    cases L
    rfl
   ·rw[bF (p c b)]
    show(u c b).1
  ·simp at b
   show N.extBut _ _ b.1<|hk c o b.1 b.2 q
  ·show#[by show 2<=_;decide,[_,_],.cons #[_,rfl] (.cons rx .nil),_,N.extBut _ _ (λq=>p e (by simp) q.symm) hT,rfl,rfl,0,rfl]
 done:=by
  rintro X r M J b n i s σ H E I u ⟨⟨d,f⟩,j⟩ G
  subst r M J
  let#[xs,y,Q]:=G
  let#[g,C,S,_]:=I.sq y
  let hl:=C.length
  show wpAny_pyNext_enum_endD (JO (A:=X.A.in1) (I.ok.hd b) t it a g.toArray n (by simp;omega)) f #[rfl,j,S] λh1 r1=>#[rfl,I.turnedL (t':=s.toks) (fp:= [e,it]) u λc o b q=>?_]
  simp at b
  show r1 c o b.2 q
 self:=λ_ _ _ _ _ ⟨⟨d,f⟩,_⟩ h=>wpAny_pyIter_enum f h
def OM(K:X1)(d:TA):TI:=λe H R=>d e H λb H1=>∃(t:Bool) (a:X8) (c:List V),b= [.ref a]/\Bz K t H1 a c/\R (Rf K t a) H1
def Lx(w:Gl X "enumerate")(G:X.mg "enumerate"=none)(J:PA X [a] m)(C:autoParam (starEach [a] X.env= [(false,eval a X.env)]) dO._auto_1):
  PI X (.Tuple b M B) (.Call (.Name "enumerate" p) [a] [] f) (OM X.K m):=by
 intro d s F H R I h
 show Call_<|mV I w G (by rfl)<|PyProof.Rows.callWith_type1 (di (J f d s F H _ I h) λW i ⟨S,H1,g,v,z⟩=>?_) C rfl
 let#[t,x,U,e,L,q]:=z
 subst e
 cases v with
 | cons r A=>
   cases A
   cases r
   let#[y,P,n,_]:=g.sq L
   let l:=Sq.lt n
   show Zq.N2 n λQ o N k=>?_
   show wpAny_pyIter_enum o #[_,_,_,_,H1,rfl,g.kept (t':=i.toks) k,GJ (e:=i.heap.objs.size+1) (it:=i.heap.objs.size) (Nat.succ_ne_self _) (Qwq<|Nat.lt_succ_of_lt l)<|Qwq l,#[#[_,o],N],λc u=>?_,q]
   have j:i.heap.objs.size<=c:=by
     erw[Qsq,QXq,or_false] at u
     rcases u with e|e <;>(rw[e];first|show Qmq _|show Nat.le_add_right _ _)
   show g.fpOk j<|g.hok.fresh j
end L2
namespace DL
open L2
noncomputable def se(n:Nat):List D->List D
 | []=> []
 |d::ds=>.tup [.int n,d]::se (n+1) ds
theorem tM:∀{ds:List D} {n i:Nat} {d:D},(se n ds)[i]?=some d->∃x,ds[i]?=some x/\d=.tup [.int ((n+i:Nat)),x]
 | [],_,_,_,h=>by simp[se] at h
 | x::ds,n,0,d,h=>by
   erw[se,List.getElem?_cons_zero,Option.some.injEq] at h
   show#[x,L,h.symm]
 | x::ds,n,i+1,d,h=>by
   erw[se,List.getElem?_cons_succ] at h
   let#[y,b,a]:=tM h
   show#[y,by simpa using b,by rw[a];congr 3;omega]
theorem sJ:∀{ds:List D} {n:Nat},(se n ds).length=ds.length
 | [],_=>rfl
 |_::_,_=>congrArg (·+1) sJ
noncomputable def FS(f:e_):yu:=λb S=>(f b S).bind λ(p,a)=>some ((se 0 p.1,λS=>p.2.stays S p.1),a)
def QV(B:Gl X "enumerate")(N:X.mg "enumerate"=none)(Y:PE X a (tQ (md X) f))(t:autoParam (starEach [a] X.env= [(false,eval a X.env)]) dO._auto_1):
  PI X (.Tuple c n J) (.Call (.Name "enumerate" p) [a] [] b) (tI (md X)<|FS f):=Qd (Lx B N (eB Y gX t) t) λσ H R ⟨I,K,S,ds,W,S',ok,e,q⟩=>by
 let#[#[#[k,G],S1],P,e]:=au e
 let#[Q,rfl]:=cH e
 let#[rfl,rfl]:=Prod.mk.inj Q
 show#[I,K,S,k,G,S1,ok,P,λC Z h H1 n j r z=>?_]
 show#[_,Z,h,rfl,r.sqB,q _ _ _ n j λi F S3 H3 A g w=>?_]
 let#[m,l,o]:=r.to z A g w
 show#[λd y=>?_,λL=>#[m,l.sqB,?_]]
 ·let#[x,M,rfl]:=tM y
  let#[u,s,ru]:=o.get M
  show#[#[m,u,l.sqB,s],λv H4 U=>?_]
  let#[p,rfl,hp,hq]:=U
  have:=hq m u l.sqB s
  subst this
  show#[cI.laid hp,g.lay hp,.tup cg ((bt.cons ?_<|.cons ru .nil).ext (cI.laid hp))]
  rw[Nat.zero_add]
  show .int _
 ·rw[L,sJ,o.length]
  show Qmq _
structure F_(P:X9)(w:Xc)(K:X1)(mg:X3)(x:Str)(tbl:List (Str×Str)):Prop where
 at_:∃a,mg x=some (.ref a)/\∀h:Heap,K.In h->∃vs,h.DictOf (cq P w) a vs/\∀k nm,tbl.lookup k=some nm->∃f,valueAt vs (Sum.inr k:Key)=some (.ref f)/\mg nm=some (.ref f)
noncomputable def Qa(d:List (Str×Str))(g:bL):bL:=λj S=>(g j S).bind λ(y,i)=>match y with
 |.str x=>(d.lookup x).bind λf=>some (.fn f,i)
 |_=>none
def Lm{X:Cx}(P:F_ X.prog X.w X.K X.mg x j)(N:Gl X x)(M:PE X b (tD (md X) g))(hs:LM b)(G:autoParam ((x==("__debug__":Str))=false) dL._auto_1):
  PE X (.Subscript (.Name x p) b h) (tD (md X)<|Qa j g):=by
 rintro l s σ H Q I ⟨A,Γ,S,d,S',ok,e,q⟩
 let#[a,hm,U]:=P.at_
 let#[#[y,C],e1,e]:=au e
 cases y with
 | str z=>
   let#[J,Y,e]:=au e
   let#[rfl,rfl]:=cH e
   show Gb PySem.F.slot_dict_getitem.lookup hs<|AL I N hm ?_ G
   show di (M l s σ H (λv m=>∃i,cI A H i m/\gN (md X) i C m/\Rel (md X) i m (.str z) v) I #[A,Γ,S,_,C,ok,e1,λi v m x st r=>#[i,x,st,r]]) λiv R qr=>?_
   let#[v,H2,u,Z,i,x2,t,r2]:=qr
   let#[vs,B,hv]:=U _ u.kIn
   let#[f,hf,n]:=hv z J Y
   cases r2
   have ty:R.TypeIs (.ref a) "dict":=by
     let#[o,es,ep,W,L,h3,_]:=B
     show#[o,W,L.1]
   show#[ty,wpAny_getItem_of (Dr (k:=Sum.inr z) Z) B.mapOf hf ?_]
   show#[.ref f,H2,u.tok _,rfl,q _ _ _ x2 t<|.fn n]
 |_=>cases e
def wu(i:Nat)(T:List (Str×c8))(g:iD):bL:=λd S=>match d[i]? with
 |some (some<|.fn x)=>(T.lookup x).bind λF=>az F g d S
 |_=>none
def LA{X:Cx}{T:List (Str×c8)}(Z:∀x F,T.lookup x=some F->eD X.prog X.w X.K X.mg X.base k x ps F)(hr:gE k X.A)(hN:X.N[i]?=some y)(hv:LZ X.env.scope y)
  (ha:PA X (e::l) (Cy (md X) g)) (hn:nA ps.length g) (C:autoParam ((y==("__debug__":Str))=false) dL._auto_1) (B:autoParam ((y==("__classdict__":Str))=false) dL._auto_1) (he:autoParam (starEach (e::l) X.env=(false,eval e X.env)::starEach l X.env) dO._auto_1) (hpl:autoParam ((backTo h<|starEach l X.env).any (·.1)=false) dO._auto_1):
  PE X (.Call (.Name y p) (e::l) [] h) (tD (md X)<|wu i T g):=by
 rintro j s o H Q I ⟨ρ,Γ,S,d,S',ok,e,q⟩
 unfold wu at e
 split at e
 ·rename_i x hx
  let#[F,t,e]:=au e
  let#[f,fd,G,U,P,m]:=(Z x F t).ex
  let#[v,z,rv]:=ok.en.get i _ hx
  cases rv with
  | fn hm=>
    have M:(md X).mg x=some (.ref f):=m
    rw[hm] at M
    cases M
    show wpAny_Call_Name_kw (di (J4 hN hv C B j s o H (λJ n=>J=.ref f/\n=H) I #[_,z,rfl,rfl]) λu s1 qr=>?_)
    let#[J,n,Y,R,t,e2]:=qr
    subst t e2
    cases (show u=Value.ref f from R)
    show PySem.W.callWith_K (h₀:=X.base) I.ok.mod.kin P (di (ha h j s1 o n _ Y<|E8 hn o n Q #[ρ,Γ,S,d,S',ok,e,q]) λus s2 ⟨vs,H1,L,r,q2⟩=>#[L.kIn,?_]) he hpl
    show J1 G hr U .nil nV L r q2
 ·cases e
def DB(w:Xc)(x:Str):PyData.keyHash w.params x=hashStr w x:=by
 unfold PyData.keyHash hashStr
 first|rfl|simp
inductive Al(w:Xc)(mg:X3):List DictEntry->List (Str×Str)->Prop
 |nil:Al w mg [] []
 |cons {x nm:Str} {t:Tok} {f:X8} {es:List DictEntry} {tbl:List (Str×Str)}:mg nm=some (.ref f)->Al w mg es tbl->Al w mg (#[PyData.keyHash w.params x,.str x t,.ref f]::es) ((x,nm)::tbl)
def Al.keys(c:Al w d b a):∀e∈b,∃k,(cq P w).is k e.key=true/\e.hash=(cq P w).hash k:=by
 induction c with
 |nil=>intro e h;cases h
 | @cons x nm t f b a hm c ih=>
   intro e h
   rcases Qsq.mp h with rfl|h
   · show#[Sum.inr x,tw x t,DB w x]
   · show ih e h
def Al.pairs(e:Al w i b a):∃vs:List (Key×Value),Pairs (cq P w) b vs/\vs.map (·.1)=a.map (λp=>Sum.inr p.1)∧
  ∀k nm,a.lookup k=some nm->∃f,valueAt vs (Sum.inr k:Key)=some (.ref f)/\i nm=some (.ref f):=by
 induction e with
 |nil=>show#[[],.nil,L,λk nm h=>by cases h]
 | @cons x nm t f b a hm e ih=>
   let#[vs,o,j,q]:=ih
   show#[(Sum.inr x,.ref f)::vs,.cons (tw x t) L o,by simp[j],λk n h=>?_]
   by_cases c:k=x
   · subst c
     rw[List.lookup_cons_self] at h
     cases h
     show#[f,?_,hm]
     unfold valueAt
     rw[List.find?_cons_of_pos (by simp)]
     rfl
   · have l:(k==x)=false:=by simpa using c
     rw[List.lookup_cons,l] at h
     let#[g,d,m]:=q k n h
     show#[g,?_,m]
     unfold valueAt at d|-
     rw[List.find?_cons_of_neg]
     · show d
     · intro z
       have:(Sum.inr x:Key)=Sum.inr k:=by simpa using z
       show c (Sum.inr.inj this).symm
def Kb{K:X1}{d:X3}{g:List DictEntry}(r:d x=some (.ref a))(l:K.lookup a=some #[.type "dict",none,.dict g.toArray s,(List.toArray [])])(f:Al w d g c)(j:(c.map (·.1)).Nodup):F_ P w K d x c:=by
 let#[m,o,i,q]:=f.pairs (P:=P)
 show#[a,r,λh k=>#[m,#[_,_,_,k _ _ l,#[L,L,L],L,λe t=>f.keys e (by simpa using t),by simpa using o,?_],q]]
 rw[i]
 have:c.map (λp=>(Sum.inr p.1:Key))=(c.map (·.1)).map Sum.inr:=by rw[QPq];rfl
 rw[this]
 show List.Pairwise.map _ (λa b n e=>n<|Sum.inr.inj e) j
theorem HP{K:X1}:∀{T:List (Str×c8)},(∀p∈T,eD P w K b a k p.1 ps p.2)->∀x F,T.lookup x=some F->eD P w K b a k x ps F
 | [],_,x,F,h=>by cases h
 | p::T,g,x,F,h=>by
   by_cases c:x=p.1
   · subst c
     rw[List.lookup_cons_self] at h
     cases h
     show g p<|QBq ..
   · have e:(x==p.1)=false:=by simpa using c
     rw[List.lookup_cons,e] at h
     show HP (λq d=>g q<|Qpq _ d) x F h
def Co:Sp:=λc H Q _=>∃(a:X8) (b:List Int) (o:Obj),c= [.ref a]/\H a=some (.frz o (.lst (b.map V.int)))/\b.length<=63/\∀d,Q (.bl true) d
theorem yR:∀ns:List Int,bt M ρ H (ns.map D.int) (ns.map V.int)
 | []=>.nil
 |s::ss=>.cons (.int s) (yR ss)
def LK{K:X1}(G:bx P w K i c dw k f j ps (dW #[K,i] 1 F))
  (h:∀ns:List Int,ns.length<=63->∃g,F [.ref 0] [.frz (ns.map D.int)]=some (.d (.bl true),g)):bx P w K i c dw k f j ps Co:=
 G.imp λy H Q E p=>by
  let#[a,ns,o,e,t,s,q]:=p
  subst e
  let#[g,e]:=h ns s
  show#[[a],[.frz (ns.map D.int)],[.ref 0],_,g,L,.cons (.ref L) .nil,#[L,by simp,λk b z l m=>?_],e,λn v u x A r=>?_]
  ·cases k with
   |zero=>cases l;cases m;show#[_,o,t,yR ns]
   |succ k=>simp at l
  ·cases r
   show q u
noncomputable def EC(K:X1):Bool:=K.all λp=>match p.2.data with|.seq _ _=>(match p.2.cls with|.type s=>s !="list" |_=>true)|_=>true
def HB{K:X1}(h:EC K=true)(e:K.lookup a=some o)(i:o.data=.seq f n):o.cls≠.type "list":=by
 intro l
 have d:∀(K:X2),K.all (λp=>match p.2.data with|.seq _ _=>(match p.2.cls with|.type s=>s !="list" |_=>true)|_=>true)=true->K.lookup a=some o->False:=by
  intro K
  induction K with
  |nil=>intro _ e;cases e
  | cons p K k=>
    intro h e
    rw[List.all_cons,QCq] at h
    let#[b,q]:=p
    rw[List.lookup_cons] at e
    by_cases c:a=b
    · subst c
      erw[BEq.rfl] at e
      cases e
      let g:=h.1
      erw[i,l] at g
      simp at g
    · have j:(a==b)=false:=by simpa using c
      rw[j] at e
      show k h.2 e
 show d K h e
def Py{K:X1}{ns:List Int}(b:EC K=true)(c:ns.length<=63)(e:KB H)(d:jm K H a (ns.map V.int)):Co [.ref a] H (λv _=>v=.bl true) λ_ _ _=>False:=by
 rcases d with(h|⟨o,h⟩)|⟨o,its,n,h,hc,_,hd,_⟩
 ·rcases e a with z|⟨o,f,z⟩
  ·rw[h] at z;cases z
  ·rw[h] at z;cases z
 ·show#[a,ns,o,L,h,c,λ_=>rfl]
 ·show absurd hc<|HB b h hd
def xv{l:PySem.W.OpenLaw}{m:World->Heap->Prop}{d:DefRec}{K:Params->PySem.W.Frag}(y:l.most=some 63)(g:d.params.defaults= [])(v:gE k PySem.callerA)
  (r:∀(w:Xc) (h:Xe),m w h->(K w.params).In h) (A:∀w:World,EC (K w.params)=true)
  (F:∀(w:Xc) (e:X3) (j:X8) (h:Xe),(K w.params).In h->h.Ns mainGlobals e->e d.name=some (.ref j)->
   ∃i:FuncData,(∀(s:X4) (u:Xd),BindsTo s i #[[u],[]] [("_law_script",u)])/\∀b:Heap,(K w.params).In b->b.Ns mainGlobals e->bx l.prog w (K w.params) e b dw k j i ["_law_script"] Co):
  PySem.W.WalkO q c o m l.row.toRowW d [] (λf vs=>PySem.call f vs):=
 L2.Kv (n:=63) (k:=k) (x:="_law_script") (CX:=λ_=>dw) (sp:=λ_=>Co) y (!1) g v r F (λw H a C t p B=>Py (A w) t p B) λ_ _ _ _ _ z=>z
end DL
namespace DL
open L2 PyProof.Rows
def GC{X:Cx}{a:Pos}(i:Nat)(g:X.N.Nodup)(he:PE X e (tD (md X) f))(hi:autoParam (X.N[i]?=some x) dO._auto_1)(h:autoParam (Loc X.env.scope x) gz._auto_1)(d:autoParam (swapsWith e (some<|.Name x b) a.line X.env=pure false) dO._auto_1)
  (c:autoParam (X.fn x=true\/X.env.scope.names.lookup x=some .local) dt._auto_1):PS X (.Assign [.Name x b] e a) (tS (md X)<|aW i f):=OQ (M9 g hi h he d c)
def Sk{X:Cx}(i:Nat)(d:X.N.Nodup)(hi:autoParam (X.N[i]?=some x) dO._auto_1)(g:autoParam (Loc X.env.scope x) gz._auto_1)(c:autoParam (X.fn x=true\/X.env.scope.names.lookup x=some .local) dt._auto_1):PG X (.Name x a) (rZ i):=Bd d hi g c
def Qv{X:Cx}(i:Nat)(d:X.N.Nodup)(hi:autoParam (X.N[i]?=some x) dO._auto_1)(g:autoParam (Loc X.env.scope x) gz._auto_1)(c:autoParam (X.fn x=true\/X.env.scope.names.lookup x=some .local) dt._auto_1):PG X (.Name x a) (tG (md X)<|bJ i):=Ib (Bd d hi g c)
def QB{N:X6}(i:Nat)(j:autoParam (N.Nodup) hE._auto_1)(hi:autoParam ((aR X N c d C s H fp).N[i]?=some x) dO._auto_1)(h:autoParam (Loc (aR X N c d C s H fp).env.scope x) gz._auto_1)
  (g:autoParam ((aR X N c d C s H fp).fn x=true\/(aR X N c d C s H fp).env.scope.names.lookup x=some .local) dt._auto_1):PG (aR X N c d C s H fp) (.Name x a) (tG (md<|aR X N c d C s H fp)<|bJ i):=Ib (Bd j hi h g)
def v_{X:Cx}(i:Nat)(h:autoParam (X.N[i]?=some x) dO._auto_1)(g:autoParam (LZ X.env.scope x) ej._auto_1)(d:autoParam ((x==("__debug__":Str))=false) dL._auto_1)(c:autoParam ((x==("__classdict__":Str))=false) dL._auto_1):PE X (.Name x a) (tD (md X)<|ar i):=Oy (pv i h g d c)
def NO{X:Cx}(C:eD X.prog X.w X.K X.mg X.base k x ps F)(i:gE c X.A)(h:PA X (e::a) (Cy (md X) g))(f:autoParam (k<=c) hI._auto_1)(j:autoParam (Gl X x) dO._auto_1)
  (l:autoParam (nA ps.length g) hP._auto_1)
  (d:autoParam ((x==("__debug__":Str))=false) dL._auto_1) (he:autoParam (starEach (e::a) X.env=(false,eval e X.env)::starEach a X.env) dO._auto_1) (hpl:autoParam ((backTo b<|starEach a X.env).any (·.1)=false) dO._auto_1):
  PE X (.Call (.Name x p) (e::a) [] b) (tD (md X)<|az F g):=N5 C (i.mono f) j h l d he hpl
def Ox{X:Cx}(C:eD X.prog X.w X.K X.mg X.base k x ps F)(i:gE c X.A)(h:PA X (e::a) (Cy (md X) g))(f:autoParam (k<=c) hI._auto_1)(j:autoParam (Gl X x) dO._auto_1)
  (l:autoParam (nA ps.length g) hP._auto_1)
  (d:autoParam ((x==("__debug__":Str))=false) dL._auto_1) (he:autoParam (starEach (e::a) X.env=(false,eval e X.env)::starEach a X.env) dO._auto_1) (hpl:autoParam ((backTo b<|starEach a X.env).any (·.1)=false) dO._auto_1):
  PE X (.Call (.Name x p) (e::a) [] b) (tL (md X)<|dN F g):=Ol C (i.mono f) j h l d he hpl
def ff{N P:X6}{sc:Scope}(a:autoParam (sc.kind=.function) dO._auto_1)(b:autoParam (sc.isCoroutine=false) dO._auto_1)(c:autoParam (sc.isGenerator=false) dO._auto_1)(d:autoParam (N.Nodup) hE._auto_1)(e:autoParam (N.take P.length=P) dO._auto_1)
  (f:autoParam (∀x∈P,sc.names.lookup x=some .local\/sc.names.lookup x=some .cell) hE._auto_1) (g:autoParam (∀y∈sc.names,y.2≠.free) hE._auto_1):aF N P sc:=#[a,b,c,d,e,f,g]
structure aY(K:X1)(x:Str)(st:Stmt)(f:X8):Prop where
 ex:∃(oc:Xd) (od:Option Addr) (kV dc pm:Xd) (an:Option Addr) (cd ct:Xd) (sl:Array (Option Value)),PySem.W.nsIn K mainGlobals x=some (some<|.ref f)∧
  K.lookup f=some #[oc,od,.func (PySem.W.fnOf x x (i0 st) (fX st) (aB st) .none kV dc pm an cd ct),sl]/\PySem.W.codeIn K cd x=true/\PySem.W.keepIn K (.ref f)=true
def aY.of{K:X1}{x:Str}{st:Stmt}{f:X8}{i:Xd}{g:Option Addr}{kV h pm:Xd}{d:Option Addr}{b j:Xd}{e:Array (Option Value)}(a:PySem.W.nsIn K mainGlobals x=some (some<|.ref f))
  (l:K.lookup f=some #[i,g,.func (PySem.W.fnOf x x (i0 st) (fX st) (aB st) .none kV h pm d b j),e]) (c:PySem.W.codeIn K b x=true) (k:PySem.W.keepIn K (.ref f)=true):aY K x st f:=#[i,g,kV,h,pm,d,b,j,e,a,l,c,k]
structure QX(K:X1)(mg:X3)(x:Str)(st:Stmt)(ps:X6)(f:X8):Prop where
 ex:∃fd,dX K x x st f fd/\Binds K fd ps []/\PySem.W.keepIn K (.ref f)=true
 m:mg x=some (.ref f)
theorem zlz:∀{ps:List PySem.Str}{us:List PySem.Value}{n:PySem.Str},us.length=ps.length->n∈ps->((ps.zip us).lookup n).isNone=false
 |[],_,n,_,h=>nomatch h
 |p::ps,[],n,hl,_=>nomatch hl
 |p::ps,u::us,n,hl,h=>by
  rw[List.zip_cons_cons,List.lookup_cons]
  by_cases c:n=p
  ·subst c;simp
  ·have e:(n==p)=false:=by simpa using c
   rw[e]
   exact zlz (Nat.succ.inj hl) ((List.mem_cons.mp h).resolve_left c)
theorem zlf:∀{ps:List PySem.Str}{us:List PySem.Value},ps.Nodup->us.length=ps.length->ps.filterMap (fun n=>((ps.zip us).lookup n).map fun v=>(n,v))=ps.zip us
 |[],_,_,_=>rfl
 |p::ps,[],_,hl=>nomatch hl
 |p::ps,u::us,nd,hl=>by
  obtain ⟨n1,n2⟩:=List.nodup_cons.mp nd
  rw[List.zip_cons_cons,List.filterMap_cons,List.lookup_cons_self]
  have key:∀qs:List PySem.Str,(∀n∈qs,n≠p)->qs.filterMap (fun n=>(((p,u)::ps.zip us).lookup n).map fun v=>(n,v))=qs.filterMap (fun n=>((ps.zip us).lookup n).map fun v=>(n,v)):=by
   intro qs
   induction qs with
   |nil=>intro _;rfl
   |cons q qs ih=>
    intro h
    have c:(q==p)=false:=beq_eq_false_iff_ne.mpr (h q (List.mem_cons_self ..))
    rw[List.filterMap_cons,List.filterMap_cons,ih fun n hn=>h n (List.mem_cons_of_mem _ hn),List.lookup_cons,c]
  exact congrArg ((p,u)::·) ((key ps fun n hn z=>n1 (z▸hn)).trans (zlf n2 (Nat.succ.inj hl)))
theorem zbp{x:PySem.Str}{A:PySem.Arguments}{B:List PySem.Stmt}{C:PySem.Scope}{ps:List PySem.Str}(h1:A=⟨[],A.args,none,[],[],none,[]⟩)(h2:A.args.map (·.arg)=ps)(nd:ps.Nodup)(kV doc pm:PySem.Value)(an:Option PySem.Addr)(cdv ct:PySem.Value)(us:List PySem.Value)(hl:us.length=ps.length):PySem.bindArgs (PySem.W.fnOf x x A B C .none kV doc pm an cdv ct) ⟨us,[]⟩=pure (ps.zip us):=by
 rw[h1]
 subst h2
 generalize A.args=as at hl nd ⊢
 have hf:((as.map (·.arg)).filter fun n=>(((as.map (·.arg)).zip us).lookup n).isNone)=[]:=List.filter_eq_nil_iff.mpr fun n hn=>by rw[zlz hl hn];exact Bool.false_ne_true
 have hz:=zlf nd hl
 generalize hp:as.map (·.arg)=ps at hl hf hz
 have hs:PySem.seqItems? PySem.Value.none=pure none:=rfl
 unfold PySem.bindArgs
 simp only[PySem.W.fnOf,hp,List.map_nil,List.nil_append,hs,pure_bind,hl]
 rw[List.forIn_nil,pure_bind]
 simp only[gt_iff_lt,Nat.lt_irrefl,decide_false,Bool.false_and,Bool.false_eq_true,if_false,Option.getD_none,List.drop_nil,List.length_nil,Nat.sub_zero,List.take_length,hf,List.isEmpty_nil,Bool.not_true,List.zip_nil_right,List.forIn_nil,pure_bind,List.append_nil,hz]
def aY.ok1{K:X1}{j:X3}{x:Str}{st:Stmt}{ps:X6}{f:X8}{h:Xe}(D:aY K x st f)(X:K.In h)(G:h.Ns mainGlobals j)
  (z1:autoParam (i0 st=⟨[],(i0 st).args,none,[],[],none,[]⟩) dO._auto_1)(z2:autoParam ((i0 st).args.map (·.arg)=ps) dO._auto_1)(z3:autoParam (ps.Nodup) hE._auto_1):QX K j x st ps f:=by
 let#[p,s,kV,o,pm,i,r,k,q,m,e,g,b]:=D.ex
 show#[#[_,DX e g b,(DX e g b).binds (zbp z1 z2 z3),b],PySem.W.mg_of X G m]
structure Pk(P:X9)(w:Xc)(base:Xe):Prop where
def QX.cal{P:X9}{w:Xc}{a:Xe}{K:X1}{c:X3}{x:Str}{st:Stmt}{ps:X6}{f:X8}{k:Nat}{F:c8}(O:QX K c x st ps f)(Z:Pk P w a)
  (h:∀b,dX K x x st f b->Binds K b ps []->PySem.W.keepIn K (.ref f)=true->c x=some (.ref f)->bx P w K c a dw k f b ps (dW #[K,c] ps.length F)):eD P w K c a k x ps F:=by
 let#[b,g,d,e]:=O.ex
 show#[f,b,h b g d e O.m,d,e,O.m]
end DL
namespace DL
open L2
def E(f:cG->aE->Option (α×aE))(c:cG)(S:aE)(Q:α->aE->Prop):Prop:=∃a b,f c S=some (a,b)/\Q a b
def T(f:cJ)(a:cG)(S:aE)(Q:Out->Prop):Prop:=∃o,f a S=some o/\Q o
def Fn(F:c8)(ds:List D)(S:aE)(Q:Res->aE->Prop):Prop:=∃r a,F ds S=some (r,a)/\Q r a
def Tg(g:oM)(d:D)(c:cG)(S:aE)(Q:cG->aE->Prop):Prop:=∃a b,g d c S=some (a,b)/\Q a b
def OL(g:qj)(d:List D)(c:cG)(S:aE)(Q:cG->aE->Prop):Prop:=∃a b,g d c S=some (a,b)/\Q a b
def Op(o:Option α)(Q:α->Prop):Prop:=∃d,o=some d/\Q d
def E.mono{Q R:α->aE->Prop}(h:E f s S Q)(i:∀a S,Q a S->R a S):E f s S R:=by
 let#[a,b,e,q]:=h
 show#[a,b,e,i _ _ q]
def T.mono{Q R:Out->Prop}(h:T f s S Q)(i:∀o,Q o->R o):T f s S R:=by
 let#[a,e,q]:=h
 show#[a,e,i _ q]
def aw{Q:D->aE->Prop}(h:s[i]?=some (some d))(q:Q d S):E (ar i) s S Q:=#[d,S,by unfold ar;rw[h],q]
def cu{Q:D->aE->Prop}(q:Q d S):E (cF d) s S Q:=#[d,S,L,q]
def aZ{Q:List D->aE->Prop}(q:Q [] S):E av s S Q:=#[[],S,L,q]
def aA{Q:List D->aE->Prop}(h:E f s S λd a=>E g s a λds S2=>Q (d::ds) S2):E (aq f g) s S Q:=by
 let#[d,a,b,ds,S2,c,q]:=h
 show#[_,_,by unfold aq;rw[b];erw[Qbq];rw[c];rfl,q]
def aV{o:yh}{Q:D->aE->Prop}(h:E f s S λx a=>E g s a λy S2=>Op (o S2 x y) λd=>Q d S2):E (aQ o f g) s S Q:=by
 let#[x,a,b,y,S2,e,d,c,q]:=h
 show#[d,S2,by unfold aQ;rw[b];erw[Qbq];rw[e];erw[Qbq];rw[c];rfl,q]
def uC{Q:D->aE->Prop}(h:E f s S λds a=>ds.length<=sizeLine/\Q (.tup ds) a):E (bp f) s S Q:=by
 let#[ds,a,b,l,q]:=h
 show#[_,_,by unfold bp;rw[b];erw[Qbq];rw[Qhq l],q]
def eC{Q:List D->aE->Prop}(h:E f s S λds a=>ds.length<=sizeLine/\Q ds a):E (bD f) s S Q:=by
 let#[ds,a,b,l,q]:=h
 show#[_,_,by unfold bD;rw[b];erw[Qbq];rw[Qhq l],q]
def eR{Q:D->aE->Prop}(h:E f s S λds a=>Q (.ref a.length) (a++ [.lst ds])):E (bO f) s S Q:=by
 let#[ds,a,b,q]:=h
 show#[_,_,by unfold bO;rw[b];rfl,q]
def Bn{o:Mc}{Q:D->aE->Prop}(h:E f s S λds a=>Op (o ds) λd=>Q d a):E (vg o f) s S Q:=by
 let#[ds,a,b,d,c,q]:=h
 show#[d,a,by unfold vg;rw[b];erw[Qbq];rw[c];rfl,q]
def bX{Q:(List D×Tag)->aE->Prop}(h:E f s S λd a=>Op (wo a d) λp=>Q p a):E (aP f) s S Q:=by
 let#[e,a,b,d,c,q]:=h
 show#[d,a,by unfold aP;rw[b];erw[Qbq];rw[c];rfl,q]
def oY{Q:(List D×Tag)->aE->Prop}(h:E f s S λds a=>Q (ds,.fr) a):E (gU f) s S Q:=by
 let#[ds,a,b,q]:=h
 show#[_,a,by unfold gU;rw[b];rfl,q]
def zd{Q:D->aE->Prop}(h:E f s S λp a=>Q (.int p.1.length) a):E (gP f) s S Q:=by
 let#[p,a,b,q]:=h
 show#[_,a,by unfold gP;rw[b];rfl,q]
def qE{Q:D->aE->Prop}(h:E f s S λp a=>Q (.tup p.1) a):E (tupQ f) s S Q:=by
 let#[p,a,b,q]:=h
 show#[_,a,by unfold tupQ;rw[b];rfl,q]
def sx{Q:(List D×Tag)->aE->Prop}(h:E f s S λp a=>p.2.isL=true/\Q p a):E (cO f) s S Q:=by
 let#[p,a,b,l,q]:=h
 show#[_,a,by unfold cO;rw[b];erw[Qbq];rw[Qhq l],q]
def oB{Q:D->aE->Prop}(h:E f s S λp a=>(p.2.isL=true/\p.2.stays a p.1)/\Q (.bl (!p.1.isEmpty)) a):E (dg f) s S Q:=by
 let#[p,a,b,l,q]:=h
 show#[_,a,by unfold dg;rw[b];erw[Qbq];rw[Qhq l],q]
def bg(Q:D->aE->Prop)(r:Res)(S2:aE):Prop:=match r with|.d x=>Q x S2|.l _=>False
def aN(Q:List D->aE->Prop)(r:Res)(S2:aE):Prop:=match r with|.d _=>False|.l x=>Q x S2
def bf(Q:Bool->aE->Prop)(d:D)(a:aE):Prop:=match d with|.bl k=>Q k a|_=>False
def bP(g:cJ)(Q:Out->Prop)(o:Out):Prop:=match o with|.nx a b=>T g a b Q|o=>Q o
def bV(I:Nat->cG->aE->Prop)(n:Nat)(Q:Out->Prop)(o:Out):Prop:=match o with|.nx a b=>I (n+1) a b|.ct a b=>I (n+1) a b|.bk a b=>Q (.nx a b)|o=>Q o
def fg(S:aE)(Q:Res->aE->Prop)(o:Out):Prop:=match o with
 |.nx _ a=>Op (settle S .non a) λp=>Q p.1 p.2|.rt d a=>Op (settle S d a) λp=>Q p.1 p.2|.rl l a=>Op (eY S l a) λp=>Q p.1 p.2|_=>False
def Sf{Q:D->aE->Prop}(h:Q x S):bg Q (.d x) S:=h
def Q1{Q:List D->aE->Prop}(h:Q x S):aN Q (.l x) S:=h
def tJ{Q:Bool->aE->Prop}(h:Q k S):bf Q (.bl k) S:=h
def Sg(h:let a:=s;T g a S Q):bP g Q (.nx s S):=h
def cc(h:E g s S λds a=>Fn F ds a<|bg Q):E (az F g) s S Q:=by
 let#[ds,a,c,r,b,e,q]:=h
 cases r with
 |d x=>show#[x,b,by unfold az;rw[c];erw[Qbq];rw[e];rfl,q]
 |l x=>show q.elim
def Gj(h:E g s S λds a=>Fn F ds a<|aN Q):E (dN F g) s S Q:=by
 let#[ds,a,c,r,b,e,q]:=h
 cases r with
 |d x=>show q.elim
 |l x=>show#[x,b,by unfold dN;rw[c];erw[Qbq];rw[e];rfl,q]
def cm(h:E f s S (bf Q)):E (aH f) s S Q:=by
 let#[d,b,a,q]:=h
 cases d with
 |bl k=>show#[k,b,by unfold aH;rw[a];rfl,q]
 |_=>show q.elim
def JL{Q:Bool->aE->Prop}(h:E f s S λd a=>Op (EW a d) λk=>Q k a):E (kK f) s S Q:=by
 let#[d,a,b,k,c,q]:=h
 show#[k,a,by unfold kK;rw[b];erw[Qbq];rw[c];rfl,q]
def D2{Q:Bool->aE->Prop}(h:E f s S λk a=>Q (!k) a):E (xY f) s S Q:=by
 let#[k,a,b,q]:=h
 show#[_,a,by unfold xY;rw[b];rfl,q]
def pZ(h:E f s S λk a=>if k=true then E g s a Q else Q false a):E (iP f g) s S Q:=by
 let#[k,a,b,q]:=h
 cases k with
 |true=>let#[j,c,d,q]:=(q:E g s a Q);show#[j,c,by unfold iP;rw[b];show d,q]
 |false=>show#[false,a,by unfold iP;rw[b];rfl,q]
def F4(h:E f s S λk a=>if k=true then Q true a else E g s a Q):E (Nq f g) s S Q:=by
 let#[k,a,b,q]:=h
 cases k with
 |true=>show#[true,a,by unfold Nq;rw[b];rfl,q]
 |false=>let#[j,c,d,q]:=(q:E g s a Q);show#[j,c,by unfold Nq;rw[b];show d,q]
def N3(h:E c s S λk a=>if k=true then E f s a Q else E g s a Q):E (yq c f g) s S Q:=by
 let#[k,a,e,q]:=h
 cases k with
 |true=>let#[j,b,d,q]:=(q:E f s a Q);show#[j,b,by unfold yq;rw[e];show d,q]
 |false=>let#[j,b,d,q]:=(q:E g s a Q);show#[j,b,by unfold yq;rw[e];show d,q]
def cU(h:E f s S λd a=>Q<|.nx (s.set i<|some d) a):T (aW i f) s S Q:=by
 let#[d,a,b,q]:=h
 show#[_,by unfold aW;rw[b];rfl,q]
def fA(h:E f s S λd a=>Q<|.rt d a):T (cy f) s S Q:=by
 let#[d,a,b,q]:=h
 show#[_,by unfold cy;rw[b];rfl,q]
def Mr(h:E f s S λd a=>Q<|.rl d a):T (HF f) s S Q:=by
 let#[d,a,b,q]:=h
 show#[_,by unfold HF;rw[b];rfl,q]
def c9(h:E f s S λd a=>Q<|.nx s a):T (g8 f) s S Q:=by
 let#[d,a,b,q]:=h
 show#[_,by unfold g8;rw[b];rfl,q]
def bT{Q:Out->Prop}(q:Q (.nx s S)):T fK s S Q:=#[_,L,q]
def rL(h:E f s S λd b=>Tg g d s b λa S2=>Q<|.nx a S2):T (kc f g) s S Q:=by
 let#[d,b,c,a,S2,e,q]:=h
 show#[_,by unfold kc;rw[c];erw[Qbq];rw[e];rfl,q]
def aI(h:T f s S (bP g Q)):T (aD f g) s S Q:=by
 let#[o,b,q]:=h
 cases o with
 |nx a c=>let#[o,d,q]:=(q:T g a c Q);show#[o,by unfold aD;rw[b];show d,q]
 |_=>show#[_,by unfold aD;rw[b];rfl,q]
def bK(h:E c s S λk a=>if k=true then T f s a Q else T g s a Q):T (de c f g) s S Q:=by
 let#[k,a,d,q]:=h
 cases k with
 |true=>let#[j,b,q]:=(q:T f s a Q);show#[j,by unfold de;rw[d];show b,q]
 |false=>let#[j,b,q]:=(q:T g s a Q);show#[j,by unfold de;rw[d];show b,q]
def aS{s:cG}{Q:cG->aE->Prop}(q:Q (s.set i<|some d) S):Tg (bJ i) d s S Q:=#[_,_,L,q]
def LP{Q:cG->aE->Prop}(h:E f s S λx a=>E g s a λy S2=>∃k i ds j,x=.ref k/\y=.int i/\S2[k]?=some (.lst ds)/\Ef ds.length i=some j/\Q s (S2.set k<|.lst (ds.set j d))):Tg (xS f g) d s S Q:=by
 let#[x,a,b,y,S2,c,k,i,ds,j,rfl,rfl,h1,h2,q]:=h
 show#[_,_,by unfold xS;rw[b];erw[Qbq];rw[c];erw[Qbq,h1,h2],q]
def R4{Q:Out->Prop}(w:E f s S λx c=>E g s c λy S2=>∃k i ds m,x=.ref k/\y=.int i/\S2[k]?=some (.lst ds)/\0<=i/\ds[i.toNat]?=some (.int m)/\E h s S2 λz b=>∃n a j,z=.int n/\b[k]?=some (.lst a)/\Ef a.length i=some j/\Q (.nx s (b.set k<|.lst (a.set j<|.int (m+n))))):T (Qg f g h) s S Q:=by
 let#[x,c,e,y,S2,d,k,i,ds,m,rfl,rfl,h1,h2,h3,z,b,e3,n,a,j,rfl,h4,h5,q]:=w
 show#[_,by unfold Qg;rw[e];erw[Qbq];rw[d];erw[Qbq,h1,Qhq h2,h3,e3,h4,h5],q]
def gF (h:E i s S λp w=>∃I:Nat->cG->aE->Prop,I 0 s w/\(∀n a c,I n a c->p.2 c)∧
   (∀(n:Nat) (d:D) (a:cG) (c:aE),p.1[n]?=some d->I n a c->Tg g d a c λu S2=>bP b (bV I n Q)<|.nx u S2)∧
   ∀a c,I p.1.length a c->Q (.nx a c)):T (iV i g b) s S Q:=by
 let#[#[r,W],w,B,I,A,x,f,m]:=h
 have F:∀(k n:Nat) (a:cG) (c:aE),n+k=r.length->I n a c->∃o,forL g b W (r.drop n) a c=some o/\Q o:=by
  intro k
  induction k with
  | zero=>
    intro n a c y t
    rw[List.drop_of_length_le (!0)]
    show#[.nx a c,by erw[forL];rw[Qhq (x _ _ _ t)],m _ _ (by rw[<-y];show t)]
  | succ k z=>
    intro n a c y t
    have l:n<r.length:=by omega
    rw[QWq l]
    let#[u,S2,v,o,C,q]:=f n r[n] a c (gQe l) t
    erw[forL]
    rw[Qhq (x _ _ _ t),v]
    erw[Qbq]
    rw[C]
    erw[Qbq]
    cases o with
    |nx e j=>show z (n+1) e j (!0) q
    |ct e j=>show z (n+1) e j (!0) q
    |bk e j=>show#[_,L,q]
    |rt d j=>show#[_,L,q]
    |rl d j=>show#[_,L,q]
 let#[o,v,q]:=F r.length 0 s w (!0) A
 show#[o,by unfold iV;rw[B];show v,q]
def j3{Q:List D->aE->Prop} (h:E i s S λp B=>∃I:Nat->cG->aE->List D->Prop,I 0 (qz js s) B []/\(∀n b e a,I n b e a->p.2 e)∧
   (∀(n:Nat) (d:D) (b:cG) (e:aE) (a:List D),p.1[n]?=some d->I n b e a->Tg g d b e λj S2=>E t j S2 λk x=>if k=true then E f j x λy A=>a.length<sizeLine/\I (n+1) j A (a++ [y]) else I (n+1) j x a)∧
   ∀b e a,I p.1.length b e a->Q a e):E (bG js i g t f) s S Q:=by
 let#[#[v,W],B,K,I,H,C,m,u]:=h
 have M:∀(k n:Nat) (b:cG) (e:aE) (a:List D),n+k=v.length->I n b e a->∃r l,pJ g t f W (v.drop n) b e a=some (r,l)/\Q r l:=by
  intro k
  induction k with
  | zero=>
    intro n b e a F w
    rw[List.drop_of_length_le (!0)]
    show#[a,e,by erw[pJ];rw[Qhq (C _ _ _ _ w)],u _ _ _ (by rw[<-F];show w)]
  | succ k G=>
    intro n b e a F w
    have o:n<v.length:=by omega
    rw[QWq o]
    let#[j,S2,z,c,x,L,q]:=m n v[n] b e a (gQe o) w
    erw[pJ]
    rw[Qhq (C _ _ _ _ w),z]
    erw[Qbq]
    rw[L]
    erw[Qbq]
    cases c with
    | true=>
      rw[Qhq rfl] at q|-
      let#[y,A,N,J,q]:=q
      rw[N]
      erw[Qbq]
      rw[Qhq J]
      show G (n+1) j A _ (!0) q
    | false=>
      rw[Quq (!1)] at q|-
      show G (n+1) j x _ (!0) q
 let#[r,l,z,q]:=M v.length 0 _ B [] (!0) H
 show#[r,l,by unfold bG;rw[K];show z,q]
def IB{Q:(List D×(aE->Prop))->aE->Prop}(h:E f s S λd a=>∃j,d=.int j/\(-(2^62)<=j/\j<2^62)/\Q (jG 0 j,λ_=>True) a):E (vO f) s S Q:=by
 let#[d,a,b,j,rfl,hj,q]:=h
 show#[_,a,by unfold vO;rw[b];erw[Qbq];rw[Qhq hj],q]
def jD{Q:(List D×(aE->Prop))->aE->Prop}(h:E f s S λp a=>Q (p.1,λb=>p.2.stays b p.1) a):E (fT f) s S Q:=by
 let#[p,a,c,q]:=h
 show#[_,a,by unfold fT;rw[c];rfl,q]
def fq{m:List D->List D->Option (List D×D)}{Q:D->aE->Prop}(h:E f s S λx b=>∃k a,x=.ref k/\b[k]?=some (.lst a)/\E g s b λys S2=>∃ds,S2[k]?=some (.lst ds)/\Op (m ds ys) λp=>Q p.2<|S2.set k<|.lst p.1):E (jd m f g) s S Q:=by
 let#[x,b,c,k,a,rfl,h1,ys,S2,e2,ds,h2,p,e3,q]:=h
 show#[_,_,by unfold jd;rw[c];erw[Qbq,e2,h1,h2,e3],q]
def bZ{ds:List D}(h:bP b (fg S Q) (.nx (ds.map some++List.replicate (n-ds.length) none) S)):Fn (fB n b) ds S Q:=by
 let#[o,e,q]:=h
 cases o with
 |nx g f=>let#[#[r,a],c,q]:=q;show#[r,a,by unfold fB;rw[e];show c,q]
 |rt d f=>let#[#[r,a],c,q]:=q;show#[r,a,by unfold fB;rw[e];show c,q]
 |rl d f=>let#[#[r,a],c,q]:=q;show#[r,a,by unfold fB;rw[e];show c,q]
 |bk=>show q.elim
 |ct=>show q.elim
def jc{Q:Res×aE->Prop}(e:qW S a)(ht:a.take S.length=S2)(b:∀k,d≠.ref k)(c:cA S.length d=true)(q:Q (.d d,S2)):Op (settle S d a) Q:=by
 show#[_,?_,q]
 unfold settle
 rw[Qhq e,ht]
 cases d with
 |ref k=>show absurd L (b k)
 |_=>erw[c,if_true]
def p7{Q:Res×aE->Prop}(c:qW S a)(ht:a.take S.length=S2)(b:cn S.length ds=true)(q:Q (.l ds,S2)):Op (eY S ds a) Q:=by
 show#[_,?_,q]
 unfold eY
 rw[Qhq #[c,b],ht]
def xb:qW S S:=#[Qmq _,λk o _ h=>.inl h]
def zm{S:aE}(h:K5 S.length o=true):qW S (S.set k o):=by
 show#[by simp,λj u _ e=>?_]
 rw[List.getElem?_set] at e
 split at e
 ·split at e
  ·cases e;show .inr h
  ·cases e
 ·show .inl e
end DL
namespace L2
open PyProof.Rows
end L2
namespace DL
open L2
end DL
namespace L2
open PyProof.Rows
def Oq:V->List V->Hp->VK->Prop:=λx b H Q=>∃(l:X8) (a:List V) (i:Int) (y:V),x=.ref l/\b= [.int i,y]/\H l=some (.lst a)/\0<=i/\i<1000000/\i.toNat<=a.length/\a.length<sizeLine/\Q .non (upd H l<|.lst (a.take i.toNat++y::a.drop i.toNat))
def LH{a:X5}(c:0<=i)(b:i.toNat<=a.length):(a.toArray.extract 0 (if i<0 then(i+(a.toArray.size:Int)).toNat else min i.toNat a.toArray.size)).push u++a.toArray.extract (if i<0 then(i+(a.toArray.size:Int)).toNat else min i.toNat a.toArray.size)=(a.take i.toNat++u::a.drop i.toNat).toArray:=by
 rw[Quq (!0),Qjq,Nat.min_eq_left b]
 apply Array.toList_inj.mp
 simp
 show List.take_of_length_le (by rw[List.length_drop];show Qmq _)
def Hh:Mn X "list.insert" Oq:=by
 intro f s w H x m v A Q I k g h
 let#[l,p,i,y,rfl,rfl,hH,h0,h1,hk,hz,q]:=h
 cases k
 let#[o,u,rfl,r1,ru]:=g.two
 let#[t,rfl]:=r1
 let#[z,a,n,r,d,e]:=I.lstM hH
 have j:Builtin.List.listFitsIndex i=true:=fitsIndex_both (Int.le_trans (!1) h0) (Int.lt_trans h1 (!1))
 have c:a.toArray.size<=sizeLine:=by rw[Qjq,<-d];show nQl hz
 have b:¬(!Builtin.List.listFitsIndex i)=true:=by rw[j];show Qtq
 show call_meets F.slot_list_insert #[_,e,L] F.entry_list_insert (F.args_list_insert_3 _ _ _) (AutoSeq1.list_insert_list_int_val_1 l a.toArray n i t u b c) #[e,?_]
 show#[.non,_,I.lset (its':=a.take i.toNat++u::a.drop i.toNat) hH e (LH h0 (d▸hk)) ((r.take _).append (.cons ru (r.drop _))) ?_,L,q]
 erw[lQa,Qxq,Qnq,List.length_drop]
 omega
def FT:V->List V->Hp->VK->Prop:=λx a H Q=>∃l b,x=.ref l/\a= []/\H l=some (.lst b)/\Q .non (upd H l<|.lst [])
def GV:Mn X "list.clear" FT:=by
 intro c s k H x g v m Q I f d h
 let#[l,j,rfl,rfl,hH,q]:=h
 cases f
 let b:=d.zero
 subst b
 let#[z,a,n,r,i,e]:=I.lstM hH
 show call_meets F.slot_list_clear #[_,e,L] F.entry_list_clear (F.args_list_clear_1 _) (AutoSeq1.list_clear_list_0 l a.toArray n (by rw[Qjq];omega)) #[e,?_]
 show#[.non,_,I.lset (its':= []) hH e L .nil<|Nat.zero_le _,L,q]
end L2
namespace DL
open PyProof.Rows L2
noncomputable def GA:List D->List D->Option (List D×D):=λa c=>match c with
 | [.int i,y]=>if 0<=i/\i<1000000/\i.toNat<=a.length/\a.length<sizeLine then some (a.take i.toNat++y::a.drop i.toNat,.non) else none
 |_=>none
def Mi:DA M Oq GA:=by
 intro o H a n s p d k r Q l f h e q
 unfold GA at e
 split at e
 ·split at e
  ·rename_i i y c
   let#[rfl,rfl]:=cH e
   cases h with
   | cons h g=>
     cases g with
     | cons g m=>
       cases m
       cases h
       let j:=f.length
       rw[j] at c
       show#[a,k,i,_,L,L,l,c.1,c.2.1,c.2.2.1,c.2.2.2,q _ _ ((f.take _).append (.cons g (f.drop _))) .non]
  ·cases e
 ·cases e
def Oc{c a:Pos}(n:PE X o (tD (md X) f))(p:PE X e (tD (md X) g))(q:PE X b (tD (md X) k))(d:autoParam (attributeBase o "insert" X.env (eval o X.env)=eval o X.env) dO._auto_1) (i:autoParam (((backTo a (starEach [e,b] X.env)).all (λx=> !x.1)&&(backToKw a (keywordEach [] X.env)).all (λx=>x.1.isSome)
   &&decide ([e,b].length+([]:List Keyword).length+(if ([]:List Keyword).isEmpty then 0 else 1)<30))=true) dO._auto_1)
  (h:autoParam ((c.endLine==a.line)=true) dO._auto_1) (l:autoParam (starEach [e,b] X.env=(false,eval e X.env)::starEach [b] X.env) dO._auto_1) (j:autoParam (starEach [b] X.env= [(false,eval b X.env)]) dO._auto_1) (m:autoParam ((backTo a<|starEach [b] X.env).any (·.1)=false) dO._auto_1):PE X (.Call (.Attribute o "insert" c) [e,b] [] a) (tD (md X)<|jd GA f<|aq g<|aq k av):=
 ko (xC PySem.F.plainAttrs_list PySem.F.slot_list_insert PySem.F.type_list_insert Hh n (dA p (dA q jN j) l) d i h l m) (M0 Mi)
noncomputable def LQ:List D->List D->Option (List D×D):=λ_ a=>match a with
 | []=>some ([],.non)
 |_=>none
def Nz:DA M FT LQ:=by
 intro j H a m i l d c h Q f k g e q
 unfold LQ at e
 split at e
 ·let#[rfl,rfl]:=cH e
  cases g
  show#[a,c,L,L,f,q _ _ .nil .non]
 ·cases e
def Qk{c a:Pos}(h:PE X o (tD (md X) f))(g:autoParam (attributeBase o "clear" X.env (eval o X.env)=eval o X.env) dO._auto_1)(d:autoParam ((c.endLine==a.line)=true) dO._auto_1):PE X (.Call (.Attribute o "clear" c) [] [] a) (tD (md X)<|jd LQ f av):=
 ko (I0 PySem.F.plainAttrs_list PySem.F.slot_list_clear PySem.F.type_list_clear GV h g d) (L7 Nz)
end DL
namespace L2
open PyProof.Rows
def Q5(K:X1)(n:Nat)(t:JB):TG:=λv d H Q=>∃a b,v=.ref a/\jm K H a b/\b.length=n/\t b d H Q
def M_{X:Cx}(F:X.calm=true)(h:HG X f t)
  (A:autoParam ((assignEach f X.env).length=n) dO._auto_1) (g:autoParam ((assignEach f X.env).findIdx? (·.1)=none) dO._auto_1):PG X (.Tuple f k c) (Q5 X.K n t):=by
 intro d s m H v u Q I r j
 let#[a,z,C,w,x,j]:=j
 subst C
 cases r
 let#[i,l,y,G]:=I.list w
 rw[assign_Tuple]
 show Qaq<|wpAny_standAt ?_
 unfold unpack
 rw[show(assignEach f X.env).length=i.toArray.size by simp[A,<-x,l.length],g]
 show Qaq<|QLq (PySem.W.kun_itemsOf (I.ok.hd F) y.isList λq B=>?_)
 have p:Inv X d m H {s with heap:=q}:=I.kept (t':=s.toks) λb o e=>B b o (Qwq<|Qiq e) e
 show h d _ m H z _ Q p (by simpa using l) j
end L2
namespace DL
open PyProof.Rows L2
noncomputable def Ip(g:qj):oM:=λd a S=>match d with
 | .ref k=>match S[k]? with
   |some (.lst ds)=>g ds a S
   |_=>none
 |_=>none
def Re{X:Cx}(y:X.calm=true)(h:HG X f (Pw (md X) g))(u:autoParam ((assignEach f X.env).length=n) dO._auto_1)(i:autoParam ((assignEach f X.env).findIdx? (·.1)=none) dO._auto_1):
  PG X (.Tuple f k b) (tG (md X)<|Ip<|nG n g):=Qe (M_ y h u i) λv z H Q ⟨s,t,S,d,j,w,ok,r,e,q⟩=>by
 cases r with
 | @ref k a hr=>
   erw[Ip,nG] at e
   split at e
   · rename_i p x
     split at e
     · rename_i c
       let#[m,o,l]:=ok.st.obj k a _ hr x
       show#[a,m,L,jm.of o,by rw[<-l.length];show c,s,t,S,p,j,w,ok,l,e,q]
     · cases e
   · cases e
 |_=>cases e
end DL
namespace W28
open L2 DL
abbrev bU:=aQ fO
abbrev bM(v:Nat)(k:Int):=aQ fO (ar v) (cF<|.int k)
abbrev gD(v:Nat)(k:Int):=aq (aQ fO (ar v)<|cF<|.int k)
abbrev i_(x:Str):=aq (cF<|.str x)
abbrev bA(k:Int):=cF (.int k)
abbrev aC(k:Nat):=aq (ar k)
abbrev eO(k:Int):=aq (cF<|.int k)
def sS:cJ:=
 (aD (aW 2 (bA 0))
 (aD (de (aH (aQ Dv (ar 1) (gP (aP (ar 0))))) (aW 2 (vg Lr (aq (bU (ar 0) (ar 1)) av))) fK)
 (aD (aW 3 (aQ oX (aQ u5 (ar 2) (aQ oX (aQ A5 (bA 10) (bA 60)) (aQ A5 (bA 10) (bA 60)))) (vg intOfD (aq (aQ PJ (ar 2) (aQ A5 (bA 10) (bA 18))) av))))
 (HF (bD (aC 3 (aq (aQ u5 (aQ cD (aQ cD (ar 2) (aQ oX (bA 104729) (ar 1))) (bA 7)) (bA 2305843009213693951)) (eO 0 av))))))))
def oQ:c8:=fB 4 sS
def pY:cJ:=
 (aD (de (aH (aQ Kf (bM 0 0) (bA 0))) (aD (aW 2 (aQ u5 (bM 0 0) (ar 1)))
 (aD (kc (aQ zr (bM 0 0) (ar 1)) (xS (ar 0) (bA 0)))
 (cy (ar 2)))) fK)
 (aD (Qg (ar 0) (bA 2) (bA 1))
 (aD (aW 3 (aQ u5 (aQ cD (aQ cD (aQ oX (bM 0 1) (bA 69069)) (aQ oX (bA 9973) (bM 0 2))) (bA 5)) (bA 2305843009213693921)))
 (aD (kc (aQ u5 (aQ oX (ar 3) (aQ cD (aQ cD (aQ u5 (ar 3) (bA 999983)) (aQ oX (bA 2) (bM 0 2))) (bA 3))) (bA 2305843009213693907)) (xS (ar 0) (bA 1)))
 (cy (aQ u5 (aQ zr (bM 0 1) (bA 65537)) (ar 1)))))))
def aJ:c8:=fB 4 pY
def mL:cJ:=
 (aD (aW 3 (bO (bG [none,some 1] (fT (gU (bD (i_ "a" (i_ "b" (i_ "c" (i_ "d" (i_ "e" (i_ "zz" av))))))))) (bJ 0) bQ (aQ cD (ar 1) (ar 0)))))
 (HF (Fq (gU (bG [none,some 0,some 3] (vO (ar 2)) (bJ 0) bQ (jd g_ (ar 2) (aq (az aJ (aC 1 (aq (gP (aP (ar 2))) av))) av)))))))
def dr:c8:=fB 4 mL
def pT:cJ:=
 (cy<|bU (ar 1)<|az aJ<|aC 0<|aq (gP<|aP<|ar 1) av)
def bR:c8:=fB 2 pT
def tU(a:c8):cJ:=
 (aD (aW 4 (az aJ (aC 0 (eO 9 av))))
 (aD (de (Nq (aH (aQ Dv (ar 3) (bA 1))) (aH (aQ Dv (ar 4) (bA 3)))) (aD (de (iP (aH (dg (aP (ar 1)))) (aH (aQ Kf (az aJ (aC 0 (eO 3 av))) (bA 0)))) (cy (az bR (aC 0 (aC 1 av)))) fK)
 (cy (az aJ (aC 0 (aq (bU (bO (bD (eO 3 (eO 10 av)))) (vg intOfD (aq (aQ (dE false) (az aJ (aC 0 (eO 5 av))) (bA 0)) av))) av))))) fK)
 (aD (de (iP (aH (aQ (dE false) (ar 4) (bA 3))) (aH (dg (aP (ar 2))))) (cy (bp (i_ "waits" (aq (az bR (aC 0 (aC 2 av))) av)))) fK)
 (aD (de (aH (aQ (dE false) (ar 4) (bA 4))) (cy (bp (i_ "not" (aq (az a (aC 0 (aC 1 (aC 2 (aq (aQ kb (ar 3) (bA 1)) av))))) av)))) fK)
 (aD (aW 5 (bU (bO (bD (i_ "plus" (i_ "minus" (i_ "less" (i_ "same" (i_ "both" av))))))) (az aJ (aC 0 (eO 5 av)))))
 (cy (bp (aC 5 (aq (az a (aC 0 (aC 1 (aC 2 (aq (aQ kb (ar 3) (bA 1)) av))))) (aq (az a (aC 0 (aC 1 (aC 2 (aq (aQ kb (ar 3) (bA 1)) av))))) av))))))))))
def bH:Nat->c8
 |0=>λ_ _=>none
 |n+1=>fB 6 (tU<|bH n)
def mW:cJ:=
 (aD (aW 4 (bU (bO (bD (eO 0 (i_ "given" (aq (az (bH 4) (aC 0 (aC 1 (aC 2 (eO 1 av))))) av))))) (az aJ (aC 0 (eO 3 av)))))
 (aD (aW 5 (bp (i_ "wait" (aq (az bR (aC 0 (aC 2 av))) (aC 4 av)))))
 (aD (aW 6 (az aJ (aC 0 (eO 3 av))))
 (aD (de (aH (aQ (dE false) (ar 6) (bA 0))) (HF (bD (aC 5 av))) fK)
 (aD (aW 7 (bp (i_ "not" (aq (az (bH 4) (aC 0 (aC 1 (aC 2 (eO 2 av))))) av))))
 (HF (bD (aq (bp (i_ "unless" (aC 7 (aq (aQ cD (ar 3) (bA 3)) av)))) (aC 5 (aq (bp (i_ "go" (aq (bU (bO (bD (aC 3 (aq (aQ cD (ar 3) (bA 3)) av)))) (aQ kb (ar 6) (bA 1))) av))) av))))))))))
def jU:c8:=fB 8 mW
def wH:cJ:=
 (aD (kc (az bR (aC 0 (aC 1 av))) (kP (nG 2 (aK (bJ 4) (aK (bJ 5) dC)))))
 (aD (aW 6 (az bR (aC 0 (aq (bO (A4 (gU (bD (aq (cF .non) av))) (aP (ar 2)))) av))))
 (cy (bp (i_ "do" (aC 6 (aC 4 (aC 5 (aq (az (bH 4) (aC 0 (aC 3 (aq (bO (bD av)) (eO 1 av))))) av)))))))))
def mZ:c8:=fB 7 wH
def qx:cJ:=
 (aD (kc (ar 1) (kP (nG 3 (aK (bJ 4) (aK (bJ 5) (aK (bJ 6) dC))))))
 (aD (aW 7 (bO (A4 (aP (ar 5)) (gU (bD (i_ "given" av))))))
 (aD (aW 8 (bO (bD av)))
 (aD (iV (vO (aQ cD (bA 1) (az aJ (aC 0 (aC 3 av))))) (bJ 9) (aD (aW 10 (az aJ (aC 0 (eO 9 av))))
 (de (iP (aH (aQ Dv (ar 10) (bA 2))) (aH (dg (aP (ar 6))))) (g8 (Ad (ar 8) (gU (dN jU (aC 0 (aC 7 (aC 6 (aq (gP (aP (ar 8))) av)))))))) (de (iP (aH (aQ Dv (ar 10) (bA 4))) (aH (dg (aP (ar 6))))) (aD (aW 11 (bU (bO (bD (i_ "call" (i_ "all" av)))) (vg intOfD (aq (sR (aQ (dE false) (ar 4) (cF (.str "when free"))) (aQ (dE false) (ar 10) (bA 3))) av))))
 (g8 (jd eN (ar 8) (aq (bp (aC 11 (aq (az bR (aC 0 (aC 6 av))) av))) av)))) (de (iP (aH (aQ (dE false) (ar 10) (bA 4))) (aH (dg (aP (ar 2))))) (g8 (jd eN (ar 8) (aq (az mZ (aC 0 (aC 2 (aC 5 (aC 7 av))))) av))) (de (aH (aQ (dE false) (ar 10) (bA 5))) (aD (g8 (jd eN (ar 8) (aq (bp (i_ "unless" (aq (az (bH 4) (aC 0 (aC 7 (aC 6 (eO 2 av))))) (aq (aQ cD (gP (aP (ar 8))) (bA 2)) av)))) av)))
 (g8 (jd eN (ar 8) (aq (bp (i_ "tell" (aq (az aJ (aC 0 (eO 10 av))) av))) av)))) (de (iP (aH (aQ Dv (ar 10) (bA 8))) (aH (dg (aP (ar 5))))) (g8 (jd eN (ar 8) (aq (bp (i_ "put" (aq (az bR (aC 0 (aC 5 av))) (aq (az (bH 4) (aC 0 (aC 7 (aC 6 (eO 2 av))))) av)))) av))) (g8 (jd eN (ar 8) (aq (bp (i_ "tell" (aq (az (bH 4) (aC 0 (aC 7 (aC 6 (eO 1 av))))) av))) av))))))))))
 (cy (tupQ (cO (aP (ar 8)))))))))
def mf:c8:=fB 12 qx
def pW:cJ:=
 (aD (aW 5 (az bR (aC 0 (aC 3 av))))
 (aD (aW 6 (bO (dN dr (aC 0 (i_ "" (aq (bU (bO (bD (eO 1 (eO 1 (eO 2 (eO 0 av)))))) (az aJ (aC 0 (eO 4 av)))) av))))))
 (aD (aW 7 (bO (dN dr (aC 0 (i_ "" (aq (az aJ (aC 0 (aq (aQ cD (ar 4) (bA 1)) av))) av))))))
 (aD (aW 8 (bO (bD av)))
 (aD (iV (fT (gU (dN dr (aC 0 (i_ "" (aq (aQ cD (bA 1) (az aJ (aC 0 (eO 3 av)))) av)))))) (bJ 9) (aD (aW 10 (bO (bG [none,some 1] (fT (aP (ar 8))) (bJ 0) bQ (bp (aC 1 (gD 0 0 av))))))
 (aD (aW 11 (bO (A4 (aP (ar 2)) (gU (K6 (aP (ar 10)) (vg intOfD (aq (aQ (dE false) (az aJ (aC 0 (eO 5 av))) (bA 0)) av)))))))
 (g8 (jd eN (ar 8) (aq (bp (aC 9 (aq (az mf (aC 0 (aq (bp (aC 5 (aC 6 (aC 7 av)))) (aC 11 (eO 4 av))))) av))) av))))))
 (aD (aW 12 (tupQ (gU (bG [none,some 0] (fT (aP (ar 7))) (bJ 0) bQ (bp (aC 0 (aq (bU (bO (bD (i_ "row" (i_ "turns" av)))) (az aJ (aC 1 (eO 2 av)))) av)))))))
 (cy (bp (aC 1 (aC 5 (aq (tupQ (gU (bG [none,some 0] (fT (aP (ar 6))) (bJ 0) bQ (bp (aC 0 (aq (az aJ (aC 1 (eO 3 av))) av)))))) (aC 12 (aq (tupQ (cO (aP (ar 8)))) av)))))))))))))
def lX:c8:=fB 13 pW
def uP:cJ:=
 (aD (aW 4 (bO (dN dr (aC 0 (i_ "" (aC 1 av))))))
 (aD (aW 5 (bO (bD av)))
 (aD (Kg (aH (dg (aP (ar 4)))) (aD (aW 6 (bO (bD av)))
 (aD (iV (fT (aP (ar 5))) (bJ 7) (g8 (Ad (ar 6) (gU (bG [none,some 7] (fT (aP (bM 7 4))) (bJ 0) bQ (bp (gD 1 0 (gD 0 0 av))))))))
 (aD (aW 8 (jd g_ (ar 4) (aq (az aJ (aC 0 (aq (gP (aP (ar 4))) av))) av)))
 (g8 (jd eN (ar 5) (aq (az lX (aC 0 (aC 8 (aC 6 (aC 2 (aC 3 av)))))) av)))))) 4)
 (cy (tupQ (gU (Bf (aP (ar 5)))))))))
def jO:c8:=fB 9 uP
def sH:cJ:=
 (aD (aW 5 (bO (bD av)))
 (aD (iV (vO (aQ cD (bA 1) (az aJ (aC 0 (aC 4 av))))) (bJ 6) (aD (aW 7 (az aJ (aC 0 (eO 10 av))))
 (de (iP (aH (aQ Dv (ar 7) (bA 5))) (aH (dg (aP (ar 1))))) (g8 (jd eN (ar 5) (aq (az mZ (aC 0 (aC 1 (aC 2 (aC 2 av))))) av))) (de (iP (aH (aQ (dE false) (ar 7) (bA 5))) (aH (dg (aP (ar 3))))) (g8 (jd eN (ar 5) (aq (bp (aq (bU (bO (bD (i_ "take" (i_ "give" av)))) (az aJ (aC 0 (eO 2 av)))) (aq (az bR (aC 0 (aC 3 av))) av))) av))) (de (iP (aH (aQ (dE false) (ar 7) (bA 6))) (aH (dg (aP (ar 3))))) (g8 (jd eN (ar 5) (aq (bp (i_ "pass" (aq (az bR (aC 0 (aC 3 av))) (aq (az bR (aC 0 (aC 3 av))) av)))) av))) (de (iP (aH (aQ (dE false) (ar 7) (bA 7))) (aH (dg (aP (ar 2))))) (g8 (jd eN (ar 5) (aq (bp (i_ "put" (aq (az bR (aC 0 (aC 2 av))) (aq (az (bH 4) (aC 0 (aC 2 (aq (bO (bD av)) (eO 2 av))))) av)))) av))) (de (aH (aQ (dE false) (ar 7) (bA 8))) (aD (g8 (jd eN (ar 5) (aq (bp (i_ "unless" (aq (az (bH 4) (aC 0 (aC 2 (aq (bO (bD av)) (eO 2 av))))) (aq (aQ cD (gP (aP (ar 5))) (bA 2)) av)))) av)))
 (g8 (jd eN (ar 5) (aq (bp (i_ "say" (aq (az (bH 4) (aC 0 (aC 2 (aq (bO (bD av)) (eO 1 av))))) av))) av)))) (g8 (jd eN (ar 5) (aq (bp (i_ "say" (aq (az (bH 4) (aC 0 (aC 2 (aq (bO (bD av)) (eO 1 av))))) av))) av))))))))))
 (aD (de (aH (aQ (dE false) (az aJ (aC 0 (eO 5 av))) (bA 0))) (g8 (jd eN (ar 5) (aq (bp (i_ "go" (aq (az aJ (aC 0 (aq (aQ cD (gP (aP (ar 5))) (bA 2)) av))) av))) av))) fK)
 (cy (tupQ (cO (aP (ar 5))))))))
def oH:c8:=fB 8 sH
def nZ:cJ:=
 (aD (aW 4 (bO (bD av)))
 (aD (iV (fT (aP (ar 1))) (bJ 5) (g8 (Ad (ar 4) (gU (bG [none,some 5] (fT (aP (bM 5 4))) (bJ 0) bQ (bp (gD 1 0 (gD 0 0 av))))))))
 (aD (aW 6 (bO (dN dr (aC 0 (i_ "p" (aq (az aJ (aC 0 (aq (aQ cD (ar 3) (bA 1)) av))) av))))))
 (aD (aW 7 (bO (dN dr (aC 0 (i_ "o" (aq (bU (bO (bD (eO 0 (eO 0 (eO 1 (eO 2 av)))))) (az aJ (aC 0 (eO 4 av)))) av))))))
 (aD (aW 8 (bO (bD av)))
 (aD (iV (vO (ar 2)) (bJ 9) (aD (aW 10 (bO (dN dr (aC 0 (i_ "" (aq (bU (bO (bD (eO 0 (eO 1 (eO 1 (eO 2 av)))))) (az aJ (aC 0 (eO 4 av)))) av))))))
 (aD (aW 11 (az oH (aC 0 (aC 4 (aq (bO (A4 (aP (ar 10)) (aP (ar 7)))) (aC 6 (eO 4 av)))))))
 (g8 (jd eN (ar 8) (aq (bp (aq (tupQ (gU (bG [none,some 0] (fT (aP (ar 10))) (bJ 0) bQ (bp (aC 0 (aq (az aJ (aC 1 (eO 3 av))) av)))))) (aC 11 av))) av))))))
 (aD (aW 12 (tupQ (gU (bG [none,some 0] (fT (aP (ar 6))) (bJ 0) bQ (bp (aC 0 (aq (az aJ (aC 1 (eO 3 av))) av)))))))
 (cy (bp (aC 1 (aC 12 (aq (tupQ (gU (bG [none,some 0] (fT (aP (ar 7))) (bJ 0) bQ (bp (aC 0 (aq (az aJ (aC 1 (eO 3 av))) av)))))) (aq (tupQ (cO (aP (ar 8)))) av)))))))))))))
def jS:c8:=fB 13 nZ
def iO:cJ:=
 (aD (aW 1 (az jO (aC 0 (aq (bU (bO (bD (eO 1 (eO 2 (eO 3 (eO 1 (eO 2 (eO 0 av)))))))) (az aJ (aC 0 (eO 6 av)))) (aq (bO (bD (i_ "at once" (i_ "when free" av)))) (eO 2 av))))))
 (cy (az jS (aC 0 (aC 1 (aq (aQ cD (bA 1) (az aJ (aC 0 (eO 4 av)))) (eO 2 av)))))))
def fh:c8:=fB 2 iO
def n_:cJ:=
 (aD (aW 1 (bO (bD av)))
 (aD (iV (fT (aP (bM 0 0))) (kP (nG 5 (aK (bJ 2) (aK (bJ 3) (aK (bJ 4) (aK (bJ 5) (aK (bJ 6) dC))))))) (g8 (jd eN (ar 1) (aq (bO (bD (aq (bO (bG [none,none] (fT (aP (ar 4))) (kP (nG 2 (aK (bJ 0) (aK (bJ 1) dC)))) bQ (ar 1))) (aq (g6 (bA 1)) (aq (bO (bD av)) (aq (bO (bD av)) (aq (bO (bG [none] (fT (aP (ar 5))) (bJ 0) bQ (bO (bD av)))) av))))))) av))))
 (aD (aW 7 (bO (bD av)))
 (aD (iV (fT (aP (bM 0 3))) (kP (nG 2 (aK (bJ 4) (aK (bJ 8) dC)))) (g8 (jd eN (ar 7) (aq (bO (bD (aq (bO (bG [none,none] (fT (aP (ar 4))) (kP (nG 2 (aK (bJ 0) (aK (bJ 1) dC)))) bQ (ar 1))) (aq (bO (bD (aq (bO (bD (aq (g6 (bA 1)) (aq (g6 (bA 1)) (eO 0 (eO 0 (eO 0 av))))))) av))) av)))) av))))
 (HF (bD (aC 1 (aq (bO (bG [none,none] (fT (aP (bM 0 1))) (kP (nG 2 (aK (bJ 0) (aK (bJ 1) dC)))) bQ (bO (bD (aC 1 (aq (bO (bD av)) av)))))) (aq (bO (bG [none,none] (fT (aP (bM 0 2))) (kP (nG 2 (aK (bJ 0) (aK (bJ 1) dC)))) bQ (ar 1))) (aC 7 av))))))))))
def jK:c8:=B0 9 n_
def qm:cJ:=
 (cy<|tupQ<|gU<|bG [none,none] (fT<|aP<|ar 0) (kP<|nG 2<|aK (bJ 0)<|aK (bJ 1) dC) bQ<|ar 1)
def hV:c8:=fB 1 qm
def m6:cJ:=
 (aD (kc (ar 0) (kP (nG 5 (aK (bJ 1) (aK (bJ 2) (aK (bJ 3) (aK (bJ 4) (aK (bJ 5) dC))))))))
 (cy (bp (aq (az hV (aC 3 av)) (aq (cF (.int (-1))) (aq (bp av) (aq (bp av) (aq (tupQ (gU (bG [none] (fT (aP (ar 4))) (bJ 0) bQ (bp av)))) av))))))))
def jT:c8:=fB 6 m6
def EF:cJ:=
 (aD (kc (ar 0) (kP (nG 4 (aK (bJ 1) (aK (bJ 2) (aK (bJ 3) (aK (bJ 4) dC)))))))
 (aD (aW 5 (bp (aq (cF (.int (-1))) (aq (cF (.int (-1))) (eO 0 (eO 0 (eO 0 av)))))))
 (cy (bp (aq (tupQ (gU (bG [none] (fT (aP (ar 1))) (bJ 0) bQ (az jT (aC 0 av))))) (aq (tupQ (gU (bG [none,none] (fT (aP (ar 2))) (kP (nG 2 (aK (bJ 0) (aK (bJ 1) dC)))) bQ (bp (aC 1 (aq (bp av) av)))))) (aq (az hV (aC 3 av)) (aq (tupQ (gU (bG [none,none,some 5] (fT (aP (ar 4))) (kP (nG 2 (aK (bJ 0) (aK (bJ 1) dC)))) bQ (bp (aq (az hV (aC 0 av)) (aq (bp (aC 2 av)) av)))))) av))))))))
def wb:c8:=fB 6 EF
def jk:cJ:=
 (aD (iV (fT (aP (bM 0 0))) (Ip (nG 5 (aK (bJ 2) (aK (bJ 3) (aK (bJ 4) (aK (bJ 5) (aK (bJ 6) dC))))))) (aD (de (aH (Bt false (ar 1) (gU (A4 (aP (ar 4)) (aP (ar 5)))))) (cy (cF (.bl true))) fK)
 (iV (fT (aP (ar 6))) (bJ 7) (de (aH (Bt false (ar 1) (gU (bG [none,none] (fT (aP (ar 7))) (kP (nG 2 (aK (bJ 0) (aK (bJ 1) dC)))) bQ (ar 1))))) (cy (cF (.bl true))) fK))))
 (cy (Lw (gU (bG [none,none,some 1] (fT (aP (bM 0 1))) (Ip (nG 2 (aK (bJ 0) (aK (bJ 1) dC)))) bQ (Bt false (ar 2) (aP (ar 1))))))))
def gL:c8:=fB 8 jk
def tY:cJ:=
 (aD (aW 2 (bO (bD av)))
 (aD (iV (vO (gP (aP (bM 0 3)))) (bJ 3) (aD (aW 4 (bU (bU (bU (bM 1 3) (ar 3)) (bA 1)) (g6 (bA 1))))
 (aD (aW 5 (sR (aQ Dv (bM 4 0) (bA 0)) (aQ (dE false) (bM 4 2) (gP (aP (bU (bU (bM 0 3) (ar 3)) (bA 1)))))))
 (de (iP (xY (kK (ar 5))) (xY (kK (az gL (aC 1 (aC 3 av)))))) (g8 (jd eN (ar 2) (aC 3 av))) fK))))
 (cy (ar 2))))
def oT:c8:=fB 6 tY
def sV:cJ:=
 (HF<|bG [none,none] (fT<|aP<|ar 0) (kP<|nG 2<|aK (bJ 0)<|aK (bJ 1) dC) bQ<|ar 1)
def oU:c8:=fB 1 sV
def jf:cJ:=
 (aD (aW 1 (bO (bD av)))
 (aD (iV (fT (aP (bM 0 1))) (kP (nG 2 (aK (bJ 2) (aK (bJ 3) dC)))) (g8 (zq (ar 1) (aP (ar 3)))))
 (aD (iV (fT (aP (bM 0 0))) (kP (nG 5 (aK (bJ 4) (aK (bJ 5) (aK (bJ 3) (aK (bJ 6) (aK (bJ 7) dC))))))) (aD (g8 (zq (ar 1) (aP (aQ cD (ar 3) (ar 6)))))
 (iV (fT (aP (ar 7))) (bJ 8) (g8 (Ad (ar 1) (gU (dN oU (aC 8 av))))))))
 (cy (ar 1)))))
def fG:c8:=fB 9 jf
def mY:cJ:=
 (cy<|bU (bU (bU (bM 0 3)<|ar 1)<|bA 1)<|g6<|bA 1)
def dq:c8:=fB 2 mY
def om:cJ:=
 (aD (HQ 3 4 (gD 2 0 (gD 2 1 av)))
 (aD (de (aH (aQ (dE false) (ar 3) (cF (.int (-1))))) (cy (bU (bU (bM 0 3) (ar 1)) (bA 1))) fK)
 (cy (bU (bU (bU (bU (bM 0 0) (ar 3)) (bA 4)) (ar 4)) (bA 1)))))
def gu:c8:=fB 5 om
def jA:cJ:=
 (aD (aW 3 (az dq (aC 1 (aC 2 av))))
 (cy (sR (aQ (dE false) (bM 3 0) (cF (.int (-1)))) (aQ (dE false) (bM 3 2) (gP (aP (az gu (aC 0 (aC 2 (aC 3 av))))))))))
def gI:c8:=fB 4 jA
def tR:cJ:=
 (aD (aW 2 (bO (dN fG (aC 1 av))))
 (HF (bG [none,some 0,some 1,some 2] (vO (gP (aP (bM 1 3)))) (bJ 0) (iP (aH (Bt true (ar 0) (aP (ar 3)))) (xY (kK (az gI (aC 1 (aC 2 (aC 0 av))))))) (ar 0))))
def i9:c8:=fB 3 tR
def ql:cJ:=
 (aD (de (iP (aH (Bt false (ar 2) (aP (ar 1)))) (aH (aQ (dE false) (az aJ (aC 0 (eO 2 av))) (bA 0)))) (cy (ar 2)) fK)
 (cy (az bR (aC 0 (aC 1 av)))))
def mi:c8:=fB 3 ql
def j6:cJ:=
 (aD (de (aH (aQ Dv (bM 2 0) (bA 0))) (cy (bU (bU (bM 0 3) (ar 1)) (bA 1))) fK)
 (cy (bU (bU (bU (bU (bM 0 0) (bM 2 0)) (bA 4)) (bM 2 1)) (bA 1))))
def fU:c8:=fB 3 j6
def oo:cJ:=
 (de (aH<|aQ Dv (bM 0 1)<|bA 0) (kc (ar 1)<|xS (ar 0)<|bA 1)<|g8<|jd eN (bM 0 2)<|aC 1 av)
def iu:c8:=B0 2 oo
def m7:cJ:=
 (aD (kc (g6 (bA 1)) (xS (ar 0) (bA 1)))
 (de (aH (dg (aP (bM 0 3)))) (kc (jd g_ (bM 0 3) (eO 0 av)) (xS (ar 0) (bA 1))) (de (aH (dg (aP (bM 0 2)))) (kc (jd g_ (bM 0 2) (eO 0 av)) (xS (ar 0) (bA 1))) fK)))
def ij:c8:=B0 1 m7
def p9:cJ:=
 (cy<|J6 (gU<|bG [none] (fT<|aP<|ar 0) (bJ 0) bQ<|bM 0 0)<|ar 1)
def da:c8:=fB 2 p9
def sW:cJ:=
 (aD (aW 5 (bU (bU (bU (bM 1 3) (ar 2)) (bA 1)) (g6 (bA 1))))
 (de (aH (aQ PJ (bM 5 0) (bA 0))) (kc (ar 4) (xS (bU (bU (bM 1 0) (bM 5 0)) (bA 0)) (az da (aq (bU (bU (bM 0 0) (bM 5 0)) (bA 2)) (aC 3 av))))) (de (aH (Bt false (ar 3) (gU (bG [none] (fT (aP (bU (bU (bM 0 3) (ar 2)) (bA 0)))) (bJ 0) bQ (bM 0 0))))) (kc (ar 4) (xS (bU (bU (bM 1 3) (ar 2)) (bA 0)) (az da (aq (bU (bU (bM 0 3) (ar 2)) (bA 0)) (aC 3 av))))) (kc (ar 4) (xS (bM 1 2) (az da (gD 0 2 (aC 3 av))))))))
def kh:c8:=B0 6 sW
def sG:cJ:=
 (aD (aW 3 (bU (bU (bM 1 3) (ar 2)) (bA 1)))
 (aD (kc (jd G1 (ar 3) av) (Ip (nG 5 (aK (bJ 4) (aK (bJ 5) (aK (bJ 6) (aK (bJ 7) (aK (bJ 8) dC))))))))
 (aD (g8 (az ij (aq (bU (bM 1 0) (ar 4)) av)))
 (aD (aW 9 (bU (az fU (aC 0 (aC 2 (aq (bU (ar 3) (g6 (bA 1))) av)))) (aQ kb (bU (bU (ar 3) (g6 (bA 1))) (bA 2)) (bA 1))))
 (de (aH (aQ (wF true) (bM 9 1) (cF .non))) (g8 (az kh (aC 0 (aC 1 (aC 2 (gD 9 1 (aC 8 av))))))) fK)))))
def oE:c8:=B0 10 sG
def nX(a:c8):cJ:=
 (aD (de (kK (pO "int" (ar 0))) (cy (ar 0)) fK)
 (aD (de (kK (pO "str" (ar 0))) (cy (M7 (ar 1) (ar 0))) fK)
 (aD (de (aH (aQ (dE false) (bM 0 0) (cF (.str "waits")))) (cy (vg intOfD (aq (aQ Kf (M7 (ar 2) (bM 0 1)) (bA 0)) av))) fK)
 (aD (aW 3 (bO (bG [none,some 1,some 2] (fT (aP (uK (ar 0) (sQ (bA 1)) ua))) (bJ 0) bQ (az a (aC 0 (aC 1 (aC 2 av)))))))
 (aD (de (aH (aQ (dE false) (bM 0 0) (cF (.str "not")))) (cy (vg intOfD (aq (aQ (dE false) (bM 3 0) (bA 0)) av))) fK)
 (aD (kc (ar 3) (Ip (nG 2 (aK (bJ 4) (aK (bJ 5) dC)))))
 (aD (de (aH (aQ (dE false) (bM 0 0) (cF (.str "plus")))) (cy (vg minD (eO 9 (aq (aQ cD (ar 4) (ar 5)) av)))) fK)
 (aD (de (aH (aQ (dE false) (bM 0 0) (cF (.str "minus")))) (cy (vg maxD (eO 0 (aq (aQ kb (ar 4) (ar 5)) av)))) fK)
 (aD (de (aH (aQ (dE false) (bM 0 0) (cF (.str "less")))) (cy (vg intOfD (aq (aQ Dv (ar 4) (ar 5)) av))) fK)
 (cy (vg intOfD (aq (yq (aH (aQ (dE false) (bM 0 0) (cF (.str "same")))) (aQ (dE false) (ar 4) (ar 5)) (sR (aQ Kf (ar 4) (bA 0)) (aQ Kf (ar 5) (bA 0)))) av))))))))))))
def eP:Nat->c8
 |0=>λ_ _=>none
 |n+1=>fB 6 (nX<|eP n)
def k0:cJ:=
 (aD (aW 4 (bU (bU (bU (bM 1 3) (ar 2)) (bA 1)) (g6 (bA 1))))
 (aD (de (aH (aQ Dv (bM 4 0) (bA 0))) (aD (aW 5 (aQ cD (bU (bU (bM 0 3) (ar 2)) (bA 0)) (bM 0 2)))
 (aD (aW 6 (bO (A4 (aP (bU (bU (bM 1 3) (ar 2)) (bA 0))) (aP (bM 1 2)))))
 (cy (az (eP 5) (aC 3 (aq (Kq (gU (bG [none] (fT (aP (ar 5))) (bJ 0) bQ (bM 0 0))) (aP (ar 6))) (aq PZ av))))))) fK)
 (aD (aW 7 (bU (bM 0 0) (bM 4 0)))
 (aD (aW 8 (Kq (gU (bG [none] (fT (aP (bM 7 2))) (bJ 0) bQ (bM 0 0))) (aP (bU (bU (bM 1 0) (bM 4 0)) (bA 0)))))
 (aD (PC (ar 8) (cF (.str "given")) (bM 4 3))
 (aD (aW 9 (bO (bG [none] (fT (aP (bU (bU (bM 1 0) (bM 4 0)) (bA 4)))) (bJ 0) bQ (gP (aP (ar 0))))))
 (aD (aW 10 (Kq (gU (bG [none] (fT (aP (bM 7 3))) (bJ 0) bQ (bM 0 0))) (aP (ar 9))))
 (cy (az (eP 5) (aC 3 (aC 8 (aC 10 av))))))))))))
def cX:c8:=fB 11 k0
def qL:cJ:=
 (aD (aW 4 (bU (bU (bU (bU (bM 1 3) (ar 2)) (bA 1)) (g6 (bA 1))) (bA 0)))
 (aD (aW 5 (bU (bM 1 0) (ar 4)))
 (aD (aW 6 (az da (aq (bU (bU (bM 0 0) (ar 4)) (bA 3)) (gD 3 1 av))))
 (aD (aW 7 (bU (bM 5 4) (ar 6)))
 (de (aH (aQ (dE false) (bM 3 0) (cF (.str "wait")))) (aD (aW 8 (aQ oX (az cX (aC 0 (aC 1 (aC 2 (gD 3 2 av))))) (vg intOfD (aq (aQ (dE false) (bU (bU (bU (bU (bM 0 0) (ar 4)) (bA 3)) (ar 6)) (bA 1)) (cF (.str "turns"))) av))))
 (aD (g8 (jd GA (ar 7) (aq (gP (gU (bG [none,some 8] (fT (aP (ar 7))) (bJ 0) (aH (aQ Qf (bM 0 0) (ar 1))) (ar 0)))) (aq (bp (aC 8 (aC 2 av))) av))))
 (g8 (az ij (aC 5 av))))) (de (aH (aQ (dE false) (bM 3 0) (cF (.str "all")))) (g8 (jd LQ (ar 7) av)) (de (aH (dg (aP (ar 7)))) (aD (aW 9 (jd g_ (ar 7) (eO 0 av)))
 (de (aH (aQ (dE false) (bU (bU (bM 0 0) (ar 4)) (bA 1)) (cF (.str "at once")))) (aD (kc (bM 9 1) (xS (ar 5) (bA 1)))
 (g8 (jd eN (bM 5 3) (aC 2 av)))) fK)) fK)))))))
def lZ:c8:=B0 10 qL
def qA:cJ:=
 (de (aH<|dg<|aP<|bM 0 1) (g8<|jd g_ (bM 0 1)<|eO 0 av)<|kc (vg minD<|eO 9<|aq (aQ cD (bM 0 0)<|bA 1) av)<|xS (ar 0)<|bA 0)
def lU:c8:=B0 1 qA
def sC:cJ:=
 (de (aH<|aQ Kf (bM 0 0)<|bA 0) (kc (aQ kb (bM 0 0)<|bA 1)<|xS (ar 0)<|bA 0)<|g8<|jd eN (bM 0 1)<|aC 1 av)
def oG:c8:=B0 2 sC
def j2:cJ:=
 (aD (de (aH (aQ (dE true) (bM 3 0) (cF (.str "take")))) (g8 (az lU (aq (bU (bM 1 1) (az da (gD 0 1 (gD 3 1 av)))) av))) fK)
 (de (aH (aQ (dE true) (bM 3 0) (cF (.str "give")))) (g8 (az oG (aq (bU (bM 1 1) (az da (gD 0 1 (aq (bU (ar 3) (g6 (bA 1))) av)))) (aC 2 av)))) fK))
def ia:c8:=B0 4 j2
def tE:cJ:=
 (aD (aW 4 (bU (bU (bU (bM 1 3) (ar 2)) (bA 1)) (g6 (bA 1))))
 (aD (de (aH (aQ (dE false) (bM 3 0) (cF (.str "put")))) (g8 (az kh (aC 0 (aC 1 (aC 2 (gD 3 1 (aq (az cX (aC 0 (aC 1 (aC 2 (gD 3 2 av))))) av))))))) (de (aH (aQ (dE false) (bM 3 0) (cF (.str "unless")))) (de (aH (aQ (dE false) (az cX (aC 0 (aC 1 (aC 2 (gD 3 1 av))))) (bA 0))) (kc (bM 3 2) (xS (ar 4) (bA 2))) fK) (de (aH (aQ (dE false) (bM 3 0) (cF (.str "go")))) (kc (bM 3 1) (xS (ar 4) (bA 2))) (de (aH (aQ (dE false) (bM 3 0) (cF (.str "do")))) (aD (aW 5 (az cX (aC 0 (aC 1 (aC 2 (gD 3 4 av))))))
 (aD (aW 6 (az da (gD 0 0 (gD 3 2 av))))
 (aD (g8 (jd eN (bU (bU (bM 1 3) (ar 2)) (bA 1)) (aq (bO (bD (aC 6 (aq (az da (aq (bU (bU (bM 0 0) (ar 6)) (bA 4)) (gD 3 3 av))) (eO 0 (aC 5 (eO 0 av))))))) av)))
 (g8 (az iu (aq (bU (bM 1 0) (ar 6)) (aC 2 av))))))) (de (aH (aQ (dE false) (bM 3 0) (cF (.str "tell")))) (kc (az cX (aC 0 (aC 1 (aC 2 (gD 3 1 av))))) (xS (ar 4) (bA 4))) (de (aH (Bt false (bM 3 0) (aP (bp (i_ "wait" (i_ "call" (i_ "all" av))))))) (g8 (az lZ (aC 0 (aC 1 (aC 2 (aC 3 av)))))) (de (aH (aQ (dE false) (bM 3 0) (cF (.str "say")))) (cy (bp (aC 2 (aq (az cX (aC 0 (aC 1 (aC 2 (gD 3 1 av))))) av)))) (g8 (az ia (aC 0 (aC 1 (aC 2 (aC 3 av)))))))))))))
 (cy (cF .non))))
def kA:c8:=B0 7 tE
def pQ:cJ:=
 (aD (aW 3 (bU (bU (bU (bM 1 3) (ar 2)) (bA 1)) (g6 (bA 1))))
 (aD (aW 4 (az fU (aC 0 (aC 2 (aC 3 av)))))
 (aD (de (iP (aH (aQ PJ (bM 3 0) (bA 0))) (aH (aQ (dE true) (bU (bU (bM 1 0) (bM 3 0)) (bA 1)) (ar 2)))) (g8 (az iu (aq (bU (bM 1 0) (bM 3 0)) (aC 2 av)))) (de (aH (aQ (dE false) (bM 3 2) (gP (aP (ar 4))))) (g8 (az oE (aC 0 (aC 1 (aC 2 av))))) (aD (kc (aQ cD (bM 3 2) (bA 1)) (xS (ar 3) (bA 2)))
 (cy (az kA (aC 0 (aC 1 (aC 2 (aq (bU (ar 4) (aQ kb (bM 3 2) (bA 1))) av)))))))))
 (cy (cF .non)))))
def lB:c8:=B0 5 pQ
def hJ(a:c8):cJ:=
 (aD (de (kK (pO "tuple" (ar 1))) (aD (de (Nq (xY (kK (pO "tuple" (ar 0)))) (aH (aQ (dE true) (gP (aP (ar 0))) (gP (aP (ar 1)))))) (cy (cF (.bl false))) fK)
 (cy (LB (gU (bG [none,none] (J2 (aP (ar 0)) (aP (ar 1))) (kP (nG 2 (aK (bJ 0) (aK (bJ 1) dC)))) bQ (az a (aC 0 (aC 1 av)))))))) fK)
 (aD (de (Nq (kK (pO "str" (ar 1))) (aH (aQ (wF false) (ar 1) (cF .non)))) (cy (sR (aQ (dE false) (pO "str" (ar 0)) (pO "str" (ar 1))) (aQ (dE false) (ar 0) (ar 1)))) fK)
 (cy (sR (pO "int" (ar 0)) (sR (K9 (pO "bool" (ar 0))) (aQ (dE false) (ar 0) (ar 1)))))))
def fZ:Nat->c8
 |0=>λ_ _=>none
 |n+1=>fB 2 (hJ<|fZ n)
def lS:cJ:=
 (aD (aW 1 (bO (bD av)))
 (aD (iV (fT (aP (bM 0 0))) (Ip (nG 5 (aK (bJ 2) (aK (bJ 3) (aK (bJ 4) (aK (bJ 5) (aK (bJ 6) dC))))))) (g8 (jd eN (ar 1) (aq (bp (aq (tupQ (cO (aP (ar 2)))) (aC 3 (aq (tupQ (cO (aP (ar 4)))) (aq (tupQ (cO (aP (ar 5)))) (aq (tupQ (gU (bG [none] (fT (aP (ar 6))) (bJ 0) bQ (tupQ (cO (aP (ar 0))))))) av)))))) av))))
 (aD (aW 7 (bO (bD av)))
 (aD (iV (fT (aP (bM 0 3))) (Ip (nG 2 (aK (bJ 2) (aK (bJ 8) dC)))) (g8 (jd eN (ar 7) (aq (bp (aq (tupQ (cO (aP (ar 2)))) (aq (tupQ (gU (bG [none] (fT (aP (ar 8))) (bJ 0) bQ (tupQ (cO (aP (ar 0))))))) av))) av))))
 (cy (bp (aq (tupQ (cO (aP (ar 1)))) (aq (tupQ (gU (bG [none,none] (fT (aP (bM 0 1))) (Ip (nG 2 (aK (bJ 0) (aK (bJ 1) dC)))) bQ (bp (aC 0 (aq (tupQ (cO (aP (ar 1)))) av)))))) (aq (tupQ (cO (aP (bM 0 2)))) (aq (tupQ (cO (aP (ar 7)))) av))))))))))
def gM:c8:=fB 9 lS
def sF:cJ:=
 (HF<|bG [none] (fT<|aP<|ar 0) (bJ 0) bQ<|bM 0 0)
def fo:c8:=fB 1 sF
def sy:cJ:=
 (cy<|J6 (gU<|dN fo<|aC 0 av)<|ar 1)
def dI:c8:=fB 2 sy
def qI:cJ:=
 (cy<|aQ cD (aQ cD (uK (ar 0) ua<|sQ<|ar 1)<|bp<|aC 2 av)<|uK (ar 0) (sQ<|aQ cD (ar 1)<|bA 1) ua)
def dY:c8:=fB 3 qI
def p5:cJ:=
 (cy<|aQ cD (uK (ar 0) ua<|sQ<|bA 3)<|bp<|aq (az dY<|gD 0 3<|aC 1<|aq (bp<|aC 2<|aC 3 av) av) av)
def f_:c8:=fB 4 p5
def qB:cJ:=
 (cy<|aQ cD (bp<|aq (az dY<|gD 0 0<|aC 1<|aC 2 av) av)<|uK (ar 0) (sQ<|bA 1) ua)
def dD:c8:=fB 3 qB
def mj:cJ:=
 (aD (aW 5 (bU (az dq (aC 1 (aC 2 av))) (bA 0)))
 (aD (de (aH (aQ (dE true) (ar 5) (cF (.int (-1))))) (aD (aW 6 (az dI (aq (bU (bU (bM 0 0) (ar 5)) (bA 2)) (aC 3 av))))
 (aD (aW 7 (az dY (aq (bU (bU (bM 1 0) (ar 5)) (bA 0)) (aC 6 (aC 4 av)))))
 (cy (az dD (aC 1 (aC 5 (aq (aQ cD (bp (aC 7 av)) (uK (bU (bM 1 0) (ar 5)) (sQ (bA 1)) ua)) av))))))) fK)
 (aD (de (aH (Bt false (ar 3) (gU (dN fo (gD 0 2 av))))) (aD (aW 8 (az dY (gD 1 2 (aq (az dI (gD 0 2 (aC 3 av))) (aC 4 av)))))
 (cy (bp (gD 1 0 (gD 1 1 (aC 8 (gD 1 3 av))))))) fK)
 (aD (kc (bU (bM 1 3) (ar 2)) (kP (nG 2 (aK (bJ 7) (aK (bJ 9) dC)))))
 (aD (aW 6 (az dI (aq (bU (bU (bM 0 3) (ar 2)) (bA 0)) (aC 3 av))))
 (cy (az f_ (aC 1 (aC 2 (aq (az dY (aC 7 (aC 6 (aC 4 av)))) (aC 9 av)))))))))))
def fY:c8:=fB 10 mj
def jZ:cJ:=
 (aD (de (aH (aQ (dE false) (ar 0) (cF (.str "plus")))) (cy (vg minD (aq (aQ cD (ar 1) (ar 2)) (aq (cF (.int (9))) av)))) fK)
 (aD (de (aH (aQ (dE false) (ar 0) (cF (.str "minus")))) (cy (vg maxD (aq (aQ kb (ar 1) (ar 2)) (eO 0 av)))) fK)
 (aD (de (aH (aQ (dE false) (ar 0) (cF (.str "less")))) (cy (yq (aH (aQ Dv (ar 1) (ar 2))) (bA 1) (bA 0))) fK)
 (aD (de (aH (aQ (dE false) (ar 0) (cF (.str "same")))) (cy (yq (aH (aQ (dE false) (ar 1) (ar 2))) (bA 1) (bA 0))) fK)
 (cy (yq (iP (aH (aQ (dE true) (ar 1) (bA 0))) (aH (aQ (dE true) (ar 2) (bA 0)))) (bA 1) (bA 0)))))))
def ib:c8:=fB 3 jZ
def tH(a:c8):cJ:=
 (aD (de (kK (pO "int" (ar 0))) (cy (ar 0)) fK)
 (aD (de (kK (pO "str" (ar 0))) (cy (M7 (ar 1) (ar 0))) fK)
 (aD (de (aH (aQ (dE false) (bM 0 0) (cF (.str "waits")))) (cy (yq (aH (aQ Kf (M7 (ar 2) (bM 0 1)) (bA 0))) (bA 1) (bA 0))) fK)
 (aD (aW 3 (az a (gD 0 1 (aC 1 (aC 2 av)))))
 (aD (de (aH (aQ (dE false) (bM 0 0) (cF (.str "not")))) (cy (yq (aH (aQ (dE false) (ar 3) (bA 0))) (bA 1) (bA 0))) fK)
 (cy (az ib (gD 0 0 (aC 3 (aq (az a (gD 0 2 (aC 1 (aC 2 av)))) av))))))))))
def g7:Nat->c8
 |0=>λ_ _=>none
 |n+1=>fB 4 (tH<|g7 n)
def oI:cJ:=
 (aD (aW 4 (az dq (aC 1 (aC 2 av))))
 (aD (aW 5 (bM 4 0))
 (aD (de (aH (aQ (dE false) (ar 5) (cF (.int (-1))))) (aD (aW 6 (Kq (gU (dN fo (gD 0 2 av))) (aP (bM 1 2))))
 (aD (g8 (KR (ar 6) (Kq (gU (dN fo (aq (bU (bU (bM 0 3) (ar 2)) (bA 0)) av))) (aP (bU (bU (bM 1 3) (ar 2)) (bA 0))))))
 (cy (az (g7 6) (aC 3 (aC 6 (aq PZ av))))))) fK)
 (aD (aW 6 (Kq (gU (dN fo (aq (bU (bU (bM 0 0) (ar 5)) (bA 2)) av))) (aP (bU (bU (bM 1 0) (ar 5)) (bA 0)))))
 (aD (PC (ar 6) (cF (.str "given")) (bM 4 3))
 (aD (Pm 7 (sN [none,none] (J2 (gU (dN fo (aq (bU (bU (bM 0 0) (ar 5)) (bA 3)) av))) (aP (bU (bU (bM 1 0) (ar 5)) (bA 4)))) (kP (nG 2 (aK (bJ 0) (aK (bJ 1) dC)))) bQ (ar 0) (gP (aP (ar 1)))))
 (cy (az (g7 6) (aC 3 (aC 6 (aC 7 av)))))))))))
def eG:c8:=fB 8 oI
def z4:cJ:=
 (cy<|az fY<|aC 0<|aC 1<|aC 2<|gD 3 1<|aq (az eG<|aC 0<|aC 1<|aC 2<|gD 3 2 av) av)
def vn:c8:=fB 4 z4
def g9:cJ:=
 (aD (kc (bU (bM 0 3) (ar 1)) (kP (nG 2 (aK (bJ 3) (aK (bJ 4) dC)))))
 (cy (az f_ (aC 0 (aC 1 (aC 3 (aq (aQ cD (uK (ar 4) ua (sQ (g6 (bA 1)))) (bp (aC 2 av))) av)))))))
def eE:c8:=fB 5 g9
def zw:cJ:=
 (aD (aW 3 (az dq (aC 0 (aC 1 av))))
 (cy (az eE (aC 0 (aC 1 (aq (aQ cD (aQ cD (uK (ar 3) ua (sQ (bA 2))) (bp (aC 2 av))) (uK (ar 3) (sQ (bA 3)) ua)) av))))))
def lG:c8:=fB 4 zw
def qD:cJ:=
 (aD (de (aH (aQ (dE false) (az eG (aC 0 (aC 1 (aC 2 (gD 3 1 av))))) (bA 0))) (cy (az lG (aC 1 (aC 2 (gD 3 2 av))))) fK)
 (cy (ar 1)))
def lQ:c8:=fB 4 qD
def DF:cJ:=
 (cy<|az lG<|aC 1<|aC 2<|gD 3 1 av)
def zR:c8:=fB 4 DF
def xx:cJ:=
 (aD (kc (bU (bM 0 0) (ar 1)) (kP (nG 5 (aK (bJ 3) (aK (bJ 4) (aK (bJ 5) (aK (bJ 6) (aK (bJ 7) dC))))))))
 (aD (de (aH (aQ (dE false) (ar 4) (cF (.int (-1))))) (cy (az dD (aC 0 (aC 1 (aq (bp (aC 3 (aC 2 (aC 5 (aC 6 (aC 7 av)))))) av))))) fK)
 (cy (az dD (aC 0 (aC 1 (aq (bp (aC 3 (aC 4 (aq (aQ cD (ar 5) (bp (aC 2 av))) (aC 6 (aC 7 av)))))) av)))))))
def nJ:c8:=fB 8 xx
def Ey:cJ:=
 (aD (aW 4 (az dI (gD 0 0 (gD 3 2 av))))
 (aD (aW 5 (az dI (aq (bU (bU (bM 0 0) (ar 4)) (bA 4)) (gD 3 3 av))))
 (aD (aW 6 (bp (aC 4 (aC 5 (eO 0 (aq (az eG (aC 0 (aC 1 (aC 2 (gD 3 4 av))))) (eO 0 av)))))))
 (aD (kc (bU (bM 1 3) (ar 2)) (kP (nG 2 (aK (bJ 7) (aK (bJ 8) dC)))))
 (cy (az nJ (aq (az f_ (aC 1 (aC 2 (aC 7 (aq (aQ cD (ar 8) (bp (aC 6 av))) av))))) (aC 4 (aC 2 av)))))))))
def AU:c8:=fB 9 Ey
def xK:cJ:=
 (aD (aW 4 (bU (az dq (aC 1 (aC 2 av))) (bA 0)))
 (cy (bp (aC 4 (aq (az dI (aq (bU (bU (bM 0 0) (ar 4)) (bA 3)) (aC 3 av))) av)))))
def kC:c8:=fB 5 xK
def p0:cJ:=
 (aD (aW 4 (bU (bM 0 0) (ar 1)))
 (cy (az dD (aC 0 (aC 1 (aq (aQ cD (uK (ar 4) ua (sQ (bA 4))) (bp (aq (az dY (gD 4 4 (aC 2 (aC 3 av)))) av))) av))))))
def gf:c8:=fB 5 p0
def DE:cJ:=
 (aD (kc (bU (bM 0 0) (ar 1)) (kP (nG 5 (aK (bJ 2) (aK (bJ 3) (aK (bJ 4) (aK (bJ 5) (aK (bJ 6) dC))))))))
 (aD (de (kK (ar 5)) (cy (az dD (aC 0 (aC 1 (aq (bp (aC 2 (gD 5 0 (aC 4 (aq (uK (ar 5) (sQ (bA 1)) ua) (aC 6 av)))))) av))))) fK)
 (aD (de (kK (ar 4)) (cy (az dD (aC 0 (aC 1 (aq (bp (aC 2 (gD 4 0 (aq (uK (ar 4) (sQ (bA 1)) ua) (aC 5 (aC 6 av)))))) av))))) fK)
 (cy (az dD (aC 0 (aC 1 (aq (bp (aC 2 (aq (cF (.int (-1))) (aC 4 (aC 5 (aC 6 av)))))) av))))))))
def sA:c8:=fB 7 DE
def xE:cJ:=
 (aD (kc (az kC (aC 0 (aC 1 (aC 2 (gD 3 1 av))))) (kP (nG 2 (aK (bJ 4) (aK (bJ 5) dC)))))
 (aD (aW 6 (bA 0))
 (aD (de (aH (aQ (dE false) (bU (bU (bU (bU (bM 0 0) (ar 4)) (bA 3)) (ar 5)) (bA 1)) (cF (.str "turns")))) (aW 6 (az eG (aC 0 (aC 1 (aC 2 (gD 3 2 av)))))) fK)
 (aD (aW 7 (bU (bU (bU (bM 1 0) (ar 4)) (bA 4)) (ar 5)))
 (aD (aW 8 (gP (gU (bG [none,none,some 6] (fT (aP (ar 7))) (kP (nG 2 (aK (bJ 0) (aK (bJ 1) dC)))) (aH (aQ Qf (ar 0) (ar 2))) (ar 0)))))
 (aD (aW 9 (az gf (aC 1 (aC 4 (aC 5 (aq (aQ cD (aQ cD (uK (ar 7) ua (sQ (ar 8))) (bp (aq (bp (aC 6 (aC 2 av))) av))) (uK (ar 7) (sQ (ar 8)) ua)) av))))))
 (cy (az sA (aC 9 (aC 4 av))))))))))
def rS:c8:=fB 10 xE
def xq:cJ:=
 (aD (kc (az kC (aC 0 (aC 1 (aC 2 (gD 3 1 av))))) (kP (nG 2 (aK (bJ 4) (aK (bJ 5) dC)))))
 (aD (aW 6 (bU (bU (bU (bM 1 0) (ar 4)) (bA 4)) (ar 5)))
 (aD (de (xY (kK (ar 6))) (cy (ar 1)) fK)
 (aD (aW 7 (az gf (aC 1 (aC 4 (aC 5 (aq (uK (ar 6) (sQ (bA 1)) ua) av))))))
 (aD (de (aH (aQ (dE false) (bU (bU (bM 0 0) (ar 4)) (bA 1)) (cF (.str "when free")))) (cy (ar 7)) fK)
 (aD (kc (bU (bM 7 0) (ar 4)) (kP (nG 5 (aK (bJ 8) (aK (bJ 9) (aK (bJ 10) (aK (bJ 11) (aK (bJ 12) dC))))))))
 (cy (az dD (aC 7 (aC 4 (aq (bp (aC 8 (aq (bU (bM 6 0) (bA 1)) (aC 10 (aq (aQ cD (ar 11) (bp (aC 2 av))) (aC 12 av)))))) av)))))))))))
def rY:c8:=fB 13 xq
def AN:cJ:=
 (aD (kc (az kC (aC 0 (aC 1 (aC 2 (gD 3 1 av))))) (kP (nG 2 (aK (bJ 4) (aK (bJ 5) dC)))))
 (cy (az gf (aC 1 (aC 4 (aC 5 (aq (bp av) av)))))))
def vE:c8:=fB 6 AN
def wU:cJ:=
 (aD (aW 4 (az eG (aC 0 (aC 1 (aC 2 (gD 3 1 av))))))
 (cy (az eE (aC 1 (aC 2 (aq (aQ cD (uK (az dq (aC 1 (aC 2 av))) ua (sQ (bA 4))) (bp (aC 4 av))) av))))))
def qY:c8:=fB 5 wU
def p_:cJ:=
 (cy<|aQ cD (bp<|gD 0 0<|aq (az dY<|gD 0 1<|aC 1<|aC 2 av) av)<|uK (ar 0) (sQ<|bA 2) ua)
def gk:c8:=fB 3 p_
def Ec:cJ:=
 (aD (aW 4 (az dI (gD 0 1 (aC 3 av))))
 (aD (kc (bU (bM 1 1) (ar 4)) (kP (nG 2 (aK (bJ 5) (aK (bJ 6) dC)))))
 (aD (de (aH (aQ Kf (ar 5) (bA 0))) (cy (az gk (aC 1 (aC 4 (aq (bp (aq (aQ kb (ar 5) (bA 1)) (aC 6 av))) av))))) fK)
 (cy (az gk (aC 1 (aC 4 (aq (bp (aC 5 (aq (aQ cD (ar 6) (bp (aC 2 av))) av))) av))))))))
def xA:c8:=fB 7 Ec
def wg:cJ:=
 (cy<|az xA<|aC 0<|aC 1<|aC 2<|gD 3 1 av)
def q0:c8:=fB 4 wg
def nz:cJ:=
 (aD (aW 3 (az dI (gD 0 1 (aC 2 av))))
 (aD (kc (bU (bM 1 1) (ar 3)) (kP (nG 2 (aK (bJ 4) (aK (bJ 5) dC)))))
 (aD (de (kK (ar 5)) (cy (az gk (aC 1 (aC 3 (aq (bp (aC 4 (aq (uK (ar 5) (sQ (bA 1)) ua) av))) av))))) fK)
 (cy (az gk (aC 1 (aC 3 (aq (bp (aq (vg minD (aq (aQ cD (ar 4) (bA 1)) (aq (cF (.int (9))) av))) (aC 5 av))) av))))))))
def ik:c8:=fB 6 nz
def xu:cJ:=
 (cy<|az ik<|aC 0<|aC 1<|gD 3 1 av)
def rK:c8:=fB 4 xu
def wQ:cJ:=
 (cy<|az xA<|aC 0<|aq (az ik<|aC 0<|aC 1<|gD 3 1 av)<|aC 2<|gD 3 2 av)
def qQ:c8:=fB 4 wQ
def zM:cJ:=
 (cy<|ar 1)
def vw:c8:=fB 4 zM
noncomputable def oz:List (Str×Str):= [("put","by_put"),("unless","by_unless"),("go","by_go"),("do","by_do"),("wait","by_wait"),("call","by_call"),("all","by_all"),("tell","by_tell"),("take","by_take"),("give","by_give"),("pass","by_pass"),("say","by_say")]
def xa:List (Str×c8):= [("by_put",vn),("by_unless",lQ),("by_go",zR),("by_do",AU),("by_wait",rS),("by_call",rY),("by_all",vE),("by_tell",qY),("by_take",q0),("by_give",rK),("by_pass",qQ),("by_say",vw)]
def yU:cJ:=
 (aD (aW 4 (Qa oz (bM 3 0)))
 (cy (wu 4 xa (aC 0 (aC 1 (aC 2 (aC 3 av)))))))
def ki:c8:=fB 5 yU
def tV:cJ:=
 (aD (kc (bU (bM 1 3) (ar 2)) (kP (nG 2 (aK (bJ 3) (aK (bJ 4) dC)))))
 (aD (kc (bU (ar 4) (g6 (bA 1))) (kP (nG 5 (aK (bJ 5) (aK (bJ 6) (aK (bJ 7) (aK (bJ 8) (aK (bJ 9) dC))))))))
 (aD (aW 10 (az f_ (aq (az sA (aC 1 (aC 5 av))) (aC 2 (aC 3 (aq (uK (ar 4) ua (sQ (g6 (bA 1)))) av))))))
 (aD (aW 11 (bU (az gu (aC 0 (aC 2 (aq (bU (ar 4) (g6 (bA 2))) av)))) (aQ kb (bU (bU (ar 4) (g6 (bA 2))) (bA 2)) (bA 1))))
 (aD (de (aH (aQ (wF false) (bM 11 1) (cF .non))) (cy (ar 10)) fK)
 (cy (az fY (aC 0 (aC 10 (aC 2 (gD 11 1 (aC 9 av))))))))))))
def kL:c8:=fB 12 tV
def m5:cJ:=
 (aD (aW 3 (az dq (aC 1 (aC 2 av))))
 (aD (aW 4 (bM 3 0))
 (aD (de (iP (aH (aQ (dE true) (ar 4) (cF (.int (-1))))) (aH (aQ (dE true) (bU (bU (bM 1 0) (ar 4)) (bA 1)) (ar 2)))) (cy (bp (aq (az nJ (aC 1 (aC 4 (aC 2 av)))) (aq (cF .non) av)))) fK)
 (aD (aW 5 (az gu (aC 0 (aC 2 (aC 3 av)))))
 (aD (de (aH (aQ (dE false) (bM 3 2) (gP (aP (ar 5))))) (cy (bp (aq (az kL (aC 0 (aC 1 (aC 2 av)))) (aq (cF .non) av)))) fK)
 (aD (aW 6 (bU (ar 5) (bM 3 2)))
 (aD (aW 7 (cF .non))
 (aD (de (aH (aQ (dE false) (bM 6 0) (cF (.str "say")))) (aW 7 (bp (aC 2 (aq (az eG (aC 0 (aC 1 (aC 2 (gD 6 1 av))))) av)))) fK)
 (cy (bp (aq (az ki (aC 0 (aq (az lG (aC 1 (aC 2 (aq (aQ cD (bM 3 2) (bA 1)) av)))) (aC 2 (aC 6 av))))) (aC 7 av))))))))))))
def nj:c8:=fB 8 m5
def wD:cJ:=
 (aD (de (aH (Bt true (ar 2) (gU (dN i9 (aC 0 (aC 1 av)))))) never fK)
 (cy (az nj (aC 0 (aC 1 (aC 2 av))))))
def rF:c8:=fB 3 wD
def m_:cJ:=
 (aD (aW 3 (bO (dN jK (aC 1 av))))
 (aD (aW 4 (bO (bD (aq (az wb (aC 1 av)) av))))
 (aD (HQ 5 6 (aq (bp av) (aq (bO (bD av)) av)))
 (aD (aW 7 (g6 (bA 1)))
 (aD (iV (vO (ar 2)) (bJ 8) (aD (aW 9 (bO (dN oT (aC 1 (aC 3 av)))))
 (aD (de (aH (eqQ true (gU (dN i9 (aC 1 (aq (bU (ar 4) (g6 (bA 1))) av)))) (aP (ar 9)))) (cy (cF .non)) fK)
 (de (aH (dg (aP (ar 9)))) (aD (aW 7 (az mi (aC 0 (aC 9 (aC 7 av)))))
 (aD (aW 10 (az lB (aC 1 (aC 3 (aC 7 av)))))
 (aD (de (xY (kK (az (fZ 10) (aq (az rF (aC 1 (aq (bU (ar 4) (g6 (bA 1))) (aC 7 av)))) (aq (bp (aq (az gM (aC 3 av)) (aC 10 av))) av))))) (cy (cF .non)) fK)
 (aD (g8 (jd eN (ar 4) (aq (az gM (aC 3 av)) av)))
 (aD (aW 5 (aQ cD (ar 5) (bp (aC 7 av))))
 (g8 (jd eN (ar 6) (aC 10 av)))))))) fK))))
 (cy (bp (aC 5 (aC 4 (aC 6 av))))))))))
def jI:c8:=B0 11 m_
def AD:cJ:=
 (aD (aW 2 (az wb (aC 0 av)))
 (aD (aW 3 (bO (bD av)))
 (aD (iV (FS (aP (ar 1))) (kP (nG 2 (aK (bJ 4) (aK (bJ 5) dC)))) (aD (de (aH (Bt true (ar 5) (gU (dN i9 (aC 0 (aC 2 av)))))) never fK)
 (aD (kc (az nj (aC 0 (aC 2 (aC 5 av)))) (kP (nG 2 (aK (bJ 2) (aK (bJ 6) dC)))))
 (de (aH (aQ (wF true) (ar 6) (cF .non))) (g8 (jd eN (ar 3) (aC 6 av))) fK))))
 (cy (bp (aC 2 (aq (tupQ (cO (aP (ar 3)))) av)))))))
def vy:c8:=fB 7 AD
def NN:cJ:=
 (aD (iV (vO (vg maxD (eO 1 (aq (vg minD (aq (gP (aP (ar 0))) (eO 5 av))) av)))) (bJ 1) (aD (aW 2 (bO (dN oQ (aC 0 (aC 1 av)))))
 (aD (aW 3 (az fh (aC 2 av)))
 (aD (aW 4 (az jI (aC 2 (aC 3 (eO 50 av)))))
 (aD (de (aH (aQ (wF false) (ar 4) (cF .non))) (cy (cF (.bl false))) fK)
 (aD (kc (ar 4) (kP (nG 3 (aK (bJ 5) (aK (bJ 6) (aK (bJ 7) dC))))))
 (iV (fT (aP (bp (aq (aQ zr (gP (aP (ar 5))) (bA 2)) (aq (gP (aP (ar 5))) av))))) (bJ 8) (aD (aW 9 (tupQ (gU (bG [none] (fT (gU (P3 (aP (ar 7)) ua (sQ (ar 8))))) (bJ 0) (aH (aQ (wF true) (ar 0) (cF .non))) (ar 0)))))
 (de (xY (kK (az (fZ 10) (aq (az vy (aC 3 (aq (uK (ar 5) ua (sQ (ar 8))) av))) (aq (bp (aq (bU (ar 6) (ar 8)) (aC 9 av))) av))))) (cy (cF (.bl false))) fK)))))))))
 (cy (cF (.bl true))))
def LN:c8:=fB 10 NN
noncomputable def top(i:Nat):Stmt:=PySem.Challenge.pw_calledroom_k29_whole_any_weaving.main.body.getD i (.Pass #[0,0,0,0])
noncomputable abbrev qv:Stmt:=top 57
noncomputable abbrev mI:Stmt:=top 58
noncomputable abbrev lC:Stmt:=top 60
noncomputable abbrev m3:Stmt:=top 59
noncomputable abbrev qf:Stmt:=top 61
noncomputable abbrev lq:Stmt:=top 62
noncomputable abbrev tP:Stmt:=top 63
noncomputable abbrev mN:Stmt:=top 64
noncomputable abbrev nE:Stmt:=top 65
noncomputable abbrev me:Stmt:=top 66
noncomputable abbrev qH:Stmt:=top 67
noncomputable abbrev lR:Stmt:=top 68
noncomputable abbrev gZ:Stmt:=top 69
noncomputable abbrev lL:Stmt:=top 74
noncomputable abbrev n0:Stmt:=top 10
noncomputable abbrev mr:Stmt:=top 12
noncomputable abbrev AG:Stmt:=top 11
noncomputable abbrev iM:Stmt:=top 77
noncomputable abbrev qw:Stmt:=top 78
noncomputable abbrev qd:Stmt:=top 21
noncomputable abbrev iH:Stmt:=top 51
noncomputable abbrev lY:Stmt:=top 13
noncomputable abbrev lO:Stmt:=top 14
noncomputable abbrev iE:Stmt:=top 52
noncomputable abbrev p6:Stmt:=top 50
noncomputable abbrev og:Stmt:=top 70
noncomputable abbrev jv:Stmt:=top 76
noncomputable abbrev mh:Stmt:=top 81
noncomputable abbrev lK:Stmt:=top 82
noncomputable abbrev mM:Stmt:=top 73
noncomputable abbrev qt:Stmt:=top 80
noncomputable abbrev pP:Stmt:=top 83
noncomputable abbrev lE:Stmt:=top 72
noncomputable abbrev jY:Stmt:=top 79
noncomputable abbrev mJ:Stmt:=top 84
noncomputable abbrev nK:Stmt:=top 85
noncomputable abbrev qF:Stmt:=top 86
noncomputable abbrev jt:Stmt:=top 87
noncomputable abbrev qN:Stmt:=top 88
noncomputable abbrev nH:Stmt:=top 89
noncomputable abbrev nO:Stmt:=top 71
noncomputable abbrev j9:Stmt:=top 75
noncomputable abbrev qh:Stmt:=top 23
noncomputable abbrev qg:Stmt:=top 25
noncomputable abbrev nY:Stmt:=top 15
noncomputable abbrev nM:Stmt:=top 18
noncomputable abbrev nI:Stmt:=top 16
noncomputable abbrev oa:Stmt:=top 27
noncomputable abbrev jz:Stmt:=top 6
noncomputable abbrev pX:Stmt:=top 5
noncomputable abbrev qu:Stmt:=top 26
noncomputable abbrev wX:Stmt:=top 31
noncomputable abbrev gK:Stmt:=top 19
noncomputable abbrev vV:Stmt:=top 20
noncomputable abbrev nB:Stmt:=top 32
noncomputable abbrev An:Stmt:=top 33
noncomputable abbrev t5:Stmt:=top 28
noncomputable abbrev Bc:Stmt:=top 34
noncomputable abbrev tN:Stmt:=top 35
noncomputable abbrev mQ:Stmt:=top 36
noncomputable abbrev zO:Stmt:=top 29
noncomputable abbrev t9:Stmt:=top 37
noncomputable abbrev tj:Stmt:=top 38
noncomputable abbrev vL:Stmt:=top 39
noncomputable abbrev tF:Stmt:=top 40
noncomputable abbrev mR:Stmt:=top 17
noncomputable abbrev zL:Stmt:=top 42
noncomputable abbrev tm:Stmt:=top 41
noncomputable abbrev mq:Stmt:=top 44
noncomputable abbrev sL:Stmt:=top 43
noncomputable abbrev sX:Stmt:=top 45
noncomputable abbrev wR:Stmt:=top 46
noncomputable abbrev qo:Stmt:=top 48
noncomputable abbrev qc:Stmt:=top 30
noncomputable abbrev sZ:Stmt:=top 55
noncomputable abbrev sM:Stmt:=top 53
noncomputable abbrev mm:Stmt:=top 90
noncomputable abbrev v8:Stmt:=top 54
noncomputable abbrev rE:Stmt:=top 91
end W28
namespace W28
open L2 DL PyProof.Rows
noncomputable abbrev Nr:List Str:= ["_law_bell"]
noncomputable abbrev Oh:List Str:= ["_law_deed_here","_law_room_here"]
noncomputable abbrev EH:List Str:= ["_law_found","_law_due"]
noncomputable abbrev Ly:List Str:= ["_law_now","_law_own_here"]
noncomputable abbrev Ft:List Str:= ["_law_now"]
noncomputable abbrev FQ:List Str:= ["_law_pair"]
noncomputable abbrev Fs:List Str:= ["_law_pot_here","_law_goals","_law_things","_law_words_here"]
noncomputable abbrev FN:List Str:= ["_law_pot_here","_law_goals","_law_words_here","_law_passes","_law_most"]
noncomputable abbrev F8:List Str:= ["_law_pot_here","_law_many","_law_manners","_law_bells_most"]
noncomputable abbrev F9:List Str:= ["_law_pot_here","_law_many"]
noncomputable abbrev FG:List Str:= ["_law_pot_here","_law_name","_law_goals","_law_manners","_law_bells_most"]
noncomputable abbrev Fv:List Str:= ["_law_pot_here","_law_room_here","_law_goals","_law_most"]
noncomputable abbrev E_:List Str:= ["_law_pot_here","_law_rooms_here","_law_hands","_law_passes_most"]
noncomputable abbrev B5:List Str:= ["_law_pot_here","_law_some","_law_last"]
noncomputable abbrev CH:List Str:= ["_law_pot_here","_law_some"]
noncomputable abbrev Ga:List Str:= ["_law_pot_here","_law_stem","_law_many"]
noncomputable abbrev Fz:List Str:= ["_law_pot_here","_law_words_here","_law_bells","_law_at"]
noncomputable abbrev zt:List Str:= ["_law_pot_here","_law_words_here","_law_bells","_law_deep"]
noncomputable abbrev Fb:List Str:= ["_law_pot_here","_law_world_here","_law_many"]
noncomputable abbrev E9:List Str:= ["_law_pot_here"]
noncomputable abbrev CW:List Str:= ["_law_room_here","_law_own_here"]
noncomputable abbrev CZ:List Str:= ["_law_room_here"]
noncomputable abbrev CD:List Str:= ["_law_rows","_law_word"]
noncomputable abbrev FP:List Str:= ["_law_script","_law_k"]
noncomputable abbrev JF:List Str:= ["_law_script"]
noncomputable abbrev BE:List Str:= ["_law_told","_law_own_here"]
noncomputable abbrev yC:List Str:= ["_law_told","_law_things","_law_waiting"]
noncomputable abbrev Dq:List Str:= ["_law_told"]
noncomputable abbrev Il:List Str:= ["_law_word","_law_pot_here"]
noncomputable abbrev Gi:List Str:= ["_law_word","_law_value_here"]
noncomputable abbrev kR:List Str:= ["_law_world_here","_law_now","_law_own_here","_law_row_here"]
noncomputable abbrev FL:List Str:= ["_law_world_here","_law_now","_law_own_here","_law_told"]
noncomputable abbrev Fe:List Str:= ["_law_world_here","_law_now","_law_own_here","_law_word","_law_value_here"]
noncomputable abbrev uO:List Str:= ["_law_world_here","_law_now","_law_own_here"]
noncomputable abbrev Ff:List Str:= ["_law_world_here","_law_now"]
noncomputable abbrev Cf:List Str:= ["_law_world_here","_law_own_here","_law_frame"]
noncomputable abbrev Fl:List Str:= ["_law_world_here"]
noncomputable abbrev Cs:List Str:= ["form","first","second"]
noncomputable abbrev Dt:List Str:= ["line"]
noncomputable abbrev Ce:List Str:= ["parts","at","part"]
noncomputable abbrev BD:List Str:= ["roll","name"]
noncomputable abbrev B3:List Str:= ["roll"]
noncomputable abbrev CO:List Str:= ["room"]
noncomputable abbrev Cn:List Str:= ["scene","at","room"]
noncomputable abbrev Ds:List Str:= ["scene","at","turnstile"]
noncomputable abbrev FD:List Str:= ["scene","hand","frame"]
noncomputable abbrev Fj:List Str:= ["scene","hand","row"]
noncomputable abbrev B6:List Str:= ["scene","hand","values","frames"]
noncomputable abbrev C9:List Str:= ["scene","hand"]
noncomputable abbrev FI:List Str:= ["scene","room","bell","line"]
noncomputable abbrev AC:List Str:= ["scene","room","hand"]
noncomputable abbrev zU:List Str:= ["scene","room"]
noncomputable abbrev zG:List Str:= ["scene"]
noncomputable abbrev wA:List Str:= ["things"]
noncomputable abbrev t8:List Str:= ["tree","things","waiting"]
noncomputable abbrev AZ:List Str:= ["world","hand","frame"]
noncomputable abbrev AR:List Str:= ["world","scene","hand","name"]
noncomputable abbrev bB:List Str:= ["world","scene","hand","row"]
noncomputable abbrev Bo:List Str:= ["world","scene","hand","tree"]
noncomputable abbrev zH:List Str:= ["world","scene","hand","word","value"]
noncomputable abbrev zW:List Str:= ["world","scene","hand","word"]
noncomputable abbrev fH:List Str:= ["world","scene","hand"]
noncomputable abbrev A8:List Str:= ["world","scene","name"]
noncomputable abbrev Aa:List Str:= ["world","scene"]
noncomputable abbrev Ag:List Str:= ["world","weaving"]
noncomputable abbrev Bh:List Str:= ["world"]
section
variable(P:X9)(w:Xc)(K:X1)(b:X3)(a:Xe)
abbrev D3:Prop:=eD P w K b a 1 "_law_pot" FP oQ
abbrev cY:Prop:=eD P w K b a 1 "_law_take" F9 aJ
abbrev lN:Prop:=eD P w K b a 2 "_law_words" Ga dr
abbrev fJ:Prop:=eD P w K b a 2 "_law_pick" CH bR
abbrev k8:Prop:=eD P w K b a 7 "_law_sum" zt (bH 4)
abbrev zI:Prop:=eD P w K b a 8 "_law_waits" Fz jU
abbrev yO:Prop:=eD P w K b a 8 "_law_do" Fs mZ
abbrev BB:Prop:=eD P w K b a 9 "_law_deed" Fv mf
abbrev C6:Prop:=eD P w K b a 10 "_law_room" FG lX
abbrev zN:Prop:=eD P w K b a 11 "_law_rooms" F8 jO
abbrev DJ:Prop:=eD P w K b a 9 "_law_own" FN oH
abbrev AF:Prop:=eD P w K b a 10 "_law_world" E_ jS
abbrev sI:Prop:=eD P w K b a 12 "_law_any_world" E9 fh
abbrev AV:Prop:=eD P w K b a 1 "_law_first" Fl jK
abbrev uu:Prop:=eD P w K b a 1 "values_of" wA hV
abbrev AK:Prop:=eD P w K b a 2 "begun_room" CO jT
abbrev FY:Prop:=eD P w K b a 3 "begun" Bh wb
abbrev vh:Prop:=eD P w K b a 1 "_law_is_bound" Ly gL
abbrev D0:Prop:=eD P w K b a 2 "_law_may" Ff oT
abbrev DP:Prop:=eD P w K b a 1 "hands_at" Dt oU
abbrev u0:Prop:=eD P w K b a 2 "hands_in_rows" zG fG
abbrev eV:Prop:=eD P w K b a 1 "last_frame" C9 dq
abbrev k_:Prop:=eD P w K b a 1 "program_of" AZ gu
abbrev vk:Prop:=eD P w K b a 2 "is_behind_all" fH gI
abbrev pS:Prop:=eD P w K b a 3 "may_step" Aa i9
abbrev De:Prop:=eD P w K b a 3 "_law_next" B5 mi
abbrev oh:Prop:=eD P w K b a 1 "_law_program" Cf fU
abbrev rP:Prop:=eD P w K b a 1 "_law_enter" CW iu
abbrev qP:Prop:=eD P w K b a 1 "_law_leave" CZ ij
abbrev jV:Prop:=eD P w K b a 1 "_law_spot" CD da
abbrev xp:Prop:=eD P w K b a 2 "_law_set" Fe kh
abbrev DH:Prop:=eD P w K b a 3 "_law_end" uO oE
abbrev Br:Prop:=eD P w K b a 6 "_law_value" yC (eP 5)
abbrev pA:Prop:=eD P w K b a 7 "_law_reckon" FL cX
abbrev B7:Prop:=eD P w K b a 8 "_law_ring" kR lZ
abbrev Bw:Prop:=eD P w K b a 1 "_law_give" Dq lU
abbrev Ej:Prop:=eD P w K b a 1 "_law_get" BE oG
abbrev xD:Prop:=eD P w K b a 2 "_law_counted" kR ia
abbrev EG:Prop:=eD P w K b a 9 "_law_row" kR kA
abbrev Cp:Prop:=eD P w K b a 10 "_law_step" uO lB
abbrev uw:Prop:=eD P w K b a 11 "_law_same" EH (fZ 10)
abbrev yi:Prop:=eD P w K b a 1 "_law_frozen" Ft gM
abbrev pR:Prop:=eD P w K b a 1 "names_of" B3 fo
abbrev jn:Prop:=eD P w K b a 2 "place_of" BD dI
abbrev ip:Prop:=eD P w K b a 1 "with_part" Ce dY
abbrev jX:Prop:=eD P w K b a 2 "with_hand" B6 f_
abbrev iA:Prop:=eD P w K b a 2 "with_room" Cn dD
abbrev uq:Prop:=eD P w K b a 3 "put_thing" zH fY
abbrev vS:Prop:=eD P w K b a 1 "value_of_two" Cs ib
abbrev Eb:Prop:=eD P w K b a 8 "value_of" t8 (g7 6)
abbrev hX:Prop:=eD P w K b a 9 "reckoned" Bo eG
abbrev jQ:Prop:=eD P w K b a 3 "with_last_frame" FD eE
abbrev xw:Prop:=eD P w K b a 4 "at_row" Fj lG
abbrev yZ:Prop:=eD P w K b a 3 "come_in" AC nJ
abbrev sY:Prop:=eD P w K b a 3 "bell_of" zW kC
abbrev nT:Prop:=eD P w K b a 3 "with_line" FI gf
abbrev E7:Prop:=eD P w K b a 3 "leave" zU sA
abbrev uc:Prop:=eD P w K b a 2 "with_pass" Ds gk
abbrev F7:Prop:=eD P w K b a 3 "taken" AR xA
abbrev rN:Prop:=eD P w K b a 3 "given_back" A8 ik
abbrev DU:Prop:=eD P w K b a 11 "row_done" bB ki
abbrev DK:Prop:=eD P w K b a 4 "end_deed" fH kL
abbrev yP:Prop:=eD P w K b a 12 "step_of" fH nj
abbrev He:Prop:=eD P w K b a 13 "stepped" fH rF
abbrev Bi:Prop:=eD P w K b a 14 "_law_woven" Fb jI
abbrev Jd:Prop:=eD P w K b a 13 "walked" Ag vy
end
def Q2(g:Gl X "len")(c:X.mg "len"=none)(d:PE X a (tQ (md X) f))(e:starEach [a] X.env= [(false,eval a X.env)]):PE X (.Call (.Name "len" p) [a] [] b) (tD (md X)<|gP f):=L_ g c d e
def bI(S:aL X N js a c)(l:X.calm=true)(hi:PI X tg b (tI (md X) i))(j:∀C s H fp,PG (aR X N a c C s H fp) tg<|tG (md<|aR X N a c C s H fp) g)(ht:∀C s H fp,qy (aR X N a c C s H fp) e<|tB (md<|aR X N a c C s H fp) t)(he:∀C s H fp,PE (aR X N a c C s H fp) d<|tD (md<|aR X N a c C s H fp) f)(k:autoParam (∀x,foldedSetIterable b X.env x=pure x) ec._auto_1):PE X (.ListComp d [⟨tg,b,e,0⟩] a h) (tL (md X)<|bG js i g t f):=Iw S l hi j ht he k
def zS{d:Pos}(S:aL X N js a h)(r:X.calm=true)(hi:PI X tg b (tI (md X) i))(o:∀C s H fp,PG (aR X N a h C s H fp) tg<|tG (md<|aR X N a h C s H fp) g)(ht:∀C s H fp,qy (aR X N a h C s H fp) j<|tB (md<|aR X N a h C s H fp) t)(he:∀C s H fp,PE (aR X N a h C s H fp) e<|tD (md<|aR X N a h C s H fp) f)(l:PG X c (rZ n))(q:autoParam (∀x,foldedSetIterable b X.env x=pure x) ec._auto_1)(m:autoParam (swapsWithSole [c] (.ListComp e [⟨tg,b,j,0⟩] a k) d.line X.env=pure true) dO._auto_1)(p:autoParam ((assignEach [c] X.env).map (·.2)= [assign c X.env]) dO._auto_1):PS X (.Assign [c] (.ListComp e [#[tg,b,j,0]] a k) d) (tS (md X)<|aW n<|bO<|bG js i g t f):=Nv S r hi o ht he l q m p
def JI{e:Pos}(S:aL X N js a d)(y:X.calm=true)(hi:PI X tg b (tI (md X) i))(q:∀C s H fp,PG (aR X N a d C s H fp) tg<|tG (md<|aR X N a d C s H fp) g)(ht:∀C s H fp,qy (aR X N a d C s H fp) f<|tB (md<|aR X N a d C s H fp) t)(r:∀C s H fp,PE (aR X N a d C s H fp) j<|tD (md<|aR X N a d C s H fp) o)(w:∀C s H fp,PE (aR X N a d C s H fp) k<|tD (md<|aR X N a d C s H fp) p)(l:PG X c (rZ n))(v:autoParam (∀x,foldedSetIterable b X.env x=pure x) ec._auto_1)(m:autoParam (swapsWithSole [c] (.DictComp j k [⟨tg,b,f,0⟩] a h) e.line X.env=pure true) dO._auto_1)(u:autoParam ((assignEach [c] X.env).map (·.2)= [assign c X.env]) dO._auto_1):PS X (.Assign [c] (.DictComp j k [#[tg,b,f,0]] a h) e) (tS (md X)<|Pm n<|sN js i g t o p):=LI S y hi q ht r w l v m u
local macro_rules|`(tactic|specialize $n:num)=>do
 let k:=n.getNat
 if k<13 then `(tactic|specialize $(Lean.Syntax.mkNumLit<|toString (k+1))) else Lean.Macro.throwError ""
def ac(s:String):Lean.Syntax:=((s.splitOn " ").foldl (λ(st:List Lean.Syntax) t=>
 let n (k:Lean.Name) (a:List Lean.Syntax):Lean.Syntax:=.node .none k a.toArray
 let S (x:Lean.Syntax):=n `Lean.Parser.Tactic.tacticSeq [n `Lean.Parser.Tactic.tacticSeq1Indented [n `null [x]]]
 let c:=t.front
 let r:=(t.drop 1).toString
 if c='\'' then Lean.mkAtom r::st else if c='$' then (Lean.mkIdent r.toName).raw::st else if c='S' then S st.head!::st.tail! else if c='G' then n `group [Lean.mkAtom "|",S st.head!]::st.tail! else
 if c='H' then n `Lean.Parser.Term.hole [Lean.mkAtom "_"]::st else if c='Y' then n `Lean.Parser.Term.syntheticHole [Lean.mkAtom "?",Lean.mkAtom "_"]::st else
 let p:=r.splitOn ","
 let m:=p.head!.toNat!
 n (((",".intercalate p.tail!).splitOn ".").foldl .str (if c='T' then `Lean.Parser.Tactic else if c='E' then `Lean.Parser.Term else .anonymous)) (st.take m).reverse::st.drop m) []).head!
abbrev ad:=ac "'with_reducible 'change $PE H H A2,null E2,app '<| $tD H H A2,null E2,app A3,term_<|_ A0,null T3,change S T2,withReducible S"
abbrev am:=ac "'first '( '( 'with_reducible 'refine' $NO '? $cc E2,syntheticHole '? $hh E2,syntheticHole Y '? $hk E2,syntheticHole Y '? $hn E2,syntheticHole Y Y Y A9,null E2,app T2,refine' S T2,withReducible S ') T3,paren '; '( 'case $cc A1,Lean.binderIdent A0,null T2,caseArg A1,null '=> 'assumption T1,assumption S T4,case S ') T3,paren '; '( 'case $hh A1,Lean.binderIdent A0,null T2,caseArg A1,null '=> 'assumption T1,assumption S T4,case S ') T3,paren '; '( 'case $hk A1,Lean.binderIdent A0,null T2,caseArg A1,null '=> 'first 'decide A0,null T1,optConfig T2,decide G 'omega A0,null T1,optConfig T2,omega G A2,null T2,first S T4,case S ') T3,paren '; '( 'case $hn A1,Lean.binderIdent A0,null T2,caseArg A1,null '=> 'repeat '( 'first 'exact $DR T2,exact G 'refine $oW Y A1,null E2,app T2,refine G A2,null T2,first S ') T3,paren S T2,tacticRepeat_ S T4,case S ') T3,paren A9,null T1,tacticSeq1Indented T1,tacticSeq ') T3,paren G '( '( 'with_reducible 'refine' $oV '? $pg E2,syntheticHole '? $ff E2,syntheticHole A2,null E2,app T2,refine' S T2,withReducible S ') T3,paren '; '( 'case $pg A1,Lean.binderIdent A0,null T2,caseArg A1,null '=> '( 'refine' $FX '( $v ':= '. $int E2,dotIdent '( $[a A1,hygieneInfo E2,hygienicLParen '- '1 A1,num A2,term-_ ') E3,paren A1,null E2,app ') E5,namedArgument '? $a0 E2,syntheticHole '? $m0 E2,syntheticHole '? $r0 E2,syntheticHole '? $d0 E2,syntheticHole A5,null E2,app T2,refine' '; '( 'case $a0 A1,Lean.binderIdent A0,null T2,caseArg A1,null '=> 'exact $rfl T2,exact S T4,case S ') T3,paren '; '( 'case $m0 A1,Lean.binderIdent A0,null T2,caseArg A1,null '=> 'assumption T1,assumption S T4,case S ') T3,paren '; '( 'case $r0 A1,Lean.binderIdent A0,null T2,caseArg A1,null '=> 'exact '#[ H ', $rfl A3,null '] A3,term#[_,] T2,exact S T4,case S ') T3,paren '; '( 'case $d0 A1,Lean.binderIdent A0,null T2,caseArg A1,null '=> 'decide A0,null T1,optConfig T2,decide S T4,case S ') T3,paren A9,null T1,tacticSeq1Indented T1,tacticSeq ') T3,paren S T4,case S ') T3,paren '; '( 'case $ff A1,Lean.binderIdent A0,null T2,caseArg A1,null '=> 'exact 'λ H H A2,null A0,null '=> '. $int E2,dotIdent '( $[a A1,hygieneInfo E2,hygienicLParen '- '1 A1,num A2,term-_ ') E3,paren A1,null E2,app E4,basicFun E2,fun T2,exact S T4,case S ') T3,paren A5,null T1,tacticSeq1Indented T1,tacticSeq ') T3,paren G '( '( 'with_reducible 'refine' $oV '? $pg E2,syntheticHole '? $ff E2,syntheticHole A2,null E2,app T2,refine' S T2,withReducible S ') T3,paren '; '( 'case $pg A1,Lean.binderIdent A0,null T2,caseArg A1,null '=> '( 'refine' $FX '( $v ':= '. $int E2,dotIdent '( $[a A1,hygieneInfo E2,hygienicLParen '9 A1,num ') E3,paren A1,null E2,app ') E5,namedArgument '? $a0 E2,syntheticHole '? $m0 E2,syntheticHole '? $r0 E2,syntheticHole '? $d0 E2,syntheticHole A5,null E2,app T2,refine' '; '( 'case $a0 A1,Lean.binderIdent A0,null T2,caseArg A1,null '=> 'exact $rfl T2,exact S T4,case S ') T3,paren '; '( 'case $m0 A1,Lean.binderIdent A0,null T2,caseArg A1,null '=> 'assumption T1,assumption S T4,case S ') T3,paren '; '( 'case $r0 A1,Lean.binderIdent A0,null T2,caseArg A1,null '=> 'exact '#[ H ', $rfl A3,null '] A3,term#[_,] T2,exact S T4,case S ') T3,paren '; '( 'case $d0 A1,Lean.binderIdent A0,null T2,caseArg A1,null '=> 'decide A0,null T1,optConfig T2,decide S T4,case S ') T3,paren A9,null T1,tacticSeq1Indented T1,tacticSeq ') T3,paren S T4,case S ') T3,paren '; '( 'case $ff A1,Lean.binderIdent A0,null T2,caseArg A1,null '=> 'exact 'λ H H A2,null A0,null '=> '. $int E2,dotIdent '( $[a A1,hygieneInfo E2,hygienicLParen '9 A1,num ') E3,paren A1,null E2,app E4,basicFun E2,fun T2,exact S T4,case S ') T3,paren A5,null T1,tacticSeq1Indented T1,tacticSeq ') T3,paren G A3,null T2,first S"
abbrev ap:=ac "'with_reducible 'change $PA H H A2,null E2,app '<| $Cy H H A2,null E2,app A3,term_<|_ A0,null T3,change S T2,withReducible S"
abbrev aT:=ac "'fail A0,null T2,fail S"
abbrev be:=ac "'with_reducible 'change $PG H H A2,null E2,app '<| $tG H H A2,null E2,app A3,term_<|_ A0,null T3,change S T2,withReducible S"
abbrev bh:=ac "'with_reducible 'change $HG H H A2,null E2,app '<| $Pw H H A2,null E2,app A3,term_<|_ A0,null T3,change S T2,withReducible S"
abbrev bi:=ac "'with_reducible 'change $PS H H A2,null E2,app '<| $tS H H A2,null E2,app A3,term_<|_ A0,null T3,change S T2,withReducible S"
abbrev bn:=ac "'first '( '( 'with_reducible 'refine $GC Y Y Y Y Y '? $hsz E2,syntheticHole Y A7,null E2,app T2,refine S T2,withReducible S ') T3,paren '; '( 'case $hsz A1,Lean.binderIdent A0,null T2,caseArg A1,null '=> 'exact $rfl T2,exact S T4,case S ') T3,paren A3,null T1,tacticSeq1Indented T1,tacticSeq ') T3,paren G A1,null T2,first S"
abbrev bw:=ac "'with_reducible 'change $vj H H A2,null E2,app '<| $tS H H A2,null E2,app A3,term_<|_ A0,null T3,change S T2,withReducible S"
abbrev bY:=ac "'first 'refine $qi Y Y A2,null E2,app T2,refine G 'refine $FW Y A1,null E2,app T2,refine G A2,null T2,first S"
abbrev ci:=ac "'with_reducible 'change $PI H H H A3,null E2,app '<| $tI H H A2,null E2,app A3,term_<|_ A0,null T3,change S T2,withReducible S"
abbrev cj:=ac "'with_reducible 'change $PE H H A2,null E2,app '<| $tQ H H A2,null E2,app A3,term_<|_ A0,null T3,change S T2,withReducible S"
abbrev cs:=ac "'with_reducible 'change $PE H H A2,null E2,app '<| $tL H H A2,null E2,app A3,term_<|_ A0,null T3,change S T2,withReducible S"
abbrev cw:=ac "'first '( '( 'with_reducible 'refine' $Ox '? $cc E2,syntheticHole '? $hh E2,syntheticHole Y '? $hk E2,syntheticHole Y '? $hn E2,syntheticHole Y Y Y A9,null E2,app T2,refine' S T2,withReducible S ') T3,paren '; '( 'case $cc A1,Lean.binderIdent A0,null T2,caseArg A1,null '=> 'assumption T1,assumption S T4,case S ') T3,paren '; '( 'case $hh A1,Lean.binderIdent A0,null T2,caseArg A1,null '=> 'assumption T1,assumption S T4,case S ') T3,paren '; '( 'case $hk A1,Lean.binderIdent A0,null T2,caseArg A1,null '=> 'first 'decide A0,null T1,optConfig T2,decide G 'omega A0,null T1,optConfig T2,omega G A2,null T2,first S T4,case S ') T3,paren '; '( 'case $hn A1,Lean.binderIdent A0,null T2,caseArg A1,null '=> 'repeat '( 'first 'exact $DR T2,exact G 'refine $oW Y A1,null E2,app T2,refine G A2,null T2,first S ') T3,paren S T2,tacticRepeat_ S T4,case S ') T3,paren A9,null T1,tacticSeq1Indented T1,tacticSeq ') T3,paren G A1,null T2,first S"
abbrev cL:=ac "'with_reducible 'change $PT H H A2,null E2,app '<| $tB H H A2,null E2,app A3,term_<|_ A0,null T3,change S T2,withReducible S"
abbrev cS:=ac "'first '( '( 'with_reducible 'change H '= H A3,term_=_ A0,null T3,change S T2,withReducible S ') T3,paren '; 'exact $rfl T2,exact A3,null T1,tacticSeq1Indented T1,tacticSeq ') T3,paren G '( '( 'with_reducible 'change H '\\/ H A3,term_∨_ A0,null T3,change S T2,withReducible S ') T3,paren '; 'first 'exact $Or.inl $rfl A1,null E2,app T2,exact G 'exact $Or.inr $rfl A1,null E2,app T2,exact G 'exact $Or.inr '( $[a A1,hygieneInfo E2,hygienicLParen $Or.inl $rfl A1,null E2,app ') E3,paren A1,null E2,app T2,exact G 'exact $Or.inr '( $[a A1,hygieneInfo E2,hygienicLParen $Or.inr $rfl A1,null E2,app ') E3,paren A1,null E2,app T2,exact G A4,null T2,first A3,null T1,tacticSeq1Indented T1,tacticSeq ') T3,paren G '( '( 'with_reducible 'change $Gl H H A2,null E2,app A0,null T3,change S T2,withReducible S ') T3,paren '; 'exact $rfl T2,exact A3,null T1,tacticSeq1Indented T1,tacticSeq ') T3,paren G '( '( 'with_reducible 'change $L2.Loc H H A2,null E2,app A0,null T3,change S T2,withReducible S ') T3,paren '; 'first 'exact $Or.inl $rfl A1,null E2,app T2,exact G 'exact $Or.inr $rfl A1,null E2,app T2,exact G A2,null T2,first A3,null T1,tacticSeq1Indented T1,tacticSeq ') T3,paren G '( '( 'with_reducible 'change $LZ H H A2,null E2,app A0,null T3,change S T2,withReducible S ') T3,paren '; 'first 'exact $Or.inl $rfl A1,null E2,app T2,exact G 'exact $Or.inr '( $[a A1,hygieneInfo E2,hygienicLParen $Or.inl $rfl A1,null E2,app ') E3,paren A1,null E2,app T2,exact G 'exact $Or.inr '( $[a A1,hygieneInfo E2,hygienicLParen $Or.inr $rfl A1,null E2,app ') E3,paren A1,null E2,app T2,exact G A3,null T2,first A3,null T1,tacticSeq1Indented T1,tacticSeq ') T3,paren G '( '( 'with_reducible 'change '( $[a A1,hygieneInfo E2,hygienicLParen H ': $Nat A1,null ') E5,typeAscription '<= H A3,term_≤_ A0,null T3,change S T2,withReducible S ') T3,paren '; 'omega A0,null T1,optConfig T2,omega A3,null T1,tacticSeq1Indented T1,tacticSeq ') T3,paren G '( '( 'with_reducible 'intro H H A2,null T2,intro S T2,withReducible S ') T3,paren '; 'rfl T1,tacticRfl A3,null T1,tacticSeq1Indented T1,tacticSeq ') T3,paren G 'with_reducible 'assumption T1,assumption S T2,withReducible G A8,null T2,first S"
abbrev db:=ac "'first 'exact $rfl T2,exact G 'exact $Or.inl $rfl A1,null E2,app T2,exact G '( 'with_reducible 'first 'refine $PW.pt '( $[a A1,hygieneInfo E2,hygienicLParen $w_and Y Y A2,null E2,app ') E3,paren A1,null E2,app T2,refine G 'refine $PW.pt '( $[a A1,hygieneInfo E2,hygienicLParen $w_or Y Y A2,null E2,app ') E3,paren A1,null E2,app T2,refine G A2,null T2,first S T2,withReducible S ') T3,paren G 'assumption T1,assumption G 'exact $Or.inr $rfl A1,null E2,app T2,exact G 'exact $Or.inr '( $[a A1,hygieneInfo E2,hygienicLParen $Or.inl $rfl A1,null E2,app ') E3,paren A1,null E2,app T2,exact G 'exact $Or.inr '( $[a A1,hygieneInfo E2,hygienicLParen $Or.inr $rfl A1,null E2,app ') E3,paren A1,null E2,app T2,exact G 'decide A0,null T1,optConfig T2,decide G 'omega A0,null T1,optConfig T2,omega G '( 'intro H H A2,null T2,intro '; 'rfl T1,tacticRfl A3,null T1,tacticSeq1Indented T1,tacticSeq ') T3,paren G '( 'intro H A1,null T2,intro '; 'rfl T1,tacticRfl A3,null T1,tacticSeq1Indented T1,tacticSeq ') T3,paren G '( 'intro H H H A3,null T2,intro '; 'rfl T1,tacticRfl A3,null T1,tacticSeq1Indented T1,tacticSeq ') T3,paren G 'exact '#[ $rfl ', $rfl ', $rfl ', $rfl ', $rfl ', $rfl ', $rfl A13,null '] A3,term#[_,] T2,exact G 'exact 'λ H H A2,null A0,null '=> '. $int E2,dotIdent H A1,null E2,app E4,basicFun E2,fun T2,exact G A14,null T2,first S"
set_option hygiene false
local macro_rules|`(tactic|specialize $n:num)=>do
 let k:=n.getNat
 let g (l:List String):Lean.MacroM (Array (Lean.TSyntax `Lean.Parser.Tactic.tacticSeq)):=l.toArray.mapM λz=>do
  let u:=z.splitOn " "
  let k:=u.getLast!.toNat!
  let ws:=(u.dropLast.map λn=>Lean.mkIdent n.toName).toArray
  let h←`(?_)
  let e:=Lean.Syntax.mkApp #[ws[0]!.raw] ((ws.toList.tail!.map λw=>#[w.raw]).toArray++Array.replicate k h)
  `(tacticSeq|refine $e)
 let A (i j:Nat):=g ((("v_ 5|Gd 0|LD 3|Ou 1|N8 0|HV 1|Sa 2|HL 6|Q2 4|R1 1|Qc 3|Lf 5|RO 0|Rt RI RF 3|Rz 2|Ro 2|Rk 2|RG 2|Sm 0|RL 3|NY 10|KF 6|R5 7|QR 4|Rx 2|Q_ 2|Jp 6|Rt RR RZ 3|Rt Rj Rp 3|NT 6|Qh 6|Qm 0|Rt RK RY 3|Ry 5|Si 3|QW 3|Oc 9|Qk 3|R9 5|RP 1|OV 6|Rh 1|dA 3|jN 0|QB 5|Qv 5|Sb 4|RS 3|Re 4|Qi 3|QO 0|L3 1|Sv 3|HZ 2|Se 5|Pg 6|QL 1|QJ 5|P8 0|Q9 4|qi 2|Rl 0|FW 1|L0 1|QZ 4|RA 6|QV 4|Px 1|RC 1|RH 1|Ig 1|R0 2|On 4|Rq 2|PV 3|RQ RI RF 3|Ko 2|RQ Rj Rp 3|RQ RD RU 3|RX 1|Sn 3|RQ RR RZ 3|P9 3|RQ P7 Qb 3|RQ Q3 QQ 3|RQ RK RY 3|RQ R8 R_ 3|Ri 3|Rr 2|PF 0|QD 1|Qy 0|Sk 5|Sd 1|Qn 1|RN 1".splitOn "|").drop i).take j)
 let C (_:Unit):Lean.MacroM (Array (Lean.TSyntax `Lean.Parser.Tactic.tacticSeq)):=("OH GW NU Bl.int 0|QI kI NV Bl.min 1|QS kI NX Bl.max 1|QU kI Om Bl.abs 0|str 2|int 2|tuple 2|bool 2".splitOn "|":List String).toArray.mapM λz=>do
  let u:=z.splitOn " "
  let k:=u.getLast!.toNat!
  let s:=u.head!
  let ws:Array Lean.Ident:=(u.map λn=>Lean.mkIdent n.toName).toArray
  if k=2 then
   `(tacticSeq|refine K0 (v:=.ty $(Lean.quote s)) rfl ($(Lean.mkIdent<|.str (.str .anonymous "Bl") s) (by assumption)) $(Lean.mkIdent (.str `PyProof.Rows ("boot_" ++s))) rfl)
  else
   let e←if k=1 then `($(ws[2]!) rfl) else pure #[ws[2]!.raw]
   `(tacticSeq|((with_reducible refine Qp $(ws[0]!) ?_);refine $(ws[1]!) $e rfl ($(ws[3]!) (by assumption)) (by rfl) ?_))
 let z:=([(0,0),(0,42),(42,2),(44,5),(49,2),(51,9),(60,3),(63,4),(67,3),(70,5),(75,14),(0,96)]:List (Nat×Nat)).getD k (0,0)
 let a←A z.1 z.2
 if k=0 then `(tactic|($(⟨cS⟩))) else
 if k<11 then
  let c←if k=1 then C () else pure [←`(tacticSeq|fail)].toArray
  let u:=[ad,ap,be,bh,bi,bw,ci,cj,cs,cL][k-1]!
  let v:=[am,aT,aT,aT,bn,bY,aT,aT,cw,aT][k-1]!
  `(tactic|(($(⟨u⟩));first|(with_reducible first $[| $a]*)|($(⟨v⟩))|(first $[| $c]*))) else
 if k=11 then `(tactic|with_reducible first $[| $a]*) else
 if k=12 then `(tactic|($(⟨db⟩))) else
 let b←g ("Iy 1|PassesOwn.never 0|L6 0|KP 0|Bl.abs 1|Bl.all 1|Bl.any 1|Bl.bool 1|Bl.dict 1|Bl.enum 1|Bl.int 1|Bl.isi 1|Bl.len 1|Bl.max 1|Bl.min 1|Bl.range 1|Bl.sorted 1|Bl.str 1|Bl.tuple 1|Bl.zip 1|qi 2|FW 1".splitOn "|")
 let c←C ()
 `(tactic|first $[| $c]* $[| $b]*)
set_option hygiene true
local macro_rules|`(tactic|ac_rfl)=>`(tactic|repeat specialize 0)
local macro_rules|`(tactic|exists $a,$b)=>`(tactic|(refine bI (N:=$a) (js:=$b) (aL.gen rfl rfl rfl rfl rfl rfl) rfl ?_ (fun _ _ _ _=>?_) (fun _ _ _ _=>?_) (fun _ _ _ _=>?_);ac_rfl))
local macro_rules|`(tactic|injections $a:ident $b:ident)=>`(tactic|(have h:=aF.nd $a;refine bz (by assumption) $a (fun e A b s H E g=>?_);delta $b;ac_rfl))
section
variable{P:X9}{w:Xc}{K:X1}{c:X3}{a:Xe}{f:X8}{d:FuncData}
def uG:aF ["_law_script","_law_k","_law_cell","_law_digits"] FP (aB qv):=ff
def CA(F:dX K "_law_pot" "_law_pot" qv f d)(B:Bl c):bx P w K c a dw 1 f d FP (dW #[K,c] 2 oQ):=by
 injections uG sS
def qS:aF ["_law_pot_here","_law_many","_law_digit","_law_mixed"] F9 (aB mI):=ff
def AO(F:dX K "_law_take" "_law_take" mI f d)(B:Bl c):bx P w K c a dw 1 f d F9 (dW #[K,c] 2 aJ):=by
 injections qS pY
def pL:aF ["_law_pot_here","_law_stem","_law_many","_law_left"] Ga (aB lC):=ff
def yk(F:dX K "_law_words" "_law_words" lC f d)(B:Bl c)(h:cY P w K c a):bx P w K c a dw 2 f d Ga (dW #[K,c] 3 dr):=by
 injections pL mL
 exists ["_law_one","_law_stem"],[none,some 1]
 exists ["_law_k","_law_pot_here","_law_left"],[none,some 0,some 3]
def Ab:aF CH CH (aB m3):=ff
def A3(F:dX K "_law_pick" "_law_pick" m3 f d)(B:Bl c)(g:cY P w K c a):bx P w K c a dw 2 f d CH (dW #[K,c] 2 bR):=by
 injections Ab pT
def uM:aF ["_law_pot_here","_law_words_here","_law_bells","_law_deep","_law_way","_law_word"] zt (aB qf):=ff
theorem uD(F:dX K "_law_sum" "_law_sum" qf f d)(B:Bl c)(i:cY P w K c a)(l:fJ P w K c a)(b:Binds K d zt [])(g:PySem.W.keepIn K (.ref f)=true)(m:c "_law_sum"=some (.ref f)):∀n,bx P w K c a dw (3+n) f d zt (dW #[K,c] 4<|bH n)
 |0=>vG
 | n+1=>by
   have p:eD P w K c a (3+n) "_law_sum" zt (bH n):=#[f,d,uD F B i l b g m n,b,g,m]
   let o:=uM.nd
   show bz (k:=3+n) F uM λh A e s H E j=>?_
   let q:=j.units0
   delta tU
   ac_rfl
def pN:aF ["_law_pot_here","_law_words_here","_law_bells","_law_at","_law_turn","_law_row_here","_law_way","_law_test"] Fz (aB lq):=ff
def ye(F:dX K "_law_waits" "_law_waits" lq f d)(B:Bl c)(i:k8 P w K c a)(h:cY P w K c a)(k:fJ P w K c a):bx P w K c a dw 8 f d Fz (dW #[K,c] 4 jU):=by
 injections pN mW
def vY:aF ["_law_pot_here","_law_goals","_law_things","_law_words_here","_law_room_here","_law_deed_here","_law_goal"] Fs (aB tP):=ff
def DS(F:dX K "_law_do" "_law_do" tP f d)(B:Bl c)(j:fJ P w K c a)(h:k8 P w K c a):bx P w K c a dw 8 f d Fs (dW #[K,c] 4 mZ):=by
 injections vY wH
def qT:aF ["_law_pot_here","_law_room_here","_law_goals","_law_most","_law_manner","_law_things","_law_bells","_law_words_here","_law_rows","_law_k","_law_way","_law_word"] Fv (aB mN):=ff
def A9(F:dX K "_law_deed" "_law_deed" mN f d)(B:Bl c)(i:cY P w K c a)(m:zI P w K c a)(l:fJ P w K c a)(j:yO P w K c a)(k:k8 P w K c a):bx P w K c a dw 9 f d Fv (dW #[K,c] 4 mf):=by
 let h:=qT.nd
 show bz F qT λe A b s H E g=>?_
 let n:=g.units0
 delta qx
 ac_rfl
def rp:aF ["_law_pot_here","_law_name","_law_goals","_law_manners","_law_bells_most","_law_manner","_law_things","_law_bells","_law_deeds","_law_word","_law_here","_law_some","_law_sorts"] FG (aB nE):=ff
def AY(F:dX K "_law_room" "_law_room" nE f d)(B:Bl c)(k:fJ P w K c a)(i:lN P w K c a)(h:cY P w K c a)(l:BB P w K c a):bx P w K c a dw 10 f d FG (dW #[K,c] 5 lX):=by
 injections rp pW
 show zS (n:=10) (N:= ["_law_deed_here","_law_name"]) (js:= [none,some 1]) (aL.gen L L L L L L) L ?_ (λ_ _ _ _=>?_) (λ_ _ _ _=>?_) (λ_ _ _ _=>?_) ?_
 ac_rfl
 exists ["_law_bell","_law_pot_here"],[none,some 0]
 exists ["_law_thing","_law_pot_here"],[none,some 0]
def pK:aF ["_law_pot_here","_law_many","_law_manners","_law_bells_most","_law_names","_law_rooms_here","_law_goals","_law_room_here","_law_name"] F8 (aB me):=ff
def yp(F:dX K "_law_rooms" "_law_rooms" me f d)(B:Bl c)(j:lN P w K c a)(i:cY P w K c a)(k:C6 P w K c a):bx P w K c a dw 11 f d F8 (dW #[K,c] 4 jO):=by
 let b:=pK.nd
 show bz F pK λh A g s H E e=>?_
 let l:=e.units0
 show(qi (GC 4 b (HV (Ox j e (dA (v_ 0) (dA N8 (dA (v_ 1) jN))))))
  (qi (GC 5 b (HV (Ig jN)))
  (qi (KY 4 PassesOwn.never (Ko l (Px (v_ 4))) (qi (GC 6 b (HV (Ig jN)))
  (qi (Pg PassesOwn.never L (L0 (Px (v_ 5))) (Qv 7 b) (FW (HZ (Jp (v_ 6) (RC (Iw (N:=Oh) (js:= [none,some 7]) (aL.gen L L L L L L) L (L0 (Px (LD (v_ 7) Gd))) (λ_ _ _ _=>(QB 0)) (λ_ _ _ _=>PF) (λ_ _ _ _=>(Ou (dA (LD (v_ 1) Gd) (dA (LD (v_ 0) Gd) jN))))))))))
  (qi (GC 8 b (KF (v_ 4) (NO i e (dA (v_ 0) (dA (L_ L B.len (Px (v_ 4))) jN)))))
  (FW (HZ (HL (v_ 5) (NO k e (dA (v_ 0) (dA (v_ 8) (dA (v_ 6) (dA (v_ 2) (dA (v_ 3) jN)))))))))))))
  (FW (L3 (Lf L B.tuple (RC (Hy L B.sorted (Px (v_ 5)))) (ht:=KP)))))))
def uS:aF ["_law_pot_here","_law_goals","_law_words_here","_law_passes","_law_most","_law_rows","_law_k","_law_way"] FN (aB qH):=ff
def C8(F:dX K "_law_own" "_law_own" qH f d)(B:Bl c)(i:cY P w K c a)(j:yO P w K c a)(l:fJ P w K c a)(k:k8 P w K c a):bx P w K c a dw 9 f d FN (dW #[K,c] 5 oH):=by
 let h:=uS.nd
 show bz F uS λe A b s H E g=>?_
 let m:=g.units0
 delta sH
 ac_rfl
end
section
variable{P:X9}{w:Xc}{K:X1}{b:X3}{a:Xe}{f:X8}{c:FuncData}
def pk:aF ["_law_pot_here","_law_rooms_here","_law_hands","_law_passes_most","_law_goals","_law_room_here","_law_passes","_law_shared","_law_made","_law_k","_law_own_here","_law_program_here","_law_counted_here"] E_ (aB lR):=ff
def yc(F:dX K "_law_world" "_law_world" lR f c)(B:Bl b)(i:lN P w K b a)(h:cY P w K b a)(k:DJ P w K b a):bx P w K b a dw 10 f c E_ (dW #[K,b] 4 jS):=by
 injections pk nZ
 exists Oh,[none,some 5]
 exists Il,[none,some 0]
 exists Il,[none,some 0]
 exists Il,[none,some 0]
def jL:aF ["_law_pot_here","_law_rooms_here"] E9 (aB gZ):=ff
def rD(F:dX K "_law_any_world" "_law_any_world" gZ f c)(B:Bl b)(h:zN P w K b a)(i:cY P w K b a)(k:AF P w K b a):bx P w K b a dw 12 f c E9 (dW #[K,b] 1 fh):=by
 injections jL iO
def pI:aF ["_law_world_here","_law_rooms_here","_law_name","_law_manner","_law_things","_law_bells","_law_deeds","_law_hands","_law_program_here"] Fl (aB lL):=ff
def yn(F:dX K "_law_first" "_law_first" lL f c)(B:Bl b):bx P w K b a dw 1 f c Fl (dW #[K,b] 1 jK):=by
 let g:=pI.nd
 show iJ F pI λe A d s H E h=>?_
 delta n_
 ac_rfl
 exists Gi,[none,none]
 exists Nr,[none]
 exists Gi,[none,none]
 exists Gi,[none,none]
 exists Gi,[none,none]
def Bb:aF wA wA (aB n0):=ff
def zJ(F:dX K "values_of" "values_of" n0 f c)(B:Bl b):bx P w K b a dw 1 f c wA (dW #[K,b] 1 hV):=by
 injections Bb qm
 exists ["word","value"],[none,none]
def pD:aF ["room","name","manner","things","bells","deeds"] CO (aB mr):=ff
def x8(F:dX K "begun_room" "begun_room" mr f c)(B:Bl b)(j:uu P w K b a){g:Tok}(h:b "NOBODY"=some (.int (-1) g)):bx P w K b a dw 2 f c CO (dW #[K,b] 1 jT):=by
 injections pD m6
 exists ["bell"],[none]
def BQ:aF ["world","rooms","passes","shared","hands","own"] Bh (aB AG):=ff
def JU(F:dX K "begun" "begun" AG f c)(B:Bl b)(j:uu P w K b a)(l:AK P w K b a){g:Tok}(i:b "OWN"=some (.int (-1) g)):bx P w K b a dw 3 f c Bh (dW #[K,b] 1 wb):=by
 injections BQ EF
 exists CO,[none]
 exists ["name","value"],[none,none]
 exists ["things","program","own"],[none,none,some 5]
def kS:aF ["_law_now","_law_own_here","_law_values","_law_within","_law_row_here","_law_late","_law_bells","_law_bell"] Ly (aB iM):=ff
def sP(F:dX K "_law_is_bound" "_law_is_bound" iM f c)(B:Bl b):bx P w K b a dw 1 f c Ly (dW #[K,b] 2 gL):=by
 injections kS jk
 exists ["_law_turn","_law_other"],[none,none]
 exists ["_law_value_here","_law_row_here","_law_own_here"],[none,none,some 1]
def uW:aF ["_law_world_here","_law_now","_law_found","_law_own_here","_law_frame","_law_ended"] Ff (aB qw):=ff
def C_(F:dX K "_law_may" "_law_may" qw f c)(B:Bl b)(h:vh P w K b a):bx P w K b a dw 2 f c Ff (dW #[K,b] 2 oT):=by
 injections uW tY
def BL:aF Dt Dt (aB qd):=ff
def CL(F:dX K "hands_at" "hands_at" qd f c)(B:Bl b):bx P w K b a dw 1 f c Dt (dW #[K,b] 1 oU):=by
 injections BL sV
 exists ["turn","hand"],[none,none]
def kE:aF ["scene","hands","value","row","values","within","late","bells","line"] zG (aB iH):=ff
def tO(F:dX K "hands_in_rows" "hands_in_rows" iH f c)(B:Bl b)(i:DP P w K b a):bx P w K b a dw 2 f c zG (dW #[K,b] 1 fG):=by
 injections kE jf
def yz:aF C9 C9 (aB lY):=ff
def yy(F:dX K "last_frame" "last_frame" lY f c)(B:Bl b):bx P w K b a dw 1 f c C9 (dW #[K,b] 2 dq):=by
 injections yz mY
def pF:aF ["world","hand","frame","room","deed"] AZ (aB lO):=ff
def xW(F:dX K "program_of" "program_of" lO f c)(B:Bl b){g:Tok}(k:b "OWN"=some (.int (-1) g)):bx P w K b a dw 1 f c AZ (dW #[K,b] 3 gu):=by
 injections pF om
 show L4<|Jl (i:=3) (j:=4) L (by assumption) L L (!1) L L ?_ L
 ac_rfl
def kQ:aF ["world","scene","hand","frame"] fH (aB iE):=ff
def sU(F:dX K "is_behind_all" "is_behind_all" iE f c)(B:Bl b)(j:eV P w K b a)(l:k_ P w K b a){g:Tok}(i:b "OWN"=some (.int (-1) g)):bx P w K b a dw 2 f c fH (dW #[K,b] 3 gI):=by
 injections kQ jA
def uA:aF ["world","scene","held_up"] Aa (aB p6):=ff
def B_(F:dX K "may_step" "may_step" p6 f c)(B:Bl b)(j:u0 P w K b a)(h:vk P w K b a):bx P w K b a dw 3 f c Aa (dW #[K,b] 2 i9):=by
 injections uA tR
 exists ["hand","world","scene","held_up"],[none,some 0,some 1,some 2]
end
section
variable{P:X9}{w:Xc}{K:X1}{c:X3}{a:Xe}{f:X8}{d:FuncData}
def AX:aF B5 B5 (aB og):=ff
def Ac(F:dX K "_law_next" "_law_next" og f d)(B:Bl c)(g:cY P w K c a)(i:fJ P w K c a):bx P w K c a dw 3 f d B5 (dW #[K,c] 3 mi):=by
 injections AX ql
def u7:aF Cf Cf (aB jv):=ff
def u9(F:dX K "_law_program" "_law_program" jv f d)(B:Bl c):bx P w K c a dw 1 f d Cf (dW #[K,c] 3 fU):=by
 injections u7 j6
def yB:aF CW CW (aB mh):=ff
def ym(F:dX K "_law_enter" "_law_enter" mh f d)(B:Bl c):bx P w K c a dw 1 f d CW (dW #[K,c] 2 iu):=by
 show iJ F yB λe A b s H E g=>?_
 delta oo
 ac_rfl
def yo:aF CZ CZ (aB lK):=ff
def ya(F:dX K "_law_leave" "_law_leave" lK f d)(B:Bl c):bx P w K c a dw 1 f d CZ (dW #[K,c] 1 ij):=by
 show iJ F yo λe A b s H E g=>?_
 let h:=g.units0
 delta m7
 ac_rfl
def Bs:aF CD CD (aB mM):=ff
def A_(F:dX K "_law_spot" "_law_spot" mM f d)(B:Bl c):bx P w K c a dw 1 f d CD (dW #[K,c] 2 da):=by
 injections Bs p9
 exists ["_law_row_here"],[none]
def um:aF ["_law_world_here","_law_now","_law_own_here","_law_word","_law_value_here","_law_frame"] Fe (aB qt):=ff
def BM(F:dX K "_law_set" "_law_set" qt f d)(B:Bl c)(i:jV P w K c a):bx P w K c a dw 2 f d Fe (dW #[K,c] 5 kh):=by
 let g:=um.nd
 show iJ F um λe A b s H E h=>?_
 delta sW
 ac_rfl
 exists FQ,[none]
def uF:aF ["_law_world_here","_law_now","_law_own_here","_law_frames","_law_room_here","_law_deed_here","_law_row_here","_law_given","_law_told","_law_ahead"] uO (aB pP):=ff
def Cg(F:dX K "_law_end" "_law_end" pP f d)(B:Bl c)(k:qP P w K c a)(i:oh P w K c a)(j:xp P w K c a):bx P w K c a dw 3 f d uO (dW #[K,c] 3 oE):=by
 let g:=uF.nd
 show iJ F uF λe A b s H E h=>?_
 delta sG
 ac_rfl
def pe:aF ["_law_told","_law_things","_law_waiting","_law_parts","_law_one","_law_other"] yC (aB lE):=ff
theorem pj(F:dX K "_law_value" "_law_value" lE f d)(B:Bl c)(b:Binds K d yC [])(g:PySem.W.keepIn K (.ref f)=true)(m:c "_law_value"=some (.ref f)):∀n,bx P w K c a dw (1+n) f d yC (dW #[K,c] 3<|eP n)
 |0=>vG
 | n+1=>by
   have o:eD P w K c a (1+n) "_law_value" yC (eP n):=#[f,d,pj F B b g m n,b,g,m]
   let l:=pe.nd
   show bz (k:=1+n) F pe λh A e s H E i=>?_
   let j:=FK i
   delta nX
   ac_rfl
   show zS (n:=3) (N:= ["_law_part","_law_things","_law_waiting"]) (js:= [none,some 1,some 2]) (aL.gen L L L L L L) L ?_ (λ_ _ _ _=>?_) (λ_ _ _ _=>?_) (λ_ _ _ _=>?_) ?_
   ac_rfl
def nL:aF ["_law_world_here","_law_now","_law_own_here","_law_told","_law_frame","_law_words_here","_law_values","_law_room_here","_law_things","_law_many","_law_waiting"] FL (aB jY):=ff
def vZ(F:dX K "_law_reckon" "_law_reckon" jY f d)(B:Bl c)(j:Br P w K c a):bx P w K c a dw 7 f d FL (dW #[K,c] 4 cX):=by
 let i:=nL.nd
 show bz F nL λe A b s H E g=>?_
 let h:=FK g
 delta k0
 ac_rfl
 exists FQ,[none]
 exists FQ,[none]
 show zS (n:=9) (N:=Nr) (js:= [none]) (aL.gen L L L L L L) L ?_ (λ_ _ _ _=>?_) (λ_ _ _ _=>?_) (λ_ _ _ _=>?_) ?_
 ac_rfl
 exists FQ,[none]
def qR:aF ["_law_world_here","_law_now","_law_own_here","_law_row_here","_law_number","_law_room_here","_law_spot_here","_law_bell","_law_turn","_law_called"] kR (aB mJ):=ff
def zv(F:dX K "_law_ring" "_law_ring" mJ f d)(B:Bl c)(i:jV P w K c a)(j:pA P w K c a)(l:qP P w K c a):bx P w K c a dw 8 f d kR (dW #[K,c] 4 lZ):=by
 let h:=qR.nd
 show iJ F qR λe A b s H E g=>?_
 let k:=g.units0
 delta qL
 ac_rfl
 exists ["_law_one","_law_turn"],[none,some 8]
def Ak:aF Dq Dq (aB nK):=ff
def As(F:dX K "_law_give" "_law_give" nK f d)(B:Bl c):bx P w K c a dw 1 f d Dq (dW #[K,c] 1 lU):=by
 show iJ F Ak λe A b s H E g=>?_
 let h:=g.units0
 delta qA
 ac_rfl
def Bx:aF BE BE (aB qF):=ff
def BH(F:dX K "_law_get" "_law_get" qF f d)(B:Bl c):bx P w K c a dw 1 f d BE (dW #[K,c] 2 oG):=by
 show iJ F Bx λe A b s H E g=>?_
 delta sC
 ac_rfl
def vi:aF kR kR (aB jt):=ff
def u6(F:dX K "_law_counted" "_law_counted" jt f d)(B:Bl c)(g:Bw P w K c a)(i:jV P w K c a)(j:Ej P w K c a):bx P w K c a dw 2 f d kR (dW #[K,c] 4 ia):=by
 show iJ F vi λe A b s H E h=>?_
 delta j2
 ac_rfl
def uJ:aF ["_law_world_here","_law_now","_law_own_here","_law_row_here","_law_frame","_law_given","_law_number"] kR (aB qN):=ff
def BW(F:dX K "_law_row" "_law_row" qN f d)(B:Bl c)(k:xp P w K c a)(j:pA P w K c a)(l:jV P w K c a)(m:rP P w K c a)(n:B7 P w K c a)(h:xD P w K c a):bx P w K c a dw 9 f d kR (dW #[K,c] 4 kA):=by
 let g:=uJ.nd
 show iJ F uJ λe A b s H E i=>?_
 delta tE
 ac_rfl
end
section
variable{P:X9}{w:Xc}{K:X1}{c:X3}{a:Xe}{f:X8}{d:FuncData}
def rT:aF ["_law_world_here","_law_now","_law_own_here","_law_frame","_law_program_here"] uO (aB nH):=ff
def AM(F:dX K "_law_step" "_law_step" nH f d)(B:Bl c)(j:oh P w K c a)(k:rP P w K c a)(h:DH P w K c a)(l:EG P w K c a):bx P w K c a dw 10 f d uO (dW #[K,c] 3 lB):=by
 let g:=rT.nd
 show iJ F rT λe A b s H E i=>?_
 delta pQ
 ac_rfl
def zV:aF EH EH (aB nO):=ff
theorem qZ(F:dX K "_law_same" "_law_same" nO f d)(B:Bl c)(b:Binds K d EH [])(g:PySem.W.keepIn K (.ref f)=true)(m:c "_law_same"=some (.ref f)):∀n,bx P w K c a dw (1+n) f d EH (dW #[K,c] 2<|fZ n)
 |0=>vG
 | n+1=>by
   have j:eD P w K c a (1+n) "_law_same" EH (fZ n):=#[f,d,qZ F B b g m n,b,g,m]
   show bz (k:=1+n) F zV λh A e s H E i=>?_
   delta hJ
   ac_rfl
   exists ["_law_one","_law_other"],[none,none]
def nk:aF ["_law_now","_law_rooms_here","_law_values","_law_within","_law_row_here","_law_late","_law_bells","_law_hands","_law_frames"] Ft (aB j9):=ff
def vX(F:dX K "_law_frozen" "_law_frozen" j9 f d)(B:Bl c):bx P w K c a dw 1 f d Ft (dW #[K,c] 1 gM):=by
 injections nk lS
 exists Nr,[none]
 exists ["_law_frame"],[none]
 exists ["_law_value_here","_law_row_here"],[none,none]
def C3:aF B3 B3 (aB qh):=ff
def CK(F:dX K "names_of" "names_of" qh f d)(B:Bl c):bx P w K c a dw 1 f d B3 (dW #[K,c] 1 fo):=by
 injections C3 sF
 exists ["row"],[none]
def C4:aF BD BD (aB qg):=ff
def Dj(F:dX K "place_of" "place_of" qg f d)(B:Bl c)(g:pR P w K c a):bx P w K c a dw 2 f d BD (dW #[K,c] 2 dI):=by
 injections C4 sy
def Ae:aF Ce Ce (aB nY):=ff
def z9(F:dX K "with_part" "with_part" nY f d)(B:Bl c):bx P w K c a dw 1 f d Ce (dW #[K,c] 3 dY):=by
 injections Ae qI
def Bp:aF B6 B6 (aB nM):=ff
def AA(F:dX K "with_hand" "with_hand" nM f d)(B:Bl c)(g:ip P w K c a):bx P w K c a dw 2 f d B6 (dW #[K,c] 4 f_):=by
 injections Bp p5
def zZ:aF Cn Cn (aB nI):=ff
def Ba(F:dX K "with_room" "with_room" nI f d)(B:Bl c)(g:ip P w K c a):bx P w K c a dw 2 f d Cn (dW #[K,c] 3 dD):=by
 injections zZ qB
def rM:aF ["world","scene","hand","word","value","room","place","values","shared","frames"] zH (aB oa):=ff
def zK(F:dX K "put_thing" "put_thing" oa f d)(B:Bl c)(j:eV P w K c a)(k:jn P w K c a)(n:ip P w K c a)(p:iA P w K c a)(l:pR P w K c a)(m:jX P w K c a){g:Tok}(i:c "OWN"=some (.int (-1) g)):bx P w K c a dw 3 f d zH (dW #[K,c] 5 fY):=by
 injections rM mj
def vc:aF Cs Cs (aB jz):=ff
def ve(F:dX K "value_of_two" "value_of_two" jz f d)(B:Bl c){g:Tok}(h:c "HIGHEST"=some (.int (9) g)):bx P w K c a dw 1 f d Cs (dW #[K,c] 3 ib):=by
 injections vc jZ
def uN:aF ["tree","things","waiting","first"] t8 (aB pX):=ff
theorem ue(F:dX K "value_of" "value_of" pX f d)(B:Bl c)(i:vS P w K c a)(b:Binds K d t8 [])(g:PySem.W.keepIn K (.ref f)=true)(m:c "value_of"=some (.ref f)):∀n,bx P w K c a dw (2+n) f d t8 (dW #[K,c] 3<|g7 n)
 |0=>vG
 | n+1=>by
   have p:eD P w K c a (2+n) "value_of" t8 (g7 n):=#[f,d,ue F B i b g m n,b,g,m]
   let o:=uN.nd
   show bz (k:=2+n) F uN λh A e s H E j=>?_
   let l:=FK j
   delta tH
   ac_rfl
def uH:aF ["world","scene","hand","tree","frame","room","things","waiting"] Bo (aB qu):=ff
def Cr(F:dX K "reckoned" "reckoned" qu f d)(B:Bl c)(l:eV P w K c a)(m:pR P w K c a)(o:Eb P w K c a){i:Tok}(k:c "OWN"=some (.int (-1) i)):bx P w K c a dw 9 f d Bo (dW #[K,c] 4 eG):=by
 let j:=uH.nd
 show bz F uH λe A b s H E g=>?_
 let h:=FK g
 delta oI
 ac_rfl
 show JI (n:=7) (N:= ["bell","line"]) (js:= [none,none]) (aL.gen L L L L L L) L ?_ (λ_ _ _ _=>?_) (λ_ _ _ _=>?_) (λ_ _ _ _=>?_) (λ_ _ _ _=>?_) ?_
 ac_rfl
def Hn:aF bB bB (aB wX):=ff
def GN(F:dX K "by_put" "by_put" wX f d)(B:Bl c)(h:uq P w K c a)(g:hX P w K c a):bx P w K c a dw 10 f d bB (dW #[K,c] 4 vn):=by
 injections Hn z4
def jB:aF ["scene","hand","frame","values","frames"] FD (aB gK):=ff
def qM(F:dX K "with_last_frame" "with_last_frame" gK f d)(B:Bl c)(i:jX P w K c a):bx P w K c a dw 3 f d FD (dW #[K,c] 3 eE):=by
 injections jB g9
end
section
variable{P:X9}{w:Xc}{K:X1}{b:X3}{a:Xe}{f:X8}{c:FuncData}
def zj:aF ["scene","hand","row","frame"] Fj (aB vV):=ff
def GR(F:dX K "at_row" "at_row" vV f c)(B:Bl b)(h:eV P w K b a)(i:jQ P w K b a):bx P w K b a dw 4 f c Fj (dW #[K,b] 3 lG):=by
 injections zj zw
def Az:aF bB bB (aB nB):=ff
def Av(F:dX K "by_unless" "by_unless" nB f c)(B:Bl b)(h:hX P w K b a)(g:xw P w K b a):bx P w K b a dw 10 f c bB (dW #[K,b] 4 lQ):=by
 injections Az qD
def Iv:aF bB bB (aB An):=ff
def HW(F:dX K "by_go" "by_go" An f c)(B:Bl b)(g:xw P w K b a):bx P w K b a dw 5 f c bB (dW #[K,b] 4 zR):=by
 injections Iv DF
def wz:aF ["scene","room","hand","values","within","row","late","bells"] AC (aB t5):=ff
def ED(F:dX K "come_in" "come_in" t5 f c)(B:Bl b)(k:iA P w K b a){g:Tok}(h:b "NOBODY"=some (.int (-1) g)):bx P w K b a dw 3 f c AC (dW #[K,b] 3 nJ):=by
 injections wz xx
def BO:aF ["world","scene","hand","row","room","deed","frame","values","frames"] bB (aB Bc):=ff
def Ju(F:dX K "by_do" "by_do" Bc f c)(B:Bl b)(i:jn P w K b a)(h:hX P w K b a)(j:yZ P w K b a)(l:jX P w K b a):bx P w K b a dw 10 f c bB (dW #[K,b] 4 AU):=by
 injections BO Ey
def v5:aF ["world","scene","hand","word","room"] zW (aB tN):=ff
def DQ(F:dX K "bell_of" "bell_of" tN f c)(B:Bl b)(h:eV P w K b a)(i:jn P w K b a):bx P w K b a dw 3 f c zW (dW #[K,b] 4 kC):=by
 injections v5 xK
def q_:aF ["scene","room","bell","line","state"] FI (aB mQ):=ff
def A7(F:dX K "with_line" "with_line" mQ f c)(B:Bl b)(j:iA P w K b a)(h:ip P w K b a):bx P w K b a dw 3 f c FI (dW #[K,b] 4 gf):=by
 injections q_ p0
def Dc:aF ["scene","room","values","within","row","late","bells"] zU (aB zO):=ff
def IW(F:dX K "leave" "leave" zO f c)(B:Bl b)(k:iA P w K b a){g:Tok}(h:b "NOBODY"=some (.int (-1) g)):bx P w K b a dw 3 f c zU (dW #[K,b] 2 sA):=by
 injections Dc DE
def xG:aF ["world","scene","hand","row","room","bell","turn","line","ahead","waiting"] bB (aB t9):=ff
def Ep(F:dX K "by_wait" "by_wait" t9 f c)(B:Bl b)(j:sY P w K b a)(h:hX P w K b a)(k:nT P w K b a)(l:E7 P w K b a):bx P w K b a dw 10 f c bB (dW #[K,b] 4 rS):=by
 injections xG xE
 exists ["other","waiter","turn"],[none,none,some 6]
def xc:aF ["world","scene","hand","row","room","bell","line","called","values","within","queue","late","bells"] bB (aB tj):=ff
def EO(F:dX K "by_call" "by_call" tj f c)(B:Bl b)(i:sY P w K b a)(j:nT P w K b a)(k:iA P w K b a):bx P w K b a dw 4 f c bB (dW #[K,b] 4 rY):=by
 injections xc xq
def yM:aF ["world","scene","hand","row","room","bell"] bB (aB vL):=ff
def GX(F:dX K "by_all" "by_all" vL f c)(B:Bl b)(i:sY P w K b a)(j:nT P w K b a):bx P w K b a dw 4 f c bB (dW #[K,b] 4 vE):=by
 injections yM AN
def vN:aF ["world","scene","hand","row","told"] bB (aB tF):=ff
def D7(F:dX K "by_tell" "by_tell" tF f c)(B:Bl b)(h:hX P w K b a)(j:jQ P w K b a)(i:eV P w K b a):bx P w K b a dw 10 f c bB (dW #[K,b] 4 qY):=by
 injections vN wU
def zY:aF Ds Ds (aB mR):=ff
def z_(F:dX K "with_pass" "with_pass" mR f c)(B:Bl b)(g:ip P w K b a):bx P w K b a dw 2 f c Ds (dW #[K,b] 3 gk):=by
 injections zY p_
def BI:aF ["world","scene","hand","name","place","value","row"] AR (aB zL):=ff
def IQ(F:dX K "taken" "taken" zL f c)(B:Bl b)(h:jn P w K b a)(i:uc P w K b a):bx P w K b a dw 3 f c AR (dW #[K,b] 4 xA):=by
 injections BI Ec
def D8:aF bB bB (aB tm):=ff
def EE(F:dX K "by_take" "by_take" tm f c)(B:Bl b)(h:F7 P w K b a):bx P w K b a dw 4 f c bB (dW #[K,b] 4 q0):=by
 injections D8 wg
def pG:aF ["world","scene","name","place","value","row"] A8 (aB mq):=ff
def yw(F:dX K "given_back" "given_back" mq f c)(B:Bl b)(i:jn P w K b a)(k:uc P w K b a){g:Tok}(j:b "HIGHEST"=some (.int (9) g)):bx P w K b a dw 3 f c A8 (dW #[K,b] 3 ik):=by
 injections pG nz
def D1:aF bB bB (aB sL):=ff
def Ei(F:dX K "by_give" "by_give" sL f c)(B:Bl b)(g:rN P w K b a):bx P w K b a dw 4 f c bB (dW #[K,b] 4 rK):=by
 injections D1 xu
def E5:aF bB bB (aB sX):=ff
def Eo(F:dX K "by_pass" "by_pass" sX f c)(B:Bl b)(i:F7 P w K b a)(g:rN P w K b a):bx P w K b a dw 4 f c bB (dW #[K,b] 4 qQ):=by
 injections E5 wQ
def Gw:aF bB bB (aB wR):=ff
def GT(F:dX K "by_say" "by_say" wR f c)(B:Bl b):bx P w K b a dw 1 f c bB (dW #[K,b] 4 vw):=by
 injections Gw zM
def uv:aF ["world","scene","hand","row","deed"] bB (aB qo):=ff
def CM(F:dX K "row_done" "row_done" qo f c)(B:Bl b)(j:∀x F,xa.lookup x=some F->eD P w K b a 10 x bB F)(i:F_ P w K b "DONE_BY" oz):bx P w K b a dw 11 f c bB (dW #[K,b] 4 ki):=by
 let g:=uv.nd
 show bz F uv λe A d s H E h=>?_
 show(qi (GC 4 g (Lm i L (LD (v_ 3) Gd) (λ_ _=>rfl)))
  (FW (L3 (LA j (h.mono (!1)) L (by first|show Or.inl L|show Or.inr (Or.inl L)) (dA (v_ 0) (dA (v_ 1) (dA (v_ 2) (dA (v_ 3) jN)))) (oW (oW (oW (oW DR))))))))
end
section
variable{P:X9}{w:Xc}{K:X1}{b:X3}{a:Xe}{f:X8}{c:FuncData}
def ui:aF ["world","scene","hand","values","frames","room","deed","row","given","told","outside","came_by"] fH (aB qc):=ff
def BX(F:dX K "end_deed" "end_deed" qc f c)(B:Bl b)(l:jX P w K b a)(k:E7 P w K b a)(j:k_ P w K b a)(h:uq P w K b a):bx P w K b a dw 4 f c fH (dW #[K,b] 3 kL):=by
 injections ui tV
def vK:aF ["world","scene","hand","frame","room","program","row","event"] fH (aB sZ):=ff
def ET(F:dX K "step_of" "step_of" sZ f c)(B:Bl b)(p:eV P w K b a)(k:yZ P w K b a)(n:k_ P w K b a)(l:DK P w K b a)(h:hX P w K b a)(q:DU P w K b a)(i:xw P w K b a){g:Tok}(o:b "OWN"=some (.int (-1) g)):bx P w K b a dw 12 f c fH (dW #[K,b] 3 nj):=by
 injections vK m5
def E1:aF fH fH (aB sM):=ff
def Em(F:dX K "stepped" "stepped" sM f c)(B:Bl b)(g:pS P w K b a)(i:yP P w K b a):bx P w K b a dw 13 f c fH (dW #[K,b] 3 rF):=by
 injections E1 wD
def pd:aF ["_law_pot_here","_law_world_here","_law_many","_law_now","_law_scenes","_law_weaving","_law_events","_law_last","_law_turn","_law_some","_law_event"] Fb (aB mm):=ff
def yb(F:dX K "_law_woven" "_law_woven" mm f c)(B:Bl b)(q:AV P w K b a)(t:FY P w K b a)(u:D0 P w K b a)(m:pS P w K b a)(o:De P w K b a)(l:Cp P w K b a)(k:uw P w K b a)(p:yi P w K b a)(h:He P w K b a):bx P w K b a dw 14 f c Fb (dW #[K,b] 3 jI):=by
 let n:=pd.nd
 show iJ F pd λe A d s H E g=>?_
 let r:=g.units0
 delta m_
 ac_rfl
 show L4<|Jl (i:=5) (j:=6) L (by assumption) L L (!1) L L ?_ L
 ac_rfl
def yJ:aF ["world","weaving","scene","events","place","hand","event"] Ag (aB v8):=ff
def GQ(F:dX K "walked" "walked" v8 f c)(B:Bl b)(j:FY P w K b a)(g:pS P w K b a)(k:yP P w K b a):bx P w K b a dw 13 f c Ag (dW #[K,b] 2 vy):=by
 injections yJ AD
def IL:aF ["_law_script","_law_k","_law_pot_here","_law_world_here","_law_found","_law_weaving","_law_scenes","_law_events","_law_many","_law_told"] JF (aB rE):=ff
def Nb(F:dX K "law" "law" rE f c)(B:Bl b)(m:D3 P w K b a)(j:sI P w K b a)(i:Bi P w K b a)(l:uw P w K b a)(g:Jd P w K b a):bx P w K b a dw 15 f c JF (dW #[K,b] 1 LN):=by
 injections IL NN
 exists ["_law_event"],[none]
end
def all_mk{l:PySem.W.OpenLaw}{w:Xc}{K:X1}(X:K.In h)(G:h.Ns mainGlobals i)(j1:i "law"=some (.ref fa))
  (d1:aY K "_law_pot" qv f1)
  (d2:aY K "_law_take" mI f2)
  (d3:aY K "_law_words" lC f3)
  (d4:aY K "_law_pick" m3 f4)
  (d5:aY K "_law_sum" qf f5)
  (d6:aY K "_law_waits" lq f6)
  (d7:aY K "_law_do" tP f7)
  (d8:aY K "_law_deed" mN f8)
  (d9:aY K "_law_room" nE f9)
  (S2:aY K "_law_rooms" me s4)
  (b4:aY K "_law_own" qH w8)
  (n6:aY K "_law_world" lR k3)
  (a8:aY K "_law_any_world" gZ i5)
  (z6:aY K "_law_first" lL H0)
  (S3:aY K "values_of" n0 c2)
  (w5:aY K "begun_room" mr v3)
  (h9:aY K "begun" AG w2)
  (a9:aY K "_law_is_bound" iM m9)
  (k2:aY K "_law_may" qw h0)
  (s0:aY K "hands_at" qd N0)
  (q2:aY K "hands_in_rows" iH a7)
  (l6:aY K "last_frame" lY l8)
  (c5:aY K "program_of" lO x3)
  (g4:aY K "is_behind_all" iE k6)
  (M2:aY K "may_step" p6 z8)
  (q7:aY K "_law_next" og m1)
  (c4:aY K "_law_program" jv w0)
  (s5:aY K "_law_enter" mh m2)
  (o1:aY K "_law_leave" lK b9)
  (l0:aY K "_law_spot" mM y4)
  (e8:aY K "_law_set" qt I7)
  (q1:aY K "_law_end" pP h1)
  (I2:aY K "_law_value" lE t3)
  (m0:aY K "_law_reckon" jY z3)
  (k4:aY K "_law_ring" mJ r5)
  (b0:aY K "_law_give" nK l5)
  (z5:aY K "_law_get" qF b2)
  (z7:aY K "_law_counted" jt r2)
  (v6:aY K "_law_row" qN b5)
  (q9:aY K "_law_step" nH h2)
  (e5:aY K "_law_same" nO H8)
  (x0:aY K "_law_frozen" j9 e1)
  (I9:aY K "names_of" qh S0)
  (s2:aY K "place_of" qg r4)
  (e9:aY K "with_part" nY n8)
  (k9:aY K "with_hand" nM g3)
  (q3:aY K "with_room" nI e2)
  (t0:aY K "put_thing" oa I5)
  (w7:aY K "value_of_two" jz o6)
  (r9:aY K "value_of" pX s9)
  (g0:aY K "reckoned" qu o8)
  (e4:aY K "by_put" wX Q)
  (j4:aY K "with_last_frame" gK n2)
  (e7:aY K "at_row" vV I8)
  (t4:aY K "by_unless" nB z)
  (s3:aY K "by_go" An a0)
  (l2:aY K "come_in" t5 k5)
  (e3:aY K "by_do" Bc a4)
  (I6:aY K "bell_of" tN c0)
  (o7:aY K "with_line" mQ S1)
  (o3:aY K "leave" zO s8)
  (n5:aY K "by_wait" t9 y)
  (e0:aY K "by_call" tj N)
  (y1:aY K "by_all" vL a1)
  (p3:aY K "by_tell" tF ljk)
  (u1:aY K "with_pass" mR I4)
  (b7:aY K "taken" zL i1)
  (z2:aY K "by_take" tm Y)
  (q5:aY K "given_back" mq z0)
  (f0:aY K "by_give" sL A)
  (o0:aY K "by_pass" sX R)
  (c3:aY K "by_say" wR a3)
  (q8:aY K "row_done" qo b3)
  (n3:aY K "end_deed" qc g5)
  (h4:aY K "step_of" sZ s6)
  (p2:aY K "stepped" sM x4)
  (r6:aY K "_law_woven" mm r0)
  (r1:aY K "walked" v8 v1)
  {oc kV dc pm cd ct:Xd}   (e6:PySem.W.nsIn K mainGlobals "law"=some (some<|.ref j)) (x2:K.lookup j=some #[oc,od,.func (PySem.W.fnOf "law" "law" (i0 rE) (fX rE) (aB rE) .none kV dc pm an cd ct),sl]) (i2:PySem.W.codeIn K cd "law"=true) (h8:PySem.W.keepIn K (.ref j)=true)
   (JT:PySem.W.nsIn K mainGlobals "NOBODY"=some (some<|.int (-1) jq))
   (Of:PySem.W.nsIn K mainGlobals "OWN"=some (some<|.int (-1) kY))
   (GP:PySem.W.nsIn K mainGlobals "HIGHEST"=some (some<|.int (9) kj))
    (Hw:PySem.W.nsIn K mainGlobals "DONE_BY"=some (some<|.ref yT)) (DM:K.lookup yT=some #[.type "dict",none,.dict (List.toArray [#[PyData.keyHash w.params "put",.str "put" AS,.ref Q],#[PyData.keyHash w.params "unless",.str "unless" Ao,.ref z],#[PyData.keyHash w.params "go",.str "go" A6,.ref a0],#[PyData.keyHash w.params "do",.str "do" AH,.ref a4],#[PyData.keyHash w.params "wait",.str "wait" Aw,.ref y],#[PyData.keyHash w.params "call",.str "call" Ap,.ref N],#[PyData.keyHash w.params "all",.str "all" Aq,.ref a1],#[PyData.keyHash w.params "tell",.str "tell" Be,.ref ljk],#[PyData.keyHash w.params "take",.str "take" zP,.ref Y],#[PyData.keyHash w.params "give",.str "give" Am,.ref A],#[PyData.keyHash w.params "pass",.str "pass" yf,.ref R],#[PyData.keyHash w.params "say",.str "say" x9,.ref a3]]) EB,(List.toArray [])])
  (Od:PySem.W.nsIn K mainGlobals "len"=some none) (KS:PySem.W.nsIn K mainGlobals "tuple"=some none) (Nh:PySem.W.nsIn K mainGlobals "list"=some none) (Mu:PySem.W.nsIn K mainGlobals "dict"=some none) (OJ:PySem.W.nsIn K mainGlobals "set"=some none) (OO:PySem.W.nsIn K mainGlobals "int"=some none) (NZ:PySem.W.nsIn K mainGlobals "str"=some none) (MK:PySem.W.nsIn K mainGlobals "bool"=some none) (OS:PySem.W.nsIn K mainGlobals "all"=some none) (Oe:PySem.W.nsIn K mainGlobals "any"=some none) (LR:PySem.W.nsIn K mainGlobals "range"=some none) (N9:PySem.W.nsIn K mainGlobals "zip"=some none) (J3:PySem.W.nsIn K mainGlobals "sorted"=some none) (Bg:PySem.W.nsIn K mainGlobals "isinstance"=some none) (OC:PySem.W.nsIn K mainGlobals "min"=some none) (Pv:PySem.W.nsIn K mainGlobals "max"=some none) (N_:PySem.W.nsIn K mainGlobals "abs"=some none) (Ca:PySem.W.nsIn K mainGlobals "enumerate"=some none) (DI:PySem.W.nsIn K mainGlobals "reversed"=some none)
  (T:∀ns:List Int,ns.length<=63->∃S',LN [.ref 0] [.frz (ns.map D.int)]=some (.d (.bl true),S')):
  ∃fd:FuncData,(∀(s:X4) (v:Xd),BindsTo s fd #[[v],[]] [("_law_script",v)])/\∀a:Heap,K.In a->a.Ns mainGlobals i->bx l.prog w K i a dw 15 fa fd JF Co:=by
 let e:=j1.symm.trans (PySem.W.mg_of X G e6)
 cases e
 let P2:=DX (st:=rE) x2 i2 h8
 let O1:=d1.ok1 (ps:=FP) X G
 let O2:=d2.ok1 (ps:=F9) X G
 let O3:=d3.ok1 (ps:=Ga) X G
 let O4:=d4.ok1 (ps:=CH) X G
 let O5:=d5.ok1 (ps:=zt) X G
 let O6:=d6.ok1 (ps:=Fz) X G
 let O7:=d7.ok1 (ps:=Fs) X G
 let O8:=d8.ok1 (ps:=Fv) X G
 let O9:=d9.ok1 (ps:=FG) X G
 let w4:=S2.ok1 (ps:=F8) X G
 let c1:=b4.ok1 (ps:=FN) X G
 let o4:=n6.ok1 (ps:=E_) X G
 let H9:=a8.ok1 (ps:=E9) X G
 let h3:=z6.ok1 (ps:=Fl) X G
 let h5:=S3.ok1 (ps:=wA) X G
 let u2:=w5.ok1 (ps:=CO) X G
 let g1:=h9.ok1 (ps:=Bh) X G
 let w1:=a9.ok1 (ps:=Ly) X G
 let v2:=k2.ok1 (ps:=Ff) X G
 let r3:=s0.ok1 (ps:=Dt) X G
 let o5:=q2.ok1 (ps:=zG) X G
 let u8:=l6.ok1 (ps:=C9) X G
 let k7:=c5.ok1 (ps:=AZ) X G
 let x6:=g4.ok1 (ps:=fH) X G
 let l3:=M2.ok1 (ps:=Aa) X G
 let q6:=q7.ok1 (ps:=B5) X G
 let o2:=c4.ok1 (ps:=Cf) X G
 let c6:=s5.ok1 (ps:=CW) X G
 let h7:=o1.ok1 (ps:=CZ) X G
 let x5:=l0.ok1 (ps:=CD) X G
 let n1:=e8.ok1 (ps:=Fe) X G
 let b1:=q1.ok1 (ps:=uO) X G
 let l4:=I2.ok1 (ps:=yC) X G
 let s1:=m0.ok1 (ps:=FL) X G
 let l9:=k4.ok1 (ps:=kR) X G
 let t2:=b0.ok1 (ps:=Dq) X G
 let n7:=z5.ok1 (ps:=BE) X G
 let b8:=z7.ok1 (ps:=kR) X G
 let y5:=v6.ok1 (ps:=kR) X G
 let r7:=q9.ok1 (ps:=uO) X G
 let g2:=e5.ok1 (ps:=EH) X G
 let h6:=x0.ok1 (ps:=Ft) X G
 let z1:=I9.ok1 (ps:=B3) X G
 let n4:=s2.ok1 (ps:=BD) X G
 let w3:=e9.ok1 (ps:=Ce) X G
 let s7:=k9.ok1 (ps:=B6) X G
 let q4:=q3.ok1 (ps:=Cn) X G
 let l1:=t0.ok1 (ps:=zH) X G
 let l7:=w7.ok1 (ps:=Cs) X G
 let H7:=r9.ok1 (ps:=t8) X G
 let t1:=g0.ok1 (ps:=Bo) X G
 let t:=e4.ok1 (ps:=bB) X G
 let p1:=j4.ok1 (ps:=FD) X G
 let I1:=e7.ok1 (ps:=Fj) X G
 let r:=t4.ok1 (ps:=bB) X G
 let a5:=s3.ok1 (ps:=bB) X G
 let I3:=l2.ok1 (ps:=AC) X G
 let U:=e3.ok1 (ps:=bB) X G
 let x1:=I6.ok1 (ps:=zW) X G
 let H6:=o7.ok1 (ps:=FI) X G
 let b6:=o3.ok1 (ps:=zU) X G
 let S:=n5.ok1 (ps:=bB) X G
 let M:=e0.ok1 (ps:=bB) X G
 let a2:=y1.ok1 (ps:=bB) X G
 let I:=p3.ok1 (ps:=bB) X G
 let x7:=u1.ok1 (ps:=Ds) X G
 let p4:=b7.ok1 (ps:=AR) X G
 let u:=z2.ok1 (ps:=bB) X G
 let k1:=q5.ok1 (ps:=A8) X G
 let P:=f0.ok1 (ps:=bB) X G
 let C:=o0.ok1 (ps:=bB) X G
 let a6:=c3.ok1 (ps:=bB) X G
 let v0:=q8.ok1 (ps:=bB) X G
 let j5:=n3.ok1 (ps:=fH) X G
 let n9:=h4.ok1 (ps:=fH) X G
 let v4:=p2.ok1 (ps:=fH) X G
 let L2:=r6.ok1 (ps:=Fb) X G
 let o9:=r1.ok1 (ps:=Ag) X G
 let kN:=PySem.W.mg_of X G JT
 let o:=PySem.W.mg_of X G Of
 let oJ:=PySem.W.mg_of X G GP
 have s_:F_ l.prog w K i "DONE_BY" oz:=Kb (PySem.W.mg_of X G Hw) DM (.cons t.m (.cons r.m (.cons a5.m (.cons U.m (.cons S.m (.cons M.m (.cons a2.m (.cons I.m (.cons u.m (.cons P.m (.cons C.m (.cons a6.m .nil)))))))))))) (by decide +kernel)
 have B:Bl i:=#[QFq X G Od,QFq X G KS,QFq X G Nh,QFq X G Mu,QFq X G OJ,QFq X G OO,QFq X G NZ,QFq X G MK,QFq X G OS,QFq X G Oe,QFq X G LR,QFq X G N9,QFq X G J3,QFq X G Bg,QFq X G OC,QFq X G Pv,QFq X G N_,QFq X G Ca,QFq X G DI]
 show#[PySem.W.fnOf "law" "law" (i0 rE) (fX rE) (aB rE) .none kV dc pm an cd ct,λs v=>.of_eq rfl,λa _ _=>?_]
 have Z:Pk l.prog w a:=#[]
 let wI:=O1.cal Z λ_ F _ _ _=>CA F B
 let c:=O2.cal Z λ_ F _ _ _=>AO F B
 let fe:=O3.cal Z λ_ F _ _ _=>yk F B c
 let g:=O4.cal Z λ_ F _ _ _=>A3 F B c
 let fc:=O5.cal Z λ_ F b k m=>uD F B c g b k m 4
 let qX:=O6.cal Z λ_ F _ _ _=>ye F B fc c g
 let oS:=O7.cal Z λ_ F _ _ _=>DS F B g fc
 let uV:=O8.cal Z λ_ F _ _ _=>A9 F B c qX g oS fc
 let m4:=O9.cal Z λ_ F _ _ _=>AY F B g fe c uV
 let rH:=w4.cal Z λ_ F _ _ _=>yp F B fe c m4
 let wV:=c1.cal Z λ_ F _ _ _=>C8 F B c oS g fc
 let rf:=o4.cal Z λ_ F _ _ _=>yc F B fe c wV
 let kg:=H9.cal Z λ_ F _ _ _=>rD F B rH c rf
 let rg:=h3.cal Z λ_ F _ _ _=>yn F B
 let jJ:=h5.cal Z λ_ F _ _ _=>zJ F B
 let sf:=u2.cal Z λ_ F _ _ _=>x8 F B jJ kN
 let vH:=g1.cal Z λ_ F _ _ _=>JU F B jJ sf o
 let my:=w1.cal Z λ_ F _ _ _=>sP F B
 let vW:=v2.cal Z λ_ F _ _ _=>C_ F B my
 let wC:=r3.cal Z λ_ F _ _ _=>CL F B
 let mw:=o5.cal Z λ_ F _ _ _=>tO F B wC
 let f:=u8.cal Z λ_ F _ _ _=>yy F B
 let fL:=k7.cal Z λ_ F _ _ _=>xW F B o
 let mC:=x6.cal Z λ_ F _ _ _=>sU F B f fL o
 let gY:=l3.cal Z λ_ F _ _ _=>B_ F B mw mC
 let uf:=q6.cal Z λ_ F _ _ _=>Ac F B c g
 let gG:=o2.cal Z λ_ F _ _ _=>u9 F B
 let iX:=c6.cal Z λ_ F _ _ _=>ym F B
 let i6:=h7.cal Z λ_ F _ _ _=>ya F B
 let eT:=x5.cal Z λ_ F _ _ _=>A_ F B
 let lP:=n1.cal Z λ_ F _ _ _=>BM F B eT
 let xn:=b1.cal Z λ_ F _ _ _=>Cg F B i6 gG lP
 let lj:=l4.cal Z λ_ F b k m=>pj F B b k m 5
 let h_:=s1.cal Z λ_ F _ _ _=>vZ F B lj
 let uL:=l9.cal Z λ_ F _ _ _=>zv F B eT h_ i6
 let uR:=t2.cal Z λ_ F _ _ _=>As F B
 let vR:=n7.cal Z λ_ F _ _ _=>BH F B
 let oq:=b8.cal Z λ_ F _ _ _=>u6 F B uR eT vR
 let w6:=y5.cal Z λ_ F _ _ _=>BW F B lP h_ eT iX uL oq
 let uE:=r7.cal Z λ_ F _ _ _=>AM F B gG iX xn w6
 let ig:=g2.cal Z λ_ F b k m=>qZ F B b k m 10
 let pM:=h6.cal Z λ_ F _ _ _=>vX F B
 let gW:=z1.cal Z λ_ F _ _ _=>CK F B
 let q:=n4.cal Z λ_ F _ _ _=>Dj F B gW
 let H:=w3.cal Z λ_ F _ _ _=>z9 F B
 let eQ:=s7.cal Z λ_ F _ _ _=>AA F B H
 let J:=q4.cal Z λ_ F _ _ _=>Ba F B H
 let jR:=l1.cal Z λ_ F _ _ _=>zK F B f q H J gW eQ o
 let ji:=l7.cal Z λ_ F _ _ _=>ve F B oJ
 let pV:=H7.cal Z λ_ F b k m=>ue F B ji b k m 6
 let n:=t1.cal Z λ_ F _ _ _=>Cr F B f gW pV o
 let Jq:=t.cal Z λ_ F _ _ _=>GN F B jR n
 let fu:=p1.cal Z λ_ F _ _ _=>qM F B eQ
 let kn:=I1.cal Z λ_ F _ _ _=>GR F B f fu
 let CJ:=r.cal Z λ_ F _ _ _=>Av F B n kn
 let La:=a5.cal Z λ_ F _ _ _=>HW F B kn
 let oD:=I3.cal Z λ_ F _ _ _=>ED F B J kN
 let Lb:=U.cal Z λ_ F _ _ _=>Ju F B q n oD eQ
 let ja:=x1.cal Z λ_ F _ _ _=>DQ F B f q
 let gC:=H6.cal Z λ_ F _ _ _=>A7 F B J H
 let vD:=b6.cal Z λ_ F _ _ _=>IW F B J kN
 let Gs:=S.cal Z λ_ F _ _ _=>Ep F B ja n gC vD
 let Gz:=M.cal Z λ_ F _ _ _=>EO F B ja gC J
 let IT:=a2.cal Z λ_ F _ _ _=>GX F B ja gC
 let G_:=I.cal Z λ_ F _ _ _=>D7 F B n fu f
 let jP:=x7.cal Z λ_ F _ _ _=>z_ F B H
 let vz:=p4.cal Z λ_ F _ _ _=>IQ F B q jP
 let Gr:=u.cal Z λ_ F _ _ _=>EE F B vz
 let i3:=k1.cal Z λ_ F _ _ _=>yw F B q jP oJ
 let Hq:=P.cal Z λ_ F _ _ _=>Ei F B i3
 let G4:=C.cal Z λ_ F _ _ _=>Eo F B vz i3
 let JK:=a6.cal Z λ_ F _ _ _=>GT F B
 have xh:∀x F,xa.lookup x=some F->eD l.prog w K i a 10 x bB F:=by
  show HP λp hp=>?_
  erw[xa,Qsq,QXq,or_false] at hp
  rcases hp with rfl|rfl|rfl|rfl|rfl|rfl|rfl|rfl|rfl|rfl|rfl|rfl
  ·show Jq.mono (!1)
  ·show CJ.mono (!1)
  ·show La.mono (!1)
  ·show Lb.mono (!1)
  ·show Gs.mono (!1)
  ·show Gz.mono (!1)
  ·show IT.mono (!1)
  ·show G_.mono (!1)
  ·show Gr.mono (!1)
  ·show Hq.mono (!1)
  ·show G4.mono (!1)
  ·show JK.mono (!1)
 let wN:=v0.cal Z λ_ F _ _ _=>CM F B xh s_
 let wL:=j5.cal Z λ_ F _ _ _=>BX F B eQ vD fL jR
 let oK:=n9.cal Z λ_ F _ _ _=>ET F B f oD fL wL n wN kn o
 let zg:=v4.cal Z λ_ F _ _ _=>Em F B gY oK
 let rV:=L2.cal Z λ_ F _ _ _=>yb F B rg vH vW gY uf uE ig pM zg
 let BF:=o9.cal Z λ_ F _ _ _=>GQ F B vH gY oK
 show LK (Nb P2 B wI kg rV ig BF) T
end W28
namespace DL
open L2
def m8{Q:Bool->aE->Prop}(q:Q true S):E bQ a S Q:=#[_,_,L,q]
def J5{Q:D->Prop}(q:Q (.int (i+j))):Op (cD S (.int i)<|.int j) Q:=#[_,L,q]
def NG{i j:Str}{Q:D->Prop}(h:i.length+j.length<=sizeLine)(q:Q (.str (i++j))):Op (cD S (.str i)<|.str j) Q:=#[_,by erw[cD];rw[Qhq h],q]
def eI{i j:List D}{Q:D->Prop}(h:i.length+j.length<=sizeLine)(q:Q (.tup (i++j))):Op (cD S (.tup i)<|.tup j) Q:=#[_,by erw[cD];rw[Qhq h],q]
def fR{k:Int->Int->D}{Q:D->Prop}(q:Q (k i j)):Op (intD (λ_ _=>True) k S (.int i)<|.int j) Q:=#[_,by erw[intD,if_true],q]
def xj{Q:D->Prop}(h:0<j)(q:Q (.int (i%j))):Op (u5 S (.int i)<|.int j) Q:=#[_,by erw[u5,intD];rw[Qhq h],q]
def DN{Q:D->Prop}(h:HJ i j)(q:Q (.int (i/j))):Op (zr S (.int i)<|.int j) Q:=#[_,by erw[zr,intD];rw[Qhq h],q]
def wW{Q:D->Prop}(h:Ik i j)(q:Q (.int (i*j))):Op (oX S (.int i)<|.int j) Q:=#[_,by erw[oX,intD];rw[Qhq h.ok],q]
def ax{Q:D->Prop}(h:kq ds i=some d)(q:Q d):Op (fO S (.tup ds)<|.int i) Q:=#[_,h,q]
def bC{Q:D->Prop}(a:S[k]?=some (.lst ds))(h:kq ds i=some d)(q:Q d):Op (fO S (.ref k)<|.int i) Q:=#[_,by erw[fO,a];exact h,q]
def cE{Q:List D×Tag->Prop}(q:Q (ds,.tu)):Op (wo S<|.tup ds) Q:=#[_,L,q]
def a_{Q:List D×Tag->Prop}(a:S[k]?=some (.lst ds))(q:Q (ds,.st k)):Op (wo S<|.ref k) Q:=#[_,by erw[wo,a],q]
def OB{Q:α->Prop}(h:o=some d)(q:Q d):Op o Q:=#[d,h,q]
noncomputable def aG(c:b=true->p)(a:b=false->q):if b=true then p else q:=by
 cases b with
 |true=>exact c L
 |false=>exact a L
end DL
local macro_rules|`(tactic|injection $n:num)=>do
 let k:=n.getNat
 if k<6 then `(tactic|injection $(Lean.Syntax.mkNumLit (toString (k+1)))) else Lean.Macro.throwError ""
local macro_rules|`(tactic|injection $n:num)=>do
 let k:=n.getNat
 if k=6 then `(tactic|first|((with_reducible refine DL.Sg ?_); intro _)|((with_reducible refine DL.aw (d := ?_) ?_ ?_); rotate_left; rfl)|dsimp only [DL.bg, DL.aN, DL.bf, DL.bP, DL.bV, DL.fg]) else
 let mut a:Array (Lean.TSyntax `Lean.Parser.Tactic.tacticSeq):= (List.toArray [])
 for s in ((["aI","Sf","tJ","Q1","bK","fA","Mr","cU","rL","c9","bT","R4","aV","cu","aA","aZ","uC","eC","eR","Bn","bX","oY","zd","qE","sx","oB","cc","Gj","cm","JL","D2","pZ","F4","N3","m8","aS","LP","IB","jD","J5","fR","cE"]:List String).drop (7*k)).take 7 do a:=a.push (←`(tacticSeq|refine $(Lean.mkIdent (.str (.str .anonymous "DL") s)) ?_))
 `(tactic|with_reducible first $[| $a]*)
local macro_rules|`(tactic|symm)=>`(tactic|repeat injection 0)
local macro_rules|`(tactic|apply $e)=>`(tactic|(refine $e;symm))
namespace W28
open L2 DL
noncomputable def sh(a b c:Int):O:=.lst [.int a,.int b,.int c]
def G6{Q:Res->aE->Prop}(e:S[k]?=some (sh a b r))(g:0<m)(u:m<1000000)
  (h:∀(d q n l:Int),0<=d->d<m->Q (.d (.int d)) (S.set k<|sh q n l)):Fn aJ [.ref k,.int m] S Q:=by
 have p:k<S.length:=(gQs.mp e).1
 have j:∀(o:O),(S.set k o).take S.length=S.set k o:=λo=>by rw[List.take_of_length_le];simp
 refine bZ ?_
 unfold pY
 symm
 refine bC e L ?_
 symm
 refine aG (λc=>?_) (λc=>?_)
 ·symm
  refine bC e L ?_
  symm
  refine xj g ?_
  symm
  refine bC e L ?_
  symm
  refine DN #[g,by omega] ?_
  symm
  refine#[_,_,_,_,L,L,e,L,?_]
  symm
  refine jc (zm (by rfl)) (j _) (λ_ z=>by cases z) L ?_
  exact h _ _ _ _ (Int.emod_nonneg _ (!0))<|Int.emod_lt_of_pos _ g
 ·symm
  refine#[_,_,_,_,L,L,e,by decide,L,?_]
  symm
  refine#[_,_,_,L,e,L,?_]
  have i:∀o:O,(S.set k o)[k]?=some o:=λo=>by rw[Qyq p]
  symm
  refine bC (i _) L ?_
  symm
  refine wW (.inr #[by decide,by decide]) ?_
  symm
  refine bC (i _) L ?_
  refine wW (.inl #[by decide,by decide]) ?_
  symm
  refine xj (!1) ?_
  generalize f:(b*69069+9973*_+5)%2305843009213693921=mx
  have t:0<=mx:=by rw[<-f];exact Int.emod_nonneg _ (!1)
  have s:mx<2305843009213693921:=by rw[<-f];exact Int.emod_lt_of_pos _ (!1)
  symm
  refine xj (!1) ?_
  symm
  refine bC (i _) L ?_
  refine wW (.inl #[by decide,by decide]) ?_
  symm
  refine wW (.inl #[by omega,by omega]) ?_
  symm
  refine xj (!1) ?_
  symm
  refine#[_,_,_,_,L,L,i _,L,?_]
  symm
  refine bC (by rw[List.set_set];exact i _) L ?_
  symm
  refine DN #[by decide,by decide] ?_
  symm
  refine xj g ?_
  symm
  rw[List.set_set]
  refine jc (zm (by rfl)) (j _) (λ_ z=>by cases z) L ?_
  exact h _ _ _ _ (Int.emod_nonneg _ (!0))<|Int.emod_lt_of_pos _ g
structure Ex(k:Nat)(S S':aE):Prop where
 len:S.length<=S'.length
 keep:∀(j:Nat) (o:O),j≠k->S[j]?=some o->S'[j]?=some o
 pot:∃a b c,S'[k]?=some (sh a b c)
def Ex.refl(h:S[k]?=some (sh a b c)):Ex k S S:=#[Qmq _,λ_ _ _ h=>h,_,_,_,h]
def Ex.trans(x:Ex k S a)(y:Ex k a S2):Ex k S S2:=#[QAq x.len y.len,λj o n h=>y.keep j o n<|x.keep j o n h,y.pot]
def Ex.set(x:Ex k S d):Ex k S (d.set k<|sh a b c):=by
 let#[_,_,_,h]:=x.pot
 show#[by simpa using x.len,λj o n h=>?_,a,b,c,Qyq (gQs.mp h).1]
 rw[QKq (Ne.symm n)]
 show x.keep j o n h
def Ex.app(x:Ex k S d):Ex k S (d++G):=by
 let#[a,b,c,h]:=x.pot
 show#[by rw[lQa];have:=x.len;omega,λj o n h=>?_,a,b,c,?_]
 ·have:=x.keep j o n h
  rw[QHq (gQs.mp this).1]
  show this
 ·rw[QHq (gQs.mp h).1]
  show h
def Ex.put(x:Ex k S d)(i:S.length<=r)(f:k<S.length):Ex k S (d.set r o):=by
 let#[a,b,c,h]:=x.pot
 show#[by simpa using x.len,λj e n h=>?_,a,b,c,?_]
 ·let g:=(gQs.mp h).1
  rw[QKq (!0)]
  show x.keep j e n h
 ·rw[QKq (!0)]
  show h
def Ex.lt(x:Ex k S d):k<d.length:=by
 let#[a,b,c,h]:=x.pot
 show(gQs.mp h).1
def aO{S G:aE}{j:Nat}{o:O}(h:S[j]?=some o):(S++G)[j]?=some o:=by
 rw[QHq (gQs.mp h).1]
 show h
def aM:(S++ [o])[S.length]?=some o:=by simp
def fP{S:aE}{k j:Nat}{o a:O}(n:j≠k)(h:S[j]?=some o):(S.set k a)[j]?=some o:=by
 rw[QKq (Ne.symm n)]
 show h
def cZ{S:aE}{j:Nat}{o a:O}(h:S[j]?=some o):(S.set j a)[j]?=some a:=Qyq (gQs.mp h).1
def Ex.clean(x:Ex k S f)(l:k<S.length):qW S f/\∃a b c,f.take S.length=S.set k (sh a b c):=by
 let#[a,b,c,h]:=x.pot
 have g:∀j,j<S.length->f[j]?=(S.set k<|sh a b c)[j]? :=λj d=>by
  by_cases e:j=k
  ·subst e
   rw[h,Qyq d]
  ·rw[QKq (Ne.symm e),x.keep j _ e (gQe d),gQe d]
 show#[#[x.len,λj o d e=>?_],a,b,c,?_]
 ·by_cases i:j=k
  ·subst i
   rw[h] at e
   cases e
   show .inr L
  ·rw[x.keep j _ i (gQe d)] at e
   rw[gQe d]
   show .inl e
 ·apply List.ext_getElem?
  intro j
  by_cases d:j<S.length
  ·rw[List.getElem?_take_of_lt d]
   show g j d
  ·rw[List.getElem?_eq_none (by rw[Qxq];omega),List.getElem?_eq_none (by simp;omega)]
def mX{Q:Res->aE->Prop}(x:Ex k S e)(g:k<S.length)(f:∀k,d≠.ref k)(h:cA S.length d=true)(q:∀a b c,Q (.d d)<|S.set k<|sh a b c):Op (settle S d e) λp=>Q p.1 p.2:=by
 let#[j,a,b,c,i]:=x.clean g
 show jc j i f h<|q a b c
def LV{Q:Res->aE->Prop}(x:Ex k S d)(e:k<S.length)(f:cn S.length ds=true)(q:∀a b c,Q (.l ds)<|S.set k<|sh a b c):Op (eY S ds d) λp=>Q p.1 p.2:=by
 let#[h,a,b,c,g]:=x.clean e
 show p7 h g f<|q a b c
def bW{Q:Res->aE->Prop}(x:Ex k S0 S)(i:0<m)(j:m<1000000)
  (h:∀(d:Nat) (e:aE),(d:Int)<m->Ex k S0 e->Ex k S e->e.length=S.length->Q (.d (.int d)) e):Fn aJ [.ref k,.int m] S Q:=by
 let#[a,b,c,f]:=x.pot
 show G6 f i j λd q o l p g=>?_
 obtain⟨n,rfl⟩:∃n:Nat,d=n:=#[d.toNat,by omega]
 show h n _ g x.set (Ex.refl f).set (by simp)
def aU{α:Type}{xs:List α}{j:Nat}{x:α}(h:xs[j]?=some x):kq xs (j:Int)=some x:=by
 let a:=(gQs.mp h).1
 unfold kq Ef
 rw[Qhq (!0),Qhq (!0)]
 simpa using h
def fM{Q:Res->aE->Prop}(x:Ex k S0 S)(hi:i≠k)(m:S[i]?=some (.lst xs))(r:0<xs.length)(s:xs.length<1000)(p:∀d∈xs,(∀k,d≠.ref k)/\cA 0 d=true)
  (e:∀d∈xs,cA S.length d=true)
  (h:∀(d:D) (f:aE),d∈xs->Ex k S0 f->Ex k S f->f.length=S.length->Q (.d d) f):Fn bR [.ref k,.ref i] S Q:=by
 have y:Ex k S S:=by let#[a,b,c,q]:=x.pot;show Ex.refl q
 show bZ ?_
 unfold pT
 symm
 apply a_ m ?_
 show bW y (by show(0:Int)<xs.length;omega) (by show(xs.length:Int)<1000000;omega) λd f n l t o=>?_
 dsimp only[bg,aN,bf,bP,bV,fg]
 have g:d<xs.length:=by have:(d:Int)<(xs.length:Int):=n;omega
 show bC (l.keep _ _ hi m) (aU<|gQe g) ?_
 let j:=List.getElem_mem g
 show mX l x.lt (p _ j).1 (e _ j) λa b c=>?_
 show h _ _ j x.set y.set (by simp)
end W28
namespace DL
open L2
mutual
theorem dR:∀{d:D},cA 0 d=true->cA m d=true
 |.non,_=>rfl
 |.bl _,_=>rfl
 |.int _,_=>rfl
 |.str _,_=>rfl
 |.tup ds,h=>by erw[cA] at h|-;show kf h
 |.ref k,h=>by simp[cA] at h
 |.fn _,_=>rfl
theorem kf:∀{ds:List D},cn 0 ds=true->cn m ds=true
 | [],_=>rfl
 | d::ds,h=>by
   erw[cn,QCq] at h|-
   show#[dR h.1,kf h.2]
end
theorem AB:∀{ds:List D},(∀d∈ds,cA m d=true)->cn m ds=true
 | [],_=>rfl
 | d::ds,h=>by
   erw[cn,QCq]
   show#[h d<|QBq ..,AB λe a=>h e<|Qpq _ a]
def bo{α:Type}{m:Nat}{f:α->D}{l:List α}(h:∀a∈l,cA m (f a)=true):cn m (l.map f)=true:=AB λd b=>by
 let#[a,c,rfl]:=Qkq.mp b
 show h a c
theorem yK:∀ss:List Str,yL (ss.map D.str)=some ss
 | []=>rfl
 |s::ss=>by erw[QDq,yL];rw[yK ss];rfl
def MB{Q:List D->aE->Prop}(h:E f b S λp a=>p.2.isL=true/\∃ss:List Str,p.1=ss.map D.str/\ss.length<64/\Q ((t_ ss).map D.str) a):E (Fq f) b S Q:=by
 let#[p,a,c,l,ss,e,d,q]:=h
 show#[_,a,by unfold Fq;rw[c];erw[Qbq];rw[Qhq l,e,yK];erw[Qbq];rw[Qhq d],q]
end DL
namespace W28
open L2 DL
noncomputable def six:List Str:= ["a","b","c","d","e","zz"]
theorem tf(g:α->a):∀(l:List α) (k:Nat),(l.map g).eraseIdx k=(l.eraseIdx k).map g
 | [],_=>rfl
 |_::_,0=>rfl
 |x::l,k+1=>congrArg (g x::·) (tf g l k)
def BJ{b a c:List α}(d:j<a.length)(h:(b++a).Perm c):((b++ [a[j]])++a.eraseIdx j).Perm c:=by
 show List.Perm.trans ?_ h
 rw[Qvq]
 show List.Perm.append_left b ?_
 show(a[j]::a.eraseIdx j).Perm a
 rw[List.eraseIdx_eq_take_drop_succ]
 have e:a=a.take j++a[j]::a.drop (j+1):=by rw[<-QWq d,List.take_append_drop]
 show List.Perm.trans ?_<|List.Perm.of_eq e.symm
 show List.perm_middle.symm
def HI{n j:Nat}(h:j<n)(a:n<1000):seqIndex? (j:Int) n=some j:=(Bm (by unfold Ef;rw[Qhq (!0),Qhq (!0)];simp)).1
def jj{e:Str}{Q:Res->aE->Prop}(x:Ex k S0 S)(hm:0<=i)(N:i<=6)(P:e.length<=1)
  (h:∀(ws:X6) (t:aE),(∃l,(ws++l).Perm (six.map (e++·)))->(ws.length:Int)=i->Ex k S0 t->Ex k S t->t.length=S.length->Q (.l (ws.map D.str)) t):Fn dr [.ref k,.str e,.int i] S Q:=by
 have y:Ex k S S:=by let#[a,b,c,X]:=x.pot;show Ex.refl X
 show bZ ?_
 unfold mL
 symm
 apply j3 ?_
 show⟨by decide,⟨λn f t g=>f= [f.getD 0 none,some (.str e)]/\t=S/\g=((six.take n).map (e++·)).map D.str,⟨rfl,rfl,rfl⟩,λn f t g h=>trivial,λn d f t g F ⟨s,v,q⟩=>?_,λf t g ⟨_,v,q⟩=>?_⟩⟩
 ·let v:=v.symm
  subst v q
  obtain⟨o,rfl⟩:∃o,f= [o,some (.str e)]:=#[_,s]
  have L:∃z,six[n]?=some z/\d=.str z:=by
   rcases n with _|_|_|_|_|_|n <;>first|(cases F;show#[_,rfl,rfl])|(simp at F)
  let#[z,J,rfl]:=L
  have W:z.length<=2:=by
   have:=mQg J
   erw[six,Qsq,QXq,or_false] at this
   rcases this with rfl|rfl|rfl|rfl|rfl|rfl <;>decide
  symm
  rw[Qhq rfl]
  symm
  show NG (QAq (show e.length+z.length<=3 by omega) (!1)) ?_
  have B:n<6:=(gQs.mp J).1
  show⟨?_,rfl,rfl,?_⟩
  ·erw[lQm,Qxq]
   show Nat.lt_of_le_of_lt (Nat.min_le_left _ _)<|Nat.lt_trans B (!1)
  ·rw[QYq,J]
   simp
 ·let v:=v.symm
  subst v q
  symm
  apply MB ?_
  apply j3 ?_
  show⟨i,rfl,⟨by omega,by omega⟩,λn f A g=>∃(r m:X6),f= [f.getD 0 none,some (.ref k),some (.ref S.length)]/\Ex k S A/\A.length=S.length+1/\A[S.length]?=some (.lst (m.map D.str))/\g=r.map D.str/\r.length=n/\(r++m).Perm (six.map (e++·)),?_,λ_ _ _ _ _=>trivial,?_,?_⟩
  ·show⟨[],six.map (e++·),rfl,y.app,by simp,?_,rfl,rfl,List.Perm.refl _⟩
   show aM
  ·rintro n d f A g F ⟨r,m,s,I,w,G,rfl,B,hp⟩
   obtain⟨o,rfl⟩:∃o,f= [o,some (.ref k),some (.ref S.length)]:=#[_,s]
   let p:=hp.length_eq
   erw[lQa,lQm] at p
   have Y:six.length=6:=rfl
   have R:n<6:=by
    have:=(gQs.mp F).1
    erw[jG,lQm,QVq] at this
    omega
   have U:0<m.length:=by omega
   symm
   rw[Qhq rfl]
   apply fq ?_
   apply#[_,_,rfl,G,?_]
   apply a_ G ?_
   show bW I (by erw[lQm];omega) (by erw[lQm];omega) λj S3 hj Z M K=>?_
   dsimp only[bg,aN,bf,bP,bV,fg]
   symm
   have u:j<m.length:=by simpa using hj
   have H:S.length≠k:=by have:=x.lt;omega
   let C:=M.keep _ _ H G
   show#[_,C,?_]
   show OB (d:=((m.map D.str).eraseIdx j,D.str m[j])) ?_ ?_
   ·erw[g_]
    rw[Qhq #[by omega,by omega],lQm,HI u (!0)]
    simp[gQe u]
   ·show#[?_,r++ [m[j]],m.eraseIdx j,rfl,Z.put (Qmq _) x.lt,by simp[K,w],?_,by simp,by simp[B],BJ u hp]
    ·erw[lQm]
     show Nat.lt_trans (show r.length<6 by omega) (!1)
    ·rw[cZ C,tf]
  ·rintro f A g ⟨r,m,s,I,w,G,rfl,B,hp⟩
   let p:=hp.length_eq
   erw[lQa,lQm] at p
   have Y:six.length=6:=rfl
   show#[rfl,r,rfl,by omega,?_]
   show LV I x.lt (bo λ_ _=>rfl) λa b c=>?_
   show h _ _ #[m,(QJq m<|jW r).trans hp] ?_ x.set y.set (by simp)
   rw[(jW r).length_eq,B]
   erw[jG,lQm,QVq]
   omega
end W28
namespace DL
open L2
def yE{Q:List D->aE->Prop}(h:E f a S λp b=>E g a b λr S2=>(p.2.isM=true/\r.2.isM=true/\p.2.stays S2 p.1/\p.1.length+r.1.length<=sizeLine)/\Q (p.1++r.1) S2):E (A4 f g) a S Q:=by
 let#[p,b,c,r,S2,d,l,q]:=h
 show#[_,S2,by unfold A4;rw[c];erw[Qbq];rw[d];erw[Qbq];rw[Qhq l],q]
def eA{Q:D->Prop}(q:Q (.bl (decide (i=j)))):Op (dE false S (.int i)<|.int j) Q:=#[_,by refine((if_pos (c:=Ci (.int i) (.int j)=true) (e:=none) rfl).trans ?_);simp,q]
def gR{Q:D->Prop}(q:Q (.bl (decide (i=j)))):Op (dE false S (.str i)<|.str j) Q:=#[_,by refine((if_pos (c:=Ci (.str i) (.str j)=true) (e:=none) rfl).trans ?_);simp,q]
def fN{ds:List D}(d:ds.length=n)(h:OL g ds b S Q):Tg (kP<|nG n g) (.tup ds) b S Q:=by
 let#[a,c,e,q]:=h
 show#[a,c,by show nG n g ds b S=_;unfold nG;rw[Qhq d];show e,q]
def bu{Q:cG->aE->Prop}(q:Q a S):OL dC [] a S Q:=#[_,_,L,q]
def ay(h:Tg f d b S λa e=>OL g ds a e Q):OL (aK f g) (d::ds) b S Q:=by
 let#[a,e,j,c,i,k,q]:=h
 show#[c,i,by show(f d b S).bind _=_;rw[j];show k,q]
end DL
namespace W28
open L2 DL
noncomputable def ops:List Str:= ["plus","minus","less","same","both"]
inductive Tr where
 |num (n:Nat)|word (x:Str)|waits (b:Str)|no (t:Tr)|two (o:Str) (a b:Tr)
noncomputable def Tr.d:Tr->D
 |.num n=>.int n
 |.word x=>.str x
 |.waits b=>.tup [.str "waits",.str b]
 |.no t=>.tup [.str "not",t.d]
 |.two o a b=>.tup [.str o,a.d,b.d]
def Tr.Ok(ws bs:X6):Tr->Prop
 |.num n=>n<=9
 |.word x=>x∈ws
 |.waits b=>b∈bs
 |.no t=>t.Ok ws bs
 |.two o a b=>o∈ops/\a.Ok ws bs/\b.Ok ws bs
noncomputable def Tr.dep:Tr->Nat
 |.num _=>1
 |.word _=>1
 |.waits _=>1
 |.no t=>t.dep+1
 |.two _ a b=>max a.dep b.dep+1
theorem Tr.low:∀t:Tr,cA 0 t.d=true
 |.num _=>rfl
 |.word _=>rfl
 |.waits _=>rfl
 |.no t=>by erw[Tr.d,cA,cn];rw[t.low];rfl
 |.two _ a b=>by erw[Tr.d,cA,cn];rw[a.low,b.low];rfl
def Tr.noref(t:Tr):∀k,t.d≠.ref k:=by
 intro k
 cases t <;>simp[Tr.d]
def eW{ws:X6}:∀d∈ws.map D.str,(∀k,d≠.ref k)/\cA 0 d=true:=λd b=>by
 let#[a,_,rfl]:=Qkq.mp b
 show#[λk z=>(nomatch z),L]
def gJ{ws:X6}:∀d∈ws.map D.str,cA m d=true:=λd b=>by
 let#[a,_,rfl]:=Qkq.mp b
 rfl
def MT{n:Nat}(h:(n:Int)<5):∃o,o∈ops/\kq ([.str "plus",.str "minus",.str "less",.str "same",.str "both"]:List D) (n:Int)=some (.str o):=by
 rcases n with _|_|_|_|_|n
 ·show#["plus",by simp[ops],L]
 ·show#["minus",by simp[ops],L]
 ·show#["less",by simp[ops],L]
 ·show#["same",by simp[ops],L]
 ·show#["both",by simp[ops],L]
 ·omega
theorem j7:∀(n:Nat) {S S0:aE} {k i j:Nat} {ws bs:X6} {deep:Nat} {Q:Res->aE->Prop} (x:Ex k S0 S) (hi:i≠k) (N:j≠k) (Z:S[i]?=some (.lst (ws.map D.str))) (hb:S[j]?=some (.lst (bs.map D.str))) (lw:ws.length<1000) (lb:bs.length<1000) (hn:deep<n)
  (h:∀(t:Tr) (f:aE),t.Ok ws bs->t.dep<=deep+1->Ex k S0 f->Ex k S f->f.length=S.length->Q (.d t.d) f),Fn (bH n) [.ref k,.ref i,.ref j,.int deep] S Q
 |0,_,_,_,_,_,_,_,_,_,_,_,_,_,_,_,_,hn,_=>absurd hn (Nat.not_lt_zero _)
 | n+1,S,S0,k,i,j,ws,bs,deep,Q,x,hi,N,Z,hb,lw,lb,hn,h=>by
   have y:Ex k S S:=by let#[a,b,c,hh]:=x.pot;show Ex.refl hh
   have s:∀(t:Tr) (f:aE),t.Ok ws bs->t.dep<=deep+1->Ex k S f->Op (settle S t.d f) λp=>Q p.1 p.2:=λt f L h2 e=>mX e x.lt t.noref (dR t.low) λa b c=>h _ _ L h2 x.set y.set (by simp)
   show bZ ?_
   unfold tU
   symm
   apply bW y (!1) (!1) λA S1 a1 X _ l1=>?_
   let a2:=X.keep _ _ hi Z
   let a3:=X.keep _ _ N hb
   have F:∀g,Ex k S g->T (aD (de (iP (aH (dg (aP (ar 1)))) (aH (aQ Kf (az aJ (aq (ar 0) (aq (cF (.int 3)) av))) (cF (.int 0))))) (cy (az bR (aq (ar 0) (aq (ar 1) av)))) fK)
     (cy (az aJ (aq (ar 0) (aq (aQ fO (bO (bD (aq (cF (.int 3)) (aq (cF (.int 10)) av)))) (vg intOfD (aq (aQ (dE false) (az aJ (aq (ar 0) (aq (cF (.int 5)) av))) (cF (.int 0))) av))) av)))))
     [some (.ref k),some (.ref i),some (.ref j),some (.int deep),some (.int A),none] g λo=>match o with|.rt d f=>Op (settle S d f) λp=>Q p.1 p.2|_=>False:=by
     intro g q
     let W:=q.keep _ _ hi Z
     have u:∀P,Ex k S P->T (cy<|az aJ<|aq (ar 0)<|aq (aQ fO (bO<|bD<|aq (cF<|.int 3)<|aq (cF<|.int 10) av)<|vg intOfD<|aq (aQ (dE false) (az aJ<|aq (ar 0)<|aq (cF<|.int 5) av)<|cF<|.int 0) av) av)
       [some (.ref k),some (.ref i),some (.ref j),some (.int deep),some (.int A),none] P λo=>match o with|.rt d f=>Op (settle S d f) λp=>Q p.1 p.2|_=>False:=by
       intro P U
       symm
       apply#[by decide,?_]
       apply bW (U.app (G:= [O.lst [D.int 3,D.int 10]])) (!1) (!1) λd S4 hd K I l4=>?_
       apply eA ?_
       have a0:S4[P.length]?=some (.lst [.int 3,.int 10]):=I.keep _ _ (by have:=U.lt;omega) aM
       have hm:∃m:Int,(m=3\/m=10)/\Op (intOfD [D.bl (decide ((d:Int)=0))]) (λz=>∃r,z=.int r/\kq ([.int 3,.int 10]:List D) r=some (.int m)):=by
         by_cases c:(d:Int)=0
         · show#[10,.inr rfl,_,rfl,1,by rw[Qeq c];rfl,rfl]
         · show#[3,.inl rfl,_,rfl,0,by rw[Qdq c];rfl,rfl]
       let#[m,hm,z,C,r,rfl,e6]:=hm
       show#[_,C,?_]
       apply bC a0 e6 ?_
       show bW K (!0) (!0) λv S5 hv C _ l5=>?_
       dsimp only[bg,aN,bf,bP,bV,fg]
       show s (.num v) _ (by show v<=9;omega) (by show 1<=deep+1;omega) C
     symm
     show a_ W ?_
     show#[#[rfl,W],?_]
     dsimp only[bg,aN,bf,bP,bV,fg]
     show aG (λc=>?_) (λc=>?_)
     · symm
       apply bW q (!1) (!1) λd P hd U _ l3=>?_
       show aG (λc2=>?_) (λc2=>?_)
       · symm
         have H:0<(ws.map D.str).length:=by
           cases ws with
           |nil=>simp at c
           |cons a b=>simp
         show fM U hi (U.keep _ _ hi Z) H (by simpa using lw) eW gJ λv S4 hv K _ l4=>?_
         let#[z,hz,rfl]:=Qkq.mp hv
         show s (.word z) _ hz (by show 1<=deep+1;omega) K
       · show bT<|u P U
     · rw[Quq (!1)]
       show bT<|u g q
   have go:∀{R:Res->aE->Prop} {g:aE},Ex k S g->1<=deep->(∀(t:Tr) (f:aE),t.Ok ws bs->t.dep<=deep->Ex k S f->R (.d t.d) f)->Fn (bH n) [.ref k,.ref i,.ref j,.int ((deep:Int)-1)] g R:=by
     intro R g q hd hR
     have e:((deep:Int)-1)=((deep-1:Nat):Int):=by omega
     rw[e]
     show j7 n q hi N (q.keep _ _ hi Z) (q.keep _ _ N hb) lw lb (!0) λt f L h2 h3 _ _=>hR t f L (!0) h3
   have Y:∀g,Ex k S g->1<=deep->T (aD (de (iP (aH (aQ (dE false) (ar 4) (cF (.int 3)))) (aH (dg (aP (ar 2))))) (cy (bp (aq (cF (.str "waits")) (aq (az bR (aq (ar 0) (aq (ar 2) av))) av)))) fK)
     (aD (de (aH (aQ (dE false) (ar 4) (cF (.int 4)))) (cy (bp (aq (cF (.str "not")) (aq (az (bH n) (aq (ar 0) (aq (ar 1) (aq (ar 2) (aq (aQ kb (ar 3) (cF (.int 1))) av))))) av)))) fK)
     (aD (aW 5 (aQ fO (bO (bD (aq (cF (.str "plus")) (aq (cF (.str "minus")) (aq (cF (.str "less")) (aq (cF (.str "same")) (aq (cF (.str "both")) av))))))) (az aJ (aq (ar 0) (aq (cF (.int 5)) av)))))
     (cy (bp (aq (ar 5) (aq (az (bH n) (aq (ar 0) (aq (ar 1) (aq (ar 2) (aq (aQ kb (ar 3) (cF (.int 1))) av))))) (aq (az (bH n) (aq (ar 0) (aq (ar 1) (aq (ar 2) (aq (aQ kb (ar 3) (cF (.int 1))) av))))) av))))))))
     [some (.ref k),some (.ref i),some (.ref j),some (.int deep),some (.int A),none] g λo=>match o with|.rt d f=>Op (settle S d f) λp=>Q p.1 p.2|_=>False:=by
     intro g q w
     let J:=q.keep _ _ N hb
     have M:T (aD (aW 5 (aQ fO (bO (bD (aq (cF (.str "plus")) (aq (cF (.str "minus")) (aq (cF (.str "less")) (aq (cF (.str "same")) (aq (cF (.str "both")) av))))))) (az aJ (aq (ar 0) (aq (cF (.int 5)) av)))))
       (cy (bp (aq (ar 5) (aq (az (bH n) (aq (ar 0) (aq (ar 1) (aq (ar 2) (aq (aQ kb (ar 3) (cF (.int 1))) av))))) (aq (az (bH n) (aq (ar 0) (aq (ar 1) (aq (ar 2) (aq (aQ kb (ar 3) (cF (.int 1))) av))))) av))))))
       [some (.ref k),some (.ref i),some (.ref j),some (.int deep),some (.int A),none] g λo=>match o with|.rt d f=>Op (settle S d f) λp=>Q p.1 p.2|_=>False:=by
       symm
       apply#[by decide,?_]
       show bW (q.app (G:= [O.lst [.str "plus",.str "minus",.str "less",.str "same",.str "both"]])) (!1) (!1) λd S4 hd K I l4=>?_
       dsimp only[bg,aN,bf,bP,bV,fg]
       let#[o,B,C]:=MT hd
       show bC (I.keep _ _ (by have:=q.lt;omega) aM) C ?_
       symm
       apply go K w λt1 S5 L h2 C=>?_
       apply go C w λt2 S6 h3 h4 e6=>?_
       show#[by show 3<=_;decide,?_]
       show s (.two o t1 t2) _ #[B,L,h3] (by erw[Tr.dep];omega) e6
     have l:T (aD (de (aH (aQ (dE false) (ar 4) (cF (.int 4)))) (cy (bp (aq (cF (.str "not")) (aq (az (bH n) (aq (ar 0) (aq (ar 1) (aq (ar 2) (aq (aQ kb (ar 3) (cF (.int 1))) av))))) av)))) fK)
       (aD (aW 5 (aQ fO (bO (bD (aq (cF (.str "plus")) (aq (cF (.str "minus")) (aq (cF (.str "less")) (aq (cF (.str "same")) (aq (cF (.str "both")) av))))))) (az aJ (aq (ar 0) (aq (cF (.int 5)) av)))))
       (cy (bp (aq (ar 5) (aq (az (bH n) (aq (ar 0) (aq (ar 1) (aq (ar 2) (aq (aQ kb (ar 3) (cF (.int 1))) av))))) (aq (az (bH n) (aq (ar 0) (aq (ar 1) (aq (ar 2) (aq (aQ kb (ar 3) (cF (.int 1))) av))))) av)))))))
       [some (.ref k),some (.ref i),some (.ref j),some (.int deep),some (.int A),none] g λo=>match o with|.rt d f=>Op (settle S d f) λp=>Q p.1 p.2|_=>False:=by
       symm
       show eA ?_
       dsimp only[bg,aN,bf,bP,bV,fg]
       show aG (λc=>?_) (λc=>?_)
       · symm
         apply go q w λt S5 L h2 C=>?_
         show#[by show 2<=_;decide,?_]
         show s (.no t) _ L (by erw[Tr.dep];omega) C
       · show bT M
     symm
     show eA ?_
     dsimp only[bg,aN,bf,bP,bV,fg]
     show aG (λc=>?_) (λc=>?_)
     · symm
       show a_ J ?_
       show#[#[rfl,J],?_]
       dsimp only[bg,aN,bf,bP,bV,fg]
       show aG (λc=>?_) (λc=>?_)
       · symm
         have H:0<(bs.map D.str).length:=by
           cases bs with
           |nil=>simp at c
           |cons a b=>simp
         show fM q N J H (by simpa using lb) eW gJ λv S4 hv K _ l4=>?_
         let#[z,hz,rfl]:=Qkq.mp hv
         symm
         show#[by show 2<=_;decide,?_]
         show s (.waits z) _ hz (by show 1<=deep+1;omega) K
       · show bT l
     · rw[Quq (!1)]
       show bT l
   show aG (λc=>?_) (λc=>?_)
   · rw[Qhq rfl]
     show(F S1 X).mono λo B=>by
       cases o with
       |rt d f=>show B
       |_=>show B.elim
   · symm
     show aG (λc2=>?_) (λc2=>?_)
     · show(F S1 X).mono λo B=>by
         cases o with
         |rt d f=>show B
         |_=>show B.elim
     · have w:1<=deep:=by
         have:=QaQ c
         omega
       show bT ?_
       show(Y S1 X w).mono λo B=>by
         cases o with
         |rt d f=>show B
         |_=>show B.elim
inductive Rw where
 |put (x:Str) (t:Tr)|unl (t:Tr) (n:Nat)|go (n:Nat)|do_ (g:Option Str) (r d:Str) (t:Tr)|wait (b:Str) (t:Tr)|call (b:Str)|all (b:Str)|tell (t:Tr)
 |take (p:Str)|give (p:Str)|pass (p q:Str)|say (t:Tr)
noncomputable def JG:Option Str->D
 |none=>.non
 |some x=>.str x
noncomputable def Rw.d:Rw->D
 |.put x t=>.tup [.str "put",.str x,t.d]
 |.unl t n=>.tup [.str "unless",t.d,.int n]
 |.go n=>.tup [.str "go",.int n]
 |.do_ g r d t=>.tup [.str "do",JG g,.str r,.str d,t.d]
 |.wait b t=>.tup [.str "wait",.str b,t.d]
 |.call b=>.tup [.str "call",.str b]
 |.all b=>.tup [.str "all",.str b]
 |.tell t=>.tup [.str "tell",t.d]
 |.take p=>.tup [.str "take",.str p]
 |.give p=>.tup [.str "give",.str p]
 |.pass p q=>.tup [.str "pass",.str p,.str q]
 |.say t=>.tup [.str "say",t.d]
structure Sc where
 own:Bool
 ws:List Str
 ps:List Str
 bs:List Str
 gs:List (Str×Str)
 ts:List Str
def Fh(sc:Sc)(t:Tr):Prop:=t.Ok sc.ws sc.bs/\t.dep<=4
def Rw.Ok(sc:Sc)(n:Nat):Rw->Prop
 |.put x t=>x∈sc.ps/\Fh sc t
 |.unl t m=>Fh sc t/\m<=n
 |.go m=>m<=n
 |.do_ g r d t=>(∀x,g=some x->x∈sc.ps)/\(r,d)∈sc.gs/\Fh sc t
 |.wait b t=>sc.own=false/\b∈sc.bs/\Fh sc t
 |.call b=>sc.own=false/\b∈sc.bs
 |.all b=>sc.own=false/\b∈sc.bs
 |.tell t=>sc.own=false/\Fh sc t
 |.take p=>sc.own=true/\p∈sc.ts
 |.give p=>sc.own=true/\p∈sc.ts
 |.pass p q=>sc.own=true/\p∈sc.ts/\q∈sc.ts
 |.say t=>sc.own=true/\Fh sc t
def Rw.Ok.mono{r:Rw}(h:r.Ok sc n)(l:n<=m):r.Ok sc m:=by
 cases r with
 |unl t k=>show#[h.1,QAq h.2 l]
 |go k=>show QAq h l
 |_=>show h
theorem Rw.low(r:Rw):cA 0 r.d=true:=by
 cases r with
 |do_ g r d t=>cases g <;>erw[Rw.d,cA,cn,JG,t.low,Bool.and_true,Bool.true_and]
 |_=>erw[Rw.d,cA,cn,Tr.low,Bool.and_true,Bool.true_and]
def xF(sc:Sc)(rs:List Rw):Prop:=∀r∈rs,r.Ok sc rs.length
def Ji{sc:Sc}{Q:Res->aE->Prop}(x:Ex k S0 S)(hi:i≠k)(u:j≠k)(R:S[i]?=some (.lst (sc.ws.map D.str)))(F:S[j]?=some (.lst (sc.bs.map D.str)))(N:sc.ws.length<1000)(L:sc.bs.length<1000)(b0:0<sc.bs.length)(hg:(("given":Str))∈sc.ws)(U:sc.own=false)
  (h:∀(rs:List Rw) (m:aE),(∀r∈rs,r.Ok sc (f+rs.length))->1<=rs.length->rs.length<=3->Ex k S0 m->Ex k S m->m.length=S.length->Q (.l (rs.map Rw.d)) m):Fn jU [.ref k,.ref i,.ref j,.int f] S Q:=by
 have y:Ex k S S:=by let#[a,b,c,hh]:=x.pot;show Ex.refl hh
 have q:∀(rs:List Rw) (m:aE),(∀r∈rs,r.Ok sc (f+rs.length))->1<=rs.length->rs.length<=3->Ex k S m->Op (eY S (rs.map Rw.d) m) λp=>Q p.1 p.2:=λrs m I M J e=>LV e x.lt (bo λr _=>dR r.low) λa b c=>h _ _ I M J x.set y.set (by simp)
 show bZ ?_
 unfold mW
 symm
 apply j7 4 (deep:=1) y hi u R F N L (!1) λt S1 I M X _ l1=>?_
 show#[by show 3<=_;decide,?_]
 symm
 show bW (X.app (G:= [O.lst [.int 0,.str "given",t.d]])) (!1) (!1) λd S2 hd P B l2=>?_
 dsimp only[bg,aN,bf,bP,bV,fg]
 have ht:∃o:Tr,Fh sc o/\kq ([.int 0,.str "given",t.d]:List D) (d:Int)=some o.d:=by
  rcases d with _|_|_|d
  ·show#[.num 0,#[by show 0<=9;omega,by show 1<=4;omega],rfl]
  ·show#[.word "given",#[hg,by show 1<=4;omega],rfl]
  ·show#[t,#[I,by omega],rfl]
  ·omega
 let#[o,s,ha]:=ht
 show bC (B.keep _ _ (by have:=X.lt;omega) aM) ha ?_
 symm
 show fM P u (P.keep _ _ u F) (by simpa using b0) (by simpa using L) eW gJ λv S3 hv e3 _ l3=>?_
 let#[z,W,rfl]:=Qkq.mp hv
 symm
 show#[by show 3<=_;decide,?_]
 symm
 apply bW e3 (!1) (!1) λn S4 Y A _ l4=>?_
 show eA ?_
 dsimp only[bg,aN,bf,bP,bV,fg]
 show aG (λc=>?_) (λc=>?_)
 ·symm
  show#[by show 1<=_;decide,?_]
  show q [.wait z o] _ (λr w=>?_) (by simp) (by simp) A
  rw[Qfq.mp w]
  show#[U,W,s]
 ·symm
  apply j7 4 (deep:=2) A hi u (A.keep _ _ hi R) (A.keep _ _ u F) N L (!1) λC S5 h3 h4 Z _ l5=>?_
  show#[by show 2<=_;decide,?_]
  symm
  show#[by show 3<=_;decide,?_]
  symm
  show#[by show 2<=_;decide,?_]
  symm
  have H:∃g:Nat,(g=f\/g=f+3)/\kq ([.int f,.int ((f:Int)+3)]:List D) ((n:Int)-1)=some (.int (g:Nat)):=by
   have:=QaQ c
   rcases n with _|_|_|n
   ·show absurd rfl this
   ·show#[f,.inl rfl,rfl]
   ·show#[f+3,.inr rfl,rfl]
   ·omega
  let#[g,a0,K]:=H
  apply bC aM K ?_
  show#[by show 2<=_;decide,?_]
  symm
  show#[by show 3<=_;decide,?_]
  show q [.unl (.no C) (f+3),.wait z o,.go g] _ (λr w=>?_) (by simp) (by simp) Z.app
  erw[Qsq,QXq,or_false] at w
  have hl:([.unl (.no C) (f+3),.wait z o,.go g]:List Rw).length=3:=rfl
  rcases w with rfl|rfl|rfl
  ·show#[#[h3,by show C.dep+1<=4;omega],by rw[hl];show Qmq _]
  ·show#[U,W,s]
  ·show g<=f+3
   omega
noncomputable def dJ(g:Str×Str):D:=.tup [.str g.1,.str g.2]
def B8{c:List (Str×Str)}:∀d∈c.map dJ,(∀k,d≠.ref k)/\cA 0 d=true:=λd b=>by
 let#[a,_,rfl]:=Qkq.mp b
 show#[λk z=>(nomatch z),L]
def Gv{c:List (Str×Str)}:∀d∈c.map dJ,cA m d=true:=λd b=>by
 let#[a,_,rfl]:=Qkq.mp b
 rfl
def L8{sc:Sc}{Q:Res->aE->Prop}(x:Ex k S0 S)(K:g≠k)(ht:t≠k)(hi:i≠k)(R:S[g]?=some (.lst (sc.gs.map dJ)))(gt:S[t]?=some (.lst (sc.ps.map D.str)))(Y:S[i]?=some (.lst (sc.ws.map D.str)))
  (M:0<sc.gs.length) (L:sc.gs.length<1000) (lt:sc.ps.length<900) (N:sc.ws.length<1000)
  (h:∀(r:Rw) (s:aE),r.Ok sc n->Ex k S0 s->Ex k S s->s.length=S.length->Q (.d r.d) s):Fn mZ [.ref k,.ref g,.ref t,.ref i] S Q:=by
 have y:Ex k S S:=by let#[a,b,c,U]:=x.pot;show Ex.refl U
 show bZ ?_
 unfold wH
 symm
 show fM y K R (by simpa using M) (by simpa using L) B8 Gv λv S1 hv H _ l1=>?_
 let#[#[I,J],hm,rfl]:=Qkq.mp hv
 dsimp only[bg,aN,bf,bP,bV,fg]
 apply fN rfl<|ay<|aS<|ay<|aS<|bu ?_
 apply yE ?_
 apply#[by decide,?_]
 show a_ (H.keep _ _ ht gt) ?_
 show#[#[rfl,rfl,trivial,by erw[lQm,Qnq,QGq];show QAq (show 0+1+sc.ps.length<=1000 by omega) (!1)],?_]
 symm
 have l:∀d∈([.non]++sc.ps.map D.str:List D),(∃o:Option Str,d=JG o/\∀z,o=some z->z∈sc.ps):=λd e=>by
  rcases mQa.mp e with e|e
  ·rw[Qfq.mp e]
   show#[none,rfl,λz C=>by cases C]
  ·let#[a,ha,rfl]:=Qkq.mp e
   show#[some a,rfl,λz C=>by cases C;show ha]
 have f:∀(m:Nat),∀d∈([.non]++sc.ps.map D.str:List D),(∀k,d≠.ref k)/\cA m d=true:=λm d e=>by
  let#[o,rfl,_]:=l d e
  cases o <;>show#[λk z=>(nomatch z),rfl]
 show fM (i:=S1.length) (H.app (G:= [O.lst ([.non]++sc.ps.map D.str)])) (by have:=H.lt;omega) aM (by simp) (by simp;omega) (f 0) (λd e=>(f _ d e).2) λW P u B _ l2=>?_
 let#[o,rfl,ho]:=l W u
 symm
 apply#[by decide,?_]
 show j7 4 (deep:=1) (bs:= []) (B.app (G:= [O.lst []])) hi (j:=P.length) (by have:=B.lt;omega) (aO<|B.keep _ _ hi Y) aM N (!1) (!1) λq S3 Z h4 e3 _ l3=>?_
 symm
 show#[by show 5<=_;decide,?_]
 have p:q.Ok sc.ws sc.bs:=by
  have w:∀t:Tr,t.Ok sc.ws []->t.Ok sc.ws sc.bs:=by
   intro t
   induction t with
   |num n=>show id
   |word x=>show id
   |waits b=>intro z;show absurd z (by simp[Tr.Ok])
   |no t X=>show X
   |two o a b A F=>show λz=>#[z.1,A z.2.1,F z.2.2]
  show w q Z
 show mX (d:=(Rw.do_ o I J q).d) e3 x.lt (λk z=>(nomatch z)) (dR<|Rw.low _) λa b c=>?_
 show h (.do_ o I J q) _ #[ho,hm,p,by omega] x.set y.set (by simp)
end W28
namespace DL
open L2
def JN{Q:D->aE->Prop}(h:E f c S λx b=>∃k a,x=.ref k/\b[k]?=some (.lst a)/\E g c b λp S2=>∃ds,S2[k]?=some (.lst ds)/\(p.2.isM=true/\ds.length+p.1.length<=sizeLine)/\Q .non (S2.set k<|.lst (ds++p.1))):E (Ad f g) c S Q:=by
 let#[x,b,d,k,a,rfl,h1,p,S2,e2,ds,h2,h3,q]:=h
 show#[_,_,by unfold Ad;rw[d];erw[Qbq,e2,h1,h2];rw[Qhq h3],q]
def mT(h:E f b S λd a=>∃k,d=.bl k/\if k=true then E g b a Q else Q (.bl false) a):E (sR f g) b S Q:=by
 let#[d,a,c,k,rfl,q]:=h
 cases k with
 |true=>let#[j,e,i,q]:=(q:E g b a Q);show#[j,e,by unfold sR;rw[c];show i,q]
 |false=>show#[_,a,by unfold sR;rw[c];rfl,q]
def fQ{ds:List D}{Q:List D×D->Prop}(h:ds.length<sizeLine)(q:Q (ds++ [y],.non)):Op (eN ds [y]) Q:=#[_,by erw[eN];rw[Qhq h],q]
end DL
namespace W28
open L2 DL
noncomputable def fS:List Str:= ["given"]
def vF{Q:Bool->aE->Prop}(hi:d[i]?=some (some<|.int w))(f:d[j]?=some (some<|.ref l))(e:S[l]?=some (.lst ds))(q:∀c,(c=true->0<ds.length)->Q c S):
  E (iP (aH<|aQ Dv (ar i)<|cF<|.int m)<|aH<|dg<|aP<|ar j) d S Q:=by
 show pZ<|cm<|aV<|aw hi<|cu<|fR ?_
 show aG (λc=>?_) λc=>q false λz=>(nomatch z)
 show cm<|oB<|bX<|aw f<|a_ e #[#[rfl,e],q _ λz=>?_]
 cases ds with
 |nil=>cases z
 |cons a b=>simp
def vq{Q:Bool->aE->Prop}(hi:d[i]?=some (some<|.int w))(f:d[j]?=some (some<|.ref l))(e:S[l]?=some (.lst ds))(q:∀c,(c=true->0<ds.length)->Q c S):
  E (iP (aH<|aQ (dE false) (ar i)<|cF<|.int m)<|aH<|dg<|aP<|ar j) d S Q:=by
 show pZ<|cm<|aV<|aw hi<|cu<|eA ?_
 show aG (λc=>?_) λc=>q false λz=>(nomatch z)
 show cm<|oB<|bX<|aw f<|a_ e #[#[rfl,e],q _ λz=>?_]
 cases ds with
 |nil=>cases z
 |cons a b=>simp
def L1{Q:Bool->aE->Prop}(hi:a[i]?=some (some<|.int w))(q:∀c,Q c S):E (aH<|aQ (dE false) (ar i)<|cF<|.int m) a S Q:=cm (aV<|aw hi<|cu<|eA<|q _)
def Kk{Q:D->aE->Prop}(hi:e[i]?=some (some<|.str m))(g:e[j]?=some (some<|.int w))(q:∀b:Nat,b<=1->Q (.int b) S):
  E (vg intOfD<|aq (sR (aQ (dE false) (ar i)<|cF<|.str s)<|aQ (dE false) (ar j)<|cF<|.int n) av) e S Q:=by
 show Bn<|aA<|mT<|aV<|aw hi<|cu<|gR #[_,L,?_]
 have a:∀b:Bool,E av e S λh f=>Op (intOfD (.bl b::h)) λd=>Q d f:=λb=>aZ (by
  cases b with
  |true=>show#[_,L,q 1 (!0)]
  |false=>show#[_,L,q 0 (!0)])
 show aG (λc=>?_) (λc=>?_)
 ·show aV<|aw g<|cu<|eA<|a _
 ·show a false
def KZ{L aa:X6}{goals:List (Str×Str)}{Q:Res->aE->Prop}(x:Ex k S0 S)(nt:t≠k)(nb:b≠k)(ng:g≠k)(gt:S[t]?=some (.lst (L.map D.str)))(gb:S[b]?=some (.lst (aa.map D.str)))(gg:S[g]?=some (.lst (goals.map dJ)))
  (lt:L.length<500) (lb:aa.length<500) (lg:goals.length<500)
  (h:∀(rs:List Rw) (Z:aE),xF #[false,L++fS,L,aa,goals,[]] rs->0<rs.length->rs.length<=12->Ex k S0 Z->Ex k S Z->Z.length=S.length->Q (.d (.tup (rs.map Rw.d))) Z):
  Fn mf [.ref k,.tup [.str ah,.ref t,.ref b],.ref g,.int 4] S Q:=by
 have y:Ex k S S:=by let#[a,b,c,hh]:=x.pot;show Ex.refl hh
 let kl:=x.lt
 let tl:=(gQs.mp gt).1
 let bl:=(gQs.mp gb).1
 let gl:=(gQs.mp gg).1
 generalize I:(#[false,L++fS,L,aa,goals,[]]:Sc)=sc at h
 have so:sc.own=false:=by rw[<-I]
 have sw:sc.ws=L++fS:=by rw[<-I]
 have sp:sc.ps=L:=by rw[<-I]
 have sb:sc.bs=aa:=by rw[<-I]
 have sg:sc.gs=goals:=by rw[<-I]
 show bZ ?_
 unfold qx
 symm
 apply fN rfl<|ay<|aS<|ay<|aS<|ay<|aS<|bu ?_
 apply yE ?_
 apply a_ gt ?_
 show#[by decide,?_]
 show#[#[rfl,rfl,gt,by erw[lQm,Qnq,QGq];show QAq (show L.length+(0+1)<=1000 by omega) (!1)],?_]
 symm
 show#[by decide,?_]
 have ew:L.map D.str++ [D.str "given"]=sc.ws.map D.str:=by rw[sw];simp[fS]
 rw[ew]
 have e0:Ex k S (S++ [O.lst (sc.ws.map D.str)]++ [O.lst []]):=y.app.app
 generalize hr:S.length+1=r
 have K:(S++ [O.lst (sc.ws.map D.str)]).length=r:=by simp[hr]
 rw[K]
 have iw:(S++ [O.lst (sc.ws.map D.str)]++ [O.lst []])[S.length]?=some (.lst (sc.ws.map D.str)):=aO aM
 have ir:(S++ [O.lst (sc.ws.map D.str)]++ [O.lst []])[r]?=some (.lst []):=by rw[<-K];show aM
 have il:(S++ [O.lst (sc.ws.map D.str)]++ [O.lst []]).length=r+1:=by simp[<-hr]
 generalize (S++ [O.lst (sc.ws.map D.str)]++ [O.lst []])=S1 at e0 iw ir il|-
 apply aI<|gF ?_
 apply bW e0 (!1) (!1) λa0 S2 a8 e2 a6 l2=>?_
 show#[_,rfl,#[by omega,by omega],?_]
 have P:r≠k:=by omega
 have B:S.length≠k:=by omega
 let Inv:Nat->cG->aE->Prop:=λn a5 Z=>∃(o9 a3 a4:Option D) (rs:List Rw),a5= [some (.ref k),some (.tup [.str ah,.ref t,.ref b]),some (.ref g),some (.int 4),some (.str ah),some (.ref t),some (.ref b),some (.ref S.length),some (.ref r),o9,a3,a4]∧
  Ex k S Z/\Z[S.length]?=some (.lst (sc.ws.map D.str))/\Z[r]?=some (.lst (rs.map Rw.d))/\rs.length<=3*n/\n<=rs.length/\n<=4/\∀q∈rs,q.Ok sc rs.length
 show#[Inv,#[_,_,_,[],rfl,e2,a6.keep _ _ B iw,a6.keep _ _ P ir,by simp,by simp,by omega,by simp],λ_ _ _ _=>trivial,?_,?_]
 ·rintro n d a5 S3 hd ⟨o9,a3,a4,rs,rfl,e3,hw3,hr3,hl1,hl2,hn4,hok⟩
  have b6:n<4:=by
   have:=(gQs.mp hd).1
   erw[jG,lQm,QVq] at this
   omega
  apply aS ?_
  show bW e3 (!1) (!1) λb3 S4 b7 U a7 l4=>?_
  dsimp only[bg,aN,bf,bP,bV,fg]
  let o:=a7.keep _ _ B hw3
  let l:=a7.keep _ _ P hr3
  let R:=U.keep _ _ nt gt
  let A:=U.keep _ _ nb gb
  let a2:=U.keep _ _ ng gg
  rw[<-sp] at R
  rw[<-sb] at A
  rw[<-sg] at a2
  have p:∀(M:List Rw) (Y:Option D) (N:aE),Ex k S N->N[S.length]?=some (.lst (sc.ws.map D.str))->N[r]?=some (.lst (rs.map Rw.d++M.map Rw.d))->1<=M.length->M.length<=3->(∀q∈M,q.Ok sc (rs.length+M.length))->
    Inv (n+1) [some (.ref k),some (.tup [.str ah,.ref t,.ref b]),some (.ref g),some (.int 4),some (.str ah),some (.ref t),some (.ref b),some (.ref S.length),some (.ref r),some d,some (.int b3),Y] N:=by
   intro M Y N J h1 h2 h3 h4 h5
   show#[_,_,_,rs++M,rfl,J,h1,by rw[h2,Qzq],by rw[lQa];omega,by rw[lQa];omega,by omega,λq hq=>?_]
   rw[lQa]
   rcases mQa.mp hq with hq|hq
   ·show(hok q hq).mono (!0)
   ·show h5 q hq
  have i:∀m:Nat,m<=100->m<sizeLine:=λm hm=>Nat.lt_of_le_of_lt hm (!1)
  have l9:rs.length<=9:=by omega
  have lr:(rs.map Rw.d).length=rs.length:=by simp
  have a1:∀{t':Tr},t'.Ok sc.ws sc.bs->t'.dep<=3->Fh sc t':=λh1 h2=>#[h1,by omega]
  have H:sc.ws.length<1000:=by rw[sw];simp[fS];omega
  have W:sc.bs.length<1000:=by rw[sb];omega
  have b4:sc.ps.length<900:=by rw[sp];omega
  have b1:sc.gs.length<1000:=by rw[sg];omega
  show bK (vF rfl rfl A λc hc=>aG (λF=>?_) (λF=>?_))
  ·
   apply c9<|JN ?_
   apply#[_,_,rfl,l,?_]
   apply a_ l ?_
   rw[lr]
   show Ji (sc:=sc) U B nb o A H W (by simpa using hc F) (by rw[sw];simp[fS]) so λM N h1 b5 h2 J e l5=>?_
   dsimp only[bg,aN,bf,bP,bV,fg]
   let j:=e.keep _ _ P l
   let X:=M.length
   show#[_,j,#[rfl,?_],?_]
   ·erw[lQm]
    show nQl<|i _ (!0)
   ·show p M _ _ (J.put (!0) kl) (fP (!0)<|e.keep _ _ B o) (cZ j) b5 h2 h1
  show bK (vF rfl rfl A λc hc=>aG (λF=>?_) (λF=>?_))
  ·apply aI (cU ?_)
   show#[by decide,?_]
   show Kk rfl rfl λv hv=>?_
   have b0:∃(f:Str->Rw) (s:Str),(∀z,(f z).d=.tup [.str s,.str z])/\(∀z n,z∈sc.bs->(f z).Ok sc n)/\kq ([.str "call",.str "all"]:List D) (v:Int)=some (.str s):=by
    rcases v with _|_|v
    ·show#[.call,"call",λ_=>rfl,λz n hz=>#[so,hz],rfl]
    ·show#[.all,"all",λ_=>rfl,λz n hz=>#[so,hz],rfl]
    ·omega
   let#[f,s,hf,a9,hs]:=b0
   show bC aM hs ?_
   apply c9<|fq ?_
   apply#[_,_,rfl,aO l,?_]
   show fM (U.app (G:= [O.lst [.str "call",.str "all"]])) nb (aO A) (hc F) (by simp;omega) eW gJ λv2 N b2 J e l5=>?_
   let#[z,hz,rfl]:=Qkq.mp b2
   symm
   show#[by show 2<=_;decide,?_]
   symm
   let j:=e.keep _ _ P (aO l)
   show#[_,j,fQ (i _ (by rw[lr];omega)) ?_]
   show p [f z] _ _ (J.put (!0) kl) (fP (!0)<|e.keep _ _ B<|aO o) ?_ (by simp) (by simp) λq' C=>by rw[Qfq.mp C];show a9 _ _ hz
   rw[cZ j]
   simp[hf]
  show bK (vq rfl rfl a2 λc hc=>aG (λF=>?_) (λF=>?_))
  ·apply c9 (fq ?_)
   apply#[_,_,rfl,l,?_]
   apply L8 (n:=rs.length+1) (sc:=sc) U ng nt B a2 R o (by simpa using hc F) b1 b4 H λq N h1 J e l5=>?_
   let j:=e.keep _ _ P l
   show#[_,j,fQ (i _ (by rw[lr];omega)) ?_]
   show p [q] _ _ (J.put (!0) kl) (fP (!0)<|e.keep _ _ B o) (cZ j) (by simp) (by simp) λq' C=>by rw[Qfq.mp C];show h1
  show bK (L1 rfl λc=>aG (λF=>?_) (λF=>?_))
  ·apply aI (c9<|fq ?_)
   apply#[_,_,rfl,l,?_]
   apply j7 4 (deep:=2) U B nb o A H W (!1) λt3 N h3 h4 J e l5=>?_
   let j:=e.keep _ _ P l
   apply a_ j ?_
   show#[by show 3<=_;decide,?_]
   symm
   show#[_,j,fQ (i _ (by rw[lr];omega)) ?_]
   dsimp only[bg,aN,bf,bP,bV,fg]
   apply c9<|fq ?_
   apply#[_,_,rfl,cZ j,?_]
   apply bW (J.put (r:=r) (!0) kl) (!1) (!1) λv S6 hv e6 w l6=>?_
   show#[by show 2<=_;decide,?_]
   symm
   let u:=w.keep _ _ P (cZ j)
   show#[_,u,fQ (i _ (by simp;omega)) ?_]
   show p [.unl t3 (rs.length+2),.tell (.num v)] _ _ (e6.put (!0) kl) (fP (!0)<|w.keep _ _ B<|fP (!0)<|e.keep _ _ B o) ?_ (by simp) (by simp) λq hq=>?_
   ·rw[cZ u]
    simp[Rw.d,Tr.d]
   ·erw[Qsq,QXq,or_false] at hq
    rcases hq with rfl|rfl
    ·show#[a1 h3 (!0),by show rs.length+2<=rs.length+2;omega]
    ·show#[so,by show v<=9;omega,by show 1<=4;omega]
  show bK (vF rfl rfl R λc hc=>aG (λF=>?_) (λF=>?_))
  ·apply c9 (fq ?_)
   apply#[_,_,rfl,l,?_]
   show fM U nt R (hc F) (by simp;omega) eW gJ λv N hv J e l5=>?_
   let#[z,hz,rfl]:=Qkq.mp hv
   symm
   apply j7 4 (deep:=2) J B nb (e.keep _ _ B o) (e.keep _ _ nb A) H W (!1) λt3 S6 h3 h4 e6 w l6=>?_
   show#[by show 3<=_;decide,?_]
   symm
   let u:=w.keep _ _ P (e.keep _ _ P l)
   show#[_,u,fQ (i _ (by rw[lr];omega)) ?_]
   show p [.put z t3] _ _ (e6.put (!0) kl) (fP (!0)<|w.keep _ _ B<|e.keep _ _ B o) (cZ u) (by simp) (by simp) λq' C=>by rw[Qfq.mp C];show#[hz,a1 h3 (!0)]
  ·apply c9 (fq ?_)
   apply#[_,_,rfl,l,?_]
   apply j7 4 (deep:=1) U B nb o A H W (!1) λt3 S6 h3 h4 e6 w l6=>?_
   show#[by show 2<=_;decide,?_]
   symm
   let u:=w.keep _ _ P l
   show#[_,u,fQ (i _ (by rw[lr];omega)) ?_]
   show p [.tell t3] _ _ (e6.put (!0) kl) (fP (!0)<|w.keep _ _ B o) (cZ u) (by simp) (by simp) λq' C=>by rw[Qfq.mp C];show#[so,a1 h3 (!0)]
 ·rintro a5 S3 ⟨o9,a3,a4,rs,rfl,e3,hw3,hr3,hl1,hl2,hn4,hok⟩
  have X:(jG 0 (1+(a0:Int))).length=a0+1:=by erw[jG,lQm,QVq];omega
  rw[X] at hl1 hl2 hn4
  symm
  show a_ hr3 ?_
  show#[rfl,?_]
  dsimp only[bg,aN,bf,bP,bV,fg]
  show mX e3 x.lt (λk z=>(nomatch z)) (by erw[cA];show bo λq _=>dR q.low) λa b c=>?_
  show h rs _ hok (!0) (!0) x.set y.set (by simp)
end W28
namespace DL
open L2
def Ra{a b:cG}(h:a.set 0 none=b.set 0 none):a.set 0 (some d)=b.set 0 (some d):=by
 have:=congrArg (λc:cG=>c.set 0<|some d) h
 simpa using this
def EI{Q:List D->aE->Prop}(F:D->D)(h:E f g S λp c=>p.2.stays c p.1/\p.1.length<=1000/\(∀d∈p.1,E e ((qz js g).set 0 (some d)) c λy S2=>y=F d/\S2=c)/\Q (p.1.map F) c):
  E (bG js (fT f) (bJ 0) bQ e) g S Q:=by
 show j3<|jD (h.mono λp c l=>?_)
 let#[m,t,s,q]:=l
 show#[λn b i a=>i=c/\a=(p.1.take n).map F/\b.set 0 none=(qz js g).set 0 none,#[L,L,L],λn b i a h=>by rw[h.1];show m,λn d b i a j h=>?_,λb i a h=>?_]
 ·let#[rfl,rfl,h3]:=h
  show aS<|m8 ?_
  rw[Qhq L,Ra h3]
  show(s d<|mQg j).mono λy S2 o=>?_
  let#[r,k]:=o
  subst r k
  let u:=(gQs.mp j).1
  show#[?_,L,?_,by simp]
  ·rw[lQm,Qxq]
   show bj (!0)
  ·rw[QYq,j]
   simp
 ·let#[rfl,rfl,_]:=h
  rw[QEq]
  show q
end DL
namespace W28
open L2 DL
noncomputable def kZ(p:Str×Nat):D:=.tup [.str p.1,.int p.2]
noncomputable def AI(p:Str×Str):D:=.tup [.str p.1,.str p.2]
noncomputable def ix(p:Str×List Rw):D:=.tup [.str p.1,.tup (p.2.map Rw.d)]
def FZ{s:cG}{ws:X6}{Q:List D->aE->Prop}(x:Ex k S0 S)(B:s.getD 0 none=some (.ref k))(H:s[j]?=some (some<|.ref l))(A:S[l]?=some (.lst (ws.map D.str)))(G:l≠k)(K:0<m)(L:m<1000)(I:ws.length<=1000)
  (h:∀(ps:List (Str×Nat)) (f:aE),ps.map (·.1)=ws->(∀p∈ps,p.2<m)->Ex k S0 f->Ex k S f->f.length=S.length->Q (ps.map kZ) f):
  E (bG [none,some 0] (fT<|aP<|ar j) (bJ 0) bQ<|bp<|aq (ar 0)<|aq (az aJ<|aq (ar 1)<|aq (cF<|.int m) av) av) s S Q:=by
 have y:Ex k S S:=by let#[a,b,c,F]:=x.pot;show Ex.refl F
 show j3<|jD<|bX<|aw H<|a_ A ?_
 show⟨λn i f g=>∃(o:Option D) (ps:List (Str×Nat)),i= [o,some (.ref k)]/\Ex k S0 f/\Ex k S f/\f.length=S.length/\ps.map (·.1)=ws.take n/\(∀p∈ps,p.2<m)/\g=ps.map kZ,⟨none,[],by show [none,s.getD 0 none]=_;rw[B],x,y,rfl,rfl,by simp,rfl⟩,?_,?_,?_⟩
 ·rintro n i f g ⟨o,ps,_,_,e,_⟩
  show e.keep _ _ G A
 ·rintro n d i f g u ⟨o,ps,rfl,e0,e1,el,h1,h2,rfl⟩
  obtain⟨z,r,rfl⟩:∃z,ws[n]?=some z/\d=.str z:=by
   rw[gQm] at u
   let#[z,r,e]:=oQm.mp u
   show#[z,r,e.symm]
  symm
  rw[Qhq rfl]
  symm
  apply bW e0 (!0) (!0) λv J N C t P=>?_
  show#[by show 2<=_;decide,?_]
  let M:=(gQs.mp r).1
  have w:ps.length=n:=by
   have:=congrArg List.length h1
   rw[lQm,Qxq] at this
   omega
  show#[?_,_,ps++ [(z,v)],rfl,C,e1.trans t,by omega,?_,λp q=>?_,by simp[kZ]]
  ·rw[lQm]
   show bj (!0)
  ·rw[Qzq,h1,QYq,r]
   rfl
  ·rcases mQa.mp q with q|q
   ·show h2 p q
   ·rw[Qfq.mp q]
    show v<m
    omega
 ·rintro i f g ⟨o,ps,rfl,e0,e1,el,h1,h2,rfl⟩
  show h ps f (by rw[h1];simp) h2 e0 e1 el
def Mo{t:cG}{ws:X6}{Q:List D->aE->Prop}(x:Ex k S0 S)(C:t.getD 0 none=some (.ref k))(J:t[j]?=some (some<|.ref l))(B:S[l]?=some (.lst (ws.map D.str)))(I:l≠k)(L:ws.length<=1000)
  (h:∀(ps:List (Str×Str)) (f:aE),ps.map (·.1)=ws->(∀p∈ps,p.2="row" \/p.2="turns")->Ex k S0 f->Ex k S f->Q (ps.map AI) f):
  E (bG [none,some 0] (fT<|aP<|ar j) (bJ 0) bQ<|bp<|aq (ar 0)<|aq (aQ fO (bO<|bD<|aq (cF<|.str "row")<|aq (cF<|.str "turns") av)<|az aJ<|aq (ar 1)<|aq (cF<|.int 2) av) av) t S Q:=by
 have y:Ex k S S:=by let#[a,b,c,H]:=x.pot;show Ex.refl H
 show j3<|jD<|bX<|aw J<|a_ B ?_
 show⟨λn i f g=>∃(o:Option D) (ps:List (Str×Str)),i= [o,some (.ref k)]/\Ex k S0 f/\Ex k S f/\ps.map (·.1)=ws.take n/\(∀p∈ps,p.2="row" \/p.2="turns")/\g=ps.map AI,⟨none,[],by show [none,t.getD 0 none]=_;rw[C],x,y,rfl,by simp,rfl⟩,?_,?_,?_⟩
 ·rintro n i f g ⟨o,ps,_,_,e,_⟩
  show e.keep _ _ I B
 ·rintro n d i f g w ⟨o,ps,rfl,e0,e1,h1,h2,rfl⟩
  obtain⟨z,r,rfl⟩:∃z,ws[n]?=some z/\d=.str z:=by
   rw[gQm] at w
   let#[z,r,e]:=oQm.mp w
   show#[z,r,e.symm]
  symm
  rw[Qhq rfl]
  symm
  apply#[by decide,?_]
  show bW (e0.app (G:= [O.lst [.str "row",.str "turns"]])) (!1) (!1) λv M P F m R=>?_
  dsimp only[bg,aN,bf,bP,bV,fg]
  have u:∃s:Str,(s="row" \/s="turns")/\kq ([.str "row",.str "turns"]:List D) (v:Int)=some (.str s):=by
   rcases v with _|_|v
   ·show#["row",.inl rfl,rfl]
   ·show#["turns",.inr rfl,rfl]
   ·omega
  let#[s,u,K]:=u
  show bC (m.keep _ _ (by have:=e0.lt;omega) aM) K ?_
  symm
  show#[by show 2<=_;decide,?_]
  let N:=(gQs.mp r).1
  have A:ps.length=n:=by
   have:=congrArg List.length h1
   rw[lQm,Qxq] at this
   omega
  show#[?_,_,ps++ [(z,s)],rfl,F,(e1.app).trans m,?_,λp q=>?_,by simp[AI]]
  ·rw[lQm]
   show bj (!0)
  ·rw[Qzq,h1,QYq,r]
   rfl
  ·rcases mQa.mp q with q|q
   ·show h2 p q
   ·rw[Qfq.mp q]
    show u
 ·rintro i f g ⟨o,ps,rfl,e0,e1,h1,h2,rfl⟩
  show h ps f (by rw[h1];simp) h2 e0 e1
def Rw.Ok.sub{r:Rw}(h:r.Ok #[a,ws,ps,bs,c,ts] n)(e:∀g∈c,g∈b):r.Ok #[a,ws,ps,bs,b,ts] n:=by
 cases r with
 |do_ g r d t=>show#[h.1,e _ h.2.1,h.2.2]
 |_=>show h
def xF.sub(h:xF #[a,ws,ps,bs,c,ts] rs)(e:∀g∈c,g∈b):xF #[a,ws,ps,bs,b,ts] rs:=λr d=>(h r d).sub e
structure Rm where
 name:Str
 ah:Str
 ao:List (Str×Nat)
 aa:List (Str×Str)
 ae:List (Str×List Rw)
noncomputable def Rm.d(r:Rm):D:=.tup [.str r.name,.str r.ah,.tup (r.ao.map kZ),.tup (r.aa.map AI),.tup (r.ae.map ix)]
structure yt(gs:List (Str×Str))(r:Rm):Prop where
 mn:r.ah="at once" \/r.ah="when free"
 tv:∀p∈r.ao,p.2<=9
 l1:r.ao.length<=6
 l2:r.aa.length<=6
 l3:r.ae.length<=6
 bv:∀p∈r.aa,p.2="row" \/p.2="turns"
 pr:∀p∈r.ae,xF #[false,r.ao.map (·.1)++fS,r.ao.map (·.1),r.aa.map (·.1),gs,[]] p.2/\p.2.length<=12
def JY(p:Str×List Rw):cA 0 (ix p)=true:=by
 erw[ix,cA,cn,Bool.and_true,Bool.true_and]
 show bo λr _=>r.low
def Rm.low(r:Rm):cA 0 r.d=true:=by
 erw[Rm.d,cA,cn,Bool.and_true,Bool.true_and,QCq]
 show#[bo λ_ _=>rfl,bo λ_ _=>rfl,bo λp _=>JY p]
end W28
namespace DL
open L2
def Oo{Q:List D->aE->Prop}(h:E f a S λp b=>E g a b λr S2=>∃n:Nat,r=.int n/\(p.2.isM=true/\p.2.stays S2 p.1/\p.1.length*n<=1000/\n<=1)/\Q ((List.replicate n p.1).flatten) S2):E (K6 f g) a S Q:=by
 let#[p,b,c,r,S2,d,n,rfl,#[h1,h2,h3,h4],q]:=h
 show#[_,S2,?_,q]
 unfold K6
 rw[c]
 erw[Qbq]
 rw[d]
 erw[Qbq]
 rw[Qhq #[h1,h2,by omega,by omega,by simpa using QAq h3 (!1)]]
 simp
end DL
namespace W28
open L2 DL
def Ld{S S0:aE}{k g m bm:Nat}{ms:X6}{name:Str}{goals:List (Str×Str)}{Q:Res->aE->Prop}(x:Ex k S0 S)(ng:g≠k)(nm:m≠k)(gg:S[g]?=some (.lst (goals.map dJ)))(gm:S[m]?=some (.lst (ms.map D.str)))(b7:∀s∈ms,s="at once" \/s="when free")(m0:0<ms.length)(m9:ms.length<9)(d8:bm<=3)(lg:goals.length<=100)
  (h:∀(r:Rm) (H:aE),r.name=name->yt (goals++r.ae.map λp=>(name,p.1)) r->Ex k S0 H->Ex k S H->H.length=S.length->Q (.d r.d) H):
  Fn lX [.ref k,.str name,.ref g,.ref m,.int bm] S Q:=by
 have y:Ex k S S:=by let#[a,b,c,hh]:=x.pot;show Ex.refl hh
 let kl:=x.lt
 show bZ ?_
 unfold pW
 symm
 show fM y nm gm (by simpa using m0) (by rw[lQm];omega) (λd K=>?_) (λd K=>?_) λmn S1 b0 e1 _ l1=>?_
 ·let#[s,_,rfl]:=Qkq.mp K
  show#[λk z=>(nomatch z),rfl]
 ·let#[s,_,rfl]:=Qkq.mp K
  rfl
 obtain⟨ah,a1,rfl⟩:∃s:Str,(s="at once" \/s="when free")/\mn=.str s:=by
  let#[s,hs,rfl]:=Qkq.mp b0
  show⟨s,b7 s hs,rfl⟩
 symm
 apply⟨by decide,?_⟩
 show bW (e1.app (G:= [O.lst [.int 1,.int 1,.int 2,.int 0]])) (!1) (!1) λv S2 hv e2 a8 l2=>?_
 dsimp only[bg,aN,bf,bP,bV,fg]
 obtain⟨nt,d3,ha⟩:∃n:Nat,n<=2/\kq ([.int 1,.int 1,.int 2,.int 0]:List D) (v:Int)=some (.int n):=by
  rcases v with _|_|_|_|v
  ·show⟨1,by omega,rfl⟩
  ·show⟨1,by omega,rfl⟩
  ·show⟨2,by omega,rfl⟩
  ·show⟨0,by omega,rfl⟩
  ·omega
 show bC (a8.keep _ _ (by have:=e1.lt;omega) aM) ha ?_
 symm
 apply jj e2 (!0) (!0) (!1) λL S3 _ d9 e3 c2 l3=>?_
 apply bW (e3.app (G:= [O.lst (L.map D.str)])) (!0) (!0) λnb S4 d1 e4 a0 l4=>?_
 apply jj e4 (!0) (!0) (!1) λB t _ f1 e5 a3 l5=>?_
 show⟨by decide,?_⟩
 have C:S3.length≠k:=by have:=e3.lt;omega
 have U:t.length≠k:=by have:=e5.lt;omega
 have gt:(t++ [O.lst (B.map D.str)]++ [O.lst []])[S3.length]?=some (.lst (L.map D.str)):=aO (aO<|a3.keep _ _ C<|a0.keep _ _ C aM)
 have gb:(t++ [O.lst (B.map D.str)]++ [O.lst []])[t.length]?=some (.lst (B.map D.str)):=aO aM
 have c6:S.length<=S3.length:=e3.len
 have e0:S.length<=t.length:=e5.len
 have d7:S3.length<t.length:=by
  have:=a3.len
  have:=a0.len
  erw[lQa,Qnq,QGq] at *
  omega
 have e6:Ex k S (t++ [O.lst (B.map D.str)]++ [O.lst []]):=e5.app.app
 generalize hr:t.length+1=r
 have A:(t++ [O.lst (B.map D.str)]).length=r:=by simp[hr]
 rw[A]
 have gr:(t++ [O.lst (B.map D.str)]++ [O.lst []])[r]?=some (.lst []):=by rw[<-A];show aM
 generalize (t++ [O.lst (B.map D.str)]++ [O.lst []])=S6 at e6 gt gb gr|-
 have b9:L.length=nt:=by omega
 have c0:B.length=nb:=by omega
 apply aI<|gF ?_
 apply bW e6 (!1) (!1) λnd S7 f0 e7 X l7=>?_
 apply jj e7 (!0) (!0) (!1) λb4 S8 _ c4 e8 W l8=>?_
 have kr:r≠k:=by omega
 let Inv:Nat->cG->aE->Prop:=λn R H=>∃(o9 N P:Option D) (j:List (Str×List Rw)),R= [some (.ref k),some (.str name),some (.ref g),some (.ref m),some (.int bm),some (.str ah),some (.ref S3.length),some (.ref t.length),some (.ref r),o9,N,P,none]∧
  Ex k S H/\H[S3.length]?=some (.lst (L.map D.str))/\H[t.length]?=some (.lst (B.map D.str))/\H[r]?=some (.lst (j.map ix))/\j.length=n/\(∀p∈j,xF ⟨false,L++fS,L,B,goals++j.map λp=>(name,p.1),[]⟩ p.2/\p.2.length<=12)
 show⟨Inv,⟨none,none,none,[],rfl,e8,W.keep _ _ C<|X.keep _ _ C gt,W.keep _ _ U<|X.keep _ _ U gb,W.keep _ _ kr<|X.keep _ _ kr gr,rfl,by simp⟩,λ_ _ _ _=>trivial,?_,?_⟩
 ·rintro n d R S9 K ⟨o9,N,P,j,rfl,e9,gt9,gb9,gr9,hn,hpr⟩
  obtain⟨w,hw,rfl⟩:∃z,b4[n]?=some z/\d=.str z:=by
   rw[gQm] at K
   let#[z,hz,e]:=oQm.mp K
   show#[z,hz,e.symm]
  have d4:n<3:=by
   have:=(gQs.mp hw).1
   omega
  apply aS ?_
  apply EI (λd=>match d with|.tup (a::_)=>.tup [.str name,a]|d=>d) ?_
  show a_ gr9 ?_
  show#[gr9,by simp;omega,λd K=>?_,?_]
  ·let#[p,_,rfl]:=Qkq.mp K
   symm
   apply ax rfl ?_
   show⟨by show 2<=_;decide,rfl,rfl⟩
  have eh:(j.map ix).map (λd=>match d with|.tup (a::_)=>.tup [.str name,a]|d=>d)=(j.map λp=>(name,p.1)).map dJ:=by
   rw[QPq,QPq]
   rfl
  rw[eh]
  generalize hh:(j.map λp=>(name,p.1))=here
  have lh:here.length=n:=by rw[<-hh];simpa using hn
  symm
  apply yE ?_
  let b3:=e9.keep _ _ ng gg
  apply a_ (aO b3) ?_
  apply Oo ?_
  apply a_ aM ?_
  apply bW (e9.app (G:= [O.lst (here.map dJ)])) (!1) (!1) λv2 a2 d2 u f c1=>?_
  apply eA ?_
  have k9:S9.length≠k:=by have:=e9.lt;omega
  let b5:=f.keep _ _ k9 aM
  obtain⟨q,hq,a9⟩:∃q:Nat,q<=1/\intOfD [D.bl (decide ((v2:Int)=0))]=some (.int q):=by
   by_cases c:(v2:Int)=0
   ·show⟨1,by omega,by rw[Qeq c];rfl⟩
   ·show⟨0,by omega,by rw[Qdq c];rfl⟩
  show⟨_,a9,?_⟩
  show⟨q,rfl,⟨rfl,b5,?_,hq⟩,?_⟩
  ·erw[lQm]
   have:here.length*q<=here.length*1:=Nat.mul_le_mul_left _ hq
   omega
  obtain⟨o,a6,a5,c5⟩:∃l:List (Str×Str),goals.map dJ++(List.replicate q<|here.map dJ).flatten=l.map dJ/\(∀g∈l,g∈goals++here)/\l.length<=goals.length+10:=by
   rcases q with _|_|q
   ·show#[goals,by simp,λg M=>List.mem_append_left _ M,by omega]
   ·show#[goals++here,by simp,λg M=>M,by rw[lQa];omega]
   ·omega
  show#[#[rfl,rfl,u.keep _ _ ng gg,?_],?_]
  ·have:=congrArg List.length a6
   rw[lQa] at this
   rw[this,lQm]
   show nQl<|bj (!0)
  rw[a6]
  symm
  apply fq ?_
  have J:(a2++ [O.lst (o.map dJ)])[r]?=some (.lst (j.map ix)):=aO (f.keep _ _ kr<|aO gr9)
  apply#[_,_,rfl,J,?_]
  show#[by show 3<=_;decide,?_]
  symm
  show KZ (goals:=o) (u.app (G:= [O.lst (o.map dJ)])) C U (by have:=u.lt;omega) (aO<|f.keep _ _ C<|aO gt9) (aO<|f.keep _ _ U<|aO gb9) aM (!0) (!0) (!0) λrs b2 h1 h2 h3 Y i b8=>?_
  symm
  show#[by show 2<=_;decide,?_]
  symm
  let I:=i.keep _ _ kr J
  show#[_,I,fQ (bj (by simp;omega)) ?_]
  show#[_,_,_,j++ [(w,rs)],rfl,Y.put (!0) kl,fP (!0)<|i.keep _ _ C<|aO<|f.keep _ _ C<|aO gt9,fP (!0)<|i.keep _ _ U<|aO<|f.keep _ _ U<|aO gb9,?_,by simp[hn],λp F=>?_]
  ·rw[cZ I]
   simp[ix]
  ·rcases mQa.mp F with F|F
   ·show#[(hpr p F).1.sub λg M=>?_,(hpr p F).2]
    rw[Qzq,<-Qvq]
    show List.mem_append_left _ M
   ·rw[Qfq.mp F]
    show#[h1.sub λg M=>?_,h3]
    rw[Qzq,<-Qvq]
    show List.mem_append_left _ ?_
    rw[hh]
    show a5 g M
 ·rintro R S9 ⟨o9,N,P,j,rfl,e9,gt9,gb9,gr9,hn,hpr⟩
  have d6:j.length<=3:=by
   rw[hn]
   erw[lQm]
   omega
  symm
  apply Mo e9 rfl rfl gb9 U (!0) λbs a2 a7 b1 u f=>?_
  apply FZ (m:=3) u rfl rfl (f.keep _ _ C gt9) C (!1) (!1) (!0) λZ b2 a4 b6 Y i b8=>?_
  show a_ (i.keep _ _ kr<|f.keep _ _ kr gr9) ?_
  apply#[rfl,?_]
  show#[by show 5<=_;decide,?_]
  have c3:Z.length=L.length:=by rw[<-a4];simp
  have d5:bs.length=B.length:=by rw[<-a7];simp
  show mX (d:=(Rm.mk name ah Z bs j).d) Y x.lt (λk z=>(nomatch z)) (dR<|Rm.low _) λa b c=>?_
  show h #[name,ah,Z,bs,j] _ rfl #[a1,λp F=>by have:=b6 p F;omega,by show Z.length<=6;omega,by show bs.length<=6;omega,by show j.length<=6;omega,b1,?_] x.set y.set (by simp)
  intro p F
  show xF #[false,Z.map (·.1)++fS,Z.map (·.1),bs.map (·.1),_,[]] p.2/\_
  rw[a4,a7]
  show hpr p F
end W28
namespace DL
open L2
theorem Os(I:Nat->cG->aE->Prop)(i:∀m a S,I m a S->E c a S λk f=>if k=true then∃e,m=e+1/\T b a f λo=>match o with|.nx d S2=>I e d S2|_=>False else Q (.nx a f)):
  ∀(n m:Nat) (a:cG) (S:aE),m<n->I m a S->T (Kg c b n) a S Q
 |0,_,_,_,h,_=>absurd h (Nat.not_lt_zero _)
 | n+1,m,a,S,h,hi=>by
   let#[k,f,g,q]:=i m a S hi
   cases k with
   |false=>show#[_,by erw[Kg];rw[g];rfl,q]
   | true=>
     let#[e,rfl,o,e2,q]:=(q:∃e,m=e+1/\T b a f _)
     cases o with
     | nx d S2=>
       let#[o,j,q]:=Os I i n e d S2 (!0) q
       show#[o,by erw[Kg];rw[g];erw[Qbq,if_true];rw[e2];show j,q]
     |_=>show q.elim
def Ks{Q:List D->aE->Prop}(h:E f b S λp a=>p.2.isL=true/\∃ss,ub p.1=some ss/\(p.1.length<=3/\ss.Nodup)/\Q (w9 ss p.1) a):E (Bf f) b S Q:=by
 let#[p,a,c,l,ss,e,d,q]:=h
 show#[_,a,by unfold Bf;rw[c];erw[Qbq];rw[Qhq l,e];erw[Qbq];rw[Qhq d],q]
def GB{α:Type}{f:α->D}{ss:X6}{xs:List α}(c:α)(b:xs.length<=3):∃ys:List α,ys.Perm xs/\w9 ss (xs.map f)=ys.map f:=by
 show#[Zp.sortBy ss c xs,Zp.fI ss xs b,?_]
 have j:(w9 ss<|xs.map f).length=((Zp.sortBy ss c xs).map f).length:=by
  unfold w9
  rw[(Zp.fI ss (xs.map f) (by simpa using b)).length_eq,lQm,lQm,(Zp.fI ss xs b).length_eq]
 apply List.ext_getElem?
 intro i
 cases e:(w9 ss<|xs.map f)[i]? with
 | none=>
   rw[List.getElem?_eq_none_iff] at e
   rw[eq_comm,List.getElem?_eq_none_iff]
   omega
 | some d=>
   let#[y,g,r]:=wj (R:=λ(d:D) (a:α)=>d=f a) (ss:=ss) (xs:=xs.map f) (ys:=xs) (d:=.non) (d':=c) (by simp) (by simpa using b) (λi d h=>by
     rw[gQm] at h
     let#[y,g,e]:=oQm.mp h
     show⟨y,g,e.symm⟩) i d e
   rw[gQm,g,r]
   rfl
end DL
namespace W28
open L2 DL
noncomputable def aX(rs:List Rm):List (Str×Str):=rs.flatMap λr=>r.ae.map λp=>(r.name,p.1)
def yt.sub(h:yt c r)(d:∀g∈c,g∈a):yt a r:={h with pr:=λp b=>⟨(h.pr p b).1.sub d,(h.pr p b).2⟩}
theorem FH:∀rs:List Rm,ub (rs.map Rm.d)=some (rs.map (·.name))
 | []=>rfl
 | r::rs=>by
   show ub (Rm.d r::rs.map Rm.d)=_
   erw[Rm.d,ub]
   rw[FH rs]
   rfl
def BC{b:cG}{rs:List Rm}(L:v<b.length)(M:b[j]?=some (some<|.ref i))(A:S[i]?=some (.lst []))
  (I:∀(R:List D×Tag->aE->Prop),R (rs.map Rm.d,tg) S->E f b S R) (J:∀o,tg.stays (S.set i o)<|rs.map Rm.d) (B:v≠j) (w:∀r∈rs,r.ae.length<=6) (W:rs.length<=3)
  (q:∀o,Q<|.nx (b.set v o) (S.set i<|.lst ((aX rs).map dJ))):
  T (iV (fT f) (bJ v)<|g8<|Ad (ar j)<|gU<|bG [none,some v] (fT<|aP<|aQ fO (ar v)<|cF<|.int 4) (bJ 0) bQ<|bp<|aq (aQ fO (ar 1)<|cF<|.int 0)<|aq (aQ fO (ar 0)<|cF<|.int 0) av) b S Q:=by
 show gF<|jD<|I _ ?_
 have U:i<S.length:=(gQs.mp A).1
 have g:∀o:Option D,(b.set v o)[v]?=some o:=λo=>Qyq L
 have t:∀o:Option D,(b.set v o)[j]?=some (some<|.ref i):=λo=>by rw[QKq B];show M
 show⟨λn c y=>(n=0->c=b)/\(∃o,c=b.set v o)/\y=S.set i (.lst ((aX<|rs.take n).map dJ)),⟨λ_=>rfl,?_,?_⟩,λn c y h=>?_,λn d c y u ⟨_,⟨o,k⟩,m⟩=>?_,λc y ⟨P,⟨o,k⟩,m⟩=>?_⟩
 ·show⟨b[v],by rw[List.set_getElem_self]⟩
 ·apply List.ext_getElem?
  intro x
  rw[List.getElem?_set]
  split
  ·rename_i e
   subst e
   rw[A]
   rfl
  ·rfl
 ·rw[h.2.2];show J _
 ·obtain⟨r,s,rfl⟩:∃r,rs[n]?=some r/\d=r.d:=by
   rw[gQm] at u
   let#[z,H,e]:=oQm.mp u
   show#[z,H,e.symm]
  subst k m
  let X:=(gQs.mp s).1
  show aS<|c9<|JN ?_
  rw[List.set_set]
  show aw (t _) ?_
  show#[_,_,rfl,cZ A,oY<|EI (λd=>match d with|.tup (a::_)=>.tup [.str r.name,a]|d=>d) ?_]
  show bX<|aV<|aw (g _)<|cu<|ax rfl<|cE ?_
  let K:=w r (mQg s)
  show#[trivial,by simp;omega,λd w=>?_,?_]
  ·let#[p,_,rfl]:=Qkq.mp w
   have G:(qz [none,some v]<|b.set v<|some r.d).set 0 (some<|ix p)= [some (ix p),some r.d]:=by
    show [some (ix p),(b.set v<|some r.d).getD v none]=_
    rw[Qlq,g]
    rfl
   rw[G]
   symm
   apply ax rfl ?_
   apply ax rfl ?_
   show#[by show 2<=_;decide,rfl,rfl]
  ·have C:∀l:List Rm,(∀r∈l,r.ae.length<=6)->(aX l).length<=6*l.length:=by
    intro l
    induction l with
    |nil=>intro _;simp[aX]
    | cons a l N=>
      intro h
      have:=N λr s=>h r (Qpq _ s)
      have:=h a (QBq ..)
      erw[aX,QSq,lQa,lQm,Qnq] at *
      omega
   let F:=C (rs.take n) λr s=>w r (List.mem_of_mem_take s)
   rw[Qxq] at F
   show#[_,cZ A,#[rfl,?_],λz=>absurd z (!0),#[_,rfl],?_]
   ·erw[lQm]
    show nQl<|bj (!0)
   ·rw[List.set_set,QYq,s]
    congr 2
    erw[aX,List.flatMap_append,Qzq,Option.toList_some,QSq,List.flatMap_nil,List.append_nil,QPq]
    rfl
 ·subst k m
  rw[lQm,QEq]
  show q o
def LO(d:Str):∀a b:Str,d++a=d++b->a=b:=by
 intro a b h
 have f:(d++a).cps.toList=(d++b).cps.toList:=by rw[h]
 have e:∀c:Str,(d++c).cps.toList=d.cps.toList++c.cps.toList:=λc=>by
  show(d.cps++c.cps).toList=_
  simp
 rw[e,e] at f
 show Str.ext'<|Array.toList_inj.mp<|List.append_cancel_left f
def Hm(c:Str):(six.map (c++·)).Nodup:=by
 have d:six.Nodup:=by decide +kernel
 show List.Pairwise.map (R:=(·≠·)) (S:=(·≠·)) _ (λa b n e=>n<|LO c a b e) d
def IY{S S0:aE}{k m bm w:Nat}{ms:X6}{Q:Res->aE->Prop}(x:Ex k S0 S)(nm:m≠k)(gm:S[m]?=some (.lst (ms.map D.str)))(a7:∀s∈ms,s="at once" \/s="when free")(m0:0<ms.length)(m9:ms.length<9)(a8:bm<=3)(hm:w<=3)
  (h:∀(rs:List Rm) (F:aE),(rs.map (·.name)).Nodup->rs.length<=3->(∀r∈rs,yt (aX rs) r)->Ex k S0 F->Ex k S F->F.length=S.length->Q (.d (.tup (rs.map Rm.d))) F):
  Fn jO [.ref k,.int w,.ref m,.int bm] S Q:=by
 have y:Ex k S S:=by let#[a,b,c,hh]:=x.pot;show Ex.refl hh
 let kl:=x.lt
 let ml:=(gQs.mp gm).1
 show bZ ?_
 unfold uP
 symm
 apply jj y (!0) (!0) (!1) λe L hp b1 e1 b2 l1=>?_
 show#[by decide,?_]
 have nn:e.Nodup:=by
  let#[l,hp]:=hp
  show(List.nodup_append.mp<|hp.nodup_iff.mpr<|Hm _).1
 generalize ha:L.length=a
 generalize I:a+1=r
 have u:(L++ [O.lst (e.map D.str)]).length=r:=by simp[ha,I]
 rw[u]
 have e2:Ex k S (L++ [O.lst (e.map D.str)]++ [O.lst []]):=e1.app.app
 have ga:(L++ [O.lst (e.map D.str)]++ [O.lst []])[a]?=some (.lst (e.map D.str)):=by rw[<-ha];show aO aM
 have gr:(L++ [O.lst (e.map D.str)]++ [O.lst []])[r]?=some (.lst []):=by rw[<-u];show aM
 let b0:=e1.lt
 generalize (L++ [O.lst (e.map D.str)]++ [O.lst []])=S2 at e2 ga gr|-
 have sa:S.length<=a:=by rw[<-ha];show e1.len
 have ka:a≠k:=by omega
 have kr:r≠k:=by omega
 show aI<|Os (λq Y F=>∃(o6 o7 o8:Option D) (n:X6) (rs:List Rm),Y= [some (.ref k),some (.int w),some (.ref m),some (.int bm),some (.ref a),some (.ref r),o6,o7,o8]/\Ex k S F/\F[a]?=some (.lst (n.map D.str))/\F[r]?=some (.lst (rs.map Rm.d))/\n.length=q/\(rs.map (·.name)++n).Perm e/\∀x∈rs,yt (aX rs) x) ?_ 4 e.length _ _ (!0) ?_
 ·rintro q Y t ⟨o6,o7,o8,n,rs,rfl,e3,ga3,gr3,G,hpm,hok⟩
  let C:=hpm.length_eq
  rw[lQa,lQm] at C
  symm
  show a_ ga3 ?_
  show#[#[rfl,ga3],?_]
  dsimp only[bg,aN,bf,bP,bV,fg]
  show aG (λc=>?_) (λc=>?_)
  ·have N:0<n.length:=by
    cases n with
    |nil=>simp at c
    |cons a b=>simp
   apply#[n.length-1,by omega,?_]
   show#[by decide,?_]
   show aI ?_
   have k3:t.length≠k:=by have:=e3.lt;omega
   let r3:=(gQs.mp gr3).1
   let a3:=(gQs.mp ga3).1
   have Z:∀o,Tag.stays ((t++ [O.lst []]).set t.length o) (rs.map Rm.d) (.st r):=λo=>fP (!0) (aO gr3)
   show BC (i:=t.length) (j:=6) (v:=7) (rs:=rs) (tg:=.st r) (by simp) rfl aM (λR hR=>bX<|aw rfl<|a_ (aO gr3) hR) Z (!1) (λr I=>(hok r I).l3) (!0) (λo=>?_)
   have e4:Ex k S ((t++ [O.lst []]).set t.length (.lst ((aX rs).map dJ))):=e3.app.put e3.len kl
   have A:((t++ [O.lst []]).set t.length (.lst ((aX rs).map dJ)))[a]?=some (.lst (n.map D.str)):=fP (!0) (aO ga3)
   have a0:((t++ [O.lst []]).set t.length (.lst ((aX rs).map dJ)))[r]?=some (.lst (rs.map Rm.d)):=fP (!0) (aO gr3)
   have U:((t++ [O.lst []]).set t.length (.lst ((aX rs).map dJ)))[t.length]?=some (.lst ((aX rs).map dJ)):=cZ aM
   have lg:(aX rs).length<=100:=by
    have a6:∀l:List Rm,(∀r∈l,r.ae.length<=6)->(aX l).length<=6*l.length:=by
     intro l
     induction l with
     |nil=>intro _;simp[aX]
     | cons a l ih=>
       intro h
       have:=ih λr I=>h r (Qpq _ I)
       have:=h a (QBq ..)
       erw[aX,QSq,lQa,lQm,Qnq] at *
       omega
    have:=a6 rs λr I=>(hok r I).l3
    omega
   generalize ((t++ [O.lst []]).set t.length (.lst ((aX rs).map dJ)))=S4 at e4 A a0 U|-
   dsimp only[bg,aN,bf,bP,bV,fg]
   apply aI<|cU<|fq ?_
   apply#[_,_,rfl,A,?_]
   apply a_ A ?_
   show bW e4 (by erw[lQm];omega) (by erw[lQm];omega) λj P hj e5 H l5=>?_
   dsimp only[bg,aN,bf,bP,bV,fg]
   symm
   have B:j<n.length:=by simpa using hj
   let a1:=H.keep _ _ ka A
   show#[_,a1,?_]
   show OB (d:=((n.map D.str).eraseIdx j,D.str n[j])) ?_ ?_
   ·erw[g_]
    rw[Qhq #[by omega,by omega],lQm,HI B (!0)]
    simp[gQe B]
   dsimp only[bg,aN,bf,bP,bV,fg]
   show c9<|fq ?_
   have e6:Ex k S (P.set a<|.lst ((n.map D.str).eraseIdx j)):=e5.put sa kl
   have W:(P.set a<|.lst ((n.map D.str).eraseIdx j))[a]?=some (.lst ((n.eraseIdx j).map D.str)):=by rw[cZ a1,tf]
   have J:(P.set a<|.lst ((n.map D.str).eraseIdx j))[r]?=some (.lst (rs.map Rm.d)):=fP (!0) (H.keep _ _ kr a0)
   have X:(P.set a<|.lst ((n.map D.str).eraseIdx j))[t.length]?=some (.lst ((aX rs).map dJ)):=fP (!0) (H.keep _ _ k3 U)
   generalize (P.set a<|.lst ((n.map D.str).eraseIdx j))=S6 at e6 W J X|-
   symm
   apply#[_,_,rfl,J,?_]
   apply Ld (goals:=aX rs) e6 k3 nm X (e6.keep _ _ nm gm) a7 m0 m9 a8 lg λrm S7 M a5 e7 a2 l7=>?_
   let a4:=a2.keep _ _ kr J
   show#[_,a4,fQ (bj (by erw[lQm];omega)) ?_]
   have a9:aX (rs++ [rm])=aX rs++rm.ae.map λp=>(rm.name,p.1):=by simp[aX]
   show#[_,_,_,n.eraseIdx j,rs++ [rm],rfl,e7.put (!0) kl,fP (!0)<|a2.keep _ _ ka W,?_,?_,?_,λq G=>?_]
   ·rw[cZ a4]
    simp
   ·rw[List.length_eraseIdx_of_lt B]
   ·rw[Qzq]
    show((rs.map (·.name)++ [rm.name])++n.eraseIdx j).Perm e
    rw[M]
    show BJ B hpm
   ·rw[a9]
    rcases mQa.mp G with G|G
    ·show(hok q G).sub λg K=>List.mem_append_left _ K
    ·rw[Qfq.mp G,M]
     show a5
  ·have N:n= []:=by
    cases n with
    |nil=>rfl
    |cons a b=>simp at c
   subst N
   rw[List.append_nil] at hpm
   apply fA<|qE<|oY<|Ks ?_
   show a_ gr3 ?_
   have l3:rs.length<=3:=by simp at C;omega
   show#[rfl,_,FH rs,#[by simpa using l3,hpm.nodup_iff.mpr nn],?_]
   let#[ys,hy,he]:=GB (f:=Rm.d) (ss:=rs.map (·.name)) (xs:=rs) #["","",[],[],[]] l3
   rw[he]
   show mX e3 x.lt (λk z=>(nomatch z)) (by erw[cA];show bo λq _=>dR q.low) λa b c=>?_
   show h ys _ ((hy.map _).nodup_iff.mpr (hpm.nodup_iff.mpr nn)) (by rw[hy.length_eq];show l3) (λq G=>(hok q<|hy.mem_iff.mp G).sub λg K=>?_) x.set y.set (by simp)
   erw[aX,QOq] at K|-
   let#[z,hz,K]:=K
   show#[z,hy.mem_iff.mpr hz,K]
 ·show#[none,none,none,e,[],rfl,e2,ga,gr,rfl,by simp,by simp]
def NA{words ai:X6}{goals:List (Str×Str)}{Q:Res->aE->Prop}(x:Ex k S0 S)(ng:g≠k)(nw:w≠k)(np:p≠k)(gg:S[g]?=some (.lst (goals.map dJ)))(gw:S[w]?=some (.lst (words.map D.str)))(gp:S[p]?=some (.lst (ai.map D.str)))
  (lg:goals.length<500) (lw:words.length<500) (lp:ai.length<500)
  (h:∀(rs:List Rw) (Y:aE),xF #[true,words,words,[],goals,ai] rs->0<rs.length->rs.length<=9->Ex k S0 Y->Ex k S Y->Y.length=S.length->Q (.d (.tup (rs.map Rw.d))) Y):
  Fn oH [.ref k,.ref g,.ref w,.ref p,.int 4] S Q:=by
 have y:Ex k S S:=by let#[a,b,c,hh]:=x.pot;show Ex.refl hh
 let kl:=x.lt
 let gl:=(gQs.mp gg).1
 let wl:=(gQs.mp gw).1
 let pl:=(gQs.mp gp).1
 generalize W:(#[true,words,words,[],goals,ai]:Sc)=sc at h
 have so:sc.own=true:=by rw[<-W]
 have sw:sc.ws=words:=by rw[<-W]
 have sp:sc.ps=words:=by rw[<-W]
 have sb:sc.bs= []:=by rw[<-W]
 have sg:sc.gs=goals:=by rw[<-W]
 have st:sc.ts=ai:=by rw[<-W]
 show bZ ?_
 unfold sH
 symm
 show#[by decide,?_]
 generalize hr:S.length=r
 have ir:(S++ [O.lst []])[r]?=some (.lst []):=by rw[<-hr];show aM
 have e0:Ex k S (S++ [O.lst []]):=y.app
 generalize (S++ [O.lst []])=S1 at e0 ir|-
 have Z:r≠k:=by omega
 apply aI<|gF ?_
 apply bW e0 (!1) (!1) λa2 S2 b2 e2 b1 l2=>?_
 show#[_,rfl,#[by omega,by omega],?_]
 let Inv:Nat->cG->aE->Prop:=λn a7 Y=>∃(o6 o7:Option D) (rs:List Rw),a7= [some (.ref k),some (.ref g),some (.ref w),some (.ref p),some (.int 4),some (.ref r),o6,o7]∧
  Ex k S Y/\Y[r]?=some (.lst (rs.map Rw.d))/\rs.length<=2*n/\n<=rs.length/\n<=4/\∀q∈rs,q.Ok sc rs.length
 have i:∀m:Nat,m<=100->m<sizeLine:=λm hm=>Nat.lt_of_le_of_lt hm (!1)
 have a0:sc.ws.length<1000:=by rw[sw];omega
 have b8:sc.ps.length<900:=by rw[sp];omega
 have b5:sc.gs.length<1000:=by rw[sg];omega
 have up:∀{t':Tr} {d:Nat},t'.Ok sc.ws []->t'.dep<=d+1->d<=3->Fh sc t':=λh1 h2 h3=>#[by rw[sb];show h1,by omega]
 show#[Inv,#[_,_,[],rfl,e2,b1.keep _ _ Z ir,by simp,by simp,by omega,by simp],λ_ _ _ _=>trivial,?_,?_]
 ·rintro n d a7 S3 hd ⟨o6,o7,rs,rfl,e3,hr3,hl1,hl2,hn4,U⟩
  have b9:n<4:=by
   have:=(gQs.mp hd).1
   erw[jG,lQm,QVq] at this
   omega
  apply aS ?_
  show bW e3 (!1) (!1) λa8 S4 c0 J a4 l4=>?_
  dsimp only[bg,aN,bf,bP,bV,fg]
  let e:=a4.keep _ _ Z hr3
  let M:=J.keep _ _ nw gw
  let a6:=J.keep _ _ ng gg
  let X:=J.keep _ _ np gp
  rw[<-sw] at M
  rw[<-sg] at a6
  rw[<-st] at X
  let a3:=M
  rw[sw,<-sp] at a3
  have C:∀(ms:List Rw) (H:aE),Ex k S H->H[r]?=some (.lst (rs.map Rw.d++ms.map Rw.d))->1<=ms.length->ms.length<=2->(∀q∈ms,q.Ok sc (rs.length+ms.length))->
    Inv (n+1) [some (.ref k),some (.ref g),some (.ref w),some (.ref p),some (.int 4),some (.ref r),some d,some (.int a8)] H:=by
   intro ms H I h2 h3 h4 h5
   show#[_,_,rs++ms,rfl,I,by rw[h2,Qzq],by rw[lQa];omega,by rw[lQa];omega,by omega,λq P=>?_]
   rw[lQa]
   rcases mQa.mp P with P|P
   ·show(U q P).mono (!0)
   ·show h5 q P
  have lr:(rs.map Rw.d).length=rs.length:=by simp
  have a1:∀H (q5:List Rw),Ex k S H->H[r]?=some (.lst (q5.map Rw.d))->q5.length<=50->∀(R:Out->Prop),(∀(t:Tr) (S6:aE),Fh sc t->Ex k S S6->S6[r]?=some (.lst ((q5++ [Rw.say t]).map Rw.d))->R (.nx [some (.ref k),some (.ref g),some (.ref w),some (.ref p),some (.int 4),some (.ref r),some d,some (.int a8)] S6))->
    T (g8<|jd eN (ar 5)<|aq (bp<|aq (cF<|.str "say")<|aq (az (bH 4)<|aq (ar 0)<|aq (ar 2)<|aq (bO<|bD av)<|aq (cF<|.int 1) av) av) av) [some (.ref k),some (.ref g),some (.ref w),some (.ref p),some (.int 4),some (.ref r),some d,some (.int a8)] H R:=by
   intro H q5 I B c2 R hR
   apply c9<|fq ?_
   apply#[_,_,rfl,B,?_]
   apply#[by decide,?_]
   let w5:=I.keep _ _ nw gw
   rw[<-sw] at w5
   show j7 4 (deep:=1) (bs:= []) (I.app (G:= [O.lst []])) nw (j:=H.length) (by have:=I.lt;omega) (aO w5) aM a0 (!1) (!1) λt3 S6 h3 h4 e6 L l6=>?_
   symm
   show#[by show 2<=_;decide,?_]
   symm
   let A:=L.keep _ _ Z (aO B)
   show#[_,A,fQ (i _ (by simp;omega)) ?_]
   show hR t3 _ (up h3 h4 (!0)) (e6.put (!0) kl) ?_
   rw[cZ A]
   simp[Rw.d]
  show bK (vF rfl rfl a6 λc hc=>aG (λN=>?_) (λN=>?_))
  ·apply c9 (fq ?_)
   apply#[_,_,rfl,e,?_]
   apply L8 (n:=rs.length+1) (sc:=sc) J ng nw nw a6 a3 M (by simpa using hc N) b5 b8 a0 λq H h1 I u l5=>?_
   let B:=u.keep _ _ Z e
   show#[_,B,fQ (i _ (by rw[lr];omega)) ?_]
   show C [q] _ (I.put (!0) kl) (cZ B) (by simp) (by simp) λq' F=>by rw[Qfq.mp F];show h1
  show bK (vq rfl rfl X λc hc=>aG (λN=>?_) (λN=>?_))
  ·apply c9 (fq ?_)
   apply#[_,_,rfl,e,?_]
   apply#[by decide,?_]
   show bW (J.app (G:= [O.lst [.str "take",.str "give"]])) (!1) (!1) λv H hv I u l5=>?_
   dsimp only[bg,aN,bf,bP,bV,fg]
   have b4:∃(f:Str->Rw) (s:Str),(∀z,(f z).d=.tup [.str s,.str z])/\(∀z n,z∈sc.ts->(f z).Ok sc n)/\kq ([.str "take",.str "give"]:List D) (v:Int)=some (.str s):=by
    rcases v with _|_|v
    ·show#[.take,"take",λ_=>rfl,λz n hz=>#[so,hz],rfl]
    ·show#[.give,"give",λ_=>rfl,λz n hz=>#[so,hz],rfl]
    ·omega
   let#[f,s,hf,b3,hs]:=b4
   show bC (u.keep _ _ (by have:=J.lt;omega) aM) hs ?_
   symm
   show fM I np (u.keep _ _ np<|aO X) (hc N) (by rw[st];simp;omega) eW gJ λv2 S6 K e6 L l6=>?_
   let#[z,hz,rfl]:=Qkq.mp K
   symm
   show#[by show 2<=_;decide,?_]
   symm
   let A:=L.keep _ _ Z (u.keep _ _ Z<|aO e)
   show#[_,A,fQ (i _ (by rw[lr];omega)) ?_]
   show C [f z] _ (e6.put (!0) kl) ?_ (by simp) (by simp) λq' F=>by rw[Qfq.mp F];show b3 _ _ hz
   rw[cZ A]
   simp[hf]
  show bK (vq rfl rfl X λc hc=>aG (λN=>?_) (λN=>?_))
  ·apply c9 (fq ?_)
   apply#[_,_,rfl,e,?_]
   show fM J np X (hc N) (by rw[st];simp;omega) eW gJ λv2 H K I u l5=>?_
   let#[z,hz,rfl]:=Qkq.mp K
   symm
   show fM I np (u.keep _ _ np X) (hc N) (by rw[st];simp;omega) eW gJ λv3 S6 b7 e6 L l6=>?_
   let#[z2,b6,rfl]:=Qkq.mp b7
   symm
   show#[by show 3<=_;decide,?_]
   symm
   let A:=L.keep _ _ Z (u.keep _ _ Z e)
   show#[_,A,fQ (i _ (by rw[lr];omega)) ?_]
   show C [.pass z z2] _ (e6.put (!0) kl) (cZ A) (by simp) (by simp) λq' F=>by rw[Qfq.mp F];show#[so,hz,b6]
  show bK (vq rfl rfl M λc hc=>aG (λN=>?_) (λN=>?_))
  ·apply c9 (fq ?_)
   apply#[_,_,rfl,e,?_]
   show fM J nw M (hc N) (by simp;omega) eW gJ λv2 H K I u l5=>?_
   let#[z,hz,rfl]:=Qkq.mp K
   symm
   apply#[by decide,?_]
   show j7 4 (deep:=2) (bs:= []) (I.app (G:= [O.lst []])) nw (j:=H.length) (by have:=I.lt;omega) (aO<|u.keep _ _ nw M) aM a0 (!1) (!1) λt3 S6 h3 h4 e6 L l6=>?_
   symm
   show#[by show 3<=_;decide,?_]
   symm
   let A:=L.keep _ _ Z (aO<|u.keep _ _ Z e)
   show#[_,A,fQ (i _ (by rw[lr];omega)) ?_]
   show C [.put z t3] _ (e6.put (!0) kl) (cZ A) (by simp) (by simp) λq' F=>by rw[Qfq.mp F];show#[by rw[sp,<-sw];show hz,up h3 h4 (!0)]
  show bK (L1 rfl λc=>aG (λN=>?_) (λN=>?_))
  ·apply aI (c9<|fq ?_)
   apply#[_,_,rfl,e,?_]
   apply#[by decide,?_]
   show j7 4 (deep:=2) (bs:= []) (J.app (G:= [O.lst []])) nw (j:=S4.length) (by have:=J.lt;omega) (aO M) aM a0 (!1) (!1) λt3 H h3 h4 I u l5=>?_
   symm
   let B:=u.keep _ _ Z (aO e)
   apply a_ B ?_
   show#[by show 3<=_;decide,?_]
   symm
   show#[_,B,fQ (i _ (by rw[lr];omega)) ?_]
   dsimp only[bg,aN,bf,bP,bV,fg]
   have A:(H.set r<|.lst (rs.map Rw.d++ [.tup [.str "unless",t3.d,.int (((rs.map Rw.d).length:Int)+2)]]))[r]?=some (.lst ((rs++ [Rw.unl t3 (rs.length+2)]).map Rw.d)):=by
    rw[cZ B]
    simp[Rw.d]
   show a1 _ (rs++ [Rw.unl t3 (rs.length+2)]) (I.put (!0) kl) A (by simp;omega) _ λt4 S6 h5 e6 a5=>?_
   show C [.unl t3 (rs.length+2),.say t4] _ e6 (by rw[a5];simp) (by simp) (by simp) λq P=>?_
   erw[Qsq,QXq,or_false] at P
   rcases P with rfl|rfl
   ·show#[up h3 h4 (!0),Qmq _]
   ·show#[so,h5]
  ·show a1 _ rs J e (!0) _ λt4 S6 h5 e6 a5=>?_
   show C [.say t4] _ e6 (by rw[a5];simp) (by simp) (by simp) λq' F=>by rw[Qfq.mp F];show#[so,h5]
 ·rintro a7 S3 ⟨o6,o7,rs,rfl,e3,hr3,hl1,hl2,hn4,U⟩
  have a9:(jG 0 (1+(a2:Int))).length=a2+1:=by erw[jG,lQm,QVq];omega
  rw[a9] at hl1 hl2 hn4
  have b0:∀(rs:List Rw) (S4:aE),Ex k S S4->S4[r]?=some (.lst (rs.map Rw.d))->(∀q∈rs,q.Ok sc rs.length)->0<rs.length->rs.length<=9->T (cy<|tupQ<|cO<|aP<|ar 5) [some (.ref k),some (.ref g),some (.ref w),some (.ref p),some (.int 4),some (.ref r),o6,o7] S4 λo=>match o with
    |.nx _ Y=>Op (settle S .non Y) λp=>Q p.1 p.2|.rt d Y=>Op (settle S d Y) λp=>Q p.1 p.2|.rl l Y=>Op (eY S l Y) λp=>Q p.1 p.2|_=>False:=by
   intro rs S4 J e U h1 h2
   symm
   show a_ e ?_
   show#[rfl,?_]
   dsimp only[bg,aN,bf,bP,bV,fg]
   show mX J x.lt (λk z=>(nomatch z)) (by erw[cA];show bo λq _=>dR q.low) λa b c=>?_
   show h rs _ U h1 h2 x.set y.set (by simp)
  apply aI<|bK ?_
  apply bW e3 (!1) (!1) λv S4 hv J a4 l4=>?_
  show eA ?_
  dsimp only[bg,aN,bf,bP,bV,fg]
  let e:=a4.keep _ _ Z hr3
  show aG (λc=>?_) (λc=>?_)
  ·apply c9 (fq ?_)
   apply#[_,_,rfl,e,?_]
   apply a_ e ?_
   show bW J (by erw[lQm];omega) (by erw[lQm];omega) λv2 H K I u l5=>?_
   symm
   show#[by show 2<=_;decide,?_]
   symm
   let B:=u.keep _ _ Z e
   show#[_,B,fQ (i _ (by simp;omega)) ?_]
   dsimp only[bg,aN,bf,bP,bV,fg]
   erw[lQm] at K
   show b0 (rs++ [Rw.go v2]) _ (I.put (!0) kl) (by rw[cZ B];simp[Rw.d]) (λq P=>?_) (by simp) (by simp;omega)
   rw[lQa]
   rcases mQa.mp P with P|P
   ·show(U q P).mono (by simp)
   ·rw[Qfq.mp P]
    show v2<=rs.length+1
    omega
  ·show bT<|b0 rs S4 J e U (!0) (!0)
noncomputable def fw(p:List (Str×Nat)×List Rw):D:=.tup [.tup (p.1.map kZ),.tup (p.2.map Rw.d)]
structure cT where
 aj:List Rm
 ai:List (Str×Nat)
 ak:List (Str×Nat)
 af:List (List (Str×Nat)×List Rw)
noncomputable def cT.d(w:cT):D:=.tup [.tup (w.aj.map Rm.d),.tup (w.ai.map kZ),.tup (w.ak.map kZ),.tup (w.af.map fw)]
structure Ek(gs:List (Str×Str))(ak ai:X6)(h:List (Str×Nat)×List Rw):Prop where
 tv:∀p∈h.1,p.2<=9
 l1:h.1.length<=6
 l2:h.2.length<=9
 l0:0<h.2.length
 dj:∀x∈h.1.map (·.1),x∉ak
 pr:xF #[true,h.1.map (·.1)++ak,h.1.map (·.1)++ak,[],gs,ai] h.2
structure eJ(w:cT):Prop where
 nd:(w.aj.map (·.name)).Nodup
 l1:w.aj.length<=3
 l2:w.ai.length<=6
 l3:w.ak.length<=6
 l4:w.af.length<=4
 l0:0<w.af.length
 pv:∀p∈w.ai,p.2<=9
 sv:∀p∈w.ak,p.2<=9
 rm:∀r∈w.aj,yt (aX w.aj) r
 hd:∀h∈w.af,Ek (aX w.aj) (w.ak.map (·.1)) (w.ai.map (·.1)) h
def Ic(p:List (Str×Nat)×List Rw):cA 0 (fw p)=true:=by
 erw[fw,cA,cn,Bool.and_true,Bool.true_and,QCq]
 show#[bo λ_ _=>rfl,bo λr _=>r.low]
def cT.low(w:cT):cA 0 w.d=true:=by
 erw[cT.d,cA,cn,Bool.and_true,Bool.true_and,QCq]
 show#[bo λr _=>r.low,bo λ_ _=>rfl,bo λ_ _=>rfl,bo λp _=>Ic p]
def G7(b:∀r∈rs,r.ae.length<=6):(aX rs).length<=6*rs.length:=by
 induction rs with
 |nil=>simp[aX]
 | cons a l c=>
   have:=c λr d=>b r (Qpq _ d)
   have:=b a (QBq ..)
   erw[aX,QSq,lQa,lQm,Qnq] at *
   omega
def DW{a d:X6}(c:∃l,(a++l).Perm (six.map (("":Str)++·)))(b:∃l,(d++l).Perm (six.map (("o":Str)++·))):∀x∈a,x∉d:=λx i g=>by
 let#[l,c]:=c
 let#[m,b]:=b
 let e:=c.mem_iff.mp (mQa.mpr<|.inl i)
 let f:=b.mem_iff.mp (mQa.mpr<|.inl g)
 have h:∀x∈six.map (("":Str)++·),x∉six.map (("o":Str)++·):=by decide +kernel
 show h x e f
def IU{S S0:aE}{k af pm:Nat}{rs:List Rm}{Q:Res->aE->Prop}(x:Ex k S0 S)(h0:0<af)(h4:af<=4)(d3:pm<=2)(nd:(rs.map (·.name)).Nodup)(hl:rs.length<=3)(P:∀r∈rs,yt (aX rs) r)
  (h:∀(w:cT) (F:aE),eJ w->Ex k S0 F->Ex k S F->F.length=S.length->Q (.d w.d) F):
  Fn jS [.ref k,.tup (rs.map Rm.d),.int af,.int pm] S Q:=by
 have y:Ex k S S:=by let#[a,b,c,hh]:=x.pot;show Ex.refl hh
 let kl:=x.lt
 let d2:=G7 λr hr=>(P r hr).l3
 show bZ ?_
 unfold nZ
 symm
 show⟨by decide,?_⟩
 show aI ?_
 show BC (i:=S.length) (j:=4) (v:=5) (rs:=rs) (tg:=.tu) (by simp +zetaDelta) rfl aM (λR hR=>bX<|aw rfl<|cE hR) (λ_=>trivial) (!1) (λr hr=>(P r hr).l3) hl (λo=>?_)
 have e1:Ex k S ((S++ [O.lst []]).set S.length (.lst ((aX rs).map dJ))):=y.app.put (Qmq _) kl
 have U:((S++ [O.lst []]).set S.length (.lst ((aX rs).map dJ)))[S.length]?=some (.lst ((aX rs).map dJ)):=cZ aM
 generalize ((S++ [O.lst []]).set S.length (.lst ((aX rs).map dJ)))=S1 at e1 U|-
 generalize hg:S.length=g at U|-
 have ng:g≠k:=by omega
 symm
 apply bW e1 (!0) (!0) λnp S2 f0 e2 b6 l2=>?_
 apply jj e2 (!0) (!0) (!1) λai s _ f1 e3 b9 l3=>?_
 apply⟨by decide,?_⟩
 have k3:s.length≠k:=by have:=e3.lt;omega
 have b1:(s++ [O.lst (ai.map D.str)])[g]?=some (.lst ((aX rs).map dJ)):=aO (b9.keep _ _ ng<|b6.keep _ _ ng U)
 have a6:(s++ [O.lst (ai.map D.str)])[s.length]?=some (.lst (ai.map D.str)):=aM
 have a3:Ex k S (s++ [O.lst (ai.map D.str)]):=e3.app
 have d1:S.length<=s.length:=e3.len
 have b7:(s++ [O.lst (ai.map D.str)]).length=s.length+1:=by simp
 generalize (s++ [O.lst (ai.map D.str)])=T3 at b1 a6 a3 b7|-
 show bW (a3.app (G:= [O.lst [.int 0,.int 0,.int 1,.int 2]])) (!1) (!1) λv S4 hv e4 H l4=>?_
 dsimp only[bg,aN,bf,bP,bV,fg]
 obtain⟨ns,f4,ha⟩:∃n:Nat,n<=2/\kq ([.int 0,.int 0,.int 1,.int 2]:List D) (v:Int)=some (.int n):=by
  rcases v with _|_|_|_|v
  ·show⟨0,by omega,rfl⟩
  ·show⟨0,by omega,rfl⟩
  ·show⟨1,by omega,rfl⟩
  ·show⟨2,by omega,rfl⟩
  ·omega
 show bC (H.keep _ _ (by have:=a3.lt;omega) aM) ha ?_
 symm
 apply jj e4 (!0) (!0) (!1) λl q a9 d7 e5 a1 l5=>?_
 show⟨by decide,?_⟩
 have k5:q.length≠k:=by have:=e5.lt;omega
 have b3:(q++ [O.lst (l.map D.str)]++ [O.lst []])[g]?=some (.lst ((aX rs).map dJ)):=aO (aO<|a1.keep _ _ ng<|H.keep _ _ ng<|aO b1)
 have b4:(q++ [O.lst (l.map D.str)]++ [O.lst []])[s.length]?=some (.lst (ai.map D.str)):=aO (aO<|a1.keep _ _ k3<|H.keep _ _ k3<|aO a6)
 have a8:(q++ [O.lst (l.map D.str)]++ [O.lst []])[q.length]?=some (.lst (l.map D.str)):=aO aM
 have f2:s.length<q.length:=by
  have:=a1.len
  have:=H.len
  erw[lQa,Qnq,QGq] at *
  omega
 have e6:Ex k S (q++ [O.lst (l.map D.str)]++ [O.lst []]):=e5.app.app
 generalize hr:q.length+1=r
 have B:(q++ [O.lst (l.map D.str)]).length=r:=by simp[hr]
 rw[B]
 have gr:(q++ [O.lst (l.map D.str)]++ [O.lst []])[r]?=some (.lst []):=by rw[<-B];show aM
 generalize (q++ [O.lst (l.map D.str)]++ [O.lst []])=S6 at e6 b3 b4 a8 gr|-
 have kr:r≠k:=by have:=e5.lt;omega
 apply aI<|gF ?_
 show⟨_,rfl,⟨by omega,by omega⟩,?_⟩
 let Inv:Nat->cG->aE->Prop:=λn a0 F=>∃(o9 X Y:Option D) (u:List (List (Str×Nat)×List Rw)),a0= [some (.ref k),some (.tup (rs.map Rm.d)),some (.int af),some (.int pm),some (.ref g),o,some (.ref s.length),some (.ref q.length),some (.ref r),o9,X,Y,none]∧
  Ex k S F/\F[g]?=some (.lst ((aX rs).map dJ))/\F[s.length]?=some (.lst (ai.map D.str))/\F[q.length]?=some (.lst (l.map D.str))/\F[r]?=some (.lst (u.map fw))/\u.length=n/\(∀p∈u,Ek (aX rs) l ai p)
 show⟨Inv,⟨none,none,none,[],rfl,e6,b3,b4,a8,gr,rfl,by simp⟩,λ_ _ _ _=>trivial,?_,?_⟩
 ·rintro n d a0 S7 hd ⟨o9,X,Y,u,rfl,e7,gg7,gp7,gs7,gr7,hn,hpr⟩
  have c4:n<4:=by
   have:=(gQs.mp hd).1
   erw[jG,lQm,QVq] at this
   omega
  apply aS ?_
  apply⟨by decide,?_⟩
  show bW (e7.app (G:= [O.lst [.int 0,.int 1,.int 1,.int 2]])) (!1) (!1) λv S8 hv e8 t l8=>?_
  dsimp only[bg,aN,bf,bP,bV,fg]
  obtain⟨nw,d4,ha⟩:∃n:Nat,n<=2/\kq ([.int 0,.int 1,.int 1,.int 2]:List D) (v:Int)=some (.int n):=by
   rcases v with _|_|_|_|v
   ·show#[0,by omega,rfl]
   ·show#[1,by omega,rfl]
   ·show#[1,by omega,rfl]
   ·show#[2,by omega,rfl]
   ·omega
  show bC (t.keep _ _ (by have:=e7.lt;omega) aM) ha ?_
  symm
  apply jj e8 (!0) (!0) (!1) λf N b5 d6 e9 J l9=>?_
  have k9:N.length≠k:=by have:=e9.lt;omega
  have e:∀{i:Nat} {o:O},i≠k->S7[i]?=some o->(N++ [O.lst (f.map D.str)])[i]?=some o:=λn h=>aO (J.keep _ _ n<|t.keep _ _ n<|aO h)
  have I:(N++ [O.lst (f.map D.str)])[N.length]?=some (.lst (f.map D.str)):=aM
  have a5:Ex k S (N++ [O.lst (f.map D.str)]):=e9.app
  let Z:=e ng gg7
  let W:=e k3 gp7
  let a4:=e k5 gs7
  let a7:=e kr gr7
  have r9:r<N.length:=by
   have:=(gQs.mp gr7).1
   have:=t.len
   have:=J.len
   erw[lQa,Qnq,QGq] at *
   omega
  generalize (N++ [O.lst (f.map D.str)])=T9 at I a5 Z W a4 a7|-
  apply yE ?_
  apply a_ I ?_
  show a_ a4 ?_
  show#[#[rfl,rfl,I,by erw[lQm];show nQl (bj (!0))],?_]
  rw[<-Qzq]
  symm
  show NA (words:=f++l) (ai:=ai) (goals:=aX rs) (a5.app (G:= [O.lst ((f++l).map D.str)])) ng (by have:=a5.lt;omega) k3 (aO Z) aM (aO W) (!0) (by rw[lQa];omega) (!0) λpr d9 h1 h2 h3 c1 A c6=>?_
  symm
  apply fq ?_
  let M:=A.keep _ _ kr (aO a7)
  apply#[_,_,rfl,M,?_]
  apply FZ (m:=3) c1 rfl rfl (A.keep _ _ k9<|aO I) k9 (!1) (!1) (!0) λts c0 a2 c3 c5 K f3=>?_
  show#[by show 2<=_;decide,?_]
  symm
  let L:=K.keep _ _ kr M
  show#[_,L,fQ (bj (by erw[lQm];omega)) ?_]
  have kp:∀{i:Nat} {o:O},i≠k->i≠r->T9[i]?=some o->∀o',(c0.set r o')[i]?=some o:=λn n2 h o'=>fP n2 (K.keep _ _ n<|A.keep _ _ n<|aO h)
  have d5:ts.length=f.length:=by rw[<-a2];simp
  show#[_,_,_,u++ [(ts,pr)],rfl,c5.put (!0) kl,kp ng (!0) Z _,kp k3 (!0) W _,kp k5 (!0) a4 _,?_,by simp[hn],λp C=>?_]
  ·rw[cZ L]
   simp[fw]
  ·rcases mQa.mp C with C|C
   ·show hpr p C
   ·rw[Qfq.mp C]
    show#[λp C=>by have:=c3 p C;omega,by show ts.length<=6;omega,h3,h2,by rw[a2];show DW b5 a9,?_]
    show xF #[true,ts.map (·.1)++l,ts.map (·.1)++l,[],_,_] pr
    rw[a2]
    show h1
 ·rintro a0 S7 ⟨o9,X,Y,u,rfl,e7,gg7,gp7,gs7,gr7,hn,hpr⟩
  have c4:u.length=af:=by
   rw[hn]
   erw[jG,lQm,QVq]
   omega
  symm
  apply FZ (m:=3) e7 rfl rfl gp7 k3 (!1) (!1) (!0) λps S8 b2 c2 e8 t l8=>?_
  apply FZ (m:=3) e8 rfl rfl (t.keep _ _ k5 gs7) k5 (!1) (!1) (!0) λss N b0 b8 e9 J l9=>?_
  show a_ (J.keep _ _ kr<|t.keep _ _ kr gr7) ?_
  apply#[rfl,?_]
  show#[by show 4<=_;decide,?_]
  have e0:ps.length=ai.length:=by rw[<-b2];simp
  have d8:ss.length=l.length:=by rw[<-b0];simp
  show mX (d:=(cT.mk rs ps ss u).d) e9 x.lt (λk z=>(nomatch z)) (dR<|cT.low _) λa b c=>?_
  show h #[rs,ps,ss,u] _ #[nd,hl,by show ps.length<=6;omega,by show ss.length<=6;omega,by show u.length<=4;omega,by show 0<u.length;omega,λp C=>by have:=c2 p C;omega,λp C=>by have:=b8 p C;omega,P,?_] x.set y.set (by simp)
  show∀h∈u,Ek (aX rs) (ss.map (·.1)) (ps.map (·.1)) h
  rw[b0,b2]
  show hpr
def Bq{Q:Res->aE->Prop}(x:Ex k S0 S)(h:∀(w:cT) (e:aE),eJ w->Ex k S0 e->Ex k S e->e.length=S.length->Q (.d w.d) e):Fn fh [.ref k] S Q:=by
 have y:Ex k S S:=by let#[a,b,c,u]:=x.pot;show Ex.refl u
 let Z:=x.lt
 show bZ ?_
 unfold iO
 symm
 apply⟨by decide,?_⟩
 show bW (y.app (G:= [O.lst [.int 1,.int 2,.int 3,.int 1,.int 2,.int 0]])) (!1) (!1) λv F U j g W=>?_
 dsimp only[bg,aN,bf,bP,bV,fg]
 obtain⟨n,B,H⟩:∃n:Nat,n<=3/\kq ([.int 1,.int 2,.int 3,.int 1,.int 2,.int 0]:List D) (v:Int)=some (.int n):=by
  rcases v with _|_|_|_|_|_|v
  ·show#[1,by omega,rfl]
  ·show#[2,by omega,rfl]
  ·show#[3,by omega,rfl]
  ·show#[1,by omega,rfl]
  ·show#[2,by omega,rfl]
  ·show#[0,by omega,rfl]
  ·omega
 apply bC (g.keep _ _ (!0) aM) H ?_
 apply#[by decide,?_]
 show IY (m:=F.length) (ms:= ["at once","when free"]) (bm:=2) (j.app (G:= [O.lst [.str "at once",.str "when free"]])) (by have:=j.lt;omega) aM (λs A=>by simpa using A) (!1) (!1) (!1) B λN M o t f q l X=>?_
 symm
 apply bW q (!1) (!1) λi R p C K L=>?_
 rw[show(1:Int)+(i:Int)=((1+i:Nat):Int) by omega]
 show IU (pm:=2) C (!0) (!0) (!1) o t f λw Y r I J P=>?_
 dsimp only[bg,aN,bf,bP,bV,fg]
 show mX I x.lt (λk z=>(nomatch z)) (dR<|cT.low _) λa b c=>?_
 show h w _ r x.set y.set (by simp)
end W28
namespace DL
open L2
def Mg{Q:List D->aE->Prop}(P:cG->Prop)(F:D->D)(o:P (qz js l)) (h:E f l S λp e=>p.2.stays e p.1/\p.1.length<=1000∧
   (∀d∈p.1,∀a,P a->Tg g d a e λc S2=>S2=e/\P c/\E i c e λy m=>y=F d/\m=e)/\Q (p.1.map F) e):E (bG js (fT f) g bQ i) l S Q:=by
 show j3<|jD (h.mono λp e s=>?_)
 let#[t,z,x,q]:=s
 show#[λn a j b=>j=e/\b=(p.1.take n).map F/\P a,#[L,L,o],λn a j b h=>by rw[h.1];show t,λn d a j b k h=>?_,λa j b h=>?_]
 ·let#[rfl,rfl,h3]:=h
  let#[c,S2,v,rfl,h4,h5]:=x d (mQg k) a h3
  show#[c,S2,v,m8 ?_]
  rw[Qhq L]
  show h5.mono λy m u=>?_
  let#[r,w]:=u
  subst r w
  let A:=(gQs.mp k).1
  show#[?_,L,?_,h4]
  ·rw[lQm,Qxq]
   show bj (!0)
  ·rw[QYq,k]
   simp
 ·let#[rfl,rfl,_]:=h
  rw[QEq]
  show q
def je{Q:List D->aE->Prop}(P:cG->Prop)(enc G:α->D)(t:P (qz js o)) (h:E f o S λp i=>∃xs:List α,p.1=xs.map enc/\p.2.stays i p.1/\xs.length<=1000∧
   (∀x∈xs,∀a,P a->Tg g (enc x) a i λc S2=>S2=i/\P c/\E k c i λy s=>y=G x/\s=i)/\Q (xs.map G) i):E (bG js (fT f) g bQ k) o S Q:=by
 show j3<|jD (h.mono λp i v=>?_)
 let#[xs,r,w,F,C,q]:=v
 show#[λn a m b=>m=i/\b=(xs.take n).map G/\P a,#[L,L,t],λn a m b h=>by rw[h.1];show w,λn d a m b l h=>?_,λa m b h=>?_]
 ·let#[rfl,rfl,h3]:=h
  have l:p.1[n]?=some d:=l
  rw[r,gQm] at l
  let#[x,j,rfl]:=oQm.mp l
  let#[c,S2,A,rfl,h4,h5]:=C x (mQg j) a h3
  show#[c,S2,A,m8 ?_]
  rw[Qhq L]
  show h5.mono λy s z=>?_
  let#[u,B]:=z
  subst u B
  let H:=(gQs.mp j).1
  show#[?_,L,?_,h4]
  ·rw[lQm,Qxq]
   show bj (!0)
  ·rw[QYq,j]
   simp
 ·let#[rfl,rfl,_]:=h
  have e:p.1.length=xs.length:=by rw[r,lQm]
  show Q ((xs.take p.1.length).map G) _
  rw[e,QEq]
  show q
def cQ{Q:Res->aE->Prop}(a:∀k,d≠.ref k)(b:cA 0 d=true)(q:Q (.d d) S):Op (settle S d S) λp=>Q p.1 p.2:=jc xb (QEq) a (dR b) q
def Jf{Q:Res->aE->Prop}(a:cn 0 ds=true)(q:Q (.l ds) S):Op (eY S ds S) λp=>Q p.1 p.2:=p7 xb (QEq) (kf a) q
end DL
namespace W28
open L2 DL
structure cB where
 room:Int
 deed:Int
 row:Int
 given:Int
 told:Int
structure dv where
 vals:List Int
 within:Int
 row:List Int
 ag:List Int
 aa:List (List (Int×Int))
structure bq where
 aj:List dv
 ai:List (Int×List Int)
 ak:List Int
 af:List (List Int×List cB)
noncomputable def dm(l:List Int):D:=.tup (l.map D.int)
noncomputable def cB.d(f:cB):D:=.tup [.int f.room,.int f.deed,.int f.row,.int f.given,.int f.told]
noncomputable def pairD(p:Int×Int):D:=.tup [.int p.1,.int p.2]
noncomputable def fD(l:List (Int×Int)):D:=.tup (l.map pairD)
noncomputable def dv.d(r:dv):D:=.tup [dm r.vals,.int r.within,dm r.row,dm r.ag,.tup (r.aa.map fD)]
noncomputable def Dy(p:Int×List Int):D:=.tup [.int p.1,dm p.2]
noncomputable def uh(h:List Int×List cB):D:=.tup [dm h.1,.tup (h.2.map cB.d)]
noncomputable def bq.d(s:bq):D:=.tup [.tup (s.aj.map dv.d),.tup (s.ai.map Dy),dm s.ak,.tup (s.af.map uh)]
def mP(l:List Int):cA 0 (dm l)=true:=by erw[dm,cA];show bo λ_ _=>rfl
def xJ(l:List (Int×Int)):cA 0 (fD l)=true:=by erw[fD,cA];show bo λ_ _=>rfl
def dv.low(r:dv):cA 0 r.d=true:=by
 erw[dv.d,cA,cn,mP,Bool.and_true,Bool.true_and]
 show bo λl _=>xJ l
def ER(p:Int×List Int):cA 0 (Dy p)=true:=by erw[Dy,cA,cn,mP,Bool.and_true]
def D6(h:List Int×List cB):cA 0 (uh h)=true:=by
 erw[uh,cA,cn,mP,Bool.and_true,Bool.true_and]
 show bo λ_ _=>rfl
def bq.low(s:bq):cA 0 s.d=true:=by
 erw[bq.d,cA,cn,mP,Bool.and_true,Bool.true_and,QCq]
 show#[bo λr _=>r.low,bo λp _=>ER p,bo λh _=>D6 h]
noncomputable def bS(ts:List (Str×Nat)):List Int:=ts.map λp=>(p.2:Int)
noncomputable def cC(r:Rm):dv:=#[bS r.ao,-1,[],[],r.aa.map λ_=> []]
noncomputable def yj:cB:=#[-1,-1,0,0,0]
noncomputable def cR(w:cT):bq:=#[w.aj.map cC,w.ai.map λp=>((p.2:Int),[]),bS w.ak,w.af.map λh=>(bS h.1,[yj])]
def l_{Q:Res->aE->Prop}{ts:List (Str×Nat)}(l:ts.length<=1000)(h:Q (.d (dm<|bS ts)) S):Fn hV [.tup (ts.map kZ)] S Q:=by
 show bZ ?_
 unfold qm
 symm
 apply Mg (λc=>∃a b,c= [a,b]) (λd=>match d with|.tup [_,v]=>v|d=>d) #[none,none,L] ?_
 show#[trivial,by simpa using l,λd g c f=>?_,?_]
 ·let#[p,_,rfl]:=Qkq.mp g
  let#[a,b,rfl]:=f
  show fN L<|ay<|aS<|ay<|aS<|bu ?_
  apply#[L,#[_,_,L],?_]
  show#[L,L]
 ·have e:(ts.map kZ).map (λd=>match d with|.tup [_,v]=>v|d=>d)=(bS ts).map D.int:=by
   erw[bS,QPq]
   rfl
  rw[e]
  show cQ (d:=dm (bS ts)) (λk z=>(nomatch z)) (mP _) h
def yx{Q:Res->aE->Prop}{r:Rm}(b:r.ao.length<=6)(c:r.aa.length<=6)(h:Q (.d (cC r).d) S):Fn jT [r.d] S Q:=by
 show bZ ?_
 unfold m6
 symm
 apply fN L<|ay<|aS<|ay<|aS<|ay<|aS<|ay<|aS<|ay<|aS<|bu ?_
 apply l_ (!0) ?_
 apply#[by decide,?_]
 apply#[by decide,?_]
 apply EI (λ_=>.tup []) ?_
 show#[trivial,by simp;omega,λd a=>?_,?_]
 ·symm
  show#[by decide,L,L]
 ·symm
  show#[by show 5<=_;decide,?_]
  have e:D.tup ((r.aa.map AI).map λ_=>D.tup [])=D.tup ((cC r).aa.map fD):=by
   erw[cC,QPq]
   rfl
  rw[e]
  show cQ (d:=(cC r).d) (λk z=>(nomatch z)) (dv.low _) h
def BA{Q:Res->aE->Prop}(o:eJ w)(h:Q (.d (cR w).d) S):Fn wb [w.d] S Q:=by
 show bZ ?_
 unfold EF
 symm
 apply fN L<|ay<|aS<|ay<|aS<|ay<|aS<|ay<|aS<|bu ?_
 apply#[by decide,?_]
 let n:=o.l1
 let q:=o.l2
 let l:=o.l3
 let m:=o.l4
 apply je (α:=Rm) (λc=>∃a,c= [a]) Rm.d (λr=>(cC r).d) #[none,L] ?_
 show#[w.aj,L,trivial,by omega,λr f c e=>?_,?_]
 ·let#[a,rfl]:=e
  apply aS #[L,#[_,L],?_]
  show yx (o.rm r f).l1 (o.rm r f).l2 #[L,L]
 symm
 apply je (α:=Str×Nat) (λc=>∃a b,c= [a,b]) kZ (λp=>Dy ((p.2:Int),[])) #[none,none,L] ?_
 show#[w.ai,L,trivial,by omega,λr f c e=>?_,?_]
 ·let#[a,b,rfl]:=e
  show fN L<|ay<|aS<|ay<|aS<|bu ?_
  apply#[L,#[_,_,L],?_]
  apply#[by decide,?_]
  show#[by show 2<=_;decide,L,L]
 symm
 apply l_ (!0) ?_
 apply je (α:=List (Str×Nat)×List Rw) (λc=>∃a b,c= [a,b,some yj.d]) fw (λh=>uh (bS h.1,[yj])) #[none,none,L] ?_
 show#[w.af,L,trivial,by omega,λr f c e=>?_,?_]
 ·let#[a,b,rfl]:=e
  show fN L<|ay<|aS<|ay<|aS<|bu ?_
  apply#[L,#[_,_,L],?_]
  show l_ (by have:=(o.hd r f).l1;omega) ?_
  symm
  show#[by show 1<=_;decide,?_]
  symm
  show#[by show 2<=_;decide,L,L]
 symm
 show#[by show 4<=_;decide,?_]
 have i:w.aj.map (λr=>(cC r).d)=(cR w).aj.map dv.d:=by erw[cR,QPq];rfl
 have g:w.ai.map (λp=>Dy ((p.2:Int),[]))=(cR w).ai.map Dy:=by erw[cR,QPq];rfl
 have j:w.af.map (λh=>uh (bS h.1,[yj]))=(cR w).af.map uh:=by erw[cR,QPq];rfl
 rw[i,g,j]
 show cQ (d:=(cR w).d) (λk z=>(nomatch z)) (bq.low _) h
end W28
namespace DL
open L2
def iz{Q:D->aE->Prop}(h:E f c S λd a=>∃i,d=.int i/\Q (.int (-i)) a):E (g6 f) c S Q:=by
 let#[d,a,b,i,rfl,q]:=h
 show#[_,a,by unfold g6;rw[b];rfl,q]
def cW{Q:Option Int->aE->Prop}(q:Q none S):E ua c S Q:=#[_,_,L,q]
def cV{Q:Option Int->aE->Prop}(h:E f c S λd a=>∃i,d=.int i/\Q (some i) a):E (sQ f) c S Q:=by
 let#[d,a,b,i,rfl,q]:=h
 show#[_,a,by unfold sQ;rw[b];rfl,q]
def kJ{lo hi:K_}{Q:D->aE->Prop}(h:E f c S λd b=>E lo c b λl S2=>E hi c S2 λu a=>∃ds,d=.tup ds/\Q (.tup (jF ds l u)) a):E (uK f lo hi) c S Q:=by
 let#[d,b,e,l,S2,i,u,a,g,ds,rfl,q]:=h
 show#[_,a,by unfold uK;rw[e];erw[Qbq];rw[i];erw[Qbq];rw[g];rfl,q]
def Io{Q:Out->Prop}(h:E f c S λds d=>∃a b,ds= [a,b]/\Q (.nx ((c.set i<|some a).set j (some b)) d)):T (HQ i j f) c S Q:=by
 let#[ds,d,e,a,b,rfl,q]:=h
 show⟨_,by unfold HQ;rw[e];rfl,q⟩
def Ay{xs:List α}(h:i<=xs.length):jF xs none (some (i:Int))=xs.take i:=by
 unfold jF
 rw[HT.xi,HT.Fg,Nat.min_eq_left h]
 simp
def jw{xs:List α}(h:i<=xs.length):jF xs (some (i:Int)) none=xs.drop i:=by
 unfold jF
 rw[HT.xi,HT.Fg,Nat.min_eq_left h]
 rw[List.take_of_length_le]
 simp
def C1{xs:List α}(h:0<xs.length):jF xs none (some (-1))=xs.dropLast:=by
 unfold jF
 rw[HT.xi]
 show(xs.drop 0).take (HT.ft xs.length xs.length (some (-1))-0)=_
 rw[show HT.ft xs.length xs.length (some (-1))=xs.length-1 by erw[HT.ft];rw[Qhq (!0)];omega]
 simp[List.dropLast_eq_take]
def mS{xs:List α}(h:xs.getLast? =some x):kq xs (-1)=some x:=by
 have c:0<xs.length:=by
  cases xs with
  |nil=>cases h
  |cons a b=>simp
 unfold kq Ef
 rw[Quq (!0),Qhq (!0)]
 rw[List.getLast?_eq_getElem?] at h
 erw[Qbq]
 rw[show((-1:Int)+(xs.length:Int)).toNat=xs.length-1 by omega]
 show h
end DL
namespace W28
open L2 DL
def cz{S:aE}{Q:Res->aE->Prop}{s:bq}{h:Nat}{vs:List Int}{fs:List cB}{f:cB}(b:s.af[h]?=some (vs,fs))(a:fs.getLast? =some f)(q:Q (.d f.d) S):Fn dq [s.d,.int h] S Q:=by
 show bZ ?_
 unfold mY
 symm
 apply ax L ?_
 show ax (d:=uh (vs,fs)) (aU (by rw[gQm,b];rfl)) ?_
 symm
 show ax L ?_
 apply iz ?_
 show⟨1,L,?_⟩
 show ax (d:=f.d) (mS (by rw[QfQ,a];rfl)) ?_
 show cQ (λk z=>(nomatch z)) L q
noncomputable def progOf(w:cT)(h:Nat)(f:cB):Option (List Rw):=
 if f.room= -1 then(w.af[h]?).map (·.2) else if 0<=f.room/\0<=f.deed then(w.aj[f.room.toNat]?).bind λr=>(r.ae[f.deed.toNat]?).map (·.2) else none
def jb{α:Type}{xs:List α}{i:Int}{x:α}(a:0<=i)(h:xs[i.toNat]?=some x):kq xs i=some x:=by
 obtain⟨n,rfl⟩:∃n:Nat,i=n:=#[i.toNat,by omega]
 show aU (by simpa using h)
def w_(rs:List Rw):cA 0 (.tup (rs.map Rw.d))=true:=by erw[cA];show bo λr _=>r.low
def ic{Q:Res->aE->Prop}(a:progOf w h f=some pr)(q:Q (.d (.tup (pr.map Rw.d))) S):Fn gu [w.d,.int h,f.d] S Q:=by
 show bZ ?_
 unfold om
 apply aI<|Io ?_
 apply ax L ?_
 apply ax L ?_
 apply#[_,_,L,?_]
 show eA ?_
 dsimp only[bg,aN,bf,bP,bV,fg]
 unfold progOf at a
 by_cases c:f.room= -1
 ·rw[Qhq c] at a
  let#[j,b,rfl]:=oQm.mp a
  rw[Qeq c,Qhq L]
  symm
  apply ax L ?_
  show ax (d:=fw j) (aU (by rw[gQm,b];rfl)) ?_
  symm
  show ax L ?_
  show cQ (λk z=>(nomatch z)) (w_ _) q
 ·rw[Quq c] at a
  split at a
  ·rename_i e
   let#[r,b,a]:=au a
   let#[g,i,rfl]:=oQm.mp a
   rw[Qdq c,Quq (!1)]
   symm
   apply ax L ?_
   show ax (d:=r.d) (jb e.1 (by rw[gQm,b];rfl)) ?_
   symm
   apply ax L ?_
   show ax (d:=ix g) (jb e.2 (by rw[gQm,i];rfl)) ?_
   symm
   show ax L ?_
   show cQ (λk z=>(nomatch z)) (w_ _) q
  ·cases a
def eZ{Q:Res->aE->Prop}{xs:List D}(hi:i<xs.length)(m:xs.length<=900)(j:cn 0 xs=true)(g:cA 0 d=true)(q:Q (.d (.tup (xs.set i d))) S):Fn dY [.tup xs,.int i,d] S Q:=by
 show bZ ?_
 unfold qI
 symm
 apply kJ ?_
 apply cW<|cV ?_
 apply#[_,L,_,L,?_]
 show#[by show 1<=_;decide,?_]
 rw[Ay (!0)]
 show eI (by erw[Qxq,Qnq,QGq];show nQl (bj (!0))) ?_
 apply kJ ?_
 apply cV ?_
 show#[_,L,cW #[_,L,?_]]
 rw[show((i:Int)+1)=((i+1:Nat):Int) by omega,jw (!0)]
 show eI (by erw[lQa,Qxq,List.length_drop,Qnq,QGq];show nQl (bj (!0))) ?_
 have e:xs.take i++ [d]++xs.drop (i+1)=xs.set i d:=by
  rw[List.set_eq_take_append_cons_drop,Qhq hi]
  simp
 rw[e]
 show cQ (λk z=>(nomatch z)) ?_ q
 erw[cA]
 show AB λz b=>?_
 rcases QTq b with b|rfl
 ·have c:∀l:List D,cn 0 l=true->∀z∈l,cA 0 z=true:=by
   intro l
   induction l with
   |nil=>intro _ z b;cases b
   | cons a l f=>
     intro h z b
     erw[cn,QCq] at h
     rcases Qsq.mp b with rfl|b
     · show h.1
     · show f h.2 z b
  show c xs j z b
 ·show g
def map_set(f:α->b)(l:List α)(i:Nat)(a:α):(l.set i a).map f=(l.map f).set i (f a):=by
 rw[List.map_set]
def bc(s:bq):∀k,s.d≠.ref k:=λk z=>(nomatch z)
def dQ{Q:Res->aE->Prop}{s:bq}(hi:i<s.aj.length)(a:s.aj.length<=900)(q:Q (.d ({s with aj:=s.aj.set i r}:bq).d) S):Fn dD [s.d,.int i,r.d] S Q:=by
 show bZ ?_
 unfold qB
 symm
 apply ax L ?_
 apply eZ (by simpa using hi) (by simpa using a) (bo λr _=>r.low) r.low ?_
 show#[by show 1<=_;decide,?_]
 apply kJ ?_
 apply cV ?_
 show#[_,L,cW #[_,L,?_]]
 show eI (by show 4<=_;decide) ?_
 show cQ (d:=({s with aj:=s.aj.set i r}:bq).d) (bc _) (bq.low _) q|>λz=>?_
 rw[<-map_set]
 show z
def i4{Q:Res->aE->Prop}{s:bq}(hi:i<s.ai.length)(a:s.ai.length<=900)(q:Q (.d ({s with ai:=s.ai.set i p}:bq).d) S):Fn gk [s.d,.int i,Dy p] S Q:=by
 show bZ ?_
 unfold p_
 symm
 apply ax L ?_
 apply ax L ?_
 apply eZ (by simpa using hi) (by simpa using a) (bo λr _=>ER r) (ER p) ?_
 show#[by show 2<=_;decide,?_]
 apply kJ ?_
 apply cV ?_
 show#[_,L,cW #[_,L,?_]]
 show eI (by show 4<=_;decide) ?_
 show cQ (d:=({s with ai:=s.ai.set i p}:bq).d) (bc _) (bq.low _) q|>λz=>?_
 rw[<-map_set]
 show z
def iZ{Q:Res->aE->Prop}{s:bq}(hi:i<s.af.length)(a:s.af.length<=900)(q:Q (.d ({s with af:=s.af.set i (vs,fs)}:bq).d) S):Fn f_ [s.d,.int i,dm vs,.tup (fs.map cB.d)] S Q:=by
 show bZ ?_
 unfold p5
 apply fA<|aV<|kJ ?_
 apply cW<|cV ?_
 apply#[_,L,_,L,?_]
 apply ax L ?_
 show#[by show 2<=_;decide,?_]
 symm
 apply eZ (d:=uh (vs,fs)) (by simpa using hi) (by simpa using a) (bo λr _=>D6 r) (D6 (vs,fs)) ?_
 show#[by show 1<=_;decide,?_]
 show eI (by show 4<=_;decide) ?_
 show cQ (d:=({s with af:=s.af.set i (vs,fs)}:bq).d) (bc _) (bq.low _) q|>λz=>?_
 rw[<-map_set]
 show z
def ju{Q:Res->aE->Prop}{s:bq}(a:s.af[h]?=some (vs,fs))(c:0<fs.length)(g:fs.length<=900)(b:s.af.length<=900)(q:Q (.d ({s with af:=s.af.set h (vs,fs.dropLast++ [f])}:bq).d) S):Fn eE [s.d,.int h,f.d] S Q:=by
 show bZ ?_
 unfold g9
 symm
 apply ax L ?_
 show ax (d:=uh (vs,fs)) (aU (by rw[gQm,a];rfl)) ?_
 apply fN L<|ay<|aS<|ay<|aS<|bu ?_
 apply kJ ?_
 apply cW<|cV<|iz ?_
 apply#[1,L,_,L,_,L,?_]
 show#[by show 1<=_;decide,?_]
 rw[C1 (by simpa using c)]
 show eI (by erw[List.length_dropLast,lQm,Qnq,QGq];show nQl (bj (!0))) ?_
 symm
 have e:(fs.map cB.d).dropLast++ [f.d]=(fs.dropLast++ [f]).map cB.d:=by rw[Qzq,List.map_dropLast];rfl
 rw[e]
 show iZ (gQs.mp a).1 b ?_
 show cQ (bc _) (bq.low _) q
def tW{Q:Res->aE->Prop}{s:bq}(e:s.af[h]?=some (vs,fs))(c:fs.getLast? =some f)(i:fs.length<=900)(g:s.af.length<=900)(q:Q (.d ({s with af:=s.af.set h (vs,fs.dropLast++ [{f with row:=n}])}:bq).d) S):Fn lG [s.d,.int h,.int n] S Q:=by
 show bZ ?_
 unfold zw
 symm
 apply cz e c ?_
 apply kJ ?_
 apply cW<|cV ?_
 apply#[_,L,_,L,?_]
 show#[by show 1<=_;decide,?_]
 show eI (by show 3<=_;decide) ?_
 apply kJ ?_
 apply cV ?_
 show#[_,L,cW #[_,L,?_]]
 show eI (by show 5<=_;decide) ?_
 symm
 have j:0<fs.length:=by
  cases fs with
  |nil=>cases c
  |cons a b=>simp
 show ju (f:={f with row:=n}) e j i g ?_
 show cQ (bc _) (bq.low _) q
noncomputable def gQ(r:dv)(h:Int):dv:=if r.within= -1 then{r with within:=h} else{r with row:=r.row++ [h]}
noncomputable def dG(r:dv):dv:=match r.ag,r.row with
 |a::l,_=>{r with within:=a,ag:=l}
 | [],a::l=>{r with within:=a,row:=l}
 | [],[]=>{r with within:= -1}
def wc{Q:Res->aE->Prop}{s:bq}(b:s.aj[i]?=some r)(a:s.aj.length<=900)(g:r.row.length<=900)(q:Q (.d ({s with aj:=s.aj.set i (gQ r h)}:bq).d) S):Fn nJ [s.d,.int i,.int h] S Q:=by
 let f:=(gQs.mp b).1
 show bZ ?_
 unfold xx
 symm
 apply ax L ?_
 show ax (d:=r.d) (aU (by rw[gQm,b];rfl)) ?_
 apply fN L<|ay<|aS<|ay<|aS<|ay<|aS<|ay<|aS<|ay<|aS<|bu ?_
 show eA ?_
 dsimp only[bg,aN,bf,bP,bV,fg]
 unfold gQ at q
 by_cases c:r.within= -1
 ·rw[Qhq c] at q
  rw[Qeq c,Qhq L]
  symm
  show#[by show 5<=_;decide,?_]
  symm
  show dQ (r:={r with within:=h}) f a ?_
  show cQ (bc _) (bq.low _) q
 ·rw[Quq c] at q
  rw[Qdq c,Quq (!1)]
  symm
  show#[by show 1<=_;decide,?_]
  show eI (by erw[lQm,Qnq,QGq];show nQl (bj (!0))) ?_
  symm
  show#[by show 5<=_;decide,?_]
  symm
  have e:D.tup (r.row.map D.int++ [D.int h])=dm (r.row++ [h]):=by simp[dm]
  rw[e]
  show dQ (r:={r with row:=r.row++ [h]}) f a ?_
  show cQ (bc _) (bq.low _) q
def Au{α:Type}{a:α}{l:List α}:kq (a::l) 0=some a:=aU (j:=0) L
def zF{ds:List D}{Q:Bool->Prop}(q:Q (!ds.isEmpty)):Op (EW S<|.tup ds) Q:=#[_,L,q]
def Cj{Q:Res->aE->Prop}{s:bq}(m:s.aj[i]?=some r)(h:s.aj.length<=900)(q:Q (.d ({s with aj:=s.aj.set i (dG r)}:bq).d) S):Fn sA [s.d,.int i] S Q:=by
 let j:=(gQs.mp m).1
 show bZ ?_
 unfold DE
 symm
 apply ax L ?_
 show ax (d:=r.d) (aU (by rw[gQm,m];rfl)) ?_
 show fN L<|ay<|aS<|ay<|aS<|ay<|aS<|ay<|aS<|ay<|aS<|bu ?_
 let#[b,g,f,n,k]:=r
 symm
 show zF ?_
 cases n with
 | cons a l=>
   apply aG (λ_=>?_) (λc=>by cases c)
   apply ax (d:=.int a) Au ?_
   apply kJ ?_
   apply cV ?_
   apply#[_,L,cW #[_,L,?_]]
   show#[by show 5<=_;decide,?_]
   symm
   have e:D.tup (jF ((a::l).map D.int) (some 1) none)=dm l:=by
     rw[show(some (1:Int))=some ((1:Nat):Int) from L,jw (by simp)]
     rfl
   rw[e]
   show dQ (r:=#[b,a,f,l,k]) j h ?_
   show cQ (bc _) (bq.low _) q
 | nil=>
   show aG (λc=>by cases c) (λ_=>?_)
   apply bT ?_
   show zF ?_
   cases f with
   | cons a l=>
     apply aG (λ_=>?_) (λc=>by cases c)
     apply ax (d:=.int a) Au ?_
     apply kJ ?_
     apply cV ?_
     apply#[_,L,cW #[_,L,?_]]
     show#[by show 5<=_;decide,?_]
     symm
     have e:D.tup (jF ((a::l).map D.int) (some 1) none)=dm l:=by
       rw[show(some (1:Int))=some ((1:Nat):Int) from L,jw (by simp)]
       rfl
     rw[e]
     show dQ (r:=#[b,a,l,[],k]) j h ?_
     show cQ (bc _) (bq.low _) q
   | nil=>
     show aG (λc=>by cases c) (λ_=>?_)
     apply bT ?_
     show#[by show 5<=_;decide,?_]
     symm
     show dQ (r:=#[b,-1,[],[],k]) j h ?_
     show cQ (bc _) (bq.low _) q
def gB{Q:Res->aE->Prop}{enc:α->D}{nm:α->Str}{xs:List α}(he:∀a,∃r,enc a=.tup (.str (nm a)::r))(d:xs.length<=1000)(q:Q (.l ((xs.map nm).map D.str)) S):Fn fo [.tup (xs.map enc)] S Q:=by
 show bZ ?_
 unfold sF
 symm
 apply je (α:=α) (λb=>∃a,b= [a]) enc (λa=>.str (nm a)) #[none,L] ?_
 show#[xs,L,trivial,d,λr f b c=>?_,?_]
 ·let#[a,rfl]:=c
  show aS #[L,#[_,L],?_]
  let#[g,e]:=he r
  rw[e]
  symm
  show ax Au #[L,L]
 ·have e:xs.map (λa=>D.str<|nm a)=(xs.map nm).map D.str:=by rw[QPq];rfl
  rw[e]
  show Jf (bo λ_ _=>rfl) q
theorem hZ:∀ss:List Str,kF (ss.map D.str)=some (ss.map V.str)
 | []=>rfl
 |s::ss=>by erw[QDq,kF,xT,Qbq];rw[hZ ss];rfl
theorem vo:∀{ns:X6},x∈ns->∃j,rq (.str x) (ns.map V.str)=some j/\ns[j]?=some x
 | [],h=>by cases h
 | n::ns,h=>by
   by_cases c:n=x
   · subst c
     show#[0,by simp[rq,uY],L]
   · let#[j,b,a]:=vo (ns:=ns) ((Qsq.mp h).resolve_left (Ne.symm c))
     show#[j+1,by erw[QDq,rq];rw[b];simp[uY,c],by simpa using a]
end W28
namespace DL
open L2
def xk{T:String}{Q:D->aE->Prop}(h:E f a S λd b=>Op (Kt b T d) λk=>Q (.bl k) b):E (pO T f) a S Q:=by
 let#[d,b,c,k,e,q]:=h
 show#[_,b,by unfold pO;rw[c];erw[Qbq];rw[e];rfl,q]
def sm{Q:Bool->Prop}(q:Q b):Op (EW S<|.bl b) Q:=#[_,L,q]
def Lq{Q:D->aE->Prop}(h:E f a S λx c=>E g a c λy S2=>∃k b z v,x=.ref k/\y=.str z/\S2[k]?=some (.dct b)/\i7 b (.inr z)=some v/\Q v S2):E (M7 f g) a S Q:=by
 let#[x,c,d,y,S2,e,k,b,z,v,rfl,rfl,h1,h2,q]:=h
 show#[v,S2,by unfold M7;rw[d];erw[Qbq];rw[e];erw[Qbq,h1,yl,h2],q]
def nh{Q:D->Prop}(q:Q (.bl (!decide (i=j)))):Op (dE true S (.int i)<|.int j) Q:=#[_,by refine((if_pos (c:=Ci (.int i) (.int j)=true) (e:=none) rfl).trans ?_);simp,q]
def BV{i j:Int}{Q:D->Prop}(q:Q (.int (if j<i then j else i))):Op (minD [.int i,.int j]) Q:=#[_,L,q]
def Jc{i j:Int}{Q:D->Prop}(q:Q (.int (if j>i then j else i))):Op (maxD [.int i,.int j]) Q:=#[_,L,q]
end DL
namespace W28
open L2 DL
noncomputable def L5(o:Str)(a b:Int):Int:=
 if o="plus" then(if 9<a+b then 9 else a+b) else if o="minus" then(if 0>a-b then 0 else a-b) else if o="less" then(if a<b then 1 else 0)
 else if o="same" then(if a=b then 1 else 0) else(if a≠0/\b≠0 then 1 else 0)
noncomputable def pE(th wt:Str->Int):Tr->Int
 |.num n=>n
 |.word x=>th x
 |.waits b=>if 0<wt b then 1 else 0
 |.no t=>if pE th wt t=0 then 1 else 0
 |.two o a b=>L5 o (pE th wt a) (pE th wt b)
def GH(c:0<=a/\a<=9)(d:0<=b/\b<=9):0<=L5 o a b/\L5 o a b<=9:=by
 unfold L5
 repeat' split
 all_goals omega
theorem i8{th wt:Str->Int}(h:∀x∈ws,0<=th x/\th x<=9):∀{t:Tr},t.Ok ws bs->0<=pE th wt t/\pE th wt t<=9
 |.num n,ho=>by have:n<=9:=ho;erw[pE];omega
 |.word x,ho=>h x ho
 |.waits b,_=>by erw[pE];split <;>omega
 |.no t,_=>by erw[pE];split <;>omega
 |.two o a b,ho=>GH (i8 h ho.2.1) (i8 h ho.2.2)
def dh{Q:Res->aE->Prop}(q:Q (.d (.int i)) S):Op (settle S (.int i) S) λp=>Q p.1 p.2:=cQ (λk z=>(nomatch z)) L q
def u4{Q:Res->aE->Prop}(q:Q (.d (.int (L5 o a b))) S):Fn ib [.str o,.int a,.int b] S Q:=by
 show bZ ?_
 unfold jZ
 unfold L5 at q
 symm
 show gR ?_
 dsimp only[bg,aN,bf,bP,bV,fg]
 by_cases j:o="plus"
 ·rw[Qhq j] at q
  rw[Qeq j,Qhq L]
  symm
  show BV ?_
  show dh q
 rw[Quq j] at q
 rw[Qdq j,Quq (!1)]
 apply bT ?_
 show gR ?_
 dsimp only[bg,aN,bf,bP,bV,fg]
 by_cases e:o="minus"
 ·rw[Qhq e] at q
  rw[Qeq e,Qhq L]
  symm
  show Jc ?_
  show dh q
 rw[Quq e] at q
 rw[Qdq e,Quq (!1)]
 apply bT ?_
 show gR ?_
 dsimp only[bg,aN,bf,bP,bV,fg]
 by_cases f:o="less"
 ·rw[Qhq f] at q
  rw[Qeq f,Qhq L]
  symm
  by_cases c:a<b
  ·rw[Qhq c] at q
   rw[Qeq c,Qhq L]
   symm
   show dh q
  ·rw[Quq c] at q
   rw[Qdq c,Quq (!1)]
   symm
   show dh q
 rw[Quq f] at q
 rw[Qdq f,Quq (!1)]
 apply bT ?_
 show gR ?_
 dsimp only[bg,aN,bf,bP,bV,fg]
 by_cases i:o="same"
 ·rw[Qhq i] at q
  rw[Qeq i,Qhq L]
  symm
  show eA ?_
  dsimp only[bg,aN,bf,bP,bV,fg]
  by_cases c:a=b
  ·rw[Qhq c] at q
   rw[Qeq c,Qhq L]
   symm
   show dh q
  ·rw[Quq c] at q
   rw[Qdq c,Quq (!1)]
   symm
   show dh q
 rw[Quq i] at q
 rw[Qdq i,Quq (!1)]
 apply bT ?_
 show nh ?_
 dsimp only[bg,aN,bf,bP,bV,fg]
 by_cases g:a=0
 ·rw[Quq (λz=>z.1 g)] at q
  rw[Qeq g]
  show if (false=true) then _ else _
  rw[Quq (!1)]
  show if (false=true) then _ else _
  rw[Quq (!1)]
  symm
  show dh q
 ·rw[Qdq g]
  show if (true=true) then _ else _
  rw[Qhq L]
  symm
  show nh ?_
  dsimp only[bg,aN,bf,bP,bV,fg]
  by_cases h:b=0
  ·rw[Quq (λz=>z.2 h)] at q
   rw[Qeq h]
   show if (false=true) then _ else _
   rw[Quq (!1)]
   symm
   show dh q
  ·rw[Qhq #[g,h]] at q
   rw[Qdq h]
   show if (true=true) then _ else _
   rw[Qhq L]
   symm
   show dh q
def cp{T:String}{Q:Bool->aE->Prop}(h:E f c S λx a=>x=d/\a=S)(e:Kt S T d=some b)(q:Q b S):E (kK<|pO T f) c S Q:=by
 show JL<|xk (h.mono λx a i=>?_)
 let#[g,j]:=i
 subst g j
 show#[b,e,sm q]
def F6(h:o∈ops):o≠"waits" /\o≠"not":=by
 erw[ops,Qsq,QXq,or_false] at h
 rcases h with rfl|rfl|rfl|rfl|rfl <;>show#[by decide +kernel,by decide +kernel]
theorem iq{th wt:Str->Int}(hi:S[i]?=some (.dct e))(h:S[j]?=some (.dct kws))(g:∀x∈ws,i7 e (.inr x)=some (.int (th x)))(f:∀b∈bs,i7 kws (.inr b)=some (.int (wt b))):
  ∀(n:Nat) (t:Tr) {Q:Res->aE->Prop},t.Ok ws bs->t.dep<=n->Q (.d (.int (pE th wt t))) S->Fn (g7 n) [t.d,.ref i,.ref j] S Q
 |0,t,Q,_,hd,_=>by cases t <;>simp[Tr.dep] at hd
 | n+1,t,Q,ho,hd,q=>by
   show bZ ?_
   unfold tH
   cases t with
   | num v=>
     show aI<|bK<|cp (d:=.int v) (aw L #[L,L]) L ?_
     apply aG (λ_=>?_) (λc=>by cases c)
     show dh q
   | word x=>
     show aI<|bK<|cp (d:=.str x) (aw L #[L,L]) L ?_
     show aG (λc=>by cases c) (λ_=>bT ?_)
     show aI<|bK<|cp (d:=.str x) (aw L #[L,L]) L ?_
     show aG (λ_=>?_) (λc=>by cases c)
     apply fA<|Lq ?_
     show#[_,_,_,_,L,L,hi,g x ho,?_]
     show dh q
   | waits b=>
     show aI<|bK<|cp (d:=.tup [.str "waits",.str b]) (aw L #[L,L]) L ?_
     show aG (λc=>by cases c) (λ_=>bT ?_)
     show aI<|bK<|cp (d:=.tup [.str "waits",.str b]) (aw L #[L,L]) L ?_
     apply aG (λc=>by cases c) (λ_=>bT ?_)
     apply ax L ?_
     show gR ?_
     dsimp only[bg,aN,bf,bP,bV,fg]
     rw[Qeq L,Qhq L]
     symm
     apply Lq ?_
     show ax L ?_
     apply#[_,_,_,_,L,L,h,f b ho,?_]
     erw[pE] at q
     by_cases c:0<wt b
     · rw[Qhq c] at q
       rw[Qeq c,Qhq L]
       symm
       show dh q
     · rw[Quq c] at q
       rw[Qdq c,Quq (!1)]
       symm
       show dh q
   | no t=>
     have l:t.dep<=n:=by erw[Tr.dep] at hd;omega
     show aI<|bK<|cp (d:=.tup [.str "not",t.d]) (aw L #[L,L]) L ?_
     show aG (λc=>by cases c) (λ_=>bT ?_)
     show aI<|bK<|cp (d:=.tup [.str "not",t.d]) (aw L #[L,L]) L ?_
     apply aG (λc=>by cases c) (λ_=>bT ?_)
     apply ax L ?_
     show gR ?_
     dsimp only[bg,aN,bf,bP,bV,fg]
     rw[Qdq (show¬(("not":Str)="waits") by decide +kernel),Quq (!1)]
     apply bT ?_
     apply ax L ?_
     apply iq hi h g f n t ho l ?_
     apply ax L ?_
     show gR ?_
     dsimp only[bg,aN,bf,bP,bV,fg]
     rw[Qeq L,Qhq L]
     symm
     show eA ?_
     dsimp only[bg,aN,bf,bP,bV,fg]
     erw[pE] at q
     by_cases c:pE th wt t=0
     · rw[Qhq c] at q
       rw[Qeq c,Qhq L]
       symm
       show dh q
     · rw[Quq c] at q
       rw[Qdq c,Quq (!1)]
       symm
       show dh q
   | two o a b=>
     have k:a.dep<=n:=by erw[Tr.dep] at hd;omega
     have m:b.dep<=n:=by erw[Tr.dep] at hd;omega
     let#[p,r]:=F6 ho.1
     show aI<|bK<|cp (d:=.tup [.str o,a.d,b.d]) (aw L #[L,L]) L ?_
     show aG (λc=>by cases c) (λ_=>bT ?_)
     show aI<|bK<|cp (d:=.tup [.str o,a.d,b.d]) (aw L #[L,L]) L ?_
     apply aG (λc=>by cases c) (λ_=>bT ?_)
     apply ax L ?_
     show gR ?_
     dsimp only[bg,aN,bf,bP,bV,fg]
     rw[Qdq p,Quq (!1)]
     apply bT ?_
     apply ax L ?_
     apply iq hi h g f n a ho.2.1 k ?_
     apply ax L ?_
     show gR ?_
     dsimp only[bg,aN,bf,bP,bV,fg]
     rw[Qdq r,Quq (!1)]
     apply bT ?_
     apply ax L ?_
     apply ax L ?_
     apply iq hi h g f n b ho.2.2 m ?_
     show u4 ?_
     show dh q
end W28
namespace DL
open L2
def zo{l:List (Key×D)}(h:k∈l.map (·.1)):∃d,i7 l k=some d/\(k,d)∈l:=by
 unfold i7
 cases e:l.find? λb=>decide (b.1=k) with
 | none=>
   let#[p,a,rfl]:=Qkq.mp h
   have:=List.find?_eq_none.mp e p a
   simp at this
 | some p=>
   let f:=List.find?_some e
   let c:=List.mem_of_find?_eq_some e
   have g:p.1=k:=by simpa using f
   show#[p.2,L,by rw[<-g];show c]
def Cw(h:p∈putD l k v):p∈l\/p=(k,v):=by
 unfold putD at h
 split at h
 ·let#[q,a,e]:=Qkq.mp h
  split at e
  ·rename_i c
   rw[<-e,c]
   show .inr L
  ·rw[<-e]
   show .inl a
 ·rcases mQa.mp h with h|h
  ·show .inl h
  ·show .inr (Qfq.mp h)
def kH{l:List (Key×D)}(h:x=k\/x∈l.map (·.1)):x∈(putD l k v).map (·.1):=by
 unfold putD
 split
 ·rename_i c
  have a:∀p∈l,(if p.1=k then(p.1,v) else p).1=p.1:=λp _=>by split <;>rfl
  have e:(l.map λp=>if p.1=k then(p.1,v) else p).map (·.1)=l.map (·.1):=by
   rw[QPq]
   show List.map_congr_left a
  rw[e]
  rcases h with rfl|h
  ·let#[p,b,d]:=List.any_eq_true.mp c
   show Qkq.mpr #[p,b,by simpa using d]
  ·show h
 ·rw[Qzq]
  rcases h with rfl|h
  ·show Qoq _ (by simp)
  ·show List.mem_append_left _ h
theorem lV:∀{more l:List (Key×D)} {p:Key×D},p∈bE l more->p∈l\/p∈more
 | [],l,p,h=>.inl h
 | q::more,l,p,h=>by
   rcases lV (more:=more) (l:=putD l q.1 q.2) h with h|h
   · rcases Cw h with h|rfl
     · show .inl h
     · show .inr (QBq ..)
   · show .inr (Qpq _ h)
theorem fF:∀{more l:List (Key×D)} {x:Key},x∈l.map (·.1)\/x∈more.map (·.1)->x∈(bE l more).map (·.1)
 | [],l,x,h=>h.elim id λz=>by cases z
 | q::more,l,x,h=>by
   show fF (more:=more) (l:=putD l q.1 q.2) ?_
   rcases h with h|h
   · show .inl (kH<|.inr h)
   · rcases Qsq.mp h with rfl|h
     · show .inl (kH<|.inl L)
     · show .inr h
theorem vT:∀ss:List Str,Dm (ss.map D.str)=some (ss.map Sum.inr)
 | []=>rfl
 |s::ss=>by erw[QDq,Dm,yl,Qbq];rw[vT ss];rfl
def PM{S:aE}{Q:D->aE->Prop}(q:Q (.ref S.length) (S++ [.dct []])):E PZ b S Q:=#[_,_,L,q]
def G5{Q:D->aE->Prop}(h:E f b S λp a=>E g b a λr S2=>∃ss:List Str,p.1=ss.map D.str/\(p.2.stays S2 p.1/\p.1.length=r.1.length)/\Q (.ref S2.length) (S2++ [.dct (bE [] ((ss.map Sum.inr).zip r.1))])):E (Kq f g) b S Q:=by
 let#[p,a,c,r,S2,i,ss,e,d,q]:=h
 show#[_,_,?_,q]
 unfold Kq
 rw[c]
 erw[Qbq]
 rw[i]
 erw[Qbq]
 rw[Qhq d,e,vT]
 rfl
def Pp{Q:D->aE->Prop}(h:E f b S λx a=>E g b a λy S2=>∃k j c l m,x=.ref k/\y=.ref j/\k≠j/\a[k]?=some (.dct c)/\S2[k]?=some (.dct l)/\S2[j]?=some (.dct m)/\l.length+m.length<=sizeLine/\Q .non (S2.set k<|.dct (bE l m))):E (KR f g) b S Q:=by
 let#[x,a,d,y,S2,e,k,j,c,l,m,rfl,rfl,hn,h0,h1,h2,h3,q]:=h
 show#[_,_,by unfold KR;rw[d];erw[Qbq];rw[e];erw[Qbq];rw[Qhq hn];erw[h0,h1,h2];rw[Qhq h3],q]
def ON{Q:Out->Prop}(w:E h b S λd c=>E f b c λx S2=>E g b S2 λy a=>∃k l z,x=.ref k/\y=.str z/\a[k]?=some (.dct l)/\l.length<sizeLine/\Q (.nx b (a.set k<|.dct (putD l (.inr z) d)))):T (PC f g h) b S Q:=by
 let#[d,c,e,x,S2,j,y,a,i,k,l,z,rfl,rfl,h1,h2,q]:=w
 show#[_,by unfold PC;rw[e];erw[Qbq];rw[j];erw[Qbq];rw[i];erw[Qbq,h1,yl];rw[Qhq h2],q]
def QF(P:cG->Prop)(enc:α->D)(j:α->Str)(f:α->D)(H:P (qz js b)) (h:E i b S λp e=>∃xs:List α,p.1=xs.map enc/\p.2 e/\xs.length<=1000∧
   (∀x∈xs,∀d,P d->Tg g (enc x) d e λm S2=>S2=e/\P m/\E t m e λy C=>y=.str (j x)/\C=e/\E w m e λz F=>z=f x/\F=e)∧
   Q (.nx (b.set n (some (.ref e.length))) (e++ [.dct (bE [] (xs.map λx=>(Sum.inr (j x),f x)))]))):T (Pm n (sN js i g bQ t w)) b S Q:=by
 let#[#[U,W],e,M,xs,rfl,hW,hl,hs,q]:=h
 have I:∀(l:List (Key×D)) (k:Key) (v:D),(putD l k v).length<=l.length+1:=λl k v=>by
  unfold putD
  split <;>simp
 have R:∀(o:List α) (d:cG) (c:List (Key×D)),(∀y∈o,y∈xs)->P d->c.length+o.length<=1000->∃r,j8 g bQ t w W (o.map enc) d e c=some (r,e)/\r=bE c (o.map λx=>(Sum.inr<|j x,f x)):=by
  intro o
  induction o with
  |nil=>intro d c _ _ _;show#[c,by erw[List.map_nil,j8];rw[Qhq hW],rfl]
  | cons a o N=>
    intro d c B J s
    let#[m,S2,u,rfl,hp1,y,C,e3,rfl,rfl,z,F,e4,rfl,rfl]:=hs a (B a<|QBq ..) d J
    let A:=I c (Sum.inr<|j a) (f a)
    erw[Qnq] at s
    let#[r,G,L]:=N m (putD c (Sum.inr<|j a)<|f a) (λy K=>B y<|Qpq _ K) hp1 (!0)
    show#[r,?_,L]
    erw[QDq,j8]
    rw[Qhq hW,u]
    erw[Qbq,bQ,if_true]
    rw[e3]
    erw[Qbq]
    rw[e4]
    erw[Qbq,yl]
    rw[Qhq (bj (!0))]
    show G
 let#[r,u,rfl]:=R xs _ [] (λ_ h=>h) H (by simpa using hl)
 show#[_,by unfold Pm sN;rw[M];erw[Qbq];rw[u];rfl,q]
def Jx{Q:(List D×(aE->Prop))->aE->Prop}(h:E f a S λp b=>E g a b λr S2=>(p.2.stays S2 p.1/\p.1.length<=r.1.length)/\Q (Ck p.1 r.1,λS=>p.2.stays S p.1/\r.2.stays S r.1) S2):E (J2 f g) a S Q:=by
 let#[p,b,c,r,S2,e,d,q]:=h
 show#[_,S2,by unfold J2;rw[c];erw[Qbq];rw[e];erw[Qbq];rw[Qhq d],q]
def jE(l:List (Key×D)):Prop:=∀p∈l,∃v:Int,p.2=.int v/\0<=v/\v<=9
def jE.merge(c:jE l)(b:jE m):jE (bE l m):=λp a=>(lV a).elim (c p) (b p)
def jE.put(h:jE l)(c:0<=v)(b:v<=9):jE (putD l k<|.int v):=λp a=>by
 rcases Cw a with a|rfl
 ·show h p a
 ·show#[v,L,c,b]
def numAt(l:List (Key×D))(x:Str):Int:=match i7 l (.inr x) with|some (.int v)=>v|_=>0
def iC(h:jE l)(i:(Sum.inr x:Key)∈l.map (·.1)):i7 l (.inr x)=some (.int (numAt l x))/\0<=numAt l x/\numAt l x<=9:=by
 let#[d,b,c]:=zo i
 let#[v,a,f,g]:=h _ c
 have a:d=.int v:=a
 subst a
 have e:numAt l x=v:=by unfold numAt;rw[b]
 rw[e]
 show#[b,f,g]
def JQ{ss:X6}{vs:List Int}(h:∀v∈vs,0<=v/\v<=9):jE ((ss.map (Sum.inr:Str->Key)).zip (vs.map D.int)):=λp a=>by
 have c:p.2∈vs.map D.int:=(QeQ (show(p.1,p.2)∈_ from a)).2
 let#[v,b,e]:=Qkq.mp c
 show#[v,e.symm,h v b]
def IG{ss:X6}{ds:List D}(h:ss.length=ds.length):((ss.map (Sum.inr:Str->Key)).zip ds).map (·.1)=ss.map Sum.inr:=by
 rw[List.map_fst_zip]
 simpa using Nat.le_of_eq h
end DL
namespace W28
open L2 DL
def eM(ts:List (Str×Nat))(vs:List Int):List (Key×D):=bE [] (((ts.map (·.1)).map Sum.inr).zip (vs.map D.int))
def rQ(w:cT)(s:bq)(ts:List (Str×Nat))(vs:List Int):List (Key×D):=bE (eM w.ak s.ak) (eM ts vs)
def iT(r:Rm)(rs:dv)(a:Int):List (Key×D):=putD (eM r.ao rs.vals) (.inr "given") (.int a)
def yQ(r:Rm)(rs:dv):List (Key×D):=bE [] ((r.aa.zip rs.aa).map λp=>(Sum.inr p.1.1,D.int (p.2.length:Nat)))
def eF(h:∀v∈vs,0<=v/\v<=9):jE (eM ts vs):=jE.merge (λp a=>by cases a) (JQ h)
def dH{ts:List (Str×Nat)}{vs:List Int}(a:ts.length=vs.length)(h:x∈ts.map (·.1)):(Sum.inr x:Key)∈(eM ts vs).map (·.1):=by
 show fF<|.inr ?_
 rw[IG (by simpa using a)]
 show Qkq.mpr #[x,h,L]
structure sk(S S':aE):Prop where
 len:S.length<=S'.length
 eq:∀j,j<S.length->S'[j]?=S[j]?
def sk.refl:sk S S:=#[Qmq _,λ_ _=>rfl]
def sk.app(x:sk S a):sk S (a++G):=#[by rw[lQa];have:=x.len;omega,λj b=>by rw[QHq (by have:=x.len;omega)];show x.eq j b]
def sk.put(x:sk S a)(c:S.length<=r):sk S (a.set r o):=#[by simpa using x.len,λj b=>by rw[QKq (!0)];show x.eq j b]
def uU{Q:Res->aE->Prop}(x:sk S a)(c:∀k,d≠.ref k)(g:cA 0 d=true)(q:Q (.d d) S):Op (settle S d a) λp=>Q p.1 p.2:=by
 show jc #[x.len,λk o f e=>.inl (by rw[<-x.eq k f];show e)] ?_ c (dR g) q
 apply List.ext_getElem?
 intro j
 by_cases b:j<S.length
 ·rw[List.getElem?_take_of_lt b]
  show x.eq j b
 ·rw[List.getElem?_eq_none (by rw[Qxq];omega),List.getElem?_eq_none (!0)]
def iY:∀a:Str×Nat,∃r,kZ a=.tup (.str a.1::r):=λa=>#[_,L]
def Fx:∀a:Str×Str,∃r,AI a=.tup (.str a.1::r):=λa=>#[_,L]
theorem pU:∀{m l:List (Key×D)},(bE l m).length<=l.length+m.length
 | [],l=>Qmq _
 | q::m,l=>by
   have a:(bE (putD l q.1 q.2) m).length<=(putD l q.1 q.2).length+m.length:=pU
   have b:(putD l q.1 q.2).length<=l.length+1:=by unfold putD;split <;>simp
   show(bE (putD l q.1 q.2) m).length<=_
   erw[Qnq]
   omega
def wa:(eM ts vs).length<=ts.length:=by
 show QAq pU ?_
 erw[QGq,List.length_zip,lQm]
 omega
def Bj{S:aE}{Q:Res->aE->Prop}{w:cT}{s:bq}{h:Nat}{ts:List (Str×Nat)}{pr:List Rw}{vs:List Int}{fs:List cB}{f:cB}{t:Tr}(B:w.af[h]?=some (ts,pr))(n:s.af[h]?=some (vs,fs))(C:fs.getLast? =some f)(H:f.room= -1)
  (p:w.ak.length=s.ak.length) (r:ts.length=vs.length) (K:w.ak.length<=100) (N:ts.length<=100) (A:∀v∈s.ak,0<=v/\v<=9) (I:∀v∈vs,0<=v/\v<=9)
  (F:t.Ok (ts.map (·.1)++w.ak.map (·.1)) []) (u:t.dep<=6) (q:Q (.d (.int (pE (numAt<|rQ w s ts vs) (λ_=>0) t))) S):Fn eG [w.d,s.d,.int h,t.d] S Q:=by
 have c:jE (rQ w s ts vs):=jE.merge (eF A) (eF I)
 show bZ ?_
 unfold oI
 symm
 apply cz n C ?_
 apply ax (d:=.int f.room) rfl ?_
 show eA ?_
 dsimp only[bg,aN,bf,bP,bV,fg]
 rw[Qeq H,Qhq rfl]
 symm
 apply G5 ?_
 apply ax rfl ?_
 apply gB (enc:=kZ) (nm:=(·.1)) iY (!0) ?_
 show ax rfl ?_
 show cE (ds:=s.ak.map D.int) ?_
 show#[_,rfl,#[trivial,by erw[lQm];show p],?_]
 dsimp only[bg,aN,bf,bP,bV,fg]
 rw[show bE [] (((w.ak.map (·.1)).map (Sum.inr:Str->Key)).zip (s.ak.map D.int))=eM w.ak s.ak from rfl]
 apply aI<|c9<|Pp ?_
 apply G5 ?_
 apply ax rfl ?_
 show ax (d:=fw (ts,pr)) (aU (by rw[gQm,B];rfl)) ?_
 symm
 apply ax rfl ?_
 apply gB (enc:=kZ) (nm:=(·.1)) iY (!0) ?_
 apply ax rfl ?_
 show ax (d:=uh (vs,fs)) (aU (by rw[gQm,n];rfl)) ?_
 symm
 show ax rfl ?_
 show cE (ds:=vs.map D.int) ?_
 show#[_,rfl,#[trivial,by erw[lQm];show r],?_]
 dsimp only[bg,aN,bf,bP,bV,fg]
 rw[show bE [] (((ts.map (·.1)).map (Sum.inr:Str->Key)).zip (vs.map D.int))=eM ts vs from rfl]
 have e:(S++ [O.dct (eM w.ak s.ak)])[S.length]?=some (.dct (eM w.ak s.ak)):=aM
 have i:(S++ [O.dct (eM w.ak s.ak)]).length=S.length+1:=by simp
 have J:sk S (S++ [O.dct (eM w.ak s.ak)]):=sk.refl.app
 show∃k j G l m,D.ref S.length=.ref k/\D.ref (S++ [O.dct (eM w.ak s.ak)]).length=.ref j/\k≠j/\(S++ [O.dct (eM w.ak s.ak)])[k]?=some (.dct G)/\(S++ [O.dct (eM w.ak s.ak)]++ [O.dct (eM ts vs)])[k]?=some (.dct l)/\(S++ [O.dct (eM w.ak s.ak)]++ [O.dct (eM ts vs)])[j]?=some (.dct m)/\_
 show#[_,_,_,_,_,rfl,rfl,by omega,e,aO e,aM,?_,?_]
 ·let M:=wa (ts:=w.ak) (vs:=s.ak)
  let L:=wa (ts:=ts) (vs:=vs)
  show nQl<|bj (!0)
 have g:((S++ [O.dct (eM w.ak s.ak)]++ [O.dct (eM ts vs)]).set S.length (.dct (bE (eM w.ak s.ak)<|eM ts vs)))[S.length]?=some (.dct (rQ w s ts vs)):=cZ (aO e)
 have o:sk S ((S++ [O.dct (eM w.ak s.ak)]++ [O.dct (eM ts vs)]).set S.length (.dct (bE (eM w.ak s.ak)<|eM ts vs))):=J.app.put (Qmq _)
 generalize ((S++ [O.dct (eM w.ak s.ak)]++ [O.dct (eM ts vs)]).set S.length (.dct (bE (eM w.ak s.ak)<|eM ts vs)))=S2 at g o|-
 symm
 apply PM ?_
 show iq (th:=numAt (rQ w s ts vs)) (wt:=λ_=>0) (ws:=ts.map (·.1)++w.ak.map (·.1)) (bs:= []) (aO g) aM (λx a=>?_) (λb y=>by cases y) 6 t F u ?_
 ·show(iC c ?_).1
  show fF ?_
  rcases mQa.mp a with a|a
  ·show .inr (dH r a)
  ·show .inl (dH p a)
 ·show uU o.app (λk z=>(nomatch z)) rfl q
theorem BN:∀(bs:List (Str×Str)) (a:List (List (Int×Int))),Ck ((bs.map (·.1)).map D.str) (a.map fD)=(bs.zip a).map λp=>D.tup [.str p.1.1,fD p.2]
 | [],_=>rfl
 |_::_,[]=>rfl
 | b::bs,l::a=>by
   have:=BN bs a
   erw[Ck,QDq,List.zipWith_cons_cons,List.zip_cons_cons] at this|-
   rw[this]
def uB(r:Rm)(rs:dv)(x:Str):Int:=numAt (yQ r rs) x
def CT{r:Rm}{rs:dv}(k:r.aa.length=rs.aa.length)(h:x∈r.aa.map (·.1)):i7 (yQ r rs) (.inr x)=some (.int (uB r rs x)):=by
 have f:(Sum.inr x:Key)∈(yQ r rs).map (·.1):=by
  show fF<|.inr ?_
  rw[QPq]
  let#[b,j,rfl]:=Qkq.mp h
  let#[i,c,e]:=QbQ j
  show Qkq.mpr #[(b,rs.aa[i]'(!0)),?_,L]
  rw[<-e]
  have:(r.aa.zip rs.aa)[i]?=some (r.aa[i],rs.aa[i]'(!0)):=by
   rw[List.getElem?_zip_eq_some]
   show#[gQe c,gQe (!0)]
  show mQg this
 let#[d,g,a]:=zo f
 have c:∃v:Int,d=.int v:=by
  rcases lV a with a|a
  ·cases a
  ·let#[p,_,e]:=Qkq.mp a
   show#[_,(congrArg (·.2) e).symm]
 let#[v,rfl]:=c
 unfold uB DL.numAt
 rw[g]
def xX{S:aE}{Q:Res->aE->Prop}{w:cT}{s:bq}{h i:Nat}{vs:List Int}{fs:List cB}{f:cB}{r:Rm}{rs:dv}{t:Tr}(I:s.af[h]?=some (vs,fs))(F:fs.getLast? =some f)(H:f.room=i)(n:w.aj[i]?=some r)(c:s.aj[i]?=some rs)
  (y:r.ao.length=rs.vals.length) (J:r.aa.length=rs.aa.length) (L:r.ao.length<=100) (N:r.aa.length<=100) (C:∀v∈rs.vals,0<=v/\v<=9) (o:0<=f.given/\f.given<=9)
  (G:t.Ok (r.ao.map (·.1)++fS) (r.aa.map (·.1))) (A:t.dep<=6) (q:Q (.d (.int (pE (numAt<|iT r rs f.given) (uB r rs) t))) S):Fn eG [w.d,s.d,.int h,t.d] S Q:=by
 have g:jE (iT r rs f.given):=(eF C).put o.1 o.2
 show bZ ?_
 unfold oI
 symm
 apply cz I F ?_
 apply ax (d:=.int f.room) rfl ?_
 show eA ?_
 dsimp only[bg,aN,bf,bP,bV,fg]
 rw[Qdq (show¬f.room= -1 by omega),Quq (!1),H]
 apply bT ?_
 apply G5 ?_
 apply ax rfl ?_
 show ax (d:=r.d) (aU (by rw[gQm,n];rfl)) ?_
 symm
 apply ax rfl ?_
 apply gB (enc:=kZ) (nm:=(·.1)) iY (!0) ?_
 apply ax rfl ?_
 show ax (d:=rs.d) (aU (by rw[gQm,c];rfl)) ?_
 symm
 show ax rfl ?_
 show cE (ds:=rs.vals.map D.int) ?_
 show#[_,rfl,#[trivial,by erw[lQm];show y],?_]
 dsimp only[bg,aN,bf,bP,bV,fg]
 rw[show bE [] (((r.ao.map (·.1)).map (Sum.inr:Str->Key)).zip (rs.vals.map D.int))=eM r.ao rs.vals from rfl]
 have K:sk S (S++ [O.dct (eM r.ao rs.vals)]):=sk.refl.app
 apply aI<|ON ?_
 apply ax (d:=.int f.given) rfl ?_
 show#[_,_,_,rfl,rfl,aM,bj (by have:=wa (ts:=r.ao) (vs:=rs.vals);omega),?_]
 have m:((S++ [O.dct (eM r.ao rs.vals)]).set S.length (.dct (putD (eM r.ao rs.vals) (.inr "given")<|.int f.given)))[S.length]?=some (.dct (iT r rs f.given)):=cZ aM
 have u:sk S ((S++ [O.dct (eM r.ao rs.vals)]).set S.length (.dct (putD (eM r.ao rs.vals) (.inr "given")<|.int f.given))):=K.put (Qmq _)
 generalize ((S++ [O.dct (eM r.ao rs.vals)]).set S.length (.dct (putD (eM r.ao rs.vals) (.inr "given")<|.int f.given)))=S2 at m u|-
 apply aI<|QF (α:=(Str×Str)×List (Int×Int)) (λj=>∃a b,j= [a,b]) (λp=>D.tup [.str p.1.1,fD p.2]) (λp=>p.1.1) (λp=>.int (p.2.length:Nat)) #[none,none,rfl]<|Jx ?_
 apply ax rfl ?_
 show ax (d:=r.d) (aU (by rw[gQm,n];rfl)) ?_
 symm
 apply ax rfl ?_
 apply gB (enc:=AI) (nm:=(·.1)) Fx (!0) ?_
 apply ax rfl ?_
 show ax (d:=rs.d) (aU (by rw[gQm,c];rfl)) ?_
 symm
 show ax rfl ?_
 show cE (ds:=rs.aa.map fD) ?_
 show#[#[trivial,by erw[lQm];omega],r.aa.zip rs.aa,BN _ _,#[trivial,trivial],by rw[List.length_zip];omega,λp M j l=>?_,?_]
 ·let#[a,b,rfl]:=l
  show fN rfl<|ay<|aS<|ay<|aS<|bu ?_
  apply#[rfl,#[_,_,rfl],?_]
  apply#[rfl,rfl,?_]
  show cE (ds:=p.2.map pairD) ?_
  show#[by simp,rfl]
 symm
 show iq (th:=numAt (iT r rs f.given)) (wt:=uB r rs) (ws:=r.ao.map (·.1)++fS) (bs:=r.aa.map (·.1)) (kws:=yQ r rs) (aO m) aM (λx e=>?_) (λb B=>CT J B) 6 t G A ?_
 ·show(iC g ?_).1
  show kH ?_
  rcases mQa.mp e with e|e
  ·show .inr (dH y e)
  ·left
   rw[Qfq.mp e]
 ·show uU u.app (λk z=>(nomatch z)) rfl q
end W28
namespace DL
open L2
def xV{Q:D->aE->Prop}(h:E f b S λx c=>E g b c λp S2=>∃v vs,xT x=some v/\kF p.1=some vs/\Q (.bl (if a then !HU v vs else HU v vs)) S2):E (Bt a f g) b S Q:=by
 let#[x,c,d,p,S2,j,v,vs,i,e,q]:=h
 show#[_,S2,by unfold Bt;rw[d];erw[Qbq];rw[j];erw[Qbq];rw[i,e];rfl,q]
def AJ{ss:X6}:HU (.str x) (ss.map V.str)=decide (x∈ss):=by
 induction ss with
 |nil=>rfl
 | cons a ss b=>
   show(uY (.str a) (.str x)||HU (.str x) (ss.map V.str))=_
   rw[b]
   erw[uY,Qsq]
   by_cases c:a=x
   · subst c;simp
   · have d:¬x=a:=λz=>c z.symm
     simp[c,d]
end DL
namespace W28
open L2 DL
def eU(ns:X6)(vs:List Int)(x:Str)(v:Int):List Int:=vs.set ((rq (.str x)<|ns.map V.str).getD 0) v
def rC{Q:Res->aE->Prop}{enc:α->D}{nm:α->Str}{xs:List α}(he:∀a,∃r,enc a=.tup (.str (nm a)::r))(g:xs.length<=1000)(h:x∈xs.map nm)(q:((rq (.str x) ((xs.map nm).map V.str)).getD 0)<xs.length->Q (.d (.int ((rq (.str x) ((xs.map nm).map V.str)).getD 0:Nat))) S):Fn dI [.tup (xs.map enc),.str x] S Q:=by
 show bZ ?_
 unfold sy
 let#[j,e,f]:=vo h
 have l:j<xs.length:=by have:=(gQs.mp f).1;simpa using this
 rw[e] at q
 show fA ?_
 have c:E (gU<|dN fo<|aq (ar 0) av) ([D.tup (xs.map enc),D.str x].map some++List.replicate (2- [D.tup (xs.map enc),D.str x].length) none) S λp b=>p=((xs.map nm).map D.str,.fr)/\b=S:=by
  symm
  show gB he g #[L,L]
 let#[p,b,i,rfl,rfl]:=c
 show#[.int j,b,?_,cQ (λk z=>(nomatch z)) L<|q l]
 unfold J6
 rw[i]
 erw[Qbq]
 rw[Qhq (show Tag.fr.isL=true from L)]
 show((ar 1 _ b).bind _)=_
 rw[show ar 1 ([D.tup (xs.map enc),D.str x].map some++List.replicate (2- [D.tup (xs.map enc),D.str x].length) none) b=some (.str x,b) from L]
 erw[Qbq]
 rw[Qhq (show Tag.stays b _ .fr from trivial)]
 show(xT<|.str x).bind _=_
 erw[xT,Qbq]
 rw[hZ]
 erw[Qbq]
 rw[e]
 rfl
def Ke{S:aE}{Q:Res->aE->Prop}{w:cT}{s:bq}{h i:Nat}{vs:List Int}{fs:List cB}{f:cB}{r:Rm}{rs:dv}{x:Str}{v:Int}(j:s.af[h]?=some (vs,fs))(c:fs.getLast? =some f)(g:f.room=i)(b:w.aj[i]?=some r)(a:s.aj[i]?=some rs)
  (o:r.ao.length=rs.vals.length) (l:r.ao.length<=100) (m:s.aj.length<=100) (k:x∈r.ao.map (·.1))
  (q:Q (.d ({s with aj:=s.aj.set i {rs with vals:=eU (r.ao.map (·.1)) rs.vals x v}}:bq).d) S):Fn fY [w.d,s.d,.int h,.str x,.int v] S Q:=by
 show bZ ?_
 unfold mj
 symm
 apply cz j c ?_
 apply ax (d:=.int f.room) L ?_
 show nh ?_
 dsimp only[bg,aN,bf,bP,bV,fg]
 rw[Qdq (show¬f.room= -1 by omega),g]
 show if (true=true) then _ else _
 rw[Qhq L]
 symm
 apply ax L ?_
 show ax (d:=r.d) (aU (by rw[gQm,b];rfl)) ?_
 symm
 apply ax L ?_
 apply rC (enc:=kZ) (nm:=(·.1)) iY (!0) k λn=>?_
 apply ax L ?_
 show ax (d:=rs.d) (aU (by rw[gQm,a];rfl)) ?_
 symm
 apply ax L ?_
 show eZ (xs:=rs.vals.map D.int) (by rw[lQm];omega) (by rw[lQm];omega) (bo λ_ _=>rfl) L ?_
 symm
 show#[by show 1<=_;decide,?_]
 apply kJ ?_
 apply ax L ?_
 show ax (d:=rs.d) (aU (by rw[gQm,a];rfl)) ?_
 apply cV ?_
 show#[_,L,cW #[_,L,?_]]
 show eI (by show 5<=_;decide) ?_
 symm
 have e:({rs with vals:=eU (r.ao.map (·.1)) rs.vals x v}:dv).d=.tup ([.tup ((rs.vals.map D.int).set ((rq (.str x) ((r.ao.map (·.1)).map V.str)).getD 0) (.int v))]++jF [dm rs.vals,.int rs.within,dm rs.row,dm rs.ag,.tup (rs.aa.map fD)] (some 1) none):=by
  show D.tup [dm (eU _ _ _ _),_,_,_,_]=_
  unfold eU dm
  rw[map_set]
  rfl
 rw[<-e]
 show dQ (gQs.mp a).1 (!0) ?_
 show cQ (bc _) (bq.low _) q
def nF(w:cT)(s:bq)(h:Nat)(ts:List (Str×Nat))(vs:List Int)(fs:List cB)(x:Str)(v:Int):bq:=
 if x∈w.ak.map (·.1) then{s with ak:=eU (w.ak.map (·.1)) s.ak x v} else{s with af:=s.af.set h (eU (ts.map (·.1)) vs x v,fs)}
def Kz{Q:Res->aE->Prop}{w:cT}{s:bq}(g:w.af[h]?=some (ts,pr))(b:s.af[h]?=some (vs,fs))(i:fs.getLast? =some f)(k:f.room= -1)
  (u:w.ak.length=s.ak.length) (y:ts.length=vs.length) (o:w.ak.length<=100) (t:ts.length<=100) (r:s.af.length<=100) (l:x∈ts.map (·.1)++w.ak.map (·.1))
  (q:Q (.d (nF w s h ts vs fs x v).d) S):Fn fY [w.d,s.d,.int h,.str x,.int v] S Q:=by
 show bZ ?_
 unfold mj
 symm
 apply cz b i ?_
 apply ax (d:=.int f.room) L ?_
 show nh ?_
 dsimp only[bg,aN,bf,bP,bV,fg]
 rw[Qeq k]
 show aG (λc=>by cases c) (λ_=>bT ?_)
 apply aI<|bK<|cm<|xV ?_
 apply ax L ?_
 apply gB (enc:=kZ) (nm:=(·.1)) iY (!0) ?_
 show#[_,_,L,hZ _,?_]
 unfold nF at q
 show if HU (.str x) ((w.ak.map (·.1)).map V.str)=true then _ else _
 rw[AJ]
 by_cases c:x∈w.ak.map (·.1)
 ·rw[Qhq c] at q
  rw[Qeq c,Qhq L]
  symm
  apply ax L ?_
  apply ax L ?_
  apply rC (enc:=kZ) (nm:=(·.1)) iY (!0) c λm=>?_
  show eZ (xs:=s.ak.map D.int) (by rw[lQm];omega) (by rw[lQm];omega) (bo λ_ _=>rfl) L ?_
  symm
  apply ax L ?_
  apply ax L ?_
  apply ax L ?_
  show#[by show 4<=_;decide,?_]
  rw[<-map_set]
  show cQ (d:=({s with ak:=eU (w.ak.map (·.1)) s.ak x v}:bq).d) (bc _) (bq.low _) q
 ·rw[Quq c] at q
  rw[Qdq c,Quq (!1)]
  show bT ?_
  have a:x∈ts.map (·.1):=(mQa.mp l).resolve_right c
  symm
  apply ax L ?_
  show ax (d:=uh (vs,fs)) (aU (by rw[gQm,b];rfl)) ?_
  apply fN L<|ay<|aS<|ay<|aS<|bu ?_
  apply ax L ?_
  show ax (d:=fw (ts,pr)) (aU (by rw[gQm,g];rfl)) ?_
  symm
  apply ax L ?_
  apply rC (enc:=kZ) (nm:=(·.1)) iY (!0) a λm=>?_
  show eZ (xs:=vs.map D.int) (by rw[lQm];omega) (by rw[lQm];omega) (bo λ_ _=>rfl) L ?_
  symm
  rw[<-map_set]
  rw[show D.tup ((vs.set ((rq (.str x) ((ts.map (·.1)).map V.str)).getD 0) v).map D.int)=dm (eU (ts.map (·.1)) vs x v) from L]
  generalize eU (ts.map (·.1)) vs x v=nv at q|-
  have j:h<s.af.length:=(gQs.mp b).1
  have e:s.af.length<=900:=by omega
  have n:Op (settle S ({s with af:=s.af.set h (nv,fs)}:bq).d S) λp=>Q p.1 p.2:=cQ (bc _) (bq.low _) q
  show iZ j e n
def c7(ns:X6)(x:Str):Nat:=(rq (.str x)<|ns.map V.str).getD 0
def iG(h:x∈ns):c7 ns x<ns.length/\ns[c7 ns x]?=some x:=by
 let#[j,b,a]:=vo h
 unfold c7
 rw[b]
 show#[(gQs.mp a).1,a]
def kX{Q:Res->aE->Prop}{enc:α->D}{nm:α->Str}{xs:List α}(he:∀a,∃r,enc a=.tup (.str (nm a)::r))(b:xs.length<=1000)(c:x∈xs.map nm)(q:Q (.d (.int (c7 (xs.map nm) x:Nat))) S):Fn dI [.tup (xs.map enc),.str x] S Q:=rC he b c λ_=>q
def p8{S:aE}{Q:Res->aE->Prop}{w:cT}{s:bq}{h i:Nat}{vs:List Int}{fs:List cB}{f:cB}{r:Rm}{x:Str}(e:s.af[h]?=some (vs,fs))(b:fs.getLast? =some f)(c:f.room=i)(a:w.aj[i]?=some r)(j:r.aa.length<=100)(g:x∈r.aa.map (·.1))
  (q:Q (.d (.tup [.int i,.int (c7 (r.aa.map (·.1)) x:Nat)])) S):Fn kC [w.d,s.d,.int h,.str x] S Q:=by
 show bZ ?_
 unfold xK
 symm
 apply cz e b ?_
 show ax (d:=.int f.room) L ?_
 rw[c]
 symm
 apply ax L ?_
 show ax (d:=r.d) (aU (by rw[gQm,a];rfl)) ?_
 symm
 apply ax L ?_
 apply kX (enc:=AI) (nm:=(·.1)) Fx (!0) g ?_
 show#[by show 2<=_;decide,?_]
 show cQ (λk z=>(nomatch z)) L q
def lT{S:aE}{Q:Res->aE->Prop}{s:bq}{i b:Nat}{rs:dv}{l:List (Int×Int)}(a:s.aj[i]?=some rs)(k:b<rs.aa.length)(j:rs.aa.length<=100)(m:s.aj.length<=100)
  (q:Q (.d ({s with aj:=s.aj.set i {rs with aa:=rs.aa.set b l}}:bq).d) S):Fn gf [s.d,.int i,.int b,fD l] S Q:=by
 show bZ ?_
 unfold p0
 symm
 apply ax L ?_
 show ax (d:=rs.d) (aU (by rw[gQm,a];rfl)) ?_
 symm
 apply kJ ?_
 apply cW<|cV ?_
 apply#[_,L,_,L,?_]
 apply ax L ?_
 show eZ (xs:=rs.aa.map fD) (by rw[lQm];omega) (by rw[lQm];omega) (bo λl _=>xJ l) (xJ l) ?_
 symm
 show#[by show 1<=_;decide,?_]
 show eI (by show 5<=_;decide) ?_
 symm
 rw[<-map_set]
 generalize g:rs.aa.set b l=nb at q|-
 have e:({rs with aa:=nb}:dv).d=.tup (jF [dm rs.vals,.int rs.within,dm rs.row,dm rs.ag,.tup (rs.aa.map fD)] none (some 4)++ [.tup (nb.map fD)]):=rfl
 rw[<-e]
 have f:i<s.aj.length:=(gQs.mp a).1
 have c:s.aj.length<=900:=by omega
 have h:Op (settle S ({s with aj:=s.aj.set i {rs with aa:=nb}}:bq).d S) λp=>Q p.1 p.2:=cQ (bc _) (bq.low _) q
 show dQ f c h
noncomputable def gS(p:Int×List Int)(h:Int):Int×List Int:=if 0<p.1 then(p.1-1,p.2) else(p.1,p.2++ [h])
noncomputable def fj(p:Int×List Int):Int×List Int:=match p.2 with
 |_::l=>(p.1,l)
 | []=>(if 9<p.1+1 then 9 else p.1+1,[])
def C2{Q:Res->aE->Prop}{w:cT}{s:bq}(i:x∈w.ai.map (·.1))(b:s.ai[c7 (w.ai.map (·.1)) x]?=some p)(k:w.ai.length<=100)(l:s.ai.length<=100)(m:p.2.length<=900)
  (q:Q (.d ({s with ai:=s.ai.set (c7 (w.ai.map (·.1)) x) (gS p h)}:bq).d) S):Fn xA [w.d,s.d,.int h,.str x] S Q:=by
 show bZ ?_
 unfold Ec
 symm
 apply ax L ?_
 show kX (enc:=kZ) (nm:=(·.1)) iY (!0) i ?_
 generalize c7 (w.ai.map (·.1)) x=j at b q|-
 have f:j<s.ai.length:=(gQs.mp b).1
 have g:s.ai.length<=900:=by omega
 symm
 apply ax L ?_
 show ax (d:=Dy p) (aU (by rw[gQm,b];rfl)) ?_
 show fN L<|ay<|aS<|ay<|aS<|bu ?_
 have a:Op (settle S ({s with ai:=s.ai.set j (gS p h)}:bq).d S) λp=>Q p.1 p.2:=cQ (bc _) (bq.low _) q
 unfold gS at a
 symm
 by_cases c:0<p.1
 ·rw[Qhq c] at a
  rw[Qeq c,Qhq L]
  symm
  show#[by show 2<=_;decide,?_]
  symm
  show i4 (p:=(p.1-1,p.2)) f g a
 ·rw[Quq c] at a
  rw[Qdq c,Quq (!1)]
  apply bT ?_
  show#[by show 1<=_;decide,?_]
  show eI (by erw[lQm,Qnq,QGq];show nQl (bj (!0))) ?_
  symm
  show#[by show 2<=_;decide,?_]
  symm
  have e:D.tup [.int p.1,.tup (p.2.map D.int++ [.int h])]=Dy (p.1,p.2++ [h]):=by simp[Dy,dm]
  rw[e]
  show i4 f g a
def pq{Q:Res->aE->Prop}{w:cT}{s:bq}(k:x∈w.ai.map (·.1))(b:s.ai[c7 (w.ai.map (·.1)) x]?=some p)(m:w.ai.length<=100)(n:s.ai.length<=100)
  (q:Q (.d ({s with ai:=s.ai.set (c7 (w.ai.map (·.1)) x) (fj p)}:bq).d) S):Fn ik [w.d,s.d,.str x] S Q:=by
 show bZ ?_
 unfold nz
 symm
 apply ax L ?_
 show kX (enc:=kZ) (nm:=(·.1)) iY (!0) k ?_
 generalize c7 (w.ai.map (·.1)) x=j at b q|-
 have h:j<s.ai.length:=(gQs.mp b).1
 have g:s.ai.length<=900:=by omega
 symm
 apply ax L ?_
 show ax (d:=Dy p) (aU (by rw[gQm,b];rfl)) ?_
 show fN L<|ay<|aS<|ay<|aS<|bu ?_
 have i:Op (settle S ({s with ai:=s.ai.set j (fj p)}:bq).d S) λp=>Q p.1 p.2:=cQ (bc _) (bq.low _) q
 let#[v,f]:=p
 symm
 show zF ?_
 cases f with
 | cons a l=>
   apply aG (λ_=>?_) (λc=>by cases c)
   apply kJ ?_
   apply cV ?_
   apply⟨_,L,cW ⟨_,L,?_⟩⟩
   show⟨by show 2<=_;decide,?_⟩
   symm
   have e:D.tup (jF ((a::l).map D.int) (some 1) none)=dm l:=by
     rw[show(some (1:Int))=some ((1:Nat):Int) from L,jw (by simp)]
     rfl
   rw[e]
   show i4 (p:=(v,l)) h g i
 | nil=>
   apply aG (λc=>by cases c) (λ_=>bT ?_)
   apply BV ?_
   show⟨by show 2<=_;decide,?_⟩
   symm
   show i4 (p:=(if 9<v+1 then 9 else v+1,[])) h g i
def GO{Q:Res->aE->Prop}{c sd a b:D}{s:bq}(q:Q (.d s.d) S):Fn vw [c,s.d,a,b] S Q:=by
 show bZ ?_
 unfold zM
 symm
 show cQ (bc _) (bq.low _) q
def JS{Q:Res->aE->Prop}{s:bq}(c:s.af[h]?=some (vs,fs))(b:fs.getLast? =some f)(e:fs.length<=900)(a:s.af.length<=900)(q:Q (.d ({s with af:=s.af.set h (vs,fs.dropLast++ [{f with row:=n}])}:bq).d) S):Fn zR [g,s.d,.int h,(Rw.go n).d] S Q:=by
 show bZ ?_
 unfold DF
 symm
 apply ax (d:=.int n) L ?_
 have i:Op (settle S ({s with af:=s.af.set h (vs,fs.dropLast++ [{f with row:=n}])}:bq).d S) λp=>Q p.1 p.2:=cQ (bc _) (bq.low _) q
 show tW c b e a i
def Eh{Q:Res->aE->Prop}{w:cT}{s:bq}(g:x∈w.ai.map (·.1))(a:s.ai[c7 (w.ai.map (·.1)) x]?=some p)(b:w.ai.length<=100)(c:s.ai.length<=100)(e:p.2.length<=900)
  (q:Q (.d ({s with ai:=s.ai.set (c7 (w.ai.map (·.1)) x) (gS p h)}:bq).d) S):Fn q0 [w.d,s.d,.int h,(Rw.take x).d] S Q:=by
 show bZ ?_
 unfold wg
 symm
 apply ax (d:=.str x) L ?_
 have f:Op (settle S ({s with ai:=s.ai.set (c7 (w.ai.map (·.1)) x) (gS p h)}:bq).d S) λp=>Q p.1 p.2:=cQ (bc _) (bq.low _) q
 show C2 g a b c e f
def DT{Q:Res->aE->Prop}{w:cT}{s:bq}(g:x∈w.ai.map (·.1))(b:s.ai[c7 (w.ai.map (·.1)) x]?=some p)(c:w.ai.length<=100)(e:s.ai.length<=100)
  (q:Q (.d ({s with ai:=s.ai.set (c7 (w.ai.map (·.1)) x) (fj p)}:bq).d) S):Fn rK [w.d,s.d,a,(Rw.give x).d] S Q:=by
 show bZ ?_
 unfold xu
 symm
 apply ax (d:=.str x) L ?_
 have f:Op (settle S ({s with ai:=s.ai.set (c7 (w.ai.map (·.1)) x) (fj p)}:bq).d S) λp=>Q p.1 p.2:=cQ (bc _) (bq.low _) q
 show pq g b c e f
def EY(w:cT)(s:bq)(h:Nat)(t:Tr)(v:Int):Prop:=∀(S:aE) (Q:Res->aE->Prop),Q (.d (.int v)) S->Fn eG [w.d,s.d,.int h,t.d] S Q
def Puts(w:cT)(s:bq)(h:Nat)(x:Str)(v:Int)(a:bq):Prop:=∀(S:aE) (Q:Res->aE->Prop),Q (.d a.d) S->Fn fY [w.d,s.d,.int h,.str x,.int v] S Q
def EV{Q:Res->aE->Prop}{w:cT}{s:bq}{p a:Int×List Int}(k:x∈w.ai.map (·.1))(g:y∈w.ai.map (·.1))(f:s.ai[c7 (w.ai.map (·.1)) x]?=some p)(c:w.ai.length<=100)(e:s.ai.length<=100)(i:a.2.length<=900)
  (b:(s.ai.set (c7 (w.ai.map (·.1)) x)<|fj p)[c7 (w.ai.map (·.1)) y]?=some a)
  (q:Q (.d ({s with ai:=(s.ai.set (c7 (w.ai.map (·.1)) x)<|fj p).set (c7 (w.ai.map (·.1)) y) (gS a h)}:bq).d) S):Fn qQ [w.d,s.d,.int h,(Rw.pass x y).d] S Q:=by
 show bZ ?_
 unfold wQ
 symm
 apply ax (d:=.str x) L ?_
 apply pq k f c e ?_
 apply ax (d:=.str y) L ?_
 have j:Op (settle S ({s with ai:=(s.ai.set (c7 (w.ai.map (·.1)) x)<|fj p).set (c7 (w.ai.map (·.1)) y) (gS a h)}:bq).d S) λp=>Q p.1 p.2:=cQ (bc _) (bq.low _) q
 show C2 (s:={s with ai:=s.ai.set (c7 (w.ai.map (·.1)) x) (fj p)}) g b c (by simpa using e) i j
def GF{Q:Res->aE->Prop}(c:EY w s h t v)(b:Puts w s h x v a)(q:Q (.d a.d) S):Fn vn [w.d,s.d,.int h,(Rw.put x t).d] S Q:=by
 show bZ ?_
 unfold z4
 symm
 apply ax (d:=.str x) L ?_
 apply ax (d:=t.d) L ?_
 apply c _ _ ?_
 show b _ _ ?_
 show cQ (bc _) (bq.low _) q
def zx{S:aE}{Q:Res->aE->Prop}{w:cT}{s:bq}{h n:Nat}{t:Tr}{v:Int}{vs:List Int}{fs:List cB}{f:cB}(g:EY w s h t v)(b:s.af[h]?=some (vs,fs))(a:fs.getLast? =some f)(i:fs.length<=900)(e:s.af.length<=900)
  (q:Q (.d (if v=0 then({s with af:=s.af.set h (vs,fs.dropLast++ [{f with row:=n}])}:bq) else s).d) S):Fn lQ [w.d,s.d,.int h,(Rw.unl t n).d] S Q:=by
 show bZ ?_
 unfold qD
 symm
 apply ax (d:=t.d) L ?_
 apply g _ _ ?_
 show eA ?_
 dsimp only[bg,aN,bf,bP,bV,fg]
 by_cases c:v=0
 ·rw[Qhq c] at q
  rw[Qeq c,Qhq L]
  symm
  apply ax (d:=.int n) L ?_
  have j:Op (settle S ({s with af:=s.af.set h (vs,fs.dropLast++ [{f with row:=n}])}:bq).d S) λp=>Q p.1 p.2:=cQ (bc _) (bq.low _) q
  show tW b a i e j
 ·rw[Quq c] at q
  rw[Qdq c,Quq (!1)]
  apply bT ?_
  show cQ (bc _) (bq.low _) q
def E3{Q:Res->aE->Prop}(j:EY w s h t v)(e:s.af[h]?=some (vs,fs))(c:fs.getLast? =some f)(k:fs.length<=900)(i:s.af.length<=900)
  (q:Q (.d ({s with af:=s.af.set h (vs,fs.dropLast++ [{f with told:=v}])}:bq).d) S):Fn qY [w.d,s.d,.int h,(Rw.tell t).d] S Q:=by
 show bZ ?_
 unfold wU
 symm
 apply ax (d:=t.d) L ?_
 apply j _ _ ?_
 apply kJ ?_
 show cz e c ?_
 apply cW<|cV ?_
 apply⟨_,L,_,L,?_⟩
 show⟨by show 1<=_;decide,?_⟩
 show eI (by show 5<=_;decide) ?_
 symm
 have g:0<fs.length:=by
  cases fs with
  |nil=>cases c
  |cons a b=>simp
 have l:Op (settle S ({s with af:=s.af.set h (vs,fs.dropLast++ [{f with told:=v}])}:bq).d S) λp=>Q p.1 p.2:=cQ (bc _) (bq.low _) q
 show ju (f:={f with told:=v}) e g k i l
def GG{S:aE}{Q:Res->aE->Prop}{w:cT}{s:bq}{h i:Nat}{vs:List Int}{fs:List cB}{f:cB}{r:Rm}{rs:dv}{x:Str}(o:s.af[h]?=some (vs,fs))(k:fs.getLast? =some f)(m:f.room=i)(j:w.aj[i]?=some r)(a:s.aj[i]?=some rs)(n:r.aa.length<=100)(u:r.aa.length=rs.aa.length)(g:s.aj.length<=100)(e:x∈r.aa.map (·.1))
  (q:Q (.d ({s with aj:=s.aj.set i {rs with aa:=rs.aa.set (c7 (r.aa.map (·.1)) x) []}}:bq).d) S):Fn vE [w.d,s.d,.int h,(Rw.all x).d] S Q:=by
 let c:=(iG e).1
 rw[lQm] at c
 show bZ ?_
 unfold AN
 symm
 apply ax (d:=.str x) L ?_
 show p8 o k m j n e ?_
 show fN L<|ay<|aS<|ay<|aS<|bu ?_
 generalize c7 (r.aa.map (·.1)) x=b at c q|-
 symm
 apply⟨by decide,?_⟩
 have t:Op (settle S ({s with aj:=s.aj.set i {rs with aa:=rs.aa.set b []}}:bq).d S) λp=>Q p.1 p.2:=cQ (bc _) (bq.low _) q
 show lT (l:= []) a (!0) (!0) g t
def MF:∀a:Rm,∃r,a.d=.tup (.str a.name::r):=λa=>⟨_,L⟩
def JM:∀a:Str×List Rw,∃r,ix a=.tup (.str a.1::r):=λa=>⟨_,L⟩
def JE{Q:Res->aE->Prop}(o:EY w s h t v)(l:s.af[h]?=some (vs,fs))(f:a∈w.aj.map (·.name))(k:w.aj[c7 (w.aj.map (·.name)) a]?=some r)(b:s.aj[c7 (w.aj.map (·.name)) a]?=some rs)(j:c∈r.ae.map (·.1))
  (y:w.aj.length<=100) (C:r.ae.length<=100) (B:s.aj.length<=100) (u:rs.row.length<=900) (z:fs.length<=900) (A:s.af.length<=100)
  (q:Q (.d ({s with af:=s.af.set h (vs,fs++ [⟨(c7 (w.aj.map (·.name)) a:Nat),(c7 (r.ae.map (·.1)) c:Nat),0,v,0⟩]),aj:=s.aj.set (c7 (w.aj.map (·.name)) a) (gQ rs h)}:bq).d) S):Fn AU [w.d,s.d,.int h,(Rw.do_ g a c t).d] S Q:=by
 show bZ ?_
 unfold Ey
 symm
 apply ax L ?_
 apply ax (d:=.str a) L ?_
 show kX (enc:=Rm.d) (nm:=(·.name)) MF (!0) f ?_
 generalize c7 (w.aj.map (·.name)) a=i at k b q|-
 symm
 apply ax L ?_
 show ax (d:=r.d) (aU (by rw[gQm,k];rfl)) ?_
 symm
 apply ax L ?_
 apply ax (d:=.str c) L ?_
 show kX (enc:=ix) (nm:=(·.1)) JM (!0) j ?_
 generalize c7 (r.ae.map (·.1)) c=dd at q|-
 symm
 apply ax (d:=t.d) L ?_
 apply o _ _ ?_
 show⟨by show 5<=_;decide,?_⟩
 symm
 apply ax L ?_
 show ax (d:=uh (vs,fs)) (aU (by rw[gQm,l];rfl)) ?_
 apply fN L<|ay<|aS<|ay<|aS<|bu ?_
 show⟨by show 1<=_;decide,?_⟩
 show eI (by erw[lQm,Qnq,QGq];show nQl (bj (!0))) ?_
 symm
 have e:fs.map cB.d++ [D.tup [.int i,.int dd,.int 0,.int v,.int 0]]=(fs++ [(⟨i,dd,0,v,0⟩:cB)]).map cB.d:=by rw[Qzq];rfl
 rw[e]
 generalize m:fs++ [(⟨i,dd,0,v,0⟩:cB)]=nf at q|-
 have n:h<s.af.length:=(gQs.mp l).1
 apply iZ (vs:=vs) (fs:=nf) n (!0) ?_
 have x:Op (settle S ({s with af:=s.af.set h (vs,nf),aj:=s.aj.set i (gQ rs h)}:bq).d S) λp=>Q p.1 p.2:=cQ (bc _) (bq.low _) q
 show wc (s:={s with af:=s.af.set h (vs,nf)}) b (by show s.aj.length<=900;omega) u x
section
variable{S:aE}{Q:Res->aE->Prop}
noncomputable def nP(a:Bool)(rs:dv)(b:Nat)(h:Int):dv:=match rs.aa[b]? with
 |some (p::l)=>if a then{rs with aa:=rs.aa.set b l} else{rs with aa:=rs.aa.set b l,within:=p.2,ag:=rs.ag++ [h]}
 |_=>rs
def EJ{w:cT}{s:bq}{h i:Nat}{vs:List Int}{fs:List cB}{f:cB}{r:Rm}{rs:dv}{x:Str}(H:s.af[h]?=some (vs,fs))(B:fs.getLast? =some f)(F:f.room=i)(u:w.aj[i]?=some r)(k:s.aj[i]?=some rs)(G:r.aa.length<=100)(L:r.aa.length=rs.aa.length)(z:s.aj.length<=100)(K:rs.ag.length<=900)(y:x∈r.aa.map (·.1))
  (q:Q (.d ({s with aj:=s.aj.set i (nP (decide (r.ah="when free")) rs (c7 (r.aa.map (·.1)) x) h)}:bq).d) S):Fn rY [w.d,s.d,.int h,(Rw.call x).d] S Q:=by
 let v:=(iG y).1
 rw[lQm] at v
 have o:i<s.aj.length:=(gQs.mp k).1
 show bZ ?_
 unfold xq
 symm
 apply ax (d:=.str x) rfl ?_
 show p8 H B F u G y ?_
 show fN rfl (ay (aS (ay (aS (bu ?_)))))
 generalize c7 (r.aa.map (·.1)) x=b at v q|-
 have t:b<rs.aa.length:=by omega
 obtain⟨m,a⟩:∃l,rs.aa[b]?=some l:=#[_,gQe t]
 have g:Op (settle S ({s with aj:=s.aj.set i (nP (decide (r.ah="when free")) rs b h)}:bq).d S) λp=>Q p.1 p.2:=cQ (bc _) (bq.low _) q
 unfold nP at g
 rw[a] at g
 symm
 apply ax rfl ?_
 show ax (d:=rs.d) (aU (by rw[gQm,k];rfl)) ?_
 symm
 apply ax rfl ?_
 show ax (d:=fD m) (aU (by rw[gQm,a];rfl)) ?_
 symm
 show zF ?_
 cases m with
 | nil=>
   apply aG (λ_=>?_) (λc=>by cases c)
   have e:s.aj.set i rs=s.aj:=by
     apply List.ext_getElem?
     intro j
     rw[List.getElem?_set]
     split
     · rename_i c
       subst c
       rw[k]
       first|done|simp[o]
     · rfl
   have A:({s with aj:=s.aj.set i rs}:bq)=s:=by rw[e]
   have n:Op (settle S ({s with aj:=s.aj.set i rs}:bq).d S) λp=>Q p.1 p.2:=g
   rw[A] at n
   show n
 | cons p l=>
   apply aG (λc=>by cases c) (λ_=>bT ?_)
   apply kJ ?_
   apply cV ?_
   apply#[_,rfl,cW #[_,rfl,?_]]
   have e:D.tup (jF ((p::l).map pairD) (some 1) none)=fD l:=by
     rw[show(some (1:Int))=some ((1:Nat):Int) from rfl,jw (by simp)]
     rfl
   rw[e]
   show lT k t (!0) z ?_
   dsimp only at g
   generalize J:rs.aa.set b l=nb at g|-
   symm
   apply ax rfl ?_
   show ax (d:=r.d) (aU (by rw[gQm,u];rfl)) ?_
   symm
   apply ax (d:=.str r.ah) rfl ?_
   show gR ?_
   dsimp only[bg,aN,bf,bP,bV,fg]
   by_cases c:r.ah="when free"
   · rw[Qeq c] at g|-
     rw[Qhq rfl] at g
     rw[Qhq rfl]
     symm
     show g
   · rw[Qdq c] at g|-
     rw[Quq (!1)] at g
     rw[Quq (!1)]
     apply bT ?_
     show ax rfl ?_
     have C:((s.aj.set i {rs with aa:=nb}).map dv.d)[i]?=some ({rs with aa:=nb}:dv).d:=by rw[gQm,Qyq o];rfl
     symm
     show ax (d:=({rs with aa:=nb}:dv).d) (aU C) ?_
     apply fN rfl (ay (aS (ay (aS (ay (aS (ay (aS (ay (aS (bu ?_)))))))))))
     apply ax (d:=pairD p) Au ?_
     apply ax (d:=.int p.2) rfl ?_
     show#[by show 1<=_;decide,?_]
     show eI (by erw[lQm,Qnq,QGq];show nQl (bj (!0))) ?_
     symm
     show#[by show 5<=_;decide,?_]
     symm
     have I:D.tup [dm rs.vals,.int p.2,dm rs.row,.tup (rs.ag.map D.int++ [.int h]),.tup (nb.map fD)]=({rs with aa:=nb,within:=p.2,ag:=rs.ag++ [(h:Int)]}:dv).d:=by simp[dv.d,dm]
     rw[I]
     have n:Op (settle S ({s with aj:=(s.aj.set i {rs with aa:=nb}).set i {rs with aa:=nb,within:=p.2,ag:=rs.ag++ [(h:Int)]}}:bq).d S) λp=>Q p.1 p.2:=by rw[List.set_set];show g
     show dQ (s:={s with aj:=s.aj.set i {rs with aa:=nb}}) (by simpa using o) (by simp;omega) n
end
end W28
namespace DL
open L2
def lM{α:Type}{u:cG}{S:aE}{js:List (Option Nat)}{i:yu}{g:oM}{t:ke}{o:bL}{Q:List D->aE->Prop}(P:cG->Prop)(enc G:α->D)(c:α->Bool)(F:P (qz js u)) (h:E i u S λp f=>∃xs:List α,p.1=xs.map enc/\p.2 f/\xs.length<=1000∧
   (∀x∈xs,∀a,P a->Tg g (enc x) a f λb S2=>S2=f/\P b/\E t b f λk A=>A=f/\k=c x/\(c x=true->E o b f λy B=>y=G x/\B=f))/\Q ((xs.filter c).map G) f):E (bG js i g t o) u S Q:=by
 show j3 (h.mono λp f I=>?_)
 let#[xs,z,J,U,N,q]:=I
 show#[λn a s j=>s=f/\j=((xs.take n).filter c).map G/\P a,#[rfl,rfl,F],λn a s j h=>by rw[h.1];show J,λn d a s j r h=>?_,λa s j h=>?_]
 ·let#[rfl,rfl,h3]:=h
  have r:p.1[n]?=some d:=r
  rw[z,gQm] at r
  let#[x,l,rfl]:=oQm.mp r
  let#[b,S2,L,rfl,h4,h5]:=N x (mQg l) a h3
  show#[b,S2,L,?_]
  show h5.mono λk A v=>?_
  let#[H,M,K]:=v
  subst H M
  let W:=(gQs.mp l).1
  have w:((xs.take (n+1)).filter c).map G=((xs.take n).filter c).map G++if c x=true then [G x] else []:=by
   rw[QYq,l]
   cases m:c x <;>simp[m]
  by_cases m:c x=true
  ·rw[Qhq m]
   show(K m).mono λy B v=>?_
   let#[R,C]:=v
   subst R C
   show#[?_,rfl,?_,h4]
   ·rw[lQm]
    have:=List.length_filter_le c (xs.take n)
    rw[Qxq] at this
    show bj (!0)
   ·rw[w,Qhq m]
  ·rw[Quq m]
   show#[rfl,?_,h4]
   rw[w,Quq m,List.append_nil]
 ·let#[rfl,rfl,_]:=h
  have e:p.1.length=xs.length:=by rw[z,lQm]
  show Q (((xs.take p.1.length).filter c).map G) _
  rw[e,QEq]
  show q
end DL
namespace W28
open L2 DL
section
variable{S:aE}{Q:Res->aE->Prop}
noncomputable def uZ(l:List (Int×Int))(t h:Int):List (Int×Int):=l.take (l.filter λp=>decide (p.1<=t)).length++ [(t,h)]++l.drop (l.filter λp=>decide (p.1<=t)).length
def Es{w:cT}{s:bq}{h i:Nat}{vs:List Int}{fs:List cB}{f:cB}{r:Rm}{rs:dv}{x u:Str}{t:Tr}{v:Int}{g:List (Int×Int)}(Z:s.af[h]?=some (vs,fs))(W:fs.getLast? =some f)(X:f.room=i)(J:w.aj[i]?=some r)(m:s.aj[i]?=some rs)(Y:r.aa.length<=100)(l2:r.aa.length=rs.aa.length)(N:s.aj.length<=100)(K:x∈r.aa.map (·.1))
  (B:r.aa[c7 (r.aa.map (·.1)) x]?=some (x,u)) (k:rs.aa[c7 (r.aa.map (·.1)) x]?=some g) (b4:g.length<=900) (C:EY w s h t v)
  (q:Q (.d ({s with aj:=s.aj.set i (dG {rs with aa:=rs.aa.set (c7 (r.aa.map (·.1)) x) (uZ g (if u="turns" then v else 0) h)})}:bq).d) S):Fn rS [w.d,s.d,.int h,(Rw.wait x t).d] S Q:=by
 let G:=(iG K).1
 rw[lQm] at G
 have hi:i<s.aj.length:=(gQs.mp m).1
 show bZ ?_
 unfold xE
 symm
 apply ax (d:=.str x) rfl ?_
 show p8 Z W X J Y K ?_
 show fN rfl (ay (aS (ay (aS (bu ?_)))))
 generalize c7 (r.aa.map (·.1)) x=b at G q B k|-
 have M:b<rs.aa.length:=by omega
 symm
 apply ax rfl ?_
 show ax (d:=r.d) (aU (by rw[gQm,J];rfl)) ?_
 symm
 apply ax rfl ?_
 show ax (d:=AI (x,u)) (aU (by rw[gQm,B];rfl)) ?_
 symm
 apply ax (d:=.str u) rfl ?_
 show gR ?_
 dsimp only[bg,aN,bf,bP,bV,fg]
 have y:∀j:Int,j=(if u="turns" then v else 0)->T (aD (aW 7 (aQ fO (aQ fO (aQ fO (aQ fO (ar 1) (cF (.int 0))) (ar 4)) (cF (.int 4))) (ar 5)))
   (aD (aW 8 (gP (gU (bG [none,none,some 6] (fT (aP (ar 7))) (kP (nG 2 (aK (bJ 0) (aK (bJ 1) dC)))) (aH (aQ Qf (ar 0) (ar 2))) (ar 0)))))
   (aD (aW 9 (az gf (aq (ar 1) (aq (ar 4) (aq (ar 5) (aq (aQ cD (aQ cD (uK (ar 7) ua (sQ (ar 8))) (bp (aq (bp (aq (ar 6) (aq (ar 2) av))) av))) (uK (ar 7) (sQ (ar 8)) ua)) av))))))
   (cy (az sA (aq (ar 9) (aq (ar 4) av)))))))
   [some w.d,some s.d,some (.int h),some (Rw.wait x t).d,some (.int i),some (.int b),some (.int j),none,none,none] S (λo=>match o with
   |.nx _ z=>Op (settle S .non z) λp=>Q p.1 p.2|.rt d z=>Op (settle S d z) λp=>Q p.1 p.2|.rl l z=>Op (eY S l z) λp=>Q p.1 p.2|_=>False):=by
  intro j F
  rw[<-F] at q
  symm
  apply ax rfl ?_
  show ax (d:=rs.d) (aU (by rw[gQm,m];rfl)) ?_
  symm
  apply ax rfl ?_
  show ax (d:=fD g) (aU (by rw[gQm,k];rfl)) ?_
  symm
  apply lM (α:=Int×Int) (λA=>∃a b,A= [a,b,some (.int j)]) pairD (λp=>.int p.1) (λp=>decide (p.1<=j)) #[none,none,rfl] ?_
  show cE (ds:=g.map pairD) ?_
  show#[g,rfl,trivial,by omega,λp G A H=>?_,?_]
  ·let#[a,b,rfl]:=H
   show fN rfl (ay (aS (ay (aS (bu ?_)))))
   apply#[rfl,#[_,_,rfl],?_]
   apply#[rfl,rfl,λ_=>?_]
   show#[rfl,rfl]
  have R:((g.filter λp=>decide (p.1<=j)).map λp=>D.int p.1).length=(g.filter λp=>decide (p.1<=j)).length:=lQm ..
  let I:=List.length_filter_le (λp=>decide (p.1<=j)) g
  unfold uZ at q
  symm
  rw[R]
  generalize (g.filter λp=>decide (p.1<=j)).length=n at q I|-
  apply kJ ?_
  apply cW (cV ?_)
  show#[_,rfl,g.map pairD,rfl,?_]
  rw[Ay (by rw[lQm];show I)]
  symm
  show#[by show 2<=_;decide,?_]
  symm
  show#[by show 1<=_;decide,?_]
  show eI (by erw[lQm,Qxq,Qnq,QGq];show nQl (bj (!0))) ?_
  apply kJ ?_
  apply cV ?_
  show#[_,rfl,cW #[g.map pairD,rfl,?_]]
  rw[jw (by rw[lQm];show I)]
  show eI (by erw[lQa,lQm,Qxq,List.length_drop,Qnq,QGq];show nQl (bj (!0))) ?_
  symm
  have e:D.tup ((g.map pairD).take n++ [D.tup [.int j,.int h]]++(g.map pairD).drop n)=fD (g.take n++ [(j,(h:Int))]++g.drop n):=by
   erw[fD,Qzq,List.map_take,List.map_drop]
   rfl
  rw[e]
  generalize g.take n++ [(j,(h:Int))]++g.drop n=nl at q|-
  apply lT m M (!0) N ?_
  have L:Op (settle S ({s with aj:=s.aj.set i (dG {rs with aa:=rs.aa.set b nl})}:bq).d S) λp=>Q p.1 p.2:=cQ (bc _) (bq.low _) q
  generalize P:({rs with aa:=rs.aa.set b nl}:dv)=nr at L|-
  have U:Op (settle S ({s with aj:=(s.aj.set i nr).set i (dG nr)}:bq).d S) λp=>Q p.1 p.2:=by rw[List.set_set];show L
  show Cj (s:={s with aj:=s.aj.set i nr}) (Qyq hi) (by simp;omega) U
 by_cases c:u="turns"
 ·rw[Qeq c,Qhq rfl]
  symm
  apply ax (d:=t.d) rfl ?_
  show C _ _ ?_
  show y v (by rw[Qhq c])
 ·rw[Qdq c,Quq (!1)]
  show bT ?_
  show y 0 (by rw[Quq c])
end
end W28
namespace DL
open L2
section
variable{a:cG}{S:aE}
def Rb{b:List (Str×Str)}{g:bL}{Q:D->aE->Prop}(h:E g a S λy c=>∃x nm,y=.str x/\b.lookup x=some nm/\Q (.fn nm) c):E (Qa b g) a S Q:=by
 let#[y,c,d,x,nm,rfl,e2,q]:=h
 show#[_,c,by unfold Qa;rw[d];erw[Qbq];rw[e2];rfl,q]
def Lu{i:Nat}{T:List (Str×c8)}{g:iD}{x:Str}{F:c8}{Q:D->aE->Prop}(e:a[i]?=some (some (.fn x)))(c:T.lookup x=some F)(h:E (az F g) a S Q):E (wu i T g) a S Q:=by
 let#[y,d,b,q]:=h
 show#[_,d,by unfold wu;rw[e];show(T.lookup x).bind _=_;rw[c];show b,q]
def MR{f:bL}{Q:D->aE->Prop}(h:E f a S λd b=>∃k,d=.bl k/\Q (.bl (!k)) b):E (K9 f) a S Q:=by
 let#[d,b,c,k,rfl,q]:=h
 show#[_,b,by unfold K9;rw[c];rfl,q]
def xI{b:Bool}{x:D}{Q:D->Prop}(q:Q (.bl (if b then !isNone x else isNone x))):Op (wF b S x .non) Q:=#[_,L,q]
end
def y7{α:Type}{xs:List α}{a b:α}:kq (xs++ [a,b]) (-2)=some a:=by
 unfold kq Ef
 rw[Quq (!0),Qhq (by simp;omega)]
 erw[Qbq]
 rw[show((-2:Int)+((xs++ [a,b]).length:Int)).toNat=xs.length by simp;omega]
 simp
end DL
namespace W28
open L2 DL
section
variable{S:aE}{Q:Res->aE->Prop}
def R7:Rw->c8
 |.put _ _=>vn
 |.unl _ _=>lQ
 |.go _=>zR
 |.do_ _ _ _ _=>AU
 |.wait _ _=>rS
 |.call _=>rY
 |.all _=>vE
 |.tell _=>qY
 |.take _=>q0
 |.give _=>rK
 |.pass _ _=>qQ
 |.say _=>vw
noncomputable def Rw.kind:Rw->Str
 |.put _ _=>"put"
 |.unl _ _=>"unless"
 |.go _=>"go"
 |.do_ _ _ _ _=>"do"
 |.wait _ _=>"wait"
 |.call _=>"call"
 |.all _=>"all"
 |.tell _=>"tell"
 |.take _=>"take"
 |.give _=>"give"
 |.pass _ _=>"pass"
 |.say _=>"say"
def Rw.d_kind(r:Rw):∃l,r.d=.tup (.str r.kind::l):=by cases r <;>show#[_,L]
def K1(r:Rw):∃nm,oz.lookup r.kind=some nm/\xa.lookup nm=some (R7 r):=by
 cases r
 ·show#["by_put",L,L]
 ·show#["by_unless",L,L]
 ·show#["by_go",L,L]
 ·show#["by_do",L,L]
 ·show#["by_wait",L,L]
 ·show#["by_call",L,L]
 ·show#["by_all",L,L]
 ·show#["by_tell",L,L]
 ·show#["by_take",L,L]
 ·show#["by_give",L,L]
 ·show#["by_pass",L,L]
 ·show#["by_say",L,L]
def MQ(w:cT)(s:bq)(h:Nat)(r:Rw)(a:bq):Prop:=∀(S:aE) (Q:Res->aE->Prop),Q (.d a.d) S->Fn (R7 r) [w.d,s.d,.int h,r.d] S Q
def Cq{w:cT}{s a:bq}{h:Nat}{r:Rw}(e:MQ w s h r a)(q:Q (.d a.d) S):Fn ki [w.d,s.d,.int h,r.d] S Q:=by
 let#[b,f,g]:=K1 r
 let#[l,c]:=r.d_kind
 show bZ ?_
 unfold yU
 apply aI (cU (Rb ?_))
 rw[c]
 show ax (d:=.str r.kind) Au ?_
 rw[<-c]
 show#[_,b,L,f,?_]
 apply fA (Lu (x:=b) L g ?_)
 show e _ _ ?_
 show cQ (bc _) (bq.low _) q
def ug{w:cT}{s l:bq}{h i:Nat}{vs:List Int}{e:List cB}{b f:cB}{rs:dv}{pr:List Rw}{g:Option Str}{p r:Str}{t:Tr}(u:s.af[h]?=some (vs,e++ [b,f]))(A:f.room=i)(m:s.aj[i]?=some rs)(v:s.aj.length<=900)(B:s.af.length<=900)
  (y:progOf w h b=some pr) (C:1<=b.row) (k:pr[(b.row-1).toNat]?=some (.do_ g p r t))
  (j:∀a:bq,a={s with aj:=s.aj.set i (dG rs),af:=s.af.set h (vs,e++ [b])}->match g with|none=>l=a|some x=>Puts w a h x f.told l)
  (q:Q (.d l.d) S):Fn kL [w.d,s.d,.int h] S Q:=by
 have z:h<s.af.length:=(gQs.mp u).1
 show bZ ?_
 unfold tV
 symm
 apply ax L ?_
 show ax (d:=uh (vs,e++ [b,f])) (aU (by rw[gQm,u];rfl)) ?_
 show fN L (ay (aS (ay (aS (bu ?_)))))
 have n:(e++ [b,f]).map cB.d=e.map cB.d++ [b.d,f.d]:=by simp
 dsimp only[bg,aN,bf,bP,bV,fg]
 rw[n]
 symm
 apply iz ?_
 show#[1,L,?_]
 show ax (d:=f.d) (mS (by simp)) ?_
 show fN L (ay (aS (ay (aS (ay (aS (ay (aS (ay (aS (bu ?_)))))))))))
 rw[A]
 symm
 apply Cj m v ?_
 apply kJ ?_
 apply cW (cV (iz ?_))
 show#[1,L,_,L,_,L,?_]
 rw[C1 (by simp)]
 have o:D.tup ((e.map cB.d++ [b.d,f.d]).dropLast)=.tup ((e++ [b]).map cB.d):=by
  rw[show e.map cB.d++ [b.d,f.d]=(e.map cB.d++ [b.d])++ [f.d] by simp,List.dropLast_concat]
  simp
 rw[o]
 symm
 show iZ (s:={s with aj:=s.aj.set i (dG rs)}) z B ?_
 let j:=j _ L
 dsimp only at j|-
 generalize ({s with aj:=s.aj.set i (dG rs),af:=s.af.set h (vs,e++ [b])}:bq)=a at j|-
 symm
 apply iz ?_
 show#[2,L,?_]
 apply ax (d:=b.d) y7 ?_
 apply ic y ?_
 apply iz ?_
 show#[2,L,?_]
 apply ax (d:=b.d) y7 ?_
 apply ax (d:=.int b.row) L ?_
 show ax (d:=(Rw.do_ g p r t).d) (jb (!0) (by rw[gQm,k];rfl)) ?_
 symm
 apply ax (d:=JG g) L ?_
 show xI ?_
 cases g with
 | none=>
   dsimp only at j
   subst j
   apply aG (λ_=>?_) (λc=>by cases c)
   show cQ (bc _) (bq.low _) q
 | some x=>
   apply aG (λc=>by cases c) (λ_=>bT ?_)
   apply ax (d:=.str x) L ?_
   show j _ _ ?_
   show cQ (bc _) (bq.low _) q
end
section
variable{S:aE}{Q:Res->aE->Prop}
noncomputable def FV(h:Nat):Option Int->D
 |none=>.non
 |some v=>.tup [.int h,.int v]
def Kp(h:Nat)(e:Xb):cA 0 (FV h e)=true:=by cases e <;>rfl
noncomputable def Ls(s:bq)(h:Nat)(e:Xb):D:=.tup [s.d,FV h e]
def vA(s:bq)(h:Nat)(e:Xb):cA 0 (Ls s h e)=true:=by
 erw[Ls,cA,cn,Kp,bq.low,Bool.and_true]
def xl(w:cT)(s:bq)(h:Nat)(a:bq)(e:Xb):Prop:=∀(S:aE) (Q:Res->aE->Prop),Q (.d (Ls a h e)) S->Fn nj [w.d,s.d,.int h] S Q
def HA{w:cT}{s:bq}{h i:Nat}{vs:List Int}{fs:List cB}{f:cB}{rs:dv}(j:s.af[h]?=some (vs,fs))(c:fs.getLast? =some f)(e:f.room=i)(a:s.aj[i]?=some rs)(l:rs.within≠h)(b:s.aj.length<=900)(g:rs.row.length<=900):
  xl w s h {s with aj:=s.aj.set i (gQ rs h)} none:=by
 intro S Q q
 show bZ ?_
 unfold m5
 symm
 apply cz j c ?_
 apply ax (d:=.int f.room) L ?_
 show nh ?_
 dsimp only[bg,aN,bf,bP,bV,fg]
 rw[Qdq (show¬f.room= -1 by omega),e]
 show if (true=true) then _ else _
 rw[Qhq L]
 symm
 apply ax L ?_
 show ax (d:=rs.d) (aU (by rw[gQm,a];rfl)) ?_
 symm
 apply ax (d:=.int rs.within) L ?_
 show nh ?_
 dsimp only[bg,aN,bf,bP,bV,fg]
 rw[Qdq l]
 show if (true=true) then _ else _
 rw[Qhq L]
 symm
 apply wc a b g ?_
 show#[by show 2<=_;decide,?_]
 show cQ (d:=Ls _ h none) (λk z=>(nomatch z)) (vA _ _ _) q
def Here(s:bq)(h:Nat)(f:cB):Prop:=f.room= -1\/∃(i:Nat) (a:dv),f.room=i/\s.aj[i]?=some a/\a.within=h
def yF{w:cT}{s:bq}{h:Nat}{f:cB}{a b c d:Option D}{Q:Bool->aE->Prop}(k:Here s h f)(q:Q false S):E (iP (aH (aQ (dE true) (ar 4) (cF (.int (-1))))) (aH (aQ (dE true) (aQ fO (aQ fO (aQ fO (ar 1) (cF (.int 0))) (ar 4)) (cF (.int 1))) (ar 2)))) [some w.d,some s.d,some (.int h),some f.d,some (.int f.room),a,b,c] S Q:=by
 rcases k with g|⟨i,j,g,e,l⟩
 ·symm
  show nh ?_
  dsimp only[bg,aN,bf,bP,bV,fg]
  rw[Qeq g]
  show if (false=true) then _ else _
  rw[Quq (!1)]
  show q
 ·symm
  show nh ?_
  dsimp only[bg,aN,bf,bP,bV,fg]
  rw[Qdq (show¬f.room= -1 by omega),g]
  show if (true=true) then _ else _
  rw[Qhq L]
  symm
  apply ax L ?_
  show ax (d:=j.d) (aU (by rw[gQm,e];rfl)) ?_
  symm
  apply ax (d:=.int j.within) L ?_
  show nh ?_
  dsimp only[bg,aN,bf,bP,bV,fg]
  rw[Qeq l]
  show q
def BK{w:cT}{s b:bq}{h:Nat}{vs:List Int}{fs:List cB}{f:cB}{pr:List Rw}(j:s.af[h]?=some (vs,fs))(g:fs.getLast? =some f)(i:Here s h f)(e:progOf w h f=some pr)(a:f.row=pr.length)
  (he:∀(S:aE) (Q:Res->aE->Prop),Q (.d b.d) S->Fn kL [w.d,s.d,.int h] S Q):xl w s h b none:=by
 intro S Q q
 show bZ ?_
 unfold m5
 symm
 apply cz j g ?_
 show ax (d:=.int f.room) L ?_
 show aI (bK (yF (d:=none) i ?_))
 apply aG (λc=>by cases c) (λ_=>bT ?_)
 apply ic e ?_
 apply ax (d:=.int f.row) L ?_
 show eA ?_
 dsimp only[bg,aN,bf,bP,bV,fg]
 rw[lQm,Qeq a,Qhq L]
 symm
 apply he _ _ ?_
 show#[by show 2<=_;decide,?_]
 show cQ (d:=Ls _ h none) (λk z=>(nomatch z)) (vA _ _ _) q
def NB(w:cT)(s:bq)(h:Nat)(r:Rw)(e:Xb):Prop:=match r with
 |.say t=>∃v,e=some v/\EY w s h t v
 |_=>e=none
def Cb{w:cT}{s j:bq}{h:Nat}{vs:List Int}{fs:List cB}{f:cB}{pr:List Rw}{r:Rw}{e:Xb}(n:s.af[h]?=some (vs,fs))(m:fs.getLast? =some f)(C:Here s h f)(B:progOf w h f=some pr)(A:0<=f.row)(b:pr[f.row.toNat]?=some r)(y:fs.length<=900)(F:s.af.length<=900)
  (a:NB w s h r e) (u:MQ w {s with af:=s.af.set h (vs,fs.dropLast++ [{f with row:=f.row+1}])} h r j):xl w s h j e:=by
 intro S Q q
 let x:=(gQs.mp b).1
 show bZ ?_
 unfold m5
 symm
 apply cz n m ?_
 show ax (d:=.int f.room) L ?_
 show aI (bK (yF (d:=none) C ?_))
 apply aG (λc=>by cases c) (λ_=>bT ?_)
 apply ic B ?_
 apply ax (d:=.int f.row) L ?_
 show eA ?_
 dsimp only[bg,aN,bf,bP,bV,fg]
 rw[lQm,Qdq (show¬f.row=(pr.length:Int) by omega),Quq (!1)]
 apply bT ?_
 show ax (d:=.int f.row) L ?_
 show ax (d:=r.d) (jb A (by rw[gQm,b];rfl)) ?_
 symm
 let#[l,G]:=r.d_kind
 have g:T (cy (bp (aq (az ki (aq (ar 0) (aq (az lG (aq (ar 1) (aq (ar 2) (aq (aQ cD (aQ fO (ar 3) (cF (.int 2))) (cF (.int 1))) av)))) (aq (ar 2) (aq (ar 6) av))))) (aq (ar 7) av))))
   [some w.d,some s.d,some (.int h),some f.d,some (.int f.room),some (.tup (pr.map Rw.d)),some r.d,some (FV h e)] S (λo=>match o with
   |.nx _ i=>Op (settle S .non i) λp=>Q p.1 p.2|.rt d i=>Op (settle S d i) λp=>Q p.1 p.2|.rl l i=>Op (eY S l i) λp=>Q p.1 p.2|_=>False):=by
  symm
  apply ax (d:=.int f.row) L ?_
  apply tW n m y F ?_
  apply Cq u ?_
  show#[by show 2<=_;decide,?_]
  show cQ (d:=Ls _ h e) (λk z=>(nomatch z)) (vA _ _ _) q
 cases r with
 | say t=>
   let#[v,rfl,hv]:=a
   apply ax (d:=.str "say") L ?_
   show gR ?_
   dsimp only[bg,aN,bf,bP,bV,fg]
   rw[Qeq L,Qhq L]
   symm
   apply ax (d:=t.d) L ?_
   apply hv _ _ ?_
   show#[by show 2<=_;decide,?_]
   show g
 | _=>
   have a:e=none:=a
   subst a
   apply ax L ?_
   show gR ?_
   dsimp only[bg,aN,bf,bP,bV,fg]
   show aG (λc=>absurd (QZq c) (by decide +kernel)) (λ_=>bT ?_)
   show g
end
end W28
namespace DL
open L2
section
variable{a:cG}{S:aE}
def ID{f:bL}{g:e_}{Q:D->aE->Prop}(h:E f a S λx c=>∃k b,x=.ref k/\c[k]?=some (.lst b)/\E g a c λp S2=>∃ds,S2[k]?=some (.lst ds)/\(p.2.isL=false/\ds.length+p.1.length<=sizeLine)/\Q .non (S2.set k (.lst (ds++p.1)))):E (zq f g) a S Q:=by
 let#[x,c,d,k,b,rfl,h1,p,S2,e2,ds,h2,h3,q]:=h
 show#[_,_,by unfold zq;rw[d];erw[Qbq,e2,h1,h2];rw[Qhq h3],q]
end
def Ez{S a:aE}{k:Nat}{ds:List D}{Q:Res×aE->Prop}(d:qW S a)(e:S.length<=k)(c:a[k]?=some (.lst ds))(b:cn S.length ds=true)(q:Q (.l ds,a.take S.length)):Op (settle S (.ref k) a) Q:=by
 show#[_,?_,q]
 unfold settle
 rw[Qhq d]
 show(if k<S.length then _ else _)=_
 rw[Quq (!0),c]
 show(if cn S.length ds=true then _ else _)=_
 rw[Qhq b]
def wK{n:Nat}(h:n<=100000):n<=sizeLine:=QAq h (!1)
theorem d0:∀ss:List Int,kF (ss.map D.int)=some (ss.map V.int)
 | []=>rfl
 |s::ss=>by erw[QDq,kF,xT,Qbq];rw[d0 ss];rfl
def lI{x:Int}{ss:List Int}:HU (.int x) (ss.map V.int)=decide (x∈ss):=by
 induction ss with
 |nil=>rfl
 | cons a ss b=>
   show(uY (.int a) (.int x)||HU (.int x) (ss.map V.int))=_
   rw[b]
   erw[uY,Qsq]
   by_cases c:a=x
   · subst c;simp
   · have d:¬x=a:=λz=>c z.symm
     simp[c,d]
end DL
namespace W28
open L2 DL
section
variable{S:aE}{Q:Res->aE->Prop}
def Cd{S a:aE}(x:sk S a):a.take S.length=S:=by
 apply List.ext_getElem?
 intro j
 by_cases b:j<S.length
 ·rw[List.getElem?_take_of_lt b]
  show x.eq j b
 ·rw[List.getElem?_eq_none (by rw[Qxq];omega),List.getElem?_eq_none (!0)]
def MU{S a:aE}{ds:List D}{Q:Res->aE->Prop}(x:sk S a)(c:cn 0 ds=true)(q:Q (.l ds) S):Op (eY S ds a) λp=>Q p.1 p.2:=
 p7 #[x.len,λk o b e=>.inl (by rw[<-x.eq k b];show e)] (Cd x) (kf c) q
def Jw{S a:aE}{k:Nat}{ds:List D}{Q:Res->aE->Prop}(x:sk S a)(b:S.length<=k)(d:a[k]?=some (.lst ds))(c:cn 0 ds=true)(q:Q (.l ds) S):Op (settle S (.ref k) a) λp=>Q p.1 p.2:=
 Ez #[x.len,λk o b e=>.inl (by rw[<-x.eq k b];show e)] b d (kf c) (by rw[Cd x];show q)
def B9{l:List (Int×Int)}(f:l.length<=1000)(q:Q (.l ((l.map (·.2)).map D.int)) S):Fn oU [fD l] S Q:=by
 show bZ ?_
 unfold sV
 symm
 apply je (α:=Int×Int) (λc=>∃a b,c= [a,b]) pairD (λp=>.int p.2) #[none,none,L] ?_
 show cE (ds:=l.map pairD) ?_
 show#[l,L,trivial,f,λp g c d=>?_,?_]
 ·let#[a,b,rfl]:=d
  show fN L (ay (aS (ay (aS (bu ?_)))))
  apply#[L,#[_,_,L],?_]
  show#[L,L]
 ·have e:l.map (λp=>D.int p.2)=(l.map (·.2)).map D.int:=by rw[QPq];rfl
  rw[e]
  show Jf (bo λ_ _=>rfl) q
noncomputable def iI(r:dv):List Int:=r.row++r.ag++r.aa.flatMap λl=>l.map (·.2)
noncomputable def held(s:bq):List Int:=s.ai.flatMap (·.2)++s.aj.flatMap iI
theorem nc{α c:Type}{f:α->List c}{n:Nat}:∀{l:List α},(∀a∈l,(f a).length<=n)->(l.flatMap f).length<=n*l.length
 | [],_=>by simp
 | a::l,h=>by
   let g:=h a (QBq ..)
   let e:=nc (f:=f) (l:=l) λb d=>h b (Qpq _ d)
   rw[QSq,lQa,Qnq,Nat.mul_add]
   omega
def oA{α b:Type}{f:α->List b}{l:List α}{n:Nat}{a:α}(h:l[n]?=some a):(l.take (n+1)).flatMap f=(l.take n).flatMap f++f a:=by
 rw[QYq,h]
 simp
def tZ{s:bq}{n:Nat}(R:n<=100)(b1:s.ai.length<=100)(b2:s.aj.length<=20)(N:∀p∈s.ai,p.2.length<=n)(r1:∀r∈s.aj,r.row.length<=n/\r.ag.length<=n/\r.aa.length<=10/\∀l∈r.aa,l.length<=n)
  (q:Q (.l ((held s).map D.int)) S):Fn fG [s.d] S Q:=by
 have Y:∀o:List D,sk S (S++ [.lst o]):=λo=>sk.refl.app
 have G:∀r∈s.aj,∀j:Nat,((r.aa.take j).flatMap λl=>l.map (·.2)).length<=1000:=λr G j=>by
  let#[_,_,P,L]:=r1 r G
  let C:=nc (f:=λl:List (Int×Int)=>l.map (·.2)) (n:=n) (l:=r.aa.take j) λl u=>by rw[lQm];show L l (List.mem_of_mem_take u)
  have H:(r.aa.take j).length<=10:=by rw[Qxq];omega
  have X:n*(r.aa.take j).length<=100*10:=Nat.mul_le_mul R H
  omega
 have K:∀r∈s.aj,(iI r).length<=1200:=λr h=>by
  let I:=G r h r.aa.length
  let#[W,P,_]:=r1 r h
  rw[QEq] at I
  erw[iI,lQa]
  omega
 have x:∀j:Nat,((s.ai.take j).flatMap (·.2)).length<=10000:=λj=>by
  let C:=nc (f:=λp:Int×List Int=>p.2) (n:=n) (l:=s.ai.take j) λl u=>N l (List.mem_of_mem_take u)
  have H:(s.ai.take j).length<=100:=by rw[Qxq];omega
  have X:n*(s.ai.take j).length<=100*100:=Nat.mul_le_mul R H
  omega
 have J:∀j:Nat,((s.aj.take j).flatMap iI).length<=24000:=λj=>by
  let C:=nc (f:=iI) (n:=1200) (l:=s.aj.take j) λl u=>K l (List.mem_of_mem_take u)
  have H:(s.aj.take j).length<=20:=by rw[Qxq];omega
  omega
 show bZ ?_
 unfold jf
 symm
 show#[by decide,?_]
 apply aI (gF (jD ?_))
 show ax rfl ?_
 show cE (ds:=s.ai.map Dy) ?_
 show#[λj k v=>(∃a b c d e f g,k= [some s.d,some (.ref S.length),a,b,c,d,e,f,g])/\v=S++ [.lst (((s.ai.take j).flatMap (·.2)).map D.int)],#[#[_,_,_,_,_,_,_,rfl],rfl],λ_ _ _ _=>trivial,?_,?_]
 ·rintro j d k v t ⟨⟨a,b,c,F,e,f,g,rfl⟩,rfl⟩
  have t:(s.ai.map Dy)[j]?=some d:=t
  rw[gQm] at t
  let#[p,M,rfl]:=oQm.mp t
  show fN rfl (ay (aS (ay (aS (bu ?_)))))
  apply c9 (ID ?_)
  apply#[_,_,rfl,aM,?_]
  show cE (ds:=p.2.map D.int) ?_
  show#[_,aM,#[rfl,?_],#[_,_,_,_,_,_,_,rfl],?_]
  ·have:=x j
   have:=N p (mQg M)
   erw[lQm]
   show wK (!0)
  ·rw[oA M,Qzq]
   simp
 rintro k v ⟨⟨a,b,c,F,e,f,g,rfl⟩,rfl⟩
 have u:(s.ai.map Dy).length=s.ai.length:=lQm ..
 rw[u,QEq]
 apply aI (gF (jD ?_))
 show ax rfl ?_
 show cE (ds:=s.aj.map dv.d) ?_
 show#[λj k v=>(∃a b c d e f g,k= [some s.d,some (.ref S.length),a,b,c,d,e,f,g])/\v=S++ [.lst ((s.ai.flatMap (·.2)++(s.aj.take j).flatMap iI).map D.int)],#[#[_,_,_,_,_,_,_,rfl],by simp],λ_ _ _ _=>trivial,?_,?_]
 ·rintro j d k v t ⟨⟨a,b,c,F,e,f,g,rfl⟩,rfl⟩
  have t:(s.aj.map dv.d)[j]?=some d:=t
  rw[gQm] at t
  let#[r,y,rfl]:=oQm.mp t
  let w:=mQg y
  let#[W,P,L,C]:=r1 r w
  have z:(s.ai.flatMap (·.2)++(s.aj.take j).flatMap iI).length<=34000:=by
   have:=x s.ai.length
   rw[QEq] at this
   have:=J j
   rw[lQa]
   omega
  generalize A:s.ai.flatMap (·.2)++(s.aj.take j).flatMap iI=o at z|-
  show fN rfl (ay (aS (ay (aS (ay (aS (ay (aS (ay (aS (bu ?_)))))))))))
  apply aI (c9 (ID ?_))
  apply#[_,_,rfl,aM,?_]
  show eI (i:=r.row.map D.int) (j:=r.ag.map D.int) (by erw[lQm];show wK (!0)) ?_
  show cE ?_
  show#[_,aM,#[rfl,?_],?_]
  ·erw[lQa,lQm]
   show wK (!0)
  dsimp only[bg,aN,bf,bP,bV,fg]
  have Z:(S++ [O.lst (o.map D.int)]).set S.length (.lst (o.map D.int++(r.row.map D.int++r.ag.map D.int)))=S++ [.lst ((o++(r.row++r.ag)).map D.int)]:=by simp
  rw[Z]
  apply gF (jD ?_)
  show#[λj k v=>(∃a b c d e f g,k= [some s.d,some (.ref S.length),a,b,c,d,e,f,g])/\v=S++ [.lst ((o++(r.row++r.ag)++(r.aa.take j).flatMap λl=>l.map (·.2)).map D.int)],#[#[_,_,_,_,_,_,_,rfl],by simp],λ_ _ _ _=>trivial,?_,?_]
  ·rintro m d k v t ⟨⟨a,b,c,F,e,f,g,rfl⟩,rfl⟩
   have t:(r.aa.map fD)[m]?=some d:=t
   rw[gQm] at t
   let#[l,B,rfl]:=oQm.mp t
   let U:=C l (mQg B)
   show aS ?_
   apply c9 (JN ?_)
   apply#[_,_,rfl,aM,?_]
   apply B9 (!0) ?_
   show#[_,aM,#[rfl,?_],#[_,_,_,_,_,_,_,rfl],?_]
   ·have:=G r w m
    erw[lQa,lQm]
    show wK (!0)
   ·rw[oA B,<-Qvq,Qzq]
    simp
  ·rintro k v ⟨I,rfl⟩
   show#[I,?_]
   have u:(r.aa.map fD).length=r.aa.length:=lQm ..
   rw[u,QEq,oA y]
   subst A
   erw[iI,Qvq]
 ·rintro k v ⟨⟨a,b,c,F,e,f,g,rfl⟩,rfl⟩
  have u:(s.aj.map dv.d).length=s.aj.length:=lQm ..
  rw[u,QEq]
  symm
  show Jw (Y _) (Qmq _) aM (bo λ_ _=>rfl) q
end
section
variable{S:aE}{Q:Res->aE->Prop}
noncomputable def BZ(s:bq)(h:Nat):Option cB:=(s.af[h]?).bind λp=>p.2.getLast?
noncomputable def jC(w:cT)(s:bq)(h:Nat):Bool:=match BZ s h with
 |some f=>decide (f.room= -1)&&decide (f.row=(((progOf w h f).getD []).length:Int))
 |none=>false
def tq{w:cT}{s:bq}{h:Nat}{vs:List Int}{fs:List cB}{f:cB}{pr:List Rw}(e:s.af[h]?=some (vs,fs))(b:fs.getLast? =some f)(a:progOf w h f=some pr)(q:Q (.d (.bl (jC w s h))) S):Fn gI [w.d,s.d,.int h] S Q:=by
 have g:jC w s h=(decide (f.room= -1)&&decide (f.row=(pr.length:Int))):=by
  unfold jC BZ
  rw[e]
  show(match fs.getLast? with|some f=>_|none=>_)=_
  rw[b]
  erw[a,Option.getD_some]
 rw[g] at q
 show bZ ?_
 unfold jA
 symm
 apply cz e b ?_
 apply mT ?_
 apply ax (d:=.int f.room) L ?_
 show eA ?_
 show#[_,L,?_]
 by_cases c:f.room= -1
 ·rw[Qeq c] at q|-
  rw[Qhq L]
  symm
  apply ax (d:=.int f.row) L ?_
  apply ic a ?_
  show eA ?_
  rw[lQm]
  show cQ (λk z=>(nomatch z)) L q
 ·rw[Qdq c] at q|-
  rw[Quq (!1)]
  show cQ (λk z=>(nomatch z)) L q
noncomputable def mE(w:cT)(s:bq):List Nat:=(List.range s.af.length).filter λh=> !decide ((h:Int)∈held s)&& !jC w s h
noncomputable def fW(h:Nat):D:=.int h
def Iq(w:cT)(s:bq):Prop:=∀(S:aE) (Q:Res->aE->Prop),Q (.l ((mE w s).map fW)) S->Fn i9 [w.d,s.d] S Q
def Cv{w:cT}{s:bq}(m:∀(S:aE) (Q:Res->aE->Prop),Q (.l ((held s).map D.int)) S->Fn fG [s.d] S Q)(k:∀h<s.af.length,∃vs fs f pr,s.af[h]?=some (vs,fs)/\fs.getLast? =some f/\progOf w h f=some pr)(p:s.af.length<=100):Iq w s:=by
 intro S Q q
 show bZ ?_
 unfold tR
 symm
 apply m _ _ ?_
 apply lM (α:=Nat) (λb=>∃a,b= [a,some w.d,some s.d,some (.ref S.length)]) (λ(i:Nat)=>D.int (0+(i:Int))) fW (λh=> !decide ((h:Int)∈held s)&& !jC w s h) #[none,L] ?_
 apply ax L ?_
 show#[_,L,?_,?_]
 ·erw[lQm]
  omega
 show#[List.range s.af.length,?_,trivial,by simp;omega,λh o b e=>?_,?_]
 ·erw[jG,lQm]
  rfl
 ·let#[a,rfl]:=e
  let#[vs,fs,f,pr,j,g,n]:=k h (List.mem_range.mp o)
  show aS #[L,#[_,L],?_]
  rw[Int.zero_add]
  apply pZ (cm (xV ?_))
  show a_ (ds:=(held s).map D.int) aM ?_
  show#[_,_,L,d0 _,?_]
  rw[lI]
  by_cases c:(h:Int)∈held s
  ·rw[Qeq c]
   show aG (λc=>by cases c) (λ_=>?_)
   show#[L,L,λc=>by cases c]
  ·rw[Qdq c]
   apply aG (λ_=>?_) (λc=>by cases c)
   show tq j g n ?_
   dsimp only[bg,aN,bf,bP,bV,fg]
   show sm ?_
   apply#[L,L,λ_=>?_]
   show#[L,L]
 ·show MU (sk.refl.app) (bo λ_ _=>rfl) q
def Ed{w:cT}{s b:bq}{h:Nat}{e:Xb}(f:Iq w s)(i:h∈mE w s)(a:xl w s h b e)(q:Q (.d (Ls b h e)) S):Fn rF [w.d,s.d,.int h] S Q:=by
 show bZ ?_
 unfold wD
 apply aI (bK (cm (xV ?_)))
 show f _ _ ?_
 dsimp only[bg,aN,bf,bP,bV,fg]
 have g:(mE w s).map fW=((mE w s).map λh:Nat=>(h:Int)).map D.int:=by rw[QPq];rfl
 show#[_,_,L,by rw[g];show d0 _,?_]
 rw[lI,Qeq (Qkq.mpr #[h,i,L])]
 apply aG (λc=>by cases c) (λ_=>bT ?_)
 show a _ _ ?_
 show cQ (λk z=>(nomatch z)) (vA _ _ _) q
end
structure lu(n:Nat)(r:Rm)(rs:dv):Prop where
 lv:r.ao.length=rs.vals.length
 lb:r.aa.length=rs.aa.length
 vv:∀v∈rs.vals,0<=v/\v<=9
 br:rs.row.length<=n
 bl:rs.ag.length<=n
 bb:∀l∈rs.aa,l.length<=n
structure Jy(w:cT)(h:Nat)(f:cB):Prop where
 pr:∃pr,progOf w h f=some pr/\0<=f.row/\f.row<=pr.length
 gv:0<=f.given/\f.given<=9
 tv:0<=f.told/\f.told<=9
def QM(w:cT)(h:Nat)(f:cB):Prop:=∃a g c b t,progOf w h f=some a/\1<=f.row/\a[(f.row-1).toNat]?=some (.do_ g c b t)
def kG:List cB->Prop
 | []=>False
 |f0::tl=>f0.room= -1/\∀f∈tl,f.room≠-1
structure kW(w:cT)(n h:Nat)(ts:List (Str×Nat))(vs:List Int)(fs:List cB):Prop where
 lv:ts.length=vs.length
 vv:∀v∈vs,0<=v/\v<=9
 lf:fs.length<=n
 fr:∀f∈fs,Jy w h f
 hd:kG fs
 ch:∀f∈fs.dropLast,QM w h f
structure cM(w:cT)(n:Nat)(s:bq):Prop where
 lr:w.aj.length=s.aj.length
 rm:∀(i:Nat) (r:Rm) (rs:dv),w.aj[i]?=some r->s.aj[i]?=some rs->lu n r rs
 lp:w.ai.length=s.ai.length
 ps:∀p∈s.ai,p.2.length<=n
 ls:w.ak.length=s.ak.length
 sv:∀v∈s.ak,0<=v/\v<=9
 lh:w.af.length=s.af.length
 hd:∀(h:Nat) (ts:List (Str×Nat)) (pr:List Rw) (vs:List Int) (fs:List cB),w.af[h]?=some (ts,pr)->s.af[h]?=some (vs,fs)->kW w n h ts vs fs
def lu.mono{n m:Nat}{r:Rm}{rs:dv}(h:lu n r rs)(l:n<=m):lu m r rs:=#[h.lv,h.lb,h.vv,QAq h.br l,QAq h.bl l,λx a=>QAq (h.bb x a) l]
def kW.mono{w:cT}{n m h:Nat}{ts:List (Str×Nat)}{vs:List Int}{fs:List cB}(x:kW w n h ts vs fs)(l:n<=m):kW w m h ts vs fs:=#[x.lv,x.vv,QAq x.lf l,x.fr,x.hd,x.ch]
def cM.mono{w:cT}{n m:Nat}{s:bq}(x:cM w n s)(l:n<=m):cM w m s:=#[x.lr,λi r c b a=>(x.rm i r c b a).mono l,x.lp,λp d=>QAq (x.ps p d) l,x.ls,x.sv,x.lh,λh f j e g b a=>(x.hd h f j e g b a).mono l]
def get_set{α:Type}{l:List α}{i j:Nat}{a b:α}(h:(l.set i a)[j]?=some b):(j=i/\b=a)\/(j≠i/\l[j]?=some b):=by
 rw[List.getElem?_set] at h
 split at h
 ·rename_i c
  split at h
  ·cases h;show .inl #[c.symm,L]
  ·cases h
 ·rename_i c
  show .inr #[λz=>c z.symm,h]
def cM.room{w:cT}{n i:Nat}{s:bq}{r:Rm}{d:dv}(x:cM w n s)(f:w.aj[i]?=some r)(g:lu n r d):cM w n {s with aj:=s.aj.set i d} where
 lr:=by simpa using x.lr
 rm:=λj e c b a=>by
  rcases get_set a with⟨rfl,rfl⟩|⟨_,a⟩
  ·rw[f] at b;cases b;show g
  ·show x.rm j e c b a
 lp:=x.lp
 ps:=x.ps
 ls:=x.ls
 sv:=x.sv
 lh:=x.lh
 hd:=x.hd
def cM.pass{w:cT}{n i:Nat}{s:bq}{p:Int×List Int}(x:cM w n s)(b:p.2.length<=n):cM w n {s with ai:=s.ai.set i p} where
 lr:=x.lr
 rm:=x.rm
 lp:=by simpa using x.lp
 ps:=λq a=>by
  rcases QTq a with a|rfl
  ·show x.ps q a
  ·show b
 ls:=x.ls
 sv:=x.sv
 lh:=x.lh
 hd:=x.hd
def cM.share{w:cT}{n:Nat}{s:bq}{vs:List Int}(x:cM w n s)(b:vs.length=s.ak.length)(a:∀v∈vs,0<=v/\v<=9):cM w n {s with ak:=vs}:=#[x.lr,x.rm,x.lp,x.ps,by rw[x.ls,<-b],a,x.lh,x.hd]
def cM.hand{w:cT}{n h:Nat}{s:bq}{ts:List (Str×Nat)}{pr:List Rw}{vs:List Int}{fs:List cB}(x:cM w n s)(i:w.af[h]?=some (ts,pr))(k:kW w n h ts vs fs):cM w n {s with af:=s.af.set h (vs,fs)} where
 lr:=x.lr
 rm:=x.rm
 lp:=x.lp
 ps:=x.ps
 ls:=x.ls
 sv:=x.sv
 lh:=by simpa using x.lh
 hd:=λj g a c d f b=>by
  rcases get_set b with⟨rfl,e⟩|⟨_,b⟩
  ·rw[i] at f;cases f;cases e;show k
  ·show x.hd j g a c d f b
def gq{α:Type}{l:List α}{a:α}(h:l.getLast? =some a):l=l.dropLast++ [a]:=by
 cases l with
 |nil=>cases h
 | cons x y=>
   have b:x::y≠[]:=by simp
   rw[List.getLast?_eq_some_getLast b] at h
   cases h
   show(List.dropLast_concat_getLast b).symm
def kG.last{fs:List cB}{f f':cB}:∀{b:List cB},kG (b++ [f])->f'.room=f.room->kG (b++ [f'])
 | [],h,e=>#[by rw[e];show h.1,λ_ z=>by cases z]
 | a::l,h,e=>⟨h.1,λx c=>by
   rcases mQa.mp c with c|c
   · show h.2 x (mQa.mpr (.inl c))
   · rw[Qfq.mp c,e];show h.2 f (mQa.mpr (.inr (Qfq.mpr L)))⟩
def kG.push{f':cB}:∀{fs:List cB},kG fs->f'.room≠-1->kG (fs++ [f'])
 | [],h,_=>h.elim
 | a::l,h,e=>⟨h.1,λx b=>by
   rcases mQa.mp b with b|b
   · show h.2 x b
   · rw[Qfq.mp b];show e⟩
def kG.pop{c f:cB}:∀{d:List cB},kG (d++ [c,f])->kG (d++ [c])
 | [],h=>#[h.1,λ_ z=>by cases z]
 | a::l,h=>⟨h.1,λx b=>h.2 x (by
   rcases mQa.mp b with b|b
   · show mQa.mpr (.inl b)
   · show mQa.mpr (.inr (by rw[Qfq.mp b];simp)))⟩
def kG.two{f:cB}:∀{b:List cB},kG (b++ [f])->f.room≠-1->∃d c,b=d++ [c]
 | [],h,e=>absurd h.1 e
 |a::l,h,e=>#[(a::l).dropLast,(a::l).getLast (by simp),(List.dropLast_concat_getLast (by simp)).symm]
section
variable{w:cT}{n h:Nat}{ts:List (Str×Nat)}{vs:List Int}{fs:List cB}{f f' b:cB}
def kW.setLast(x:kW w n h ts vs fs)(j:fs.getLast? =some f)(e:f'.room=f.room)(i:Jy w h f'):kW w n h ts vs (fs.dropLast++ [f']):=by
 let d:=gq j
 let c:=x.hd
 rw[d] at c
 show#[x.lv,x.vv,?_,λg a=>?_,kG.last (fs:=fs) c e,λg a=>?_]
 ·have:=congrArg List.length d
  have:=x.lf
  erw[lQa,Qnq,QGq] at *
  omega
 ·rcases mQa.mp a with a|a
  ·show x.fr g (List.dropLast_subset _ a)
  ·rw[Qfq.mp a];show i
 ·rw[List.dropLast_concat] at a
  show x.ch g a
def kW.push(x:kW w n h ts vs fs)(c:fs.getLast? =some f)(d:QM w h f)(e:f'.room≠-1)(i:Jy w h f'):kW w (n+1) h ts vs (fs++ [f']):=by
 show#[x.lv,x.vv,?_,λg a=>?_,x.hd.push e,λg a=>?_]
 ·have:=x.lf
  erw[lQa,Qnq,QGq]
  omega
 ·rcases mQa.mp a with a|a
  ·show x.fr g a
  ·rw[Qfq.mp a];show i
 ·rw[List.dropLast_concat,gq c] at a
  rcases mQa.mp a with a|a
  ·show x.ch g a
  ·rw[Qfq.mp a];show d
def kW.pop{c:List cB}(x:kW w n h ts vs (c++ [b,f])):kW w n h ts vs (c++ [b])/\QM w h b:=by
 have e:(c++ [b,f]).dropLast=c++ [b]:=by rw[show c++ [b,f]=(c++ [b])++ [f] by simp,List.dropLast_concat]
 let d:=x.ch
 rw[e] at d
 show#[#[x.lv,x.vv,?_,λg a=>x.fr g ?_,x.hd.pop,λg a=>d g ?_],d b (by simp)]
 ·have:=x.lf
  erw[lQa,Qnq,QGq] at *
  omega
 ·rcases mQa.mp a with a|a
  ·show mQa.mpr (.inl a)
  ·show mQa.mpr (.inr (by rw[Qfq.mp a];simp))
 ·rw[List.dropLast_concat] at a
  show mQa.mpr (.inl a)
def kW.vals{a:List Int}(x:kW w n h ts vs fs)(d:a.length=vs.length)(c:∀v∈a,0<=v/\v<=9):kW w n h ts a fs:=#[by rw[x.lv,d],c,x.lf,x.fr,x.hd,x.ch]
def kW.last(x:kW w n h ts vs fs):∃f,fs.getLast? =some f/\Jy w h f:=by
 have:=x.hd
 cases fs with
 |nil=>show this.elim
 | cons a l=>
   show#[_,List.getLast?_eq_some_getLast (by simp),x.fr _ (List.getLast_mem (by simp))]
end
def jo{w:cT}{h:Nat}{f:cB}{pr:List Rw}(a:progOf w h f=some pr):(f.room= -1/\∃ts,w.af[h]?=some (ts,pr))\/∃(i j:Nat) (r:Rm) (b:Str),f.room=i/\f.deed=j/\w.aj[i]?=some r/\r.ae[j]?=some (b,pr):=by
 unfold progOf at a
 split at a
 ·rename_i c
  let#[#[ts,g],e,d]:=oQm.mp a
  cases d
  show .inl #[c,ts,e]
 ·split at a
  ·rename_i c
   let#[r,e,d]:=au a
   let#[#[b,g],l,k]:=oQm.mp d
   cases k
   show .inr #[f.room.toNat,f.deed.toNat,r,b,by omega,by omega,e,l]
  ·cases a
def GK{w:cT}{h i j:Nat}{f:cB}{r:Rm}{a:Str}{pr:List Rw}(d:f.room=i)(b:f.deed=j)(e:w.aj[i]?=some r)(c:r.ae[j]?=some (a,pr)):progOf w h f=some pr:=by
 unfold progOf
 rw[Quq (!0),Qhq #[by omega,by omega],d,b]
 show(w.aj[i]?).bind _=_
 rw[e]
 show(r.ae[j]?).map _=_
 rw[c]
 rfl
noncomputable def A0(w:cT)(h:Nat)(f:cB):Option Sc:=if f.room= -1 then(w.af[h]?).map λp=>#[true,p.1.map (·.1)++w.ak.map (·.1),p.1.map (·.1)++w.ak.map (·.1),[],aX w.aj,w.ai.map (·.1)]
 else(w.aj[f.room.toNat]?).map λr=>#[false,r.ao.map (·.1)++fS,r.ao.map (·.1),r.aa.map (·.1),aX w.aj,[]]
def C0{w:cT}{h:Nat}{f:cB}{pr:List Rw}(o:eJ w)(d:progOf w h f=some pr):∃sc,A0 w h f=some sc/\xF sc pr:=by
 unfold A0
 rcases jo d with⟨c,k,a⟩|⟨i,j,r,g,a,l,b,e⟩
 ·rw[Qhq c,a]
  show#[_,L,(o.hd _ (mQg a)).pr]
 ·rw[Quq (!0),a]
  show#[_,by rw[show((i:Int)).toNat=i by omega,b];rfl,((o.rm _ (mQg b)).pr _ (mQg e)).1]
def Hd{w:cT}(o:eJ w):cM w 1 (cR w) where
 lr:=by simp[cR]
 rm:=λi r n c d=>by
  erw[cR,gQm,c,Option.map_some,Option.some.injEq] at d
  subst d
  let g:=o.rm r (mQg c)
  show#[by simp[cC,bS],by simp[cC],λv b=>?_,by simp[cC],by simp[cC],λl j=>?_]
  ·erw[cC,bS,Qkq] at b
   let#[p,a,rfl]:=b
   have:=g.tv p a
   omega
  ·erw[cC,Qkq] at j
   let#[p,a,rfl]:=j
   simp
 lp:=by simp[cR]
 ps:=λp a=>by
  erw[cR,Qkq] at a
  let#[p,a,rfl]:=a
  simp
 ls:=by simp[cR,bS]
 sv:=λv b=>by
  erw[cR,bS,Qkq] at b
  let#[p,a,rfl]:=b
  have:=o.sv p a
  omega
 lh:=by simp[cR]
 hd:=λh s k m q c d=>by
  erw[cR,gQm,c,Option.map_some,Option.some.injEq] at d
  cases d
  let g:=o.hd _ (mQg c)
  show#[by simp[bS],λv b=>?_,by simp,λf e=>?_,#[L,λ_ z=>by cases z],λf e=>by cases e]
  ·erw[bS,Qkq] at b
   let#[p,a,rfl]:=b
   have:=g.tv p a
   omega
  ·rw[Qfq.mp e]
   show#[#[k,?_,by decide,?_],by decide,by decide]
   ·unfold progOf
    rw[Qhq (show yj.room= -1 from L),c]
    rfl
   ·show(0:Int)<=_
    omega
noncomputable def Fi(s:bq)(h:Nat):List Int×List cB:=(s.af[h]?).getD ([],[])
noncomputable def P1(w:cT)(h:Nat):List (Str×Nat)×List Rw:=(w.af[h]?).getD ([],[])
noncomputable def kd(s:bq)(h:Nat):cB:=((Fi s h).2.getLast?).getD yj
noncomputable def Kh(w:cT)(i:Nat):Rm:=(w.aj[i]?).getD #["","",[],[],[]]
noncomputable def Dz(s:bq)(i:Nat):dv:=(s.aj[i]?).getD #[[],0,[],[],[]]
noncomputable def K4(s:bq)(k:Nat):Int×List Int:=(s.ai[k]?).getD (0,[])
noncomputable def E6(s:bq)(h:Nat)(f:cB):bq:={s with af:=s.af.set h ((Fi s h).1,(Fi s h).2.dropLast++ [f])}
noncomputable def eK(s:bq)(i:Nat)(r:dv):bq:={s with aj:=s.aj.set i r}
noncomputable def jy(s:bq)(k:Nat)(p:Int×List Int):bq:={s with ai:=s.ai.set k p}
def df(w:cT)(s:bq)(h:Nat)(t:Tr):Int:=
 if (kd s h).room= -1 then pE (numAt (rQ w s (P1 w h).1 (Fi s h).1)) (λ_=>0) t
 else pE (numAt (iT (Kh w (kd s h).room.toNat) (Dz s (kd s h).room.toNat) (kd s h).given)) (uB (Kh w (kd s h).room.toNat) (Dz s (kd s h).room.toNat)) t
def nu(w:cT)(s:bq)(h:Nat)(x:Str)(v:Int):bq:=
 if (kd s h).room= -1 then nF w s h (P1 w h).1 (Fi s h).1 (Fi s h).2 x v
 else eK s (kd s h).room.toNat {Dz s (kd s h).room.toNat with vals:=eU ((Kh w (kd s h).room.toNat).ao.map (·.1)) (Dz s (kd s h).room.toNat).vals x v}
def BP(r:Rm)(rs:dv)(b:Str)(v:Int)(h:Nat):dv:=
 dG {rs with aa:=rs.aa.set (c7 (r.aa.map (·.1)) b) (uZ ((rs.aa[c7 (r.aa.map (·.1)) b]?).getD []) (if ((r.aa[c7 (r.aa.map (·.1)) b]?).getD ("","")).2="turns" then v else 0) h)}
def iQ(w:cT)(s:bq)(h:Nat):Rw->bq
 |.put x t=>nu w s h x (df w s h t)
 |.unl t n=>if df w s h t=0 then E6 s h {kd s h with row:=n} else s
 |.go n=>E6 s h {kd s h with row:=n}
 |.do_ _ a c t=>eK {s with af:=s.af.set h ((Fi s h).1,(Fi s h).2++ [#[(c7 (w.aj.map (·.name)) a:Nat),(c7 ((Kh w (c7 (w.aj.map (·.name)) a)).ae.map (·.1)) c:Nat),0,df w s h t,0]])} (c7 (w.aj.map (·.name)) a) (gQ (Dz s (c7 (w.aj.map (·.name)) a)) h)
 |.wait b t=>eK s (kd s h).room.toNat (BP (Kh w (kd s h).room.toNat) (Dz s (kd s h).room.toNat) b (df w s h t) h)
 |.call b=>eK s (kd s h).room.toNat (nP (decide ((Kh w (kd s h).room.toNat).ah="when free")) (Dz s (kd s h).room.toNat) (c7 ((Kh w (kd s h).room.toNat).aa.map (·.1)) b) h)
 |.all b=>eK s (kd s h).room.toNat {Dz s (kd s h).room.toNat with aa:=(Dz s (kd s h).room.toNat).aa.set (c7 ((Kh w (kd s h).room.toNat).aa.map (·.1)) b) []}
 |.tell t=>E6 s h {kd s h with told:=df w s h t}
 |.take p=>jy s (c7 (w.ai.map (·.1)) p) (gS (K4 s (c7 (w.ai.map (·.1)) p)) h)
 |.give p=>jy s (c7 (w.ai.map (·.1)) p) (fj (K4 s (c7 (w.ai.map (·.1)) p)))
 |.pass p q=>jy (jy s (c7 (w.ai.map (·.1)) p) (fj (K4 s (c7 (w.ai.map (·.1)) p)))) (c7 (w.ai.map (·.1)) q) (gS (K4 (jy s (c7 (w.ai.map (·.1)) p) (fj (K4 s (c7 (w.ai.map (·.1)) p)))) (c7 (w.ai.map (·.1)) q)) h)
 |.say _=>s
noncomputable def mD(s:bq)(h:Nat):bq:=eK {s with af:=s.af.set h ((Fi s h).1,(Fi s h).2.dropLast)} (kd s h).room.toNat (dG (Dz s (kd s h).room.toNat))
noncomputable def JX(w:cT)(s:bq)(h:Nat):Option Rw:=(progOf w h (kd s h)).bind λa=>a[((kd s h).row-1).toNat]?
def rj(w:cT)(s:bq)(h:Nat):bq:=match JX w (mD s h) h with
 |some (.do_ (some x) _ _ _)=>nu w (mD s h) h x (kd s h).told
 |_=>mD s h
noncomputable def iS(s:bq)(h:Nat):bq:=E6 s h {kd s h with row:=(kd s h).row+1}
def DC(w:cT)(s:bq)(h:Nat):Rw->Option Int
 |.say t=>some (df w s h t)
 |_=>none
def dS(w:cT)(s:bq)(h:Nat):bq×Option Int:=
 if (kd s h).room≠-1/\(Dz s (kd s h).room.toNat).within≠h then(eK s (kd s h).room.toNat (gQ (Dz s (kd s h).room.toNat) h),none)
 else match progOf w h (kd s h) with
  |none=>(s,none)
  | some a=>if (kd s h).row=a.length then(rj w s h,none) else match a[(kd s h).row.toNat]? with
    |none=>(s,none)
    |some r=>(iQ w (iS s h) h r,DC w s h r)
section
variable{w:cT}{h:Nat}{s:bq}{vs:List Int}{fs:List cB}{f:cB}
def hU(a:s.af[h]?=some (vs,fs)):Fi s h=(vs,fs):=by unfold Fi;rw[a];rfl
def eX(a:s.af[h]?=some (vs,fs))(b:fs.getLast? =some f):kd s h=f:=by unfold kd;rw[hU a];show(fs.getLast?).getD _=f;rw[b];rfl
def Ai{p:List (Str×Nat)×List Rw}(a:w.af[h]?=some p):P1 w h=p:=by unfold P1;rw[a];rfl
def iK{i:Nat}{r:Rm}(a:w.aj[i]?=some r):Kh w i=r:=by unfold Kh;rw[a];rfl
def dZ{i:Nat}{r:dv}(a:s.aj[i]?=some r):Dz s i=r:=by unfold Dz;rw[a];rfl
def nR{i:Nat}{p:Int×List Int}(a:s.ai[i]?=some p):K4 s i=p:=by unfold K4;rw[a];rfl
def ie{g:cB}(a:s.af[h]?=some (vs,fs)):E6 s h g={s with af:=s.af.set h (vs,fs.dropLast++ [g])}:=by unfold E6;rw[hU a]
end
section
variable{w:cT}{n h:Nat}{s:bq}{vs:List Int}{fs:List cB}{f:cB}{sc:Sc}
def cM.whand(x:cM w n s)(b:s.af[h]?=some (vs,fs)):∃ts pr,w.af[h]?=some (ts,pr)/\kW w n h ts vs fs:=by
 have a:h<w.af.length:=by rw[x.lh];show(gQs.mp b).1
 show#[_,_,gQe a,x.hd h _ _ vs fs (gQe a) b]
def cM.wroom{i:Nat}{r:Rm}(x:cM w n s)(a:w.aj[i]?=some r):∃rs,s.aj[i]?=some rs/\lu n r rs:=by
 have b:i<s.aj.length:=by rw[<-x.lr];show(gQs.mp a).1
 show#[_,gQe b,x.rm i r _ a (gQe b)]
def fV{t:Sc}(a:A0 w h f=some t):(f.room= -1/\∃ts pr,w.af[h]?=some (ts,pr)/\t=#[true,ts.map (·.1)++w.ak.map (·.1),ts.map (·.1)++w.ak.map (·.1),[],aX w.aj,w.ai.map (·.1)])∨
  (f.room≠-1/\∃r,w.aj[f.room.toNat]?=some r/\t=#[false,r.ao.map (·.1)++fS,r.ao.map (·.1),r.aa.map (·.1),aX w.aj,[]]):=by
 unfold A0 at a
 split at a
 ·rename_i c
  let#[#[ts,pr],d,b]:=oQm.mp a
  show .inl #[c,ts,pr,d,b.symm]
 ·rename_i c
  let#[r,d,b]:=oQm.mp a
  show .inr #[c,r,d,b.symm]
def gV(x:Jy w h f)(c:f.room≠-1):f.room=(f.room.toNat:Int):=by
 let#[e,a,_]:=x.pr
 rcases jo a with⟨b,_⟩|⟨i,_,_,_,d,_⟩
 ·show absurd b c
 ·omega
def lJ{t:Tr}(o:eJ w)(x:cM w n s)(d:s.af[h]?=some (vs,fs))(j:fs.getLast? =some f)(A:A0 w h f=some sc)(ht:Fh sc t):(0<=df w s h t/\df w s h t<=9)/\EY w s h t (df w s h t):=by
 let#[z,L,m,k]:=x.whand d
 let F:=o.hd _ (mQg m)
 let p:=k.fr f (QcQ j)
 let K:=o.l3
 let G:=F.l1
 let B:=x.ls
 rcases fV A with⟨c,C,H,e,rfl⟩|⟨c,r,hr,rfl⟩
 ·rw[m] at e
  cases e
  have b:jE (rQ w s z vs):=jE.merge (eF x.sv) (eF k.vv)
  have u:df w s h t=pE (numAt (rQ w s z vs)) (λ_=>0) t:=by unfold df;rw[eX d j,Qhq c,Ai m,hU d]
  rw[u]
  show#[?_,λS Q q=>Bj m d j c B k.lv (!0) (by dsimp only at G;omega) x.sv k.vv ht.1 (by have:=ht.2;omega) q]
  show i8 (ws:=z.map (·.1)++w.ak.map (·.1)) (bs:= []) (λy a=>?_) ht.1
  show(iC b (fF ?_)).2
  rcases mQa.mp a with a|a
  ·show .inr (dH k.lv a)
  ·show .inl (dH B a)
 ·let#[v,i,l]:=x.wroom hr
  let g:=o.rm r (mQg hr)
  let I:=g.l1
  let J:=g.l2
  have b:jE (iT r v f.given):=(eF l.vv).put p.gv.1 p.gv.2
  have u:df w s h t=pE (numAt (iT r v f.given)) (uB r v) t:=by unfold df;rw[eX d j,Quq c,iK hr,dZ i]
  rw[u]
  show#[?_,λS Q q=>xX d j (gV p c) hr i l.lv l.lb (!0) (!0) l.vv p.gv ht.1 (by have:=ht.2;omega) q]
  show i8 (ws:=r.ao.map (·.1)++fS) (bs:=r.aa.map (·.1)) (λy a=>?_) ht.1
  show(iC b (kH ?_)).2
  rcases mQa.mp a with a|a
  ·show .inr (dH l.lv a)
  ·left
   rw[Qfq.mp a]
def qp{ns:X6}{y:Str}{v:Int}{a:List Int}(d:∀v∈a,0<=v/\v<=9)(c:0<=v/\v<=9):(eU ns a y v).length=a.length/\∀u∈eU ns a y v,0<=u/\u<=9:=by
 unfold eU
 show#[by simp,λz b=>?_]
 rcases QTq b with b|rfl
 ·show d z b
 ·show c
def Fu{y:Str}{v:Int}(o:eJ w)(x:cM w n s)(b:s.af[h]?=some (vs,fs))(j:fs.getLast? =some f)(u:A0 w h f=some sc)(A:y∈sc.ps)(t:0<=v/\v<=9):Puts w s h y v (nu w s h y v)/\cM w n (nu w s h y v):=by
 let#[B,M,i,l]:=x.whand b
 let F:=o.hd _ (mQg i)
 let I:=l.fr f (QcQ j)
 let J:=o.l1
 let L:=o.l3
 let G:=F.l1
 let N:=o.l4
 let R:=x.lr
 let P:=x.lh
 rcases fV u with⟨c,C,H,e,rfl⟩|⟨c,r,hr,rfl⟩
 ·rw[i] at e
  cases e
  have m:nu w s h y v=nF w s h B vs fs y v:=by unfold nu;rw[eX b j,Qhq c,Ai i,hU b]
  rw[m]
  show#[λS Q q=>Kz i b j c x.ls l.lv (!0) (by dsimp only at G;omega) (!0) A q,?_]
  unfold nF
  split
  ·let#[d,k]:=qp (ns:=w.ak.map (·.1)) (y:=y) x.sv t
   show x.share d k
  ·let#[d,k]:=qp (ns:=B.map (·.1)) (y:=y) l.vv t
   show x.hand i (l.vals d k)
 ·let#[z,g,a]:=x.wroom hr
  let p:=o.rm r (mQg hr)
  let K:=p.l1
  have m:nu w s h y v={s with aj:=s.aj.set f.room.toNat {z with vals:=eU (r.ao.map (·.1)) z.vals y v}}:=by unfold nu;rw[eX b j,Quq c,iK hr,dZ g];rfl
  rw[m]
  show#[λS Q q=>Ke b j (gV I c) hr g a.lv (!0) (!0) A q,?_]
  let#[d,k]:=qp (ns:=r.ao.map (·.1)) (y:=y) a.vv t
  show x.room hr #[by rw[a.lv,<-d],a.lb,k,a.br,a.bl,a.bb]
def cM.goes{m:Int}{pr:List Rw}(x:cM w n s)(k:s.af[h]?=some (vs,fs))(a:fs.getLast? =some f)(d:progOf w h f=some pr)(i:0<=m)(g:m<=pr.length):cM w n {s with af:=s.af.set h (vs,fs.dropLast++ [{f with row:=m}])}:=by
 let#[l,j,e,c]:=x.whand k
 let b:=c.fr f (QcQ a)
 show x.hand e (c.setLast a L #[#[pr,d,i,g],b.gv,b.tv])
def cM.tells{v:Int}(x:cM w n s)(i:s.af[h]?=some (vs,fs))(a:fs.getLast? =some f)(e:0<=v/\v<=9):cM w n {s with af:=s.af.set h (vs,fs.dropLast++ [{f with told:=v}])}:=by
 let#[j,g,d,b]:=x.whand i
 let c:=b.fr f (QcQ a)
 show x.hand d (b.setLast a L #[c.pr,c.gv,e])
def lu.come{r:Rm}{rs:dv}{k:Int}(x:lu n r rs):lu (n+1) r (gQ rs k):=by
 unfold gQ
 have:=x.br
 split
 ·show#[x.lv,x.lb,x.vv,by show rs.row.length<=_;omega,Nat.le_succ_of_le x.bl,λl a=>Nat.le_succ_of_le (x.bb l a)]
 ·show#[x.lv,x.lb,x.vv,by simp;omega,Nat.le_succ_of_le x.bl,λl a=>Nat.le_succ_of_le (x.bb l a)]
def lu.leave{r:Rm}{rs:dv}(x:lu n r rs):lu n r (dG rs):=by
 let#[e,b,c,i,j]:=rs
 let g:=x.br
 let d:=x.bl
 unfold dG
 dsimp only at g d|-
 cases i with
 |cons a l=>show#[x.lv,x.lb,x.vv,x.br,by simp at d;show l.length<=n;omega,x.bb]
 | nil=>
   cases c with
   |cons a l=>show#[x.lv,x.lb,x.vv,by simp at g;show l.length<=n;omega,x.bl,x.bb]
   |nil=>show#[x.lv,x.lb,x.vv,x.br,x.bl,x.bb]
def lu.line{r:Rm}{rs:dv}{b:Nat}{l:List (Int×Int)}(x:lu n r rs)(c:l.length<=n):lu n r {rs with aa:=rs.aa.set b l}:=⟨x.lv,by simp;show x.lb,x.vv,x.br,x.bl,λk a=>by
 rcases QTq a with a|rfl
 ·show x.bb k a
 ·show c⟩
def lu.call{r:Rm}{rs:dv}{b:Nat}{k:Int}{c:Bool}(x:lu n r rs):lu (n+1) r (nP c rs b k):=by
 unfold nP
 split
 ·rename_i p l e
  let a:=x.bb _ (mQg e)
  let y:=(x.mono (Nat.le_succ n)).line (b:=b) (l:=l) (by simp at a;omega)
  let z:=x.bl
  split
  ·show y
  ·show#[y.lv,y.lb,y.vv,y.br,by simp;omega,y.bb]
 ·show x.mono (Nat.le_succ n)
def Ja{l:List (Int×Int)}{a b:Int}:(uZ l a b).length=l.length+1:=by
 unfold uZ
 have:=List.length_filter_le (λp:Int×Int=>decide (p.1<=a)) l
 erw[lQa,Qxq,List.length_drop,Qnq,QGq]
 omega
def Gc{a c:Str}(o:eJ w)(g:(a,c)∈aX w.aj):a∈w.aj.map (·.name)/\∃r,w.aj[c7 (w.aj.map (·.name)) a]?=some r/\c∈r.ae.map (·.1):=by
 unfold aX at g
 let#[r,d,k]:=QOq.mp g
 let#[p,l,e]:=Qkq.mp k
 cases e
 have b:r.name∈w.aj.map (·.name):=Qkq.mpr #[r,d,L]
 show#[b,r,?_,Qkq.mpr #[p,l,L]]
 let#[t,m]:=iG b
 let#[i,j,e]:=QbQ d
 have q:(w.aj.map (·.name))[i]?=some r.name:=by rw[gQm,gQe j,e];rfl
 rw[mK o.nd m q,gQe j,e]
def FU{r:Rw}{pr:List Rw}(o:eJ w)(x:cM w n s)(hn:n<=100)(A:s.af[h]?=some (vs,fs))(G:fs.getLast? =some f)(hp:progOf w h f=some pr)(h1:1<=f.row)(Z:pr[(f.row-1).toNat]?=some r):MQ w s h r (iQ w s h r)/\cM w (n+1) (iQ w s h r):=by
 let e1:=hU A
 let e2:=eX A G
 let#[sc,C,b9]:=C0 o hp
 let b:=b9 r (mQg Z)
 let#[ts,a1,hw,hi]:=x.whand A
 let fi:=hi.fr f (QcQ G)
 let b1:=o.l1
 let b2:=o.l2
 let b3:=o.l3
 let b4:=o.l4
 let lr:=x.lr
 let lp:=x.lp
 let lh:=x.lh
 let lf:=hi.lf
 let R:=x.mono (Nat.le_succ n)
 have F:sc.own=false->∃(i:Nat) (r:Rm) (I:dv),f.room=i/\w.aj[i]?=some r/\s.aj[i]?=some I/\lu n r I/\yt (aX w.aj) r/\sc.bs=r.aa.map (·.1):=λho=>by
  rcases fV C with⟨c,a3,a1,a5,rfl⟩|⟨c,r,H,rfl⟩
  ·cases ho
  ·let#[I,j,L]:=x.wroom H
   show#[_,r,I,gV fi c,H,j,L,o.rm r (mQg H),rfl]
 have K:sc.own=true->sc.ts=w.ai.map (·.1):=λho=>by
  rcases fV C with⟨c,a3,a1,a5,rfl⟩|⟨c,r,H,rfl⟩
  ·rfl
  ·cases ho
 have k:∀y,y∈w.ai.map (·.1)->∀ps:List (Int×List Int),w.ai.length=ps.length->∃p,ps[c7 (w.ai.map (·.1)) y]?=some p:=λy u ps hl=>by
  have:=(iG u).1
  rw[lQm] at this
  show#[_,gQe (!0)]
 have U:∀p:Int×List Int,p.2.length<=n->(gS p h).2.length<=n+1:=λp hp=>by
  unfold gS
  split
  ·show p.2.length<=_;omega
  ·simp;omega
 have N:∀p:Int×List Int,p.2.length<=n->(fj p).2.length<=n:=λp hp=>by
  let#[v,l]:=p
  unfold fj
  cases l with
  |nil=>simp
  |cons a l=>simp at hp;show l.length<=n;omega
 cases r with
 | put y t=>
   let#[Y,H]:=lJ o x A G C b.2
   let#[e,b8]:=Fu o x A G C b.1 Y
   show#[λS Q q=>GF H e q,b8.mono (Nat.le_succ n)]
 | unl t m=>
   let#[Y,H]:=lJ o x A G C b.1
   have B:iQ w s h (.unl t m)=if df w s h t=0 then{s with af:=s.af.set h (vs,fs.dropLast++ [{f with row:=m}])} else s:=by erw[iQ,e2,ie A]
   rw[B]
   show#[λS Q q=>zx H A G (!0) (!0) q,?_]
   split
   · show R.goes A G hp (!0) (by have:=b.2;omega)
   · show R
 | go m=>
   have B:iQ w s h (.go m)={s with af:=s.af.set h (vs,fs.dropLast++ [{f with row:=m}])}:=by erw[iQ,e2,ie A]
   rw[B]
   show#[λS Q q=>JS A G (!0) (!0) q,R.goes A G hp (!0) (by have:m<=pr.length:=b;omega)]
 | do_ g W X t=>
   let#[Y,H]:=lJ o x A G C b.2.2
   have ev:iQ w s h (.do_ g W X t)=iQ w s h (.do_ g W X t):=rfl
   generalize c3:df w s h t=v at Y H
   have c1:sc.gs=aX w.aj:=by
     rcases fV C with⟨c,a3,a1,a5,rfl⟩|⟨c,r,H,rfl⟩ <;>rfl
   let a8:=b.2.1
   rw[c1] at a8
   let#[a9,r,d,a4]:=Gc o a8
   let#[I,j,L]:=x.wroom d
   let J:=o.rm r (mQg d)
   let b5:=J.l3
   let b6:=L.br
   have B:iQ w s h (.do_ g W X t)={s with af:=s.af.set h (vs,fs++ [⟨(c7 (w.aj.map (·.name)) W:Nat),(c7 (r.ae.map (·.1)) X:Nat),0,v,0⟩]),aj:=s.aj.set (c7 (w.aj.map (·.name)) W) (gQ I h)}:=by erw[iQ,e1,iK d,dZ j,c3,eK]
   rw[B]
   show⟨λS Q q=>JE H A a9 d j a4 (!0) (!0) (!0) (!0) (!0) (!0) q,?_⟩
   let c0:=iG a4
   let a6:=c0.1
   rw[lQm] at a6
   obtain⟨⟨c4,a7⟩,c2⟩:∃p,r.ae[c7 (r.ae.map (·.1)) X]?=some p:=#[_,gQe a6]
   have pf:progOf w h ⟨(c7 (w.aj.map (·.name)) W:Nat),(c7 (r.ae.map (·.1)) X:Nat),0,v,0⟩=some a7:=GK rfl rfl d c2
   let hh:=hi.push (f':=#[(c7 (w.aj.map (·.name)) W:Nat),(c7 (r.ae.map (·.1)) X:Nat),0,v,0]) G #[pr,g,W,X,t,hp,h1,Z] (by show((c7 (w.aj.map (·.name)) W:Nat):Int)≠-1;omega) #[#[a7,pf,by show(0:Int)<=0;omega,by show(0:Int)<=_;omega],Y,by show(0:Int)<=0/\(0:Int)<=9;omega]
   show(R.hand hw hh).room d L.come
 | wait y t=>
   let#[i,r,I,P,d,j,L,J,M]:=F b.1
   let#[Y,H]:=lJ o x A G C b.2.2
   let u:=b.2.1
   rw[M] at u
   let b6:=J.l2
   let lb:=L.lb
   let#[k1,k2]:=iG u
   rw[lQm] at k1
   rw[gQm] at k2
   let#[#[y',so],k3,k4]:=oQm.mp k2
   have k4:y'=y:=k4
   subst k4
   obtain⟨a0,hl⟩:∃l,I.aa[c7 (r.aa.map (·.1)) y']?=some l:=#[_,gQe (!0)]
   let ll:=L.bb a0 (mQg hl)
   have ti:f.room.toNat=i:=by omega
   have B:iQ w s h (.wait y' t)={s with aj:=s.aj.set i (dG {I with aa:=I.aa.set (c7 (r.aa.map (·.1)) y') (uZ a0 (if so="turns" then df w s h t else 0) h)})}:=by erw[iQ,BP,eK,e2,ti,iK d,dZ j,hl,k3,Option.getD_some]
   rw[B]
   show#[λS Q q=>Es A G P d j (!0) lb (!0) u k3 hl (!0) H q,?_]
   show R.room d (((L.mono (Nat.le_succ n)).line (by rw[Ja];omega)).leave)
 | call y=>
   let#[i,r,I,P,d,j,L,J,M]:=F b.1
   let u:=b.2
   rw[M] at u
   let b6:=J.l2
   let b7:=L.bl
   have ti:f.room.toNat=i:=by omega
   have B:iQ w s h (.call y)={s with aj:=s.aj.set i (nP (decide (r.ah="when free")) I (c7 (r.aa.map (·.1)) y) h)}:=by erw[iQ,eK,e2,ti,iK d,dZ j]
   rw[B]
   show#[λS Q q=>EJ A G P d j (!0) L.lb (!0) (!0) u q,?_]
   show R.room d L.call
 | all y=>
   let#[i,r,I,P,d,j,L,J,M]:=F b.1
   let u:=b.2
   rw[M] at u
   let b6:=J.l2
   have ti:f.room.toNat=i:=by omega
   have B:iQ w s h (.all y)={s with aj:=s.aj.set i {I with aa:=I.aa.set (c7 (r.aa.map (·.1)) y) []}}:=by erw[iQ,eK,e2,ti,iK d,dZ j]
   rw[B]
   show#[λS Q q=>GG A G P d j (!0) L.lb (!0) u q,?_]
   show R.room d ((L.mono (Nat.le_succ n)).line (by simp))
 | tell t=>
   let#[Y,H]:=lJ o x A G C b.2
   have B:iQ w s h (.tell t)={s with af:=s.af.set h (vs,fs.dropLast++ [{f with told:=df w s h t}])}:=by erw[iQ,e2,ie A]
   rw[B]
   show#[λS Q q=>E3 H A G (!0) (!0) q,R.tells A G Y]
 | take y=>
   let u:=b.2
   rw[K b.1] at u
   let#[p,e]:=k y u s.ai lp
   let pl:=x.ps p (mQg e)
   have B:iQ w s h (.take y)={s with ai:=s.ai.set (c7 (w.ai.map (·.1)) y) (gS p h)}:=by erw[iQ,jy,nR e]
   rw[B]
   show#[λS Q q=>Eh u e (!0) (!0) (!0) q,R.pass (U p pl)]
 | give y=>
   let u:=b.2
   rw[K b.1] at u
   let#[p,e]:=k y u s.ai lp
   let pl:=x.ps p (mQg e)
   have B:iQ w s h (.give y)={s with ai:=s.ai.set (c7 (w.ai.map (·.1)) y) (fj p)}:=by erw[iQ,jy,nR e]
   rw[B]
   show#[λS Q q=>DT u e (!0) (!0) q,R.pass (Nat.le_succ_of_le (N p pl))]
 | pass y z=>
   let u:=b.2.1
   let hz:=b.2.2
   rw[K b.1] at u hz
   let#[p,e]:=k y u s.ai lp
   let pl:=x.ps p (mQg e)
   have x2:cM w n _:=x.pass (i:=c7 (w.ai.map (·.1)) y) (N p pl)
   let#[p2,a2]:=k z hz (s.ai.set (c7 (w.ai.map (·.1)) y) (fj p)) (by simpa using lp)
   let b0:=x2.ps p2 (mQg a2)
   have B:iQ w s h (.pass y z)={s with ai:=(s.ai.set (c7 (w.ai.map (·.1)) y) (fj p)).set (c7 (w.ai.map (·.1)) z) (gS p2 h)}:=by
     have e3:K4 (jy s (c7 (w.ai.map (·.1)) y) (fj p)) (c7 (w.ai.map (·.1)) z)=p2:=nR a2
     erw[iQ,nR e]
     rw[e3]
     rfl
   rw[B]
   show#[λS Q q=>EV u hz e (!0) (!0) (!0) a2 q,(x2.mono (Nat.le_succ n)).pass (U p2 b0)]
 |say t=>show#[λS Q q=>GO (sd:=.non) q,R]
end
section
variable{w:cT}{n h:Nat}{s:bq}{vs:List Int}{fs:List cB}{f:cB}{sc:Sc}
def cM.mays(o:eJ w)(x:cM w n s)(t:n<=100):Iq w s:=by
 let v:=o.l1
 let A:=o.l2
 let B:=o.l4
 let G:=x.lr
 let y:=x.lp
 let C:=x.lh
 show Cv (λS Q q=>tZ t (!0) (!0) x.ps (λk c=>?_) q) (λh r=>?_) (!0)
 ·let#[i,g,e]:=QbQ c
  have a:s.aj[i]?=some k:=by rw[gQe g,e]
  have d:w.aj[i]?=some (w.aj[i]'(!0)):=gQe (!0)
  let b:=x.rm i _ k d a
  have:=(o.rm _ (mQg d)).l2
  have:=b.lb
  show⟨b.br,b.bl,by omega,b.bb⟩
 ·obtain⟨⟨vs,fs⟩,a⟩:∃p,s.af[h]?=some p:=#[_,gQe r]
  let#[F,z,d,g]:=x.whand a
  let#[f,l,u]:=g.last
  let#[j,m,_]:=u.pr
  show#[vs,fs,f,j,a,l,m]
def KH(o:eJ w)(x:cM w n s)(hn:n<=100)(hm:h∈mE w s)(b:s.af[h]?=some (vs,fs))(p:fs.getLast? =some f):xl w s h (dS w s h).1 (dS w s h).2/\cM w (n+1) (dS w s h).1:=by
 let e1:=hU b
 let M:=eX b p
 let#[ts,a3,hw,hi]:=x.whand b
 let fi:=hi.fr f (QcQ p)
 let#[pr,k,R,a5]:=fi.pr
 let b1:=o.l1
 let b4:=o.l4
 let lr:=x.lr
 let lh:=x.lh
 let lf:=hi.lf
 have nb:¬(f.room= -1/\f.row=pr.length):=by
  rintro⟨c1,c2⟩
  have:=(List.mem_filter.mp hm).2
  rw[QCq] at this
  have hb:jC w s h=true:=by
   unfold jC BZ
   rw[b]
   show(match fs.getLast? with|some f=>_|none=>_)=_
   rw[p]
   erw[k,Option.getD_some,c1,c2,decide_true,Bool.and_true]
  rw[hb] at this
  show absurd this.2 (!1)
 by_cases c:f.room= -1
 ·
  have G:pr=a3:=by
   unfold progOf at k
   rw[Qhq c,hw] at k
   cases k;rfl
  subst G
  have J:f.row.toNat<pr.length:=by
   have:f.row≠pr.length:=λz=>nb #[c,z]
   omega
  have a:pr[f.row.toNat]?=some (pr[f.row.toNat]):=gQe J
  generalize pr[f.row.toNat]=r at a
  let#[sc,I,H]:=C0 o k
  let l:=H r (mQg a)
  have P:NB w s h r (DC w s h r):=by
   cases r with
   |say t=>show#[_,rfl,(lJ o x b p I l.2).2]
   |_=>rfl
  have C:dS w s h=(iQ w {s with af:=s.af.set h (vs,fs.dropLast++ [{f with row:=f.row+1}])} h r,DC w s h r):=by
   unfold dS iS
   rw[M,Quq (λz=>z.1 c),k]
   simp only
   rw[Quq (λz=>nb #[c,z]),a,ie b]
  rw[C]
  let L:=x.goes b p k (m:=f.row+1) (!0) (!0)
  have U:h<s.af.length:=(gQs.mp b).1
  let#[N,u]:=FU (f:={f with row:=f.row+1}) (r:=r) (pr:=pr) o L hn (Qyq U) (by simp) k (by show 1<=f.row+1;omega) (by show pr[(f.row+1-1).toNat]?=_;rw[show f.row+1-1=f.row by omega];show a)
  show#[Cb b p (.inl c) k R a (!0) (!0) P N,u]
 ·
  rcases jo k with⟨c',_⟩|⟨i,j,r,dn,h1,h2,Z,h4⟩
  ·show absurd c' c
  let#[K,d,ri]:=x.wroom Z
  let br:=ri.br
  have ti:f.room.toNat=i:=by omega
  by_cases W:K.within=h
  ·have A:Here s h f:=.inr #[i,K,h1,d,W]
   by_cases ce:f.row=pr.length
   ·
    let X:=gq p
    let N:=hi.hd
    rw[X] at N
    let#[F,B,hg]:=N.two c
    have a1:fs=F++ [B,f]:=by rw[X,hg];simp
    subst a1
    let#[a0,a4]:=hi.pop
    let#[a6,g,rn,a2,t,p1,p2,Y]:=a4
    have eo:mD s h={s with aj:=s.aj.set i (dG K),af:=s.af.set h (vs,F++ [B])}:=by
     unfold mD
     rw[M,e1,ti,dZ d]
     erw[eK]
     rw[show F++ [B,f]=(F++ [B])++ [f] by simp,List.dropLast_concat]
    have ho:(mD s h).af[h]?=some (vs,F++ [B]):=by rw[eo];show Qyq (gQs.mp b).1
    have eb:JX w (mD s h) h=some (.do_ g rn a2 t):=by
     unfold JX
     rw[eX ho (f:=B) (by simp),p1]
     show Y
    have C:dS w s h=(rj w s h,none):=by
     unfold dS
     rw[M,ti,dZ d,Quq (λz=>z.2 W),k]
     simp only
     rw[Qhq ce]
    have L:cM w n {s with aj:=s.aj.set i (dG K),af:=s.af.set h (vs,F++ [B])}:=(x.hand hw a0).room Z ri.leave
    let#[sc,I,H]:=C0 o p1
    let l:=H _ (mQg Y)
    have U:h<s.af.length:=(gQs.mp b).1
    cases g with
    | none=>
      have ee:rj w s h={s with aj:=s.aj.set i (dG K),af:=s.af.set h (vs,F++ [B])}:=by unfold rj;rw[eb];show eo
      rw[C,ee]
      show#[BK b p A k ce λS Q q=>ug b h1 d (!0) (!0) p1 p2 Y (λ_ e=>e.symm) q,L.mono (Nat.le_succ n)]
    | some y=>
      let#[G,u]:=Fu (y:=y) (v:=f.told) o L (Qyq U) (by simp) I (l.1 y rfl) fi.tv
      have ee:rj w s h=nu w {s with aj:=s.aj.set i (dG K),af:=s.af.set h (vs,F++ [B])} h y f.told:=by unfold rj;rw[eb,eo,M]
      rw[C,ee]
      show#[BK b p A k ce λS Q q=>ug b h1 d (!0) (!0) p1 p2 Y (λ_ e=>by rw[e];show G) q,u.mono (Nat.le_succ n)]
   ·
    have J:f.row.toNat<pr.length:=by omega
    have a:pr[f.row.toNat]?=some (pr[f.row.toNat]):=gQe J
    generalize pr[f.row.toNat]=r' at a
    let l:=((o.rm _ (mQg Z)).pr _ (mQg h4)).1 r' (mQg a)
    have he:NB w s h r' none:=by
     cases r' with
     |say t=>show absurd l.1 (show¬(false=true) by decide)
     |_=>rfl
    let L:=x.goes b p k (m:=f.row+1) (!0) (!0)
    have U:h<s.af.length:=(gQs.mp b).1
    have C:dS w s h=(iQ w {s with af:=s.af.set h (vs,fs.dropLast++ [{f with row:=f.row+1}])} h r',none):=by
     unfold dS iS
     rw[M,ti,dZ d,Quq (λz=>z.2 W),k]
     simp only
     rw[Quq ce,a,ie b]
     show congrArg (Prod.mk _) ?_
     cases r' with
     |say t=>show absurd l.1 (show¬(false=true) by decide)
     |_=>rfl
    rw[C]
    let#[N,u]:=FU (f:={f with row:=f.row+1}) (r:=r') (pr:=pr) o L hn (Qyq U) (by simp) k (by show 1<=f.row+1;omega) (by show pr[(f.row+1-1).toNat]?=_;rw[show f.row+1-1=f.row by omega];show a)
    show#[Cb b p A k R a (!0) (!0) he N,u]
  ·
   have C:dS w s h=({s with aj:=s.aj.set i (gQ K h)},none):=by
    unfold dS
    rw[M,ti,dZ d,Qhq #[c,W]]
    rfl
   rw[C]
   show#[HA b p h1 d W (!0) (!0),(x.mono (Nat.le_succ n)).room Z ri.come]
end
abbrev Cell:=Nat×O
def vQ(S:aE)(L:List Cell):Prop:=∀p∈L,S[p.1]?=some p.2
def yG{L:List Cell}(d:(L.map (·.1)).Nodup):∀{p q:Cell},p∈L->q∈L->p.1=q.1->p=q:=by
 induction L with
 |nil=>intro p q h;cases h
 | cons a L i=>
   rw[QDq,List.nodup_cons] at d
   intro p q f g e
   rcases Qsq.mp f with c|c <;>rcases Qsq.mp g with b|b
   · rw[c,b]
   · show absurd (Qkq.mpr #[q,b,by rw[<-e,c]]) d.1
   · show absurd (Qkq.mpr #[p,c,by rw[e,b]]) d.1
   · show i d.2 c b e
def vQ.set{S:aE}{L a:List Cell}{b:Nat}{o:O}(H:vQ S L)(f:(a.map (·.1)).Nodup)(h:(b,o)∈a)(i:∀p∈a,p.1≠b->p∈L)(g:b<S.length):vQ (S.set b o) a:=λp d=>by
 by_cases c:p.1=b
 ·let e:=yG f d h c
  rw[e]
  show Qyq g
 ·rw[QKq (Ne.symm c)]
  show H p (i p d c)
noncomputable def cP(l:List Int):O:=.lst (l.map D.int)
structure Ht where
 a:Nat
 v:Nat
 r:Nat
 l:Nat
 b:Nat
 bs:List Nat
structure Dw where
 a:Nat
 v:Nat
 f:Nat
 fs:List Nat
structure Er where
 a:Nat
 r:Nat
structure xQ where
 k:Nat
 r:Nat
 p:Nat
 s:Nat
 h:Nat
 rs:List Ht
 ps:List Er
 hs:List Dw
noncomputable def sj(f:cB):O:=.lst [.int f.room,.int f.deed,.int f.row,.int f.given,.int f.told]
noncomputable def CN(l:List (Int×Int)):O:=.lst (l.map pairD)
noncomputable def B1(t:Ht)(r:dv):List Cell:= [(t.a,.lst [.ref t.v,.int r.within,.ref t.r,.ref t.l,.ref t.b]),(t.v,cP r.vals),(t.r,cP r.row),(t.l,cP r.ag),(t.b,.lst (t.bs.map D.ref))]++(t.bs.zip r.aa).map λp=>(p.1,CN p.2)
noncomputable def xP(t:Dw)(h:List Int×List cB):List Cell:= [(t.a,.lst [.ref t.v,.ref t.f]),(t.v,cP h.1),(t.f,.lst (t.fs.map D.ref))]++(t.fs.zip h.2).map λp=>(p.1,sj p.2)
noncomputable def Hi(t:Er)(p:Int×List Int):List Cell:= [(t.a,.lst [.int p.1,.ref t.r]),(t.r,cP p.2)]
noncomputable def Fd(t:xQ)(s:bq):List Cell:= [(t.k,.lst [.ref t.r,.ref t.p,.ref t.s,.ref t.h]),(t.r,.lst (t.rs.map λx=>.ref x.a)),(t.p,.lst (t.ps.map λx=>.ref x.a)),(t.s,cP s.ak),(t.h,.lst (t.hs.map λx=>.ref x.a))]++
 ((t.rs.zip s.aj).flatMap (λp=>B1 p.1 p.2)++((t.ps.zip s.ai).flatMap (λp=>Hi p.1 p.2)++(t.hs.zip s.af).flatMap λp=>xP p.1 p.2))
noncomputable def Dx(t:Ht):List Nat:= [t.a,t.v,t.r,t.l,t.b]++t.bs
noncomputable def CG(t:Dw):List Nat:= [t.a,t.v,t.f]++t.fs
noncomputable def HE(t:Er):List Nat:= [t.a,t.r]
noncomputable def y0(t:xQ):List Nat:= [t.k,t.r,t.p,t.s,t.h]++(t.rs.flatMap Dx++(t.ps.flatMap HE++t.hs.flatMap CG))
theorem zu{α a:Type}:∀(xs:List α) (ys:List a),((xs.zip ys).map (·.1)).Sublist xs
 | [],_=>by simp
 |_::_,[]=>by simp
 |x::xs,y::ys=>by simpa using (zu xs ys)
theorem nq{α a:Type}{f:α×a->List Cell}{g:α->List Nat}(h:∀p,((f p).map (·.1)).Sublist (g p.1)):∀(xs:List α) (ys:List a),(((xs.zip ys).flatMap f).map (·.1)).Sublist (xs.flatMap g)
 | [],_=>by simp
 |_::_,[]=>by simp
 | x::xs,y::ys=>by
   rw[List.zip_cons_cons,QSq,QSq,Qzq]
   show(h (x,y)).append (nq h xs ys)
def EU(p:Ht×dv):((B1 p.1 p.2).map (·.1)).Sublist (Dx p.1):=by
 unfold B1 Dx
 rw[Qzq,QPq]
 show(QjQ _).append (zu _ _)
def D9(p:Dw×(List Int×List cB)):((xP p.1 p.2).map (·.1)).Sublist (CG p.1):=by
 unfold xP CG
 rw[Qzq,QPq]
 show(QjQ _).append (zu _ _)
def NH(p:Er×(Int×List Int)):((Hi p.1 p.2).map (·.1)).Sublist (HE p.1):=QjQ _
def tK(t:xQ)(s:bq):((Fd t s).map (·.1)).Sublist (y0 t):=by
 unfold Fd y0
 rw[Qzq,Qzq,Qzq]
 show(QjQ _).append ((nq EU _ _).append ((nq NH _ _).append (nq D9 _ _)))
structure Nw(lo:Nat->Prop)(S:aE)(t:xQ)(s:bq):Prop where
 ho:vQ S (Fd t s)
 nd:(y0 t).Nodup
 lo:∀a∈y0 t,¬lo a
 lr:t.rs.length=s.aj.length
 lp:t.ps.length=s.ai.length
 lh:t.hs.length=s.af.length
 lb:∀p∈t.rs.zip s.aj,p.1.bs.length=p.2.aa.length
 lf:∀p∈t.hs.zip s.af,p.1.fs.length=p.2.2.length
theorem cK{α a:Type}:∀{xs:List α} {ys:List a} {i:Nat} {x:α} {y:a},xs[i]?=some x->ys[i]?=some y->(x,y)∈xs.zip ys
 | [],_,_,_,_,h,_=>by simp at h
 |_::_,[],_,_,_,_,h=>by simp at h
 |_::_,_::_,0,_,_,h1,h2=>by simp at h1 h2;subst h1 h2;simp
 | _::xs,_::ys,i+1,x,y,h1,h2=>by
   have:=cK (xs:=xs) (ys:=ys) (i:=i) (x:=x) (y:=y) (by simpa using h1) (by simpa using h2)
   simp[this]
theorem j_{α a:Type}:∀{xs:List α} {ys:List a} {p:α×a},p∈xs.zip ys->∃i:Nat,xs[i]?=some p.1/\ys[i]?=some p.2
 | [],_,_,h=>by cases h
 |_::_,[],_,h=>by cases h
 | x::xs,y::ys,p,h=>by
   rcases Qsq.mp h with rfl|h
   · show#[0,L,L]
   · let#[i,c,b]:=j_ h
     show#[i+1,by simpa using c,by simpa using b]
def vp{α c:Type}{xs:List α}{ys:List c}{i:Nat}{x x':α}{y d:c}(l:xs[i]?=some x)(k:ys[i]?=some y){p:α×c}(g:p∈(xs.set i x').zip (ys.set i d)):p=(x',d)\/p∈xs.zip ys:=by
 let#[j,b,a]:=j_ g
 rcases get_set b with⟨rfl,e1⟩|⟨n1,b⟩
 ·rcases get_set a with⟨_,f⟩|⟨h,_⟩
  ·show .inl (Prod.ext e1 f)
  ·show absurd L h
 ·rcases get_set a with⟨e,_⟩|⟨_,a⟩
  ·show absurd e n1
  ·show .inr (cK b a)
def qG{α:Type}{xs:List α}{i:Nat}{x:α}(h:xs[i]?=some x):xs.set i x=xs:=by
 apply List.ext_getElem?
 intro j
 by_cases c:i=j
 ·subst c;rw[Qyq (gQs.mp h).1,h]
 ·rw[QKq c]
section
variable{lo:Nat->Prop}{S:aE}{t:xQ}{s:bq}{i b:Nat}{o:O}
def Nw.lt(N:Nw lo S t s){p:Cell}(h:p∈Fd t s):p.1<S.length:=(gQs.mp (N.ho p h)).1
def Nw.top(N:Nw lo S t s):S[t.k]?=some (.lst [.ref t.r,.ref t.p,.ref t.s,.ref t.h]):=N.ho (t.k,_) (by simp[Fd])
def Nw.tr(N:Nw lo S t s):S[t.r]?=some (.lst (t.rs.map λx=>.ref x.a)):=N.ho (t.r,_) (by simp[Fd])
def Nw.tp(N:Nw lo S t s):S[t.p]?=some (.lst (t.ps.map λx=>.ref x.a)):=N.ho (t.p,_) (by simp[Fd])
def Nw.ts(N:Nw lo S t s):S[t.s]?=some (cP s.ak):=N.ho (t.s,cP s.ak) (mQa.mpr (.inl (by simp)))
def Nw.th(N:Nw lo S t s):S[t.h]?=some (.lst (t.hs.map λx=>.ref x.a)):=N.ho (t.h,_) (by simp[Fd])
def kT{x:Ht}{r:dv}{p:Cell}(h:(x,r)∈t.rs.zip s.aj)(a:p∈B1 x r):p∈Fd t s:=mQa.mpr (.inr (mQa.mpr (.inl (QOq.mpr #[_,h,a]))))
def nW{x:Er}{r:Int×List Int}{p:Cell}(h:(x,r)∈t.ps.zip s.ai)(a:p∈Hi x r):p∈Fd t s:=mQa.mpr (.inr (mQa.mpr (.inr (mQa.mpr (.inl (QOq.mpr #[_,h,a]))))))
def ph{x:Dw}{r:List Int×List cB}{p:Cell}(h:(x,r)∈t.hs.zip s.af)(a:p∈xP x r):p∈Fd t s:=mQa.mpr (.inr (mQa.mpr (.inr (mQa.mpr (.inr (QOq.mpr #[_,h,a]))))))
def mO{p:Cell}(h:p∈Fd t s):(p∈[(t.k,.lst [.ref t.r,.ref t.p,.ref t.s,.ref t.h]),(t.r,.lst (t.rs.map λx=>.ref x.a)),(t.p,.lst (t.ps.map λx=>.ref x.a)),(t.s,cP s.ak),(t.h,.lst (t.hs.map λx=>.ref x.a))])∨
  (∃q∈t.rs.zip s.aj,p∈B1 q.1 q.2)\/(∃q∈t.ps.zip s.ai,p∈Hi q.1 q.2)\/∃q∈t.hs.zip s.af,p∈xP q.1 q.2:=by
 rcases mQa.mp h with h|h
 ·show .inl h
 ·rcases mQa.mp h with h|h
  ·show .inr (.inl (QOq.mp h))
  ·rcases mQa.mp h with h|h
   ·show .inr (.inr (.inl (QOq.mp h)))
   ·show .inr (.inr (.inr (QOq.mp h)))
def Nw.app(N:Nw lo S t s){G:aE}:Nw lo (S++G) t s:=#[λp a=>aO (N.ho p a),N.nd,N.lo,N.lr,N.lp,N.lh,N.lb,N.lf]
def Nw.low(N:Nw lo S t s){j:Nat}(h:lo j){o:O}:Nw lo (S.set j o) t s:=⟨λp a=>by
 have:=N.lo p.1 ((tK t s).mem (Qkq.mpr #[p,a,L]))
 rw[QKq (λe=>this (by rw[<-e];show h))]
 show N.ho p a,N.nd,N.lo,N.lr,N.lp,N.lh,N.lb,N.lf⟩
def Nw.room(N:Nw lo S t s){x:Ht}{r r':dv}(g:t.rs[i]?=some x)(k:s.aj[i]?=some r)(u:(b,o)∈B1 x r')(y:∀p∈B1 x r',p.1≠b->p∈B1 x r)(f:r'.aa.length=r.aa.length):Nw lo (S.set b o) t (eK s i r'):=by
 let d:=cK g k
 let z:=(gQs.mp k).1
 have n:(x,r')∈t.rs.zip (eK s i r').aj:=cK g (Qyq z)
 have v:∀q∈t.rs.zip (eK s i r').aj,q=(x,r')\/q∈t.rs.zip s.aj:=λq a=>vp (x':=x) g k (by rw[qG g];show a)
 let B:=kT n u
 show#[vQ.set N.ho ((tK _ _).nodup N.nd) B (λp j A=>?_) ?_,N.nd,N.lo,by simpa [eK] using N.lr,N.lp,N.lh,λq a=>?_,N.lf]
 ·rcases mO j with h|⟨q,a,h⟩|⟨q,a,h⟩|⟨q,a,h⟩
  ·show mQa.mpr (.inl h)
  ·rcases v q a with rfl|a
   ·show kT d (y p h A)
   ·show kT a h
  ·show nW a h
  ·show ph a h
 ·have:b∈(B1 x r).map (·.1):=by
   have m:b∈(B1 x r').map (·.1):=Qkq.mpr #[_,u,L]
   have e:(B1 x r').map (·.1)=(B1 x r).map (·.1):=by
    let w:=N.lb _ d
    have c:∀l:List (List (Int×Int)),x.bs.length=l.length->((x.bs.zip l).map λp=>((p.1,CN p.2):Cell)).map (·.1)=x.bs:=λl f=>by
     rw[QPq]
     show List.map_fst_zip (Nat.le_of_eq f)
    unfold B1
    rw[Qzq,Qzq,c _ w,c _ (by rw[f];show w)]
    rfl
   rw[<-e]
   show m
  let#[p,j,e]:=Qkq.mp this
  rw[<-e]
  show N.lt (kT d j)
 ·rcases v q a with rfl|a
  ·show x.bs.length=r'.aa.length
   rw[f]
   show N.lb _ d
  ·show N.lb q a
def Nw.pass(N:Nw lo S t s){x:Er}{r r':Int×List Int}(d:t.ps[i]?=some x)(g:s.ai[i]?=some r)(k:(b,o)∈Hi x r')(n:∀p∈Hi x r',p.1≠b->p∈Hi x r):Nw lo (S.set b o) t (jy s i r'):=by
 let l:=cK d g
 let u:=(gQs.mp g).1
 have j:(x,r')∈t.ps.zip (jy s i r').ai:=cK d (Qyq u)
 have m:∀q∈t.ps.zip (jy s i r').ai,q=(x,r')\/q∈t.ps.zip s.ai:=λq a=>vp (x':=x) d g (by rw[qG d];show a)
 show#[vQ.set N.ho ((tK _ _).nodup N.nd) (nW j k) (λp f v=>?_) ?_,N.nd,N.lo,N.lr,by simpa [jy] using N.lp,N.lh,N.lb,N.lf]
 ·rcases mO f with h|⟨q,a,h⟩|⟨q,a,h⟩|⟨q,a,h⟩
  ·show mQa.mpr (.inl h)
  ·show kT a h
  ·rcases m q a with rfl|a
   ·show nW l (n p h v)
   ·show nW a h
  ·show ph a h
 ·have c:b∈(Hi x r').map (·.1):=Qkq.mpr #[_,k,L]
  have c:b∈(Hi x r).map (·.1):=c
  let#[p,f,e]:=Qkq.mp c
  rw[<-e]
  show N.lt (nW l f)
def Nw.share(N:Nw lo S t s){c:List Int}:Nw lo (S.set t.s (cP c)) t {s with ak:=c}:=by
 show#[vQ.set N.ho ((tK _ _).nodup N.nd) (by simp[Fd]) (λp e d=>?_) (gQs.mp N.ts).1,N.nd,N.lo,N.lr,N.lp,N.lh,N.lb,N.lf]
 rcases mO e with h|⟨q,a,h⟩|⟨q,a,h⟩|⟨q,a,h⟩
 ·show mQa.mpr (.inl ?_)
  erw[Qsq,QXq,or_false] at h|-
  rcases h with h|h|h|h|h
  ·show .inl h
  ·show .inr (.inl h)
  ·show .inr (.inr (.inl h))
  ·rw[h] at d;show absurd L d
  ·show .inr (.inr (.inr (.inr h)))
 ·show kT a h
 ·show nW a h
 ·show ph a h
def Nw.hand(N:Nw lo S t s){x x':Dw}{r r':List Int×List cB}(e:t.hs[i]?=some x)(f:s.af[i]?=some r)(B:x'.a=x.a)(u:(b,o)∈xP x' r')(hs:∀p∈xP x' r',p.1≠b->p∈xP x r\/S[p.1]?=some p.2)(y:b<S.length)(w:x'.fs.length=r'.2.length)
  (l:(y0 {t with hs:=t.hs.set i x'}).Nodup) (g:∀a∈y0 {t with hs:=t.hs.set i x'},¬lo a):Nw lo (S.set b o) {t with hs:=t.hs.set i x'} {s with af:=s.af.set i r'}:=by
 let v:=cK e f
 let z:=(gQs.mp f).1
 let C:=(gQs.mp e).1
 have j:(x',r')∈(t.hs.set i x').zip (s.af.set i r'):=cK (Qyq C) (Qyq z)
 have m:∀q∈(t.hs.set i x').zip (s.af.set i r'),q=(x',r')\/q∈t.hs.zip s.af:=λq d=>vp e f d
 have A:(b,o)∈Fd {t with hs:=t.hs.set i x'} {s with af:=s.af.set i r'}:=ph j u
 have F:(t.hs.set i x').map (λx=>D.ref x.a)=t.hs.map λx=>.ref x.a:=by
  rw[List.map_set,B]
  show qG (by rw[gQm,e];rfl)
 show#[λp n=>?_,l,g,N.lr,N.lp,by simpa using N.lh,N.lb,λq d=>?_]
 ·by_cases c:p.1=b
  ·rw[yG ((tK _ _).nodup l) n A c]
   show Qyq y
  ·rw[QKq (Ne.symm c)]
   rcases mO n with h|⟨q,d,h⟩|⟨q,d,h⟩|⟨q,d,h⟩
   ·show N.ho p (mQa.mpr (.inl ?_))
    have h:p∈[(t.k,O.lst [.ref t.r,.ref t.p,.ref t.s,.ref t.h]),(t.r,.lst (t.rs.map λx=>.ref x.a)),(t.p,.lst (t.ps.map λx=>.ref x.a)),(t.s,cP s.ak),(t.h,.lst ((t.hs.set i x').map λx=>.ref x.a))]:=h
    rw[F] at h
    show h
   ·show N.ho p (kT d h)
   ·show N.ho p (nW d h)
   ·rcases m q d with rfl|d
    ·rcases hs p h c with h|h
     ·show N.ho p (ph v h)
     ·show h
    ·show N.ho p (ph d h)
 ·rcases m q d with rfl|d
  ·show w
  ·show N.lf q d
end
end W28
namespace DL
open L2
section
variable{a:cG}{S:aE}
def KO{f:e_}{Q:(List D×(aE->Prop))->aE->Prop}(h:E f a S λp b=>Q (se 0 p.1,λc=>p.2.stays c p.1) b):E (FS f) a S Q:=by
 let#[p,b,d,q]:=h
 show#[_,b,by unfold FS;rw[d];rfl,q]
def PK{f:e_}{Q:D->aE->Prop}(h:E f a S λp b=>p.2.isL=true/\∃bs,IK p.1=some bs/\Q (.bl (bs.all id)) b):E (LB f) a S Q:=by
 let#[p,b,c,l,bs,d,q]:=h
 show#[_,b,by unfold LB;rw[c];erw[Qbq];rw[Qhq l,d];rfl,q]
def Jt{i j:Int}{Q:D->Prop}(h:JP i j)(q:Q (.int (i^j.toNat))):Op (A5 S (.int i) (.int j)) Q:=#[_,by erw[A5,intD];rw[Qhq h],q]
def NK{i j:Int}{Q:D->Prop}(h:IntMulOk i j)(q:Q (.int (i*j))):Op (oX S (.int i) (.int j)) Q:=#[_,by erw[oX,intD];rw[Qhq h],q]
end
theorem Cz:∀n:Nat,IK (List.replicate n (.bl true))=some (List.replicate n true)
 |0=>rfl
 |n+1=>by erw[QNq,IK];rw[Cz n];rfl
end DL
namespace W28
open L2 DL
section
variable{S S0:aE}{Q:Res->aE->Prop}
def ow(l:List Nat):l.map fW=(l.map λh:Nat=>(h:Int)).map D.int:=by rw[QPq];rfl
def lF{l:List Nat}:∀d∈l.map fW,(∀k,d≠.ref k)/\cA 0 d=true:=λd b=>by
 let#[a,_,rfl]:=Qkq.mp b
 show#[λk z=>(nomatch z),L]
def KQ{k i:Nat}{l:List Nat}{e:Int}(x:Ex k S0 S)(hi:i≠k)(v:S[i]?=some (.lst (l.map fW)))(w:0<l.length)(A:l.length<1000)
  (h:∀(m:Nat) (f:aE),m∈l->Ex k S0 f->Ex k S f->f.length=S.length->Q (.d (.int m)) f):Fn mi [.ref k,.ref i,.int e] S Q:=by
 have y:Ex k S S:=by let#[a,b,c,C]:=x.pot;show Ex.refl C
 have g:∀r,Ex k S r->r.length=S.length->T (cy (az bR (aq (ar 0) (aq (ar 1) av)))) [some (.ref k),some (.ref i),some (.int e)] r (λo=>match o with
   |.nx _ f=>Op (settle S .non f) λp=>Q p.1 p.2|.rt d f=>Op (settle S d f) λp=>Q p.1 p.2|.rl l f=>Op (eY S l f) λp=>Q p.1 p.2|_=>False):=λr t F=>by
  symm
  show fM (xs:=l.map fW) t hi (t.keep _ _ hi v) (by simpa using w) (by simpa using A) lF (λd j=>dR (lF d j).2) λd f j q B n=>?_
  let#[m,s,rfl]:=Qkq.mp j
  dsimp only[bg,aN,bf,bP,bV,fg]
  show mX q x.lt (lF _ j).1 (dR (lF _ j).2) λa b c=>?_
  show h m _ s x.set y.set (by simp)
 show bZ ?_
 unfold ql
 apply aI (bK (pZ (cm (xV ?_))))
 show a_ v ?_
 show#[_,_,L,by rw[ow];show d0 _,?_]
 rw[lI]
 show if decide (e∈l.map λh:Nat=>(h:Int))=true then _ else _
 by_cases c:e∈l.map λh:Nat=>(h:Int)
 ·rw[Qeq c,Qhq L]
  let#[m,s,rfl]:=Qkq.mp c
  symm
  apply bW y (!1) (!1) λd f j q B n=>?_
  show eA ?_
  dsimp only[bg,aN,bf,bP,bV,fg]
  by_cases u:(d:Int)=0
  ·rw[Qeq u,Qhq L]
   symm
   show mX q x.lt (λk z=>(nomatch z)) L λa b c=>?_
   show h m _ s x.set y.set (by simp)
  ·rw[Qdq u,Quq (!1)]
   show bT ?_
   show g f q n
 ·rw[Qdq c,Quq (!1)]
  rw[Quq (!1)]
  show bT ?_
  show g S y L
end
end W28
namespace DL
open L2
def vf{n:Nat}{b:cJ}{ds:List D}{S:aE}{Q:Res->aE->Prop} (h:T b (ds.map some++List.replicate (n-ds.length) none) S λo=>match o with
   |.nx _ a=>Q (.d .non) a|.rt d a=>Q (.d d) a|.rl l a=>Q (.l l) a|_=>False):Fn (B0 n b) ds S Q:=by
 let#[o,c,q]:=h
 cases o with
 |nx e a=>show#[_,_,by unfold B0;rw[c];rfl,q]
 |rt d a=>show#[_,_,by unfold B0;rw[c];rfl,q]
 |rl d a=>show#[_,_,by unfold B0;rw[c];rfl,q]
 |bk=>show q.elim
 |ct=>show q.elim
def D5{b:cG}{S:aE}{n k:Nat}{g:qj}{ds:List D}{Q:cG->aE->Prop}(d:S[k]?=some (.lst ds))(f:ds.length=n)(h:OL g ds b S Q):Tg (Ip (nG n g)) (.ref k) b S Q:=by
 let#[a,c,e,q]:=h
 show#[a,c,by unfold Ip;erw[d];unfold nG;rw[Qhq f];show e,q]
def vC{a:D}{l:List D}{Q:List D×D->Prop}(q:Q (l,a))(b:l.length<999):Op (g_ (a::l) [.int 0]) Q:=by
 show#[_,?_,q]
 unfold g_
 have h:seqIndex? (0:Int) (a::l).length=some 0:=W28.HI (n:=(a::l).length) (j:=0) (by simp) (by simp;omega)
 simp only
 rw[Qhq (!1),h]
 rfl
def LL{a:D}{l:List D}{Q:List D×D->Prop}(q:Q (l,a)):Op (G1 (l++ [a]) []) Q:=#[_,by unfold G1;simp,q]
def iW{ds:List D}{y:D}{Q:List D×D->Prop}(a:ds.length<999)(q:Q (ds++ [y],.non)):Op (eN ds [y]) Q:=#[_,by unfold eN;show Qhq (bj (!0)),q]
end DL
namespace W28
open L2 DL
structure x_(lo:Nat->Prop)(S S':aE):Prop where
 len:S.length<=S'.length
 eq:∀j,lo j->S'[j]?=S[j]?
def x_.refl{lo:Nat->Prop}{S:aE}:x_ lo S S:=#[Qmq _,λ_ _=>rfl]
def x_.put{lo:Nat->Prop}{b:Nat}{S a:aE}{o:O}(k:x_ lo S a)(h:¬lo b):x_ lo S (a.set b o):=#[by simpa using k.len,λj c=>by rw[QKq (λe=>h (by rw[e];show c))];show k.eq j c]
structure Go(lo:Nat->Prop)(S0 S:aE)(t:xQ)(s:bq):Prop where
 n:Nw lo S t s
 k:x_ lo S0 S
 l:∀j,lo j->j<S0.length
section
variable{lo:Nat->Prop}{S0 S:aE}{t:xQ}{s:bq}{i:Nat}
def Go.app(g:Go lo S0 S t s){G:aE}:Go lo S0 (S++G) t s:=#[g.n.app,#[by rw[lQa];have:=g.k.len;omega,λj a=>by rw[QHq (by have:=g.k.len;have:=g.l j a;omega)];show g.k.eq j a],g.l]
def CI{x:Ht}(b:t.rs[i]?=some x){a:Nat}(h:a∈Dx x):a∈y0 t:=mQa.mpr (.inr (mQa.mpr (.inl (QOq.mpr #[x,mQg b,h]))))
def LY{x:Er}(b:t.ps[i]?=some x){a:Nat}(h:a∈HE x):a∈y0 t:=mQa.mpr (.inr (mQa.mpr (.inr (mQa.mpr (.inl (QOq.mpr #[x,mQg b,h]))))))
def FR{x:Dw}(b:t.hs[i]?=some x){a:Nat}(h:a∈CG x):a∈y0 t:=mQa.mpr (.inr (mQa.mpr (.inr (mQa.mpr (.inr (QOq.mpr #[x,mQg b,h]))))))
section
variable{x:Ht}{r:dv}(g:Go lo S0 S t s)(c:t.rs[i]?=some x)(d:s.aj[i]?=some r)
include g c d
def Go.ca:S[x.a]?=some (.lst [.ref x.v,.int r.within,.ref x.r,.ref x.l,.ref x.b]):=g.n.ho (x.a,_) (kT (cK c d) (mQa.mpr (.inl (by simp))))
def Go.cv:S[x.v]?=some (cP r.vals):=g.n.ho (x.v,cP r.vals) (kT (cK c d) (mQa.mpr (.inl (by simp))))
def Go.cr:S[x.r]?=some (cP r.row):=g.n.ho (x.r,cP r.row) (kT (cK c d) (mQa.mpr (.inl (by simp))))
def Go.cl:S[x.l]?=some (cP r.ag):=g.n.ho (x.l,cP r.ag) (kT (cK c d) (mQa.mpr (.inl (by simp))))
def Go.cb:S[x.b]?=some (.lst (x.bs.map D.ref)):=g.n.ho (x.b,_) (kT (cK c d) (mQa.mpr (.inl (by simp))))
def Go.cbs{j a:Nat}{l:List (Int×Int)}(e:x.bs[j]?=some a)(b:r.aa[j]?=some l):S[a]?=some (CN l):=g.n.ho (a,_) (kT (cK c d) (mQa.mpr (.inr (Qkq.mpr #[_,cK e b,L]))))
def Go.lb:x.bs.length=r.aa.length:=g.n.lb _ (cK c d)
def Go.within(v:Int):Go lo S0 (S.set x.a (.lst [.ref x.v,.int v,.ref x.r,.ref x.l,.ref x.b])) t (eK s i {r with within:=v}):=
 ⟨g.n.room c d (mQa.mpr (.inl (QBq ..))) (λp f e=>by
  rcases Qsq.mp f with h|h
  ·rw[h] at e;show absurd L e
  ·show Qpq _ h) L,g.k.put (g.n.lo _ (CI c (by simp[Dx]))),g.l⟩
def Go.vals(b:List Int):Go lo S0 (S.set x.v (cP b)) t (eK s i {r with vals:=b}):=
 ⟨g.n.room c d (mQa.mpr (.inl (Qpq _ (QBq ..)))) (λp a e=>by
  rcases Qsq.mp a with h|a
  ·show Qsq.mpr (.inl h)
  ·rcases Qsq.mp a with h|h
   ·rw[h] at e;show absurd L e
   ·show Qpq _ (Qpq _ h)) L,g.k.put (g.n.lo _ (CI c (by simp[Dx]))),g.l⟩
def Go.row(b:List Int):Go lo S0 (S.set x.r (cP b)) t (eK s i {r with row:=b}):=
 ⟨g.n.room c d (mQa.mpr (.inl (by simp))) (λp a e=>by
  rcases Qsq.mp a with h|a
  ·show Qsq.mpr (.inl h)
  ·rcases Qsq.mp a with h|a
   ·show Qpq _ (Qsq.mpr (.inl h))
   ·rcases Qsq.mp a with h|h
    ·rw[h] at e;show absurd L e
    ·show Qpq _ (Qpq _ (Qpq _ h))) L,g.k.put (g.n.lo _ (CI c (by simp[Dx]))),g.l⟩
def Go.ag(b:List Int):Go lo S0 (S.set x.l (cP b)) t (eK s i {r with ag:=b}):=
 ⟨g.n.room c d (mQa.mpr (.inl (by simp))) (λp a e=>by
  rcases Qsq.mp a with h|a
  ·show Qsq.mpr (.inl h)
  ·rcases Qsq.mp a with h|a
   ·show Qpq _ (Qsq.mpr (.inl h))
   ·rcases Qsq.mp a with h|a
    ·show Qpq _ (Qpq _ (Qsq.mpr (.inl h)))
    ·rcases Qsq.mp a with h|h
     ·rw[h] at e;show absurd L e
     ·show Qpq _ (Qpq _ (Qpq _ (Qpq _ h)))) L,g.k.put (g.n.lo _ (CI c (by simp[Dx]))),g.l⟩
def Go.bell{j a:Nat}{l:List (Int×Int)}(b:x.bs[j]?=some a)(m:r.aa[j]?=some l)(f:List (Int×Int)):Go lo S0 (S.set a (CN f)) t (eK s i {r with aa:=r.aa.set j f}):=
 ⟨g.n.room c d (mQa.mpr (.inr (Qkq.mpr ⟨(a,f),cK b (Qyq (gQs.mp m).1),L⟩))) (λp u o=>by
  rcases mQa.mp u with h|h
  ·show mQa.mpr (.inl h)
  ·let#[q,v,rfl]:=Qkq.mp h
   rcases vp (x':=a) b m (by rw[qG b];show v) with e|e
   ·rw[e] at o;show absurd L o
   ·show mQa.mpr (.inr (Qkq.mpr #[q,e,L]))) (by simp),g.k.put (g.n.lo _ (CI c (by unfold Dx;show mQa.mpr (.inr (mQg b))))),g.l⟩
end
def jg{r1 a:dv}:eK (eK s i r1) i a=eK s i a:=by unfold eK;simp
def oF{r1:dv}{r:dv}(a:s.aj[i]?=some r):(eK s i r1).aj[i]?=some r1:=Qyq (gQs.mp a).1
section
variable{x:Ht}{r:dv}{Q:Res->aE->Prop}(g:Go lo S0 S t s)(f:t.rs[i]?=some x)(j:s.aj[i]?=some r)
include g f j
def Di{h:Int}(k: -1<=r.within)(l:r.row.length<900)(q:∀b,Go lo S0 b t (eK s i (gQ r h))->Q (.d .non) b):Fn iu [.ref x.a,.int h] S Q:=by
 show vf ?_
 unfold oo
 symm
 apply bC (g.ca f j) (d:=.int r.within) L ?_
 show aG (λc=>?_) (λc=>?_)
 ·have c:r.within<0:=QZq c
  have e:gQ r h={r with within:=h}:=Qhq (!0)
  rw[e] at q
  symm
  show#[_,_,_,_,L,L,g.ca f j,L,q _ (g.within f j h)]
 ·have c:¬r.within<0:=QaQ c
  have e:gQ r h={r with row:=r.row++ [h]}:=Quq (!0)
  rw[e] at q
  apply c9 (fq ?_)
  show bC (g.ca f j) (d:=.ref x.r) L ?_
  apply#[_,_,L,g.cr f j,?_]
  show#[_,g.cr f j,iW (by rw[lQm];omega) ?_]
  have:=q _ (g.row f j (r.row++ [h]))
  unfold cP at this
  rw[Qzq] at this
  show this
def uI(u:r.row.length<900)(o:r.ag.length<900)(q:∀p,Go lo S0 p t (eK s i (dG r))->Q (.d .non) p):Fn ij [.ref x.a] S Q:=by
 show vf ?_
 unfold m7
 symm
 apply iz ?_
 show#[1,L,?_]
 show LP (aw L (cu #[_,_,_,_,L,L,g.ca f j,L,?_]))
 let h:=g.within f j (-1)
 let e:=oF (r1:={r with within:= -1}) j
 show T _ _ (S.set x.a (.lst [.ref x.v,.int (-1),.ref x.r,.ref x.l,.ref x.b])) _
 generalize S.set x.a (.lst [.ref x.v,.int (-1),.ref x.r,.ref x.l,.ref x.b])=S1 at h|-
 let#[vals,within,row,ag,aa]:=r
 apply bK (cm (oB ?_))
 show bC (h.ca f e) (d:=.ref x.l) L ?_
 show a_ (h.cl f e) ?_
 show#[#[L,h.cl f e],?_]
 dsimp only[bg,aN,bf,bP,bV,fg]
 cases ag with
 | cons a l=>
   show aG (λ_=>?_) (λc=>by cases c)
   apply rL (fq ?_)
   show bC (h.ca f e) (d:=.ref x.l) L ?_
   apply#[_,_,L,h.cl f e,?_]
   show#[_,h.cl f e,vC ?_ (by rw[lQm];simp at o;omega)]
   let m:=h.ag f e l
   let k:=oF (r1:={vals:=vals,within:= -1,row:=row,ag:=l,aa:=aa}) e
   show LP (aw L (cu #[_,_,_,_,L,L,m.ca f k,L,?_]))
   let n:=m.within f k a
   rw[jg,jg] at n
   show q _ n
 | nil=>
   show aG (λc=>by cases c) (λ_=>?_)
   apply bK (cm (oB ?_))
   show bC (h.ca f e) (d:=.ref x.r) L ?_
   show a_ (h.cr f e) ?_
   show#[#[L,h.cr f e],?_]
   dsimp only[bg,aN,bf,bP,bV,fg]
   cases row with
   | cons a l=>
     show aG (λ_=>?_) (λc=>by cases c)
     apply rL (fq ?_)
     show bC (h.ca f e) (d:=.ref x.r) L ?_
     apply#[_,_,L,h.cr f e,?_]
     show#[_,h.cr f e,vC ?_ (by rw[lQm];simp at u;omega)]
     let m:=h.row f e l
     let k:=oF (r1:={vals:=vals,within:= -1,row:=l,ag:= [],aa:=aa}) e
     show LP (aw L (cu #[_,_,_,_,L,L,m.ca f k,L,?_]))
     let n:=m.within f k a
     rw[jg,jg] at n
     show q _ n
   | nil=>
     show aG (λc=>by cases c) (λ_=>bT ?_)
     show q _ h
end
end
end W28
namespace DL
open L2
def IS{S:aE}{k:Nat}{ds:List D}{Q:List D×Tag->Prop}(a:S[k]?=some (.frz ds))(q:Q (ds,.fz k)):Op (wo S (.ref k)) Q:=#[_,by erw[wo,a],q]
def Pc{S:aE}{k:Nat}{ds:List D}{i:Int}{d:D}{Q:D->Prop}(a:S[k]?=some (.frz ds))(h:kq ds i=some d)(q:Q d):Op (fO S (.ref k) (.int i)) Q:=#[_,by erw[fO,a];show h,q]
def Ot{i:Int}{Q:D->Prop}(q:Q (.int (if i<0 then -i else i))):Op (Lr [.int i]) Q:=#[_,L,q]
def iy{b:Bool}{Q:D->Prop}(q:Q (.int (if b then 1 else 0))):Op (intOfD [.bl b]) Q:=#[_,L,q]
def xN{j:Nat}{n:Nat}{d:D}(h:(jG 0 (j:Int))[n]?=some d):d=.int n/\n<j:=by
 have a:n<j:=by
  have:=(gQs.mp h).1
  unfold jG at this
  simpa using this
 unfold jG at h
 rw[gQm,List.getElem?_range (by simpa using a)] at h
 cases h
 show#[by simp,a]
def Jz{j:Nat}:(jG 0 (j:Int)).length=j:=by
 unfold jG
 simp
end DL
namespace W28
open L2 DL
section
variable{S:aE}{Q:Res->aE->Prop}
def Mh{ns:List Int}{k:Nat}(h:S[0]?=some (.frz (ns.map D.int)))(q:∀a b:Int,Q (.l [.int a,.int b,.int 0]) S):Fn oQ [.ref 0,.int k] S Q:=by
 show bZ ?_
 unfold sS
 have e:∀g:Int,T (aD (aW 3 (aQ oX (aQ u5 (ar 2) (aQ oX (aQ A5 (cF (.int 10)) (cF (.int 60))) (aQ A5 (cF (.int 10)) (cF (.int 60))))) (vg intOfD (aq (aQ PJ (ar 2) (aQ A5 (cF (.int 10)) (cF (.int 18)))) av))))
   (HF (bD (aq (ar 3) (aq (aQ u5 (aQ cD (aQ cD (ar 2) (aQ oX (cF (.int 104729)) (ar 1))) (cF (.int 7))) (cF (.int 2305843009213693951))) (aq (cF (.int 0)) av))))))
   [some (.ref 0),some (.int k),some (.int g),none] S (λo=>match o with
   |.nx _ f=>Op (settle S .non f) λp=>Q p.1 p.2|.rt d f=>Op (settle S d f) λp=>Q p.1 p.2|.rl l f=>Op (eY S l f) λp=>Q p.1 p.2|_=>False):=by
  intro g
  symm
  apply Jt #[by decide,by decide,by decide] ?_
  apply Jt #[by decide,by decide,by decide] ?_
  show NK (IntMulOk.of_bits (by decide +kernel) (by decide +kernel)) ?_
  show xj (show(0:Int)<10^(60:Int).toNat*10^(60:Int).toNat by decide +kernel) ?_
  generalize g%(10^(60:Int).toNat*10^(60:Int).toNat)=c1
  symm
  show Jt #[by decide,by decide,by decide] ?_
  generalize (10:Int)^(18:Int).toNat=c2
  symm
  show iy ?_
  have i:Ik c1 (if decide (c2<=g)=true then 1 else 0):=by
   right
   split <;>decide
  generalize (if decide (c2<=g)=true then(1:Int) else 0)=c3 at i|-
  apply wW i ?_
  apply wW (.inl #[by decide,by decide]) ?_
  apply xj (!1) ?_
  show#[by show 3<=_;decide,?_]
  show Jf L (q _ _)
 symm
 apply IS h ?_
 rw[lQm]
 by_cases c:(k:Int)<ns.length
 ·rw[Qeq c,Qhq L]
  have j:k<ns.length:=by omega
  symm
  show Pc h (aU (x:=.int ns[k]) (by rw[gQm,gQe j];rfl)) ?_
  symm
  show Ot ?_
  show e _
 ·rw[Qdq c,Quq (!1)]
  show bT ?_
  show e 0
end
section
variable{S:aE}{Q:Res->aE->Prop}
def kO{α:Type}{enc:α->D}{nm:α->Str}{xs:List α}{d:cG}{f:e_}{tg:Tag}{Q:List D->aE->Prop}(he:∀a,∃r,enc a=.tup (.str (nm a)::r))(j:xs.length<=1000)(i:E f d S λp g=>p=(xs.map enc,tg)/\g=S)(ht:tg.stays S (xs.map enc))(q:Q ((xs.map nm).map D.str) S):
  E (bG [none] (fT f) (bJ 0) bQ (aQ fO (ar 0) (cF (.int 0)))) d S Q:=by
 show je (α:=α) (λb=>∃a,b= [a]) enc (λa=>.str (nm a)) #[none,L] (i.mono λp g h=>?_)
 let#[rfl,rfl]:=h
 show#[xs,L,ht,j,λr l b c=>?_,?_]
 ·let#[a,rfl]:=c
  show aS #[L,#[_,L],?_]
  let#[k,e]:=he r
  rw[e]
  symm
  show ax Au #[L,L]
 ·have e:xs.map (λa=>D.str (nm a))=(xs.map nm).map D.str:=by rw[QPq];rfl
  rw[e]
  show q
def lA{α:Type}{enc:α->D}{nm:α->Str}{xs:List α}{x:Str}(he:∀a,∃r,enc a=.tup (.str (nm a)::r))(f:xs.length<=1000)(g:x∈xs.map nm)(q:Q (.d (.int (c7 (xs.map nm) x:Nat))) S):Fn da [.tup (xs.map enc),.str x] S Q:=by
 show bZ ?_
 unfold p9
 let#[j,e,i]:=vo g
 unfold c7 at q
 rw[e] at q
 show fA ?_
 have c:E (gU (bG [none] (fT (aP (ar 0))) (bJ 0) bQ (aQ fO (ar 0) (cF (.int 0))))) ([D.tup (xs.map enc),D.str x].map some++List.replicate (2- [D.tup (xs.map enc),D.str x].length) none) S λp b=>p=((xs.map nm).map D.str,.fr)/\b=S:=
  oY (kO (tg:=.tu) he f (bX (aw L (cE #[L,L]))) trivial #[L,L])
 let#[p,b,h,rfl,rfl]:=c
 show#[.int j,b,?_,cQ (λk z=>(nomatch z)) L q]
 unfold J6
 rw[h]
 erw[Qbq]
 rw[Qhq (show Tag.fr.isL=true from L)]
 show((ar 1 _ b).bind _)=_
 rw[show ar 1 ([D.tup (xs.map enc),D.str x].map some++List.replicate (2- [D.tup (xs.map enc),D.str x].length) none) b=some (.str x,b) from L]
 erw[Qbq]
 rw[Qhq (show Tag.stays b _ .fr from trivial)]
 show(xT (.str x)).bind _=_
 erw[xT,Qbq]
 rw[hZ]
 erw[Qbq]
 rw[e]
 rfl
end
def iR{c:cG}{S:aE}{i:Nat}{a b:Str}{l:List D}{Q:Bool->aE->Prop}(h:c[i]?=some (some (.tup (.str a::l))))(q:Q (decide (a=b)) S):E (aH (aQ (dE false) (aQ fO (ar i) (cF (.int 0))) (cF (.str b)))) c S Q:=
 cm (aV (aV (aw h (cu (ax (d:=.str a) Au (cu (gR q)))))))
theorem sr{th wt:Str->Int}{ws bs:X6}{i j:Nat}{m kws:List (Key×D)}{S:aE}(hi:S[i]?=some (.dct m))(N:S[j]?=some (.dct kws))(L:∀x∈ws,i7 m (.inr x)=some (.int (th x)))(K:∀b∈bs,i7 kws (.inr b)=some (.int (wt b)))(I:∀x∈ws,0<=th x/\th x<=9):
  ∀(n:Nat) (t:Tr) {Q:Res->aE->Prop},t.Ok ws bs->t.dep<=n->Q (.d (.int (pE th wt t))) S->Fn (eP n) [t.d,.ref i,.ref j] S Q
 |0,t,Q,_,hd,_=>by cases t <;>simp[Tr.dep] at hd
 | n+1,t,Q,ho,hd,q=>by
   show bZ ?_
   unfold nX
   have g:∀(o:Str) (h:List Tr) (k:Nat) {R:List D->aE->Prop},h.length<=2->(∀u∈h,u.Ok ws bs/\u.dep<=n)->R (h.map λu=>.int (pE th wt u)) S->
       E (bG [none,some 1,some 2] (fT (aP (uK (ar 0) (sQ (cF (.int 1))) ua))) (bJ 0) bQ (az (eP n) (aq (ar 0) (aq (ar 1) (aq (ar 2) av))))) [some (.tup (.str o::h.map Tr.d)),some (.ref i),some (.ref j),none,none,none] S R:=λo h k R Z A q=>by
     show je (α:=Tr) (λB=>∃a,B= [a,some (.ref i),some (.ref j)]) Tr.d (λu=>.int (pE th wt u)) #[none,rfl] ?_
     show bX (kJ (aw rfl (cV (cu #[1,rfl,cW #[_,rfl,?_]]))))
     rw[show jF (D.str o::h.map Tr.d) (some 1) none=h.map Tr.d from jw (i:=1) (by simp)]
     show cE #[h,rfl,trivial,by omega,λu l B G=>?_,q]
     let#[a,rfl]:=G
     apply aS #[rfl,#[_,rfl],?_]
     show sr hi N L K I n u (A u l).1 (A u l).2 #[rfl,rfl]
   cases t with
   | num v=>
     show aI (bK (cp (d:=.int v) (aw rfl #[rfl,rfl]) rfl ?_))
     apply aG (λ_=>?_) (λc=>by cases c)
     show dh q
   | word x=>
     show aI (bK (cp (d:=.str x) (aw rfl #[rfl,rfl]) rfl ?_))
     show aG (λc=>by cases c) (λ_=>bT ?_)
     show aI (bK (cp (d:=.str x) (aw rfl #[rfl,rfl]) rfl ?_))
     show aG (λ_=>?_) (λc=>by cases c)
     apply fA (Lq ?_)
     show#[_,_,_,_,rfl,rfl,hi,L x ho,?_]
     show dh q
   | waits b=>
     show aI (bK (cp (d:=.tup [.str "waits",.str b]) (aw rfl #[rfl,rfl]) rfl ?_))
     show aG (λc=>by cases c) (λ_=>bT ?_)
     show aI (bK (cp (d:=.tup [.str "waits",.str b]) (aw rfl #[rfl,rfl]) rfl ?_))
     show aG (λc=>by cases c) (λ_=>bT ?_)
     show aI (bK (iR (a:="waits") rfl ?_))
     show aG (λ_=>?_) (λc=>absurd (QaQ c) (by simp))
     apply fA (Bn (aA (aV (Lq ?_))))
     show ax (d:=.str b) rfl ?_
     apply#[_,_,_,_,rfl,rfl,N,K b ho,?_]
     show iy ?_
     erw[pE] at q
     have e:(if decide (0<wt b)=true then(1:Int) else 0)=if 0<wt b then 1 else 0:=by by_cases c:0<wt b <;>simp[c]
     rw[e]
     show dh q
   | no u=>
     show aI (bK (cp (d:=.tup [.str "not",u.d]) (aw rfl #[rfl,rfl]) rfl ?_))
     show aG (λc=>by cases c) (λ_=>bT ?_)
     show aI (bK (cp (d:=.tup [.str "not",u.d]) (aw rfl #[rfl,rfl]) rfl ?_))
     show aG (λc=>by cases c) (λ_=>bT ?_)
     show aI (bK (iR (a:="not") rfl ?_))
     show aG (λc=>absurd (QZq c) (by decide +kernel)) (λ_=>bT ?_)
     show aI (cU (eR (g "not" [u] 0 (by simp) (λY l=>by
       rw[Qfq.mp l]
       erw[Tr.dep] at hd
       show#[ho,by omega]) ?_)))
     show aI (bK (iR (a:="not") rfl ?_))
     show aG (λ_=>?_) (λc=>absurd (QaQ c) (by simp))
     show fA (Bn (aA (aV (aV (aw rfl (cu (bC aM (d:=.int (pE th wt u)) rfl (cu (eA (aZ (iy ?_)))))))))))
     erw[pE] at q
     have e:(if decide (pE th wt u=0)=true then(1:Int) else 0)=if pE th wt u=0 then 1 else 0:=by by_cases c:pE th wt u=0 <;>simp[c]
     rw[e]
     show uU sk.refl.app (λk z=>(nomatch z)) rfl q
   | two o a b=>
     let#[H,C,r]:=ho
     let#[W,X]:=F6 H
     erw[Tr.dep] at hd
     let P:=i8 (wt:=wt) (ws:=ws) (bs:=bs) I C
     let U:=i8 (wt:=wt) (ws:=ws) (bs:=bs) I r
     show aI (bK (cp (d:=.tup [.str o,a.d,b.d]) (aw rfl #[rfl,rfl]) rfl ?_))
     show aG (λc=>by cases c) (λ_=>bT ?_)
     show aI (bK (cp (d:=.tup [.str o,a.d,b.d]) (aw rfl #[rfl,rfl]) rfl ?_))
     show aG (λc=>by cases c) (λ_=>bT ?_)
     show aI (bK (iR (a:=o) rfl ?_))
     show aG (λc=>absurd (QZq c) W) (λ_=>bT ?_)
     show aI (cU (eR (g o [a,b] 0 (by simp) (λu l=>by
       erw[Qsq,QXq,or_false] at l
       rcases l with rfl|rfl
       · show#[C,by omega]
       · show#[r,by omega]) ?_)))
     erw[QDq,List.map_nil]
     show aI (bK (iR (a:=o) rfl ?_))
     show aG (λc=>absurd (QZq c) X) (λ_=>bT ?_)
     show aI (rL (aw rfl (D5 aM rfl (ay (aS (ay (aS (bu ?_))))))))
     erw[pE] at q
     generalize pE th wt a=va at q P|-
     generalize pE th wt b=vb at q U|-
     have f:∀{v:Int},v=L5 o va vb->Op (settle S (.int v) (S++ [.lst [.int va,.int vb]])) λp=>Q p.1 p.2:=λe=>by
       rw[e]
       show uU sk.refl.app (λk z=>(nomatch z)) rfl q
     unfold L5 at f
     show aI (bK (iR (a:=o) rfl ?_))
     show aG (λc=>?_) (λc=>bT ?_)
     · have c:=QZq c
       show fA (Bn (aA (cu (aA (aV (aw rfl (aw rfl (J5 (aZ (BV (f ?_)))))))))))
       rw[Qhq c]
       repeat' split
       all_goals omega
     let s:=QaQ c
     show aI (bK (iR (a:=o) rfl ?_))
     show aG (λc=>?_) (λc=>bT ?_)
     · have c:=QZq c
       show fA (Bn (aA (cu (aA (aV (aw rfl (aw rfl (fR (aZ (Jc (f ?_)))))))))))
       rw[Quq s,Qhq c]
       repeat' split
       all_goals omega
     let F:=QaQ c
     show aI (bK (iR (a:=o) rfl ?_))
     show aG (λc=>?_) (λc=>bT ?_)
     · have c:=QZq c
       show fA (Bn (aA (aV (aw rfl (aw rfl (fR (aZ (iy (f ?_)))))))))
       rw[Quq s,Quq F,Qhq c]
       by_cases z:va<vb <;>simp[z]
     let J:=QaQ c
     show fA (Bn (aA (N3 (iR (a:=o) rfl ?_))))
     show aG (λc=>?_) (λc=>?_)
     · have c:=QZq c
       show aV (aw rfl (aw rfl (eA (aZ (iy (f ?_))))))
       rw[Quq s,Quq F,Quq J,Qhq c]
       by_cases z:va=vb <;>simp[z]
     · have M:=QaQ c
       show mT (aV (aw rfl (cu (fR #[_,rfl,?_]))))
       show aG (λz=>?_) (λz=>?_)
       · have z:=QZq z
         show aV (aw rfl (cu (fR (aZ (iy (f ?_))))))
         rw[Quq s,Quq F,Quq J,Quq M]
         by_cases y:0<vb
         · rw[Qeq y,Qhq rfl,Qhq #[by omega,by omega]]
         · rw[Qdq y,Quq (!1),Quq (λw=>by omega)]
       · have z:=QaQ z
         show aZ (iy (f ?_))
         rw[Quq s,Quq F,Quq J,Quq M,Quq (!1),Quq (λw=>by omega)]
end W28
namespace DL
open L2
def we{l:List (Key×D)}{a k:Key}{v:D}:i7 (putD l a v) k=if a=k then some v else i7 l k:=by
 unfold putD
 split
 ·rename_i h
  induction l with
  |nil=>simp at h
  | cons p l j=>
    unfold i7 at j|-
    rw[QDq,List.find?_cons,List.find?_cons]
    by_cases c:p.1=a
    · rw[Qhq c]
      by_cases d:a=k
      · rw[Qhq d]
        simp[c,d]
      · rw[Quq d]
        have n:¬p.1=k:=by rw[c];show d
        erw[n,decide_false]
        by_cases e:(l.any λb=>decide (b.1=a))=true
        · have:=j e
          rw[Quq d] at this
          show this
        · have f:l.map (λb=>if b.1=a then(b.1,v) else b)=l:=by
            rw[List.map_congr_left (g:=id) (λq i=>?_),List.map_id]
            have:¬q.1=a:=λz=>e (List.any_eq_true.mpr #[q,i,Qeq z])
            rw[Quq this]
            rfl
          rw[f]
    · rw[Quq c]
      have o:(l.any λb=>decide (b.1=a))=true:=by simpa [c] using h
      by_cases d:p.1=k
      · erw[d,decide_true]
        rw[Quq (λz=>c (d.trans z.symm))]
      · erw[d,decide_false]
        show j o
 ·rename_i h
  unfold i7
  rw[List.find?_append]
  cases m:l.find? λb=>decide (b.1=k) with
  | some q=>
    let i:=List.find?_some m
    let r:=List.mem_of_find?_eq_some m
    have n:¬a=k:=λz=>h (List.any_eq_true.mpr #[q,r,by rw[z];show i])
    rw[Quq n]
    rfl
  | none=>
    by_cases d:a=k
    · rw[Qhq d];simp[d]
    · rw[Quq d];simp[d]
theorem ni{k:Key}:∀{m l:List (Key×D)},k∉m.map Prod.fst->i7 (bE l m) k=i7 l k
 | [],l,_=>rfl
 | p::m,l,h=>by
   have a:bE l (p::m)=bE (putD l p.1 p.2) m:=rfl
   rw[a,ni (λz=>h (Qpq _ z)),we,Quq (λz=>h (by rw[QDq,z];show QBq ..))]
theorem zD{k:Key}:∀{m l l':List (Key×D)},k∈m.map Prod.fst->i7 (bE l m) k=i7 (bE l' m) k
 | [],_,_,h=>by cases h
 | p::m,l,l',h=>by
   have a:∀l,bE l (p::m)=bE (putD l p.1 p.2) m:=λ_=>rfl
   rw[a,a]
   by_cases c:k∈m.map Prod.fst
   · show zD c
   · have e:p.1=k:=by
       rcases Qsq.mp h with z|z
       · show z.symm
       · show absurd z c
     rw[ni c,ni c,we,we,Qhq e,Qhq e]
def EX{l m:List (Key×D)}{k:Key}(h:k∈(bE l m).map Prod.fst):k∈l.map Prod.fst\/k∈m.map Prod.fst:=by
 let#[p,a,e]:=Qkq.mp h
 rcases lV a with z|z
 ·show .inl (Qkq.mpr #[p,z,e])
 ·show .inr (Qkq.mpr #[p,z,e])
def Ha{l:List (Key×D)}{a:Key}{v:D}(h:(l.map Prod.fst).Nodup):((putD l a v).map Prod.fst).Nodup:=by
 unfold putD
 split
 ·have e:(l.map λb=>if b.1=a then(b.1,v) else b).map Prod.fst=l.map Prod.fst:=by
   rw[QPq]
   show List.map_congr_left λp _=>?_
   show(if p.1=a then(p.1,v) else p).1=p.1
   split <;>rfl
  rw[e]
  show h
 ·rename_i c
  rw[Qzq,List.nodup_append]
  show#[h,by simp,λx i y d e=>?_]
  let#[p,f,g]:=Qkq.mp i
  have d:y=a:=by simpa using d
  show c (List.any_eq_true.mpr #[p,f,Qeq (by rw[g,e,d])])
theorem uo:∀{m l:List (Key×D)},(l.map Prod.fst).Nodup->((bE l m).map Prod.fst).Nodup
 | [],_,h=>h
 |p::m,l,h=>uo (m:=m) (Ha h)
theorem zp:∀{m l:List (Key×D)},((l++m).map Prod.fst).Nodup->bE l m=l++m
 | [],l,_=>by simp[bE]
 | p::m,l,h=>by
   have b:bE l (p::m)=bE (putD l p.1 p.2) m:=rfl
   have e:putD l p.1 p.2=l++ [p]:=by
     unfold putD
     rw[Quq]
     intro z
     let#[q,a,e]:=List.any_eq_true.mp z
     rw[Qzq,List.nodup_append] at h
     show h.2.2 q.1 (Qkq.mpr #[q,a,L]) p.1 (by simp) (QZq e)
   rw[b,e,zp (by simpa using h)]
   simp
def GM{l:List (Key×D)}{k:Key}:i7 (bE [] (bE [] l)) k=i7 (bE [] l) k:=by
 rw[zp (m:=bE [] l) (l:= []) (by simpa using uo (m:=l) (l:= []) .nil)]
 rfl
def GY{l m n:List (Key×D)}:bE l (m++n)=bE (bE l m) n:=List.foldl_append
end DL
namespace W28
open L2 DL
def J9{w:cT}{s:bq}{ts:List (Str×Nat)}{vs:List Int}{x:Str}(g:w.ak.length=s.ak.length)(f:ts.length=vs.length)(o:∀v∈s.ak,0<=v/\v<=9)(r:∀v∈vs,0<=v/\v<=9)(t:∀y∈ts.map (·.1),y∉w.ak.map (·.1))(k:x∈ts.map (·.1)++w.ak.map (·.1)):
  i7 (bE [] ((((ts++w.ak).map (·.1)).map Sum.inr).zip ((vs++s.ak).map D.int))) (.inr x)=some (.int (numAt (rQ w s ts vs) x)):=by
 have d:jE (rQ w s ts vs):=jE.merge (eF o) (eF r)
 have n:(Sum.inr x:Key)∈(rQ w s ts vs).map (·.1):=fF (by
  rcases mQa.mp k with h|h
  ·show .inr (dH f h)
  ·show .inl (dH g h))
 rw[<-(iC d n).1]
 rw[Qzq,Qzq,Qzq,List.zip_append (by simpa using f),GY]
 unfold rQ
 have i:∀{a:List (Str×Nat)} {b:List Int},a.length=b.length->((((a.map (·.1)).map Sum.inr:List Key).zip (b.map D.int)).map (·.1))=(a.map (·.1)).map Sum.inr:=λh=>List.map_fst_zip (by simp[h])
 have j:∀{a:List (Str×Nat)} {y:Str},(Sum.inr y:Key)∈(a.map (·.1)).map Sum.inr↔y∈a.map (·.1):=λ{a y}=>by
  constructor
  ·intro h
   let#[z,p,e]:=Qkq.mp h
   cases e
   show p
  ·show λh=>Qkq.mpr #[y,h,L]
 have l:∀{a:List (Str×Nat)} {b:List Int} {y:Str},a.length=b.length->((Sum.inr y:Key)∈(eM a b).map (·.1)↔y∈a.map (·.1)):=λ{a b y} hl=>by
  constructor
  ·intro h
   have:=EX h
   rcases this with h|h
   ·cases h
   ·rw[i hl] at h
    show j.mp h
  ·show dH hl
 by_cases c:x∈ts.map (·.1)
 ·rw[ni (by rw[i g];show λz=>t x c (j.mp z)),zD (l':= []) ((l f).mpr c)]
  show GM.symm
 ·have q:x∈w.ak.map (·.1):=(mQa.mp k).resolve_left c
  rw[ni (m:=eM ts vs) (λz=>c ((l f).mp z))]
  show zD (by rw[i g];show j.mpr q)
section
variable{lo:Nat->Prop}{S0 S:aE}{t:xQ}{s:bq}{h i:Nat}{vs:List Int}{fs:List cB}{f:cB}{w:cT}{n:Nat}{sc:Sc}
def Go.hx(g:Go lo S0 S t s)(a:s.af[h]?=some (vs,fs)):∃x,t.hs[h]?=some x:=#[_,gQe (by rw[g.n.lh];show(gQs.mp a).1)]
def Go.rx{r:dv}(g:Go lo S0 S t s)(a:s.aj[i]?=some r):∃x,t.rs[i]?=some x:=#[_,gQe (by rw[g.n.lr];show(gQs.mp a).1)]
section
variable{x:Dw}(g:Go lo S0 S t s)(b:t.hs[h]?=some x)(c:s.af[h]?=some (vs,fs))
include g b c
def Go.ha:S[x.a]?=some (.lst [.ref x.v,.ref x.f]):=g.n.ho (x.a,_) (ph (cK b c) (mQa.mpr (.inl (by simp))))
def Go.hv:S[x.v]?=some (cP vs):=g.n.ho (x.v,cP vs) (ph (cK b c) (mQa.mpr (.inl (by simp))))
def Go.hf:S[x.f]?=some (.lst (x.fs.map D.ref)):=g.n.ho (x.f,_) (ph (cK b c) (mQa.mpr (.inl (by simp))))
def Go.hfs{j a:Nat}{f:cB}(e:x.fs[j]?=some a)(d:fs[j]?=some f):S[a]?=some (sj f):=g.n.ho (a,sj f) (ph (cK b c) (mQa.mpr (.inr (Qkq.mpr #[_,cK e d,L]))))
def Go.lf:x.fs.length=fs.length:=g.n.lf _ (cK b c)
def Go.last(d:fs.getLast? =some f):∃a,x.fs.getLast? =some a/\S[a]?=some (sj f):=by
 let l:=g.lf b c
 rw[List.getLast?_eq_getElem?] at d
 let j:=(gQs.mp d).1
 have e:x.fs.getLast? =x.fs[fs.length-1]? :=by rw[List.getLast?_eq_getElem?,l]
 rw[e]
 show#[_,gQe (!0),g.hfs b c (gQe (!0)) d]
end
def yY{xs:List Nat}{a:Nat}(h:xs.getLast? =some a):kq (xs.map D.ref) (-1)=some (.ref a):=mS (by rw[QfQ,h];rfl)
def wZ{b:cG}{v:Nat}{x:Dw}{Q:D->aE->Prop}(g:Go lo S0 S t s)(c:t.hs[h]?=some x)(l:s.af[h]?=some (vs,fs))(j:b[1]?=some (some (.ref t.k)))(e:b[v]?=some (some (.int h)))(q:Q (.ref x.f) S):
  E (aQ fO (aQ fO (aQ fO (ar 1) (cF (.int 3))) (ar v)) (cF (.int 1))) b S Q:=
 aV (aV (aV (aw j (cu (bC g.n.top (d:=.ref t.h) L (aw e (bC g.n.th (d:=.ref x.a) (aU (by rw[gQm,c];rfl)) (cu (bC (g.ha c l) (d:=.ref x.f) L q)))))))))
def oO{b:cG}{v:Nat}{x:Dw}{a:Nat}{Q:D->aE->Prop}(g:Go lo S0 S t s)(d:t.hs[h]?=some x)(c:s.af[h]?=some (vs,fs))(e:x.fs.getLast? =some a)(l:b[1]?=some (some (.ref t.k)))(j:b[v]?=some (some (.int h)))(q:Q (.ref a) S):
  E (aQ fO (aQ fO (aQ fO (aQ fO (ar 1) (cF (.int 3))) (ar v)) (cF (.int 1))) (g6 (cF (.int 1)))) b S Q:=
 aV (wZ g d c l j (iz (cu #[1,L,bC (g.hf d c) (yY e) q])))
def FM{b:cG}{v:Nat}{x:Dw}{Q:D->aE->Prop}(g:Go lo S0 S t s)(c:t.hs[h]?=some x)(l:s.af[h]?=some (vs,fs))(j:b[1]?=some (some (.ref t.k)))(e:b[v]?=some (some (.int h)))(q:Q (.ref x.v) S):
  E (aQ fO (aQ fO (aQ fO (ar 1) (cF (.int 3))) (ar v)) (cF (.int 0))) b S Q:=
 aV (aV (aV (aw j (cu (bC g.n.top (d:=.ref t.h) L (aw e (bC g.n.th (d:=.ref x.a) (aU (by rw[gQm,c];rfl)) (cu (bC (g.ha c l) (d:=.ref x.v) L q)))))))))
def ou{b:cG}{x:Ht}{e:bL}{Q:D->aE->Prop}(g:Go lo S0 S t s)(m:t.rs[i]?=some x)(l:b[1]?=some (some (.ref t.k)))(he:E e b S λd c=>d=.int i/\c=S)(q:Q (.ref x.a) S):
  E (aQ fO (aQ fO (ar 1) (cF (.int 0))) e) b S Q:=by
 show aV (aV (aw l (cu (bC g.n.top (d:=.ref t.r) L (he.mono λd c j=>?_)))))
 let#[rfl,rfl]:=j
 show bC g.n.tr (d:=.ref x.a) (aU (by rw[gQm,m];rfl)) q
def iB{b:cG}{a j:Nat}{k v:Int}{f:cB}{Q:D->aE->Prop}(d:S[a]?=some (sj f))(e:b[j]?=some (some (.ref a)))(c:kq ([.int f.room,.int f.deed,.int f.row,.int f.given,.int f.told]:List D) k=some (.int v))(q:Q (.int v) S):E (aQ fO (ar j) (cF (.int k))) b S Q:=
 aV (aw e (cu (bC d c q)))
def wB:∀a:Str×Nat,∃r,kZ a=.tup (.str a.1::r):=λ_=>#[_,L]
def LW:∀a:Str×Str,∃r,AI a=.tup (.str a.1::r):=λ_=>#[_,L]
def G9{r:Rm}{rs:dv}(d:r.aa.length=rs.aa.length):bE [] (((r.aa.map (·.1)).map Sum.inr).zip (rs.aa.map λl=>D.int (l.length:Nat)))=yQ r rs:=by
 unfold yQ
 congr 1
 rw[QPq]
 generalize rs.aa=c at d|-
 generalize r.aa=e at d|-
 induction e generalizing c with
 |nil=>rfl
 | cons a e g=>
   cases c with
   |nil=>simp at d
   | cons b c=>
     have:=g c (by simpa using d)
     erw[QDq,List.zip_cons_cons]
     rw[this]
     rfl
def y6{tr:Tr}{Q:Res->aE->Prop}(g:Go lo S0 S t s)(o:eJ w)(x:cM w n s)(H:s.af[h]?=some (vs,fs))(Y:fs.getLast? =some f)(a2:A0 w h f=some sc)(ht:Fh sc tr)(q:Q (.d (.int (df w s h tr))) S):Fn cX [w.d,.ref t.k,.int h,tr.d] S Q:=by
 let#[hd,F]:=g.hx H
 let#[a,ha,C]:=g.last F H Y
 let#[I,pr,X,Z]:=x.whand H
 let o2:=o.hd _ (mQg X)
 let fi:=Z.fr f (QcQ Y)
 let b3:=o.l3
 have b4:I.length<=6:=o2.l1
 let ls:=x.ls
 let lv:=Z.lv
 show bZ ?_
 unfold k0
 show aI (cU (oO g F H ha rfl rfl ?_))
 show aI (bK (cm (aV (iB C rfl (v:=f.room) rfl (cu (fR ?_))))))
 rcases fV a2 with⟨c,a3,a5,L,rfl⟩|⟨c,r,hr,rfl⟩
 ·rw[X] at L
  cases L
  rw[c]
  show tJ ?_
  show aG (λ_=>?_) (λz=>by cases z)
  have er:df w s h tr=pE (numAt (rQ w s I vs)) (λ_=>0) tr:=by unfold df;rw[eX H Y,Qhq c,Ai X,hU H]
  rw[er] at q
  symm
  apply ax (d:=.tup (w.af.map fw)) rfl ?_
  show ax (d:=fw (I,pr)) (aU (by rw[gQm,X];rfl)) ?_
  symm
  apply ax (d:=.tup (I.map kZ)) rfl ?_
  show ax (d:=.tup (w.ak.map kZ)) rfl ?_
  show eI (by rw[lQm,lQm];show QAq (show _<=12 by omega) (!1)) ?_
  rw[<-Qzq]
  show aI (cU (eR (yE ?_)))
  show bX (FM g F H rfl rfl (a_ (g.hv F H) ?_))
  show bX (aV (aw rfl (cu (bC g.n.top (d:=.ref t.s) rfl (a_ g.n.ts ?_)))))
  show#[#[rfl,rfl,g.hv F H,by rw[lQm,lQm];show QAq (show _<=12 by omega) (!1)],?_]
  rw[<-Qzq]
  show fA (cc (aA (aw rfl (aA (G5 (oY ?_))))))
  show kO (enc:=kZ) (nm:=(·.1)) (xs:=I++w.ak) (tg:=.tu) wB (by rw[lQa];omega) (bX (aw rfl (cE #[rfl,rfl]))) trivial ?_
  show bX (aw rfl (a_ aM #[(I++w.ak).map (·.1),rfl,#[trivial,by erw[lQm,lQa];omega],?_]))
  show aA (PM (aZ ?_))
  let b5:=ht.2
  show sr (th:=numAt (rQ w s I vs)) (wt:=λ_=>0) (ws:=I.map (·.1)++w.ak.map (·.1)) (bs:= []) (aO aM) aM (λy A=>J9 ls lv x.sv Z.vv o2.dj A) (λb hb=>by cases hb) (λy A=>?_) 5 tr ht.1 (!0) ?_
  ·have B:jE (rQ w s I vs):=jE.merge (eF x.sv) (eF Z.vv)
   show(iC B (fF ?_)).2
   rcases mQa.mp A with A|A
   ·show .inr (dH lv A)
   ·show .inl (dH ls A)
  ·show uU sk.refl.app.app.app (λk z=>(nomatch z)) rfl q
 ·let#[u,e,ri]:=x.wroom hr
  let N:=o.rm r (mQg hr)
  let W:=gV fi c
  let#[J,m]:=g.rx e
  let b5:=N.l1
  let b6:=N.l2
  let b7:=ht.2
  let a4:=ri.lv
  let R:=ri.lb
  show aG (λz=>by have:=QZq z;omega) (λ_=>bT ?_)
  have er:df w s h tr=pE (numAt (iT r u f.given)) (uB r u) tr:=by unfold df;rw[eX H Y,Quq c,iK hr,dZ e]
  rw[er] at q
  generalize f.room.toNat=i at hr e m W
  have he:∀{Γ:cG} {S:aE},Γ[4]?=some (some (.ref a))->S[a]?=some (sj f)->E (aQ fO (ar 4) (cF (.int 0))) Γ S λd K=>d=.int i/\K=S:=λh1 h2=>iB h2 h1 (v:=f.room) rfl #[by rw[W],rfl]
  show aI (cU (aV (aV (aw rfl (cu (ax (d:=.tup (w.aj.map Rm.d)) rfl ((he rfl C).mono λd K hd=>?_)))))))
  let#[rfl,rfl]:=hd
  show ax (d:=r.d) (aU (by rw[gQm,hr];rfl)) ?_
  show aI (cU (G5 (oY ?_)))
  show kO (enc:=kZ) (nm:=(·.1)) (xs:=r.ao) (tg:=.tu) wB (!0) (bX (aV (aw rfl (cu (ax (d:=.tup (r.ao.map kZ)) rfl (cE #[rfl,rfl])))))) trivial ?_
  show bX (aV (ou g m rfl (he rfl C) (cu (bC (g.ca m e) (d:=.ref J.v) rfl (a_ (g.cv m e) #[r.ao.map (·.1),rfl,#[trivial,by erw[lQm];omega],?_])))))
  show aI (ON ?_)
  show iB (aO C) rfl (v:=f.given) rfl ?_
  show aw rfl (cu #[_,_,_,rfl,rfl,aM,?_,?_])
  ·show Nat.lt_of_le_of_lt (pU (l:= [])) ?_
   rw[List.length_zip,lQm,lQm,lQm]
   show Nat.lt_of_le_of_lt (show _<=6 by simp;omega) (!1)
  have gd:(K++ [O.dct (bE [] (((r.ao.map (·.1)).map Sum.inr).zip (u.vals.map D.int)))]).set K.length (.dct (iT r u f.given))=K++ [O.dct (iT r u f.given)]:=by simp
  have a0:putD (bE [] (((r.ao.map (·.1)).map Sum.inr).zip (u.vals.map D.int))) (.inr "given") (.int f.given)=iT r u f.given:=rfl
  rw[a0,gd]
  let P:=g.app (G:= [O.dct (iT r u f.given)])
  have M:(K++ [O.dct (iT r u f.given)])[a]?=some (sj f):=aO C
  show aI (cU (eR ?_))
  show je (α:=Nat×List (Int×Int)) (λU=>∃a,U= [a]) (λp=>.ref p.1) (λp=>.int (p.2.length:Nat)) #[none,rfl] ?_
  show bX (aV (ou P m rfl (he rfl M) (cu (bC (P.ca m e) (d:=.ref J.b) rfl (a_ (P.cb m e) ?_)))))
  let lz:=g.lb m e
  show#[J.bs.zip u.aa,?_,P.cb m e,by rw[List.length_zip];omega,λp hp U a1=>?_,?_]
  ·show J.bs.map D.ref=(J.bs.zip u.aa).map ((λk=>D.ref k)∘Prod.fst)
   rw[<-QPq,List.map_fst_zip (!0)]
  ·let#[a',rfl]:=a1
   let#[j,k1,k2]:=j_ hp
   show aS #[rfl,#[_,rfl],?_]
   show zd (bX (aw rfl (a_ (P.cbs m e k1 k2) #[?_,rfl])))
   rw[lQm]
  have eb:(J.bs.zip u.aa).map (λp=>D.int (p.2.length:Nat))=u.aa.map λl=>D.int (l.length:Nat):=by
   show(J.bs.zip u.aa).map ((λl:List (Int×Int)=>D.int (l.length:Nat))∘Prod.snd)=_
   rw[<-QPq,List.map_snd_zip (!0)]
  rw[eb]
  show aI (cU (G5 (oY ?_)))
  show kO (enc:=AI) (nm:=(·.1)) (xs:=r.aa) (tg:=.tu) LW (!0) (bX (aV (aw rfl (cu (ax (d:=.tup (r.aa.map AI)) rfl (cE #[rfl,rfl])))))) trivial ?_
  show bX (aw rfl (a_ aM #[r.aa.map (·.1),rfl,#[trivial,by erw[lQm];omega],?_]))
  rw[G9 R]
  show fA (cc (aA (aw rfl (aA (aw rfl (aA (aw rfl (aZ ?_))))))))
  have B:jE (iT r u f.given):=(eF ri.vv).put fi.gv.1 fi.gv.2
  have kk:∀y∈r.ao.map (·.1)++fS,(Sum.inr y:Key)∈(iT r u f.given).map (·.1):=λy A=>kH (by
   rcases mQa.mp A with A|A
   ·show .inr (dH ri.lv A)
   ·left
    rw[Qfq.mp A])
  show sr (th:=numAt (iT r u f.given)) (wt:=uB r u) (ws:=r.ao.map (·.1)++fS) (bs:=r.aa.map (·.1)) (aO (aO aM)) aM (λy A=>(iC B (kk y A)).1) (λb hb=>CT R hb) (λy A=>(iC B (kk y A)).2) 5 tr ht.1 (!0) ?_
  show uU sk.refl.app.app.app (λk z=>(nomatch z)) rfl q
end
end W28
namespace DL
open L2
def KD{n j:Nat}(h:j<n):Ef n (j:Int)=some j:=by unfold Ef;rw[Qhq (!0),Qhq (!0)];simp
def pz{a:cG}{S:aE}{f e:bL}{d:D}{k j:Nat}{ds:List D}{Q:cG->aE->Prop}(c:E f a S λx b=>x=.ref k/\b=S)(he:E e a S λy b=>y=.int j/\b=S)(l:S[k]?=some (.lst ds))(i:j<ds.length)(q:Q a (S.set k (.lst (ds.set j d)))):Tg (xS f e) d a S Q:=by
 show LP (c.mono λx b h=>?_)
 let#[rfl,rfl]:=h
 show he.mono λy m g=>?_
 let#[rfl,rfl]:=g
 show#[_,_,_,_,L,L,l,KD i,q]
end DL
namespace W28
open L2 DL
theorem rJ{α c:Type}{f:α->List c}:∀{l:List α} {i:Nat} {a b:α},l[i]?=some a->(f b).Sublist (f a)->((l.set i b).flatMap f).Sublist (l.flatMap f)
 | [],_,_,_,h,_=>by simp at h
 | x::l,0,a,b,h,s=>by
   simp at h
   subst h
   rw[List.set_cons_zero,QSq,QSq]
   show s.append (QjQ _)
 | x::l,i+1,a,b,h,s=>by
   rw[List.set_cons_succ,QSq,QSq]
   show(QjQ _).append (rJ (by simpa using h) s)
theorem pB{α c:Type}{f:α->List c}:∀{l:List α} {i:Nat} {a b:α} {n:c},l[i]?=some a->(f b).Perm (n::f a)->((l.set i b).flatMap f).Perm (n::l.flatMap f)
 | [],_,_,_,_,h,_=>by simp at h
 | x::l,0,a,b,n,h,s=>by
   simp at h
   subst h
   rw[List.set_cons_zero,QSq,QSq]
   show s.append_right _
 | x::l,i+1,a,b,n,h,s=>by
   rw[List.set_cons_succ,QSq,QSq]
   show((pB (by simpa using h) s).append_left (f x)).trans List.perm_middle
section
variable{lo:Nat->Prop}{S0 S:aE}{t:xQ}{s:bq}{h i:Nat}{vs:List Int}{fs:List cB}{f:cB}{w:cT}{n:Nat}{sc:Sc}{Q:Res->aE->Prop}
def Go.all_lt(g:Go lo S0 S t s):∀a∈y0 t,a<S.length:=λa o=>by
 rcases mQa.mp o with z|z
 ·erw[Qsq,QXq,or_false] at z
  rcases z with rfl|rfl|rfl|rfl|rfl
  ·show(gQs.mp g.n.top).1
  ·show(gQs.mp g.n.tr).1
  ·show(gQs.mp g.n.tp).1
  ·show(gQs.mp g.n.ts).1
  ·show(gQs.mp g.n.th).1
 ·rcases mQa.mp z with z|z
  ·let#[x,b,z]:=QOq.mp z
   let#[i,c,e]:=QbQ b
   have b:t.rs[i]?=some x:=by rw[gQe c,e]
   obtain⟨r,d⟩:∃r,s.aj[i]?=some r:=#[_,gQe (by rw[<-g.n.lr];show c)]
   rcases mQa.mp z with z|z
   ·erw[Qsq,QXq,or_false] at z
    rcases z with rfl|rfl|rfl|rfl|rfl
    ·show(gQs.mp (g.ca b d)).1
    ·show(gQs.mp (g.cv b d)).1
    ·show(gQs.mp (g.cr b d)).1
    ·show(gQs.mp (g.cl b d)).1
    ·show(gQs.mp (g.cb b d)).1
   ·let#[j,k,e]:=QbQ z
    show(gQs.mp (g.cbs b d (j:=j) (by rw[gQe k,e]) (gQe (by rw[<-g.lb b d];show k)))).1
  ·rcases mQa.mp z with z|z
   ·let#[x,b,z]:=QOq.mp z
    let#[i,c,e]:=QbQ b
    have b:t.ps[i]?=some x:=by rw[gQe c,e]
    obtain⟨p,m⟩:∃p,s.ai[i]?=some p:=#[_,gQe (by rw[<-g.n.lp];show c)]
    erw[HE,Qsq,QXq,or_false] at z
    rcases z with rfl|rfl
    ·show g.n.lt (nW (cK b m) (QBq ..))
    ·show g.n.lt (p:=(x.r,cP p.2)) (nW (cK b m) (Qpq _ (QBq ..)))
   ·let#[x,b,z]:=QOq.mp z
    let#[i,c,e]:=QbQ b
    have b:t.hs[i]?=some x:=by rw[gQe c,e]
    obtain⟨⟨vs,fs⟩,l⟩:∃p,s.af[i]?=some p:=#[_,gQe (by rw[<-g.n.lh];show c)]
    rcases mQa.mp z with z|z
    ·erw[Qsq,QXq,or_false] at z
     rcases z with rfl|rfl|rfl
     ·show(gQs.mp (g.ha b l)).1
     ·show(gQs.mp (g.hv b l)).1
     ·show(gQs.mp (g.hf b l)).1
    ·let#[j,k,e]:=QbQ z
     show(gQs.mp (g.hfs b l (j:=j) (by rw[gQe k,e]) (gQe (by rw[<-g.lf b l];show k)))).1
section
variable{x:Dw}(g:Go lo S0 S t s)(c:t.hs[h]?=some x)(d:s.af[h]?=some (vs,fs))
include g c d
def Go.hvals(a:List Int):Go lo S0 (S.set x.v (cP a)) t {s with af:=s.af.set h (a,fs)}:=by
 have e:{t with hs:=t.hs.set h x}=t:=by rw[qG c]
 let q:=(gQs.mp (g.hv c d)).1
 have:=g.n.hand (x':=x) (r':=(a,fs)) (b:=x.v) (o:=cP a) c d L (mQa.mpr (.inl (by simp))) (λp j m=>.inl (by
  rcases Qsq.mp j with z|j
  ·show Qsq.mpr (.inl z)
  ·rcases Qsq.mp j with z|z
   ·rw[z] at m;show absurd L m
   ·show Qpq _ (Qpq _ z))) q (g.lf c d) (by rw[e];show g.n.nd) (by rw[e];show g.n.lo)
 rw[e] at this
 show#[this,g.k.put (g.n.lo _ (FR c (by simp[CG]))),g.l]
def Go.frame{a:Nat}(v:x.fs.getLast? =some a)(A:fs.getLast? =some f)(f':cB):Go lo S0 (S.set a (sj f')) t {s with af:=s.af.set h (vs,fs.dropLast++ [f'])}:=by
 have e:{t with hs:=t.hs.set h x}=t:=by rw[qG c]
 let l:=g.lf c d
 have C:x.fs=x.fs.dropLast++ [a]:=gq v
 let F:=gq A
 have H:x.fs.dropLast.length=fs.dropLast.length:=by rw[List.length_dropLast,List.length_dropLast,l]
 let#[b,y,m]:=g.last c d A
 rw[v] at y
 cases y
 let G:=(gQs.mp m).1
 have j:x.fs.length=(fs.dropLast++ [f']).length:=by
  have I:0<x.fs.length:=by rw[C];simp
  rw[lQa,List.length_dropLast,<-l]
  simp
  omega
 have r:∀q,(x.fs.zip (fs.dropLast++ [q])).map (λp=>((p.1,sj p.2):Cell))=(x.fs.dropLast.zip fs.dropLast).map (λp=>(p.1,sj p.2))++ [(a,sj q)]:=λq=>by
  conv=>lhs;rw[C]
  rw[List.zip_append H,Qzq]
  rfl
 have:=g.n.hand (x':=x) (r':=(vs,fs.dropLast++ [f'])) (b:=a) (o:=sj f') c d L (by
   unfold xP
   rw[r]
   simp) (λp u B=>.inl (by
  unfold xP at u|-
  rw[r] at u
  rw[F,r]
  rcases mQa.mp u with z|z
  ·show mQa.mpr (.inl z)
  ·rcases mQa.mp z with z|z
   ·show mQa.mpr (.inr (mQa.mpr (.inl z)))
   ·rw[Qfq.mp z] at B;show absurd L B)) G j (by rw[e];show g.n.nd) (by rw[e];show g.n.lo)
 rw[e] at this
 show#[this,g.k.put (g.n.lo _ (FR c (mQa.mpr (.inr (QcQ v))))),g.l]
def Go.pop(m:0<fs.length):Go lo S0 (S.set x.f (.lst (x.fs.dropLast.map D.ref))) {t with hs:=t.hs.set h {x with fs:=x.fs.dropLast}} {s with af:=s.af.set h (vs,fs.dropLast)}:=by
 let v:=(gQs.mp (g.hf c d)).1
 let l:=g.lf c d
 have b:(y0 {t with hs:=t.hs.set h {x with fs:=x.fs.dropLast}}).Sublist (y0 t):=(QjQ _).append ((QjQ _).append ((QjQ _).append (rJ c ((QjQ _).append (List.dropLast_sublist _)))))
 have A:∀p∈(x.fs.dropLast.zip fs.dropLast).map (λp=>((p.1,sj p.2):Cell)),p∈(x.fs.zip fs).map λp=>(p.1,sj p.2):=λp m=>by
  let#[q,u,rfl]:=Qkq.mp m
  let#[j,e,o]:=j_ u
  show Qkq.mpr #[q,cK (i:=j) ?_ ?_,L]
  ·rw[List.getElem?_dropLast] at e
   split at e
   ·show e
   ·cases e
  ·rw[List.getElem?_dropLast] at o
   split at o
   ·show o
   ·cases o
 show#[g.n.hand (x':={x with fs:=x.fs.dropLast}) (r':=(vs,fs.dropLast)) c d L (mQa.mpr (.inl (by simp))) (λp m r=>.inl ?_) v (by show x.fs.dropLast.length=fs.dropLast.length;rw[List.length_dropLast,List.length_dropLast,l]) (b.nodup g.n.nd) (λa y=>g.n.lo a (b.mem y)),g.k.put (g.n.lo _ (FR c (by simp[CG]))),g.l]
 rcases mQa.mp m with z|z
 ·show mQa.mpr (.inl ?_)
  erw[Qsq,QXq,or_false] at z|-
  rcases z with z|z|z
  ·show .inl z
  ·show .inr (.inl z)
  ·rw[z] at r;show absurd L r
 ·show mQa.mpr (.inr (A p z))
def Go.push(f':cB):Go lo S0 ((S++ [sj f']).set x.f (.lst ((x.fs++ [S.length]).map D.ref))) {t with hs:=t.hs.set h {x with fs:=x.fs++ [S.length]}} {s with af:=s.af.set h (vs,fs++ [f'])}:=by
 let j:=g.app (G:= [sj f'])
 let q:=(gQs.mp (j.hf c d)).1
 let l:=g.lf c d
 have m:(y0 {t with hs:=t.hs.set h {x with fs:=x.fs++ [S.length]}}).Perm (S.length::y0 t):=by
  unfold y0
  show((List.Perm.append_left _ (List.Perm.append_left _ (List.Perm.append_left _ (pB (n:=S.length) c ?_)))).trans ?_)
  ·show([x.a,x.v,x.f]++(x.fs++ [S.length])).Perm (S.length::([x.a,x.v,x.f]++x.fs))
   rw[<-Qvq]
   simpa using List.perm_middle (l₁:= [x.a,x.v,x.f]++x.fs) (a:=S.length) (l₂:= [])
  ·show(List.Perm.append_left _ ((List.Perm.append_left _ List.perm_middle).trans List.perm_middle)).trans List.perm_middle
 have r:S.length∉y0 t:=λz=>by
  have:∀a∈y0 t,a<S.length:=λa b=>g.all_lt a b
  show absurd (this _ z) (Nat.lt_irrefl _)
 have u:(({x with fs:=x.fs++ [S.length]}:Dw).fs.zip (fs++ [f'])).map (λp=>((p.1,sj p.2):Cell))=(x.fs.zip fs).map (λp=>(p.1,sj p.2))++ [(S.length,sj f')]:=by
  show((x.fs++ [S.length]).zip (fs++ [f'])).map _=_
  rw[List.zip_append l,Qzq]
  rfl
 show#[j.n.hand (x':={x with fs:=x.fs++ [S.length]}) (r':=(vs,fs++ [f'])) c d L (mQa.mpr (.inl (by simp))) (λp e o=>?_) q (by simp[l]) (m.nodup_iff.mpr (List.nodup_cons.mpr #[r,g.n.nd])) (λa b=>?_),j.k.put (g.n.lo _ (FR c (by simp[CG]))),g.l]
 ·unfold xP at e
  rw[u] at e
  rcases mQa.mp e with z|z
  ·show .inl (mQa.mpr (.inl ?_))
   erw[Qsq,QXq,or_false] at z|-
   rcases z with z|z|z
   ·show .inl z
   ·show .inr (.inl z)
   ·rw[z] at o;show absurd L o
  ·rcases mQa.mp z with z|z
   ·show .inl (mQa.mpr (.inr z))
   ·rw[Qfq.mp z]
    show .inr aM
 ·rcases Qsq.mp (m.mem_iff.mp b) with rfl|b
  ·intro z
   have:=g.k.len
   have:=g.l _ z
   omega
  ·show g.n.lo a b
end
end
section
variable{lo:Nat->Prop}{S0 S:aE}{t:xQ}{s:bq}{h i:Nat}{vs:List Int}{fs:List cB}{f:cB}{w:cT}{n:Nat}{sc:Sc}{Q:Res->aE->Prop}
def vP{a:List Int}{j:Nat}{v:Int}:(a.map D.int).set j (.int v)=(a.set j v).map D.int:=by rw[List.map_set]
def Jk{y:Str}{v:Int}(g:Go lo S0 S t s)(o:eJ w)(x:cM w n s)(p:s.af[h]?=some (vs,fs))(J:fs.getLast? =some f)(P:A0 w h f=some sc)(G:y∈sc.ps)(q:∀Y,Go lo S0 Y t (nu w s h y v)->Q (.d .non) Y):Fn kh [w.d,.ref t.k,.int h,.str y,.int v] S Q:=by
 let#[R,e]:=g.hx p
 let#[a,ha,B]:=g.last e p J
 let#[u,pr,I,X]:=x.whand p
 let U:=o.hd _ (mQg I)
 let fi:=X.fr f (QcQ J)
 let b3:=o.l3
 have b4:u.length<=6:=U.l1
 let ls:=x.ls
 let lv:=X.lv
 show vf ?_
 unfold sW
 show aI (cU (oO g e p ha rfl rfl ?_))
 show bK (cm (aV (iB B rfl (v:=f.room) rfl (cu (fR ?_)))))
 rcases fV P with⟨c,a0,a2,F,rfl⟩|⟨c,r,hr,rfl⟩
 ·rw[I] at F
  cases F
  show aG (λz=>by have:=QZq z;omega) (λ_=>?_)
  have K:nu w s h y v=nF w s h u vs fs y v:=by unfold nu;rw[eX p J,Qhq c,Ai I,hU p]
  rw[K] at q
  unfold nF at q
  have wt:∀{A:cG} {Q:D->aE->Prop},A[0]?=some (some w.d)->A[2]?=some (some (.int h))->Q (.tup (u.map kZ)) S->E (aQ fO (aQ fO (aQ fO (ar 0) (cF (.int 3))) (ar 2)) (cF (.int 0))) A S Q:=λN h2 q=>by
   show aV (aV (aV (aw N (cu (ax (d:=.tup (w.af.map fw)) rfl (aw h2 (ax (d:=fw (u,pr)) (aU (by rw[gQm,I];rfl)) (cu (ax (d:=.tup (u.map kZ)) rfl q)))))))))
  show bK (cm (xV (aw rfl (oY (kO (enc:=kZ) (nm:=(·.1)) (xs:=u) (tg:=.tu) wB (!0) (bX (wt rfl rfl (cE #[rfl,rfl]))) trivial ?_)))))
  show#[_,_,rfl,hZ _,?_]
  rw[AJ]
  show aG (λz=>?_) (λz=>?_)
  ·have z:y∈u.map (·.1):=QZq z
   let C:=(iG z).1
   rw[lQm] at C
   rw[Quq (U.dj y z)] at q
   show rL (aw rfl (pz (j:=c7 (u.map (·.1)) y) (FM g e p rfl rfl #[rfl,rfl]) ?_ (g.hv e p) (by rw[lQm];omega) ?_))
   ·show cc (aA (wt rfl rfl (aA (aw rfl (aZ ?_)))))
    show lA wB (!0) z #[rfl,rfl]
   ·rw[vP]
    show q _ (g.hvals e p _)
  ·have z:y∉u.map (·.1):=QaQ z
   have M:y∈w.ak.map (·.1):=(mQa.mp G).resolve_left z
   let C:=(iG M).1
   rw[lQm] at C
   rw[Qhq M] at q
   show rL (aw rfl (pz (j:=c7 (w.ak.map (·.1)) y) (aV (aw rfl (cu (bC g.n.top (d:=.ref t.s) rfl #[rfl,rfl])))) ?_ g.n.ts (by rw[lQm];omega) ?_))
   ·show cc (aA (aV (aw rfl (cu (ax (d:=.tup (w.ak.map kZ)) rfl (aA (aw rfl (aZ ?_))))))))
    show lA wB (!0) M #[rfl,rfl]
   ·rw[vP]
    show q _ #[g.n.share,g.k.put (g.n.lo _ (by simp[y0])),g.l]
 ·let#[W,b,ri]:=x.wroom hr
  let L:=o.rm r (mQg hr)
  let H:=gV fi c
  let#[rx,m]:=g.rx b
  let b5:=L.l1
  let a1:=ri.lv
  show aG (λ_=>?_) (λz=>by have:=QaQ z;omega)
  have K:nu w s h y v=eK s f.room.toNat {W with vals:=eU (r.ao.map (·.1)) W.vals y v}:=by unfold nu;rw[eX p J,Quq c,iK hr,dZ b]
  rw[K] at q
  generalize f.room.toNat=i at hr b m H q
  have Z:∀{A:cG},A[5]?=some (some (.ref a))->E (aQ fO (ar 5) (cF (.int 0))) A S λd S1=>d=.int i/\S1=S:=λN=>iB B N (v:=f.room) rfl #[by rw[H],rfl]
  have G:y∈r.ao.map (·.1):=G
  let C:=(iG G).1
  rw[lQm] at C
  show rL (aw rfl (pz (j:=c7 (r.ao.map (·.1)) y) (aV (ou g m rfl (Z rfl) (cu (bC (g.ca m b) (d:=.ref rx.v) rfl #[rfl,rfl])))) ?_ (g.cv m b) (by rw[lQm];omega) ?_))
  ·show cc (aA (aV (aV (aV (aw rfl (cu (ax (d:=.tup (w.aj.map Rm.d)) rfl ((Z rfl).mono λd S1 R=>?_))))))))
   let#[rfl,rfl]:=R
   show ax (d:=r.d) (aU (by rw[gQm,hr];rfl)) (cu (ax (d:=.tup (r.ao.map kZ)) rfl (aA (aw rfl (aZ ?_)))))
   show lA wB (!0) G #[rfl,rfl]
  ·rw[vP]
   show q _ (g.vals m b _)
def ur{a:Nat}{pr:List Rw}(g:S[a]?=some (sj f))(o:progOf w h f=some pr)(q:Q (.d (.tup (pr.map Rw.d))) S):Fn fU [w.d,.int h,.ref a] S Q:=by
 show bZ ?_
 unfold j6
 show aI (bK (cm (aV (iB g L (v:=f.room) L (cu (fR ?_))))))
 have b:Op (settle S (.tup (pr.map Rw.d)) S) λp=>Q p.1 p.2:=cQ (λk z=>(nomatch z)) (w_ pr) q
 rcases jo o with⟨c,y,e⟩|⟨i,j,r,u,e,l,x,m⟩
 ·rw[c]
  apply tJ (aG (λ_=>?_) (λz=>by cases z))
  apply ax (d:=.tup (w.af.map fw)) L ?_
  show ax (d:=fw (y,pr)) (aU (by rw[gQm,e];rfl)) ?_
  symm
  show ax (d:=.tup (pr.map Rw.d)) L ?_
  show b
 ·show aG (λz=>by have:=QZq z;omega) (λ_=>bT ?_)
  show fA (aV (aV (aV (aV (aV (aw L (cu (ax (d:=.tup (w.aj.map Rm.d)) L (iB g L (v:=f.room) L ?_)))))))))
  rw[e]
  show ax (d:=r.d) (aU (by rw[gQm,x];rfl)) (cu (ax (d:=.tup (r.ae.map ix)) L (iB g L (v:=f.deed) L ?_)))
  rw[l]
  show ax (d:=ix (u,pr)) (aU (by rw[gQm,m];rfl)) (cu (ax (d:=.tup (pr.map Rw.d)) L ?_))
  show b
def Go.px{p:Int×List Int}(g:Go lo S0 S t s)(a:s.ai[i]?=some p):∃x,t.ps[i]?=some x:=#[_,gQe (by rw[g.n.lp];show(gQs.mp a).1)]
section
variable{x:Er}{p:Int×List Int}(g:Go lo S0 S t s)(b:t.ps[i]?=some x)(f:s.ai[i]?=some p)
include g b f
def Go.pa:S[x.a]?=some (.lst [.int p.1,.ref x.r]):=g.n.ho (x.a,_) (nW (cK b f) (QBq ..))
def Go.pr:S[x.r]?=some (cP p.2):=g.n.ho (x.r,cP p.2) (nW (cK b f) (Qpq _ (QBq ..)))
def Go.pval(v:Int):Go lo S0 (S.set x.a (.lst [.int v,.ref x.r])) t (jy s i (v,p.2)):=⟨g.n.pass b f (QBq ..) (λq d c=>by
 rcases Qsq.mp d with z|z
 ·rw[z] at c;show absurd L c
 ·show Qpq _ z),g.k.put (g.n.lo _ (LY b (by simp[HE]))),g.l⟩
def Go.prow(a:List Int):Go lo S0 (S.set x.r (cP a)) t (jy s i (p.1,a)):=⟨g.n.pass b f (Qpq _ (QBq ..)) (λq d c=>by
 rcases Qsq.mp d with z|z
 ·show Qsq.mpr (.inl z)
 ·rw[Qfq.mp z] at c;show absurd L c),g.k.put (g.n.lo _ (LY b (by simp[HE]))),g.l⟩
def F0(y:p.2.length<900)(q:∀o,Go lo S0 o t (jy s i (fj p))->Q (.d .non) o):Fn lU [.ref x.a] S Q:=by
 let k:=g.pa b f
 let m:=g.pr b f
 show vf ?_
 unfold qA
 show bK (cm (oB (bX (aV (aw L (cu (bC k (d:=.ref x.r) L (a_ m #[#[L,m],?_]))))))))
 let u:=g.prow b f
 let z:=g.pval b f
 let#[v,l]:=p
 cases l with
 | cons a l=>
   show tJ (aG (λ_=>?_) (λc=>by cases c))
   show c9 (fq (aV (aw L (cu (bC k (d:=.ref x.r) L #[_,_,L,m,aA (cu (aZ #[_,m,vC ?_ ?_]))])))))
   · show q _ (u l)
   · rw[lQm];simp at y;omega
 | nil=>
   show tJ (aG (λc=>by cases c) (λ_=>?_))
   show rL (Bn (aA (cu (aA (aV (aV (aw L (cu (bC k (d:=.int v) L (cu (J5 (aZ (BV ?_)))))))))))))
   show pz (j:=0) (aw L #[L,L]) (cu #[L,L]) k (by simp) ?_
   have e:fj (v,[])=((if v+1<9 then v+1 else 9),[]):=by
     unfold fj
     show((if 9<v+1 then 9 else v+1),([]:List Int))=_
     congr 1
     split <;>split <;>omega
   have:=z (if v+1<9 then v+1 else 9)
   rw[e] at q
   show q _ this
def HR{k:Int}(u:p.2.length<900)(q:∀m,Go lo S0 m t (jy s i (gS p k))->Q (.d .non) m):Fn oG [.ref x.a,.int k] S Q:=by
 let l:=g.pa b f
 let o:=g.pr b f
 show vf ?_
 unfold sC
 show bK (cm (aV (aV (aw L (cu (bC l (d:=.int p.1) L (cu (fR ?_))))))))
 show aG (λc=>?_) (λc=>?_)
 ·have e:gS p k=(p.1-1,p.2):=Qhq (QZq c)
  rw[e] at q
  show rL (aV (aV (aw L (cu (bC l (d:=.int p.1) L (cu (fR ?_)))))))
  show pz (j:=0) (aw L #[L,L]) (cu #[L,L]) l (by simp) ?_
  show q _ (g.pval b f (p.1-1))
 ·have e:gS p k=(p.1,p.2++ [k]):=Quq (QaQ c)
  rw[e] at q
  show c9 (fq (aV (aw L (cu (bC l (d:=.ref x.r) L #[_,_,L,o,aA (aw L (aZ #[_,o,iW (by rw[lQm];omega) ?_]))])))))
  have:=q _ (g.prow b f (p.2++ [k]))
  unfold cP at this
  rw[Qzq] at this
  show this
end
end
structure Rn(rs:dv):Prop where
 w: -1<=rs.within
 r:∀x∈rs.row,0<=x
 l:∀x∈rs.ag,0<=x
 b:∀l∈rs.aa,∀p∈l,0<=p.2
def Nn(s:bq):Prop:=∀r∈s.aj,Rn r
section
variable{s:bq}{h i:Nat}{r:dv}{w:cT}
def Nn.at(x:Nn s):Rn (Dz s i):=by
 unfold Dz
 cases e:s.aj[i]? with
 |some r=>show x r (mQg e)
 |none=>show#[by decide,λx a=>(nomatch a),λx a=>(nomatch a),λx a=>(nomatch a)]
def Nn.set(x:Nn s)(y:Rn r):Nn (eK s i r):=λq a=>by
 rcases QTq a with a|rfl
 ·show x q a
 ·show y
def Rn.come(x:Rn r):Rn (gQ r h):=by
 unfold gQ
 split
 ·show#[by show(-1:Int)<=h;omega,x.r,x.l,x.b]
 ·show⟨x.w,λy a=>by
   rcases mQa.mp a with a|a
   ·show x.r y a
   ·rw[Qfq.mp a];omega,x.l,x.b⟩
def Rn.leave(x:Rn r):Rn (dG r):=by
 let#[f,c,e,g,j]:=r
 cases g with
 | cons a l=>
   have:=x.l a (QBq ..)
   show#[by show(-1:Int)<=a;omega,x.r,λy d=>x.l y (Qpq _ d),x.b]
 | nil=>
   cases e with
   | cons a l=>
     have:=x.r a (QBq ..)
     show#[by show(-1:Int)<=a;omega,λy d=>x.r y (Qpq _ d),x.l,x.b]
   |nil=>show#[by show(-1:Int)<= -1;omega,x.r,x.l,x.b]
def Rn.line{b:Nat}{l:List (Int×Int)}(x:Rn r)(c:∀p∈l,0<=p.2):Rn {r with aa:=r.aa.set b l}:=⟨x.w,x.r,x.l,λk a=>by
 rcases QTq a with a|rfl
 ·show x.b k a
 ·show c⟩
def Rn.wait{d:Rm}{b:Str}{v:Int}(x:Rn r):Rn (BP d r b v h):=by
 unfold BP
 show(x.line λp a=>?_).leave
 have c:∀p∈(r.aa[c7 (d.aa.map (·.1)) b]?).getD [],0<=p.2:=λp a=>by
  cases e:r.aa[c7 (d.aa.map (·.1)) b]? with
  |none=>rw[e] at a;cases a
  |some l=>rw[e] at a;show x.b l (mQg e) p a
 unfold uZ at a
 rcases mQa.mp a with a|a
 ·rcases mQa.mp a with a|a
  ·show c p (List.mem_of_mem_take a)
  ·rw[Qfq.mp a];show(0:Int)<=h;omega
 ·show c p (List.mem_of_mem_drop a)
def Rn.call{f:Bool}{b:Nat}(x:Rn r):Rn (nP f r b h):=by
 unfold nP
 split
 ·rename_i p l e
  let c:=x.b _ (mQg e)
  let y:=x.line (b:=b) (l:=l) λq d=>c q (Qpq _ d)
  split
  ·show y
  ·have:=c p (QBq ..)
   show⟨by show(-1:Int)<=p.2;omega,y.r,λz a=>by
    rcases mQa.mp a with a|a
    ·show x.l z a
    ·rw[Qfq.mp a];omega,y.b⟩
 ·show x
def Nn.put{y:Str}{v:Int}(x:Nn s):Nn (nu w s h y v):=by
 unfold nu
 split
 ·unfold nF
  split <;>show x
 ·have:=x.at (i:=(kd s h).room.toNat)
  show x.set #[this.w,this.r,this.l,this.b]
def Nn.does(x:Nn s)(r:Rw):Nn (iQ w s h r):=by
 cases r with
 |put y t=>show x.put
 | unl t n=>
   erw[iQ]
   split <;>show x
 |do_ g d c t=>show Nn.set (s:={s with af:=s.af.set h _}) x x.at.come
 |wait b t=>show x.set x.at.wait
 |call b=>show x.set x.at.call
 |all b=>show x.set (x.at.line λp a=>by cases a)
 |_=>show x
def Nn.step(x:Nn s):Nn (dS w s h).1:=by
 have a:Nn (mD s h):=Nn.set (s:={s with af:=s.af.set h _}) x x.at.leave
 unfold dS
 split
 ·show x.set x.at.come
 ·split
  ·show x
  ·split
   ·show Nn (rj w s h)
    unfold rj
    split
    ·show a.put
    ·show a
   ·split
    ·show x
    ·show Nn.does (s:=iS s h) x _
end
section
variable{lo:Nat->Prop}{S0 S:aE}{t:xQ}{s:bq}{h i:Nat}{vs:List Int}{fs:List cB}{f:cB}{w:cT}{n:Nat}{sc:Sc}{Q:Res->aE->Prop}
def Aj{b:cG}{e:bL}{y:Str}{x:Er}{R:D->aE->Prop}(g:Go lo S0 S t s)(l:y∈w.ai.map (·.1))(u:w.ai.length<=100)(r:t.ps[c7 (w.ai.map (·.1)) y]?=some x)(o:b[0]?=some (some w.d))(m:b[1]?=some (some (.ref t.k)))(he:E e b S λd c=>d=.str y/\c=S)(q:R (.ref x.a) S):
  E (aQ fO (aQ fO (ar 1) (cF (.int 1))) (az da (aq (aQ fO (ar 0) (cF (.int 1))) (aq e av)))) b S R:=by
 show aV (aV (aw m (cu (bC g.n.top (d:=.ref t.p) L (cc (aA (aV (aw o (cu (ax (d:=.tup (w.ai.map kZ)) L (aA (he.mono λd c j=>?_))))))))))))
 let#[rfl,rfl]:=j
 show aZ (lA wB (!0) l ?_)
 show bC g.n.tp (d:=.ref x.a) (aU (by rw[gQm,r];rfl)) q
def G3{c:cG}{i:Nat}{a b:Str}{l:List D}{R:Bool->aE->Prop}(h:c[i]?=some (some (.tup (.str a::l))))(q:R (!decide (a=b)) S):E (aH (aQ (dE true) (aQ fO (ar i) (cF (.int 0))) (cF (.str b)))) c S R:=
 cm (aV (aV (aw h (cu (ax (d:=.str a) Au (cu #[.bl (!decide (a=b)),by simp[dE,xT,Ci],q]))))))
def qk{r:Rw}(g:Go lo S0 S t s)(o:eJ w)(x:cM w n s)(Z:n<=100)(C:match r with|.take y=>y∈w.ai.map (·.1)|.give y=>y∈w.ai.map (·.1)|.pass y z=>y∈w.ai.map (·.1)/\z∈w.ai.map (·.1)|_=>False)(q:∀F,Go lo S0 F t (iQ w s h r)->Q (.d .non) F):Fn ia [w.d,.ref t.k,.int h,r.d] S Q:=by
 let Y:=o.l2
 let H:=x.lp
 have b:∀y,y∈w.ai.map (·.1)->∀J:bq,w.ai.length=J.ai.length->∃p,J.ai[c7 (w.ai.map (·.1)) y]?=some p:=λy I J X=>by
  have:=(iG I).1
  rw[lQm] at this
  show#[_,gQe (!0)]
 show vf ?_
 unfold j2
 cases r with
 | take y=>
   let#[p,m]:=b y C s H
   let#[L,j]:=g.px m
   let K:=x.ps p (mQg m)
   show aI (bK (G3 (a:="take") rfl ?_))
   show aG (λc=>by simp at c) (λ_=>bT ?_)
   show bK (G3 (a:="take") rfl ?_)
   show aG (λ_=>?_) (λc=>absurd c (by decide +kernel))
   show c9 (cc (aA (Aj g C (!0) j rfl rfl (aV (aw rfl (iz (cu #[1,rfl,ax (d:=.str y) rfl #[rfl,rfl]])))) (aA (aw rfl (aZ ?_))))))
   show HR g j m (!0) λF B=>q _ ?_
   have e:iQ w s h (.take y)=jy s (c7 (w.ai.map (·.1)) y) (gS p h):=by erw[iQ,nR m]
   rw[e]
   show B
 | give y=>
   let#[p,m]:=b y C s H
   let#[L,j]:=g.px m
   let K:=x.ps p (mQg m)
   show aI (bK (G3 (a:="give") rfl ?_))
   show aG (λ_=>?_) (λc=>absurd c (by decide +kernel))
   show c9 (cc (aA (Aj g C (!0) j rfl rfl (aV (aw rfl (cu (ax (d:=.str y) rfl #[rfl,rfl])))) (aZ ?_))))
   show F0 g j m (!0) λF B=>?_
   show bK (G3 (a:="give") rfl ?_)
   show aG (λc=>by simp at c) (λ_=>bT (q _ ?_))
   have e:iQ w s h (.give y)=jy s (c7 (w.ai.map (·.1)) y) (fj p):=by erw[iQ,nR m]
   rw[e]
   show B
 | pass y z=>
   let#[I,M]:=C
   let#[p,m]:=b y I s H
   let#[L,j]:=g.px m
   let K:=x.ps p (mQg m)
   show aI (bK (G3 (a:="pass") rfl ?_))
   show aG (λ_=>?_) (λc=>absurd c (by decide +kernel))
   show c9 (cc (aA (Aj g I (!0) j rfl rfl (aV (aw rfl (cu (ax (d:=.str y) rfl #[rfl,rfl])))) (aZ ?_))))
   show F0 g j m (!0) λF B=>?_
   let#[G,u]:=b z M (jy s (c7 (w.ai.map (·.1)) y) (fj p)) (by simpa [jy] using H)
   let#[R,A]:=B.px u
   have N:G.2.length<=n:=by
     rcases QTq (mQg u) with z|z
     · show x.ps G z
     · rw[z]
       let#[v,l]:=p
       unfold fj
       cases l with
       |nil=>simp
       |cons a l=>simp at K;show l.length<=n;omega
   show bK (G3 (a:="pass") rfl ?_)
   show aG (λ_=>?_) (λc=>absurd c (by decide +kernel))
   show c9 (cc (aA (Aj B M (!0) A rfl rfl (aV (aw rfl (iz (cu #[1,rfl,ax (d:=.str z) rfl #[rfl,rfl]])))) (aA (aw rfl (aZ ?_))))))
   show HR B A u (!0) λW P=>q _ ?_
   have e:iQ w s h (.pass y z)=jy (jy s (c7 (w.ai.map (·.1)) y) (fj p)) (c7 (w.ai.map (·.1)) z) (gS G h):=by
     have U:K4 (jy s (c7 (w.ai.map (·.1)) y) (fj p)) (c7 (w.ai.map (·.1)) z)=G:=nR u
     erw[iQ,nR m]
     rw[U]
   rw[e]
   show P
 |_=>show C.elim
end
end W28
namespace DL
open L2
def NC{ds:List D}{y:D}{k:Nat}{Q:List D×D->Prop}(a:k<=ds.length)(b:ds.length<999)(q:Q (ds.take k++y::ds.drop k,.non)):Op (GA ds [.int (k:Nat),y]) Q:=#[_,by unfold GA;show Qhq #[by omega,by omega,by omega,bj (!0)],q]
end DL
namespace W28
open L2 DL
section
variable{lo:Nat->Prop}{S0 S:aE}{t:xQ}{s:bq}{h i:Nat}{vs:List Int}{fs:List cB}{f:cB}{w:cT}{n:Nat}{sc:Sc}{Q:Res->aE->Prop}
def Ii{l:List (Int×Int)}{u k:Int}:(l.map pairD).take (l.filter λp=>decide (p.1<=u)).length++pairD (u,k)::(l.map pairD).drop (l.filter λp=>decide (p.1<=u)).length=(uZ l u k).map pairD:=by
 unfold uZ
 rw[Qzq,Qzq,List.map_take,List.map_drop]
 simp
def vt{a:cG}{r:Rm}{k:Nat}{e:bL}{R:D->aE->Prop}(c:w.aj[i]?=some r)(j:a[0]?=some (some w.d))(he:E e a S λd b=>d=.int i/\b=S)(q:R r.d S):E (aQ fO (aQ fO (ar 0) (cF (.int 0))) e) a S R:=by
 show aV (aV (aw j (cu (ax (d:=.tup (w.aj.map Rm.d)) L (he.mono λd b g=>?_)))))
 let#[rfl,rfl]:=g
 show ax (d:=r.d) (aU (by rw[gQm,c];rfl)) q
def zy{r:Rw}{y:Str}{H:Rm}{rs:dv}(g:Go lo S0 S t s)(o:eJ w)(x:cM w n s)(hn:n<=100)(P:s.af[h]?=some (vs,fs))(hf:fs.getLast? =some f)(R:A0 w h f=some sc)(a1:f.room=i)(B:w.aj[i]?=some H)(v:s.aj[i]?=some rs)(hy:y∈H.aa.map (·.1))
  (C:match r with|.wait z tr=>z=y/\Fh sc tr|.call z=>z=y|.all z=>z=y|_=>False) (q:∀S',Go lo S0 S' t (iQ w s h r)->Q (.d .non) S'):Fn lZ [w.d,.ref t.k,.int h,r.d] S Q:=by
 let#[hd,X]:=g.hx P
 let#[a,ha,a0]:=g.last X P hf
 let#[rx,A]:=g.rx v
 let ri:=x.rm i H rs B v
 let Z:=o.rm H (mQg B)
 have ti:f.room.toNat=i:=by omega
 let e2:=eX P hf
 let b6:=Z.l2
 let lb:=ri.lb
 let lz:=g.lb A v
 let br:=ri.br
 let bl:=ri.bl
 let#[k1,k2]:=iG hy
 rw[lQm] at k1
 rw[gQm] at k2
 let#[#[W,N],k3,k4]:=oQm.mp k2
 have k4:W=y:=k4
 subst k4
 generalize hb:c7 (H.aa.map (·.1)) W=b at k1 k3
 obtain⟨m,L⟩:∃l,rs.aa[b]?=some l:=⟨_,gQe (!0)⟩
 obtain⟨ba,G⟩:∃a,rx.bs[b]?=some a:=#[_,gQe (!0)]
 let ll:=ri.bb m (mQg L)
 let I:=g.cbs A v G L
 let#[rk,K]:=r.d_kind
 have Y:kq (.str r.kind::rk) (1:Int)=some (.str W):=by
  cases r <;>first|show C.elim|skip
  all_goals (cases K)
  ·rw[C.1];rfl
  ·rw[C];rfl
  ·rw[C];rfl
 show vf ?_
 unfold qL
 show aI (cU (aV (oO g X P ha rfl rfl (cu (bC a0 (d:=.int f.room) rfl ?_)))))
 rw[a1]
 show aI (cU (ou g A rfl (aw rfl #[rfl,rfl]) ?_))
 show aI (cU (cc (aA (aV (vt (k:=0) B rfl (aw rfl #[rfl,rfl]) (cu (ax (d:=.tup (H.aa.map AI)) rfl (aA (aV (aw rfl (cu ?_)))))))))))
 rw[K]
 show ax Y (aZ ?_)
 rw[<-K]
 show lA LW (!0) hy ?_
 rw[hb]
 show aI (cU (aV (aV (aw rfl (cu (bC (g.ca A v) (d:=.ref rx.b) rfl (aw rfl (bC (g.cb A v) (d:=.ref ba) (aU (by rw[gQm,G];rfl)) ?_))))))))
 cases r with
 | wait z tr=>
   let#[rfl,ht]:=C
   let#[hv,_]:=lJ o x P hf R ht
   show bK (iR (a:="wait") rfl ?_)
   show aG (λ_=>?_) (λc=>absurd (QaQ c) (by simp))
   show aI (cU (aV (cc (aA (aw rfl (aA (aw rfl (aA (aw rfl (aA (aV (aw rfl (cu (ax (d:=tr.d) rfl (aZ ?_)))))))))))))))
   show y6 g o x P hf R ht ?_
   show Bn (aA (aV (aV (aV (aV (vt (k:=0) B rfl (aw rfl #[rfl,rfl]) (cu (ax (d:=.tup (H.aa.map AI)) rfl (aw rfl (ax (d:=AI (z,N)) (aU (by rw[gQm,k3];rfl)) (cu (ax (d:=.str N) rfl (cu (gR (aZ (iy ?_))))))))))))))))
   have em:∀k:Int,0<=k/\k<=1->Ik (df w s h tr) k:=λk hk=>.inr #[by omega,by omega]
   show wW (em _ (by split <;>omega)) ?_
   have et:df w s h tr*(if decide (N="turns")=true then(1:Int) else 0)=if N="turns" then df w s h tr else 0:=by by_cases c:N="turns" <;>simp[c]
   rw[et]
   generalize hu:(if N="turns" then df w s h tr else 0)=u
   show aI (c9 (fq (aw rfl #[_,_,rfl,I,aA (zd (oY ?_))])))
   show lM (α:=Int×Int) (λU=>∃a,U= [a,some (.int u)]) pairD pairD (λp=>decide (p.1<=u)) #[none,rfl] ?_
   show jD (bX (aw rfl (a_ I #[m,rfl,I,by omega,λp hp U a2=>?_,?_])))
   · let#[a',rfl]:=a2
     show aS #[rfl,#[_,rfl],?_]
     show cm (aV (aV (aw rfl (cu (ax (d:=.int p.1) rfl (aw rfl (fR #[rfl,rfl,λ_=>aw rfl #[rfl,rfl]])))))))
   let lf:=List.length_filter_le (λp:Int×Int=>decide (p.1<=u)) m
   show aA (uC (aA (aw rfl (aA (aw rfl (aZ #[by show 2<=_;decide,aZ #[_,I,?_]]))))))
   dsimp only[bg,aN,bf,bP,bV,fg]
   rw[lQm]
   show NC (by rw[lQm];omega) (by rw[lQm];omega) ?_
   · show T _ _ (S.set ba (.lst ((m.map pairD).take (m.filter λp=>decide (p.1<=u)).length++pairD (u,h)::(m.map pairD).drop (m.filter λp=>decide (p.1<=u)).length))) _
     rw[Ii]
     let g1:=g.bell A v G L (uZ m u h)
     let F:=oF (r1:={rs with aa:=rs.aa.set b (uZ m u h)}) v
     show c9 (cc (aA (aw rfl (aZ ?_))))
     show uI g1 A F (by show rs.row.length<900;omega) (by show rs.ag.length<900;omega) λS' M=>q _ ?_
     have e:iQ w s h (.wait z tr)=eK s i (dG {rs with aa:=rs.aa.set b (uZ m u h)}):=by erw[iQ,BP,e2,ti,iK B,dZ v,hb,L,k3,Option.getD_some,hu]
     rw[e]
     rw[jg] at M
     show M
 | all z=>
   have C:z=W:=C
   subst C
   show bK (iR (a:="all") rfl ?_)
   show aG (λc=>absurd (QZq c) (by decide +kernel)) (λ_=>?_)
   show bK (iR (a:="all") rfl ?_)
   show aG (λ_=>?_) (λc=>absurd (QaQ c) (by simp))
   show c9 (fq (aw rfl #[_,_,rfl,I,aZ #[_,I,#[([],.non),rfl,?_]]]))
   have e:iQ w s h (.all z)=eK s i {rs with aa:=rs.aa.set b []}:=by erw[iQ,e2,ti,iK B,dZ v,hb]
   rw[e] at q
   show q _ (g.bell A v G L [])
 | call z=>
   have C:z=W:=C
   subst C
   have e:iQ w s h (.call z)=eK s i (nP (decide (H.ah="when free")) rs b h):=by erw[iQ,e2,ti,iK B,dZ v,hb]
   rw[e] at q
   unfold nP at q
   rw[L] at q
   show bK (iR (a:="call") rfl ?_)
   show aG (λc=>absurd (QZq c) (by decide +kernel)) (λ_=>?_)
   show bK (iR (a:="call") rfl ?_)
   show aG (λc=>absurd (QZq c) (by decide +kernel)) (λ_=>?_)
   show bK (cm (oB (bX (aw rfl (a_ I #[#[rfl,I],?_])))))
   let gb:=g.bell A v G L
   cases m with
   | nil=>
     show tJ (aG (λc=>by cases c) (λ_=>bT ?_))
     have e0:eK s i rs=s:=by unfold eK;rw[qG v]
     erw[e0] at q
     show q _ g
   | cons p l=>
     show tJ (aG (λ_=>?_) (λc=>by cases c))
     show aI (cU (fq (aw rfl #[_,_,rfl,I,aA (cu (aZ #[_,I,vC ?_ ?_]))])))
     · have g1:=gb l
       let F:=oF (r1:={rs with aa:=rs.aa.set b l}) v
       show bK (cm (aV (aV (vt (k:=0) B rfl (aw rfl #[rfl,rfl]) (cu (ax (d:=.str H.ah) rfl (cu (gR ?_))))))))
       simp only at q
       show aG (λc=>?_) (λc=>?_)
       · have c:H.ah="at once":=QZq c
         rw[Quq (by rw[c];decide +kernel)] at q
         show aI (rL (aV (aw rfl (cu (ax (d:=.int p.2) rfl ?_)))))
         show pz (j:=1) (aw rfl #[rfl,rfl]) (cu #[rfl,rfl]) (g1.ca A F) (by simp) ?_
         let M:=g1.within A F p.2
         let J:=oF (r1:={rs with aa:=rs.aa.set b l,within:=p.2}) F
         show c9 (fq (aV (aw rfl (cu (bC (M.ca A J) (d:=.ref rx.l) rfl #[_,_,rfl,M.cl A J,aA (aw rfl (aZ #[_,M.cl A J,iW (by rw[lQm];show rs.ag.length<999;omega) ?_]))])))))
         let g3:=M.ag A J (rs.ag++ [(h:Int)])
         rw[jg,jg] at g3
         unfold cP at g3
         rw[Qzq] at g3
         show q _ g3
       · have c:H.ah≠"at once":=QaQ c
         let c2:=Z.mn.resolve_left c
         rw[Qhq (Qeq c2)] at q
         show bT (q _ g1)
     · rw[lQm];simp at ll;omega
 |_=>show C.elim
end
section
variable{lo:Nat->Prop}{S0 S:aE}{t:xQ}{s:bq}{h i:Nat}{vs:List Int}{fs:List cB}{f:cB}{w:cT}{n:Nat}{sc:Sc}{Q:Res->aE->Prop}
theorem rG{α b:Type}{f:α->List b}:∀{l:List α} {a:α},a∈l->(f a).Sublist (l.flatMap f)
 | x::l,a,h=>by
   rw[QSq]
   rcases Qsq.mp h with rfl|h
   · show List.sublist_append_left ..
   · show(rG h).trans (List.sublist_append_right ..)
def Go.nf{x:Dw}(g:Go lo S0 S t s)(c:t.hs[h]?=some x):x.f∉x.fs:=λz=>by
 have a:(CG x).Sublist (y0 t):=((rG (f:=CG) (mQg c)).trans (List.sublist_append_right ..)).trans ((List.sublist_append_right ..).trans (List.sublist_append_right ..))
 let b:=a.nodup g.n.nd
 unfold CG at b
 show(List.nodup_append.mp b).2.2 x.f (by simp) x.f z L
def M4{rs:dv}{j:List cB}{b:cB}{pr:List Rw}{C:Option Str}{J M:Str}{tr:Tr}(g:Go lo S0 S t s)(o:eJ w)(hn:n<=100)(hs:s.af[h]?=some (vs,j++ [b,f]))(X:f.room=i)(p:s.aj[i]?=some rs)(b1:rs.row.length<900)(b2:rs.ag.length<900)
  (x2:cM w n (mD s h)) (L:progOf w h b=some pr) (h1:1<=b.row) (e:pr[(b.row-1).toNat]?=some (.do_ C J M tr)) (q:∀U t',t'.k=t.k->Go lo S0 U t' (rj w s h)->Q (.d .non) U):Fn oE [w.d,.ref t.k,.int h] S Q:=by
 let#[x,u]:=g.hx hs
 have hf:(j++ [b,f]).getLast? =some f:=by simp
 let#[a,ha,I]:=g.last u hs hf
 let#[rx,F]:=g.rx p
 have ef:x.fs=x.fs.dropLast++ [a]:=gq ha
 let cf:=g.hf u hs
 have ti:f.room.toNat=i:=by omega
 let e1:=hU hs
 let Z:=eX hs hf
 let H:=g.pop u hs (by simp)
 have ed:(j++ [b,f]).dropLast=j++ [b]:=by rw[show j++ [b,f]=(j++ [b])++ [f] by simp,List.dropLast_concat]
 rw[ed] at H
 have na:a≠x.f:=λz=>g.nf u (by rw[<-z];show QcQ ha)
 show vf ?_
 unfold sG
 show aI (cU (wZ g u hs rfl rfl ?_))
 show aI (rL (fq (aw rfl #[_,_,rfl,cf,aZ #[_,cf,?_]])))
 rw[ef,Qzq]
 show LL ?_
 show D5 (ds:= [.int f.room,.int f.deed,.int f.row,.int f.given,.int f.told]) (by rw[QKq (Ne.symm na)];show I) rfl (ay (aS (ay (aS (ay (aS (ay (aS (ay (aS (bu ?_)))))))))))
 rw[X]
 have B:(t.hs.set h {x with fs:=x.fs.dropLast})[h]?=some {x with fs:=x.fs.dropLast}:=Qyq (gQs.mp u).1
 show T _ _ (S.set x.f (.lst (x.fs.dropLast.map D.ref))) _
 generalize S.set x.f (.lst (x.fs.dropLast.map D.ref))=S1 at H|-
 show aI (c9 (cc (aA (ou H F rfl (aw rfl #[rfl,rfl]) (aZ ?_)))))
 show uI H F p b1 b2 λS2 A=>?_
 have eo:mD s h=eK {s with af:=s.af.set h (vs,j++ [b])} i (dG rs):=by
  unfold mD
  rw[Z,e1,ti,dZ p]
  show eK {s with af:=s.af.set h (vs,(j++ [b,f]).dropLast)} i (dG rs)=_
  rw[ed]
 rw[<-eo] at A
 have l:(mD s h).af[h]?=some (vs,j++ [b]):=by rw[eo];show Qyq (gQs.mp hs).1
 have r:(j++ [b]).getLast? =some b:=by simp
 let#[a2,N,m]:=A.last B l r
 let P:=A.hf B l
 have Y:∀{Γ:cG} {R:D->aE->Prop},Γ[3]?=some (some (.ref x.f))->R (.ref a2) S2->E (aQ fO (ar 3) (g6 (cF (.int 1)))) Γ S2 R:=λh3 q=>aV (aw h3 (iz (cu #[1,rfl,bC P (yY N) q])))
 show aI (cU (aV (cc (aA (aw rfl (aA (aw rfl (aA (Y rfl (aZ ?_))))))))))
 show ur m L ?_
 show aV (aV (Y rfl (cu (bC m (d:=.int b.row) rfl (cu (fR ?_))))))
 show ax (d:=(Rw.do_ C J M tr).d) (jb (!0) (by rw[gQm,e];rfl)) ?_
 show bK (cm (aV (aV (aw rfl (cu (ax (d:=JG C) rfl (cu (xI ?_))))))))
 have eb:JX w (mD s h) h=some (.do_ C J M tr):=by
  unfold JX
  rw[eX l r,L]
  show e
 cases C with
 | none=>
   show tJ (aG (λc=>by cases c) (λ_=>bT (q _ {t with hs:=t.hs.set h {x with fs:=x.fs.dropLast}} rfl ?_)))
   have W:rj w s h=mD s h:=by unfold rj;rw[eb]
   rw[W]
   show A
 | some y=>
   show tJ (aG (λ_=>?_) (λc=>by cases c))
   have W:rj w s h=nu w (mD s h) h y f.told:=by unfold rj;rw[eb,Z]
   rw[W] at q
   let#[a0,G,v]:=C0 o L
   let K:=v _ (mQg e)
   show c9 (cc (aA (aw rfl (aA (aw rfl (aA (aw rfl (aA (aV (aw rfl (cu (ax (d:=.str y) rfl (aA (aw rfl (aZ ?_)))))))))))))))
   show Jk (t:={t with hs:=t.hs.set h {x with fs:=x.fs.dropLast}}) A o x2 l r G (K.1 y rfl) λU g'=>q _ {t with hs:=t.hs.set h {x with fs:=x.fs.dropLast}} rfl g'
def GI{tr:Tr}(a:s.af[h]?=some (vs,fs))(b:fs.getLast? =some f):df w (iS s h) h tr=df w s h tr:=by
 let d:=(gQs.mp a).1
 have c:(iS s h).af[h]?=some (vs,fs.dropLast++ [{f with row:=f.row+1}]):=by unfold iS;rw[eX a b,ie a];show Qyq d
 unfold df
 rw[eX a b,eX c (f:={f with row:=f.row+1}) (by simp),hU c,hU a]
 rfl
end
section
variable{lo:Nat->Prop}{S0 S:aE}{t:xQ}{s:bq}{h i:Nat}{vs:List Int}{fs:List cB}{f:cB}{w:cT}{n:Nat}{sc:Sc}{Q:Res->aE->Prop}
def Oa:∀a:Rm,∃r,Rm.d a=.tup (.str a.name::r):=λ_=>#[_,L]
def OP:∀a:Str×List Rw,∃r,ix a=.tup (.str a.1::r):=λ_=>#[_,L]
def du{c:cG}{a b:Str}{l:List D}{A B:cJ}{R:Out->Prop}(h:c[3]?=some (some (.tup (.str a::l))))(n:a≠b)(q:T B c S R):T (de (aH (aQ (dE false) (aQ fO (ar 3) (cF (.int 0))) (cF (.str b)))) A B) c S R:=bK (iR h (by rw[Qdq n];show q))
def zf{b:cG}{a:Str}{l:List D}{A B:cJ}{R:Out->Prop}(h:b[3]?=some (some (.tup (.str a::l))))(q:T A b S R):T (de (aH (aQ (dE false) (aQ fO (ar 3) (cF (.int 0))) (cF (.str a)))) A B) b S R:=bK (iR h (by rw[Qeq L];show q))
def Eu{c:cG}{a:Str}{l:List D}{A B:cJ}{R:Out->Prop}{b:Bool}(h:c[3]?=some (some (.tup (.str a::l))))(e:decide (a∈(["wait","call","all"]:List Str))=b)(q:if b=true then T A c S R else T B c S R):T (de (aH (Bt false (aQ fO (ar 3) (cF (.int 0))) (aP (bp (aq (cF (.str "wait")) (aq (cF (.str "call")) (aq (cF (.str "all")) av))))))) A B) c S R:=by
 show bK (cm (xV (aV (aw h (cu (ax (d:=.str a) Au (bX (uC (aA (cu (aA (cu (aA (cu (aZ #[by show 3<=_;decide,cE #[_,_,L,hZ ["wait","call","all"],?_]])))))))))))))))
 rw[AJ]
 show if decide _=true then _ else _
 rw[e]
 show q
def Lv{r:Rw}{pr:List Rw}(g:Go lo S0 S t s)(nn:Nn s)(o:eJ w)(x:cM w n s)(hn:n<=100)(hs:s.af[h]?=some (vs,fs))(N:fs.getLast? =some f)(hp:progOf w h f=some pr)(h1:1<=f.row)(a2:pr[(f.row-1).toNat]?=some r)
  (q:∀L t',t'.k=t.k->Go lo S0 L t' (iQ w s h r)->Q (.d (FV h (DC w s h r))) L):Fn kA [w.d,.ref t.k,.int h,r.d] S Q:=by
 let#[sc,B,a6]:=C0 o hp
 let e:=a6 r (mQg a2)
 let#[hd,F]:=g.hx hs
 let#[a,ha,W]:=g.last F hs N
 let#[ts,X,hw,hi]:=x.whand hs
 let fi:=hi.fr f (QcQ N)
 let e1:=hU hs
 let e2:=eX hs N
 let b1:=o.l1
 let lr:=x.lr
 let lf:=hi.lf
 let#[rk,a8]:=r.d_kind
 have A:sc.own=false->∃(i:Nat) (r:Rm) (M:dv),f.room=i/\w.aj[i]?=some r/\s.aj[i]?=some M/\yt (aX w.aj) r/\sc.bs=r.aa.map (·.1):=λho=>by
  rcases fV B with⟨c,a0,X,a1,rfl⟩|⟨c,r,hr,rfl⟩
  ·cases ho
  ·let#[M,p,ri]:=x.wroom hr
   show#[_,r,M,gV fi c,hr,p,o.rm r (mQg hr),rfl]
 have G:sc.own=true->sc.ts=w.ai.map (·.1):=λho=>by
  rcases fV B with⟨c,a0,X,a1,rfl⟩|⟨c,r,hr,rfl⟩
  ·rfl
  ·cases ho
 have C:∀{Γ:cG} {k:Int} {tr:Tr} {R:D->aE->Prop},Γ[0]?=some (some w.d)->Γ[1]?=some (some (.ref t.k))->Γ[2]?=some (some (.int h))->Γ[3]?=some (some r.d)->(∃l,r.d=.tup l/\kq l k=some tr.d)->Fh sc tr->R (.int (df w s h tr)) S->
   E (az cX (aq (ar 0) (aq (ar 1) (aq (ar 2) (aq (aQ fO (ar 3) (cF (.int k))) av))))) Γ S R:=λz0 z1 z2 z3 hk ht q=>by
  let#[l,hl,hk]:=hk
  rw[hl] at z3
  show cc (aA (aw z0 (aA (aw z1 (aA (aw z2 (aA (aV (aw z3 (cu (ax hk (aZ (y6 g o x hs N B ht q)))))))))))))
 have K:∀f':cB,Go lo S0 (S.set a (sj f')) t (E6 s h f'):=λf'=>by rw[ie hs];show g.frame F hs ha N f'
 show vf ?_
 unfold tE
 show aI (cU (oO g F hs ha rfl rfl ?_))
 cases r with
 | put y tr=>
   show aI (zf (a:="put") rfl ?_)
   show c9 (cc (aA (aw rfl (aA (aw rfl (aA (aw rfl (aA (aV (aw rfl (cu (ax (d:=.str y) rfl (aA (C (tr:=tr) rfl rfl rfl rfl #[_,rfl,rfl] e.2 (aZ ?_)))))))))))))))
   apply Jk g o x hs N B e.1 λL H=>?_
   show q _ t rfl H
 | unl tr m=>
   show aI (du (a:="unless") rfl (by decide +kernel) ?_)
   show zf (a:="unless") rfl ?_
   show bK (cm (aV (C (tr:=tr) rfl rfl rfl rfl #[_,rfl,rfl] e.1 (cu (eA ?_)))))
   let q:=q
   erw[iQ] at q
   show aG (λc=>?_) (λc=>bT ?_)
   · rw[Qhq (QZq c),e2] at q
     show rL (aV (aw rfl (cu (ax (d:=.int m) rfl ?_))))
     apply pz (j:=2) (aw rfl #[rfl,rfl]) (cu #[rfl,rfl]) W (by simp) ?_
     show q _ t rfl (K {f with row:=m})
   · rw[Quq (QaQ c)] at q
     symm
     show q _ t rfl g
 | go m=>
   show aI (du (a:="go") rfl (by decide +kernel) ?_)
   show du (a:="go") rfl (by decide +kernel) ?_
   show zf (a:="go") rfl ?_
   let q:=q
   erw[iQ,e2] at q
   show rL (aV (aw rfl (cu (ax (d:=.int m) rfl ?_))))
   apply pz (j:=2) (aw rfl #[rfl,rfl]) (cu #[rfl,rfl]) W (by simp) ?_
   show q _ t rfl (K {f with row:=m})
 | do_ gg rn dn tr=>
   have a7:sc.gs=aX w.aj:=by
     rcases fV B with⟨c,a0,X,a1,rfl⟩|⟨c,r,hr,rfl⟩ <;>rfl
   let a3:=e.2.1
   rw[a7] at a3
   let#[a4,Z,u,a5]:=Gc o a3
   let#[M,p,ri]:=x.wroom u
   let P:=o.rm Z (mQg u)
   let b5:=P.l3
   let br:=ri.br
   let#[rx,Y]:=g.rx p
   show aI (du (a:="do") rfl (by decide +kernel) ?_)
   show du (a:="do") rfl (by decide +kernel) ?_
   show du (a:="do") rfl (by decide +kernel) ?_
   show zf (a:="do") rfl ?_
   show aI (cU (C (tr:=tr) rfl rfl rfl rfl #[_,rfl,rfl] e.2.2 ?_))
   show aI (cU (cc (aA (aV (aw rfl (cu (ax (d:=.tup (w.aj.map Rm.d)) rfl (aA (aV (aw rfl (cu (ax (d:=.str rn) rfl (aZ ?_)))))))))))))
   show lA Oa (!0) a4 ?_
   let q:=q
   have er:iQ w s h (.do_ gg rn dn tr)=eK {s with af:=s.af.set h (vs,fs++ [#[(c7 (w.aj.map (·.name)) rn:Nat),(c7 (Z.ae.map (·.1)) dn:Nat),0,df w s h tr,0]])} (c7 (w.aj.map (·.name)) rn) (gQ M h):=by erw[iQ,e1,iK u,dZ p]
   rw[er] at q
   generalize c7 (w.aj.map (·.name)) rn=i at u p Y q|-
   generalize df w s h tr=v at q|-
   let cf:=g.hf F hs
   show aI (c9 (fq (wZ g F hs rfl rfl #[_,_,rfl,cf,?_])))
   show aA (eR (eC (aA (aw rfl (aA (cc (aA (aV (vt (k:=0) u rfl (aw rfl #[rfl,rfl]) (cu (ax (d:=.tup (Z.ae.map ix)) rfl (aA (aV (aw rfl (cu (ax (d:=.str dn) rfl (aZ ?_)))))))))))))))))
   show lA OP (!0) a5 ?_
   generalize c7 (Z.ae.map (·.1)) dn=dd at q|-
   show aA (cu (aA (aw rfl (aA (cu (aZ #[by show 5<=_;decide,aZ #[_,aO cf,?_]]))))))
   let lx:=g.lf F hs
   show iW (by rw[lQm];omega) ?_
   let g1:=g.push F hs #[i,dd,0,v,0]
   rw[Qzq] at g1
   show c9 (cc (aA (ou g1 Y rfl (aw rfl #[rfl,rfl]) (aA (aw rfl (aZ ?_))))))
   apply Di g1 Y p (nn M (mQg p)).w (!0) λL g2=>?_
   show q _ {t with hs:=t.hs.set h {hd with fs:=hd.fs++ [S.length]}} rfl g2
 | tell tr=>
   show aI (du (a:="tell") rfl (by decide +kernel) ?_)
   show du (a:="tell") rfl (by decide +kernel) ?_
   show du (a:="tell") rfl (by decide +kernel) ?_
   show du (a:="tell") rfl (by decide +kernel) ?_
   show zf (a:="tell") rfl ?_
   let q:=q
   erw[iQ,e2] at q
   show rL (C (tr:=tr) rfl rfl rfl rfl #[_,rfl,rfl] e.2 ?_)
   apply pz (j:=4) (aw rfl #[rfl,rfl]) (cu #[rfl,rfl]) W (by simp) ?_
   show q _ t rfl (K {f with told:=df w s h tr})
 | wait y tr=>
   let#[i,Z,M,J,u,p,P,I]:=A e.1
   have U:y∈sc.bs:=e.2.1
   rw[I] at U
   show aI (du (a:="wait") rfl (by decide +kernel) ?_)
   show du (a:="wait") rfl (by decide +kernel) ?_
   show du (a:="wait") rfl (by decide +kernel) ?_
   show du (a:="wait") rfl (by decide +kernel) ?_
   show du (a:="wait") rfl (by decide +kernel) ?_
   show Eu (a:="wait") (b:=true) rfl (by decide +kernel) ?_
   rw[Qhq rfl]
   show c9 (cc (aA (aw rfl (aA (aw rfl (aA (aw rfl (aA (aw rfl (aZ ?_))))))))))
   apply zy (y:=y) g o x hn hs N B J u p U #[rfl,e.2.2] λL H=>?_
   show q _ t rfl H
 | call y=>
   let#[i,Z,M,J,u,p,P,I]:=A e.1
   have U:y∈sc.bs:=e.2
   rw[I] at U
   show aI (du (a:="call") rfl (by decide +kernel) ?_)
   show du (a:="call") rfl (by decide +kernel) ?_
   show du (a:="call") rfl (by decide +kernel) ?_
   show du (a:="call") rfl (by decide +kernel) ?_
   show du (a:="call") rfl (by decide +kernel) ?_
   show Eu (a:="call") (b:=true) rfl (by decide +kernel) ?_
   rw[Qhq rfl]
   show c9 (cc (aA (aw rfl (aA (aw rfl (aA (aw rfl (aA (aw rfl (aZ ?_))))))))))
   apply zy (y:=y) g o x hn hs N B J u p U rfl λL H=>?_
   show q _ t rfl H
 | all y=>
   let#[i,Z,M,J,u,p,P,I]:=A e.1
   have U:y∈sc.bs:=e.2
   rw[I] at U
   show aI (du (a:="all") rfl (by decide +kernel) ?_)
   show du (a:="all") rfl (by decide +kernel) ?_
   show du (a:="all") rfl (by decide +kernel) ?_
   show du (a:="all") rfl (by decide +kernel) ?_
   show du (a:="all") rfl (by decide +kernel) ?_
   show Eu (a:="all") (b:=true) rfl (by decide +kernel) ?_
   rw[Qhq rfl]
   show c9 (cc (aA (aw rfl (aA (aw rfl (aA (aw rfl (aA (aw rfl (aZ ?_))))))))))
   apply zy (y:=y) g o x hn hs N B J u p U rfl λL H=>?_
   show q _ t rfl H
 | say tr=>
   show aI (du (a:="say") rfl (by decide +kernel) ?_)
   show du (a:="say") rfl (by decide +kernel) ?_
   show du (a:="say") rfl (by decide +kernel) ?_
   show du (a:="say") rfl (by decide +kernel) ?_
   show du (a:="say") rfl (by decide +kernel) ?_
   show Eu (a:="say") (b:=false) rfl (by decide +kernel) ?_
   rw[Quq (!1)]
   show zf (a:="say") rfl ?_
   show fA (uC (aA (aw rfl (aA (C (tr:=tr) rfl rfl rfl rfl ⟨_,rfl,rfl⟩ e.2 (aZ ⟨by show 2<=_;decide,?_⟩))))))
   show q _ t rfl g
 | take y=>
   show aI (du (a:="take") rfl (by decide +kernel) ?_)
   show du (a:="take") rfl (by decide +kernel) ?_
   show du (a:="take") rfl (by decide +kernel) ?_
   show du (a:="take") rfl (by decide +kernel) ?_
   show du (a:="take") rfl (by decide +kernel) ?_
   show Eu (a:="take") (b:=false) rfl (by decide +kernel) ?_
   rw[Quq (!1)]
   show du (a:="take") rfl (by decide +kernel) ?_
   show c9 (cc (aA (aw rfl (aA (aw rfl (aA (aw rfl (aA (aw rfl (aZ ?_))))))))))
   show qk g o x hn (by rw[<-G e.1];show e.2) λL H=>?_
   symm
   show q _ t rfl H
 | give y=>
   show aI (du (a:="give") rfl (by decide +kernel) ?_)
   show du (a:="give") rfl (by decide +kernel) ?_
   show du (a:="give") rfl (by decide +kernel) ?_
   show du (a:="give") rfl (by decide +kernel) ?_
   show du (a:="give") rfl (by decide +kernel) ?_
   show Eu (a:="give") (b:=false) rfl (by decide +kernel) ?_
   rw[Quq (!1)]
   show du (a:="give") rfl (by decide +kernel) ?_
   show c9 (cc (aA (aw rfl (aA (aw rfl (aA (aw rfl (aA (aw rfl (aZ ?_))))))))))
   show qk g o x hn (by rw[<-G e.1];show e.2) λL H=>?_
   symm
   show q _ t rfl H
 | pass y z=>
   show aI (du (a:="pass") rfl (by decide +kernel) ?_)
   show du (a:="pass") rfl (by decide +kernel) ?_
   show du (a:="pass") rfl (by decide +kernel) ?_
   show du (a:="pass") rfl (by decide +kernel) ?_
   show du (a:="pass") rfl (by decide +kernel) ?_
   show Eu (a:="pass") (b:=false) rfl (by decide +kernel) ?_
   rw[Quq (!1)]
   show du (a:="pass") rfl (by decide +kernel) ?_
   show c9 (cc (aA (aw rfl (aA (aw rfl (aA (aw rfl (aA (aw rfl (aZ ?_))))))))))
   show qk g o x hn (by rw[<-G e.1];show e.2) λL H=>?_
   symm
   show q _ t rfl H
end
section
variable{lo:Nat->Prop}{S0 S:aE}{t:xQ}{s:bq}{h i:Nat}{vs:List Int}{fs:List cB}{f:cB}{w:cT}{n:Nat}{sc:Sc}{Q:Res->aE->Prop}
def Jh(g:Go lo S0 S t s)(nn:Nn s)(o:eJ w)(x:cM w n s)(hn:n<=100)(hm:h∈mE w s)(q:∀u t',t'.k=t.k->Go lo S0 u t' (dS w s h).1->Q (.d (FV h (dS w s h).2)) u):Fn lB [w.d,.ref t.k,.int h] S Q:=by
 have K:h<s.af.length:=List.mem_range.mp (List.mem_filter.mp hm).1
 obtain⟨⟨vs,fs⟩,y⟩:∃p,s.af[h]?=some p:=#[_,gQe K]
 let#[ts,a7,hw,hi]:=x.whand y
 let#[f,I,fi]:=hi.last
 let#[pr,F,a5,a3]:=fi.pr
 let#[hd,J]:=g.hx y
 let#[a,ha,e]:=g.last J y I
 let e1:=hU y
 let C:=eX y I
 have nb:¬(f.room= -1/\f.row=pr.length):=by
  rintro⟨c1,c2⟩
  have:=(List.mem_filter.mp hm).2
  rw[QCq] at this
  have hb:jC w s h=true:=by
   unfold jC BZ
   rw[y]
   show(match fs.getLast? with|some f=>_|none=>_)=_
   rw[I]
   erw[F,Option.getD_some,c1,c2,decide_true,Bool.and_true]
  rw[hb] at this
  show absurd this.2 (!1)
 have x2:f.row<pr.length->cM w n (iS s h):=λc=>by
  unfold iS
  rw[C,ie y]
  show x.goes y I F (!0) (!0)
 have gn:Go lo S0 (S.set a (sj {f with row:=f.row+1})) t (iS s h):=by
  unfold iS
  rw[C,ie y]
  show g.frame J y ha I _
 have Fi:(iS s h).af[h]?=some (vs,fs.dropLast++ [{f with row:=f.row+1}]):=by unfold iS;rw[C,ie y];show Qyq K
 show vf ?_
 unfold pQ
 show aI (cU (oO g J y ha rfl rfl ?_))
 show aI (cU (cc (aA (aw rfl (aA (aw rfl (aA (aw rfl (aZ ?_)))))))))
 show ur e F ?_
 have row:∀r,f.row<pr.length->pr[f.row.toNat]?=some r->dS w s h=(iQ w (iS s h) h r,DC w s h r)->T (aD (kc (aQ cD (aQ fO (ar 3) (cF (.int 2))) (cF (.int 1))) (xS (ar 3) (cF (.int 2)))) (cy (az kA (aq (ar 0) (aq (ar 1) (aq (ar 2) (aq (aQ fO (ar 4) (aQ kb (aQ fO (ar 3) (cF (.int 2))) (cF (.int 1)))) av))))))) [some w.d,some (.ref t.k),some (.int h),some (.ref a),some (.tup (pr.map Rw.d))] S (λo=>match o with
   |.nx a2 S1=>T (cy (cF .non)) a2 S1 (λo=>match o with|.nx _ u=>Q (.d .non) u|.rt d u=>Q (.d d) u|.rl l u=>Q (.l l) u|_=>False)|o=>match o with|.nx _ u=>Q (.d .non) u|.rt d u=>Q (.d d) u|.rl l u=>Q (.l l) u|_=>False):=λr G b L=>by
  show aI (rL (aV (iB e rfl (v:=f.row) rfl (cu (J5 ?_)))))
  show pz (j:=2) (aw rfl #[rfl,rfl]) (cu #[rfl,rfl]) e (by simp) ?_
  have B:(S.set a (sj {f with row:=f.row+1}))[a]?=some (sj {f with row:=f.row+1}):=Qyq (gQs.mp e).1
  show T _ _ (S.set a (sj {f with row:=f.row+1})) _
  generalize S.set a (sj {f with row:=f.row+1})=S1 at gn B|-
  show fA (cc (aA (aw rfl (aA (aw rfl (aA (aw rfl (aA (aV (aw rfl (aV (iB B rfl (v:=f.row+1) rfl (cu (fR ?_))))))))))))))
  show ax (d:=r.d) (jb (!0) (by rw[show f.row+1-1=f.row by omega,gQm,b];rfl)) (aZ ?_)
  show Lv (r:=r) (pr:=pr) (f:={f with row:=f.row+1}) gn (show Nn (iS s h) from nn) o (x2 G) hn Fi (by simp) F (by show 1<=f.row+1;omega) (by show pr[(f.row+1-1).toNat]?=_;rw[show f.row+1-1=f.row by omega];show b) λu t' ht N=>?_
  have es:DC w (iS s h) h r=DC w s h r:=by
   cases r with
   |say tr=>show congrArg some (GI y I)
   |_=>rfl
  rw[es]
  rw[L] at q
  show q u t' ht N
 by_cases c:f.room= -1
 ·
  have G:f.row<pr.length:=by
   have:f.row≠pr.length:=λz=>nb #[c,z]
   omega
  have b:pr[f.row.toNat]?=some (pr[f.row.toNat]'(!0)):=gQe (!0)
  generalize pr[f.row.toNat]'(!0)=r at b
  show aI (bK (pZ (cm (aV (iB e rfl (v:=f.room) rfl (cu (fR ?_)))))))
  rw[c]
  show tJ (aG (λz=>by cases z) (λ_=>?_))
  show aG (λz=>by cases z) (λ_=>?_)
  show bK (cm (aV (iB e rfl (v:=f.row) rfl (zd (bX (aw rfl (cE (eA ?_))))))))
  rw[lQm]
  show aG (λz=>by have:=QZq z;omega) (λ_=>?_)
  show row r G b ?_
  unfold dS
  rw[C,Quq (λz=>z.1 c),F]
  simp only
  rw[Quq (!0),b]
 ·rcases jo F with⟨c',_⟩|⟨i,j,rm,dn,h1,h2,h3,h4⟩
  ·show absurd c' c
  let#[R,m,ri]:=x.wroom h3
  let br:=ri.br
  let bl:=ri.bl
  have Z:f.room.toNat=i:=by omega
  let#[rx,A]:=g.rx m
  have he:∀{Γ:cG},Γ[3]?=some (some (.ref a))->E (aQ fO (ar 3) (cF (.int 0))) Γ S λd S1=>d=.int i/\S1=S:=λz=>iB e z (v:=f.room) rfl #[by rw[h1],rfl]
  show aI (bK (pZ (cm (aV (iB e rfl (v:=f.room) rfl (cu (fR ?_)))))))
  show aG (λ_=>?_) (λz=>by have:=QaQ z;omega)
  show cm (aV (aV (ou g A rfl (he rfl) (cu (bC (g.ca A m) (d:=.int R.within) rfl (aw rfl (nh ?_)))))))
  by_cases U:R.within=h
  ·rw[Qeq U]
   show tJ (aG (λz=>by cases z) (λ_=>?_))
   show bK (cm (aV (iB e rfl (v:=f.row) rfl (zd (bX (aw rfl (cE (eA ?_))))))))
   rw[lQm]
   by_cases ce:f.row=pr.length
   ·rw[Qeq ce]
    show tJ (aG (λ_=>?_) (λz=>by cases z))
    let W:=gq I
    let P:=hi.hd
    rw[W] at P
    let#[X,Y,hg]:=P.two c
    have H:fs=X++ [Y,f]:=by rw[W,hg];simp
    let M:=hi
    rw[H] at M
    let#[a0,a1]:=M.pop
    let#[a6,gg,rn,a4,tr,p1,p2,p3]:=a1
    have eo:mD s h={s with aj:=s.aj.set i (dG R),af:=s.af.set h (vs,X++ [Y])}:=by
     unfold mD
     rw[C,e1,Z,dZ m]
     erw[eK]
     rw[H,show X++ [Y,f]=(X++ [Y])++ [f] by simp,List.dropLast_concat]
    have xo:cM w n (mD s h):=by rw[eo];show(x.hand hw a0).room h3 ri.leave
    have L:dS w s h=(rj w s h,none):=by
     unfold dS
     rw[C,Z,dZ m,Quq (λz=>z.2 U),F]
     simp only
     rw[Qhq ce]
    rw[L] at q
    show c9 (cc (aA (aw rfl (aA (aw rfl (aA (aw rfl (aZ ?_))))))))
    apply M4 g o hn (by rw[y,H]) h1 m (!0) (!0) xo p1 p2 p3 λu t' ht N=>?_
    show q _ t' ht N
   ·rw[Qdq ce]
    show tJ (aG (λz=>by cases z) (λ_=>?_))
    have b:pr[f.row.toNat]?=some (pr[f.row.toNat]'(!0)):=gQe (!0)
    generalize pr[f.row.toNat]'(!0)=r' at b
    show row r' (!0) b ?_
    unfold dS
    rw[C,Z,dZ m,Quq (λz=>z.2 U),F]
    simp only
    rw[Quq ce,b]
  ·rw[Qdq U]
   show tJ (aG (λ_=>?_) (λz=>by cases z))
   have L:dS w s h=(eK s i (gQ R h),none):=by
    unfold dS
    rw[C,Z,dZ m,Qhq #[c,U]]
   rw[L] at q
   show c9 (cc (aA (ou g A rfl (he rfl) (aA (aw rfl (aZ ?_))))))
   apply Di g A m (nn R (mQg m)).w (!0) λu N=>?_
   show q _ t rfl N
end
end W28
namespace DL
open L2
def Np{b:cG}{S:aE}{f:e_}{Q:D->aE->Prop}(h:E f b S λp a=>p.2.isL=true/\∃bs,IK p.1=some bs/\Q (.bl (bs.any id)) a):E (Lw f) b S Q:=by
 let#[p,a,c,l,bs,d,q]:=h
 show#[_,a,by unfold Lw;rw[c];erw[Qbq];rw[Qhq l,d];rfl,q]
theorem F3{α:Type}{f:α->Bool}:∀xs:List α,IK (xs.map λa=>D.bl (f a))=some (xs.map f)
 | []=>rfl
 |a::xs=>by erw[QDq,IK];rw[F3 xs];rfl
end DL
namespace W28
open L2 DL
section
variable{lo:Nat->Prop}{S0 S:aE}{t:xQ}{s:bq}{h i:Nat}{w:cT}{n:Nat}{Q:Res->aE->Prop}
def Go.ref_at{j:Nat}{d:D}(g:Go lo S0 S t s)(b:(t.rs.map λx=>D.ref x.a)[j]?=some d):∃x r,t.rs[j]?=some x/\s.aj[j]?=some r/\d=.ref x.a:=by
 rw[gQm] at b
 let#[x,c,rfl]:=oQm.mp b
 show#[x,_,c,gQe (by rw[<-g.n.lr];show(gQs.mp c).1),L]
def Cc(g:Go lo S0 S t s)(o:eJ w)(x:cM w n s)(hn:n<=100)(q:Q (.d (.bl (decide ((h:Int)∈held s)))) S):Fn gL [.ref t.k,.int h] S Q:=by
 let b2:=o.l2
 let lp:=x.lp
 let lr:=x.lr
 show bZ ?_
 unfold jk
 have C:(h:Int)∈held s->Op (settle S (.bl true) S) λp=>Q p.1 p.2:=λz=>by
  rw[Qeq z] at q
  show cQ (λk z=>(nomatch z)) rfl q
 have G:∀{j:Nat} {r:dv},s.aj[j]?=some r->(h:Int)∈iI r->(h:Int)∈held s:=λA z=>mQa.mpr (.inr (QOq.mpr #[_,mQg A,z]))
 show aI (gF (jD (bX (aV (aw rfl (cu (bC g.n.top (d:=.ref t.r) rfl (a_ g.n.tr ?_))))))))
 show#[λj u F=>(∃a b c d e f,u= [some (.ref t.k),some (.int h),a,b,c,d,e,f])/\F=S/\∀k r,k<j->s.aj[k]?=some r->(h:Int)∉iI r,#[#[_,_,_,_,_,_,rfl],rfl,λk r M=>by omega],λ_ _ _ z=>by rw[z.2.1];show g.n.tr,?_,?_]
 ·rintro j d u F L ⟨⟨a,b,c,d',e,f,rfl⟩,hSS,B⟩
  subst F
  let#[y,r,R,A,rfl]:=g.ref_at L
  have Y:w.aj[j]?=some (w.aj[j]'(by have:=(gQs.mp A).1;omega)):=gQe _
  let Z:=x.rm j _ r Y A
  let b6:=(o.rm _ (mQg Y)).l2
  let k1:=Z.br
  let X:=Z.bl
  let k3:=Z.lb
  let lz:=g.lb R A
  show D5 (g.ca R A) rfl (ay (aS (ay (aS (ay (aS (ay (aS (ay (aS (bu ?_)))))))))))
  let cr:=g.cr R A
  let cl:=g.cl R A
  let cb:=g.cb R A
  show aI (bK (cm (xV (aw rfl (oY (yE (bX (aw rfl (a_ cr (bX (aw rfl (a_ cl ?_))))))))))))
  show#[#[rfl,rfl,cr,by rw[lQm,lQm];show QAq (show _<=200 by omega) (!1)],_,_,rfl,by rw[<-Qzq];show d0 _,?_]
  rw[lI]
  show aG (λz=>?_) (λz=>bT ?_)
  ·symm
   show C (G A (mQa.mpr (.inl (QZq z))))
  have z:(h:Int)∉r.row++r.ag:=QaQ z
  show gF (jD (bX (aw rfl (a_ cb ?_))))
  show#[λm u F=>(∃f,u= [some (.ref t.k),some (.int h),some (.ref y.v),some (.int r.within),some (.ref y.r),some (.ref y.l),some (.ref y.b),f])/\F=S/\∀k l,k<m->r.aa[k]?=some l->(h:Int)∉l.map (·.2),#[#[_,rfl],rfl,λk r M=>by omega],λ_ _ _ z=>by rw[z.2.1];show cb,?_,?_]
  ·rintro m d u F L ⟨⟨f,rfl⟩,hSS,hno2⟩
   subst F
   have L:(y.bs.map D.ref)[m]?=some d:=L
   rw[gQm] at L
   let#[ba,U,rfl]:=oQm.mp L
   obtain⟨l,P⟩:∃l,r.aa[m]?=some l:=#[_,gQe (by have:=(gQs.mp U).1;omega)]
   let W:=g.cbs R A U P
   let ll:=Z.bb l (mQg P)
   show aS (bK (cm (xV (aw rfl (oY ?_)))))
   show lM (α:=Int×Int) (λu=>∃a b,u= [a,b]) pairD (λp=>.int p.2) (λ_=>true) #[none,none,rfl] ?_
   show jD (bX (aw rfl (a_ W #[l,rfl,W,by omega,λp N u J=>?_,?_])))
   ·let#[a,b,rfl]:=J
    show fN rfl (ay (aS (ay (aS (bu #[rfl,#[_,_,rfl],m8 #[rfl,rfl,λ_=>aw rfl #[rfl,rfl]]])))))
   have el:(l.filter λ_=>true).map (λp=>D.int p.2)=(l.map (·.2)).map D.int:=by rw[List.filter_eq_self.mpr (λ_ _=>rfl),QPq];rfl
   show#[_,_,rfl,by rw[el];show d0 _,?_]
   rw[lI]
   show aG (λz=>?_) (λz=>bT ?_)
   ·symm
    show C (G A (mQa.mpr (.inr (QOq.mpr #[l,mQg P,QZq z]))))
   ·show#[#[_,rfl],rfl,λk l' M K=>?_]
    by_cases e:k=m
    ·subst e
     rw[P] at K
     cases K
     show QaQ z
    ·show hno2 k l' (!0) K
  ·rintro u F ⟨⟨f,rfl⟩,hSS,hno2⟩
   subst F
   show#[#[_,_,_,_,_,_,rfl],rfl,λk r' M H=>?_]
   by_cases e:k=j
   ·subst e
    rw[A] at H
    cases H
    intro I
    rcases mQa.mp I with I|I
    ·show z I
    ·let#[l,P,I]:=QOq.mp I
     let#[m,hm,e]:=QbQ P
     show hno2 m l (by show m<(y.bs.map D.ref).length;rw[lQm];omega) (by rw[gQe hm,e]) I
   ·show B k r' (!0) H
 ·rintro u F ⟨⟨a,b,c,d',e,f,rfl⟩,hSS,B⟩
  subst F
  have B:∀r∈s.aj,(h:Int)∉iI r:=λr A=>by
   let#[k,M,e]:=QbQ A
   show B k r (by show k<(t.rs.map _).length;rw[lQm,g.n.lr];show M) (by rw[gQe M,e])
  show fA (Np (oY ?_))
  let a1:=g.n.lp
  show lM (α:=Er×(Int×List Int)) (λu=>∃a b,u= [a,b,some (.int h)]) (λp=>.ref p.1.a) (λp=>.bl (decide ((h:Int)∈p.2.2))) (λ_=>true) #[none,none,rfl] ?_
  show jD (bX (aV (aw rfl (cu (bC g.n.top (d:=.ref t.p) rfl (a_ g.n.tp #[t.ps.zip s.ai,?_,g.n.tp,by rw[List.length_zip];omega,λp N u J=>?_,?_]))))))
  ·show t.ps.map (λx=>D.ref x.a)=(t.ps.zip s.ai).map ((λx:Er=>D.ref x.a)∘Prod.fst)
   rw[<-QPq,List.map_fst_zip (!0)]
  ·let#[a,b,rfl]:=J
   let#[m,k1,X]:=j_ N
   show D5 (g.pa k1 X) rfl (ay (aS (ay (aS (bu #[rfl,#[_,_,rfl],m8 #[rfl,rfl,λ_=>?_]])))))
   show xV (aw rfl (bX (aw rfl (a_ (g.pr k1 X) #[_,_,rfl,d0 _,?_]))))
   rw[lI]
   show#[rfl,rfl]
  ·show#[rfl,_,by rw[List.filter_eq_self.mpr (λ_ _=>rfl)];show F3 _,?_]
   have e:((t.ps.zip s.ai).map λp=>decide ((h:Int)∈p.2.2)).any id=decide ((h:Int)∈held s):=by
    rw[Bool.eq_iff_iff,List.any_eq_true,decide_eq_true_iff]
    constructor
    ·rintro⟨b,hb,a0⟩
     let#[p,N,rfl]:=Qkq.mp hb
     let#[m,_,X]:=j_ N
     show mQa.mpr (.inl (QOq.mpr #[p.2,mQg X,QZq a0]))
    ·intro z
     rcases mQa.mp z with z|z
     ·let#[p,N,z]:=QOq.mp z
      let#[m,hm,e]:=QbQ N
      show#[true,Qkq.mpr #[(t.ps[m]'(!0),p),cK (i:=m) (gQe _) (by rw[gQe hm,e]),Qeq z],rfl]
     ·let#[r,A,z]:=QOq.mp z
      show absurd z (B r A)
   rw[e]
   show cQ (λk z=>(nomatch z)) rfl q
end
section
variable{lo:Nat->Prop}{S0 S:aE}{t:xQ}{s:bq}{h i:Nat}{w:cT}{n:Nat}{Q:Res->aE->Prop}
def Li(g:Go lo S0 S t s)(o:eJ w)(x:cM w n s)(hn:n<=100)(q:Q (.l ((mE w s).map fW)) S):Fn oT [w.d,.ref t.k] S Q:=by
 let b4:=o.l4
 let Y:=x.lh
 show bZ ?_
 unfold tY
 show aI (cU (eR (eC (aZ #[by decide,?_]))))
 show aI (gF (IB (zd (bX (aV (aw rfl (cu (ax (d:=.tup (w.af.map fw)) rfl (cE ?_)))))))))
 show#[(w.af.length:Nat),by rw[lQm],by omega,?_]
 show#[λj m H=>(∃a b c,m= [some w.d,some (.ref t.k),some (.ref S.length),a,b,c])/\H=S++ [.lst (((List.range j).filter λh:Nat=> !decide ((h:Int)∈held s)&& !jC w s h).map fW)],#[#[_,_,_,rfl],rfl],λ_ _ _ _=>trivial,?_,?_]
 ·rintro j d m H P ⟨⟨a,b,c,rfl⟩,rfl⟩
  let#[rfl,hj]:=xN P
  obtain⟨⟨vs,X⟩,u⟩:∃p,s.af[j]?=some p:=#[_,gQe (!0)]
  let#[ts,B,K,Z]:=x.whand u
  let#[f,M,fi]:=Z.last
  let C:=g.app (G:= [.lst (((List.range j).filter λh:Nat=> !decide ((h:Int)∈held s)&& !jC w s h).map fW)])
  let#[a0,A]:=g.hx u
  let#[U,ha,e]:=C.last A u M
  have r:((List.range (j+1)).filter λh:Nat=> !decide ((h:Int)∈held s)&& !jC w s h)=((List.range j).filter λh:Nat=> !decide ((h:Int)∈held s)&& !jC w s h)++if (!decide ((j:Int)∈held s)&& !jC w s j)=true then [j] else []:=by
   rw[List.range_succ,List.filter_append]
   cases hc:(!decide ((j:Int)∈held s)&& !jC w s j) <;>simp[hc]
  let N:=List.length_filter_le (λh:Nat=> !decide ((h:Int)∈held s)&& !jC w s h) (List.range j)
  rw[QVq] at N
  have F:jC w s j=(decide (f.room<0)&&decide (f.row=(B.length:Int))):=by
   unfold jC BZ
   rw[u]
   show(match X.getLast? with|some f=>_|none=>_)=_
   rw[M]
   show(decide (f.room= -1)&&decide (f.row=(((progOf w j f).getD []).length:Int)))=_
   by_cases c:f.room= -1
   ·have W:progOf w j f=some B:=by unfold progOf;rw[Qhq c,K];rfl
    rw[Qeq c,Qeq (by omega:f.room<0),W]
    rfl
   ·have:=gV fi c
    rw[Qdq c,Qdq (by omega:¬f.room<0)]
    rfl
  generalize hL:((List.range j).filter λh:Nat=> !decide ((h:Int)∈held s)&& !jC w s h)=L at C e N r|-
  show aS ?_
  show aI (cU (oO C A u ha rfl rfl ?_))
  show aI (cU ?_)
  have I:∀{R:D->aE->Prop},R (.bl (jC w s j)) (S++ [.lst (L.map fW)])->E (sR (aQ Dv (aQ fO (ar 4) (cF (.int 0))) (cF (.int 0))) (aQ (dE false) (aQ fO (ar 4) (cF (.int 2))) (gP (aP (aQ fO (aQ fO (aQ fO (ar 0) (cF (.int 3))) (ar 3)) (cF (.int 1))))))) [some w.d,some (.ref t.k),some (.ref S.length),some (.int j),some (.ref U),c] (S++ [.lst (L.map fW)]) R:=λq=>by
   rw[F] at q
   show mT (aV (iB e rfl (v:=f.room) rfl (cu (fR #[_,rfl,?_]))))
   show aG (λz=>?_) (λz=>?_)
   ·rw[z,Bool.true_and] at q
    show aV (iB e rfl (v:=f.row) rfl (zd (bX (aV (aV (aV (aw rfl (cu (ax (d:=.tup (w.af.map fw)) rfl (aw rfl (ax (d:=fw (ts,B)) (aU (by rw[gQm,K];rfl)) (cu (ax (d:=.tup (B.map Rw.d)) rfl (cE (eA ?_)))))))))))))))
    rw[lQm]
    show q
   ·rw[z,Bool.false_and] at q
    show q
  show I ?_
  show bK (pZ (D2 (JL (aw rfl (sm ?_)))))
  have J:(S++ [O.lst (L.map fW)])[S.length]?=some (.lst (L.map fW)):=aM
  show aG (λz=>?_) (λz=>?_)
  ·show D2 (JL (cc (aA (aw rfl (aA (aw rfl (aZ ?_)))))))
   show Cc C o x hn (sm ?_)
   have z:jC w s j=false:=by simpa using z
   rw[z] at r
   show aG (λy=>?_) (λy=>bT ?_)
   ·show c9 (fq (aw rfl #[_,_,rfl,J,aA (aw rfl (aZ #[_,J,iW (by rw[lQm];omega) ?_]))]))
    show#[#[_,_,_,rfl],?_]
    rw[r,y]
    simp[fW]
   ·show#[#[_,_,_,rfl],?_]
    rw[r,y]
    simp
  ·show aG (λz=>by cases z) (λ_=>bT ?_)
   have z:jC w s j=true:=by simpa using z
   rw[z] at r
   show#[#[_,_,_,rfl],?_]
   rw[r]
   simp
 ·rintro m H ⟨⟨a,b,c,rfl⟩,rfl⟩
  rw[Jz,Y]
  symm
  show Jw sk.refl.app (Qmq _) aM (bo λ_ _=>rfl) q
def C7{α a:Type}{f:α->Nat}{xs:List α}{ys:List a}(h:xs.length=ys.length):xs.map (λx=>D.ref (f x))=(xs.zip ys).map λp=>.ref (f p.1):=by
 show _=(xs.zip ys).map ((λx=>D.ref (f x))∘Prod.fst)
 rw[<-QPq,List.map_fst_zip (!0)]
def Gh{α a b:Type}{f:a->b}{xs:List α}{ys:List a}(h:xs.length=ys.length):(xs.zip ys).map (λp=>f p.2)=ys.map f:=by
 show(xs.zip ys).map (f∘Prod.snd)=_
 rw[<-QPq,List.map_snd_zip (!0)]
def J7{α e:Type}{l:cG}{k v:Nat}{xs:List α}{ys:List e}{f:α->Nat}{c:e->List D}{R:D->aE->Prop}(o:l[v]?=some (some (.ref k)))(g:S[k]?=some (.lst (xs.map λx=>.ref (f x))))(j:xs.length=ys.length)(u:xs.length<=900)(r:∀p∈xs.zip ys,S[f p.1]?=some (.lst (c p.2)))(q:R (.tup (ys.map λy=>.tup (c y))) S):
  E (tupQ (gU (bG [none] (fT (aP (ar v))) (bJ 0) bQ (tupQ (cO (aP (ar 0))))))) l S R:=by
 show qE (oY ?_)
 show je (α:=α×e) (λb=>∃a,b= [a]) (λp=>.ref (f p.1)) (λp=>.tup (c p.2)) #[none,L] ?_
 show bX (aw o (a_ g #[xs.zip ys,C7 j,g,by rw[List.length_zip];omega,λp m b d=>?_,?_]))
 ·let#[a,rfl]:=d
  show aS #[L,#[_,L],qE (sx (bX (aw L (a_ (r p m) #[L,L,L]))))]
 ·show R (.tup ((xs.zip ys).map λp=>.tup (c p.2))) S
  rw[Gh (f:=λy=>D.tup (c y)) j]
  show q
def qe{a:cG}{k v:Nat}{ds:List D}{R:D->aE->Prop}(c:a[v]?=some (some (.ref k)))(b:S[k]?=some (.lst ds))(q:R (.tup ds) S):E (tupQ (cO (aP (ar v)))) a S R:=qE (sx (bX (aw c (a_ b #[L,q]))))
def y9(g:Go lo S0 S t s)(o:eJ w)(x:cM w n s)(hn:n<=100)(q:Q (.d s.d) S):Fn gM [.ref t.k] S Q:=by
 let b1:=o.l1
 let b2:=o.l2
 let b4:=o.l4
 let lr:=x.lr
 let lp:=x.lp
 let lh:=x.lh
 let W:=g.n.lr
 let N:=g.n.lp
 let Z:=g.n.lh
 show bZ ?_
 unfold lS
 show aI (cU (eR (eC (aZ #[by decide,?_]))))
 let g1:=g.app (G:= [O.lst []])
 show aI (gF (jD (bX (aV (aw rfl (cu (bC g1.n.top (d:=.ref t.r) rfl (a_ g1.n.tr ?_))))))))
 show#[λj u C=>(∃a b c d e,u= [some (.ref t.k),some (.ref S.length),a,b,c,d,e,none,none])/\C=S++ [.lst ((s.aj.take j).map dv.d)],#[#[_,_,_,_,_,rfl],rfl],λ_ _ _ z=>by rw[z.2];show(g.app).n.tr,?_,?_]
 ·rintro j d u C J ⟨⟨a,b,c,Y,e,rfl⟩,rfl⟩
  let F:=g.app (G:= [O.lst ((s.aj.take j).map dv.d)])
  let#[y,r,A,B,rfl]:=F.ref_at J
  let hj:=(gQs.mp B).1
  have U:w.aj[j]?=some (w.aj[j]'(!0)):=gQe _
  let ri:=x.rm j _ r U B
  let b6:=(o.rm _ (mQg U)).l2
  let k3:=ri.lb
  let lz:=g.lb A B
  have M:(S++ [O.lst ((s.aj.take j).map dv.d)])[S.length]?=some (.lst ((s.aj.take j).map dv.d)):=aM
  show D5 (F.ca A B) rfl (ay (aS (ay (aS (ay (aS (ay (aS (ay (aS (bu ?_)))))))))))
  show c9 (fq (aw rfl #[_,_,rfl,M,?_]))
  show aA (uC (aA (qe rfl (F.cv A B) (aA (aw rfl (aA (qe rfl (F.cr A B) (aA (qe rfl (F.cl A B) (aA ?_))))))))))
  show J7 (f:=λk:Nat=>k) (c:=λl:List (Int×Int)=>l.map pairD) (xs:=y.bs) (ys:=r.aa) rfl (F.cb A B) lz (!0) (λp P=>?_) ?_
  ·let#[m,K,L]:=j_ P
   show F.cbs A B K L
  show aZ #[by show 5<=_;decide,aZ #[_,M,iW (by rw[lQm,Qxq];omega) ?_]]
  show#[#[_,_,_,_,_,rfl],?_]
  rw[QYq,B]
  simp[dv.d,dm,fD]
 rintro u C ⟨⟨a,b,c,Y,e,rfl⟩,v⟩
 have er:s.aj.take (t.rs.map λx=>D.ref x.a).length=s.aj:=by rw[lQm,W,QEq]
 have v:C=S++ [.lst (s.aj.map dv.d)]:=by rw[v];show S++ [O.lst ((s.aj.take (t.rs.map λx=>D.ref x.a).length).map dv.d)]=_;rw[er]
 subst v
 show aI (cU (eR (eC (aZ #[by decide,?_]))))
 let g3:=(g.app (G:= [O.lst (s.aj.map dv.d)])).app (G:= [O.lst []])
 have e7:(S++ [O.lst (s.aj.map dv.d)]).length=S.length+1:=by simp
 rw[e7]
 show aI (gF (jD (bX (aV (aw rfl (cu (bC g3.n.top (d:=.ref t.h) rfl (a_ g3.n.th ?_))))))))
 show#[λj u C=>(∃a b c d e f,u= [some (.ref t.k),some (.ref S.length),a,b,c,d,e,some (.ref (S.length+1)),f])/\C=S++ [.lst (s.aj.map dv.d)]++ [.lst ((s.af.take j).map uh)],#[#[_,_,_,_,_,_,rfl],rfl],λ_ _ _ z=>by rw[z.2];show((g.app).app).n.th,?_,?_]
 ·rintro j d u C J ⟨⟨a,b,c,Y,e,f,rfl⟩,rfl⟩
  let R:=(g.app (G:= [O.lst (s.aj.map dv.d)])).app (G:= [O.lst ((s.af.take j).map uh)])
  have J:(t.hs.map λx=>D.ref x.a)[j]?=some d:=J
  rw[gQm] at J
  let#[y,A,rfl]:=oQm.mp J
  let hj:=(gQs.mp A).1
  obtain⟨⟨vs,fs⟩,H⟩:∃p,s.af[j]?=some p:=#[_,gQe (!0)]
  let#[ts,pr,hw,hi]:=x.whand H
  let lf:=hi.lf
  let lx:=R.lf A H
  have M:(S++ [O.lst (s.aj.map dv.d)]++ [O.lst ((s.af.take j).map uh)])[S.length+1]?=some (.lst ((s.af.take j).map uh)):=by
   have:=aM (S:=S++ [O.lst (s.aj.map dv.d)]) (o:=O.lst ((s.af.take j).map uh))
   simpa using this
  show D5 (R.ha A H) rfl (ay (aS (ay (aS (bu ?_)))))
  show c9 (fq (aw rfl #[_,_,rfl,M,?_]))
  show aA (uC (aA (qe rfl (R.hv A H) (aA ?_))))
  show J7 (f:=λk:Nat=>k) (c:=λf:cB=> [.int f.room,.int f.deed,.int f.row,.int f.given,.int f.told]) (xs:=y.fs) (ys:=fs) rfl (R.hf A H) lx (!0) (λp P=>?_) ?_
  ·let#[m,K,L]:=j_ P
   show R.hfs A H K L
  show aZ #[by show 2<=_;decide,aZ #[_,M,iW (by rw[lQm,Qxq];omega) ?_]]
  show#[#[_,_,_,_,_,_,rfl],?_]
  rw[QYq,H]
  simp[uh,dm]
  show λ_ _=>rfl
 rintro u C ⟨⟨a,b,c,Y,e,f,rfl⟩,v⟩
 have eh:s.af.take (t.hs.map λx=>D.ref x.a).length=s.af:=by rw[lQm,Z,QEq]
 have v:C=S++ [.lst (s.aj.map dv.d)]++ [.lst (s.af.map uh)]:=by rw[v];show S++ [O.lst (s.aj.map dv.d)]++ [O.lst ((s.af.take (t.hs.map λx=>D.ref x.a).length).map uh)]=_;rw[eh]
 subst v
 let I:=(g.app (G:= [O.lst (s.aj.map dv.d)])).app (G:= [O.lst (s.af.map uh)])
 have gr:(S++ [O.lst (s.aj.map dv.d)]++ [O.lst (s.af.map uh)])[S.length]?=some (.lst (s.aj.map dv.d)):=aO aM
 have gh:(S++ [O.lst (s.aj.map dv.d)]++ [O.lst (s.af.map uh)])[S.length+1]?=some (.lst (s.af.map uh)):=by
  have:=aM (S:=S++ [O.lst (s.aj.map dv.d)]) (o:=O.lst (s.af.map uh))
  simpa using this
 show fA (uC (aA (qe rfl gr (aA (qE (oY ?_))))))
 show je (α:=Er×(Int×List Int)) (λu=>∃a b,u= [a,b]) (λp=>.ref p.1.a) (λp=>Dy p.2) #[none,none,rfl] ?_
 show bX (aV (aw rfl (cu (bC I.n.top (d:=.ref t.p) rfl (a_ I.n.tp #[t.ps.zip s.ai,C7 N,I.n.tp,by rw[List.length_zip];omega,λp P u X=>?_,?_])))))
 ·let#[a,b,rfl]:=X
  let#[m,K,L]:=j_ P
  show D5 (I.pa K L) rfl (ay (aS (ay (aS (bu #[rfl,#[_,_,rfl],?_])))))
  show uC (aA (aw rfl (aA (qe rfl (I.pr K L) (aZ #[by show 2<=_;decide,rfl,rfl])))))
 show E _ _ _ _
 rw[Gh (f:=λp:Int×List Int=>Dy p) N]
 show aA (qE (sx (bX (aV (aw rfl (cu (bC I.n.top (d:=.ref t.s) rfl (a_ I.n.ts #[rfl,?_]))))))))
 show aA (qe rfl gh (aZ #[by show 4<=_;decide,?_]))
 show uU (d:=s.d) sk.refl.app.app (bc _) (bq.low _) q
end
structure Bl(lo:Nat)(S:aE)(N:List Nat)(L:List Cell):Prop where
 ho:vQ S L
 nd:N.Nodup
 bd:∀a∈N,lo<=a/\a<S.length
def Gx{l m:List Nat}{b:Nat}(f:l.Nodup)(c:m.Nodup)(u:∀a∈l,a<b)(v:∀a∈m,b<=a):(l++m).Nodup:=List.nodup_append.mpr #[f,c,λx g y d e=>by have:=u x g;have:=v y d;omega]
def Bl.nil{lo:Nat}{S:aE}:Bl lo S [] []:=#[λp b=>(nomatch b),.nil,λa c=>(nomatch c)]
def Bl.add{lo:Nat}{S G:aE}{N M:List Nat}{L K:List Cell}(x:Bl lo S N L)(g:lo<=S.length)(f:vQ (S++G) K)(e:M.Nodup)(c:∀a∈M,S.length<=a/\a<(S++G).length):Bl lo (S++G) (N++M) (L++K):=by
 show#[λp d=>?_,Gx x.nd e (λa b=>(x.bd a b).2) λa b=>(c a b).1,λa b=>?_]
 ·rcases mQa.mp d with h|h
  ·show aO (x.ho p h)
  ·show f p h
 ·rcases mQa.mp b with h|h
  ·have:=x.bd a h
   rw[lQa]
   omega
  ·have:=c a h
   omega
def Bl.put{lo a:Nat}{S:aE}{N:List Nat}{L:List Cell}{o:O}(x:Bl lo S N L)(f:a<lo)(d:∀p∈L,p.1∈N):Bl lo (S.set a o) N L:=⟨λp c=>by
 have:=x.bd p.1 (d p c)
 rw[QKq (!0)]
 show x.ho p c,x.nd,λb e=>by simpa using x.bd b e⟩
def MZ{p:Ht×dv}{c:Cell}(h:c∈B1 p.1 p.2):c.1∈Dx p.1:=(EU p).mem (Qkq.mpr #[c,h,L])
def F1{α a:Type}{f:α×a->List Cell}{g:α->List Nat}(h:∀p,((f p).map (·.1)).Sublist (g p.1)){xs:List α}{ys:List a}:∀c∈(xs.zip ys).flatMap f,c.1∈xs.flatMap g:=λc b=>(nq h xs ys).mem (Qkq.mpr #[c,b,L])
def mU{α a:Type}{xs:List α}{ys:List a}{x:α}{y:a}(h:xs.length=ys.length):(xs++ [x]).zip (ys++ [y])=xs.zip ys++ [(x,y)]:=by rw[List.zip_append h];rfl
section
variable{S:aE}
def El{i:cG}{v:Nat}{ts:List (Str×Nat)}{R:List D->aE->Prop}{f:e_}(j:E f i S λp h=>p=(ts.map kZ,.tu)/\h=S)(k:ts.length<=900)(q:R ((bS ts).map D.int) S):E (bG [none,none] (fT f) (kP (nG 2 (aK (bJ 0) (aK (bJ 1) dC)))) bQ (ar 1)) i S R:=by
 show je (α:=Str×Nat) (λc=>∃a b,c= [a,b]) kZ (λp=>.int (p.2:Int)) #[none,none,L] (j.mono λp h g=>?_)
 let#[rfl,rfl]:=g
 show#[ts,L,trivial,by omega,λp g c d=>?_,?_]
 ·let#[a,b,rfl]:=d
  show fN L (ay (aS (ay (aS (bu #[L,#[_,_,L],aw L #[L,L]])))))
 ·have e:ts.map (λp=>D.int (p.2:Int))=(bS ts).map D.int:=by unfold bS;rw[QPq];rfl
  rw[e]
  show q
def MX{g:cG}{v:Nat}{bs:List (Str×Str)}{R:List D->aE->Prop}(k:g[v]?=some (some (.tup (bs.map AI))))(l:bs.length<=900)(q:R ((List.range bs.length).map λi=>.ref (S.length+i)) (S++List.replicate bs.length (.lst []))):E (bG [none] (fT (aP (ar v))) (bJ 0) bQ (bO (bD av))) g S R:=by
 show j3 (jD (bX (aw k (cE ?_))))
 show#[λn b f c=>(∃a,b= [a])/\f=S++List.replicate n (.lst [])/\c=(List.range n).map λi=>.ref (S.length+i),#[#[_,L],by simp,L],λ_ _ _ _ _=>trivial,?_,?_]
 ·rintro n d b f c j ⟨⟨a,rfl⟩,rfl,rfl⟩
  let h:=(gQs.mp j).1
  have h:n<bs.length:=by simpa using h
  show aS (m8 ?_)
  rw[Qhq L]
  show eR (eC (aZ #[by decide,?_]))
  show#[bj (by rw[lQm,QVq];omega),#[_,L],?_,?_]
  ·rw[Qvq,List.replicate_succ']
  ·rw[List.range_succ,Qzq]
   simp
 ·rintro b f c ⟨⟨a,rfl⟩,rfl,rfl⟩
  have e:(bs.map AI).length=bs.length:=by simp
  show R ((List.range (bs.map AI).length).map _) (S++List.replicate (bs.map AI).length _)
  rw[e]
  show q
end
section
variable{S:aE}{w:cT}{Q:Res->aE->Prop}
noncomputable def jx(m:Nat)(r:Rm):Ht:=#[m+3+r.aa.length+1,m,m+1,m+2,m+3+r.aa.length,(List.range r.aa.length).map (m+3+·)]
noncomputable def nU(m:Nat)(r:Rm):aE:= [cP (bS r.ao),.lst [],.lst []]++List.replicate r.aa.length (.lst [])++ [.lst ((List.range r.aa.length).map λi=>.ref (m+3+i))]++ [.lst [.ref m,.int (-1),.ref (m+1),.ref (m+2),.ref (m+3+r.aa.length)]]
def Ij{m:Nat}{r:Rm}:(nU m r).length=3+r.aa.length+2:=by simp[nU];omega
def oN{r:Rm}{i:Nat}{o:O}(h:(nU S.length r)[i]?=some o):(S++nU S.length r)[S.length+i]?=some o:=by
 rw[QQq (!0),show S.length+i-S.length=i by omega]
 show h
def Jg(r:Rm):vQ (S++nU S.length r) (B1 (jx S.length r) (cC r)):=λp g=>by
 have n:∀j,j<r.aa.length->(nU S.length r)[3+j]?=some (.lst []):=λj d=>by
  unfold nU
  rw[Qvq,Qvq,QQq (by simp),QHq (by simp;omega)]
  simp[d]
 have k:(nU S.length r)[3+r.aa.length]?=some (.lst ((List.range r.aa.length).map λi=>.ref (S.length+3+i))):=by
  unfold nU
  rw[Qvq,QQq (by simp;omega),show 3+r.aa.length-([cP (bS r.ao),O.lst [],O.lst []]++List.replicate r.aa.length (O.lst [])).length=0 by simp;omega]
  rfl
 have l:(nU S.length r)[3+r.aa.length+1]?=some (.lst [.ref S.length,.int (-1),.ref (S.length+1),.ref (S.length+2),.ref (S.length+3+r.aa.length)]):=by
  unfold nU
  rw[QQq (by simp;omega),show 3+r.aa.length+1-([cP (bS r.ao),O.lst [],O.lst []]++List.replicate r.aa.length (O.lst [])++ [O.lst ((List.range r.aa.length).map λi=>D.ref (S.length+3+i))]).length=0 by simp;omega]
  rfl
 rcases mQa.mp g with h|h
 ·erw[Qsq,QXq,or_false] at h
  rcases h with rfl|rfl|rfl|rfl|rfl
  ·have:=oN (S:=S) l
   rw[show S.length+(3+r.aa.length+1)=S.length+3+r.aa.length+1 by omega] at this
   show this
  ·show oN (S:=S) (i:=0) L
  ·show oN (S:=S) (i:=1) L
  ·show oN (S:=S) (i:=2) L
  ·have:=oN (S:=S) k
   rw[show S.length+(3+r.aa.length)=S.length+3+r.aa.length by omega] at this
   show _=some (O.lst (((List.range r.aa.length).map (S.length+3+·)).map D.ref))
   rw[QPq]
   show this
 ·let#[q,e,rfl]:=Qkq.mp h
  let#[j,a,c]:=j_ e
  have a:((List.range r.aa.length).map (S.length+3+·))[j]?=some q.1:=a
  have c:(r.aa.map λ_=>([]:List (Int×Int)))[j]?=some q.2:=c
  rw[gQm] at a c
  let#[o,a,m]:=oQm.mp a
  let#[b,c,f]:=oQm.mp c
  let d:=(gQs.mp c).1
  rw[List.getElem?_range d] at a
  cases a
  have:=oN (S:=S) (n j d)
  rw[show S.length+(3+j)=S.length+3+j by omega] at this
  show(S++nU S.length r)[q.1]?=some (CN q.2)
  rw[<-m,<-f]
  show this
def Ih(m:Nat)(r:Rm):(Dx (jx m r)).Nodup/\∀a∈Dx (jx m r),m<=a/\a<m+(3+r.aa.length+2):=by
 have i:((List.range r.aa.length).map (m+3+·)).Nodup:=List.Pairwise.map (R:=(·≠·)) (S:=(·≠·)) _ (λa b n e=>n (!0)) List.nodup_range
 have d:∀a∈(List.range r.aa.length).map (m+3+·),m+3<=a/\a<m+3+r.aa.length:=λa c=>by
  let#[j,f,rfl]:=Qkq.mp c
  have:=List.mem_range.mp f
  omega
 constructor
 ·unfold Dx
  rw[List.nodup_append]
  show#[?_,i,λx k y g e=>?_]
  ·erw[jx,List.nodup_cons,Qsq,QXq,or_false,not_or,not_false_eq_true,List.nodup_nil,and_true]
   omega
  ·have:=d y g
   erw[jx,Qsq,QXq,or_false] at k
   omega
 ·intro a c
  rcases mQa.mp c with h|h
  ·erw[jx,Qsq,QXq,or_false] at h
   omega
  ·have:=d a h
   omega
noncomputable def jh(m:Nat):Dw:=#[m+3,m,m+2,[m+1]]
noncomputable def CU(m:Nat)(h:List (Str×Nat)×List Rw):aE:= [cP (bS h.1),sj yj,.lst [.ref (m+1)],.lst [.ref m,.ref (m+2)]]
def HC(h:List (Str×Nat)×List Rw):vQ (S++CU S.length h) (xP (jh S.length) (bS h.1,[yj])):=λp b=>by
 have a:∀{i:Nat} {o:O},(CU S.length h)[i]?=some o->(S++CU S.length h)[S.length+i]?=some o:=λ{i o} z=>by
  rw[QQq (!0),show S.length+i-S.length=i by omega]
  show z
 erw[xP,jh,List.zip_cons_cons,List.zip_nil_right,QDq,List.map_nil,List.cons_append,List.nil_append,Qsq,QXq,or_false] at b
 rcases b with rfl|rfl|rfl|rfl
 ·show a (i:=3) L
 ·show a (i:=0) L
 ·show a (i:=2) L
 ·show a (i:=1) L
def Fm(m:Nat):(CG (jh m)).Nodup/\∀a∈CG (jh m),m<=a/\a<m+4:=by
 constructor
 ·erw[CG,jh,List.cons_append,List.nil_append,List.nodup_cons,Qsq,QXq,or_false,not_or,not_false_eq_true,List.nodup_nil,and_true]
  omega
 ·intro a b
  erw[CG,jh,List.cons_append,List.nil_append,Qsq,QXq,or_false] at b
  omega
def FE{T X:aE}{o a:O}:(T++o::X).set T.length a=T++a::X:=by
 rw[List.set_append_right _ _ (Qmq _)]
 simp
end
section
variable{S:aE}{w:cT}{Q:Res->aE->Prop}
noncomputable def nQ(h:List (Str×Nat)×List Rw):List Int×List cB:=(bS h.1,[yj])
noncomputable def nV(p:Str×Nat):Int×List Int:=((p.2:Int),[])
def xM{T X:aE}{o:O}:(T++o::X)[T.length]?=some o:=by rw[QQq (Qmq _)];simp
def Kd(o:eJ w)(q:∀(L:aE) (t:xQ),t.k=L.length->Go (·<S.length) S (L++ [.lst [.ref t.r,.ref t.p,.ref t.s,.ref t.h]]) t (cR w)->Q (.l [.ref t.r,.ref t.p,.ref t.s,.ref t.h]) L):Fn jK [w.d] S Q:=by
 let b1:=o.l1
 let b2:=o.l2
 let b3:=o.l3
 let b4:=o.l4
 show vf ?_
 unfold n_
 show aI (cU (eR (eC (aZ #[by decide,?_]))))
 show aI (gF (jD (bX (aV (aw rfl (cu (ax (d:=.tup (w.aj.map Rm.d)) rfl (cE ?_))))))))
 show#[λj A L=>(∃a b c d e,A= [some w.d,some (.ref S.length),a,b,c,d,e,none,none])/\∃(g:List Ht) (X:aE),L=S++.lst (g.map λx=>.ref x.a)::X/\g.length=j/\Bl (S.length+1) L (g.flatMap Dx) ((g.zip ((w.aj.take j).map cC)).flatMap λp=>B1 p.1 p.2)/\∀p∈g.zip ((w.aj.take j).map cC),p.1.bs.length=p.2.aa.length,#[#[_,_,_,_,_,rfl],[],[],rfl,rfl,by simpa using Bl.nil,λp J=>by simp at J],λ_ _ _ _=>trivial,?_,?_]
 ·rintro j d A L P ⟨⟨a,b,c,d',e,rfl⟩,g,X,rfl,U,bl,lb⟩
  have P:(w.aj.map Rm.d)[j]?=some d:=P
  rw[gQm] at P
  let#[r,hr,rfl]:=oQm.mp P
  let hj:=(gQs.mp hr).1
  let a2:=o.rm r (mQg hr)
  let k1:=a2.l1
  let k2:=a2.l2
  have gA:(S++O.lst (g.map λx=>D.ref x.a)::X)[S.length]?=some (.lst (g.map λx=>.ref x.a)):=xM
  have a0:(S++O.lst (g.map λx=>D.ref x.a)::X).length=S.length+1+X.length:=by simp;omega
  let hG:=Ij (m:=(S++O.lst (g.map λx=>D.ref x.a)::X).length) (r:=r)
  let N:=bl.add (G:=nU (S++O.lst (g.map λx=>D.ref x.a)::X).length r) (!0) (Jg r) (Ih _ r).1 (λa ha=>by
   have:=(Ih (S++O.lst (g.map λx=>D.ref x.a)::X).length r).2 a ha
   rw[lQa (bs:=nU _ r),hG]
   omega)
  show fN rfl (ay (aS (ay (aS (ay (aS (ay (aS (ay (aS (bu ?_)))))))))))
  show c9 (fq (aw rfl #[_,_,rfl,gA,?_]))
  generalize hT:S++O.lst (g.map λx=>D.ref x.a)::X=T at gA a0 hG bl N|-
  show aA (eR (eC (aA (eR (El (v:=0) (ts:=r.ao) (bX (aw rfl (cE #[rfl,rfl]))) (!0) ?_)))))
  show aA (iz (cu #[1,rfl,aA (eR (eC (aZ #[by decide,aA (eR (eC (aZ #[by decide,aA (eR (MX (bs:=r.aa) rfl (!0) ?_))])))])))]))
  show aZ #[by show 5<=_;decide,aZ ?_]
  have eS:T++ [O.lst ((bS r.ao).map D.int)]++ [O.lst []]++ [O.lst []]++List.replicate r.aa.length (O.lst [])++ [O.lst ((List.range r.aa.length).map λi=>D.ref ((T++ [O.lst ((bS r.ao).map D.int)]++ [O.lst []]++ [O.lst []]).length+i))]++ [O.lst [.ref T.length,.int (-1),.ref (T++ [O.lst ((bS r.ao).map D.int)]).length,.ref (T++ [O.lst ((bS r.ao).map D.int)]++ [O.lst []]).length,.ref (T++ [O.lst ((bS r.ao).map D.int)]++ [O.lst []]++ [O.lst []]++List.replicate r.aa.length (O.lst [])).length]]=T++nU T.length r:=by
   unfold nU
   simp[cP]
   omega
  have eL:(T++ [O.lst ((bS r.ao).map D.int)]++ [O.lst []]++ [O.lst []]++List.replicate r.aa.length (O.lst [])++ [O.lst ((List.range r.aa.length).map λi=>D.ref ((T++ [O.lst ((bS r.ao).map D.int)]++ [O.lst []]++ [O.lst []]).length+i))]).length=(jx T.length r).a:=by
   simp[jx]
   omega
  rw[eS,eL]
  show#[_,aO gA,iW (by rw[lQm];omega) ?_]
  show#[#[_,_,_,_,_,rfl],g++ [jx T.length r],X++nU T.length r,?_,by simp[U],?_,?_]
  ·rw[<-hT,Qzq,Qvq,List.cons_append,FE]
   rfl
  ·have:=N.put (a:=S.length) (o:=.lst (g.map (λx=>D.ref x.a)++ [.ref (jx T.length r).a])) (!0) (λp J=>by
    rcases mQa.mp J with h|h
    ·show mQa.mpr (.inl (F1 EU p h))
    ·show mQa.mpr (.inr (MZ (p:=(jx T.length r,cC r)) h)))
   rw[QYq,hr,Qzq]
   show Bl _ _ ((g++ [jx T.length r]).flatMap Dx) (((g++ [jx T.length r]).zip ((w.aj.take j).map cC++ [cC r])).flatMap _)
   rw[mU (by rw[lQm,Qxq];omega),List.flatMap_append,List.flatMap_append]
   simpa using this
  ·rw[QYq,hr,Qzq]
   show∀p∈(g++ [jx T.length r]).zip ((w.aj.take j).map cC++ [cC r]),_
   rw[mU (by rw[lQm,Qxq];omega)]
   intro p J
   rcases mQa.mp J with h|h
   ·show lb p h
   ·rw[Qfq.mp h]
    simp[jx,cC]
 rintro A B ⟨⟨a,b,c,d',e,rfl⟩,g,X,hS2,U,H,lb⟩
 have U:g.length=(w.aj.map Rm.d).length:=U
 rw[lQm] at U
 have a4:w.aj.take (w.aj.map Rm.d).length=w.aj:=by rw[lQm,QEq]
 have H:Bl (S.length+1) B (g.flatMap Dx) ((g.zip ((w.aj.take (w.aj.map Rm.d).length).map cC)).flatMap λp=>B1 p.1 p.2):=H
 have lb:∀p∈g.zip ((w.aj.take (w.aj.map Rm.d).length).map cC),p.1.bs.length=p.2.aa.length:=lb
 rw[a4] at H lb
 have gA:B[S.length]?=some (.lst (g.map λx=>.ref x.a)):=by rw[hS2];show xM
 have a7:S.length+1<=B.length:=by rw[hS2];simp
 show aI (cU (eR (eC (aZ #[by decide,?_]))))
 show aI (gF (jD (bX (aV (aw rfl (cu (ax (d:=.tup (w.af.map fw)) rfl (cE ?_))))))))
 show#[λj A L=>(∃a b c d e f,A= [some w.d,some (.ref S.length),a,b,c,d,e,some (.ref B.length),f])/\∃(n:List Dw) (X:aE),L=B++.lst (n.map λx=>.ref x.a)::X/\n.length=j/\Bl (B.length+1) L (n.flatMap CG) ((n.zip ((w.af.take j).map nQ)).flatMap λp=>xP p.1 p.2)/\∀p∈n.zip ((w.af.take j).map nQ),p.1.fs.length=p.2.2.length,#[#[_,_,_,_,_,_,rfl],[],[],rfl,rfl,by simpa using Bl.nil,λp J=>by simp at J],λ_ _ _ _=>trivial,?_,?_]
 ·rintro j d A L P ⟨⟨a,b,c,d',e,f,rfl⟩,n,Y,rfl,R,bl,lf⟩
  have P:(w.af.map fw)[j]?=some d:=P
  rw[gQm] at P
  let#[r,hr,rfl]:=oQm.mp P
  let hj:=(gQs.mp hr).1
  let k1:=(o.hd r (mQg hr)).l1
  have gH:(B++O.lst (n.map λx=>D.ref x.a)::Y)[B.length]?=some (.lst (n.map λx=>.ref x.a)):=xM
  have a0:(B++O.lst (n.map λx=>D.ref x.a)::Y).length=B.length+1+Y.length:=by simp;omega
  let N:=bl.add (G:=CU (B++O.lst (n.map λx=>D.ref x.a)::Y).length r) (!0) (K:=xP (jh (B++O.lst (n.map λx=>D.ref x.a)::Y).length) (nQ r)) (HC r) (Fm _).1 (λa ha=>by
   have:=(Fm (B++O.lst (n.map λx=>D.ref x.a)::Y).length).2 a ha
   rw[lQa (bs:=CU _ r)]
   show _/\_<_+4
   omega)
  show fN rfl (ay (aS (ay (aS (bu ?_)))))
  show c9 (fq (aw rfl #[_,_,rfl,gH,?_]))
  generalize hT:B++O.lst (n.map λx=>D.ref x.a)::Y=T at gH a0 bl N|-
  show aA (eR (eC (aA (eR (El (v:=0) (ts:=r.1) (bX (aw rfl (cE #[rfl,rfl]))) (!0) ?_)))))
  show aA (eR (eC (aA (eR (eC (aA (iz (cu #[1,rfl,aA (iz (cu #[1,rfl,aA (cu (aA (cu (aA (cu (aZ #[by show 5<=_;decide,aZ #[by show 1<=_;decide,aZ #[by show 2<=_;decide,aZ ?_]]]))))))]))]))))))))
  have eS:T++ [O.lst ((bS r.1).map D.int)]++ [O.lst [.int (-1),.int (-1),.int 0,.int 0,.int 0]]++ [O.lst [.ref (T++ [O.lst ((bS r.1).map D.int)]).length]]++ [O.lst [.ref T.length,.ref (T++ [O.lst ((bS r.1).map D.int)]++ [O.lst [.int (-1),.int (-1),.int 0,.int 0,.int 0]]).length]]=T++CU T.length r:=by
   simp[CU,cP,sj,yj]
  have eL:(T++ [O.lst ((bS r.1).map D.int)]++ [O.lst [.int (-1),.int (-1),.int 0,.int 0,.int 0]]++ [O.lst [.ref (T++ [O.lst ((bS r.1).map D.int)]).length]]).length=(jh T.length).a:=by
   simp[jh]
  rw[eS,eL]
  show#[_,aO gH,iW (by rw[lQm];omega) ?_]
  show#[#[_,_,_,_,_,_,rfl],n++ [jh T.length],Y++CU T.length r,?_,by simp[R],?_,?_]
  ·rw[<-hT,Qzq,Qvq,List.cons_append,FE]
   rfl
  ·have:=N.put (a:=B.length) (o:=.lst (n.map (λx=>D.ref x.a)++ [.ref (jh T.length).a])) (!0) (λp J=>by
    rcases mQa.mp J with h|h
    ·show mQa.mpr (.inl (F1 D9 p h))
    ·show mQa.mpr (.inr ((D9 (jh T.length,nQ r)).mem (Qkq.mpr #[p,h,rfl]))))
   rw[QYq,hr,Qzq]
   show Bl _ _ ((n++ [jh T.length]).flatMap CG) (((n++ [jh T.length]).zip ((w.af.take j).map nQ++ [nQ r])).flatMap _)
   rw[mU (by rw[lQm,Qxq];omega),List.flatMap_append,List.flatMap_append]
   simpa using this
  ·rw[QYq,hr,Qzq]
   show∀p∈(n++ [jh T.length]).zip ((w.af.take j).map nQ++ [nQ r]),_
   rw[mU (by rw[lQm,Qxq];omega)]
   intro p J
   rcases mQa.mp J with h|h
   ·show lf p h
   ·rw[Qfq.mp h]
    rfl
 rintro A S4 ⟨⟨a,b,c,d',e,f,rfl⟩,n,Y,hS4,R,C,lf⟩
 have R:n.length=(w.af.map fw).length:=R
 rw[lQm] at R
 have a6:w.af.take (w.af.map fw).length=w.af:=by rw[lQm,QEq]
 have C:Bl (B.length+1) S4 (n.flatMap CG) ((n.zip ((w.af.take (w.af.map fw).length).map nQ)).flatMap λp=>xP p.1 p.2):=C
 have lf:∀p∈n.zip ((w.af.take (w.af.map fw).length).map nQ),p.1.fs.length=p.2.2.length:=lf
 rw[a6] at C lf
 have gH:S4[B.length]?=some (.lst (n.map λx=>.ref x.a)):=by rw[hS4];show xM
 have a8:B.length+1<=S4.length:=by rw[hS4];simp
 show Mr (eC (aA (aw rfl (aA (eR (j3 (jD (bX (aV (aw rfl (cu (ax (d:=.tup (w.ai.map kZ)) rfl (cE ?_)))))))))))))
 show#[λj A L a1=>(∃a b,A= [a,b])/\∃(u:List Er) (G:aE),L=S4++G/\u.length=j/\a1=u.map (λx=>.ref x.a)/\Bl S4.length L (u.flatMap HE) ((u.zip ((w.ai.take j).map nV)).flatMap λp=>Hi p.1 p.2),#[#[_,_,rfl],[],[],by simp,rfl,rfl,by simpa using Bl.nil],λ_ _ _ _ _=>trivial,?_,?_]
 ·rintro j d A L a1 P ⟨⟨a,b,rfl⟩,u,G,rfl,Z,rfl,bl⟩
  have P:(w.ai.map kZ)[j]?=some d:=P
  rw[gQm] at P
  let#[p,J,rfl]:=oQm.mp P
  let hj:=(gQs.mp J).1
  generalize hT:S4++G=T at bl|-
  have a3:S4.length<=T.length:=by rw[<-hT];simp
  let N:=bl.add (G:= [O.lst [],O.lst [.int (p.2:Int),.ref T.length]]) (M:=HE #[T.length+1,T.length]) (K:=Hi #[T.length+1,T.length] (nV p)) a3 (λc hc=>by
   erw[Hi,nV,Qsq,QXq,or_false] at hc
   rcases hc with rfl|rfl
   ·show(T++ [O.lst [],O.lst [.int (p.2:Int),.ref T.length]])[T.length+1]?=_
    rw[QQq (!0),show T.length+1-T.length=1 by omega]
    rfl
   ·show(T++ [O.lst [],O.lst [.int (p.2:Int),.ref T.length]])[T.length]?=_
    rw[QQq (!0),show T.length-T.length=0 by omega]
    rfl) (by simp[HE]) (λa ha=>by
   erw[HE,Qsq,QXq,or_false] at ha
   rw[lQa]
   show _/\_<_+2
   omega)
  show fN rfl (ay (aS (ay (aS (bu (m8 ?_))))))
  rw[Qhq rfl]
  show eR (eC (aA (aw rfl (aA (eR (eC (aZ #[by decide,aZ #[by show 2<=_;decide,?_]])))))))
  show#[bj (by rw[lQm];omega),#[_,_,rfl],u++ [#[T.length+1,T.length]],G++ [O.lst [],O.lst [.int (p.2:Int),.ref T.length]],?_,by simp[Z],?_,?_]
  ·rw[<-Qvq,hT]
   simp
  ·simp
  ·rw[QYq,J,Qzq]
   show Bl _ _ ((u++ [(#[T.length+1,T.length]:Er)]).flatMap HE) (((u++ [(#[T.length+1,T.length]:Er)]).zip ((w.ai.take j).map nV++ [nV p])).flatMap _)
   rw[mU (by rw[lQm,Qxq];omega),List.flatMap_append,List.flatMap_append]
   simpa using N
 rintro A I a1 ⟨⟨a',b',rfl⟩,u,G,hS5,Z,rfl,F⟩
 have Z:u.length=(w.ai.map kZ).length:=Z
 rw[lQm] at Z
 have a5:w.ai.take (w.ai.map kZ).length=w.ai:=by rw[lQm,QEq]
 have F:Bl S4.length I (u.flatMap HE) ((u.zip ((w.ai.take (w.ai.map kZ).length).map nV)).flatMap λp=>Hi p.1 p.2):=F
 rw[a5] at F
 have a9:S4.length<=I.length:=by rw[hS5];simp
 show aA (eR (El (v:=0) (ts:=w.ak) (bX (aV (aw rfl (cu (ax (d:=.tup (w.ak.map kZ)) rfl (cE #[rfl,rfl])))))) (!0) ?_))
 show aA (aw rfl (aZ #[by show 4<=_;decide,?_]))
 have e6:(I++ [O.lst (u.map λx=>D.ref x.a)]).length=I.length+1:=by simp
 rw[e6]
 show q _ #[I.length+2,S.length,I.length,I.length+1,B.length,g,u,n] (by simp) ?_
 generalize hW:I++ [O.lst (u.map λx=>D.ref x.a)]++ [O.lst ((bS w.ak).map D.int)]++ [O.lst [.ref S.length,.ref I.length,.ref (I.length+1),.ref B.length]]=W
 have w5:∀{j:Nat} {o:O},I[j]?=some o->W[j]?=some o:=λz=>by rw[<-hW];show aO (aO (aO z))
 have w4:∀{j:Nat} {o:O},S4[j]?=some o->W[j]?=some o:=λz=>w5 (by rw[hS5];show aO z)
 have w2:∀{j:Nat} {o:O},B[j]?=some o->W[j]?=some o:=λz=>w4 (by rw[hS4];show aO z)
 have w0:∀{j:Nat} {o:O},S[j]?=some o->W[j]?=some o:=λz=>w2 (by rw[hS2];show aO z)
 have wl:W.length=I.length+3:=by rw[<-hW];simp
 have er:(cR w).aj=w.aj.map cC:=rfl
 have ep:(cR w).ai=w.ai.map nV:=rfl
 have eh:(cR w).af=w.af.map nQ:=rfl
 show#[#[λp J=>?_,?_,?_,by rw[er,lQm];show U,by rw[ep,lQm];show Z,by rw[eh,lQm];show R,lb,lf],#[by omega,λj hj=>?_],λ_ z=>z]
 ·rcases mO J with h|⟨c,hc,h⟩|⟨c,hc,h⟩|⟨c,hc,h⟩
  ·erw[Qsq,QXq,or_false] at h
   rcases h with rfl|rfl|rfl|rfl|rfl
   ·rw[<-hW]
    have:=aM (S:=I++ [O.lst (u.map λx=>D.ref x.a)]++ [O.lst ((bS w.ak).map D.int)]) (o:=O.lst [.ref S.length,.ref I.length,.ref (I.length+1),.ref B.length])
    simpa using this
   ·show w2 gA
   ·rw[<-hW]
    show aO (aO aM)
   ·rw[<-hW]
    have:=aM (S:=I++ [O.lst (u.map λx=>D.ref x.a)]) (o:=O.lst ((bS w.ak).map D.int))
    rw[e6] at this
    show aO this
   ·show w4 gH
  ·show w2 (H.ho p (QOq.mpr #[c,hc,h]))
  ·show w5 (F.ho p (QOq.mpr #[c,hc,h]))
  ·show w4 (C.ho p (QOq.mpr #[c,hc,h]))
 ·unfold y0
  rw[List.nodup_append,List.nodup_append,List.nodup_append]
  show#[?_,#[H.nd,#[F.nd,C.nd,λx hx y hy e=>?_],λx hx y hy e=>?_],λx hx y hy e=>?_]
  ·erw[List.nodup_cons,Qsq,QXq,or_false,not_or,not_false_eq_true,List.nodup_nil,and_true]
   omega
  ·have:=F.bd x hx
   have:=C.bd y hy
   omega
  ·have:=H.bd x hx
   rcases mQa.mp hy with h|h
   ·have:=F.bd y h
    omega
   ·have:=C.bd y h
    omega
  ·erw[Qsq,QXq,or_false] at hx
   rcases mQa.mp hy with h|h
   ·have:=H.bd y h
    omega
   ·rcases mQa.mp h with h|h
    ·have:=F.bd y h
     omega
    ·have:=C.bd y h
     omega
 ·intro a ha
  show¬a<S.length
  rcases mQa.mp ha with h|h
  ·erw[Qsq,QXq,or_false] at h
   omega
  ·rcases mQa.mp h with h|h
   ·have:=H.bd a h
    omega
   ·rcases mQa.mp h with h|h
    ·have:=F.bd a h
     omega
    ·have:=C.bd a h
     omega
 ·show(w0 (gQe hj)).trans (gQe hj).symm
end
section
variable{S S0:aE}{Q:Res->aE->Prop}
def Pl:Nat->D->Prop
 |0,_=>False
 |_+1,.int _=>True
 |_+1,.str _=>True
 |_+1,.non=>True
 |n+1,.tup ds=>ds.length<=1000/\∀d∈ds,Pl n d
 |_+1,_=>False
theorem Dh:∀ds:List D,Ck ds ds=ds.map λd=>D.tup [d,d]
 | []=>rfl
 | d::ds=>by
   have:=Dh ds
   erw[Ck,List.zipWith_cons_cons,QDq] at this|-
   rw[this]
theorem Ah:∀(n:Nat) (d:D) {S:aE} {Q:Res->aE->Prop},Pl n d->Q (.d (.bl true)) S->Fn (fZ n) [d,d] S Q
 |0,_,_,_,h,_=>h.elim
 | n+1,.int i,S,Q,_,q=>by
   show bZ ?_
   unfold hJ
   show aI (bK (cp (d:=.int i) (aw L #[L,L]) L ?_))
   show aG (λc=>by cases c) (λ_=>bT ?_)
   show aI (bK (F4 (cp (d:=.int i) (aw L #[L,L]) L ?_)))
   apply aG (λc=>by cases c) (λ_=>?_)
   show xI ?_
   show aG (λc=>by cases c) (λ_=>bT ?_)
   show fA (mT (xk (aw L #[_,L,true,L,?_])))
   rw[Qhq L]
   show mT (MR (xk (aw L #[_,L,false,L,true,L,?_])))
   rw[Qhq L]
   symm
   show eA ?_
   rw[Qeq L]
   show cQ (λk z=>(nomatch z)) L q
 | n+1,.str i,S,Q,_,q=>by
   show bZ ?_
   unfold hJ
   show aI (bK (cp (d:=.str i) (aw L #[L,L]) L ?_))
   show aG (λc=>by cases c) (λ_=>bT ?_)
   show aI (bK (F4 (cp (d:=.str i) (aw L #[L,L]) L ?_)))
   show aG (λ_=>?_) (λc=>by cases c)
   show aG (λ_=>?_) (λc=>by cases c)
   show fA (mT (aV (xk (aw L #[_,L,xk (aw L #[_,L,.bl true,L,true,L,?_])]))))
   rw[Qhq L]
   symm
   show gR ?_
   rw[Qeq L]
   show cQ (λk z=>(nomatch z)) L q
 | n+1,.non,S,Q,_,q=>by
   show bZ ?_
   unfold hJ
   show aI (bK (cp (d:=.non) (aw L #[L,L]) L ?_))
   show aG (λc=>by cases c) (λ_=>bT ?_)
   show aI (bK (F4 (cp (d:=.non) (aw L #[L,L]) L ?_)))
   apply aG (λc=>by cases c) (λ_=>?_)
   show xI ?_
   show aG (λ_=>?_) (λc=>by cases c)
   show fA (mT (aV (xk (aw L #[_,L,xk (aw L #[_,L,.bl true,L,true,L,?_])]))))
   rw[Qhq L]
   symm
   show#[.bl true,L,?_]
   show cQ (λk z=>(nomatch z)) L q
 | n+1,.tup ds,S,Q,h,q=>by
   show bZ ?_
   unfold hJ
   show aI (bK (cp (d:=.tup ds) (aw L #[L,L]) L ?_))
   show aG (λ_=>?_) (λc=>by cases c)
   show aI (bK (F4 (D2 (cp (d:=.tup ds) (aw L #[L,L]) L ?_))))
   apply aG (λc=>by cases c) (λ_=>?_)
   show nh ?_
   rw[Qeq L]
   show aG (λc=>by cases c) (λ_=>bT ?_)
   show fA (PK (oY ?_))
   apply lM (α:=D) (λe=>∃a b,e= [a,b]) (λd=>D.tup [d,d]) (λ_=>.bl true) (λ_=>true) #[none,none,L] (Jx ?_)
   show#[#[trivial,Qmq _],ds,Dh ds,#[trivial,trivial],h.1,λd g e f=>?_,?_]
   · let#[a,b,rfl]:=f
     show fN L (ay (aS (ay (aS (bu ?_)))))
     apply#[L,#[_,_,L],m8 #[L,L,λ_=>?_]]
     show Ah n d (h.2 d g) #[L,L]
   · show#[L,List.replicate ds.length true,?_,?_]
     · rw[<-Cz]
       congr 1
       rw[List.filter_eq_self.mpr (λ_ _=>rfl),List.map_const']
     · have:(List.replicate ds.length true).all id=true:=by simp
       rw[this]
       show cQ (λk z=>(nomatch z)) L q
end
abbrev AQ:=List (Nat×bq×Option Int)
noncomputable def dB(w:cT)(tr:AQ):bq:=match tr.getLast? with
 |none=>cR w
 |some x=>x.2.1
noncomputable def ud(x:Nat×bq×Option Int):List (Nat×Int):=match x.2.2 with
 |none=> []
 |some v=> [(x.1,v)]
noncomputable def Jm(tr:AQ):List (Nat×Int):=tr.flatMap ud
noncomputable def N4(p:Nat×Int):D:=.tup [.int p.1,.int p.2]
def rA(w:cT)(tr:AQ):Prop:=∀(n:Nat) (h:Nat) (a:bq) (e:Xb),tr[n]?=some (h,a,e)->Iq w (dB w (tr.take n))/\h∈mE w (dB w (tr.take n))/\xl w (dB w (tr.take n)) h a e
def yV{w:cT}{tr:AQ}{n:Nat}{x:Nat×bq×Option Int}(h:tr[n]?=some x):dB w (tr.take (n+1))=x.2.1:=by
 unfold dB
 rw[QYq,h]
 simp
def Df{w:cT}{tr:AQ}{x:Nat×bq×Option Int}:dB w (tr++ [x])=x.2.1:=by
 unfold dB
 simp
def rA.app{w:cT}{tr:AQ}{h:Nat}{d:bq}{e:Xb}(x:rA w tr)(k:Iq w (dB w tr))(i:h∈mE w (dB w tr))(m:xl w (dB w tr) h d e):rA w (tr++ [(h,d,e)]):=by
 intro n f g l a
 by_cases c:n<tr.length
 ·rw[QHq c] at a
  rw[List.take_append_of_le_length (!0)]
  show x n f g l a
 ·let j:=(gQs.mp a).1
  have b:n=tr.length:=by simp at j;omega
  subst b
  simp at a
  let#[rfl,rfl,rfl]:=a
  rw[List.take_append_of_le_length (!0),QEq]
  show#[k,i,m]
def FJ{tr:AQ}:(Jm tr).length<=tr.length:=by
 have:=nc (f:=ud) (n:=1) (l:=tr) λx _=>by unfold ud;split <;>simp
 unfold Jm
 omega
noncomputable def xv(w:cT)(tr:AQ):D:=.tup [(dB w tr).d,.tup ((Jm tr).map N4)]
section
variable{S S0:aE}{Q:Res->aE->Prop}
def Hs{w:cT}{tr:AQ}(o:eJ w)(ok:rA w tr)(F:tr.length<=900)(q:Q (.d (xv w tr)) S):Fn vy [w.d,.tup ((tr.map (·.1)).map fW)] S Q:=by
 show bZ ?_
 unfold AD
 symm
 apply BA o ?_
 show#[by decide,?_]
 apply aI (gF (KO ?_))
 show#[λn g p=>(∃a b c,g= [some w.d,some (.tup ((tr.map (·.1)).map fW)),some (dB w (tr.take n)).d,some (.ref S.length),a,b,c])/\p=S++ [.lst ((Jm (tr.take n)).map N4)],#[#[_,_,_,L],L],λ_ _ _ _=>trivial,?_,?_]
 ·rintro n d g p B ⟨⟨a,b,c,rfl⟩,rfl⟩
  let#[x,y,rfl]:=tM B
  rw[gQm,gQm] at y
  let#[G,l,rfl]:=oQm.mp y
  let#[#[h,i,e],f,rfl]:=oQm.mp l
  let#[t,r,u]:=ok n h i e f
  have A:dB w (tr.take (n+1))=i:=yV f
  have m:Jm (tr.take (n+1))=Jm (tr.take n)++ud (h,i,e):=oA f
  have C:(Jm (tr.take n)).length<=900:=by
   have:=FJ (tr:=tr.take n)
   rw[Qxq] at this
   omega
  generalize dB w (tr.take n)=s at t r u|-
  generalize Jm (tr.take n)=es at m C|-
  show fN L (ay (aS (ay (aS (bu ?_)))))
  apply aI (bK (cm (xV ?_)))
  show t _ _ ?_
  dsimp only[bg,aN,bf,bP,bV,fg]
  show#[_,_,L,by rw[ow];show d0 _,?_]
  rw[lI,Qeq (Qkq.mpr #[h,r,L])]
  apply aG (λc=>by cases c) (λ_=>bT ?_)
  show u _ _ ?_
  apply fN L (ay (aS (ay (aS (bu ?_)))))
  show xI ?_
  cases e with
  | none=>
    show aG (λc=>by cases c) (λ_=>bT ?_)
    show#[#[_,_,_,by rw[A];rfl],?_]
    rw[m]
    simp[ud]
  | some v=>
    show aG (λ_=>?_) (λc=>by cases c)
    apply c9 (fq ?_)
    apply#[_,_,L,aM,?_]
    show#[_,aM,#[_,by unfold eN;show Qhq (by rw[lQm];show bj (!0)),?_]]
    show#[#[_,_,_,by rw[A];rfl],?_]
    rw[m]
    simp[ud,N4,FV]
 ·rintro g p ⟨⟨a,b,c,rfl⟩,rfl⟩
  have j:(se 0 ((tr.map (·.1)).map fW)).length=tr.length:=by rw[sJ];simp
  rw[j,QEq]
  symm
  show a_ aM ?_
  apply#[L,?_]
  show#[by show 2<=_;decide,?_]
  show uU (d:=xv w tr) (sk.refl.app) (λk z=>(nomatch z)) ?_ q
  erw[xv,cA,cn,bq.low,Bool.and_true,Bool.true_and]
  show bo λ_ _=>rfl
end
section
variable{S:aE}{Q:Res->aE->Prop}
def oP{n:Nat}{l:List Int}(h:l.length<=1000):Pl (n+2) (dm l):=⟨by simpa using h,λd b=>by
 let#[a,_,rfl]:=Qkq.mp b
 show trivial⟩
def qC{α:Type}{n:Nat}{f:α->D}{l:List α}(h:l.length<=1000)(e:∀a∈l,Pl n (f a)):Pl (n+1) (.tup (l.map f)):=⟨by simpa using h,λd b=>by
 let#[a,c,rfl]:=Qkq.mp b
 show e a c⟩
def CY{w:cT}{n:Nat}{s:bq}(o:eJ w)(x:cM w n s)(L:n<=100):Pl 9 s.d:=by
 let z:=o.l1
 let I:=o.l2
 let A:=o.l3
 let J:=o.l4
 let N:=x.lr
 let C:=x.lp
 let B:=x.ls
 let K:=x.lh
 show#[by show 4<=1000;decide,λd a=>?_]
 erw[Qsq,QXq,or_false] at a
 rcases a with rfl|rfl|rfl|rfl
 ·show qC (n:=7) (!0) λr j=>?_
  let#[i,m,e]:=QbQ j
  have k:s.aj[i]?=some r:=by rw[gQe m,e]
  have g:w.aj[i]?=some (w.aj[i]'(!0)):=gQe (!0)
  let c:=x.rm i _ r g k
  let b:=o.rm _ (mQg g)
  let q:=b.l1
  let u:=b.l2
  let y:=c.lv
  let R:=c.lb
  let H:=c.br
  let P:=c.bl
  show#[by show 5<=1000;decide,λd a=>?_]
  erw[Qsq,QXq,or_false] at a
  rcases a with rfl|rfl|rfl|rfl|rfl
  ·show oP (!0)
  ·show trivial
  ·show oP (!0)
  ·show oP (!0)
  ·show qC (n:=5) (!0) λl v=>?_
   have:=c.bb l v
   show qC (n:=4) (!0) λp h=>?_
   show#[by show 2<=1000;decide,λd a=>?_]
   erw[Qsq,QXq,or_false] at a
   rcases a with rfl|rfl <;>show trivial
 ·show qC (n:=7) (!0) λp h=>?_
  have:=x.ps p h
  show#[by show 2<=1000;decide,λd a=>?_]
  erw[Qsq,QXq,or_false] at a
  rcases a with rfl|rfl
  ·show trivial
  ·show oP (!0)
 ·show oP (!0)
 ·show qC (n:=7) (!0) λp h=>?_
  let#[i,m,e]:=QbQ h
  have k:s.af[i]?=some (p.1,p.2):=by rw[gQe m,e]
  let#[M,F,g,t]:=x.whand k
  let q:=(o.hd _ (mQg g)).l1
  let u:=t.lv
  let y:=t.lf
  show#[by show 2<=1000;decide,λd a=>?_]
  erw[Qsq,QXq,or_false] at a
  rcases a with rfl|rfl
  ·show oP (by dsimp only at q;omega)
  ·show qC (n:=5) (!0) λf G=>?_
   show#[by show 5<=1000;decide,λd a=>?_]
   erw[Qsq,QXq,or_false] at a
   rcases a with rfl|rfl|rfl|rfl|rfl <;>show trivial
def Ll{w:cT}{n:Nat}{tr:AQ}(o:eJ w)(x:cM w n (dB w tr))(b:n<=100)(e:tr.length<=900):Pl 10 (xv w tr):=by
 show#[by show 2<=1000;decide,λd a=>?_]
 erw[Qsq,QXq,or_false] at a
 rcases a with rfl|rfl
 ·show CY o x b
 ·show qC (n:=8) (by have:=FJ (tr:=tr);omega) λp c=>?_
  show#[by show 2<=1000;decide,λd a=>?_]
  erw[Qsq,QXq,or_false] at a
  rcases a with rfl|rfl <;>show trivial
end
theorem Bv:∀l:List Int,FC (l.map V.int) (l.map V.int)=true
 | []=>rfl
 | a::l=>by
   have:=Bv l
   simp[FC,uY,this]
def PH{c:cG}{S:aE}{a:Bool}{f g:e_}{Q:D->aE->Prop}(h:E f c S λp d=>E g c d λr S2=>(p.2.isL=true/\r.2.isL=true/\p.2.stays S2 p.1)/\∃b vs,kF p.1=some b/\kF r.1=some vs/\Q (.bl (if a then !FC b vs else FC b vs)) S2):E (eqQ a f g) c S Q:=by
 let#[p,d,k,r,S2,j,l,b,vs,i,e,q]:=h
 show#[_,S2,by unfold eqQ;rw[k];erw[Qbq];rw[j];erw[Qbq];rw[Qhq l,i,e];rfl,q]
def OY{b:cG}{S:aE}{f:e_}{lo hi:K_}{Q:List D->aE->Prop}(h:E f b S λp d=>E lo b d λl S2=>E hi b S2 λu a=>(p.2.isL=true/\p.2.stays a p.1)/\Q (jF p.1 l u) a):E (P3 f lo hi) b S Q:=by
 let#[p,d,e,l,S2,i,u,a,g,c,q]:=h
 show#[_,a,by unfold P3;rw[e];erw[Qbq];rw[i];erw[Qbq];rw[g];erw[Qbq];rw[Qhq c],q]
section
variable{S S0:aE}{Q:Res->aE->Prop}
def Pi{w:cT}{n h:Nat}{s:bq}{e:Xb}(o:eJ w)(x:cM w n s)(b:n<=100):Pl 10 (Ls s h e):=by
 show#[by show 2<=1000;decide,λd a=>?_]
 erw[Qsq,QXq,or_false] at a
 rcases a with rfl|rfl
 ·show CY o x b
 ·cases e with
  |none=>show trivial
  | some v=>
    show#[by show 2<=1000;decide,λd a=>?_]
    erw[Qsq,QXq,or_false] at a
    rcases a with rfl|rfl <;>show trivial
def IM{w:cT}:Nn (cR w):=λr d=>by
 let#[q,_,rfl]:=Qkq.mp d
 show⟨by show -1<=(-1:Int);decide,λ_ h=>(nomatch h),λ_ h=>(nomatch h),λl c p a=>by
  let#[b,_,rfl]:=Qkq.mp c
  show(nomatch a)⟩
def Go.re{lo:Nat->Prop}{k:Nat}{S0 S a:aE}{t:xQ}{s:bq}(g:Go lo S0 S t s)(c:lo k)(x:Ex k S a):Go lo a a t s:=
 #[#[λp b=>x.keep p.1 p.2 (λe=>g.n.lo p.1 ((tK t s).mem (Qkq.mpr #[p,b,L])) (by rw[e];show c)) (g.n.ho p b),g.n.nd,g.n.lo,g.n.lr,g.n.lp,g.n.lh,g.n.lb,g.n.lf],x_.refl,λj d=>by have:=g.k.len;have:=g.l j d;have:=x.len;omega]
def Go.put0{lo:Nat->Prop}{j:Nat}{o:O}{S0 S:aE}{t:xQ}{s:bq}(g:Go lo S0 S t s)(a:lo j):Go lo (S.set j o) (S.set j o) t s:=
 #[g.n.low a,x_.refl,λi b=>by have:=g.k.len;have:=g.l i b;rw[List.length_set];omega]
def Go.lift{lo b:Nat->Prop}{S0 S:aE}{t:xQ}{s:bq}{G:aE}(g:Go lo S0 S t s)(f:∀j,b j->lo j\/S.length<=j)(e:∀j,b j->j<(S++G).length):Go b (S++G) (S++G) t s:=
 #[#[(g.n.app (G:=G)).ho,g.n.nd,λa d z=>(f a z).elim (g.n.lo a d) (λc=>by have:=g.all_lt a d;omega),g.n.lr,g.n.lp,g.n.lh,g.n.lb,g.n.lf],x_.refl,e]
def Ex.kept{lo:Nat->Prop}{k:Nat}{S e S2:aE}(x:Ex k S e)(f:k<S.length)(d:∀j,j<S.length->lo j)(y:x_ lo e S2):Ex k S S2:=by
 let#[a,b,c,h]:=x.pot
 show#[QAq x.len y.len,λj o n h=>by rw[y.eq j (d j (gQs.mp h).1)];show x.keep j o n h,a,b,c,by rw[y.eq k (d k f)];show h]
noncomputable def xR(w:cT)(tr:AQ):List D:=(cR w).d::tr.map λx=>x.2.1.d
noncomputable def mF(tr:AQ):List D:=tr.map λx=>FV x.1 x.2.2
def CC{w:cT}{tr:AQ}:(xR w tr).getLast? =some (dB w tr).d:=by
 unfold xR dB
 rw[List.getLast?_cons,QfQ]
 cases tr.getLast? <;>rfl
def M6{w:cT}{tr:AQ}{n:Nat}(h:n<=tr.length):(xR w tr)[n]?=some (dB w (tr.take n)).d:=by
 cases n with
 |zero=>rfl
 | succ n=>
   have a:tr[n]?=some (tr[n]'(!0)):=gQe (!0)
   rw[yV a]
   unfold xR
   rw[List.getElem?_cons_succ,gQm,a]
   rfl
def Lz{w:cT}{n:Nat}{tr:AQ}{x:Nat×bq×Option Int}(h:∀i,cM w n (dB w (tr.take i)))(a:cM w n x.2.1):∀i,cM w n (dB w ((tr++ [x]).take i)):=λi=>by
 by_cases c:i<=tr.length
 ·rw[List.take_append_of_le_length c]
  show h i
 ·rw[List.take_of_length_le (by simp;omega),Df]
  show a
def JD{w:cT}{k m:Nat}(o:eJ w)(x:Ex k S0 S)(hm:m<=60)(q:∀v (tr:AQ) a b,Ex k S0 v->rA w tr->tr.length<=60->(∀n,cM w 61 (dB w (tr.take n)))->v[a]?=some (.lst (xR w tr))->v[b]?=some (.lst (mF tr))->Q (.d (.tup [.tup ((tr.map (·.1)).map fW),.ref a,.ref b])) v):Fn jI [.ref k,w.d,.int m] S Q:=by
 have y:Ex k S S:=by let#[a,b,c,P]:=x.pot;show Ex.refl P
 let Z:=x.lt
 show vf ?_
 unfold m_
 show aI (cU (eR (Gj (aA (aw rfl (aZ (Kd o λS1 t ht g=>?_)))))))
 show Q1 ?_
 rw[<-ht]
 let K:=y.kept Z (λ_ h=>h) g.k
 symm
 apply BA o ?_
 show#[by show 1<=_;decide,?_]
 symm
 first|show aI (Io ?_)|show Io ?_
 symm
 apply#[by decide,?_]
 apply#[by decide,?_]
 apply#[_,_,rfl,?_]
 apply iz ?_
 show#[1,rfl,?_]
 generalize S1++ [O.lst [.ref t.r,.ref t.p,.ref t.s,.ref t.h]]=T at g K|-
 let tl:=g.k.len
 rw[show(T++ [O.lst [(cR w).d]]++ [O.lst []])=T++ [O.lst (xR w []),O.lst (mF [])] by simp[xR,mF],show(T++ [O.lst [(cR w).d]]).length=T.length+1 by simp]
 let lo:Nat->Prop:=λj=>j<S.length\/j=T.length\/j=T.length+1
 have g1:Go lo (T++ [O.lst (xR w []),O.lst []]) (T++ [O.lst (xR w []),O.lst []]) t (cR w):=g.lift (λj hj=>hj.elim .inl (λc=>.inr (!0))) (λj hj=>by
  rw[lQa]
  rcases hj with c|c|c <;>simp <;>omega)
 have lk:lo k:=.inl Z
 have la:lo T.length:=.inr (.inl rfl)
 have lb:lo (T.length+1):=.inr (.inr rfl)
 have J:(T++ [O.lst (xR w []),O.lst (mF [])])[T.length]?=some (.lst (xR w [])):=xM
 have M:(T++ [O.lst (xR w []),O.lst (mF [])])[T.length+1]?=some (.lst (mF [])):=by rw[QQq (!0)];simp
 show aI (gF (IB (aw rfl #[m,rfl,by omega,?_])))
 show⟨λj R v=>∃(tr:AQ) (A:Int) (b8 b9 U:Option D) (Y:xQ) (S0:aE),R= [some (.ref k),some w.d,some (.int m),some (.ref t.k),some (.ref T.length),some (.tup ((tr.map (·.1)).map fW)),some (.ref (T.length+1)),some (.int A),b8,b9,U]/\Y.k=t.k/\Go lo S0 v Y (dB w tr)/\Nn (dB w tr)/\rA w tr/\tr.length<=j/\(∀i,cM w (1+j) (dB w (tr.take i)))/\Ex k S v/\v[T.length]?=some (.lst (xR w tr))/\v[T.length+1]?=some (.lst (mF tr)),
  #[[],-1,_,_,_,t,_,rfl,rfl,g1,IM,λn h s' e z=>by simp at z,Qmq _,λi=>by rw[List.take_nil];show Hd o,K.app,J,M],λ_ _ _ _=>trivial,?_,?_⟩
 ·rintro j d R v hd ⟨tr,A,b8,b9,U,Y,a1,rfl,htk,g,nn,htr,hlen,hinvs,K,J,M⟩
  let#[rfl,hj]:=xN (j:=m) hd
  have u:cM w (1+j) (dB w tr):=by have:=hinvs tr.length;rwa [QEq] at this
  have sl:(xR w tr).length=tr.length+1:=by simp[xR]
  have el:(mF tr).length=tr.length:=by simp[mF]
  show aS ?_
  let L:=u.mays o (!0)
  have b1:k<v.length:=K.lt
  show aI (cU (eR (Gj (aA (aw rfl (aA (aw rfl (aZ ?_))))))))
  rw[<-htk]
  show Li g o u (!0) ?_
  have gd:(v++ [O.lst ((mE w (dB w tr)).map fW)])[v.length]?=some (.lst ((mE w (dB w tr)).map fW)):=aM
  apply aI (bK (cm (PH ?_)))
  apply iz ?_
  show⟨1,rfl,?_⟩
  apply bC (aO J) (mS CC) ?_
  apply L _ _ ?_
  show a_ aM ?_
  show⟨⟨rfl,rfl,trivial⟩,_,_,by rw[ow];show d0 _,by rw[ow];show d0 _,?_⟩
  rw[Bv]
  apply aG (λc=>by cases c) (λ_=>bT ?_)
  apply a_ aM ?_
  apply⟨⟨rfl,aM⟩,?_⟩
  by_cases N:mE w (dB w tr)= []
  ·rw[N]
   show aG (λc=>by cases c) (λ_=>bT ?_)
   show⟨tr,A,_,_,_,Y,a1,rfl,rfl,g.app,nn,htr,by omega,λi=>(hinvs i).mono (!0),K.app,aO J,aO M⟩
  ·have a0:0<(mE w (dB w tr)).length:=List.length_pos_iff.mpr N
   have a4:(!((mE w (dB w tr)).map fW).isEmpty)=true:=by
    cases hc:mE w (dB w tr) with
    |nil=>show absurd hc N
    |cons a l=>rfl
   rw[a4,Qhq rfl]
   have a9:(mE w (dB w tr)).length<=4:=by
    let h1:=List.length_filter_le (λh:Nat=> !decide ((h:Int)∈held (dB w tr))&& !jC w (dB w tr) h) (List.range (dB w tr).af.length)
    let h2:=u.lh
    let h3:=o.l4
    rw[QVq] at h1
    unfold mE
    omega
   symm
   show KQ (S0:=S) K.app (!0) aM a0 (!0) λh S3 P e1 e2 _=>?_
   let g3:=(g.app (G:= [O.lst ((mE w (dB w tr)).map fW)])).re lk e2
   have al:T.length<v.length:=(gQs.mp J).1
   have bl:T.length+1<v.length:=(gQs.mp M).1
   have a7:S3[T.length]?=some (.lst (xR w tr)):=e2.keep _ _ (!0) (aO J)
   have a6:S3[T.length+1]?=some (.lst (mF tr)):=e2.keep _ _ (!0) (aO M)
   have a5:h<(dB w tr).af.length:=List.mem_range.mp (List.mem_filter.mp P).1
   obtain⟨⟨vs,fs⟩,hs⟩:∃p,(dB w tr).af[h]?=some p:=#[_,gQe a5]
   let#[ts,pr,hw,hi]:=u.whand hs
   let#[f,hf,fi]:=hi.last
   let#[F,B]:=KH o u (!0) P hs hf
   show aI (cU (cc (aA (aw rfl (aA (aw rfl (aA (aw rfl (aZ ?_)))))))))
   show Jh g3 nn o u (!0) P λX t4 I W=>?_
   have H:X[T.length]?=some (.lst (xR w tr)):=by rw[W.k.eq _ la];show a7
   have a2:X[T.length+1]?=some (.lst (mF tr)):=by rw[W.k.eq _ lb];show a6
   let y4:=e1.kept Z (λ_ h=>.inl h) W.k
   let C:=htr.app L P F
   have k1:dB w (tr++ [(h,(dS w (dB w tr) h).1,(dS w (dB w tr) h).2)])=(dS w (dB w tr) h).1:=Df
   have k2:D.tup (((tr++ [(h,(dS w (dB w tr) h).1,(dS w (dB w tr) h).2)]).map (·.1)).map fW)=.tup (((tr.map (·.1)).map fW)++ [.int h]):=by simp[fW]
   let a3:=nn.step (w:=w) (h:=h)
   generalize (dS w (dB w tr) h).1=s2 at F B W C k1 k2 a3|-
   generalize (dS w (dB w tr) h).2=ev at F C k1 k2|-
   symm
   apply iz ?_
   show#[1,rfl,?_]
   apply bC H (mS CC) ?_
   show Ed L P F ?_
   show aA (uC (aA (cc (aA (aw rfl (aZ ?_))))))
   rw[<-I]
   apply y9 W o B (!0) ?_
   show#[by show 2<=_;decide,?_]
   symm
   show Ah 10 (Ls s2 h ev) (Pi o B (!0)) ?_
   show sm ?_
   show aG (λc=>by cases c) (λ_=>bT ?_)
   apply aI (c9 (fq ?_))
   show#[_,_,rfl,H,?_]
   show aA (cc (aA (aw rfl (aZ ?_))))
   rw[<-I]
   apply y9 W o B (!0) ?_
   show#[_,H,#[_,by unfold eN;show Qhq (bj (!0)),?_]]
   dsimp only[bg,aN,bf,bP,bV,fg]
   have a8:T.length<X.length:=(gQs.mp H).1
   have b0:T.length+1<X.length:=(gQs.mp a2).1
   have e5:(X.set T.length (O.lst (xR w tr++ [s2.d])))[T.length+1]?=some (.lst (mF tr)):=by rw[QKq (!0)];show a2
   symm
   show#[by show 1<=_;decide,?_]
   show eI (by erw[lQm,Qnq,QGq];show wK (!0)) ?_
   apply c9 (fq ?_)
   apply#[_,_,rfl,e5,?_]
   show#[_,e5,#[_,by unfold eN;show Qhq (bj (!0)),?_]]
   have k4:xR w (tr++ [(h,s2,ev)])=xR w tr++ [s2.d]:=by simp[xR]
   have k5:mF (tr++ [(h,s2,ev)])=mF tr++ [FV h ev]:=by simp[mF]
   rw[I]
   show#[tr++ [(h,s2,ev)],h,some (.int j),some (.ref v.length),some (FV h ev),t4,(X.set T.length (O.lst (xR w tr++ [s2.d]))).set (T.length+1) (O.lst (mF tr++ [FV h ev])),?_,I,by rw[k1];show(W.put0 la).put0 lb,?_,C,by simp;omega,Lz (λi=>(hinvs i).mono (!0)) (B.mono (!0)),?_,?_,?_]
   ·rw[k2];rfl
   ·rw[k1];show a3
   ·show(y4.put (!0) Z).put (!0) Z
   ·rw[QKq (!0),Qyq (!0),k4]
   ·rw[Qyq (by rw[List.length_set];omega),k5]
 ·rintro R v ⟨tr,A,b8,b9,U,Y,a1,rfl,htk,g,nn,htr,hlen,hinvs,K,J,M⟩
  have hl:(jG 0 (m:Int)).length=m:=by simp[jG]
  symm
  show#[by show 3<=_;decide,?_]
  dsimp only at hlen hinvs
  rw[hl] at hlen hinvs
  show q _ tr _ _ (x.trans K) htr (!0) (λn=>(hinvs n).mono (!0)) J M
end
theorem xg:∀tr:AQ,(tr.filter λx=>x.2.2.isSome).map (λx=>FV x.1 x.2.2)=(Jm tr).map N4
 | []=>rfl
 | (h,s,none)::tr=>by
   have:=xg tr
   simpa [Jm,ud] using this
 | (h,s,some v)::tr=>by
   have:=xg tr
   simpa [Jm,ud,N4,FV] using this
def rA.take{w:cT}{tr:AQ}(x:rA w tr)(c:Nat):rA w (tr.take c):=λn h b e a=>by
 let d:=(gQs.mp a).1
 rw[Qxq] at d
 rw[List.getElem?_take_of_lt (!0)] at a
 rw[List.take_take,Nat.min_eq_left (!0)]
 show x n h b e a
def Jn:∀ns:List Int,ns.length<=63->∃p,LN [.ref 0] [.frz (ns.map D.int)]=some (.d (.bl true),p):=by
 intro ns Z
 suffices h:Fn LN [.ref 0] [.frz (ns.map D.int)] λr _=>r=.d (.bl true) by
  let#[r,p,e,rfl]:=h
  show⟨p,e⟩
 show bZ ?_
 unfold NN
 show aI (gF ?_)
 apply IB ?_
 apply IS rfl ?_
 apply BV ?_
 show Jc ?_
 obtain⟨m,hm,Y⟩:∃m:Nat,(if (if (5:Int)<((ns.map D.int).length:Nat) then(5:Int) else((ns.map D.int).length:Nat))>(1:Int) then(if (5:Int)<((ns.map D.int).length:Nat) then(5:Int) else((ns.map D.int).length:Nat)) else 1)=(m:Int)/\m<=5:=by
  show#[(if (if (5:Int)<((ns.map D.int).length:Nat) then(5:Int) else((ns.map D.int).length:Nat))>(1:Int) then(if (5:Int)<((ns.map D.int).length:Nat) then(5:Int) else((ns.map D.int).length:Nat)) else 1).toNat,?_,?_] <;>(repeat' split) <;>omega
 show#[m,congrArg D.int hm,by omega,?_]
 show#[λn f p=>(∃L M F H G K C s t,f= [some (.ref 0),L,M,F,H,G,K,C,s,t])/\p[0]?=some (.frz (ns.map D.int)),#[#[_,_,_,_,_,_,_,_,_,rfl],rfl],λ_ _ _ _=>trivial,?_,?_]
 ·rintro n d f S g ⟨⟨L,M,F,H,G,K,C,s,t,rfl⟩,hS⟩
  let#[rfl,_]:=xN g
  apply aS ?_
  apply Mh hS λB A=>?_
  have q:Ex S.length (S++ [sh B A 0]) (S++ [sh B A 0]):=Ex.refl aM
  have v:(S++ [sh B A 0])[0]?=some (.frz (ns.map D.int)):=aO hS
  have N:0≠S.length:=by
   have:=(gQs.mp hS).1
   omega
  show Fn fh [.ref S.length] (S++ [sh B A 0]) _
  generalize S.length=kp at q N|-
  generalize S++ [sh B A 0]=S1 at q v|-
  apply Bq q λw S2 ok x2 _ _=>?_
  apply JD (m:=50) ok x2 (!1) λS3 i a b X J R u U P=>?_
  show xI ?_
  apply aG (λc=>by cases c) (λ_=>bT ?_)
  show fN rfl (ay (aS (ay (aS (ay (aS (bu ?_)))))))
  have W:(((i.map (·.1)).map fW).length:Int)=(i.length:Int):=by simp
  apply gF (jD (bX ?_))
  apply DN ⟨by decide,by decide⟩ ?_
  show⟨by show 2<=_;decide,?_⟩
  symm
  show⟨λ_ f p=>(∃s t,f= [some (.ref 0),some (.int n),some (.ref kp),some w.d,some (.tup [.tup ((i.map (·.1)).map fW),.ref a,.ref b]),some (.tup ((i.map (·.1)).map fW)),some (.ref a),some (.ref b),s,t])/\p=S3,⟨⟨_,_,rfl⟩,rfl⟩,λ_ _ _ _=>trivial,?_,?_⟩
  ·rintro j d f p g ⟨⟨s,t,rfl⟩,rfl⟩
   obtain⟨c,rfl,hc⟩:∃c:Nat,d=.int c/\c<=i.length:=by
    have g:([.int ((((i.map (·.1)).map fW).length:Int)/2),.int (((i.map (·.1)).map fW).length:Int)]:List D)[j]?=some d:=g
    rw[W] at g
    match j,g with
    |0,g=>show#[i.length/2,by simp at g;rw[<-g];congr 1,by omega]
    |1,g=>show#[i.length,by simpa using g.symm,by omega]
    |j+2,g=>simp at g
   show aS ?_
   show aI (cU (qE (oY ?_)))
   show lM (λf=>∃a,f= [a]) (λx:Nat×bq×Option Int=>FV x.1 x.2.2) (λx=>FV x.1 x.2.2) (λx=>x.2.2.isSome) #[none,rfl] ?_
   apply jD (oY (OY ?_))
   show a_ P ?_
   apply cW (cV ?_)
   show#[_,rfl,#[rfl,P],?_]
   rw[Ay (by simpa [mF] using hc)]
   show#[i.take c,by simp[mF,List.map_take],trivial,by rw[Qxq];omega,λy _ f I=>?_,?_]
   ·let#[a,rfl]:=I
    apply aS #[rfl,#[_,rfl],?_]
    show xI ?_
    show#[rfl,?_,λ_=>?_]
    ·cases y.2.2 <;>rfl
    ·symm
     show#[rfl,rfl]
   rw[xg]
   symm
   apply kJ ?_
   apply cW (cV ?_)
   show#[_,rfl,_,rfl,?_]
   rw[Ay (by simpa using hc),<-List.map_take,<-List.map_take]
   symm
   show Hs ok (J.take c) (by rw[Qxq];omega) ?_
   symm
   apply bC U (d:=(dB w (i.take c)).d) (aU (M6 hc)) ?_
   show#[by show 2<=_;decide,?_]
   symm
   show Ah 10 (xv w (i.take c)) (Ll ok (u c) (!1) (by rw[Qxq];omega)) ?_
   show sm ?_
   show aG (λc=>by cases c) (λ_=>bT ?_)
   show#[#[_,_,rfl],rfl]
  ·rintro f p ⟨⟨s,t,rfl⟩,rfl⟩
   show#[#[_,_,_,_,_,_,_,_,_,rfl],X.keep 0 _ N v]
 ·rintro f p ⟨⟨L,M,F,H,G,K,C,s,t,rfl⟩,hS⟩
  symm
  let hl:=(gQs.mp hS).1
  show jc (S2:= [.frz (ns.map D.int)]) #[by show 1<=p.length;omega,λk o Q e=>?_] ?_ (λk z=>(nomatch z)) rfl rfl
  ·have Q:k<1:=Q
   have:k=0:=by omega
   subst this
   rw[hS] at e
   show .inl e
  ·cases p with
   |nil=>simp at hl
   | cons a l=>
     simp at hS
     subst hS
     rfl
end W28
open PySem PySem.W PyProof.Rows L2 DL
theorem PySem.Challenge.cw_calledroom_k29_whole_any_weaving_holds : PySem.Challenge.rw_calledroom_k29_whole_any_weaving.Holds := by
  w_on; o_law; k_head; (case hw => w_witness2)
  k_fill
  show DL.xv (l := PySem.Challenge.rw_calledroom_k29_whole_any_weaving) (k := 15) rfl rfl #[rfl, by decide, by decide] (λw h Y => PySem.W.kIn_of Y) (λw => ?nl) ?F
  case nl => rfl
  case F =>
    intro w mg fa h KX G hmg
    refine' W28.all_mk KX G hmg ?_ ?_ ?_ ?_ ?_ ?_ ?_ ?_ ?_ ?_ ?_ ?_ ?_ ?_ ?_ ?_ ?_ ?_ ?_ ?_ ?_ ?_ ?_ ?_ ?_ ?_ ?_ ?_ ?_ ?_ ?_ ?_ ?_ ?_ ?_ ?_ ?_ ?_ ?_ ?_ ?_ ?_ ?_ ?_ ?_ ?_ ?_ ?_ ?_ ?_ ?_ ?_ ?_ ?_ ?_ ?_ ?_ ?_ ?_ ?_ ?_ ?_ ?_ ?_ ?_ ?_ ?_ ?_ ?_ ?_ ?_ ?_ ?_ ?_ ?_ ?_ ?_ ?_ ?_ ?_ ?_ ?_ ?_ ?_ ?_ ?_ ?_ ?_ ?_ ?_ ?_ ?_ ?_ ?_ ?_ ?_ ?_ ?_ ?_ ?_ ?_ ?_ ?_ ?_ ?_ ?_ W28.Jn
    any_goals first | show DL.aY.of (by k_is) (by k_is) (by k_is) (by k_is) | k_is
