import PyProof.Rows.All
import Wide.FinOn
import KE.KEqDict
import KE.KSortTup
import KE.KUnpack
import KE.KItemsList
import KE.KDictOf
import KE.KFromBytes
import KE.KIsAll
import PySem.Challenge.RW_calledroom_k20_own_rows
set_option Elab.async false
set_option linter.all false
set_option maxRecDepth 100000
set_option maxHeartbeats 8000000
namespace PySem.W.Fast
def tw3181996680026282791:True:=⟨⟩
def tw16174281717870960264:True:=⟨⟩
def tw10468187081234324610:True:=⟨⟩
def tw13788672266436383160:True:=⟨⟩
def tw11715364081555022502:True:=⟨⟩
def tw17194945445835963629:True:=⟨⟩
def tw18444917689897889111:True:=⟨⟩
def tw7055377272522270995:True:=⟨⟩
def tw3219757174166530862:True:=⟨⟩
def tw1775541002221222877:True:=⟨⟩
def tw17520967430874821808:True:=⟨⟩
def tw5490410007385313602:True:=⟨⟩
def tw3142726837486716818:True:=⟨⟩
def tw10410627627218560181:True:=⟨⟩
def tw13599842833457544525:True:=⟨⟩
def tw10244691120061264414:True:=⟨⟩
def tw14542176732084911327:True:=⟨⟩
def tw1231502940816184059:True:=⟨⟩
def tw8151973318881795118:True:=⟨⟩
def tw17694936091197701425:True:=⟨⟩
def tw14118509665767774031:True:=⟨⟩
def tw5890109565109301009:True:=⟨⟩
def tw1589542174134884439:True:=⟨⟩
def tw15235420843841308118:True:=⟨⟩
def tw12087145961635809628:True:=⟨⟩
def tw6142265611972956359:True:=⟨⟩
def tw5391950211684210611:True:=⟨⟩
def tw1510588047027346632:True:=⟨⟩
def tw10310600823734904767:True:=⟨⟩
def tw15130978142767332167:True:=⟨⟩
def tw13006009814359953932:True:=⟨⟩
def tw15676449509580867282:True:=⟨⟩
def tw3253198243941751354:True:=⟨⟩
def tw15059230948388234341:True:=⟨⟩
def tw9613288052013969173:True:=⟨⟩
def tw17151864212989093160:True:=⟨⟩
def tw5131148111455627166:True:=⟨⟩
def tw9319744450935213370:True:=⟨⟩
def tw3583613163877326451:True:=⟨⟩
def tw7798557277268135833:True:=⟨⟩
def tw13238788979995463934:True:=⟨⟩
def tw6412703615915141459:True:=⟨⟩
def tw7494527905589487138:True:=⟨⟩
def tw2600552884633508492:True:=⟨⟩
def tw5779606682840977717:True:=⟨⟩
def tw14127403703438283889:True:=⟨⟩
def tw10672300061388898981:True:=⟨⟩
def tw7102517317137572040:True:=⟨⟩
def tw4932041634464509365:True:=⟨⟩
def tw11803816642475847071:True:=⟨⟩
def tw16741950367292525072:True:=⟨⟩
def tw15872579970953847387:True:=⟨⟩
def tw8917752953331575769:True:=⟨⟩
def tw14440224066582330066:True:=⟨⟩
def tw9465590156982358730:True:=⟨⟩
def tw16476952483163171975:True:=⟨⟩
def tw9828828774726869753:True:=⟨⟩
def tw7763272819725908633:True:=⟨⟩
def tw11398929682084787732:True:=⟨⟩
def tw10205203743722077770:True:=⟨⟩
def tw18170396908825508913:True:=⟨⟩
def tw15833622412442307877:True:=⟨⟩
def tw3043452924112473010:True:=⟨⟩
def tw17617371601802065612:True:=⟨⟩
def tw9376865880793064948:True:=⟨⟩
def tw9090787778318480467:True:=⟨⟩
def tw6800475552173597936:True:=⟨⟩
def tw5462830136292609751:True:=⟨⟩
def tw393918924303700650:True:=⟨⟩
def tw5731666080352188492:True:=⟨⟩
def tw7036125716460488859:True:=⟨⟩
def tw15970474188604993154:True:=⟨⟩
def tw1871828673358708474:True:=⟨⟩
def tw12515104974176029516:True:=⟨⟩
def tw4036872103292387179:True:=⟨⟩
def tw16177147266940661071:True:=⟨⟩
def tw13551259103116333835:True:=⟨⟩
def tw15060271548744360524:True:=⟨⟩
def tw1179122753933164300:True:=⟨⟩
def tw4307842152255193330:True:=⟨⟩
def tw14418431603061275865:True:=⟨⟩
def tw4266876023131890108:True:=⟨⟩
def tw284243453374573773:True:=⟨⟩
def tw2494958558311014630:True:=⟨⟩
def tw10054324170755282660:True:=⟨⟩
def tw13154451584326932827:True:=⟨⟩
def tw17555968952759784230:True:=⟨⟩
def tw12998446512276272949:True:=⟨⟩
def tw11306265176716050546:True:=⟨⟩
def tw1894094485637341970:True:=⟨⟩
def tw6331024559468392625:True:=⟨⟩
def tw8646169422853091692:True:=⟨⟩
def tw12079875936676669801:True:=⟨⟩
def tw16298945878659679725:True:=⟨⟩
def tw3386765252826792617:True:=⟨⟩
def tw6551103966713298297:True:=⟨⟩
def tw15895430769059183939:True:=⟨⟩
def tw11779637021111518598:True:=⟨⟩
def tw18144090069583704970:True:=⟨⟩
def tw12569070811091784117:True:=⟨⟩
def tw10598553582267187595:True:=⟨⟩
def tw5808548771962403921:True:=⟨⟩
def tw14673134315636107297:True:=⟨⟩
def tw2712134664087591649:True:=⟨⟩
def tw5739361523084980535:True:=⟨⟩
def tw7262062702955114515:True:=⟨⟩
def tw7588909113698462021:True:=⟨⟩
def tw6568107406304880971:True:=⟨⟩
def tw11563190124442158661:True:=⟨⟩
def tw7865817157684153732:True:=⟨⟩
def tw8117429635483613765:True:=⟨⟩
def tw18396354792218065026:True:=⟨⟩
def tw388936749483656466:True:=⟨⟩
def tw17969271937040747276:True:=⟨⟩
def tw15487446112486854936:True:=⟨⟩
def tw3072090553727545486:True:=⟨⟩
def tw1950028186285320410:True:=⟨⟩
def tw6506646571698263664:True:=⟨⟩
def tw11012659738973217959:True:=⟨⟩
def tw17789553792826317795:True:=⟨⟩
def tw16604831600024164007:True:=⟨⟩
def tw2370776102115171571:True:=⟨⟩
def tw2875677022702356512:True:=⟨⟩
def tw2146835418630195863:True:=⟨⟩
def tw11921913923710829498:True:=⟨⟩
def tw10374887771888021200:True:=⟨⟩
def tw15784001315332324623:True:=⟨⟩
def tw7499730825561343249:True:=⟨⟩
def tw16112430016118208747:True:=⟨⟩
def tw12083987138484393188:True:=⟨⟩
def tw17054384698470808640:True:=⟨⟩
def tw1463414440147360273:True:=⟨⟩
def tw10550477051281242495:True:=⟨⟩
def tw13715513460201576805:True:=⟨⟩
def tw3878283907503653868:True:=⟨⟩
def tw9990853474921435808:True:=⟨⟩
def tw8984592505069612712:True:=⟨⟩
def tw5047593798325837173:True:=⟨⟩
def tw17493222233486021343:True:=⟨⟩
def tw13772491751220697372:True:=⟨⟩
def tw12323259424109717724:True:=⟨⟩
def tw17263396791528409477:True:=⟨⟩
def tw6329501390470777879:True:=⟨⟩
def tw1918907388209680057:True:=⟨⟩
def tw321419642184594112:True:=⟨⟩
def tw13317694936044733074:True:=⟨⟩
def tw14601744498209964625:True:=⟨⟩
def tw1341053053177539626:True:=⟨⟩
def tw13897411921951153659:True:=⟨⟩
def tw14698497806969475305:True:=⟨⟩
def tw14237218243503254947:True:=⟨⟩
def tw7640894697583888988:True:=⟨⟩
def tw2032098530994927526:True:=⟨⟩
def tw433923817943878496:True:=⟨⟩
def tw6630378485493414450:True:=⟨⟩
def tw6772389872250181065:True:=⟨⟩
def tw11864540625829881944:True:=⟨⟩
def tw13331575825472752655:True:=⟨⟩
def tw14717460794249422209:True:=⟨⟩
def tw13580137784862391010:True:=⟨⟩
def tw12005398976324574844:True:=⟨⟩
def tw16698972503224130545:True:=⟨⟩
def tw4558014540121135372:True:=⟨⟩
def tw12389594412107471078:True:=⟨⟩
def tw10995060280239679180:True:=⟨⟩
def tw8753691600220071443:True:=⟨⟩
def tw15342982451333065773:True:=⟨⟩
def tw4802694620364282418:True:=⟨⟩
def tw13715870545994384909:True:=⟨⟩
def tw5345972855950709964:True:=⟨⟩
def tw16343332782561306305:True:=⟨⟩
def tw8520140412040025840:True:=⟨⟩
def tw11012022262601185302:True:=⟨⟩
def tw4860190100310352019:True:=⟨⟩
def tw2036093940230241662:True:=⟨⟩
def tw3247537694013636191:True:=⟨⟩
def tw15669123101847997461:True:=⟨⟩
def tw13387266858028400595:True:=⟨⟩
def tw6583059144975777243:True:=⟨⟩
def tw3482212853308129019:True:=⟨⟩
def tw2276045520167815202:True:=⟨⟩
def tw12549927444777980442:True:=⟨⟩
def tw16448394416212580464:True:=⟨⟩
def tw7400126837523065654:True:=⟨⟩
def tw14515975230588659774:True:=⟨⟩
def tw13959145846227800215:True:=⟨⟩
def tw12008407500652440818:True:=⟨⟩
def tw10547946425904698566:True:=⟨⟩
def tw12199599624616501138:True:=⟨⟩
def tw3286132442071341876:True:=⟨⟩
def tw1924392983307241105:True:=⟨⟩
def tw13925673842872993384:True:=⟨⟩
def tw2267795643376028730:True:=⟨⟩
def tw11793863104544986980:True:=⟨⟩
def tw6787194941141457328:True:=⟨⟩
def tw4131844091583663405:True:=⟨⟩
def tw17634559723732775576:True:=⟨⟩
def tw16309476992335840465:True:=⟨⟩
def tw12706697505767109395:True:=⟨⟩
def tw16770112185414389956:True:=⟨⟩
def tw16440945338011720041:True:=⟨⟩
def tw4419395569049014034:True:=⟨⟩
def tw657798459413353688:True:=⟨⟩
def tw4506601666607874084:True:=⟨⟩
def tw127727178144985586:True:=⟨⟩
def tw5282711239073630938:True:=⟨⟩
def tw12016878958697931163:True:=⟨⟩
def tw4273833174560757459:True:=⟨⟩
def tw14541449037781242435:True:=⟨⟩
def tw9304595725867128570:True:=⟨⟩
def tw6710560012197981942:True:=⟨⟩
def tw625500906830486553:True:=⟨⟩
def tw14014653108438808818:True:=⟨⟩
def tw16145852293149580109:True:=⟨⟩
def tw5141693295987807819:True:=⟨⟩
def tw8430663326927627986:True:=⟨⟩
def tw5808234232315140006:True:=⟨⟩
def tw17126607016460891203:True:=⟨⟩
def tw11997403600757965420:True:=⟨⟩
def tw302967023569381116:True:=⟨⟩
def tw11594308758270666300:True:=⟨⟩
def tw8163523432339727040:True:=⟨⟩
def tw9663083610666476821:True:=⟨⟩
def tw11377440943394866327:True:=⟨⟩
def tw13838788029133071363:True:=⟨⟩
def tw14326492663217612626:True:=⟨⟩
def tw8821798429313407549:True:=⟨⟩
def tw6449501320306641483:True:=⟨⟩
def tw16529923012071269046:True:=⟨⟩
def tw17191494079158443965:True:=⟨⟩
def tw9231320670028576739:True:=⟨⟩
def tw16969198385379614862:True:=⟨⟩
def tw6773368284021823864:True:=⟨⟩
def tw9930302352107166456:True:=⟨⟩
def tw16741792587156881088:True:=⟨⟩
def tw8773316609164652099:True:=⟨⟩
def tw13003932662042977669:True:=⟨⟩
def tw13553392675196964361:True:=⟨⟩
def tw11913529462208478600:True:=⟨⟩
end PySem.W.Fast
set_option bootstrap.genMatcherCode false
set_option compiler.extract_closed false
noncomputable section
local macro_rules|`(tactic|omega)=>`(tactic|lia)
abbrev gQm:=@List.getElem?_map
abbrev lQm:=@List.length_map
abbrev mQg:=@List.mem_of_getElem?
abbrev oQm:=@Option.map_eq_some_iff
abbrev gQe:=@List.getElem?_eq_getElem
abbrev gQs:=@List.getElem?_eq_some_iff
abbrev lQa:=@List.length_append
abbrev nQl:=@Nat.le_of_lt
abbrev mQa:=@List.mem_append
abbrev Qaq:=@PySem.wpAny_bind
abbrev Qbq:=@Option.bind_some
abbrev Qcq:=@PySem.Heap.get?_push_of_some
abbrev Qdq:=@decide_eq_false
abbrev Qeq:=@decide_eq_true
abbrev Qfq:=@List.mem_singleton
abbrev Qgq:=@PySem.wpAny_pure
abbrev Qhq:=@if_pos
abbrev Qiq:=@PySem.Heap.lt_size
abbrev Qjq:=@List.size_toArray
abbrev Qkq:=@List.mem_map
abbrev Qlq:=@List.getD_eq_getElem?_getD
abbrev Qmq:=@Nat.le_refl
abbrev Qnq:=@List.length_cons
abbrev Qoq:=@List.mem_append_right
abbrev Qpq:=@List.mem_cons_of_mem
abbrev Qqq:=@Nat.lt_of_lt_of_le
abbrev Qrq:=@PySem.Heap.get?_push_size
abbrev Qsq:=@List.mem_cons
abbrev Qtq:=@Bool.false_ne_true
abbrev Quq:=@if_neg
abbrev Qvq:=@List.append_assoc
abbrev Qwq:=@Nat.ne_of_lt
abbrev Qxq:=@List.length_take
abbrev Qyq:=@List.getElem?_set_self
abbrev Qzq:=@List.map_append
abbrev QAq:=@Nat.le_trans
abbrev QBq:=@List.mem_cons_self
abbrev QCq:=@Bool.and_eq_true
abbrev QDq:=@List.map_cons
abbrev QEq:=@List.take_length
abbrev QFq:=@PySem.W.mg_none_of
abbrev QGq:=@List.length_nil
abbrev QHq:=@List.getElem?_append_left
abbrev QIq:=@List.length_replicate
abbrev QJq:=@List.Perm.append_right
abbrev QKq:=@List.getElem?_set_ne
abbrev QLq:=@PySem.wpAny_holding
abbrev QMq:=@PySem.wpAny_field
abbrev QNq:=@List.replicate_succ
abbrev QOq:=@List.mem_flatMap
abbrev QPq:=@List.map_map
abbrev QQq:=@List.getElem?_append_right
abbrev QRq:=@PySem.wpAny_mono
abbrev QSq:=@List.flatMap_cons
abbrev QTq:=@List.mem_or_eq_of_mem_set
abbrev QUq:=@List.all_eq_true
abbrev QVq:=@List.length_range
abbrev QWq:=@List.drop_eq_getElem_cons
abbrev QXq:=@List.not_mem_nil
abbrev QYq:=@List.take_add_one
abbrev QZq:=@of_decide_eq_true
abbrev QaQ:=@of_decide_eq_false
abbrev QbQ:=@List.getElem_of_mem
abbrev QcQ:=@List.mem_of_getLast?
abbrev QdQ:=@Option.some.inj
abbrev QeQ:=@List.of_mem_zip
abbrev QfQ:=@List.getLast?_map
abbrev QgQ:=@PySem.wpAny_ite_false
abbrev QhQ:=@PySem.wpAny_newObj_type
abbrev QiQ:=@PySem.wpAny_callSpecial?_slot
abbrev QjQ:=@List.Sublist.refl
abbrev QkQ:=@List.eq_of_mem_replicate
abbrev QlQ:=@List.map_replicate
namespace L2
open PySem PySem.Spec PyProof.Rows
abbrev Key:=Sum Int Str
def jA:Key->Value->Bool
 |.inl k,v=>Value.isInt k v
 |.inr x,v=>Value.isStrOf x v
def Lh(w:World):Key->Int
 |.inl k=>hashInt k
 |.inr x=>hashStr w x
def cD:∀{k:Key} {v:Value},jA k v=true->(∃i t,k=Sum.inl i/\v=Value.int i t)\/(∃x t,k=Sum.inr x/\v=Value.str x t)
 | .inl i,v,h=>by
   obtain⟨t,e⟩:=Value.isInt_shape (k:=i) (v:=v) h
   exact .inl ⟨i,t,rfl,e⟩
 | .inr x,v,h=>by
   obtain⟨t,e⟩:=Value.isStrOf_shape (x:=x) (v:=v) h
   exact .inr ⟨x,t,rfl,e⟩
def AJ(i:Int)(t:Tok):jA (.inl i) (.int i t)=true:=by simp[jA,Value.isInt]
def og(x:Str)(t:Tok):jA (.inr x) (.str x t)=true:=by simp[jA,Value.isStrOf]
def Hh(a b:Int):decide ((Sum.inl a:Key)=Sum.inl b)=(a==b):=by
 by_cases e:a=b
 ·subst e;simp
 ·have h:¬(Sum.inl a:Key)=Sum.inl b:=λq=>e (Sum.inl.inj q)
  rw[Qdq h]
  exact(beq_eq_false_iff_ne.mpr e).symm
def Hl(a b:Str):decide ((Sum.inr a:Key)=Sum.inr b)=decide (a=b):=by
 by_cases e:a=b
 ·subst e;simp
 ·have h:¬(Sum.inr a:Key)=Sum.inr b:=λq=>e (Sum.inr.inj q)
  rw[Qdq h,Qdq e]
def F8(a:Int)(b:Str):decide ((Sum.inl a:Key)=Sum.inr b)=false:=Qdq (λq=>nomatch q)
def Ge(a:Str)(b:Int):decide ((Sum.inr a:Key)=Sum.inl b)=false:=Qdq (λq=>nomatch q)
def aX(prog:Program)(w:World):PySem.KeyKind prog w Key where
 is:=jA
 hash:=Lh w
 inj:=λv a b g f=>by
  rcases cD g with⟨i,t,rfl,rfl⟩|⟨x,t,rfl,rfl⟩
  ·rcases cD f with⟨j,u,rfl,e⟩|⟨y,u,rfl,e⟩
   ·injection e with c _;rw[c]
   ·exact nomatch e
  ·rcases cD f with⟨j,u,rfl,e⟩|⟨y,u,rfl,e⟩
   ·exact nomatch e
   ·injection e with c _;rw[c]
 byValue:=λk v h=>by
  rcases cD h with⟨i,t,rfl,rfl⟩|⟨x,t,rfl,rfl⟩ <;>rfl
 pyHash:=λd h=>by
  rcases cD d with⟨i,t,rfl,rfl⟩|⟨x,t,rfl,rfl⟩
  ·exact wpAny_pyHash_int h
  ·exact wpAny_pyHash_str h
 eqBool:=λl d h=>by
  rcases cD l with⟨i,t,rfl,rfl⟩|⟨x,t,rfl,rfl⟩
  ·rcases cD d with⟨j,u,rfl,rfl⟩|⟨y,u,rfl,rfl⟩
   ·rw[Hh] at h;exact wpAny_eqBool_int h
   ·rw[F8] at h;exact SeqAt.EqAt.int_str i t y u _ _ _ _ h
  ·rcases cD d with⟨j,u,rfl,rfl⟩|⟨y,u,rfl,rfl⟩
   ·rw[Ge] at h;exact SeqAt.EqAt.str_int x t j u _ _ _ _ h
   ·rw[Hl] at h;exact wpAny_eqBool_str h
 «strs»:=λk x t v h=>by
  rcases cD h with⟨i,u,rfl,e⟩|⟨y,u,rfl,e⟩
  ·exact nomatch e
  ·injection e with c _
   subst c
   cases v <;>rfl
def xX(prog:Program)(w:World)(k:Key)(v:Value):(aX prog w).is k v=jA k v:=rfl
def v8(prog:Program)(w:World)(i:Int)(t:Tok):(aX prog w).is (.inl i) (.int i t)=true:=AJ i t
def wH(prog:Program)(w:World)(x:Str)(t:Tok):(aX prog w).is (.inr x) (.str x t)=true:=og x t
inductive V where
 |non|bl (b:Bool)|int (i:Int)|str (x:Str)|byt (b:Array UInt8)|flt (b:UInt64)|ref (a:Addr)|ty (n:String)
 deriving DecidableEq
def RelV:V->Value->Prop
 |.non,u=>u=Value.none
 |.bl b,u=>u=Value.bool b
 |.int i,u=>∃t,u=Value.int i t
 |.str x,u=>∃t,u=Value.str x t
 |.byt b,u=>∃t,u=Value.bytes b t
 |.flt b,u=>∃t,u=Value.float b t
 |.ref a,u=>u=Value.ref a
 |.ty n,u=>u=Value.type n
abbrev bo:List V->List Value->Prop:=Paired RelV
def bo.length{xs:List V}{us:List Value}(r:bo xs us):xs.length=us.length:=Paired.length r
theorem bo.get:∀{xs:List V} {us:List Value} {i:Nat} {x:V},bo xs us->xs[i]?=some x->∃u,us[i]?=some u/\RelV x u
 |_,_,_,_,.nil,e=>by simp at e
 |_,_,0,_,.cons r _,e=>by simp at e;subst e;exact⟨_,rfl,r⟩
 | _,_,i+1,x,.cons _ t,e=>by
   obtain⟨u,b,a⟩:=bo.get (i:=i) (x:=x) t (by simpa using e)
   exact⟨u,by simpa using b,a⟩
theorem bo.set{x:V}{u:Value}(r:RelV x u):∀{xs:List V} {us:List Value} (i:Nat),bo xs us->bo (xs.set i x) (us.set i u)
 |_,_,_,.nil=>.nil
 |_,_,0,.cons _ t=>.cons r t
 |_,_,i+1,.cons q t=>.cons q (bo.set r i t)
theorem bo.append:∀{xs ys:List V} {us ws:List Value},bo xs us->bo ys ws->bo (xs++ys) (us++ws)
 |_,_,_,_,.nil,s=>s
 |_,_,_,_,.cons r t,s=>.cons r (bo.append t s)
theorem bo.take:∀{xs:List V} {us:List Value} (n:Nat),bo xs us->bo (xs.take n) (us.take n)
 |_,_,0,_=>.nil
 |_,_,_+1,.nil=>.nil
 |_,_,n+1,.cons r t=>.cons r (bo.take n t)
theorem bo.drop:∀{xs:List V} {us:List Value} (n:Nat),bo xs us->bo (xs.drop n) (us.drop n)
 |_,_,0,r=>r
 |_,_,_+1,.nil=>.nil
 |_,_,n+1,.cons _ t=>bo.drop n t
def r9:Option V->Option Value->Prop
 |some v,some u=>RelV v u
 |none,none=>True
 |_,_=>False
def KV{a:Type}:List (a×V)->List (a×Value)->Prop:=Paired λ(p:a×V) (q:a×Value)=>p.1=q.1/\RelV p.2 q.2
def kV:Key->V
 |.inl i=>.int i
 |.inr x=>.str x
inductive HO where
 |lst (xs:List V)
 |tup (xs:List V)
 |dK (kvs:List (Key×V))|dT (kvs:List (List Key×V))
 |set (S:Int->Bool) (n:Nat)
 |ins (C dx:Addr) (fs:List (Str×V))
 |own (x:Addr)
 |xd (fs:List (Str×V))
 |met (f x:Addr)
 |rng (lo hi:Int)
 |frz (o:Obj) (u:HO)
 |tbl (ps:Array Value)
 |ext (φ:Heap->Prop)
abbrev Hp:=Addr->Option HO
def upd(H:Hp)(a:Addr)(o:HO):Hp:=λb=>if b=a then some o else H b
def bp{H:Hp}{a:Addr}{o:HO}:upd H a o a=some o:=by unfold upd;rw[Qhq rfl]
def aM{H:Hp}{a b:Addr}{o:HO}(h:b≠a):upd H a o b=H b:=by unfold upd;rw[Quq h]
def B0{H:Hp}{a b:Addr}{o u:HO}(h:H a=some o)(h':H b=some u)(d:o≠u):a≠b:=by
 intro e;subst e;rw[h] at h';exact d (QdQ h')
def c_{H:Hp}{a b:Addr}{o:HO}(h:H a=some o)(h':H b=none):a≠b:=by
 intro e;subst e;rw[h] at h';cases h'
def sI(h:Heap)(a:Addr)(items:Array Value):Prop:=∃o,h.get? a=some o/\o.cls=.type "tuple" /\o.dict=none/\∃n,o.data=.seq items n
def sI.it{h:Heap}{a:Addr}{items:Array Value}(x:sI h a items):IsTup h a items:=by
 obtain⟨o,e,c,_,d⟩:=x
 exact⟨o,e,c,d⟩
def sI.new(h:Heap)(items:Array Value):sI (h.push {cls:=.type "tuple",data:=.seq items}) h.objs.size items:=⟨_,Qrq _ rfl,rfl,rfl,_,rfl⟩
section
variable(P:Program)(w:World)
def bR(H:Hp)(h:Heap)(a:Addr):HO->Prop
 |.lst d=>d.length<=sizeLine/\∃(c:List Value) (n:Nat),bo d c/\h.get? a=some {cls:=.type "list",data:=.seq c.toArray n}
 |.tup d=>d.length<=sizeLine/\∃c:List Value,bo d c/\sI h a c.toArray
 |.dK b=>b.length<=sizeLine/\(a==sysModules)=false/\∃l,KV b l/\h.DictOf (aX P w) a l
 |.dT b=>b.length<=sizeLine/\(a==sysModules)=false/\∃d:List (List Key×Addr×Value),
   Paired (λ(p:List Key×V) (q:List Key×Addr×Value)=>p.1=q.1/\H q.2.1=some (.tup (p.1.map kV))/\RelV p.2 q.2.2) b d∧
   ∃o r z,h.get? a=some o/\o.ExactDict/\o.data=.dict r z/\r.toList=d.map (entryOfKey (tupleKind (aX P w)))/\(d.map (·.1)).Nodup
 |.set S n=>h.SetOf (intKind P w) a S n
 |.ins C i g=>H i=some (.own a)/\g.length<=1000/\i≠a/\h.get? a=some (PySem.W.instObj C i)∧
   ∃e,h.Ns1 i e/\(∀f,r9 (g.lookup f) (e f))/\PySem.Within e (g.map (·.1))
 |.own _=>∃o,h.get? a=some o
 |.xd g=>∃e,h.Ns1 a e/\∀f,r9 (g.lookup f) (e f)
 |.rng A y=>∃t u v,h.get? a=some {cls:=.type "range",data:=.fields #[.int A t,.int y u,.int 1 v]}
 |.frz o u=>h.get? a=some o/\bR H h a u
 |.tbl s=>h.get? a=some {cls:=.none,data:=.fields s}
 |.met f x=>h.get? a=some (PySem.W.methodObj (.ref f) (.ref x))
 |.ext j=>j h/\(∃o,h.get? a=some o)/\∀m k:Heap,j m->(∀o,m.get? a=some o->k.get? a=some o)->j k
def l_(H:Hp)(h:Heap):Prop:=∀a o,H a=some o->bR P w H h a o
end
section
variable{P:Program}{w:World}{H H':Hp}{h h':Heap}{a:Addr}{o:HO}
theorem bR.lt(x:bR P w H h a o):a<h.objs.size:=by
 cases o with
 |lst c=>obtain⟨_,_,_,_,e⟩:=x;exact Qiq e
 |tup c=>obtain⟨_,_,_,p⟩:=x;exact p.it.lt
 |dK b=>obtain⟨_,_,_,_,o,_,_,e,_⟩:=x;exact Qiq e
 |dT b=>obtain⟨_,_,_,_,o,_,_,e,_⟩:=x;exact Qiq e
 |set S n=>obtain⟨o,_,_,_,e,_⟩:=x;exact Qiq e
 |ins C l d=>obtain⟨_,_,_,e,_⟩:=x;exact Qiq e
 |own y=>obtain⟨_,e⟩:=x;exact Qiq e
 |xd d=>obtain⟨_,⟨_,_,_,e,_⟩,_⟩:=x;exact Qiq e
 |rng m k=>obtain⟨_,_,_,e⟩:=x;exact Qiq e
 |frz j u=>obtain⟨e,_⟩:=x;exact Qiq e
 |tbl i=>exact Qiq (show h.get? a=some _ from x)
 |met f y=>exact Qiq (show h.get? a=some _ from x)
 |ext g=>obtain⟨_,⟨_,e⟩,_⟩:=x;exact Qiq e
theorem Paired.mapP{α e:Type}{F G:α->e->Prop}:∀{c:List α} {d:List e},Paired F c d->(∀a b,F a b->G a b)->Paired G c d
 |_,_,.nil,_=>.nil
 |_,_,.cons r t,f=>.cons (f _ _ r) (Paired.mapP t f)
def bR.stay(x:bR P w H h a o)(k:∀b u,(b=a\/H b=some (.own a))->h.get? b=some u->h'.get? b=some u)
  (L:∀b,H b=some (.own a)->H' b=some (.own a)) (G:∀b xs,H b=some (.tup xs)->H' b=some (.tup xs)):bR P w H' h' a o:=by
 induction o with
 |lst xs=>obtain⟨z,l,n,r,e⟩:=x;exact⟨z,l,n,r,k _ _ (.inl rfl) e⟩
 |tup xs=>obtain⟨z,l,r,g,e,c⟩:=x;exact⟨z,l,r,g,k _ _ (.inl rfl) e,c⟩
 |dK m=>obtain⟨z,y,I,r,g,i,j,e,c⟩:=x;exact⟨z,y,I,r,g,i,j,k _ _ (.inl rfl) e,c⟩
 | dT m=>
   obtain⟨z,y,xs,r,g,i,j,e,c⟩:=x
   exact⟨z,y,xs,Paired.mapP r λp q z=>⟨z.1,G _ _ z.2.1,z.2.2⟩,g,i,j,k _ _ (.inl rfl) e,c⟩
 |set S n=>obtain⟨g,i,j,t,e,c⟩:=x;exact⟨g,i,j,t,k _ _ (.inl rfl) e,c⟩
 | ins C U M=>
   obtain⟨d,z,J,e,s,⟨A,i,j,K,c⟩,r⟩:=x
   exact⟨L _ d,z,J,k _ _ (.inl rfl) e,s,⟨A,i,j,k _ _ (.inr d) K,c⟩,r⟩
 |own y=>obtain⟨g,e⟩:=x;exact⟨g,k _ _ (.inl rfl) e⟩
 |xd M=>obtain⟨s,⟨A,i,j,e,c⟩,r⟩:=x;exact⟨s,⟨A,i,j,k _ _ (.inl rfl) e,c⟩,r⟩
 |rng X R=>obtain⟨t,u,v,e⟩:=x;exact⟨t,u,v,k _ _ (.inl rfl) e⟩
 |frz g u N=>obtain⟨e,q⟩:=x;exact⟨k _ _ (.inl rfl) e,N q⟩
 | tbl B=>
   have e:h.get? a=some {cls:=.none,data:=.fields B}:=x
   show h'.get? a=some {cls:=.none,data:=.fields B}
   exact k a _ (.inl rfl) e
 | met f y=>
   have e:h.get? a=some (PySem.W.methodObj (.ref f) (.ref y)):=x
   show h'.get? a=some (PySem.W.methodObj (.ref f) (.ref y))
   exact k a _ (.inl rfl) e
 |ext Q=>obtain⟨p,⟨o,e⟩,F⟩:=x;exact⟨F _ _ p λo q=>k _ _ (.inl rfl) q,⟨o,k _ _ (.inl rfl) e⟩,F⟩
def l_.lt(x:l_ P w H h)(e:H a=some o):a<h.objs.size:=(x a o e).lt
def l_.fresh(x:l_ P w H h)(e:h.objs.size<=a):H a=none:=by
 cases q:H a with
 |none=>rfl
 |some u=>exact absurd (Qqq (x.lt q) e) (Nat.lt_irrefl _)
def l_.kept(x:l_ P w H h)(k:∀b u,h.get? b=some u->h'.get? b=some u):l_ P w H h':=λa o e=>
 (x a o e).stay (λb u _ q=>k b u q) (λ_ q=>q) λ_ _ q=>q
def l_.laid(x:l_ P w H h)(k:∀b u,h.get? b=some u->h'.get? b=some u)(g:h.objs.size<=a)(new:bR P w (upd H a o) h' a o):l_ P w (upd H a o) h':=λb u e=>by
 have f:=x.fresh g
 by_cases d:b=a
 ·subst d;rw[bp] at e;cases e;exact new
 ·rw[aM d] at e
  exact(x b u e).stay (λc v _ q=>k c v q) (λc q=>by rw[aM (c_ q f)];exact q) λc i q=>by rw[aM (c_ q f)];exact q
end
def Rd(H:Hp)(a:Addr)(u:HO):Prop:=H a=some u\/∃o,H a=some (.frz o u)
def Rd.ok{P:Program}{w:World}{H:Hp}{h:Heap}{a:Addr}{u:HO}(r:Rd H a u)(x:l_ P w H h):bR P w H h a u:=by
 rcases r with r|⟨o,r⟩
 ·exact x a u r
 ·obtain⟨_,q⟩:=x a _ r
  exact q
def IE:Option HO->Prop
 |some (.lst _)=>True
 |some (.dK _)=>True
 |some (.dT _)=>True
 |some (.set _ _)=>True
 |some (.ins _ _ _)=>True
 |some (.ext _)=>True
 |_=>False
section
variable{P:Program}{w:World}{H:Hp}{h h':Heap}{x e:Addr}{o':HO}
def l_.write(ok:l_ P w H h)(j:IE (H x))(he:e=x\/H e=some (.own x))(k:∀b u,b≠e->h.get? b=some u->h'.get? b=some u)(m:∃u,h'.get? e=some u)
  (new:bR P w (upd H x o') h' x o'):l_ P w (upd H x o') h':=λb u q=>by
 have d:∀c y,H c=some (.own y)->c≠x:=λc y r z=>by subst z;rw[r] at j;exact j
 have f:∀c i,H c=some (.tup i)->c≠x:=λc i r z=>by subst z;rw[r] at j;exact j
 by_cases g:b=x
 ·subst g;rw[bp] at q;cases q;exact new
 ·rw[aM g] at q
  by_cases a:b=e
  ·have n:H b=some (.own x):=by
    rcases he with z|z
    ·exact absurd (a.trans z) g
    ·rw[a];exact z
   rw[q] at n;cases n
   obtain⟨v,o⟩:=m
   exact⟨v,by rw[a];exact o⟩
  ·refine(ok b u q).stay (λc v l r=>k c v ?_ r) (λc r=>by rw[aM (d c b r)];exact r) λc i r=>by rw[aM (f c i r)];exact r
   rcases l with rfl|l
   ·exact a
   ·rintro rfl
    rcases he with z|z
    ·exact d c b l z
    ·rw[l] at z;cases z;exact g rfl
end
structure Un(fs ex:List Addr)(H H':Hp)(h h':Heap):Prop where
 keep:∀b o,h.get? b=some o->H b=none->b∉fs->b∉ex->h'.get? b=some o
 slot:∀b o,h.get? b=some o->H b=none->b∈fs->b∉ex->∃sl,h'.get? b=some {o with slots:=sl}
 free:∀b o,h.get? b=some o->H b=none->b∉ex->H' b=none
 there:∀b o,h.get? b=some o->b∉ex->∃o',h'.get? b=some o'
 tups:∀b xs,H b=some (.tup xs)->H' b=some (.tup xs)
 frzs:∀b o u,H b=some (.frz o u)->H' b=some (.frz o u)
 tbls:∀b ps,H b=some (.tbl ps)->∃more,H' b=some (.tbl (ps++more))
section
variable{fs fs' ex ex':List Addr}{H H1 H2:Hp}{h h1 h2 h':Heap}{a x e:Addr}{o:HO}
def Un.any(u:Un fs ex H H1 h h1){b:Addr}{c:Obj}(q:h.get? b=some c)(n:H b=none)(f:b∉ex):∃g,h1.get? b=some {c with slots:=g}:=by
 by_cases d:b∈fs
 ·exact u.slot b c q n d f
 ·exact⟨c.slots,u.keep b c q n d f⟩
def Un.kept(k:∀b u,h.get? b=some u->h'.get? b=some u):Un fs ex H H h h':=
 ⟨λb c q _ _ _=>k b c q,λb c q _ _ _=>⟨c.slots,k b c q⟩,λ_ _ _ n _=>n,λb c q _=>⟨c,k b c q⟩,λ_ _ q=>q,λ_ _ _ q=>q,λ_ d q=>⟨#[],by rw[q];simp⟩⟩
def Un.refl:Un fs ex H H h h:=Un.kept λ_ _ q=>q
def Un.laid(k:∀b u,h.get? b=some u->h'.get? b=some u)(d:h.objs.size<=a)(c:H a=none):Un fs ex H (upd H a o) h h' where
 keep:=λb u q _ _ _=>k b u q
 slot:=λb u q _ _ _=>⟨u.slots,k b u q⟩
 free:=λb u q n _=>by rw[aM (Qwq (Qqq (Qiq q) d))];exact n
 there:=λb u q _=>⟨u,k b u q⟩
 tups:=λb f q=>by rw[aM (c_ q c)];exact q
 frzs:=λb u f q=>by rw[aM (c_ q c)];exact q
 tbls:=λb g q=>⟨#[],by rw[aM (c_ q c),q];simp⟩
def Un.write(d:IE (H x))(he:e=x\/H e=some (.own x))(k:∀b u,b≠e->h.get? b=some u->h'.get? b=some u)(g:∃u,h'.get? e=some u):Un fs ex H (upd H x o) h h':=by
 have j:∀b,H b=none->b≠x:=λb n z=>by subst z;rw[n] at d;exact d
 have i:∀b,H b=none->b≠e:=λb n z=>by
  subst z
  rcases he with r|r
  ·exact j b n r
  ·rw[n] at r;cases r
 have f:∀b u,H b=some u->¬IE (some u)->b≠x:=λb u q l z=>by subst z;rw[q] at d;exact l d
 refine⟨λb u q n _ _=>k b u (i b n) q,λb u q n _ _=>⟨u.slots,k b u (i b n) q⟩,λb u q n _=>by rw[aM (j b n)];exact n,λb u q _=> ?_,
  λb m q=>by rw[aM (f b _ q λz=>z)];exact q,λb u m q=>by rw[aM (f b _ q λz=>z)];exact q,λb p q=>⟨#[],by rw[aM (f b _ q λz=>z),q];simp⟩⟩
 by_cases c:b=e
 ·subst c;exact g
 ·exact⟨u,k b u c q⟩
end
def J2(h:Heap)(H:Hp):List Addr:=(List.range h.objs.size).filter λa=>(H a).isSome
def vd(h:Heap)(H:Hp):Heap:=PySem.W.hideAll h (J2 h H)
def AA(h:Heap)(H:Hp):(vd h H).objs.size=h.objs.size:=PySem.W.hideAll_size _ _
def CU{h:Heap}{H:Hp}{b:Addr}{o:Obj}(e:h.get? b=some o)(n:H b=none):(vd h H).get? b=some o:=
 PySem.W.hideAll_get _ e λa=>by
  have q:(H b).isSome=true:=(List.mem_filter.mp a).2
  rw[n] at q;simp at q
def Fl{h:Heap}{H:Hp}{b:Addr}{o:Obj}(e:(vd h H).get? b=some o):h.get? b=some o/\H b=none:=by
 have a:h.get? b=some o:=PySem.W.of_hideAll (J2 h H) e
 refine⟨a,?_⟩
 cases q:H b with
 |none=>rfl
 | some x=>
   have c:b∈J2 h H:=List.mem_filter.mpr ⟨List.mem_range.mpr (Qiq a),by simp[q]⟩
   have z:(vd h H).get? b=none:=PySem.W.hideAll_none (J2 h H) c
   rw[z] at e;cases e
structure Mod(K:PySem.W.Frag)(mg:Str->Option Value)(base:Heap):Prop where
 kin:K.In base
 glob:base.Ns mainGlobals mg
 blt:∃mb,base.Ns builtinsNs mb/\∀x:Str,x≠"__name__" ->mb x=bootBuiltins x
 nolimit:base.NoLimit
structure Cx where
 prog:Program
 w:World
 K:PySem.W.Frag
 mg:Str->Option Value
 base:Heap
 A:Around
 N:List Str
 s₀:Shared
 H₀:Hp
 env:Env
 outer:List Env
 stack:List Env
 ex:List Addr
 fn:Str->Bool
 calm:Bool
 pn:List (Addr×Obj)
 xe:Value->Shared->Prop
def Cd(l:List Env):List Addr:=l.filterMap (·.frame)
abbrev Cx.fs(X:Cx):List Addr:=Cd X.outer
def D2(a:Scope)(x:Str):Prop:=a.names.lookup x=some .local\/a.names.lookup x=some .cell\/a.names.lookup x=some .free
def Loc(a:Scope)(x:Str):Prop:=a.names.lookup x=some .local\/a.names.lookup x=some .cell
def Look(env:Env)(h:Heap)(m:Str->Option Value)(x:Str)(u:Value):Prop:=
 (env.kindOf x=some .local/\m x=some u)\/((env.kindOf x=some .cell\/env.kindOf x=some .free)/\∃c,env.cells.lookup x=some c/\h.IsCell c (some u))
structure Cx.Ok(X:Cx):Prop where
 mod:Mod X.K X.mg X.base
 kind:X.env.scope.kind=.function
 glob:X.env.globals=mainGlobals
 blt:X.env.builtins=builtinsNs
 above:X.s₀.heap.objs.size<=X.env.locals
 inj:∀x y c,X.env.cells.lookup x=some c->X.env.cells.lookup y=some c->x=y
 has:∀x,(X.env.kindOf x=some .cell\/X.env.kindOf x=some .free)->∃c,X.env.cells.lookup x=some c
 cab:∀x c,X.fn x=true->X.env.cells.lookup x=some c->X.s₀.heap.objs.size<=c
 hd:X.calm=true->X.A.handled=none
 frames:X.A.frames=some X.stack
 stk:X.stack=X.outer\/(X.stack=X.env::X.outer/\X.env.frame=some X.env.locals)
 exf:∀b∈X.ex,b≠X.env.locals/\∀x c,X.env.cells.lookup x=some c->c≠b
 bs:∀b o,X.base.get? b=some o->X.s₀.heap.get? b=some o/\X.H₀ b=none
 bsz:X.base.objs.size<=X.s₀.heap.objs.size
 noex:∀b o,X.base.get? b=some o->b∉X.ex
 exfs:∀b∈X.ex,b∉X.fs
 funs:X.s₀.heap.FunFrames X.base X.outer
 frf:∀b∈X.fs,X.H₀ b=none
structure Inv(X:Cx)(pins:List (Addr×Obj))(σ:List (Option V))(H:Hp)(s:Shared):Prop where
 ok:X.Ok
 os:s.os=X.s₀.os
 bare:AllBare s.gens
 base:Un X.fs X.ex X.H₀ H X.s₀.heap s.heap
 loc:∃m,s.heap.Ns X.env.locals m/\∀(i:Nat) (x:Str) (v:V),X.N[i]?=some x->σ[i]?=some (some v)->D2 X.env.scope x->∃u,RelV v u/\Look X.env s.heap m x u
 cell:∀x c,X.env.cells.lookup x=some c->∃v,s.heap.IsCell c v
 free:H X.env.locals=none
 freeC:∀x c,X.env.cells.lookup x=some c->H c=none
 pin:∀p∈X.pn++pins,s.heap.get? p.1=some p.2/\H p.1=none/\p.1≠X.env.locals/\p.1∉X.fs/\∀v,p.2.data≠.cell v
 hok:l_ X.prog X.w H s.heap
 len:σ.length=X.N.length
section
variable{X:Cx}{pins:List (Addr×Obj)}{σ:List (Option V)}{H H':Hp}{s:Shared}{h':Heap}
def Cx.Ok.nofr(ok:X.Ok){b:Addr}{o:Obj}(e:X.base.get? b=some o):b∉X.fs:=λa=>by
 have:=(ok.funs.mem a).1
 rw[e] at this;cases this
def Inv.bs(I:Inv X pins σ H s):∀b o,X.base.get? b=some o->s.heap.get? b=some o/\H b=none:=λb o e=>
 ⟨I.base.keep b o (I.ok.bs b o e).1 (I.ok.bs b o e).2 (I.ok.nofr e) (I.ok.noex b o e),I.base.free b o (I.ok.bs b o e).1 (I.ok.bs b o e).2 (I.ok.noex b o e)⟩
def Inv.bk(I:Inv X pins σ H s):∀b o,X.base.get? b=some o->s.heap.get? b=some o:=λb o e=>(I.bs b o e).1
def Inv.mod(I:Inv X pins σ H s):Mod X.K X.mg X.base:=I.ok.mod
def Inv.kIn(I:Inv X pins σ H s):X.K.In s.heap:=I.ok.mod.kin.keeps I.bk
def Inv.lt(I:Inv X pins σ H s):X.env.locals<s.heap.objs.size:=let ⟨_,hn,_⟩:=I.loc;hn.lt
def Inv.sz(I:Inv X pins σ H s):X.s₀.heap.objs.size<=s.heap.objs.size:=QAq I.ok.above (nQl I.lt)
def Inv.nofs(I:Inv X pins σ H s){a:Addr}(h:s.heap.objs.size<=a):a∉X.fs:=λc=>by
 obtain⟨_,o,b,_⟩:=I.ok.funs.mem c
 exact absurd (Qqq (Qiq b) (QAq I.sz h)) (Nat.lt_irrefl _)
def Inv.cne(I:Inv X pins σ H s):∀x c,X.env.cells.lookup x=some c->c≠X.env.locals:=λx c e z=>by
 obtain⟨v,o,f,d⟩:=I.cell x c e
 obtain⟨m,⟨i,h,g,b,a,_⟩,_⟩:=I.loc
 rw[z,b] at f;cases f;rw[a] at d;cases d
theorem Inv.funs(I:Inv X pins σ H s):s.heap.FunFrames X.base X.outer:=by
 have f:∀(l:List Env),(∀b∈Cd l,b∈X.fs)->X.s₀.heap.FunFrames X.base l->s.heap.FunFrames X.base l:=by
  intro l
  induction l with
  |nil=>intro _ _;trivial
  | cons j r q=>
    intro g m
    obtain⟨i,⟨L,o,d,p,k,h⟩,n⟩:=m
    have c:L∈X.fs:=g L (by unfold Cd;rw[List.filterMap_cons,d];exact QBq)
    obtain⟨t,e⟩:=I.base.slot L o k (I.ok.frf L c) c λz=>I.ok.exfs L z c
    exact⟨i,⟨L,_,d,p,e,h⟩,q (λb a=>g b (by unfold Cd;rw[List.filterMap_cons,d];exact Qpq _ a)) n⟩
 exact f X.outer (λ_ a=>a) I.ok.funs
def Inv.stack(I:Inv X pins σ H s):s.heap.FunFrames X.base X.stack:=by
 rcases I.ok.stk with e|⟨e,a⟩
 ·rw[e];exact I.funs
 ·rw[e]
  obtain⟨m,b,_⟩:=I.loc
  refine .cons (by rw[I.ok.kind];decide) a b ?_ I.funs
  exact Heap.get?_none_of_le (QAq I.ok.bsz I.ok.above)
def Inv.stkSub(I:Inv X pins σ H s):∀b∈Cd X.stack,b∈X.env.locals::X.fs:=λb a=>by
 rcases I.ok.stk with e|⟨e,c⟩
 ·rw[e] at a;exact Qpq _ a
 ·rw[e] at a
  unfold Cd at a
  rw[List.filterMap_cons,c] at a
  exact a
def Inv.stkFree(I:Inv X pins σ H s):∀b∈Cd X.stack,H b=none:=λb a=>by
 rcases Qsq.mp (I.stkSub b a) with e|a
 ·rw[e];exact I.free
 ·obtain⟨_,o,c,_⟩:=I.ok.funs.mem a
  exact I.base.free b o c (I.ok.frf b a) λz=>I.ok.exfs b z a
def Inv.step{g':Array GenState}{t':Nat}{d':Drawn}{ch:List Addr}(I:Inv X pins σ H s)
  (h:∀b∈ch,(b∈X.ex\/X.s₀.heap.objs.size<=b)/\b≠X.env.locals/\(∀x c,X.env.cells.lookup x=some c->c≠b)/\∀p∈X.pn++pins,p.1≠b)
  (keep:∀b o,b≠X.env.locals->b∉X.fs->b∉ch->s.heap.get? b=some o->H b=none->h'.get? b=some o)
  (slot:∀b o,b≠X.env.locals->b∈X.fs->b∉ch->s.heap.get? b=some o->H b=none->∃J,h'.get? b=some {o with slots:=J}) (free:∀b o,b∉ch->s.heap.get? b=some o->H b=none->H' b=none)
  (there:∀b o,b∉ch->s.heap.get? b=some o->∃F,h'.get? b=some F)
  (tups:∀b xs,H b=some (.tup xs)->H' b=some (.tup xs)) (frzs:∀b o u,H b=some (.frz o u)->H' b=some (.frz o u)) (tbls:∀b ps,H b=some (.tbl ps)->∃more,H' b=some (.tbl (ps++more)))
  (ns:∀m,s.heap.Ns X.env.locals m->h'.Ns X.env.locals m) (K:l_ X.prog X.w H' h') (S:AllBare g'):
  Inv X pins σ H' {s with heap:=h',gens:=g',drawn:=d',toks:=t'}:=by
 have B:∀b o,X.s₀.heap.get? b=some o->b≠X.env.locals:=λb o e=>Qwq (Qqq (Qiq e) I.ok.above)
 have j:∀b o,X.s₀.heap.get? b=some o->b∉X.ex->b∉ch:=λb o e a y=>by
  rcases(h b y).1 with z|z
  ·exact a z
  ·exact absurd (Qqq (Qiq e) z) (Nat.lt_irrefl _)
 have f:∀x c,X.env.cells.lookup x=some c->∀v,s.heap.IsCell c v->h'.IsCell c v:=λx c e v U=>by
  obtain⟨o,A,G⟩:=U
  have g:c∉ch:=λz=>(h c z).2.2.1 x c e rfl
  by_cases Q:c∈X.fs
  ·obtain⟨J,q⟩:=slot c o (I.cne x c e) Q g A (I.freeC x c e)
   exact⟨_,q,G⟩
  ·exact⟨o,keep c o (I.cne x c e) Q g A (I.freeC x c e),G⟩
 refine⟨I.ok,I.os,S,⟨λb o e n y a=> ?_,λb o e n y a=> ?_,λb o e n a=> ?_,λb o e a=> ?_,λb xs e=>tups b xs (I.base.tups b xs e),λb o xs e=>frzs b o xs (I.base.frzs b o xs e),λb ps e=> ?_⟩,?_,λx c e=> ?_,?_,λx c e=> ?_,λp N=> ?_,K,I.len⟩
 ·exact keep b o (B b o e) y (j b o e a) (I.base.keep b o e n y a) (I.base.free b o e n a)
 ·obtain⟨J,t⟩:=I.base.slot b o e n y a
  obtain⟨L,C⟩:=slot b _ (B b o e) y (j b o e a) t (I.base.free b o e n a)
  exact⟨L,C⟩
 ·obtain⟨F,t⟩:=I.base.there b o e a
  exact free b F (j b o e a) t (I.base.free b o e n a)
 ·obtain⟨F,t⟩:=I.base.there b o e a
  exact there b F (j b o e a) t
 ·obtain⟨Y,t⟩:=I.base.tbls b ps e
  obtain⟨R,C⟩:=tbls b _ t
  exact⟨Y++R,by rw[C,Array.append_assoc]⟩
 ·obtain⟨m,Z,W⟩:=I.loc
  refine⟨m,ns m Z,λi x v t C e3=> ?_⟩
  obtain⟨u,r,l⟩:=W i x v t C e3
  refine⟨u,r,?_⟩
  rcases l with l|⟨k,c,e,z⟩
  ·exact .inl l
  ·exact .inr ⟨k,c,e,f x c e _ z⟩
 ·obtain⟨v,z⟩:=I.cell x c e
  exact⟨v,f x c e v z⟩
 ·obtain⟨m,⟨o,_,_,A,_⟩,_⟩:=I.loc
  exact free _ o (λz=>(h _ z).2.1 rfl) A I.free
 ·obtain⟨v,o,A,G⟩:=I.cell x c e
  exact free c o (λz=>(h c z).2.2.1 x c e rfl) A (I.freeC x c e)
 ·obtain⟨e,n,M,P,d⟩:=I.pin p N
  have g:p.1∉ch:=λz=>(h p.1 z).2.2.2 p N rfl
  exact⟨keep p.1 p.2 M P g e n,free p.1 p.2 g e n,M,P,d⟩
def Inv.un{t':Nat}(I:Inv X pins σ H s)(u:Un X.fs [] H H' s.heap h')(g:l_ X.prog X.w H' h'):Inv X pins σ H' {s with heap:=h',toks:=t'}:=by
 obtain⟨m,⟨o,p,v,h,r⟩,_⟩:=id I.loc
 obtain⟨l,j⟩:=u.any h I.free (by simp)
 exact I.step (g':=s.gens) (d':=s.drawn) (ch:= []) (λ_ z=>nomatch z) (λb o _ c _ e n=>u.keep b o e n c (by simp)) (λb o _ c _ e n=>u.slot b o e n c (by simp)) (λb o _ e n=>u.free b o e n (by simp)) (λb o _ e=>u.there b o e (by simp)) u.tups u.frzs u.tbls (λt k=>by
  obtain⟨q,f,d,a,i⟩:=k
  rw[h] at a;cases a
  exact⟨_,f,d,j,i⟩) g I.bare
def Inv.call{g':Array GenState}{t':Nat}{d':Drawn}{ch:List Addr}(I:Inv X pins σ H s)(u:Un (Cd X.stack) ch H H' s.heap h')(j:l_ X.prog X.w H' h')(t:AllBare g')
  (f:∀b∈ch,(b∈X.ex\/X.s₀.heap.objs.size<=b)/\b≠X.env.locals/\(∀x c,X.env.cells.lookup x=some c->c≠b)/\∀p∈X.pn++pins,p.1≠b):
  Inv X pins σ H' {s with heap:=h',gens:=g',drawn:=d',toks:=t'}:=by
 obtain⟨m,⟨o,A,F,k,r⟩,_⟩:=id I.loc
 obtain⟨y,h⟩:=u.any k I.free λz=>(f _ z).2.1 rfl
 exact I.step (ch:=ch) f (λb o h q a e n=>u.keep b o e n (λz=>(Qsq.mp (I.stkSub b z)).elim h q) a) (λb o _ _ a e n=>u.any e n a) (λb o a e n=>u.free b o e n a) (λb o a e=>u.there b o e a) u.tups u.frzs u.tbls (λC v=>by
  obtain⟨B,i,g,d,l⟩:=v
  rw[k] at d;cases d
  exact⟨_,i,g,h,l⟩) j t
def Inv.turned{t':Nat}{it:Addr}(I:Inv X pins σ H s)(k:∀b o,b≠it->s.heap.get? b=some o->h'.get? b=some o)(w:H it=none)(f:it≠X.env.locals)
  (i:it∈X.ex\/X.s₀.heap.objs.size<=it) (g:∀x c,X.env.cells.lookup x=some c->c≠it) (t:∀p∈X.pn++pins,p.1≠it):Inv X pins σ H {s with heap:=h',toks:=t'}:=by
 have d:∀b u,H b=some u->b≠it:=λb u e z=>by rw[z,w] at e;cases e
 refine I.step (g':=s.gens) (d':=s.drawn) (ch:= [it]) (λb h=> ?_) (λb o _ _ a e _=>k b o (λz=>a (by simp[z])) e) (λb o _ _ a e _=>⟨o.slots,k b o (λz=>a (by simp[z])) e⟩) (λ_ _ _ _ n=>n)
  (λb o a e=>⟨o,k b o (λz=>a (by simp[z])) e⟩) (λ_ _ e=>e) (λ_ _ _ e=>e) (λb B e=>⟨#[],by rw[e];simp⟩) (λm y=> ?_) (λb u e=> ?_) I.bare
 ·have e:b=it:=by simpa using h
  subst e
  exact⟨i,f,g,t⟩
 ·obtain⟨o,l,A,j,r⟩:=y
  exact⟨o,l,A,k _ o (Ne.symm f) j,r⟩
 ·refine(I.hok b u e).stay (λc v a q=>k c v ?_ q) (λ_ q=>q) λ_ _ q=>q
  rcases a with z|z
  ·rw[z];exact d b u e
  ·exact d c _ z
def Inv.tok(I:Inv X pins σ H s)(t:Nat):Inv X pins σ H {s with toks:=t}:=I.un (h':=s.heap) (t':=t) Un.refl I.hok
def Inv.kept{t':Nat}(I:Inv X pins σ H s)(k:∀b u,s.heap.get? b=some u->h'.get? b=some u):Inv X pins σ H {s with heap:=h',toks:=t'}:=I.un (Un.kept k) (I.hok.kept k)
def Inv.laid{a:Addr}{o:HO}{t':Nat}(I:Inv X pins σ H s)(k:∀b u,s.heap.get? b=some u->h'.get? b=some u)(c:s.heap.objs.size<=a)(new:bR X.prog X.w (upd H a o) h' a o):
  Inv X pins σ (upd H a o) {s with heap:=h',toks:=t'}:=I.un (Un.laid k c (I.hok.fresh c)) (I.hok.laid k c new)
def Inv.write{x e:Addr}{o:HO}{t':Nat}(I:Inv X pins σ H s)(c:IE (H x))(he:e=x\/H e=some (.own x))(k:∀b u,b≠e->s.heap.get? b=some u->h'.get? b=some u)(a:∃u,h'.get? e=some u)
  (new:bR X.prog X.w (upd H x o) h' x o):Inv X pins σ (upd H x o) {s with heap:=h',toks:=t'}:=I.un (Un.write c he k a) (I.hok.write c he k a new)
def Inv.pins_of{a:List (Addr×Obj)}(I:Inv X pins σ H s)(h:∀p∈a,s.heap.get? p.1=some p.2/\H p.1=none/\p.1≠X.env.locals/\p.1∉X.fs/\∀v,p.2.data≠.cell v):Inv X a σ H s:=
 ⟨I.ok,I.os,I.bare,I.base,I.loc,I.cell,I.free,I.freeC,λp b=>(mQa.mp b).elim (λz=>I.pin p (List.mem_append_left _ z)) (h p),I.hok,I.len⟩
def wj{N:List Str}(d:N.Nodup){i j:Nat}{x:Str}(a:N[i]?=some x)(b:N[j]?=some x):i=j:=by
 obtain⟨g,c⟩:=gQs.mp a
 obtain⟨f,e⟩:=gQs.mp b
 exact(List.getElem_inj d).mp (c.trans e.symm)
def Bw{M:Model}{A:Around}{E:Value->Shared->Prop}{i:Nat}{x:Str}{v:V}{u:Value}{Q:Unit->Shared->Prop}(I:Inv X pins σ H s)(hN:X.N.Nodup)(hi:X.N[i]?=some x)(B:Loc X.env.scope x)(r:RelV v u)
  (h:∀s',Inv X pins (σ.set i (some v)) H s'->(∃a,Heap.SameBut a s.heap s'.heap/\(a=X.env.locals\/X.env.cells.lookup x=some a))->Q () s') (hf:X.fn x=true\/X.env.scope.names.lookup x=some .local:=by first|exact .inl rfl|exact .inr rfl|assumption):wpAny M A (storeName X.env x u) Q E s:=by
 obtain⟨m,hn,hl⟩:=id I.loc
 have Z:(X.env.scope.kind==.class||(X.env.scope.kind==.module&&X.env.locals !=X.env.globals))=false:=by rw[I.ok.kind];rfl
 have J:i<σ.length:=by rw[I.len];exact(gQs.mp hi).1
 have L:=I.cne
 have g:∀{a:Addr} {h':Heap},(∃o,s.heap.get? a=some o/\H a=none)->Heap.SameBut a s.heap h'->l_ X.prog X.w H h':=λ{a h'} ha f b ob e=>by
  obtain⟨_,_,C⟩:=ha
  refine(I.hok b ob e).stay (λc w' t q=>(f.2 c ?_).trans q) (λ_ q=>q) λ_ _ q=>q
  rintro rfl
  rcases t with rfl|t
  ·rw[C] at e;cases e
  ·rw[C] at t;cases t
 rcases B with G|G
 ·refine wpAny_storeName_local G hn (λh' a0 f=> ?_) Z
  obtain⟨oL,_,_,a1,_⟩:=id hn
  refine h _ ⟨I.ok,I.os,I.bare,⟨λb o e n K B=> ?_,λb o e n K B=> ?_,I.base.free,λb o e B=> ?_,I.base.tups,I.base.frzs,I.base.tbls⟩,⟨_,a0,λj y v' l F e3=> ?_⟩,λy c e=> ?_,I.free,I.freeC,λp hp=> ?_,g ⟨oL,a1,I.free⟩ f,by simpa using I.len⟩ ⟨_,f,.inl rfl⟩
  ·exact(f.2 b (Qwq (Qqq (Qiq e) I.ok.above))).trans (I.base.keep b o e n K B)
  ·obtain⟨sl,l⟩:=I.base.slot b o e n K B
   exact⟨sl,(f.2 b (Qwq (Qqq (Qiq e) I.ok.above))).trans l⟩
  ·obtain⟨o',l⟩:=I.base.there b o e B
   exact⟨o',(f.2 b (Qwq (Qqq (Qiq e) I.ok.above))).trans l⟩
  ·by_cases P:j=i
   ·subst P
    rw[hi] at l;cases l
    rw[Qyq J] at F
    cases F
    exact⟨u,r,.inl ⟨G,by simp⟩⟩
   ·rw[QKq (Ne.symm P)] at F
    obtain⟨u',r',q⟩:=hl j y v' l F e3
    refine⟨u',r',?_⟩
    rcases q with⟨k,e⟩|⟨k,c,e,z⟩
    ·refine .inl ⟨k,?_⟩
     have:y≠x:=λe=>P (wj hN l (e▸hi))
     simp[this,e]
    ·exact .inr ⟨k,c,e,z.sameBut f (L y c e)⟩
  ·obtain⟨w',z⟩:=I.cell y c e
   exact⟨w',z.sameBut f (L y c e)⟩
  ·obtain⟨e,n,ne,nf,d⟩:=I.pin p hp
   exact⟨(f.2 p.1 ne).trans e,n,ne,nf,d⟩
 ·have R:X.fn x=true:=by
   rcases hf with z|z
   ·exact z
   ·rw[z] at G;cases G
  obtain⟨c,t⟩:=I.ok.has x (.inl G)
  obtain⟨w',z⟩:=I.cell x c t
  refine wpAny_storeName_cell I.ok.kind G t z (λh' Y f=> ?_)
  obtain⟨oc,S,U⟩:=id z
  refine h {s with heap:=h'} ⟨I.ok,I.os,I.bare,⟨λb o e n K B=> ?_,λb o e n K B=> ?_,I.base.free,λb o e B=> ?_,I.base.tups,I.base.frzs,I.base.tbls⟩,⟨m,hn.sameBut f (Ne.symm (L x c t)),λj y v' l F e3=> ?_⟩,λy c' e=> ?_,I.free,I.freeC,λp hp=> ?_,g ⟨oc,S,I.freeC x c t⟩ f,by simpa using I.len⟩ ⟨c,f,.inr t⟩
  ·exact(f.2 b (Qwq (Qqq (Qiq e) (I.ok.cab x c R t)))).trans (I.base.keep b o e n K B)
  ·obtain⟨sl,l⟩:=I.base.slot b o e n K B
   exact⟨sl,(f.2 b (Qwq (Qqq (Qiq e) (I.ok.cab x c R t)))).trans l⟩
  ·obtain⟨o',l⟩:=I.base.there b o e B
   exact⟨o',(f.2 b (Qwq (Qqq (Qiq e) (I.ok.cab x c R t)))).trans l⟩
  ·by_cases P:j=i
   ·subst P
    rw[hi] at l;cases l
    rw[Qyq J] at F
    cases F
    exact⟨u,r,.inr ⟨.inl G,c,t,Y⟩⟩
   ·rw[QKq (Ne.symm P)] at F
    obtain⟨u',r',q⟩:=hl j y v' l F e3
    refine⟨u',r',?_⟩
    rcases q with q|⟨k,c',e,z'⟩
    ·exact .inl q
    ·refine .inr ⟨k,c',e,z'.sameBut f ?_⟩
     rintro rfl
     exact P (wj hN l (I.ok.inj _ _ _ e t▸hi))
  ·by_cases W:c'=c
   ·subst W;exact⟨_,Y⟩
   ·obtain⟨w2,z2⟩:=I.cell y c' e
    exact⟨w2,z2.sameBut f W⟩
  ·obtain⟨e,n,ne,nf,d⟩:=I.pin p hp
   refine⟨(f.2 p.1 ?_).trans e,n,ne,nf,d⟩
   intro q
   rw[q,S] at e
   have q':oc=p.2:=QdQ e
   exact d w' (by rw[←q'];exact U)
def mP{M:Model}{A:Around}{E:Value->Shared->Prop}{i:Nat}{x:Str}{v:V}{u:Value}{Q:Unit->Shared->Prop}(I:Inv X pins σ H s)(d:X.N.Nodup)(hi:X.N[i]?=some x)(e:Loc X.env.scope x)(r:RelV v u)
  (h:∀a,Inv X pins (σ.set i (some v)) H a->Q () a) (b:X.fn x=true\/X.env.scope.names.lookup x=some .local:=by first|exact .inl rfl|exact .inr rfl|assumption):wpAny M A (storeName X.env x u) Q E s:=
 Bw I d hi e r (λa c _=>h a c) b
def Inv.call'{a:Shared}{ch:List Addr}(I:Inv X pins σ H s)(g:a.os=s.os)(u:Un (Cd X.stack) ch H H' s.heap a.heap)(d:l_ X.prog X.w H' a.heap)(h:AllBare a.gens)
  (f:∀b∈ch,(b∈X.ex\/X.s₀.heap.objs.size<=b)/\b≠X.env.locals/\(∀x c,X.env.cells.lookup x=some c->c≠b)/\∀p∈X.pn++pins,p.1≠b):Inv X pins σ H' a:=by
 obtain⟨h',g',d',t',i⟩:=a
 have e:i=s.os:=g
 subst e
 exact I.call (g':=g') (t':=t') (d':=d') u d h f
end
abbrev XK:=Value->Option Addr->Hp->Prop
abbrev St:=List (Option V)
abbrev VK:=V->Hp->Prop
abbrev TE:=St->Hp->VK->Prop
abbrev TT:=St->Hp->(Bool->Hp->Prop)->Prop
abbrev TA:=St->Hp->(List V->Hp->Prop)->Prop
structure Ends where
 nx:St->Hp->Prop
 rt:VK
 bk:St->Hp->Prop:=λ_ _=>False
 ct:St->Hp->Prop:=λ_ _=>False
abbrev TS:=Ends->St->Hp->Prop
def EP(X:Cx)(a:List (Addr×Obj))(d:St)(Q:VK)(u:Value)(c:Shared):Prop:=∃v b,Inv X a d b c/\RelV v u/\Q v b
def TP(X:Cx)(a:List (Addr×Obj))(e:St)(Q:Bool->Hp->Prop)(b:Bool)(d:Shared):Prop:=∃c,Inv X a e c d/\Q b c
def AP(X:Cx)(a:List (Addr×Obj))(e:St)(Q:List V->Hp->Prop)(us:List Value)(d:Shared):Prop:=∃b c,Inv X a e c d/\bo b us/\Q b c
def SP(X:Cx)(b:List (Addr×Obj))(D:Ends)(f:Flow)(d:Shared):Prop:=
 match f with
 |.next=>∃a c,Inv X b a c d/\D.nx a c
 |.brk=>∃a c,Inv X b a c d/\D.bk a c
 |.cont=>∃a c,Inv X b a c d/\D.ct a c
 |.ret u=>∃v a c,Inv X b a c d/\RelV v u/\D.rt v c
def PE(X:Cx)(e:Expr)(t:TE):Prop:=
 ∀(a:List (Addr×Obj)) (s:Shared) (b:St) (H:Hp) (Q:VK),Inv X a b H s->t b H Q->wpAny (model X.prog X.w) X.A (eval e X.env) (EP X a b Q) X.xe s
def PT(X:Cx)(e:Expr)(t:TT):Prop:=
 ∀(a:List (Addr×Obj)) (s:Shared) (b:St) (H:Hp) (Q:Bool->Hp->Prop),Inv X a b H s->t b H Q->wpAny (model X.prog X.w) X.A (isTrue e X.env (eval e X.env)) (TP X a b Q) X.xe s
def PW(X:Cx)(e:Expr)(t:TT):Prop:=
 ∀(b:Sem Value) (a:List (Addr×Obj)) (s:Shared) (c:St) (H:Hp) (Q:Bool->Hp->Prop),Inv X a c H s->t c H Q->wpAny (model X.prog X.w) X.A (isTrue e X.env b) (TP X a c Q) X.xe s
def PW.pt{X:Cx}{e:Expr}{t:TT}(h:PW X e t):PT X e t:=h _
def PA(X:Cx)(d:List Expr)(t:TA):Prop:=
 ∀(b:Pos) (a:List (Addr×Obj)) (s:Shared) (c:St) (H:Hp) (Q:List V->Hp->Prop),Inv X a c H s->t c H Q->wpAny (model X.prog X.w) X.A (spliced (backTo b (starEach d X.env))) (AP X a c Q) X.xe s
def PS(X:Cx)(st:Stmt)(t:TS):Prop:=
 ∀(a:List (Addr×Obj)) (s:Shared) (b:St) (H:Hp) (D:Ends),Inv X a b H s->t D b H->wpAny (model X.prog X.w) X.A (exec st X.env) (SP X a D) X.xe s
def rO(X:Cx)(st:List Stmt)(t:TS):Prop:=
 ∀(a:List (Addr×Obj)) (s:Shared) (b:St) (H:Hp) (D:Ends),Inv X a b H s->t D b H->wpAny (model X.prog X.w) X.A (execs st X.env) (SP X a D) X.xe s
def bZ{α:Type}{t:Sem α}{Q b:α->Shared->Prop}{M:Model}{A:Around}{E:Value->Shared->Prop}{s:Shared}(h:wpAny M A t Q E s)(c:∀a s,Q a s->b a s):wpAny M A t b E s:=QRq h c λ_ _ x=>x
section
variable{X:Cx}
def Hd(i:Nat):TE:=λa H Q=>∃v,a[i]?=some (some v)/\Q v H
def tC(v:V):TE:=λ_ H Q=>Q v H
def CD{i:Nat}{x:Str}{pos:Pos}(o:X.N[i]?=some x)(hv:D2 X.env.scope x)(hd:(x==("__debug__":Str))=false:=by decide)(g:(x==("__classdict__":Str))=false:=by decide):PE X (.Name x pos) (Hd i):=by
 intro f s n H Q I h
 obtain⟨v,e,h⟩:=h
 obtain⟨m,p,k⟩:=I.loc
 obtain⟨u,r,l⟩:=k i x v o e hv
 have b:EP X f n Q u s:=⟨v,H,I,r,h⟩
 rcases l with⟨d,q⟩|⟨d,c,j,a⟩
 ·exact wpAny_Name (wpAny_loadName_local I.ok.kind d p q b) hd
 ·rcases d with d|d
  ·exact wpAny_Name (wpAny_loadName_cell I.ok.kind d j a b) hd
  ·exact wpAny_Name (wpAny_loadName_free I.ok.kind d j a b g) hd
def Hm{i j pos}:PE X (.Constant (.int i) j pos) (tC (.int i)):=λ_ _ _ H _ I h=>wpAny_Constant_int ⟨.int i,H,I.tok _,⟨_,rfl⟩,h⟩
def I0{b j pos}:PE X (.Constant (.bool b) j pos) (tC (.bl b)):=λ_ _ _ H _ I h=>Constant_bool ⟨.bl b,H,I,rfl,h⟩
def GS{j pos}:PE X (.Constant .none j pos) (tC .non):=λ_ _ _ H _ I h=>Constant_none ⟨.non,H,I,rfl,h⟩
def GB{x j pos}:PE X (.Constant (.str x) j pos) (tC (.str x)):=λ_ _ _ H _ I h=>Calls.Constant_str ⟨.str x,H,I.tok _,⟨_,rfl⟩,h⟩
def Gl(X:Cx)(x:Str):Prop:=X.env.kindOf x=some .globalImplicit
def vU{E:Value->Shared->Prop}{a:List (Addr×Obj)}{s:Shared}{d:St}{H:Hp}{x:Str}{u:Value}{pos:Pos}{Q:Value->Shared->Prop}(I:Inv X a d H s)(c:Gl X x)(b:X.mg x=some u)(h:Q u s)
  (hd:(x==("__debug__":Str))=false:=by decide):wpAny (model X.prog X.w) X.A (eval (.Name x pos) X.env) Q E s:=
 Calls.Name_function_global I.ok.kind c (Calls.loadGlobal_global (by rw[I.ok.glob];exact I.mod.glob.keeps I.bk) b h) hd
def jM{E:Value->Shared->Prop}{a:List (Addr×Obj)}{s:Shared}{e:St}{H:Hp}{x:Str}{u:Value}{pos:Pos}{Q:Value->Shared->Prop}(I:Inv X a e H s)(c:Gl X x)(g:X.mg x=none)(hv:bootBuiltins x=some u)(h:Q u s)
  (f:x≠"__name__":=by decide) (hd:(x==("__debug__":Str))=false:=by decide):wpAny (model X.prog X.w) X.A (eval (.Name x pos) X.env) Q E s:=by
 obtain⟨i,d,b⟩:=I.mod.blt
 exact Calls.Name_function_global I.ok.kind c (Calls.loadGlobal_builtin (by rw[I.ok.glob];exact I.mod.glob.keeps I.bk) g (by rw[I.ok.blt];exact d.keeps I.bk) ((b x f).trans hv) h) hd
def Ad{x:Str}{v:V}{u:Value}{pos:Pos}(b:Gl X x)(a:X.mg x=some u)(r:RelV v u)(hd:(x==("__debug__":Str))=false:=by decide):PE X (.Name x pos) (tC v):=
 λ_ _ _ H _ I h=>vU I b a ⟨v,H,I,r,h⟩ hd
def Ez{x:Str}{v:V}{u:Value}{pos:Pos}(b:Gl X x)(a:X.mg x=none)(hv:bootBuiltins x=some u)(r:RelV v u)(c:x≠"__name__":=by decide)(hd:(x==("__debug__":Str))=false:=by decide):PE X (.Name x pos) (tC v):=
 λ_ _ _ H _ I h=>jM I b a hv ⟨v,H,I,r,h⟩ c hd
variable{a b:Expr}{ta tb:TE}{pos:Pos}
def PC(X:Cx)(g:CmpOp)(a b:Expr)(t:TE):Prop:=
 ∀ (c:List (Addr×Obj)) (s:Shared) (f:St) (H:Hp) (Q:VK),Inv X c f H s->t f H Q→
   wpAny (model X.prog X.w) X.A (eval a X.env) (λv e=>wpAny (model X.prog X.w) X.A (eval b X.env) (λu d=>wpAny (model X.prog X.w) X.A (compareOp g v u) (EP X c f Q) X.xe d) X.xe e) X.xe s
def tB(t:TE):TT:=λd H Q=>t d H λx H1=>∃c,x=.bl c/\Q c H1
def G_{g:CmpOp}{t:TE}(h:PC X g a b t)(f:behindInMarks g b=false:=by first|exact nobehind _ (by decide) (by decide)|rfl):PT X (.Compare a [g] [b] pos) (tB t):=by
 intro e s n H Q I m
 refine wpAny_isTrue_Compare1 (bZ (h e s n H _ I m) λv p f=>bZ f λu o i=>bZ i λc r ⟨x,H1,k,j,l⟩=> ?_) f
 obtain⟨d,rfl,q⟩:=l
 cases j
 exact wpAny_truthy_bool ⟨H1,k,q⟩
variable{tA tB':TT}{rest:List Expr}
def Ke(t u:TT):TT:=λd H Q=>t d H λc H1=>if c=true then u d H1 Q else Q false H1
def Mt(t u:TT):TT:=λd H Q=>t d H λc H1=>if c=true then Q true H1 else u d H1 Q
def K_(t:TT):TT:=λd H Q=>t d H λc H1=>Q (!c) H1
def EK(f:PT X a tA):PW X (.BoolOp .And [a] pos) tA:=by
 intro i d s g H Q I h
 refine isTrue_and (bZ (f d s g H Q I h) λc j e=> ?_)
 cases c with
 |true=>exact isTrue_and_nil e
 |false=>exact e
def Gx(f:PT X a tA):PW X (.BoolOp .Or [a] pos) tA:=by
 intro i d s g H Q I h
 refine isTrue_or (bZ (f d s g H Q I h) λc j e=> ?_)
 cases c with
 |false=>exact isTrue_or_nil e
 |true=>exact e
def Gv(i:PT X a tA)(l:PW X (.BoolOp .And (b::rest) pos) tB'):PW X (.BoolOp .And (a::b::rest) pos) (Ke tA tB'):=by
 intro j d s g H Q I h
 refine isTrue_and (bZ (i d s g H _ I h) λc k m=> ?_)
 obtain⟨H1,f,e⟩:=m
 cases c with
 |true=>exact l j d k g H1 Q f e
 |false=>exact⟨H1,f,e⟩
def Jb(i:PT X a tA)(l:PW X (.BoolOp .Or (b::rest) pos) tB'):PW X (.BoolOp .Or (a::b::rest) pos) (Mt tA tB'):=by
 intro j d s g H Q I h
 refine isTrue_or (bZ (i d s g H _ I h) λc k m=> ?_)
 obtain⟨H1,f,e⟩:=m
 cases c with
 |true=>exact⟨H1,f,e⟩
 |false=>exact l j d k g H1 Q f e
def F5(e:PT X a tA):PT X (.UnaryOp .Not a pos) (K_ tA):=by
 intro d s f H Q I h
 exact isTrue_not (e d s f H (λc H1=>Q (!c) H1) I h)
def Ic(ta tb:TE):TE:=λd H Q=>ta d H λx H1=>∃c,x=.bl c/\if c=true then tb d H1 Q else Q (.bl false) H1
def IQ(ta:TE):TE:=λd H Q=>ta d H λx H1=>∃c,x=.bl c/\Q (.bl (!c)) H1
def Gh{op}{t:TE}(h:PE X a t):PE X (.BoolOp op [a] pos) t:=λc s e H Q I d=>BoolOp_one (h c s e H Q I d)
def FN(m:PE X a ta)(j:PE X (.BoolOp .And (b::rest) pos) tb):PE X (.BoolOp .And (a::b::rest) pos) (Ic ta tb):=by
 intro d s g H Q I h
 refine BoolOp_and (bZ (m d s g H _ I h) λv k l=> ?_)
 obtain⟨x,H1,f,i,e⟩:=l
 obtain⟨c,rfl,e⟩:=e
 cases i
 refine wpAny_truthy_bool ?_
 cases c with
 |true=>exact j d k g H1 Q f e
 |false=>exact⟨.bl false,H1,f,rfl,e⟩
def G9(f:PE X a ta):PE X (.UnaryOp .Not a pos) (IQ ta):=by
 intro d s k H Q I h
 refine UnaryOp_ (bZ (f d s k H _ I h) λv l j=> ?_)
 obtain⟨x,H1,i,g,e⟩:=j
 obtain⟨c,rfl,e⟩:=e
 cases g
 exact not_of (wpAny_truthy_bool ⟨.bl (!c),H1,i,rfl,e⟩)
def Mv(t:TT)(ta tb:TE):TE:=λd H Q=>t d H λc H1=>if c=true then ta d H1 Q else tb d H1 Q
def CO{c:Expr}(n:PT X c tA)(k:PE X a ta)(l:PE X b tb):PE X (.IfExp c a b pos) (Mv tA ta tb):=by
 intro e s f H Q I h
 refine wpAny_IfExp (bZ (n e s f H _ I h) λd i m=> ?_)
 obtain⟨H1,j,g⟩:=m
 cases d with
 |true=>exact k e i f H1 Q j g
 |false=>exact l e i f H1 Q j g
end
def gx(K:PySem.W.Frag)(H:Hp)(a:Addr)(xs:List V):Prop:=
 Rd H a (.lst xs)∨
  ∃(o:Obj) (b:Array Value) (n:Nat),K.lookup a=some o/\o.cls=.type "list" /\o.dict=none/\o.data=.seq b n/\b.size<=sizeLine/\bo xs b.toList
def gM(K:PySem.W.Frag)(H:Hp)(a:Addr)(xs:List V):Prop:=
 Rd H a (.tup xs)∨
  ∃(o:Obj) (b:Array Value) (n:Nat),K.lookup a=some o/\o.cls=.type "tuple" /\o.data=.seq b n/\b.size<=sizeLine/\bo xs b.toList
def Lk:Value->Option V
 |.none=>some .non
 |.bool b=>some (.bl b)
 |.int i _=>some (.int i)
 |.str x _=>some (.str x)
 |.bytes b _=>some (.byt b)
 |.float b _=>some (.flt b)
 |.ref a=>some (.ref a)
 |.type n=>some (.ty n)
 |_=>none
def RelV.abs{x:V}{u:Value}(r:RelV x u):Lk u=some x:=by
 cases x with
 |non=>cases r;rfl
 |bl _=>cases r;rfl
 |int _=>obtain⟨t,rfl⟩:=r;rfl
 |str _=>obtain⟨t,rfl⟩:=r;rfl
 |byt _=>obtain⟨t,rfl⟩:=r;rfl
 |flt _=>obtain⟨t,rfl⟩:=r;rfl
 |ref _=>cases r;rfl
 |ty _=>cases r;rfl
def RelV.inj{x y:V}{u:Value}(r:RelV x u)(q:RelV y u):x=y:=QdQ (r.abs.symm.trans q.abs)
theorem bo.inj:∀{xs ys:List V} {us:List Value},bo xs us->bo ys us->xs=ys
 |_,_,_,.nil,.nil=>rfl
 |_,_,_,.cons r t,.cons r' t'=>by rw[r.inj r',bo.inj t t']
section
variable{X:Cx}{pins:List (Addr×Obj)}{σ:St}{H:Hp}{s:Shared}{a:Addr}{xs ys:List V}
def gx.of{K:PySem.W.Frag}(h:H a=some (.lst xs)):gx K H a xs:=.inl (.inl h)
def gM.of{K:PySem.W.Frag}(h:H a=some (.tup xs)):gM K H a xs:=.inl (.inl h)
def Inv.list(I:Inv X pins σ H s)(h:gx X.K H a xs):∃b:List Value,bo xs b/\PlainL s.heap a b.toArray/\xs.length<=sizeLine:=by
 rcases h with h|⟨o,b,n,d,g,c,f,i,r⟩
 ·obtain⟨z,b,n,r,e⟩:=h.ok I.hok
  exact⟨b,r,⟨_,n,e,rfl,rfl,rfl⟩,z⟩
 ·refine⟨b.toList,r,⟨o,n,I.kIn a o d,g,c,by simpa using f⟩,?_⟩
  have e:=r.length
  simp only[Array.length_toList] at e
  omega
def Inv.tuple(I:Inv X pins σ H s)(h:gM X.K H a xs):∃b:List Value,bo xs b/\IsTup s.heap a b.toArray/\xs.length<=sizeLine:=by
 rcases h with h|⟨o,b,n,c,f,d,g,r⟩
 ·obtain⟨z,b,r,p⟩:=h.ok I.hok
  exact⟨b,r,p.it,z⟩
 ·refine⟨b.toList,r,⟨o,I.kIn a o c,f,n,by simpa using d⟩,?_⟩
  have e:=r.length
  simp only[Array.length_toList] at e
  omega
def Inv.list_inj(I:Inv X pins σ H s)(h:gx X.K H a xs)(h':gx X.K H a ys):xs=ys:=by
 obtain⟨c,r,⟨o,n,e,_,_,d⟩,_⟩:=I.list h
 obtain⟨b,i,⟨l,k,g,_,_,f⟩,_⟩:=I.list h'
 rw[e] at g;cases g
 rw[d] at f
 injection f with j _
 have:c=b:=by simpa using congrArg Array.toList j
 subst this
 exact r.inj i
def Inv.tuple_inj(I:Inv X pins σ H s)(h:gM X.K H a xs)(h':gM X.K H a ys):xs=ys:=by
 obtain⟨c,r,⟨o,e,_,n,d⟩,_⟩:=I.tuple h
 obtain⟨b,i,⟨l,g,_,k,f⟩,_⟩:=I.tuple h'
 rw[e] at g;cases g
 rw[d] at f
 injection f with j _
 have:c=b:=by simpa using congrArg Array.toList j
 subst this
 exact r.inj i
end
abbrev Cx.wish(X:Cx)(E:Value->Shared->Prop):Cx:={X with xe:=E}
abbrev Cx.nox(X:Cx):Cx:=X.wish λ_ _=>False
def Cx.Ok.wish{X:Cx}(ok:X.Ok)(E:Value->Shared->Prop):(X.wish E).Ok:=
 ⟨ok.mod,ok.kind,ok.glob,ok.blt,ok.above,ok.inj,ok.has,ok.cab,ok.hd,ok.frames,ok.stk,ok.exf,ok.bs,ok.bsz,ok.noex,ok.exfs,ok.funs,ok.frf⟩
def Cx.Ok.unwish{X:Cx}{E:Value->Shared->Prop}(ok:(X.wish E).Ok):X.Ok:=
 ⟨ok.mod,ok.kind,ok.glob,ok.blt,ok.above,ok.inj,ok.has,ok.cab,ok.hd,ok.frames,ok.stk,ok.exf,ok.bs,ok.bsz,ok.noex,ok.exfs,ok.funs,ok.frf⟩
section
variable{X:Cx}{pins:List (Addr×Obj)}{σ:St}{H:Hp}{s:Shared}{E:Value->Shared->Prop}
def Inv.wish(I:Inv X pins σ H s)(E:Value->Shared->Prop):Inv (X.wish E) pins σ H s:=⟨I.ok.wish E,I.os,I.bare,I.base,I.loc,I.cell,I.free,I.freeC,I.pin,I.hok,I.len⟩
def Inv.unwish(I:Inv (X.wish E) pins σ H s):Inv X pins σ H s:=⟨I.ok.unwish,I.os,I.bare,I.base,I.loc,I.cell,I.free,I.freeC,I.pin,I.hok,I.len⟩
theorem SP.unwish{D:Ends}{f:Flow}{c:Shared}(h:SP (X.wish E) pins D f c):SP X pins D f c:=by
 cases f with
 |next=>obtain⟨a,b,I,q⟩:=h;exact⟨a,b,I.unwish,q⟩
 |brk=>obtain⟨a,b,I,q⟩:=h;exact⟨a,b,I.unwish,q⟩
 |cont=>obtain⟨a,b,I,q⟩:=h;exact⟨a,b,I.unwish,q⟩
 |ret u=>obtain⟨v,a,b,I,r,q⟩:=h;exact⟨v,a,b,I.unwish,r,q⟩
def rO.nox{st:List Stmt}{t:TS}(h:rO X.nox st t):rO X st t:=λpins s σ H D I a=>
 QRq (h pins s σ H D (I.wish _) a) (λ_ _ q=>q.unwish) λ_ _ z=>False.elim z
end
section
variable{X:Cx}{st:Stmt}{rest:List Stmt}{t u:TS}{e:Expr}{te:TE}{pos:Pos}
def IA:TS:=λD a H=>D.nx a H
def Kl(t u:TS):TS:=λD a H=>t {D with nx:=u D} a H
def D8:rO X [] IA:=λ_ _ a H _ I h=>wpAny_execs_nil ⟨a,H,I,h⟩
def BS(d:PS X st t)(c:rO X rest u):rO X (st::rest) (Kl t u):=by
 intro a s k H D I h
 refine wpAny_execs_cons (bZ (d a s k H {D with nx:=u D} I h) λf i q=> ?_)
 cases f with
 | next=>
   obtain⟨b,j,g,q⟩:=q
   exact c a i b j D g q
 |ret v=>exact q
 |brk=>exact q
 |cont=>exact q
def D5(b:PS X st t):rO X [st] t:=by
 intro a s c H D I h
 refine wpAny_execs_cons (bZ (b a s c H D I h) λf d q=> ?_)
 cases f with
 |next=>exact wpAny_execs_nil q
 |ret v=>exact q
 |brk=>exact q
 |cont=>exact q
def Inv.quiet{a:List (Addr×Obj)}{b:St}{H:Hp}{s:Shared}(I:Inv X a b H s):interactive X.env=false:=by simp[interactive,I.ok.kind]
def IV(te:TE):TS:=λD a H=>te a H λ_ H1=>D.nx a H1
def EH(he:PE X e te)(hs:swapsWith e none pos.line X.env=pure false:=by rfl):PS X (.Expr e pos) (IV te):=by
 intro a s b H D I h
 exact wpAny_Expr_any (bZ (he a s b H _ I h) λv g ⟨x,H1,d,f,c⟩=>⟨b,H1,d,c⟩) I.quiet hs
def KM(te:TE):TS:=λD a H=>te a H D.rt
def Ce(he:PE X e te):PS X (.Return (some e) pos) (KM te):=by
 intro a s b H D I h
 exact wpAny_Return_some (bZ (he a s b H _ I h) λv g ⟨x,H1,f,c,d⟩=>⟨x,b,H1,f,c,d⟩)
def Ld(c:TT)(t u:TS):TS:=λD a H=>c a H λb H1=>if b=true then t D a H1 else u D a H1
def Jy{c:Expr}{a b:List Stmt}{j:TT}(p:PT X c j)(o:rO X a t)(m:rO X b u):PS X (.If c a b pos) (Ld j t u):=by
 intro f s g H D I h
 refine wpAny_If (bZ (p f s g H _ I h) λd l n=> ?_)
 obtain⟨H1,i,k⟩:=n
 cases d with
 |true=>exact o f l g H1 D i k
 |false=>exact m f l g H1 D i k
def FW:TS:=λ_ _ _=>False
def B2:PS X st FW:=λ_ _ _ _ _ _ h=>h.elim
end
abbrev TG:=V->St->Hp->(St->Hp->Prop)->Prop
abbrev Dr:=List V->St->Hp->(St->Hp->Prop)->Prop
def PG(X:Cx)(a:Expr)(t:TG):Prop:=
 ∀ (b:List (Addr×Obj)) (s:Shared) (e:St) (H:Hp) (v:V) (u:Value) (Q:St->Hp->Prop),Inv X b e H s->RelV v u->t v e H Q→
   wpAny (model X.prog X.w) X.A (assign a X.env u) (λ_ f=>∃c d,Inv X b c d f/\Q c d) X.xe s
def AR(X:Cx)(ts:List Expr)(t:Dr):Prop:=
 ∀ (a:List (Addr×Obj)) (s:Shared) (f:St) (H:Hp) (d:List V) (c:List Value) (Q:St->Hp->Prop),Inv X a f H s->bo d c->t d f H Q→
   wpAny (model X.prog X.w) X.A (assignInOrder ((assignEach ts X.env).map (·.2)) c) (λ_ g=>∃b e,Inv X a b e g/\Q b e) X.xe s
abbrev Dp:=V->V->V->Hp->(Hp->Prop)->Prop
def GY(X:Cx)(t:Dp):Prop:=
 ∀ (a:List (Addr×Obj)) (s:Shared) (e:St) (H:Hp) (o i v:V) (d b u:Value) (Q:Hp->Prop),Inv X a e H s->RelV o d->RelV i b->RelV v u->t o i v H Q→
   wpAny (model X.prog X.w) X.A (setItem d b u) (λ_ f=>∃c,Inv X a e c f/\Q c) X.xe s
abbrev JI:=V->V->Hp->VK->Prop
def LZ(X:Cx)(c:Operator)(t:JI):Prop:=
 ∀ (a:List (Addr×Obj)) (s:Shared) (b:St) (H:Hp) (x y:V) (v u:Value) (Q:VK),Inv X a b H s->RelV x v->RelV y u->t x y H Q→
   wpAny (model X.prog X.w) X.A (inplaceOp c v u) (EP X a b Q) X.xe s
section
variable{X:Cx}{pos:Pos}
def mj(i:Nat):TG:=λv a H Q=>Q (a.set i (some v)) H
def vY{i:Nat}{x:Str}(d:X.N.Nodup)(hi:X.N[i]?=some x)(e:Loc X.env.scope x)(b:X.fn x=true\/X.env.scope.names.lookup x=some .local:=by first|exact .inl rfl|exact .inr rfl|assumption):PG X (.Name x pos) (mj i):=by
 intro a s g H v u Q I r h
 exact wpAny_assign_Name (mP I d hi e r (λf c=>⟨_,H,c,h⟩) b)
def Kz:Dr:=λb a H Q=>b= []/\Q a H
def IL(t:TG)(u:Dr):Dr:=λb d H Q=>∃v r,b=v::r/\t v d H λa c=>u r a c Q
def ER:AR X [] Kz:=by
 intro a s b H d c Q I r h
 obtain⟨e,h⟩:=h
 subst e
 cases r
 exact assignInOrder_nil ⟨b,H,I,h⟩
def DI{e:Expr}{b:List Expr}{t:TG}{u:Dr}(i:PG X e t)(d:AR X b u)
  (hs:(assignEach (e::b) X.env).map (·.2)=assign e X.env::(assignEach b X.env).map (·.2):=by rfl):AR X (e::b) (IL t u):=by
 intro a s m H o q Q I r h
 obtain⟨v,p,n,h⟩:=h
 subst n
 cases r with
 | cons r j=>
   rw[hs]
   refine assignInOrder_cons (bZ (i a s m H _ _ _ I r h) λ_ k l=> ?_)
   obtain⟨c,H1,f,g⟩:=l
   exact d a k c H1 _ _ Q f j g
def K0(K:PySem.W.Frag)(n:Nat)(t:Dr):TG:=λv c H Q=>∃a b,v=.ref a/\gM K H a b/\b.length=n/\t b c H Q
def G2{d:List Expr}{k:Nat}{t:Dr}{n:Nat}(C:X.calm=true)(h:AR X d t)
  (z:(assignEach d X.env).length=n:=by rfl) (f:(assignEach d X.env).findIdx? (·.1)=none:=by rfl):PG X (.Tuple d k pos) (K0 X.K n t):=by
 intro c s j H v u Q I r g
 obtain⟨a,y,B,q,x,g⟩:=g
 subst B
 cases r
 obtain⟨w,i,l,F⟩:=I.tuple q
 refine assign_Tuple_tuple (I.ok.hd C) l (by simp[z,←x,i.length]) f λp A=> ?_
 have m:Inv X c j H {s with heap:=p}:=I.kept (t':=s.toks) λb o e=>A b o (Qwq (Qiq e)) e
 exact h c _ j H y _ Q m (by simpa using i) g
def Js(c b:TE)(t:Dp):TG:=λv a H Q=>c a H λo H1=>b a H1 λi H2=>t o i v H2 λH3=>Q a H3
def FL{o i:Expr}{f g:TE}{t:Dp}(w:PE X o f)(hi:PE X i g)(hs:GY X t)
  (B:∀v,assign (.Subscript o i pos) X.env v=(do
   let b←holding [v] (eval o X.env)
   let d←holding [v,b] (eval i X.env)
   standAt pos
   holding [v,b,d] (setItem b d v)
   release [v,b,d] []):=by intro _;rfl):PG X (.Subscript o i pos) (Js f g t):=by
 intro a s e H v u Q I r h
 rw[B]
 refine Qaq (QLq (bZ (w a s e H _ I h) λb z c=> ?_))
 obtain⟨x,H1,k,j,n⟩:=c
 refine Qaq (QLq (bZ (hi a z e H1 _ k n) λd m c=> ?_))
 obtain⟨y,H2,q,A,C⟩:=c
 refine Qaq (wpAny_standAt (Qaq (QLq (bZ (hs a m e H2 x y v b d u _ q j A r C) λ_ F c=> ?_))))
 obtain⟨H3,l,p⟩:=c
 exact wpAny_release ⟨e,H3,l,p⟩
def AS(b:TE)(g:TG):TS:=λD a H=>b a H λx H1=>g x a H1 D.nx
def Gw{b e:Expr}{c:TE}{g:TG}(he:PE X e c)(i:PG X b g)(hs:swapsWithSole [b] e pos.line X.env=pure false:=by rfl)(m:swappedStores [b] e X.env=pure none:=by rfl)
  (l:(assignEach [b] X.env).map (·.2)= [assign b X.env]:=by rfl):PS X (.Assign [b] e pos) (AS c g):=by
 intro a s d H D I h
 refine wpAny_Assign_stores (bZ (he a s d H _ I h) λv n ⟨x,H1,j,f,k⟩=> ?_) hs m
 rw[l]
 exact bZ (i a n d H1 x v _ j f k) λ_ o q=>q
def Hk{i:Nat}{x:Str}{e:Expr}{c:TE}{a:Pos}(m:X.N.Nodup)(hi:X.N[i]?=some x)(n:Loc X.env.scope x)(he:PE X e c)(hs:swapsWith e (some (.Name x a)) pos.line X.env=pure false:=by rfl)(k:X.fn x=true\/X.env.scope.names.lookup x=some .local:=by first|exact .inl rfl|exact .inr rfl|assumption):
  PS X (.Assign [.Name x a] e pos) (AS c (mj i)):=by
 intro b s l H D I h
 refine wpAny_Assign_Name (bZ (he b s l H _ I h) λv p ⟨y,H1,f,d,g⟩=> ?_) hs
 exact mP f m hi n d (λo j=>⟨_,H1,j,g⟩) k
def Ie(i j:Nat)(c:TA):TS:=λD a H=>c a H λb H1=>∃v w,b= [v,w]/\D.nx ((a.set i (some v)).set j (some w)) H1
def Gz{i j:Nat}{x y:Str}{a b:Expr}{z:TA}{l t n:Pos}{kt k2 pt2}(hc:X.calm=true)(G:X.N.Nodup)(hi:X.N[i]?=some x)(W:X.N[j]?=some y)(m:i≠j)
  (C:X.env.scope.names.lookup x=some .local) (B:X.env.scope.names.lookup y=some .local) (Y:PA X [a,b] z)
  (Q:swappedStores [.Tuple [.Name x l,.Name y t] kt n] (.Tuple [a,b] k2 pt2) X.env=pure (some [x,y]))
  (hs:swapsWithSole [.Tuple [.Name x l,.Name y t] kt n] (.Tuple [a,b] k2 pt2) pos.line X.env=pure false:=by rfl):
  PS X (.Assign [.Tuple [.Name x l,.Name y t] kt n] (.Tuple [a,b] k2 pt2) pos) (Ie i j z):=by
 intro c s F H D I h
 rw[exec_Assign_arm]
 refine Qaq (wpAny_standAt ?_)
 rw[hs]
 refine Qaq (Qgq ?_)
 rw[Quq (by decide)]
 refine Qaq (Tuple_ (bZ (Y _ c s F H _ I h) λS g R=> ?_))
 obtain⟨vs,H1,L,J,r⟩:=R
 obtain⟨v,w,U,r⟩:=r
 subst U
 obtain⟨f,d,rfl,rv,rw'⟩:∃f d,S= [f,d]/\RelV v f/\RelV w d:=by
  cases J with
  | cons p q=>
    cases q with
    | cons Z q'=>
      cases q'
      exact⟨_,_,rfl,p,Z⟩
 refine QhQ ?_ (by show 2<=_;decide)
 have P:Inv X c F H1 {g with heap:=g.heap.push {cls:=.type "tuple",data:=.seq [f,d].toArray}}:=L.kept (t':=g.toks) λb o e=>Qcq _ e
 rw[Q]
 refine Qaq (Qgq ?_)
 show wpAny (model X.prog X.w) X.A (do rule "assign.swapped-stores";let items←unpackItems (.ref g.heap.objs.size) 2 none;assignInOrder [λv=>bindName X.env y v,λv=>bindName X.env x v] items.reverse;pure Flow.next) _ _ _
 refine Qaq (wpAny_rule (Qaq (unpackItems_tuple (items:= #[f,d]) (I.ok.hd hc) (IsTup.new g.heap _) λh' k=> ?_)))
 have M:=P.kept (h':=h') (t':=g.toks) λb o e=>k b o (Qwq (Qiq e)) e
 show wpAny _ _ (assignInOrder [λv=>bindName X.env y v,λv=>bindName X.env x v] [d,f] >>= λ_=>pure Flow.next) _ _ _
 refine Qaq (assignInOrder_cons (wpAny_bindName (mP M G W (.inl B) rw' (λs2 K=> ?_) (.inr B))))
 refine assignInOrder_cons (wpAny_bindName (mP K G hi (.inl C) rv (λs3 u=>assignInOrder_nil (Qgq ?_)) (.inr C)))
 rw[List.set_comm _ _ (Ne.symm m)] at u
 exact⟨_,H1,u,r⟩
def Jw(f h g:TE)(b:V->V->Hp->VK->Prop)(d:JI)(a:Dp):TS:=λD c H=>f c H λo H1=>h c H1 λi H2=>b o i H2 λx H3=>g c H3 λy H4=>d x y H4 λz H5=>a o i z H5 λe=>D.nx c e
def IM(X:Cx)(t:V->V->Hp->VK->Prop):Prop:=
 ∀ (a:List (Addr×Obj)) (s:Shared) (d:St) (H:Hp) (o i:V) (c b:Value) (Q:VK),Inv X a d H s->RelV o c->RelV i b->t o i H Q→
   wpAny (model X.prog X.w) X.A (getItem c b) (EP X a d Q) X.xe s
def Fm{o i e:Expr}{p u q:TE}{c:V->V->Hp->VK->Prop}{k:JI}{b:Dp}{w:Operator}{l:Pos}(ho:PE X o p)(hi:PE X i u)(G:IM X c)(he:PE X e q)(Z:LZ X w k)(hs:GY X b)
  (ha:∀d j new,augStore i d j new=(do holding [new,d,j] (setItem d j new);release [new,d,j] [];pure .next):=by intros;rfl):PS X (.AugAssign (.Subscript o i l) w e pos) (Jw p u q c k b):=by
 intro a s g H D I h
 refine wpAny_AugAssign_SubscriptAny (bZ (ho a s g H _ I h) λd s1 ⟨x,H1,J,n,Q⟩=> ?_) ha
 refine bZ (hi a s1 g H1 _ J Q) λj N f=> ?_
 obtain⟨r,H2,S,t,q2⟩:=f
 refine bZ (G a N g H2 x r d j _ S n t q2) λm s3 f=> ?_
 obtain⟨F,H3,L,z,R⟩:=f
 refine bZ (he a s3 g H3 _ L R) λv A f=> ?_
 obtain⟨B,H4,C,K,q4⟩:=f
 refine bZ (Z a A g H4 F B m v _ C z K q4) λnew s5 f=> ?_
 obtain⟨x5,H5,P,W,Y⟩:=f
 exact bZ (hs a s5 g H5 x r x5 d j new _ P n t W Y) λ_ s6 ⟨y,U,M⟩=>⟨g,y,U,M⟩
def Ms(f:Int->Int->Int):JI:=λx y H Q=>∃i j,x=.int i/\y=.int j/\Q (.int (f i j)) H
def Hj:LZ X .Add (Ms λi j=>i+j):=by
 intro a s g H x y v u Q I b d h
 obtain⟨i,j,e,c,q⟩:=h
 subst e;subst c
 obtain⟨t,rfl⟩:=b
 obtain⟨f,rfl⟩:=d
 exact iadd_int ⟨.int _,H,I.tok _,⟨_,rfl⟩,q⟩
end
structure It where
 go:Nat->Hp->Prop
 yld:Nat->Hp->V->Hp->Prop
 stop:Nat->Hp->Prop
def oK(X:Cx)(a:List (Addr×Obj))(H:Hp)(b:Addr):Prop:=
 H b=none/\b≠X.env.locals/\b∉X.fs/\(b∈X.ex\/X.s₀.heap.objs.size<=b)/\(∀x c,X.env.cells.lookup x=some c->c≠b)/\∀p∈X.pn++a,p.1≠b
def Inv.fpOk{X:Cx}{a:List (Addr×Obj)}{h:St}{H f:Hp}{s:Shared}{b:Addr}(I:Inv X a h H s)(d:s.heap.objs.size<=b)(i:f b=none):oK X a f b:=by
 refine⟨i,Nat.ne_of_gt (Qqq I.lt d),I.nofs d,.inr (QAq I.sz d),λx c e z=> ?_,λp g z=> ?_⟩
 ·obtain⟨v,q⟩:=I.cell x c e
  exact absurd (Qqq q.lt (by rw[z];exact d)) (Nat.lt_irrefl _)
 ·exact absurd (Qqq (Qiq (I.pin p g).1) (by rw[z];exact d)) (Nat.lt_irrefl _)
structure Turn(P:Program)(w:World)(K:PySem.W.Frag)(tg:Expr)(J:It)(fp:List Addr)(it:Addr)(tn:Nat->Heap->Prop):Prop where
 mem:it∈fp
 obj:∀i h,tn i h->∀b∈fp,∃o,h.get? b=some o/\∀v,o.data≠.cell v
 keep:∀i h h',tn i h->(∀b∈fp,∀o,h.get? b=some o->h'.get? b=some o)->tn i h'
 item:∀(X:Cx),X.prog=P->X.w=w->X.K=K->X.calm=true->∀(i:Nat) (pins:List (Addr×Obj)) (s:Shared) (σ:St) (H:Hp) (E:Value->Shared->Prop),Inv X pins σ H s->(∀b∈fp,oK X pins H b)->tn i s.heap->J.go i H→
  wpAny (model P w) X.A (pyNext (.ref it)) (λr s1=>∃u,r=some u∧
   wpAny (model P w) X.A (letOwnedTupleGo tg (.ref it) u) (λ_ s2=>∃x H',Inv X pins σ H' s2/\RelV x u/\J.yld i H x H'/\tn (i+1) s2.heap/\∀b∈fp,H' b=none) E s1) E s
 done:∀(X:Cx),X.prog=P->X.w=w->X.K=K->X.calm=true->∀(i:Nat) (pins:List (Addr×Obj)) (s:Shared) (σ:St) (H:Hp) (E:Value->Shared->Prop),Inv X pins σ H s->(∀b∈fp,oK X pins H b)->tn i s.heap->J.stop i H→
  wpAny (model P w) X.A (pyNext (.ref it)) (λr s1=>r=none/\Inv X pins σ H s1) E s
 self:∀(A:Around) (i:Nat) (s:Shared) (Q:Value->Shared->Prop) (E:Value->Shared->Prop),tn i s.heap->Q (.ref it) s->wpAny (model P w) A (pyIter (.ref it)) Q E s
abbrev TI:=St->Hp->(It->Hp->Prop)->Prop
def Ly(X:Cx)(a:List (Addr×Obj))(j:St)(i:Expr)(R:It->Hp->Prop)(c:Value)(g:Shared):Prop:=
 ∃(e:Addr) (h:List Addr) (f:Nat->Heap->Prop) (J:It) (d:Hp),c=.ref e/\Inv X a j d g/\Turn X.prog X.w X.K i J h e f/\f 0 g.heap/\(∀b∈h,oK X a d b)/\R J d
def PI(X:Cx)(e b:Expr)(d:TI):Prop:=
 ∀ (a:List (Addr×Obj)) (s:Shared) (c:St) (H:Hp) (R:It->Hp->Prop),Inv X a c H s->d c H R→
   wpAny (model X.prog X.w) X.A (eval b X.env) (λv f=>wpAny (model X.prog X.w) X.A (pyIter v) (Ly X a c e R) X.xe f) X.xe s
def B1{M:Model}{A:Around}{E:Value->Shared->Prop}{s:Shared}{b:Expr}{it:Addr}{u:Value}{o:Obj}{n:String}{vs:Array Value}{Q:Unit->Shared->Prop}(c:s.heap.get? it=some o)(d:o.cls=.type n)(hd:o.data=.fields vs)
    (e: ["enumerate","zip","dict_itemiterator","dict_reverseitemiterator","odict_iterator","itertools.zip_longest","itertools.pairwise"].contains n=false) (a:Q () s):wpAny M A (letOwnedTupleGo b (.ref it) u) Q E s:=by
  unfold letOwnedTupleGo
  cases b <;>first
    |exact Qgq a
    |(cases u <;>first
        |exact Qgq a
        |(refine Qaq (wpAny_load c ?_)
          rw[d,hd]
          show wpAny M A (if (["enumerate","zip","dict_itemiterator","dict_reverseitemiterator","odict_iterator","itertools.zip_longest","itertools.pairwise"].contains n&&vs[0]? ==some (rawInt _))=true then _ else _) Q E s
          rw[Quq (by intro h;rw[e,Bool.false_and] at h;cases h)]
          exact Qgq a))
def Lz(K:PySem.W.Frag)(a:Addr):It:=
 ⟨λi H=>∃b x,gx K H a b/\b[i]?=some x,λi H x c=>c=H/\∀b,gx K H a b->b[i]?=some x,λi H=>∃b,gx K H a b/\b.length<=i⟩
def L7(K:PySem.W.Frag)(a:Addr):It:=
 ⟨λi H=>∃b x,gM K H a b/\b[i]?=some x,λi H x c=>c=H/\∀b,gM K H a b->b[i]?=some x,λi H=>∃b,gM K H a b/\b.length<=i⟩
def JW(lo:Int)(n:Nat):It:=⟨λi _=>i<n,λi H x a=>a=H/\x=.int (lo+i),λi _=>n<=i⟩
def Be{P:Program}{w:World}{K:PySem.W.Frag}{Z:Expr}(a it:Addr):Turn P w K Z (Lz K a) [it] it (λi h=>h.IsListIter it a i) where
 mem:=by simp
 obj:=λi h f b j=>by
  have e:b=it:=by simpa using j
  subst e
  obtain⟨o,e,c,d⟩:=f
  exact⟨o,e,λv z=>by rw[d] at z;cases z⟩
 keep:=λi h m f k=>f.at λo e=>k it (by simp) o e
 item:=by
  intro X M F B R i g s Q H E I q f r
  subst M F B
  obtain⟨xs,x,n,J⟩:=r
  obtain⟨A,C,p,Y⟩:=I.list n
  obtain⟨u,hu,ru⟩:=C.get J
  obtain⟨t,y,f2,N,L,G⟩:=q it (by simp)
  refine wpAny_pyNext_list_item f p.isList (x:=u) (by simpa using hu) λm l sb=> ?_
  have S:Inv X g Q H {s with heap:=m}:=I.turned (t':=s.toks) (λb o j e=>(sb.2 b j).trans e) t y N L G
  obtain⟨o,e,c,d⟩:=id l
  exact⟨u,rfl,B1 (s:={s with heap:=m}) e c d (by decide) ⟨x,H,S,ru,⟨rfl,λys hy=>by rw[I.list_inj hy n];exact J⟩,l,λb j=>(q b j).1⟩⟩
 done:=by
  intro X M F B R i g s Q H E I q f r
  subst M F B
  obtain⟨xs,n,J⟩:=r
  obtain⟨A,C,p,Y⟩:=I.list n
  obtain⟨t,y,f2,N,L,G⟩:=q it (by simp)
  have hl:=C.length
  exact wpAny_pyNext_list_end (I.ok.hd R) f p.isList (by simp;omega) λm U=>⟨rfl,I.turned (t':=s.toks) (λb o j e=>U b o j e) t y N L G⟩
 self:=λ_ _ _ _ _ f h=>wpAny_pyIter_listiter f h
def zh{P:Program}{w:World}{K:PySem.W.Frag}{Z:Expr}(a it:Addr):Turn P w K Z (L7 K a) [it] it (λi h=>h.IsTupleIter it a i) where
 mem:=by simp
 obj:=λi h f b j=>by
  have e:b=it:=by simpa using j
  subst e
  obtain⟨o,e,c,d⟩:=f
  exact⟨o,e,λv z=>by rw[d] at z;cases z⟩
 keep:=λi h n f k=>f.at λo e=>k it (by simp) o e
 item:=by
  intro X M F B R i g s Q H E I r f t
  subst M F B
  obtain⟨xs,x,q,J⟩:=t
  obtain⟨l,C,p,Y⟩:=I.tuple q
  obtain⟨u,hu,ru⟩:=C.get J
  obtain⟨y,A,f2,N,L,G⟩:=r it (by simp)
  refine wpAny_pyNext_tuple_item f (show s.heap.IsTuple a l.toArray from p) (x:=u) (by simpa using hu) λn m sb=> ?_
  have S:Inv X g Q H {s with heap:=n}:=I.turned (t':=s.toks) (λb o j e=>(sb.2 b j).trans e) y A N L G
  obtain⟨o,e,c,d⟩:=id m
  exact⟨u,rfl,B1 (s:={s with heap:=n}) e c d (by decide) ⟨x,H,S,ru,⟨rfl,λys hy=>by rw[I.tuple_inj hy q];exact J⟩,m,λb j=>(r b j).1⟩⟩
 done:=by
  intro X M F B R i g s Q H E I r f t
  subst M F B
  obtain⟨xs,q,J⟩:=t
  obtain⟨l,C,p,Y⟩:=I.tuple q
  obtain⟨y,A,f2,N,L,G⟩:=r it (by simp)
  have hl:=C.length
  exact wpAny_pyNext_tuple_end (I.ok.hd R) f (show s.heap.IsTuple a l.toArray from p) (by simp;omega) λn U=>⟨rfl,I.turned (t':=s.toks) (λb o j e=>U b o j e) y A N L G⟩
 self:=λ_ _ _ _ _ f h=>wpAny_pyIter_tupleiter f h
def yN{P:Program}{w:World}{K:PySem.W.Frag}{N:Expr}(it:Addr)(lo:Int)(n:Nat):Turn P w K N (JW lo n) [it] it (λi h=>IsRangeIter h it (lo+(i:Nat)*1) ((n:Int)-(i:Nat)) 1) where
 mem:=by simp
 obj:=λi h a b d=>by
  have e:b=it:=by simpa using d
  subst e
  exact⟨_,a,λv z=>by
   have G:Data.fields _=Data.cell v:=z
   cases G⟩
 keep:=λi h g a k=>k it (by simp) _ a
 item:=by
  intro X A u q r i c s F H E I j a l
  subst A u q
  obtain⟨m,p,Q,B,y,x⟩:=j it (by simp)
  have W:=Walks.range (prog:=X.prog) (w:=X.w) (I.ok.hd r) it lo 1 n
  refine W.item i s _ _ l a λv g C R f L=> ?_
  obtain⟨t,rfl⟩:=R
  have J:Inv X c F H {s with heap:=g,toks:=C}:=I.turned (λb o d e=>L b o (by simpa using d) e) m p B y x
  refine⟨_,rfl,B1 (s:={s with heap:=g,toks:=C}) (n:="range_iterator") f rfl rfl (by decide) ⟨.int (lo+i),H,J,⟨t,?_⟩,⟨rfl,rfl⟩,f,λb d=>(j b d).1⟩⟩
  rw[Int.mul_one]
 done:=by
  intro X A u q r i c s F H E I j a l
  subst A u q
  obtain⟨m,p,Q,B,y,x⟩:=j it (by simp)
  exact wpAny_pyNext_range_end (I.ok.hd r) a (by have:n<=i:=l;omega) λg M=>⟨rfl,I.turned (t':=s.toks) (λb o d e=>M b o d e) m p B y x⟩
 self:=λ_ _ _ _ _ a h=>wpAny_pyIter_rangeiter a h
section
variable{X:Cx}{tg:Expr}
def BU{a:List (Addr×Obj)}{f:St}{H:Hp}{s:Shared}{R:It->Hp->Prop}{E:Value->Shared->Prop}{lo hi:Int}{t u v:Tok}{d:Nat}(I:Inv X a f H s)(j: -(2^62)<=lo)(g:lo<2^62)(l: -(2^62)<=hi)(i:hi<2^62)
  (q:R (JW lo (hi-lo).toNat) H):wpAny (model X.prog X.w) X.A (pyIter (.ref s.heap.objs.size)) (Ly X a f tg R) E {s with heap:=s.heap.push {cls:=.type "range",data:=.fields #[.int lo t,.int hi u,.int 1 v]},toks:=d}:=by
 refine wpAny_pyIter_range (IsRange.new ..) (small_one j g l i) ?_
 have c:Inv X a f H {s with heap:=s.heap.push {cls:=.type "range",data:=.fields #[.int lo t,.int hi u,.int 1 v]},toks:=d}:=I.kept λb o e=>Qcq _ e
 refine⟨(s.heap.push {cls:=.type "range",data:=.fields #[.int lo t,.int hi u,.int 1 v]}).objs.size,[(s.heap.push {cls:=.type "range",data:=.fields #[.int lo t,.int hi u,.int 1 v]}).objs.size],_,_,H,rfl,
  c.kept (t':=d) λb o e=>Qcq _ e,yN _ lo (hi-lo).toNat,?_,λb h=> ?_,q⟩
 ·have m:lo+((0:Nat):Int)*1=lo:=by simp
  have k:(((hi-lo).toNat:Nat):Int)-((0:Nat):Int)=Builtin.Range.rangeSize lo hi 1:=by rw[rangeSize_one];split <;>omega
  show IsRangeIter _ _ (lo+((0:Nat):Int)*1) ((((hi-lo).toNat:Nat):Int)-((0:Nat):Int)) 1
  rw[m,k]
  exact Qrq _ rfl
 ·have e:b=(s.heap.push {cls:=.type "range",data:=.fields #[.int lo t,.int hi u,.int 1 v]}).objs.size:=by simpa using h
  subst e
  exact c.fpOk (Qmq _) (c.hok.fresh (Qmq _))
def HQ(b:TA):TI:=λc H R=>b c H λa H1=>∃j:Int,a= [.int j]/\ -(2^62)<=j/\j<2^62/\R (JW 0 j.toNat) H1
def BI{a:Expr}{d:TA}{p pos:Pos}(g:Gl X "range")(m:X.mg "range"=none)(n:PA X [a] d)(hs:starEach [a] X.env= [(false,eval a X.env)]:=by rfl):PI X tg (.Call (.Name "range" p) [a] [] pos) (HQ d):=by
 intro b s l H R I h
 refine Call_ (jM I g m boot_range (PyProof.Rows.callWith_type1 (bZ (n pos b s l H _ I h) λw v ⟨u,H1,i,f,c⟩=> ?_) hs rfl))
 obtain⟨j,e,c,o,q⟩:=c
 subst e
 cases f with
 | cons r k=>
   cases k
   obtain⟨t,rfl⟩:=r
   exact call_range_1 (BU i (by omega) (by omega) c o (by simpa using q))
def K5(f:TI)(g:TG)(h:TS):TS:=λD a H=>f a H λJ H1=>∃W:Nat->Nat->St->Hp->Prop,(∃m,W 0 m a H1)/\∀i m a H,W i m a H→
 (J.stop i H/\D.nx a H)\/(J.go i H/\∃N:St->Hp->Prop,(∀b c,N b c->∃e,e<m/\W (i+1) e b c)/\∀x c,J.yld i H x c->g x a c λd H2=>h {D with nx:=N,ct:=N,bk:=D.nx} d H2)
def lQ(fp:List Addr)(h:Heap):List (Addr×Obj):=fp.filterMap λb=>(h.get? b).map λo=>(b,o)
def cJ{fp:List Addr}{h:Heap}{b:Addr}{o:Obj}(a:b∈fp)(e:h.get? b=some o):(b,o)∈lQ fp h:=List.mem_filterMap.mpr ⟨b,a,by rw[e];rfl⟩
def A8{fp:List Addr}{h:Heap}{p:Addr×Obj}(a:p∈lQ fp h):p.1∈fp/\h.get? p.1=some p.2:=by
 obtain⟨b,c,e⟩:=List.mem_filterMap.mp a
 cases q:h.get? b with
 |none=>rw[q] at e;cases e
 | some o=>
   rw[q] at e
   have d:(b,o)=p:=QdQ e
   subst d
   exact⟨c,q⟩
def Inv.pinned{a:List (Addr×Obj)}{g:St}{H:Hp}{s:Shared}{fp:List Addr}(I:Inv X a g H s)(k:∀b∈fp,oK X a H b)(l:∀b∈fp,∃o,s.heap.get? b=some o/\∀v,o.data≠.cell v):Inv X (a++lQ fp s.heap) g H s:=
 I.pins_of λp j=>(mQa.mp j).elim (λz=>I.pin p (Qoq _ z)) λz=>by
  obtain⟨c,e⟩:=A8 z
  obtain⟨h,i,m,_⟩:=k p.1 c
  obtain⟨o,f,d⟩:=l p.1 c
  rw[e] at f;cases f
  exact⟨e,h,i,m,d⟩
def Inv.unpinned{a d:List (Addr×Obj)}{b:St}{H:Hp}{s:Shared}(I:Inv X (a++d) b H s):Inv X a b H s:=I.pins_of λp c=>I.pin p (Qoq _ (List.mem_append_left _ c))
def GG{p:Expr}{C:List Stmt}{wi:TI}{g:TG}{tb:TS}{pos:Pos}(R:PassesOwn (model X.prog X.w) X.A X.env X.xe)(hc:X.calm=true)(hi:PI X tg p wi)(hg:PG X tg g)(k:rO X C tb)
  (hs:∀x,foldedSetIterable p X.env x=pure x:=by intro _;rfl):PS X (.For tg p C [] pos) (K5 wi g tb):=by
 intro c s σ H D I h
 refine wpAny_For (bZ (hi c s σ H _ I h) λv s1 h1=>bZ h1 λa2 s2 h2=> ?_) hs
 obtain⟨it,L,tn,J,H2,e,I2,T,a0,f2,W,⟨m0,w0⟩,S⟩:=h2
 subst e
 have l:∀{z:Hp},(∀b∈L,z b=none)->∀b∈L,oK X c z b:=λhn b k=>⟨hn b k,(f2 b k).2⟩
 refine codeAny_forLoop_any (λn s'=>∃i y z,Inv X c y z s'/\tn i s'.heap/\(∀b∈L,z b=none)/\W i n y z) ?_ m0 ⟨0,σ,H2,I2,a0,λb k=>(f2 b k).1,w0⟩
 rintro n s3 ⟨i,j,H3,I3,P,Q,w3⟩
 rcases S i n j H3 w3 with⟨stop,qn⟩|⟨go,N,hN,M⟩
 ·refine wpAny_passesOwn R (bZ (T.done X rfl rfl rfl hc i c s3 j H3 X.xe I3 (l Q) P stop) λr s4 G=> ?_)
  obtain⟨hr,I4⟩:=G
  subst hr
  exact wpAny_execs_nil ⟨j,H3,I4,qn⟩
 ·refine wpAny_passesOwn R (bZ (T.item X rfl rfl rfl hc i c s3 j H3 X.xe I3 (l Q) P go) λr s4 G=> ?_)
  obtain⟨u,hr,h4⟩:=G
  subst hr
  refine wpAny_passesOwn R (bZ h4 λ_ s5 G=> ?_)
  obtain⟨x,H5,I5,r5,y5,F,Y⟩:=G
  have a1:=I5.pinned (l Y) (T.obj _ _ F)
  refine wpAny_passesOwn R (bZ (hg _ s5 j H5 x u _ a1 r5 (M x H5 y5)) λ_ s6 G=> ?_)
  obtain⟨Z,H6,I6,q6⟩:=G
  refine wpAny_passesOwn R (bZ (k _ s6 Z H6 _ I6 q6) λf U B=> ?_)
  have again:∀{a:St} {q:Hp},Inv X (c++lQ L s5.heap) a q U->N a q->∃m,m<n/\∃i y z,Inv X c y z U/\tn i U.heap/\(∀b∈L,z b=none)/\W i m y z:=λ{a q} t K=>by
   obtain⟨m',hm,w7⟩:=hN a q K
   refine⟨m',hm,i+1,a,q,t.unpinned,T.keep _ _ _ F λb k o e=>(t.pin (b,o) (Qoq _ (Qoq _ (cJ k e)))).1,λb k=> ?_,w7⟩
   obtain⟨o,e,d⟩:=T.obj _ _ F b k
   exact(t.pin (b,o) (Qoq _ (Qoq _ (cJ k e)))).2.1
  cases f with
  |next=>obtain⟨a,q,t,K⟩:=B;exact again t K
  |cont=>obtain⟨a,q,t,K⟩:=B;exact again t K
  |brk=>obtain⟨a,q,t,B⟩:=B;exact⟨a,q,t.unpinned,B⟩
  |ret v=>obtain⟨x7,a,q,t,r7,B⟩:=B;exact⟨x7,a,q,t.unpinned,r7,B⟩
end
abbrev R2:=V->V->Hp->VK->Prop
def i6(X:Cx)(f:Value->Value->Sem Value)(r:R2):Prop:=
 ∀ (a:List (Addr×Obj)) (s:Shared) (b:St) (H:Hp) (x y:V) (v u:Value) (Q:VK),Inv X a b H s->RelV x v->RelV y u->r x y H Q→
   wpAny (model X.prog X.w) X.A (f v u) (EP X a b Q) X.xe s
def Lj(X:Cx)(f:Value->Sem Value)(r:V->Hp->VK->Prop):Prop:=
 ∀ (a:List (Addr×Obj)) (s:Shared) (b:St) (H:Hp) (x:V) (v:Value) (Q:VK),Inv X a b H s->RelV x v->r x H Q→
   wpAny (model X.prog X.w) X.A (f v) (EP X a b Q) X.xe s
def gy(X:Cx)(f:Value)(r:List V->Hp->VK->Prop):Prop:=
 ∀ (a:List (Addr×Obj)) (s:Shared) (d:St) (H:Hp) (c:List V) (b:List Value) (Q:VK),Inv X a d H s->bo c b->r c H Q→
   wpAny (model X.prog X.w) X.A (call f b) (EP X a d Q) X.xe s
def Lc(X:Cx)(r:V->Hp->(Bool->Hp->Prop)->Prop):Prop:=
 ∀ (a:List (Addr×Obj)) (s:Shared) (b:St) (H:Hp) (x:V) (v:Value) (Q:Bool->Hp->Prop),Inv X a b H s->RelV x v->r x H Q→
   wpAny (model X.prog X.w) X.A (truthy v) (TP X a b Q) X.xe s
def Ft(r:R2)(c b:TE):TE:=λa H Q=>c a H λx H1=>b a H1 λy H2=>r x y H2 Q
def MA(r:V->Hp->VK->Prop)(a:TE):TE:=λb H Q=>a b H λx H1=>r x H1 Q
def rI(C:Int->Int->Prop)(g:Int->Int->V):R2:=λx y H Q=>∃i j,x=.int i/\y=.int j/\C i j/\Q (g i j) H
def AH(g:Int->Int->V):R2:=λx y H Q=>∃i j,x=.int i/\y=.int j/\Q (g i j) H
def rU(g:Int->V):V->Hp->VK->Prop:=λx H Q=>∃i,x=.int i/\Q (g i) H
section
variable{X:Cx}{a b c:Expr}{ta tb tc:TE}{pos:Pos}
def He(z:PE X a ta)(m:PE X b tb){d:List (Addr×Obj)}{s:Shared}{e:St}{H:Hp}{R:V->V->Hp->Prop}(I:Inv X d e H s)
  (h:ta e H λx H1=>tb e H1 λy H2=>R x y H2) {Q:Value->Shared->Prop} {f:Value->Value->Sem Value}
  (q:∀v u j x y H2,Inv X d e H2 j->RelV x v->RelV y u->R x y H2->wpAny (model X.prog X.w) X.A (f v u) Q X.xe j):
  wpAny (model X.prog X.w) X.A (eval a X.env) (λv i=>wpAny (model X.prog X.w) X.A (eval b X.env) (λu g=>wpAny (model X.prog X.w) X.A (f v u) Q X.xe g) X.xe i) X.xe s:=by
 refine bZ (z d s e H _ I h) λv r k=> ?_
 obtain⟨x,H1,n,l,o⟩:=k
 refine bZ (m d r e H1 _ n o) λu j k=> ?_
 obtain⟨y,H2,p,t,B⟩:=k
 exact q v u j x y H2 p l t B
def oO{e:Operator}{r:R2}(j:i6 X (binaryOp e) r)(n:PE X a ta)(f:PE X b tb):PE X (.BinOp a e b pos) (Ft r ta tb):=by
 intro d s m H Q I h
 exact wpAny_BinOp (He n f I h λv u g x y H2 i k l q=>j d g m H2 x y v u Q i k l q)
def Jp{e:UnaryOp}{r:V->Hp->VK->Prop}(g:Lj X (unaryOp e) r)(i:PE X a ta):PE X (.UnaryOp e a pos) (MA r ta):=by
 intro d s f H Q I h
 exact UnaryOp_ (bZ (i d s f H _ I h) λv l ⟨x,H1,m,j,k⟩=>g d l f H1 x v Q m j k)
def JY{f:Value->Value->Sem Value}{C:Int->Int->Prop}{g:Int->Int->Int}
  (d:∀(i j:Int) (t u:Tok) (s:Shared) (Q:Value->Shared->Prop) (E:Value->Shared->Prop),C i j->Q (.int (g i j) s.toks) {s with toks:=s.toks+1}->wpAny (model X.prog X.w) X.A (f (.int i t) (.int j u)) Q E s):
  i6 X f (rI C λi j=>.int (g i j)):=by
 intro e s n H x y v u Q I l m h
 obtain⟨i,j,rfl,rfl,hc,q⟩:=h
 obtain⟨t,rfl⟩:=l
 obtain⟨k,rfl⟩:=m
 exact d i j t k s _ _ hc ⟨.int (g i j),H,I.tok _,⟨_,rfl⟩,q⟩
def IR{f:Value->Value->Sem Value}{g:Int->Int->Int}
  (d:∀(i j:Int) (t u:Tok) (s:Shared) (Q:Value->Shared->Prop) (E:Value->Shared->Prop),Q (.int (g i j) s.toks) {s with toks:=s.toks+1}->wpAny (model X.prog X.w) X.A (f (.int i t) (.int j u)) Q E s):
  i6 X f (AH λi j=>.int (g i j)):=by
 intro e s n H x y v u Q I l m h
 obtain⟨i,j,rfl,rfl,q⟩:=h
 obtain⟨t,rfl⟩:=l
 obtain⟨k,rfl⟩:=m
 exact d i j t k s _ _ ⟨.int (g i j),H,I.tok _,⟨_,rfl⟩,q⟩
def Fo{f:Value->Value->Sem Value}{g:Int->Int->Bool}
  (d:∀(i j:Int) (t u:Tok) (s:Shared) (Q:Value->Shared->Prop) (E:Value->Shared->Prop),Q (.bool (g i j)) s->wpAny (model X.prog X.w) X.A (f (.int i t) (.int j u)) Q E s):
  i6 X f (AH λi j=>.bl (g i j)):=by
 intro e s n H x y v u Q I l m h
 obtain⟨i,j,rfl,rfl,q⟩:=h
 obtain⟨t,rfl⟩:=l
 obtain⟨k,rfl⟩:=m
 exact d i j t k s _ _ ⟨.bl (g i j),H,I,rfl,q⟩
def Cf(i j:Int):Prop:=0<j/\j<1073741824
def Cv(i j:Int):Prop:=0<=j/\j<=1000000/\i.natAbs<2^64
def EN(i j:Int):Prop:=(-(2^64)<i/\i<2^64)\/(-(2^64)<j/\j<2^64)
def EN.ok{i j:Int}(h:EN i j):IntMulOk i j:=by
 rcases h with⟨e,d⟩|⟨e,d⟩
 ·exact .of_left (intBits_le_64 e d)
 ·exact .of_right (intBits_le_64 e d)
def GE:i6 X (binaryOp .Add) (AH λi j=>.int (i+j)):=IR λ_ _ _ _ _ _ _ q=>add_int q
def FT:i6 X (binaryOp .Sub) (AH λi j=>.int (i-j)):=IR λ_ _ _ _ _ _ _ q=>sub_int q
def Fb:i6 X (binaryOp .FloorDiv) (rI Cf λi j=>.int (i/j)):=JY λi j _ _ _ _ _ d q=>by
 have f:(0:Int)<j:=d.1
 have e:j<1073741824:=d.2
 exact floordiv_int (by omega) (by rw[Int.fdiv_eq_ediv_of_nonneg i (by omega)];exact q) (.inl (PyProof.noPylong_small (by omega)))
def F1:i6 X (binaryOp .Mod) (rI (λ_ j=>0<j) λi j=>.int (i%j)):=JY λi j _ _ _ _ _ d q=>by
 have e:(0:Int)<j:=d
 exact mod_int' (by omega) (by rw[Int.fmod_eq_emod_of_nonneg i (by omega)];exact q)
def G7:i6 X (binaryOp .Pow) (rI Cv λi j=>.int (i^j.toNat)):=JY λ_ _ _ _ _ _ _ d q=>pow_int_small d.1 d.2.1 d.2.2 q
def Mr{f:Value->Sem Value}{g:Int->Int}
  (d:∀(i:Int) (t:Tok) (s:Shared) (Q:Value->Shared->Prop) (E:Value->Shared->Prop),Q (.int (g i) s.toks) {s with toks:=s.toks+1}->wpAny (model X.prog X.w) X.A (f (.int i t)) Q E s):
  Lj X f (rU λi=>.int (g i)):=by
 intro e s k H x v Q I j h
 obtain⟨i,rfl,q⟩:=h
 obtain⟨t,rfl⟩:=j
 exact d i t s _ _ ⟨.int (g i),H,I.tok _,⟨_,rfl⟩,q⟩
def Gj:Lj X (unaryOp .USub) (rU λi=>.int (-i)):=Mr λ_ _ _ _ _ q=>neg_int q
end
def y8:V->V->Bool
 |.non,.non=>true|.non,.int _=>true|.int _,.non=>true|.non,.bl _=>true|.bl _,.non=>true|.non,.str _=>true|.str _,.non=>true
 |.int _,.int _=>true|.bl _,.bl _=>true|.str _,.str _=>true|.byt _,.byt _=>true
 |.int _,.str _=>true|.str _,.int _=>true|.bl _,.str _=>true|.str _,.bl _=>true
 |_,_=>false
def L0:R2:=λx y H Q=>y8 x y=true/\Q (.bl (decide (x=y))) H
def LN:R2:=λx y H Q=>y8 x y=true/\Q (.bl (!decide (x=y))) H
def z3{i j:Int}:decide (V.int i=V.int j)=(i==j):=by
 rw[Bool.eq_iff_iff]
 simp
def CL{i j:Bool}:decide (V.bl i=V.bl j)=(i==j):=by
 rw[Bool.eq_iff_iff]
 simp
def zH{i j:Str}:decide (V.str i=V.str j)=(i==j):=by
 rw[Bool.eq_iff_iff]
 simp
def Av{i j:Array UInt8}:decide (V.byt i=V.byt j)=(i.toList==j.toList):=by
 rw[Bool.eq_iff_iff]
 cases i
 cases j
 simp
section
variable{X:Cx}{a b c:Expr}{ta tb tc:TE}{pos:Pos}
def bE{d:List (Addr×Obj)}{g:St}{H:Hp}{s:Shared}{Q:VK}{k f:Bool}(I:Inv X d g H s)(q:Q (.bl k) H)(e:k=f):EP X d g Q (.bool f) s:=by
 subst e
 exact⟨.bl k,H,I,rfl,q⟩
def LM:i6 X (compareOp .Eq) L0:=by
 intro k s l H x y v u Q I g d h
 obtain⟨f,q⟩:=h
 cases x with
 | non=>
   cases g
   cases y with
   |non=>cases d;exact PySem.EqNone.eq_none_none (bE I q (by simp))
   |bl j=>cases d;exact PySem.EqNone.eq_none_bool (bE I q (by simp))
   |int j=>obtain⟨e,rfl⟩:=d;exact PySem.EqNone.eq_none_int (bE I q (by simp))
   |str j=>obtain⟨e,rfl⟩:=d;exact PySem.EqNone.eq_none_str (bE I q (by simp))
   |_=>exact absurd (show false=true from f) Qtq
 | bl i=>
   cases g
   cases y with
   |non=>cases d;exact PySem.EqNone.eq_bool_none (bE I q (by simp))
   |bl j=>cases d;exact eq_bool (bE I q CL)
   |str j=>obtain⟨e,rfl⟩:=d;exact PySem.EqMixed.eq_bool_str (bE I q (by simp))
   |_=>exact absurd (show false=true from f) Qtq
 | int i=>
   obtain⟨t,rfl⟩:=g
   cases y with
   |non=>cases d;exact PySem.EqNone.eq_int_none (bE I q (by simp))
   |int j=>obtain⟨e,rfl⟩:=d;exact eq_int (bE I q z3)
   |str j=>obtain⟨e,rfl⟩:=d;exact PySem.EqMixed.eq_int_str (bE I q (by simp))
   |_=>exact absurd (show false=true from f) Qtq
 | str i=>
   obtain⟨t,rfl⟩:=g
   cases y with
   |non=>cases d;exact PySem.EqNone.eq_str_none (bE I q (by simp))
   |bl j=>cases d;exact PySem.EqMixed.eq_str_bool (bE I q (by simp))
   |int j=>obtain⟨e,rfl⟩:=d;exact PySem.EqMixed.eq_str_int (bE I q (by simp))
   |str j=>obtain⟨e,rfl⟩:=d;exact eq_str (bE I q zH)
   |_=>exact absurd (show false=true from f) Qtq
 | byt i=>
   obtain⟨t,rfl⟩:=g
   cases y with
   |byt j=>obtain⟨e,rfl⟩:=d;exact PySem.W.eq_bytes (bE I q Av)
   |_=>exact absurd (show false=true from f) Qtq
 |_=>cases y <;>exact absurd (show false=true from f) Qtq
def Mk:i6 X (compareOp .NotEq) LN:=by
 intro k s l H x y v u Q I g d h
 obtain⟨f,q⟩:=h
 cases x with
 | non=>
   cases g
   cases y with
   |non=>cases d;exact PySem.EqNone.ne_none_none (bE I q (by simp))
   |bl j=>cases d;exact PySem.EqNone.ne_none_bool (bE I q (by simp))
   |int j=>obtain⟨e,rfl⟩:=d;exact PySem.EqNone.ne_none_int (bE I q (by simp))
   |str j=>obtain⟨e,rfl⟩:=d;exact PySem.EqNone.ne_none_str (bE I q (by simp))
   |_=>exact absurd (show false=true from f) Qtq
 | bl i=>
   cases g
   cases y with
   |non=>cases d;exact PySem.EqNone.ne_bool_none (bE I q (by simp))
   |bl j=>cases d;exact ne_bool (bE I q (congrArg not CL))
   |str j=>obtain⟨e,rfl⟩:=d;exact PySem.EqMixed.ne_bool_str (bE I q (by simp))
   |_=>exact absurd (show false=true from f) Qtq
 | int i=>
   obtain⟨t,rfl⟩:=g
   cases y with
   |non=>cases d;exact PySem.EqNone.ne_int_none (bE I q (by simp))
   |int j=>obtain⟨e,rfl⟩:=d;exact ne_int (bE I q (congrArg not z3))
   |str j=>obtain⟨e,rfl⟩:=d;exact PySem.EqMixed.ne_int_str (bE I q (by simp))
   |_=>exact absurd (show false=true from f) Qtq
 | str i=>
   obtain⟨t,rfl⟩:=g
   cases y with
   |non=>cases d;exact PySem.EqNone.ne_str_none (bE I q (by simp))
   |bl j=>cases d;exact PySem.EqMixed.ne_str_bool (bE I q (by simp))
   |int j=>obtain⟨e,rfl⟩:=d;exact PySem.EqMixed.ne_str_int (bE I q (by simp))
   |str j=>obtain⟨e,rfl⟩:=d;exact ne_str (bE I q (congrArg not zH))
   |_=>exact absurd (show false=true from f) Qtq
 | byt i=>
   obtain⟨t,rfl⟩:=g
   cases y with
   |byt j=>obtain⟨e,rfl⟩:=d;exact PySem.W.ne_bytes (bE I q (congrArg not Av))
   |_=>exact absurd (show false=true from f) Qtq
 |_=>cases y <;>exact absurd (show false=true from f) Qtq
def Mf:i6 X (compareOp .Lt) (AH λi j=>.bl (decide (i<j))):=Fo λ_ _ _ _ _ _ _ q=>lt_int q
def Ln:i6 X (compareOp .LtE) (AH λi j=>.bl (decide (i<=j))):=Fo λ_ _ _ _ _ _ _ q=>le_int q
def LQ:i6 X (compareOp .Gt) (AH λi j=>.bl (decide (j<i))):=Fo λ_ _ _ _ _ _ _ q=>gt_int q
def LX:i6 X (compareOp .GtE) (AH λi j=>.bl (decide (j<=i))):=Fo λ_ _ _ _ _ _ _ q=>ge_int q
def Kc:i6 X (compareOp .Is) (λx y H Q=>y=.non/\Q (.bl (decide (x=.non))) H):=by
 intro d s g H x y v u Q I e f h
 obtain⟨rfl,q⟩:=h
 cases f
 refine is_none_gen (bE I q ?_)
 cases x <;>first
  |(cases e;rfl)
  |(obtain⟨t,rfl⟩:=e;rfl)
def i6.or{f:Value->Value->Sem Value}{r e:R2}(h:i6 X f r)(h':i6 X f e):i6 X f (λx y H Q=>r x y H Q\/e x y H Q):=by
 intro d s j H x y v u Q I g i q
 rcases q with q|q
 ·exact h d s j H x y v u Q I g i q
 ·exact h' d s j H x y v u Q I g i q
def DA(b:Expr){d:CmpOp}(h:d≠.In:=by decide)(f:d≠.NotIn:=by decide):behindInMarks d b=false:=by
 have e:(d==CmpOp.In)=false:=by cases d <;>first|rfl|exact absurd rfl h
 have g:(d==CmpOp.NotIn)=false:=by cases d <;>first|rfl|exact absurd rfl f
 cases b <;>simp[behindInMarks,e,g]
def EV{e:CmpOp}{r:R2}(j:i6 X (compareOp e) r)(o:PE X a ta)(f:PE X b tb)(n:behindInMarks e b=false):PE X (.Compare a [e] [b] pos) (Ft r ta tb):=by
 intro d s m H Q I h
 exact wpAny_Compare1 (He o f I h λv u g x y H2 i k l q=>j d g m H2 x y v u Q i k l q) n
def CP(t:TE):TT:=λe H Q=>t e H λx d=>∃k,x=.bl k/\Q k d
def p5{g:CmpOp}{r:R2}(w:i6 X (compareOp g) r)(F:PE X a ta)(l:PE X b tb)(C:behindInMarks g b=false):PT X (.Compare a [g] [b] pos) (CP (Ft r ta tb)):=by
 intro d s f H Q I h
 refine wpAny_isTrue_Compare1 (bZ (F d s f H _ I h) λv A ⟨x,H1,m,j,p⟩=>bZ (l d A f H1 _ m p) λu o ⟨y,H2,t,B,G⟩=>
  bZ (w d o f H2 x y v u _ t j B G) λc J ⟨z,H3,n,i,k,e,q⟩=> ?_) C
 subst e
 cases i
 exact wpAny_truthy_bool ⟨H3,n,q⟩
def G8(K:PySem.W.Frag)(x:V)(H:Hp)(k:Bool):Prop:=
 match x with
 |.non=>k=false
 |.bl b=>k=b
 |.int i=>k=(i !=0)
 |.str y=>y.length<=sizeLine/\k=((y.length:Int) !=0)
 |.byt y=>y.size<=sizeLine/\k=((y.size:Int) !=0)
 |.ref p=>(∃e,gx K H p e/\k= !e.isEmpty)\/(∃e,gM K H p e/\k= !e.isEmpty)\/∃d,H p=some (.dK d)/\k= !d.isEmpty
 |_=>False
def zg{d:Type}{kvs:List (d×V)}{vs:List (d×Value)}(r:KV kvs vs):(!vs.isEmpty)= !kvs.isEmpty:=by
 cases r <;>rfl
def qj{xs:List V}{d:List Value}(r:bo xs d):(!d.toArray.isEmpty)= !xs.isEmpty:=by
 cases r <;>simp
def jk:(sizeLine:Nat)<2^63:=by rw[sizeLine_eq];decide
def Gk:Lc X (λx H Q=>∃k,G8 X.K x H k/\Q k H):=by
 intro B s L H x v Q I l h
 obtain⟨k,e,q⟩:=h
 have G:=jk
 have J:sizeLine=16777216:=sizeLine_eq
 cases x with
 | non=>
   cases l
   have d:k=false:=e
   subst d
   exact truthy_none ⟨H,I,q⟩
 | bl b=>
   cases l
   have d:k=b:=e
   subst d
   exact wpAny_truthy_bool ⟨H,I,q⟩
 | int i=>
   obtain⟨t,rfl⟩:=l
   have d:k=(i !=0):=e
   subst d
   exact PySem.P.truthy_int ⟨H,I,q⟩
 | str y=>
   obtain⟨t,rfl⟩:=l
   obtain⟨C,d⟩:y.length<=sizeLine/\k=((y.length:Int) !=0):=e
   subst d
   exact PySem.P.truthy_str (by omega) ⟨H,I.tok _,q⟩
 | byt y=>
   obtain⟨t,rfl⟩:=l
   obtain⟨C,d⟩:y.size<=sizeLine/\k=((y.size:Int) !=0):=e
   subst d
   exact PySem.W.truthy_bytes (by omega) ⟨H,I.tok _,q⟩
 | ref p=>
   cases l
   have d:(∃j,gx X.K H p j/\k= !j.isEmpty)\/(∃j,gM X.K H p j/\k= !j.isEmpty)\/∃f,H p=some (.dK f)/\k= !f.isEmpty:=e
   rcases d with⟨j,n,d⟩|⟨j,n,d⟩|⟨f,n,d⟩
   · subst d
     obtain⟨u,r,z,A⟩:=I.list n
     have g:=r.length
     exact wpAny_truthy_list z.isList (by simp only[Qjq];omega) ⟨H,I.tok _,by rw[qj r];exact q⟩
   · subst d
     obtain⟨u,r,z,A⟩:=I.tuple n
     have g:=r.length
     exact truthy_tuple z (by simp only[Qjq];omega) ⟨H,I.tok _,by rw[qj r];exact q⟩
   · subst d
     obtain⟨A,F,o,r,m⟩:f.length<=sizeLine/\(p==sysModules)=false/\∃o,KV f o/\s.heap.DictOf (aX X.prog X.w) p o:=I.hok p _ n
     have g:f.length=o.length:=Paired.length r
     exact wpAny_truthy_dict F m (by omega) ⟨H,I.tok _,by rw[zg r];exact q⟩
 |_=>exact(show False from e).elim
def Cw(n:PE X a ta)(he:∀d,isTrue a X.env d=(do let v←d;standAt a.pos;holding [v] (truthy v))):
  PT X a (λf H Q=>ta f H λx g=>∃k,G8 X.K x g k/\Q k g):=by
 intro e s f H Q I h
 exact isTrue_plain (bZ (n e s f H _ I h) λv m ⟨x,H1,j,i,l⟩=>Gk e m f H1 x v Q j i l) (he _)
def yB:i6 X (binaryOp .Add) (λx y H Q=>∃i j,x=.str i/\y=.str j/\i.length+j.length<=sizeLine/\Q (.str (i++j)) H):=by
 intro d s l H x y v u Q I f g h
 obtain⟨i,j,rfl,rfl,hz,q⟩:=h
 obtain⟨t,rfl⟩:=f
 obtain⟨e,rfl⟩:=g
 exact add_str (λe k=>⟨.str (i++j),H,I.tok _,⟨_,rfl⟩,q⟩) hz
def vals1{x:V}{us:List Value}(r:bo [x] us):∃u,us= [u]/\RelV x u:=by
 cases r with
 |cons e d=>cases d;exact⟨_,rfl,e⟩
def vals2{x y:V}{us:List Value}(r:bo [x,y] us):∃u d,us= [u,d]/\RelV x u/\RelV y d:=by
 cases r with
 | cons h e=>
   cases e with
   |cons g f=>cases f;exact⟨_,_,rfl,h,g⟩
def Im:gy X (.builtin "abs") (λxs H Q=>∃i,xs= [.int i]/\Q (.int (if i<0 then -i else i)) H):=by
 intro d s g H xs e Q I r h
 obtain⟨i,rfl,q⟩:=h
 obtain⟨u,rfl,t,rfl⟩:=vals1 r
 exact call_abs_int λu f=>⟨.int (if i<0 then -i else i),H,I.tok _,⟨_,rfl⟩,q⟩
def Hv(f:X.calm=true):gy X (.builtin "max") (λxs H Q=>∃i j,xs= [.int i,.int j]/\Q (.int (if j>i then j else i)) H):=by
 intro e s n H xs o Q I r h
 obtain⟨i,j,rfl,q⟩:=h
 obtain⟨u,g,rfl,⟨t,rfl⟩,⟨t',rfl⟩⟩:=vals2 r
 refine max_two_ints (I.ok.hd f) λl m k=>⟨_,H,I.kept k,?_,q⟩
 by_cases d:j>i
 ·rw[Qhq d,Qhq d];exact⟨_,rfl⟩
 ·rw[Quq d,Quq d];exact⟨_,rfl⟩
def Ht(f:X.calm=true):gy X (.builtin "min") (λxs H Q=>∃i j,xs= [.int i,.int j]/\Q (.int (if j<i then j else i)) H):=by
 intro e s n H xs o Q I r h
 obtain⟨i,j,rfl,q⟩:=h
 obtain⟨u,g,rfl,⟨t,rfl⟩,⟨t',rfl⟩⟩:=vals2 r
 refine min_two_ints (I.ok.hd f) λl m k=>⟨_,H,I.kept k,?_,q⟩
 by_cases d:j<i
 ·rw[Qhq d,Qhq d];exact⟨_,rfl⟩
 ·rw[Quq d,Quq d];exact⟨_,rfl⟩
def Hx:gy X (.type "int") (λxs H Q=>(∃i,xs= [.int i]/\Q (.int i) H)\/∃k,xs= [.bl k]/\Q (.int (if k then 1 else 0)) H):=by
 intro d s f H xs e Q I r h
 rcases h with⟨i,rfl,q⟩|⟨k,rfl,q⟩
 ·obtain⟨u,rfl,t,rfl⟩:=vals1 r
  exact call_int_int ⟨.int i,H,I,⟨_,rfl⟩,q⟩
 ·obtain⟨u,rfl,r1⟩:=vals1 r
  cases r1
  exact call_int_bool ⟨.int (if k then 1 else 0),H,I.tok _,⟨_,rfl⟩,q⟩
end
structure Hr(h:Heap)(x dx C:Addr)(mA:Str->Option Value):Prop where
 obj:h.get? x=some (PySem.W.instObj C dx)
 ns:h.Ns1 dx mA
 ne:dx≠x
def Bs{h:Heap}{g:Addr}{d:Str->Option Value}(n:h.Ns1 g d):∃f,h.get? g=some f/\∀name,PySem.W.lookIn name f=some (d name):=by
 obtain⟨o,c,r,l,i,j,_,p⟩:=n
 refine⟨o,l,λname=> ?_⟩
 have e:=p name
 unfold nsFind findBy at e
 rw[←Array.find?_toList] at e
 unfold PySem.W.lookIn
 rw[i]
 dsimp only
 split
 ·rename_i y q
  rw[q] at e
  exact congrArg some e
 ·rename_i q
  rw[q] at e
  have a:c.toList.any (·.refKey)=false:=by
   rw[List.any_eq_false]
   intro y m
   obtain⟨z,t,b⟩:=j y (Array.mem_toList_iff.mp m)
   simp[DictEntry.refKey,b]
  have k:¬c.toList.any (·.refKey)=true:=by rw[a];exact Qtq
  rw[Quq k]
  exact congrArg some e
def Hr.look{h:Heap}{x b C:Addr}{c:Str->Option Value}(I:Hr h x b C c):∃a,PySem.W.InstAt h x (PySem.W.instObj C b) C (some a)/\∀name,PySem.W.lookIn name a=some (c name):=
 let ⟨a,ho,hl⟩:=Bs I.ns
 ⟨a,⟨I.obj,rfl,rfl,ho⟩,hl⟩
def r9.some_of{v:V}{o:Option Value}(r:r9 (some v) o):∃u,o=some u/\RelV v u:=by
 cases o with
 |none=>exact(show False from r).elim
 |some u=>exact⟨u,rfl,r⟩
section
variable{P:Program}{w:World}{H H':Hp}{h h':Heap}{a C dx:Addr}{fs fs':List (Str×V)}
def EE(c:l_ P w H h)(e:H a=some (.ins C dx fs)):∃b,Hr h a dx C b/\(∀f,r9 (fs.lookup f) (b f))/\PySem.Within b (fs.map (·.1))/\fs.length<=1000/\H dx=some (.own a):=by
 obtain⟨d,z,g,i,b,n,r,q⟩:=(show bR P w H h a (.ins C dx fs) from c a _ e)
 exact⟨b,⟨i,n,g⟩,r,q,z,d⟩
end
structure KP(K:PySem.W.Frag)(C:Addr):Prop where
 pg:PySem.W.plainGet K C Str.empty=true
 hd:PySem.W.hasDictIn K C=true
 po:PySem.W.plainOver K C=true
 sa:PySem.W.findIn K (.ref C) "__setattr__"=some (some (.builtin "object.__setattr__"))
def KP.get{K:PySem.W.Frag}{C:Addr}(c:KP K C)(f:Str):PySem.W.plainGet K C f=true:=c.pg
section
variable{X:Cx}{pins:List (Addr×Obj)}{σ:St}{H:Hp}{s:Shared}{A:Around}{E:Value->Shared->Prop}{Q:Value->Shared->Prop}{c:Value}{b:Bool}
inductive oM(K:PySem.W.Frag)(H:Hp):V->Value->Prop where
 |non:oM K H .non (.type "NoneType")
 |bl (x:Bool):oM K H (.bl x) (.type "bool")
 |int (i:Int):oM K H (.int i) (.type "int")
 |str (x:Str):oM K H (.str x) (.type "str")
 |flt (x:UInt64):oM K H (.flt x) (.type "float")
 |lst {a:Addr} {xs:List V} (e:H a=some (.lst xs)):oM K H (.ref a) (.type "list")
 |frz {a:Addr} {o:Obj} {xs:List V} (e:H a=some (.frz o (.lst xs))):oM K H (.ref a) (.type "list")
 |tup {a:Addr} {xs:List V} (e:H a=some (.tup xs)):oM K H (.ref a) (.type "tuple")
 |dK {a:Addr} {kvs:List (Key×V)} (e:H a=some (.dK kvs)):oM K H (.ref a) (.type "dict")
 |dT {a:Addr} {kvs:List (List Key×V)} (e:H a=some (.dT kvs)):oM K H (.ref a) (.type "dict")
 |ins {a C dx:Addr} {fs:List (Str×V)} (e:H a=some (.ins C dx fs)) (cl:KP K C) (ha:PySem.W.findIn K (.ref C) "__class__"=some (some (.builtin "object.__class__")))
   (hn:PySem.W.specialIn K (.builtin "object.__class__") "__get__"=some (some (.builtin "getset_descriptor.__get__"))) (htk:PySem.W.takesIn K (.builtin "object.__class__")=some true)
   (hm:PySem.W.mroIn K C (.type "object")=some true):oM K H (.ref a) (.ref C)
def A0{x:V}{u t:Value}(I:Inv X pins σ H s)(d:RelV x u)(m:oM X.K H x t)(e:PySem.W.kitOne X.K t c=some b)(h:∀k,Q (.bool b) {s with toks:=k}):
  wpAny (model X.prog X.w) A (call (.builtin "isinstance") [u,c]) Q E s:=by
 cases m with
 |non=>cases (show u=Value.none from d);exact PySem.W.kia_one PySem.W.kitx_none I.kIn True.intro e (λz=>nomatch z) h
 |bl y=>cases (show u=Value.bool y from d);exact PySem.W.kia_one PySem.W.kitx_bool I.kIn True.intro e (λz=>nomatch z) h
 |int i=>obtain⟨t,q⟩:=(show∃t,u=Value.int i t from d);cases q;exact PySem.W.kia_one PySem.W.kitx_int I.kIn True.intro e (λz=>nomatch z) h
 |str y=>obtain⟨t,q⟩:=(show∃t,u=Value.str y t from d);cases q;exact PySem.W.kia_one PySem.W.kitx_str I.kIn True.intro e (λz=>nomatch z) h
 |flt y=>obtain⟨t,q⟩:=(show∃t,u=Value.float y t from d);cases q;exact PySem.W.kia_one PySem.W.kitx_float I.kIn True.intro e (λz=>nomatch z) h
 | @lst a g ea=>
   cases (show u=Value.ref a from d)
   obtain⟨_,_,n,_,f⟩:=(show bR X.prog X.w H s.heap a (.lst g) from I.hok a _ ea)
   exact PySem.W.kia_one PySem.W.kitx_list I.kIn ⟨_,f,rfl⟩ e (λz=>nomatch z) h
 | @frz a ob g ea=>
   cases (show u=Value.ref a from d)
   obtain⟨_,_,_,n,_,f⟩:=(show bR X.prog X.w H s.heap a (.frz ob (.lst g)) from I.hok a _ ea)
   exact PySem.W.kia_one PySem.W.kitx_list I.kIn ⟨_,f,rfl⟩ e (λz=>nomatch z) h
 | @tup a g ea=>
   cases (show u=Value.ref a from d)
   obtain⟨_,_,_,p⟩:=(show bR X.prog X.w H s.heap a (.tup g) from I.hok a _ ea)
   obtain⟨o,f,j,_⟩:=p
   exact PySem.W.kia_one PySem.W.kitx_tuple I.kIn ⟨o,f,j⟩ e (λz=>nomatch z) h
 | @dK a kvs ea=>
   cases (show u=Value.ref a from d)
   obtain⟨_,_,v,_,p⟩:=(show bR X.prog X.w H s.heap a (.dK kvs) from I.hok a _ ea)
   obtain⟨o,l,r,f,j,_⟩:=p
   exact PySem.W.kia_one PySem.W.kitx_dict I.kIn ⟨o,f,j.1⟩ e (λz=>nomatch z) h
 | @dT a kvs ea=>
   cases (show u=Value.ref a from d)
   obtain⟨_,_,g,_,o,l,r,f,j,_⟩:=(show bR X.prog X.w H s.heap a (.dT kvs) from I.hok a _ ea)
   exact PySem.W.kia_one PySem.W.kitx_dict I.kIn ⟨o,f,j.1⟩ e (λz=>nomatch z) h
 | @ins a C dx fs ea cl ha hn htk hm=>
   cases (show u=Value.ref a from d)
   obtain⟨B,O,_⟩:=EE I.hok ea
   obtain⟨F,J,_⟩:=O.look
   exact PySem.W.kia_one (PySem.W.kitx_own (cl.get _) cl.hd ha hn htk hm) I.kIn J e (λz=>nomatch z) h
end
structure eK(k:Nat)(A:Around):Prop where
 hd:A.handled=none
 dp:A.depth+3*k+5<recursionLimit
 un:A.units+16*k+200<cLine
def eK.mono{j k:Nat}{A:Around}(r:eK k A)(h:j<=k):eK j A:=⟨r.hd,by have:=r.dp;omega,by have:=r.un;omega⟩
def eK.deeper{k:Nat}{A:Around}(r:eK (k+1) A)(env:Env):eK k (A.deeper env):=
 ⟨r.hd,by have:=r.dp;show A.depth+1+3*k+5<_;omega,by have:=r.un;show A.units+3+16*k+200<_;omega⟩
def eK.depth{k:Nat}{A:Around}(r:eK k A):A.depth<recursionLimit:=by have:=r.dp;omega
def eK.units{k:Nat}{A:Around}(r:eK k A):A.units+64<cLine:=by have:=r.un;omega
def eK.units0{k:Nat}{A:Around}(r:eK k A):A.units<cLine:=by have:=r.un;omega
def Gi:TA:=λ_ H Q=>Q [] H
def Cp(d:TE)(b:TA):TA:=λa H Q=>d a H λx H1=>b a H1 λc H2=>Q (x::c) H2
section
variable{X:Cx}{e:Expr}{es:List Expr}{te:TE}{t:TA}{pos:Pos}
def eQ:PA X [] Gi:=λ_ _ _ _ H Q I h=>Calls.spliced_nil ⟨[],H,I,.nil,h⟩
def cC(n:PE X e te)(i:PA X es t)(hs:starEach (e::es) X.env=(false,eval e X.env)::starEach es X.env:=by rfl):PA X (e::es) (Cp te t):=by
 intro pos a s b H Q I h
 rw[hs]
 show wpAny _ _ (spliced ((false,eval e X.env)::backTo pos (starEach es X.env))) _ _ s
 refine Calls.spliced_cons (bZ (n a s b H _ I h) λu k l=> ?_)
 obtain⟨x,H1,d,c,f⟩:=l
 exact bZ (i pos a k b H1 _ d f) λq p ⟨j,H2,g,m,o⟩=>⟨x::j,H2,g,.cons c m,o⟩
def KN(t:TA):TE:=λb H Q=>t b H λa H1=>a.length<=sizeLine/\∀p,H1 p=none->Q (.ref p) (upd H1 p (.tup a))
def Kh(t:TA):TE:=λb H Q=>t b H λa H1=>a.length<=sizeLine/\∀p,H1 p=none->Q (.ref p) (upd H1 p (.lst a))
def F4{x1}(h:PA X es t):PE X (.Tuple es x1 pos) (KN t):=by
 intro a s j H Q I f
 refine wpAny_Tuple_spliced (bZ (h pos a s j H _ I f) λk c ⟨i,H1,d,r,z,q⟩=>⟨by rw[←r.length];exact z,?_⟩)
 have g:H1 c.heap.objs.size=none:=d.hok.fresh (Qmq _)
 refine⟨.ref c.heap.objs.size,upd H1 c.heap.objs.size (.tup i),d.laid (t':=c.toks) (λb u e=>Qcq _ e) (Qmq _) ?_,rfl,q _ g⟩
 exact⟨z,k,r,⟨_,Qrq _ rfl,rfl,rfl,_,rfl⟩⟩
def Hi(h:PA X es t):PE X (.List es pos) (Kh t):=by
 intro a s j H Q I f
 refine wpAny_List_spliced (bZ (h pos a s j H _ I f) λk c ⟨i,H1,d,r,z,q⟩=>⟨by rw[←r.length];exact z,?_⟩)
 have g:H1 c.heap.objs.size=none:=d.hok.fresh (Qmq _)
 refine⟨.ref c.heap.objs.size,upd H1 c.heap.objs.size (.lst i),d.laid (t':=c.toks) (λb u e=>Qcq _ e) (Qmq _) ?_,rfl,q _ g⟩
 exact⟨z,k,0,r,Qrq _ rfl⟩
end
abbrev Sp:=List V->Hp->VK->XK->Prop
abbrev BK:=List Env->Hp->Shared->XK->Value->Shared->Prop
structure El(P:Program)(w:World)(K:PySem.W.Frag)(mg:Str->Option Value)(base:Heap)(A:Around)(outer:List Env)(s:Shared)(H:Hp):Prop where
 frames:A.frames=some outer
 mod:Mod K mg base
 bs:∀b o,base.get? b=some o->s.heap.get? b=some o/\H b=none
 bsz:base.objs.size<=s.heap.objs.size
 funs:s.heap.FunFrames base outer
 frf:∀b∈Cd outer,H b=none
 hok:l_ P w H s.heap
 bare:AllBare s.gens
def CE(outer:List Env)(P:Program)(w:World)(H:Hp)(s:Shared)(Q:VK)(u:Value)(a:Shared):Prop:=
 ∃v b,a.os=s.os/\AllBare a.gens/\Un (Cd outer) [] H b s.heap a.heap/\l_ P w b a.heap/\RelV v u/\Q v b
def CR(CX:BK)(outer:List Env)(P:Program)(w:World)(H:Hp)(s:Shared)(Q:VK)(E:XK)(r:Result)(a:Shared):Prop:=
 match r with
 |.ok (.ret u)=>CE outer P w H s Q u a
 |.ok _=>False
 |.error e=>CX outer H s E e a
structure bj(P:Program)(w:World)(K:PySem.W.Frag)(mg:Str->Option Value)(base:Heap)(CX:BK)(k:Nat)(f:Addr)(fd:FuncData)(ps:List Str)(sp:Sp):Prop where
 len:∀vs H Q E,sp vs H Q E->vs.length=ps.length
 run:∀(A:Around) (outer:List Env) (s:Shared) (H:Hp) (args:Args) (us:List Value) (vs:List V) (Q:VK) (E:XK),eK k A->El P w K mg base A outer s H->BindsTo s fd args (ps.zip us)->bo vs us->sp vs H Q E→
  codeAny (model P w) A (.call (.ref f) args) (CR CX outer P w H s Q E) s
def bj.mono{P:Program}{w:World}{K:PySem.W.Frag}{mg:Str->Option Value}{base:Heap}{CX:BK}{j k:Nat}{f:Addr}{c:FuncData}{ps:List Str}{sp:Sp}(F:bj P w K mg base CX j f c ps sp)(h:j<=k):
  bj P w K mg base CX k f c ps sp:=⟨F.len,λA a s H b g d Q E e=>F.run A a s H b g d Q E (e.mono h)⟩
def bj.imp{P:Program}{w:World}{K:PySem.W.Frag}{mg:Str->Option Value}{base:Heap}{CX:BK}{k:Nat}{f:Addr}{d:FuncData}{ps:List Str}{sp c:Sp}(F:bj P w K mg base CX k f d ps sp)
  (h:∀vs H Q E,c vs H Q E->sp vs H Q E):bj P w K mg base CX k f d ps c:=
 ⟨λvs H Q E q=>F.len vs H Q E (h _ _ _ _ q),λA a s H b j vs Q E g l e m i=>F.run A a s H b j vs Q E g l e m (h _ _ _ _ i)⟩
section
variable{X:Cx}{pins:List (Addr×Obj)}{σ:St}{H:Hp}{s s':Shared}
def Inv.env0(I:Inv X pins σ H s):El X.prog X.w X.K X.mg X.base X.A X.stack s H:=
 ⟨I.ok.frames,I.ok.mod,I.bs,QAq I.ok.bsz I.sz,I.stack,I.stkFree,I.hok,I.bare⟩
def Inv.after{Q:VK}{u:Value}(I:Inv X pins σ H s)(h:CE X.stack X.prog X.w H s Q u s'):EP X pins σ Q u s':=by
 obtain⟨v,k,f,a,i,e,r,q⟩:=h
 obtain⟨j,g,d,t,c⟩:=s'
 obtain rfl:c=s.os:=f
 exact⟨v,k,I.call (h':=j) (g':=g) (d':=d) (t':=t) (ch:= []) i e a (λb z=>absurd z (by simp)),r,q⟩
end
def Cg(sp:Sp)(a:List V)(E:XK)(t:TA):TE:=λc H Q=>t c H λb H1=>sp (b++a) H1 Q E
def Binds(K:PySem.W.Frag)(b:FuncData)(ps:List Str)(ds:List Value):Prop:=
 ∀(s:Shared) (a:List Value),K.In s.heap->(a++ds).length=ps.length->BindsTo s b ⟨a,[]⟩ (ps.zip (a++ds))
def Binds.all{K:PySem.W.Frag}{a:FuncData}{ps:List Str}(h:∀us:List Value,us.length=ps.length->bindArgs a ⟨us,[]⟩=pure (ps.zip us)):Binds K a ps []:=λs us _ b=>by
 rw[List.append_nil] at b⊢
 exact .of_eq (h us b)
def y4(CX:BK)(X:Cx)(E:XK):Prop:=∀(a:List (Addr×Obj)) (c:St) (H:Hp) (s:Shared) (e:Value) (b:Shared),Inv X a c H s->CX X.stack H s E e b->X.xe e b
section
variable{X:Cx}{CX:BK}{k:Nat}{f C:Addr}{fd:FuncData}{ps:List Str}{sp:Sp}{dvs:List V}{ds:List Value}{E:XK}{x m:Str}{p pos apos:Pos}{e o:Expr}{es:List Expr}{ta:TE}{t:TA}
def DR{a:List (Addr×Obj)}{c:St}{H:Hp}{s:Shared}{Q:VK}{us:List Value}{vs:List V}(F:bj X.prog X.w X.K X.mg X.base CX k f fd ps sp)(l:eK k X.A)(i:Binds X.K fd ps ds)(hd:bo dvs ds)(q:y4 CX X E)
  (I:Inv X a c H s) (r:bo vs us) (h:sp (vs++dvs) H Q E):wpAny (model X.prog X.w) X.A (call (.ref f) us) (EP X a c Q) X.xe s:=by
 have d:bo (vs++dvs) (us++ds):=r.append hd
 have j:(us++ds).length=ps.length:=by rw[←d.length];exact F.len _ _ _ _ h
 refine wpAny_call (codeAny_mono (F.run X.A X.stack s H ⟨us,[]⟩ (us++ds) (vs++dvs) Q E l I.env0 (i s us I.kIn j) d h) λr g b=> ?_)
 cases r with
 |error e=>exact q a c H s e g I b
 | ok n=>
   cases n with
   |ret u=>exact I.after b
   |next=>exact False.elim b
   |brk=>exact False.elim b
   |cont=>exact False.elim b
def zI(F:bj X.prog X.w X.K X.mg X.base CX k f fd ps sp)(j:eK k X.A)(g:Gl X x)(u:X.mg x=some (.ref f))(i:PySem.W.keepIn X.K (.ref f)=true)(d:Binds X.K fd ps ds)(hd:bo dvs ds)(n:y4 CX X E)
  (v:PA X (e::es) t) (b:(x==("__debug__":Str))=false:=by decide) (he:starEach (e::es) X.env=(false,eval e X.env)::starEach es X.env:=by rfl) (hpl:(backTo pos (starEach es X.env)).any (·.1)=false:=by rfl):
  PE X (.Call (.Name x p) (e::es) [] pos) (Cg sp dvs E t):=by
 intro a s l H Q I h
 refine wpAny_Call_Name_kw (vU I g u ?_ b)
 refine PySem.W.callWith_K (h₀:=X.base) I.ok.mod.kin i (bZ (v pos a s l H _ I h) λB z ⟨y,H1,c,r,q⟩=>⟨c.kIn,?_⟩) he hpl
 exact DR F j d hd n c r q
end
structure aE(N P:List Str)(sc:Scope):Prop where
 kind:sc.kind=.function
 co:sc.isCoroutine=false
 gen:sc.isGenerator=false
 nd:N.Nodup
 pre:N.take P.length=P
 par:∀x∈P,sc.names.lookup x=some .local\/sc.names.lookup x=some .cell
 nofree:∀y∈sc.names,y.2≠.free
theorem t4{b:Str->Option NameKind}{x:Str}:∀{a:List (Str×Value)} {m:Str->Option Value},(∀v,(x,v)∉a)->bindL b a m x=m x
 | [],_,_=>rfl
 | (n,v)::r,m,h=>by
   unfold bindL
   rw[t4 λw c=>h w (Qpq _ c)]
   split
   · have:x≠n:=by rintro rfl;exact h v QBq
     simp[this]
   · rfl
theorem ui{b:Str->Option NameKind}{x:Str}:∀{a:List (Str×Value)} {m:Str->Option Value},(∀v,(x,v)∉a)->bindC b a m x=m x
 | [],_,_=>rfl
 | (n,v)::r,m,h=>by
   unfold bindC
   rw[ui λw c=>h w (Qpq _ c)]
   split
   · rfl
   · have:x≠n:=by rintro rfl;exact h v QBq
     simp[this]
theorem tF{a:Str->Option NameKind}{x:Str}{v:Value}:∀{P:List Str} {vs:List Value} {i:Nat} {m:Str->Option Value},P.Nodup->P[i]?=some x->vs[i]?=some v->a x=some .local→
  bindL a (P.zip vs) m x=some v
 | [],_,_,_,_,h,_,_=>by simp at h
 |_::_,[],_,_,_,_,h,_=>by simp at h
 | p::P,w::vs,0,m,nd,h1,h2,hk=>by
   simp at h1 h2;subst h1;subst h2
   show bindL a ((p,w)::P.zip vs) m p=_
   unfold bindL
   rw[t4 λv b=>(List.nodup_cons.mp nd).1 (QeQ b).1,Qhq hk]
   simp
 | p::P,w::vs,i+1,m,nd,h1,h2,hk=>by
   show bindL a ((p,w)::P.zip vs) m x=_
   unfold bindL
   exact tF (i:=i) (List.nodup_cons.mp nd).2 (by simpa using h1) (by simpa using h2) hk
theorem uf{a:Str->Option NameKind}{x:Str}{v:Value}:∀{P:List Str} {vs:List Value} {i:Nat} {m:Str->Option Value},P.Nodup->P[i]?=some x->vs[i]?=some v->a x≠some .local→
  bindC a (P.zip vs) m x=some v
 | [],_,_,_,_,h,_,_=>by simp at h
 |_::_,[],_,_,_,_,h,_=>by simp at h
 | p::P,w::vs,0,m,nd,h1,h2,hk=>by
   simp at h1 h2;subst h1;subst h2
   show bindC a ((p,w)::P.zip vs) m p=_
   unfold bindC
   rw[ui λv b=>(List.nodup_cons.mp nd).1 (QeQ b).1,Quq hk]
   simp
 | p::P,w::vs,i+1,m,nd,h1,h2,hk=>by
   show bindC a ((p,w)::P.zip vs) m x=_
   unfold bindC
   exact uf (i:=i) (List.nodup_cons.mp nd).2 (by simpa using h1) (by simpa using h2) hk
def start(N:List Str)(vs:List V):St:=vs.map some++List.replicate (N.length-vs.length) none
def yT(CX:BK)(P:Program)(w:World)(K:PySem.W.Frag)(mg:Str->Option Value)(base:Heap)(N:List Str)(b:Str)(a:Scope)(f:Addr)(d:Value)(A:Around)(outer:List Env)(s:Shared)(H:Hp)(E:XK):Cx where
 prog:=P
 w:=w
 K:=K
 mg:=mg
 base:=base
 A:=A.deeper (envOfC b a s.heap.objs.size f d)
 N:=N
 s₀:=s
 H₀:=H
 env:=envOfC b a s.heap.objs.size f d
 outer:=outer
 stack:=envOfC b a s.heap.objs.size f d::outer
 ex:= []
 calm:=true
 fn:=λ_=>true
 pn:= []
 xe:=λe g=>wpAny (model P w) (A.deeper (envOfC b a s.heap.objs.size f d)) (leaving (envOfC b a s.heap.objs.size f d) e) (λ_ c=>CX outer H s E e c) (λh c=>CX outer H s E h c) g
def wy{a:Scope}{n:Nat}{x:Str}(h:a.names.lookup x=some .cell):∃c,(cellsFrom n a.names []).lookup x=some c:=by
 have q:=PySem.W.cellsFrom_some a.names n [] (.inl h)
 exact Option.isSome_iff_exists.mp q
def A9{CX:BK}{P:Program}{w:World}{K:PySem.W.Frag}{mg:Str->Option Value}{base:Heap}{N ps:List Str}{g:Str}{d:Scope}{f:Addr}{F:Value}{A:Around}{outer:List Env}{s J:Shared}{H:Hp}{E:XK}{us:List Value}{vs:List V}
  (S:aE N ps d) (hd:A.handled=none) (l:El P w K mg base A outer s H) (U:vs.length=ps.length) (r:bo vs us)
  (x:InCallC s s.heap.objs.size (bindL (envOfC g d s.heap.objs.size f F).kindOf (ps.zip us) λ_=>none) (cellsFrom (s.heap.objs.size+1) d.names []) (bindC (envOfC g d s.heap.objs.size f F).kindOf (ps.zip us) λ_=>none) J):
  Inv (yT CX P w K mg base N g d f F A outer s H E) [] (start N vs) H J:=by
 have L:ps.length<=N.length:=by have:=congrArg List.length S.pre;rw[Qxq] at this;omega
 obtain⟨C,R,rfl,hk⟩:=x.done
 have o:∀b:Addr,b∉(yT CX P w K mg base N g d f F A outer s H E).ex:=λb z=>absurd (show b∈([]:List Addr) from z) (by simp)
 refine⟨⟨l.mod,S.kind,rfl,rfl,Qmq _,λy z c C j=> ?_,λy m=> ?_,λy c _ h=> ?_,λ_=>hd,Around.frames_deeper l.frames,.inr ⟨rfl,rfl⟩,λb z=>absurd z (o b),l.bs,l.bsz,λb _ _=>o b,λb z=>absurd z (o b),l.funs,l.frf⟩,
  rfl,l.bare,Un.kept hk,⟨_,x.toInCall.ns,λi y v C j X=> ?_⟩,λy c h=>⟨_,x.cell y c h⟩,l.hok.fresh (Qmq _),λy c h=> ?_,λp t=>absurd (show p∈([]:List (Addr×Obj)) from t) (by simp),l.hok.kept hk,?_⟩
 ·exact name_of_addr x.apart (PySem.mem_of_lookup C) (PySem.mem_of_lookup j)
 ·have m:d.names.lookup y=some .cell\/d.names.lookup y=some .free:=m
  rcases m with m|m
  ·exact wy m
  ·exact absurd rfl (S.nofree _ (PySem.mem_of_lookup m))
 ·exact nQl (x.above y c (PySem.mem_of_lookup h))
 ·have G:i<vs.length:=by
   unfold start at j
   by_cases G:i<vs.length
   ·exact G
   ·rw[QQq (by simpa using G)] at j
    rw[List.getElem?_replicate] at j
    split at j <;>cases j
  have Q:vs[i]?=some v:=by
   unfold start at j
   rw[QHq (by simpa using G),gQm] at j
   cases e:vs[i]? with
   |none=>rw[e] at j;cases j
   |some a=>rw[e] at j;cases j;rfl
  obtain⟨u,I,M⟩:=r.get Q
  have t:ps[i]?=some y:=by
   rw[←S.pre,List.getElem?_take_of_lt (by omega)];exact C
  have B:ps.Nodup:=by rw[←S.pre];exact S.nd.sublist (List.take_sublist _ _)
  refine⟨u,M,?_⟩
  rcases S.par y (mQg t) with k|k
  ·exact .inl ⟨k,tF B t I k⟩
  ·obtain⟨c,e⟩:=wy (n:=s.heap.objs.size+1) k
   refine .inr ⟨.inl k,c,e,?_⟩
   have q:=x.cell y c e
   rw[uf B t I (by show d.names.lookup y≠_;rw[k];decide)] at q
   exact q
 ·exact l.hok.fresh (nQl (x.above y c (PySem.mem_of_lookup h)))
 ·unfold start
  show _=N.length
  rw[lQa,lQm,QIq]
  omega
def HD{CX:BK}{P:Program}{w:World}{K:PySem.W.Frag}{mg:Str->Option Value}{base:Heap}{k:Nat}{f:Addr}{name c:Str}{g:Arguments}{h:List Stmt}{a:Scope}{dV kV C Y d ct oc:Value}{an od:Option Addr}
  {L:Array (Option Value)} {N ps:List Str} {sp:Sp} (lk:K.lookup f=some ⟨oc,od,.func (PySem.W.fnOf name c g h a dV kV C Y an d ct),L⟩) (X:PySem.W.codeIn K d c=true) (S:aE N ps a)
  (len:∀vs H Q E,sp vs H Q E->vs.length=ps.length)
  (m:∀(A:Around) (outer:List Env) (s:Shared) (H:Hp) (vs:List V) (Q:VK) (E:XK),eK k (A.deeper (envOfC c a s.heap.objs.size f d))->sp vs H Q E→
   ∃t,rO (yT CX P w K mg base N c a f d A outer s H E) h t/\t {nx:=λ_ j=>Q .non j,rt:=Q} (start N vs) H):
  bj P w K mg base CX (k+1) f (PySem.W.fnOf name c g h a dV kV C Y an d ct) ps sp:=by
 refine⟨len,λA outer s H Z us vs Q E U z hb r F=> ?_⟩
 have hl:=len _ _ _ _ F
 have KX:K.In s.heap:=z.mod.kin.keeps λb o e=>(z.bs b o e).1
 have G:s.heap.NoLimit:=z.mod.nolimit.keeps λb o e=>(z.bs b o e).1
 have l:∀y∈ps.zip us,a.names.lookup y.1=some .local\/(a.names.lookup y.1=some .cell/\((cellsFrom (s.heap.objs.size+1) a.names []).lookup y.1).isSome=true):=λ⟨n,v⟩ hy=>by
  rcases S.par n (QeQ hy).1 with q|q
  ·exact .inl q
  ·exact .inr ⟨q,PySem.W.cellsFrom_some _ _ _ (.inl q)⟩
 refine codeAny_call_function U.depth (KX _ _ lk) rfl S.co S.gen rfl (PySem.W.codeRec_of KX X) (hb _ _ _ _ ?_)
 refine wpAny_newFunctionEnv_cells S.kind l λa0 he s1 x=> ?_
 subst he
 refine⟨G.keeps x.toInCall.keep,codeAny_func ?_⟩
 obtain⟨t,ht,hq⟩:=m A outer s H vs Q E (U.deeper _) F
 have I:Inv (yT CX P w K mg base N c a f d A outer s H E) [] (start N vs) H s1:=A9 S U.hd z hl r x
 refine QRq (ht [] s1 (start N vs) H _ I hq) (λfl M p=> ?_) λe M p=>p
 have B:∀{i:St} {j:Hp} {v:V} {u:Value},Inv (yT CX P w K mg base N c a f d A outer s H E) [] i j M->RelV v u->Q v j->CE outer P w H s Q u M:=
  λ{i j v u} J R q=>⟨v,j,J.os,J.bare,J.base,J.hok,R,q⟩
 cases fl with
 | ret u=>
   obtain⟨v,i,j,J,R,q⟩:=p
   exact B J R q
 | next=>
   obtain⟨i,j,J,q⟩:=p
   exact B (v:=V.non) (u:=Value.none) J rfl q
 | brk=>
   obtain⟨_,_,_,q⟩:=p
   exact False.elim q
 | cont=>
   obtain⟨_,_,_,q⟩:=p
   exact False.elim q
section
variable{X:Cx}{x:Str}{p pos:Pos}{e:Expr}{es:List Expr}{t:TA}{id T:String}{r:List V->Hp->VK->Prop}
def J4(r:List V->Hp->VK->Prop)(t:TA):TE:=λb H Q=>t b H λa H1=>r a H1 Q
def mV(k:gy X (.builtin id) r)(f:Gl X x)(n:X.mg x=none)(hv:bootBuiltins x=some (.builtin id))(q:PA X (e::es) t)(m:x≠"__name__":=by decide)(b:(x==("__debug__":Str))=false:=by decide)
  (he:starEach (e::es) X.env=(false,eval e X.env)::starEach es X.env:=by rfl) (hpl:(backTo pos (starEach es X.env)).any (·.1)=false:=by rfl):PE X (.Call (.Name x p) (e::es) [] pos) (J4 r t):=by
 intro a s c H Q I h
 refine wpAny_Call_Name_kw (jM I f n hv ?_ m b)
 exact PyProof.Rows.callWith_builtin1 (bZ (q pos a s c H _ I h) λo l ⟨i,H1,g,d,j⟩=>k a l c H1 i o Q g d j) he hpl
def j9(k:gy X (.type T) r)(f:Gl X x)(n:X.mg x=none)(hv:bootBuiltins x=some (.type T))(q:PA X (e::es) t)(m:x≠"__name__":=by decide)(b:(x==("__debug__":Str))=false:=by decide)
  (he:starEach (e::es) X.env=(false,eval e X.env)::starEach es X.env:=by rfl) (hpl:(backTo pos (starEach es X.env)).any (·.1)=false:=by rfl):PE X (.Call (.Name x p) (e::es) [] pos) (J4 r t):=by
 intro a s c H Q I h
 refine wpAny_Call_Name_kw (jM I f n hv ?_ m b)
 exact PyProof.Rows.callWith_type1 (bZ (q pos a s c H _ I h) λo l ⟨i,H1,g,d,j⟩=>k a l c H1 i o Q g d j) he hpl
end
section
variable{κ:Type}[DecidableEq κ]
def ke(kvs:List (κ×V))(k:κ):Option V:=(kvs.find? λa=>decide (a.1=k)).map (·.2)
def putK(kvs:List (κ×V))(k:κ)(v:V):List (κ×V):=
 if (kvs.any λa=>decide (a.1=k))=true then kvs.map (λa=>if a.1=k then(a.1,v) else a) else kvs++ [(k,v)]
def rE{p:κ×V}{r:List (κ×V)}{k:κ}(e:p.1=k):ke (p::r) k=some p.2:=by simp[ke,List.find?_cons,e]
def qV{p:κ×V}{r:List (κ×V)}{k:κ}(e:¬p.1=k):ke (p::r) k=ke r k:=by simp[ke,List.find?_cons,e]
theorem wC(k:κ):∀kvs:List (κ×V),(kvs.any λkv=>decide (kv.1=k))=(ke kvs k).isSome
 | []=>rfl
 | p::r=>by
   rw[List.any_cons]
   by_cases e:p.1=k
   · simp only[rE e,Qeq e,Bool.true_or,Option.isSome_some]
   · rw[qV e,Qdq e,Bool.false_or];exact wC k r
def gL(kvs:List (κ×V))(k:κ)(v:V):(putK kvs k v).length<=kvs.length+1:=by
 unfold putK
 split
 ·rw[lQm];omega
 ·rw[lQa,Qnq,QGq];omega
def r9.isSome_eq{o:Option V}{u:Option Value}(r:r9 o u):o.isSome=u.isSome:=by
 cases o with
 | none=>cases u with
   |none=>rfl
   |some _=>exact(show False from r).elim
 | some _=>cases u with
   |none=>exact(show False from r).elim
   |some _=>rfl
def KV.val{kvs:List (κ×V)}{vs:List (κ×Value)}(r:KV kvs vs)(k:κ):r9 (ke kvs k) (valueAt vs k):=by
 unfold KV at r
 induction r with
 |nil=>exact True.intro
 | @cons p q ps qs h t ih=>
   obtain⟨c,d⟩:=h
   by_cases e:p.1=k
   · have a:q.1=k:=c.symm.trans e
     have b:valueAt (q::qs) k=some q.2:=by simp[valueAt,List.find?_cons,a]
     rw[rE e,b];exact d
   · have a:¬q.1=k:=λz=>e (c.trans z)
     have b:valueAt (q::qs) k=valueAt qs k:=by simp[valueAt,List.find?_cons,a]
     rw[qV e,b];exact ih
theorem KV.any{kvs:List (κ×V)}{vs:List (κ×Value)}(r:KV kvs vs)(k:κ):(kvs.any λkv=>decide (kv.1=k))=vs.any λkv=>decide (kv.1=k):=by
 unfold KV at r
 induction r with
 |nil=>rfl
 |cons h t a=>rw[List.any_cons,List.any_cons,a,h.1]
def KV.repl{kvs:List (κ×V)}{vs:List (κ×Value)}(r:KV kvs vs)(k:κ){y:V}{u:Value}(c:RelV y u):
  KV (kvs.map λkv=>if kv.1=k then(kv.1,y) else kv) (vs.map λkv=>if kv.1=k then(kv.1,u) else kv):=by
 unfold KV at r⊢
 induction r with
 |nil=>exact .nil
 | @cons p q ps qs h t ih=>
   rw[QDq,QDq]
   refine .cons ?_ ih
   obtain⟨a,b⟩:=h
   by_cases e:p.1=k
   · rw[Qhq e,Qhq (a.symm.trans e)];exact⟨a,c⟩
   · rw[Quq e,Quq (λz=>e (a.trans z))];exact⟨a,b⟩
def KV.put{kvs:List (κ×V)}{vs:List (κ×Value)}(r:KV kvs vs)(k:κ){y:V}{u:Value}(a:RelV y u):KV (putK kvs k y) (stored vs k u):=by
 unfold putK stored
 rw[r.any k]
 by_cases e:(vs.any λb=>decide (b.1=k))=true
 ·rw[Qhq e,Qhq e];exact r.repl k a
 ·rw[Quq e,Quq e];exact Paired.snoc r ⟨rfl,a⟩
def KV.length{kvs:List (κ×V)}{vs:List (κ×Value)}(r:KV kvs vs):kvs.length=vs.length:=Paired.length r
end
def uj{P:Program}{w:World}{k:Key}{u:Value}(r:RelV (kV k) u):(aX P w).is k u=true:=by
 cases k with
 |inl i=>obtain⟨t,e⟩:=(show∃t,u=Value.int i t from r);subst e;exact v8 P w i t
 |inr x=>obtain⟨t,e⟩:=(show∃t,u=Value.str x t from r);subst e;exact wH P w x t
theorem tx{P:Program}{w:World}:∀{a:List Key} {us:List Value},bo (a.map kV) us->ItemsAre (aX P w) a us
 | [],_,r=>by rw[List.map_nil] at r;cases r;exact .nil
 | k::a,_,r=>by
   rw[QDq] at r
   cases r with
   |cons h t=>exact .cons (uj h) (tx t)
abbrev KT(H:Hp):List (List Key×V)->List (List Key×Addr×Value)->Prop:=Paired λp q=>p.1=q.1/\H q.2.1=some (.tup (p.1.map kV))/\RelV p.2 q.2.2
def KT.val{H:Hp}{kvs:List (List Key×V)}{xs:List (List Key×Addr×Value)}(r:KT H kvs xs)(k:List Key):r9 (ke kvs k) ((atKey xs k).map (·.2)):=by
 induction r with
 |nil=>exact True.intro
 | @cons p q ps qs h t ih=>
   obtain⟨c,_,d⟩:=h
   by_cases e:p.1=k
   · have a:q.1=k:=c.symm.trans e
     have b:atKey (q::qs) k=some q.2:=by simp[atKey,List.find?_cons,a]
     rw[rE e,b];exact d
   · have a:¬q.1=k:=λz=>e (c.trans z)
     have b:atKey (q::qs) k=atKey qs k:=by simp[atKey,List.find?_cons,a]
     rw[qV e,b];exact ih
def KT.repl{H:Hp}{kvs:List (List Key×V)}{xs:List (List Key×Addr×Value)}(r:KT H kvs xs)(k:List Key){y:V}{u:Value}(d:RelV y u):
  KT H (kvs.map λkv=>if kv.1=k then(kv.1,y) else kv) (xs.map (putAt k u)):=by
 induction r with
 |nil=>exact .nil
 | @cons p q ps qs h t ih=>
   rw[QDq,QDq]
   refine .cons ?_ ih
   obtain⟨a,b,c⟩:=h
   unfold putAt
   by_cases e:p.1=k
   · rw[Qhq e,Qhq (a.symm.trans e)];exact⟨a,b,d⟩
   · rw[Quq e,Quq (λz=>e (a.trans z))];exact⟨a,b,c⟩
def KT.put{H:Hp}{kvs:List (List Key×V)}{xs:List (List Key×Addr×Value)}(r:KT H kvs xs)(k:List Key){b:Addr}{y:V}{u:Value}(d:H b=some (.tup (k.map kV)))(a:RelV y u):
  KT H (putK kvs k y) (storedH xs k b u):=by
 have e:(kvs.any λc=>decide (c.1=k))=(atKey xs k).isSome:=by
  rw[wC,(r.val k).isSome_eq,Option.isSome_map]
 unfold putK storedH
 rw[e]
 by_cases q:(atKey xs k).isSome=true
 ·rw[Qhq q,Qhq q];exact r.repl k a
 ·rw[Quq q,Quq q];exact Paired.snoc r ⟨rfl,d,a⟩
def KT.keeps{H a:Hp}{kvs:List (List Key×V)}{xs:List (List Key×Addr×Value)}(r:KT H kvs xs)(c:∀b ys,H b=some (.tup ys)->a b=some (.tup ys)):KT a kvs xs:=
 Paired.mapP r λ_ _ z=>⟨z.1,c _ _ z.2.1,z.2.2⟩
section
variable{P:Program}{w:World}{H:Hp}{h:Heap}{a:Addr}
def FC{u:HO}(ok:l_ P w H h)(e:Rd H a u):bR P w H h a u:=e.ok ok
def Aw{kvs:List (Key×V)}(ok:l_ P w H h)(e:Rd H a (.dK kvs)):kvs.length<=sizeLine/\(a==sysModules)=false/\∃vs,KV kvs vs/\h.DictOf (aX P w) a vs:=
 show bR P w H h a (.dK kvs) from FC ok e
def rA{kvs:List (Key×V)}(ok:l_ P w H h)(e:H a=some (.dK kvs)):kvs.length<=sizeLine/\(a==sysModules)=false/\∃vs,KV kvs vs/\h.DictOf (aX P w) a vs:=Aw ok (.inl e)
def vG{c:List Key}(ok:l_ P w H h)(e:H a=some (.tup (c.map kV))):(tupleKind (aX P w)).is h c a:=by
 obtain⟨_,b,r,o,f,d,_,n,g⟩:=(show bR P w H h a (.tup (c.map kV)) from ok a _ e)
 exact⟨o,b.toArray,n,f,d,g,by simpa using tx r⟩
def Ao{kvs:List (List Key×V)}(ok:l_ P w H h)(e:Rd H a (.dT kvs)):kvs.length<=sizeLine/\(a==sysModules)=false∧
  ∃xs,KT H kvs xs/\h.DictOfH (tupleKind (aX P w)) a xs:=by
 obtain⟨z,y,xs,r,o,j,n,g,d,k,f,i⟩:=(show bR P w H h a (.dT kvs) from FC ok e)
 refine⟨z,y,xs,r,o,j,n,g,d,k,f,λx b=> ?_,i⟩
 have c:∀{l:List (List Key×V)} {m:List (List Key×Addr×Value)},KT H l m->∀x∈m,(tupleKind (aX P w)).is h x.1 x.2.1:=by
  intro l m q
  induction q with
  |nil=>intro x b;exact nomatch b
  | @cons p q ps qs hq t ih=>
    intro x b
    rcases Qsq.mp b with e|b
    · subst e
      exact vG ok (by rw[←hq.1];exact hq.2.1)
    · exact ih x b
 exact c r x b
def HR{kvs:List (List Key×V)}(ok:l_ P w H h)(e:H a=some (.dT kvs)):kvs.length<=sizeLine/\(a==sysModules)=false∧
  ∃xs,KT H kvs xs/\h.DictOfH (tupleKind (aX P w)) a xs:=Ao ok (.inl e)
end
def uR(H:Hp)(a:Addr)(y:V)(r:Option V):Prop:=
 (∃c k,Rd H a (.dK c)/\y=kV k/\r=ke c k)\/∃c k b,Rd H a (.dT c)/\y=.ref b/\H b=some (.tup (k.map kV))/\r=ke c k
def DQ(H:Hp)(a:Addr)(y v:V)(d:Hp):Prop:=
 (∃c k,H a=some (.dK c)/\y=kV k/\c.length<sizeLine/\d=upd H a (.dK (putK c k v)))∨
 ∃c k b,H a=some (.dT c)/\y=.ref b/\H b=some (.tup (k.map kV))/\c.length<sizeLine/\d=upd H a (.dT (putK c k v))
def uR.k{H:Hp}{a:Addr}{kvs:List (Key×V)}{k:Key}(e:H a=some (.dK kvs)):uR H a (kV k) (ke kvs k):=.inl ⟨kvs,k,.inl e,rfl,rfl⟩
def DQ.k{H:Hp}{a:Addr}{kvs:List (Key×V)}{k:Key}{v:V}(e:H a=some (.dK kvs))(b:kvs.length<sizeLine):DQ H a (kV k) v (upd H a (.dK (putK kvs k v))):=.inl ⟨kvs,k,e,rfl,b,rfl⟩
section
variable{X:Cx}{pins:List (Addr×Obj)}{σ:St}{H:Hp}{s:Shared}{a:Addr}{y v:V}{u r:Value}{o:Option V}{A:Around}{E:Value->Shared->Prop}
def Inv.big(I:Inv X pins σ H s):sysModules<s.heap.objs.size:=by
 have h:mainGlobals<s.heap.objs.size:=(I.mod.glob.keeps I.bk).lt
 exact Nat.lt_trans (by decide) h
def Bb{Q:Value->Shared->Prop}(K:A.units+1<cLine)(I:Inv X pins σ H s)(g:uR H a y (some v))(x:RelV y u)(h:∀f t,Inv X pins σ H t->RelV v f->Q f t):
  wpAny (model X.prog X.w) A (getItem (.ref a) u) Q E s:=by
 rcases g with⟨i,k,e,q,l⟩|⟨i,k,b,e,q,F,l⟩
 ·subst q
  obtain⟨z,B,C,d,n⟩:=Aw I.hok e
  obtain⟨f,m,c⟩:=r9.some_of (v:=v) (o:=valueAt C k) (by rw[l];exact d.val k)
  exact wpAny_getItem_of (uj x) n.mapOf m (h f _ (I.tok _) c)
 ·subst q
  cases (show u=Value.ref b from x)
  obtain⟨z,B,J,d,n⟩:=Ao I.hok e
  obtain⟨f,m,c⟩:=r9.some_of (v:=v) (o:=(atKey J k).map (·.2)) (by rw[l];exact d.val k)
  obtain⟨p,G,j⟩:=oQm.mp m
  refine wpAny_getItem_heap (tupleKind_room_in1 K) (vG I.hok F) n G ?_
  rw[j]
  exact h f _ (I.tok _) c
def Lg{Q:Value->Shared->Prop}(t:A.units+1<cLine)(I:Inv X pins σ H s)(g:uR H a y o)(n:RelV y u)(h:∀m,Inv X pins σ H m->Q (.bool o.isSome) m):
  wpAny (model X.prog X.w) A (compareOp .In u (.ref a)) Q E s:=by
 rcases g with⟨f,k,e,j,l⟩|⟨f,k,b,e,j,p,l⟩
 ·subst j
  obtain⟨z,d,x,c,i⟩:=Aw I.hok e
  refine wpAny_in_of (uj n) d i.mapOf ?_
  rw[←(c.val k).isSome_eq,←l]
  exact h _ (I.tok _)
 ·subst j
  cases (show u=Value.ref b from n)
  obtain⟨z,d,B,c,i⟩:=Ao I.hok e
  refine wpAny_in_heap (tupleKind_room_in1 t) (vG I.hok p) d i ?_
  have q:=(c.val k).isSome_eq
  rw[Option.isSome_map] at q
  rw[←q,←l]
  exact h _ (I.tok _)
def pV{h':Heap}{t':Nat}{c:HO}(I:Inv X pins σ H s)(f:IE (H a))(hs:Heap.SameBut a s.heap h')(he:∃q,h'.get? a=some q)(new:bR X.prog X.w (upd H a c) h' a c):
  Inv X pins σ (upd H a c) {s with heap:=h',toks:=t'}:=
 I.write (x:=a) (e:=a) f (.inl rfl) (λb q d z=>(hs.2 b d).trans z) he new
def kS{P:Program}{w:World}{c:Hp}{h':Heap}{kvs:List (Key×V)}{vs:List (Key×Value)}(z:kvs.length<=sizeLine)(hd:(a==sysModules)=false)(b:KV kvs vs)(d:h'.DictOf (aX P w) a vs):
  bR P w c h' a (.dK kvs):=⟨z,hd,vs,b,d⟩
def AZ{N:Hp}{Q:Unit->Shared->Prop}(Z:A.units+1<cLine)(I:Inv X pins σ H s)(g:DQ H a y v N)(M:RelV y u)(L:RelV v r)(h:∀F,Inv X pins σ N F->Q () F):
  wpAny (model X.prog X.w) A (setItem (.ref a) u r) Q E s:=by
 rcases g with⟨d,k,e,C,l,n⟩|⟨d,k,b,e,C,K,l,n⟩
 ·subst C n
  obtain⟨z,m,R,f,B⟩:=rA I.hok e
  have p:R.length<=sizeLine:=by rw[←f.length];exact z
  have t:(putK d k v).length<=sizeLine:=by have:=gL d k v;omega
  refine wpAny_setItem_pairs (hsz:=p) (uj M) B λJ i x=>h _ ?_
  have he:∃q,J.get? a=some q:=let ⟨q,_,_,j,_⟩:=i;⟨q,j⟩
  exact pV I (by rw[e];exact True.intro) x he (kS t m (f.put k L) i)
 ·subst C n
  cases (show u=Value.ref b from M)
  obtain⟨z,m,W,f,B⟩:=HR I.hok e
  have p:W.length<=sizeLine:=by rw[←Paired.length f];exact z
  have t:(putK d k v).length<=sizeLine:=by have:=gL d k v;omega
  refine wpAny_setItem_heap (hsz:=p) (tupleKind_room_in1 Z) (vG I.hok K) B λJ i x=>h _ ?_
  obtain⟨q,Y,ep,j,P,h3,S,_,U⟩:=i
  refine pV I (by rw[e];exact True.intro) x ⟨q,j⟩ ⟨t,m,_,(f.put k K L).keeps λc ys G=> ?_,q,Y,ep,j,P,h3,S,U⟩
  rw[aM (B0 G e (λz=>nomatch z))]
  exact G
end
def EG(i:Expr):Prop:=∀b a,subscripted i false b a=operate [b,a] (getItem b a)
def Aq{prog:Program}{w:World}{A:Around}{E:Value->Shared->Prop}{s:Shared}{env:Env}{b a:Expr}{pos:Pos}{T id:String}{Q:Value->Shared->Prop}
  (m:typeLookup (.type T) "__getitem__"=pure (some (.builtin id))) (hs:EG a)
  (h:wpAny (model prog w) A (eval b env) (λo f=>wpAny (model prog w) A (eval a env) (λi c=>c.TypeIs o T/\wpAny (model prog w) A (getItem o i) Q E c) E f) E s):
  wpAny (model prog w) A (eval (.Subscript b a pos) env) Q E s:=by
 refine Subscript_ (QRq h (λo f j=>QRq j (λi c d=> ?_) λ_ _ x=>x) λ_ _ x=>x)
 obtain⟨l,d⟩:=d
 unfold subscriptTail
 refine Qaq ?_
 rw[getitemInPython_of_ne l.not_modules]
 refine Qaq (wpAny_specialOf l m ?_)
 have g:wpAny (model prog w) A (subscripted a false o i) (λr e=>wpAny (model prog w) A (letTemporaryGo b o r >>= λ_=>pure r) Q E e) E c:=by
  rw[hs o i]
  exact wpAny_operating (QRq d (λr e k=>Qaq (wpAny_letTemporaryGo (Qgq k))) λ_ _ x=>x)
 first
  |exact Qgq (Qaq g)
  |exact Qaq (Qgq (Qaq g))
  |exact Qaq g
def w6{X:Cx}{c:List (Addr×Obj)}{h:St}{H:Hp}{s:Shared}{a:Addr}{y:V}{o:Option V}(I:Inv X c h H s)(g:uR H a y o):s.TypeIs (.ref a) "dict":=by
 rcases g with⟨d,k,e,_,_⟩|⟨d,k,b,e,_,_,_⟩
 ·obtain⟨_,_,i,_,f⟩:=Aw I.hok e
  exact f.typeIs
 ·obtain⟨_,_,j,_,f⟩:=Ao I.hok e
  exact f.typeIs
def Ij(c d:TE):TE:=λb H Q=>c b H λx H1=>d b H1 λy H2=>∃a v,x=.ref a/\uR H2 a y (some v)/\Q v H2
def Jx(d c:TE):TE:=λb H Q=>d b H λy H1=>c b H1 λx H2=>∃a o,x=.ref a/\uR H2 a y o/\Q (.bl o.isSome) H2
def Ih(d e c:TE):TS:=λD b H=>c b H λv H1=>d b H1 λx H2=>e b H2 λy H3=>∃a H4,x=.ref a/\DQ H3 a y v H4/\D.nx b H4
section
variable{X:Cx}{o i e value:Expr}{pos pos' tpos:Pos}{td ty tv:TE}
def DW(p:X.A.units+1<cLine)(n:PE X o td)(hi:PE X i ty)(hs:EG i):PE X (.Subscript o i pos) (Ij td ty):=by
 intro b s f H Q I h
 refine Aq PySem.F.slot_dict_getitem.lookup hs (bZ (n b s f H _ I h) λu q ⟨x,H1,k,r,m⟩=>bZ (hi b q f H1 _ k m) λJ C t=> ?_)
 obtain⟨y,H2,d,w,a,v,j,g,z⟩:=t
 subst j
 obtain rfl:u=Value.ref a:=r
 exact⟨w6 d g,Bb p d g w λB G l c=>⟨v,H2,l,c,z⟩⟩
def GF(n:X.A.units+1<cLine)(hi:PE X i ty)(m:PE X o td):PC X .In i o (Jx ty td):=by
 intro b s c H Q I h
 refine bZ (hi b s c H _ I h) λC p ⟨y,H1,f,t,k⟩=>bZ (m b p c H1 _ f k) λu z v=> ?_
 obtain⟨x,H2,l,q,a,r,d,g,w⟩:=v
 subst d
 obtain rfl:u=Value.ref a:=q
 exact Lg n l g t λB j=>⟨.bl r.isSome,H2,j,rfl,w⟩
def D6(w:X.A.units+1<cLine)(t:PE X o td)(hi:PE X i ty)(hv:PE X value tv)(hs:swapsWith value (some (.Subscript o i pos')) pos.line X.env=pure false):
  PS X (.Assign [.Subscript o i pos'] value pos) (Ih td ty tv):=by
 intro b s c H D I h
 refine wpAny_Assign_Subscript (bZ (hv b s c H _ I h) λr z ⟨v,H1,j,q,m⟩=>bZ (t b z c H1 _ j m) λu l ⟨x,H2,p,B,F⟩=>bZ (hi b l c H2 _ p F) λK J ⟨y,H3,k,C,a,H4,d,g,n⟩=> ?_) hs
 subst d
 obtain rfl:u=Value.ref a:=B
 exact AZ w k g C q λG f=>⟨c,H4,f,n⟩
end
def Cq{P:Program}{w:World}{H:Hp}(h:Heap)(a:sysModules<h.objs.size):bR P w H (h.push {cls:=.type "dict",data:=.dict #[]}) h.objs.size (.dK []):=
 ⟨Nat.zero_le _,beq_eq_false_iff_ne.mpr (Ne.symm (Qwq a)),[],.nil,Heap.DictOf.new h⟩
def GU:TE:=λ_ H Q=>∀p,H p=none->Q (.ref p) (upd H p (.dK []))
section
variable{X:Cx}{pos:Pos}
def Cm:PE X (.Dict [] [] pos) GU:=λb s c H Q I h=>
 wpAny_Dict_empty ⟨.ref s.heap.objs.size,_,I.laid (a:=s.heap.objs.size) (o:=.dK []) (t':=s.toks) (λ_ _ q=>Qcq _ q) (Qmq _) (Cq s.heap I.big),rfl,h _ (I.hok.fresh (Qmq _))⟩
end
def eC(kvs more:List (Key×V)):List (Key×V):=more.foldl (λa b=>putK a b.1 b.2) kvs
def KV.merge:∀{more:List (Key×V)} {a:List (Key×Value)} {kvs:List (Key×V)} {vs:List (Key×Value)},KV more a->KV kvs vs->KV (eC kvs more) (merged vs a):=by
 intro more a kvs vs r
 unfold KV at r
 induction r generalizing kvs vs with
 |nil=>intro q;exact q
 | @cons p q ps qs h t ih=>
   intro b
   have e:KV (putK kvs p.1 p.2) (stored vs q.1 q.2):=by
     have:=b.put p.1 h.2
     rw[←h.1];exact this
   exact ih e
theorem dR:∀(more kvs:List (Key×V)),(eC kvs more).length<=kvs.length+more.length
 | [],kvs=>by show kvs.length<=kvs.length+0;omega
 | p::r,kvs=>by
   have b:=dR r (putK kvs p.1 p.2)
   have a:=gL kvs p.1 p.2
   show(eC (putK kvs p.1 p.2) r).length<=_
   rw[Qnq];omega
end L2
namespace HT
open PySem PyProof.Rows
section
open PySem.SeqAt
open PySem.AutoSeq1 (wpAny_loadPart')
open PySem.MeetsSeq PySem.MeetsSeq2 PySem.MeetsSeq3
end
section
variable{prog:Program}{w:World}{A:Around}{E:Value->Shared->Prop}{s:Shared}
def EJ{t b:Addr}{vs ws:List Value}{Q:Value->Shared->Prop}(u:IsTup s.heap t vs.toArray)(v:IsTup s.heap b ws.toArray)(hv:vs≠[])
  (x:ws= []->Q (.ref t) s) (r:ws≠[]->Q (.ref s.heap.objs.size) {s with heap:=s.heap.push {cls:=.type "tuple",data:=.seq (vs++ws).toArray}})
  (hsz:vs.length+ws.length<=sizeLine):wpAny (model prog w) A (binaryOp .Add (.ref t) (.ref b)) Q E s:=by
 obtain⟨⟨cls,o,data,l⟩,i,q,n,k⟩:=id u
 obtain⟨⟨m,d,j,g⟩,a,f,p,c⟩:=id v
 simp only at q k f c
 subst q k f c
 have e:vs.toArray++ws.toArray=(vs++ws).toArray:=by simp
 by_cases h:ws= []
 ·exact concat_meets ⟨_,i,rfl⟩ ⟨_,a,rfl⟩ noFill_tuple_add seq_tuple_add PySem.F.slot_tuple_add PySem.F.entry_tuple_add (PySem.F.args_tuple_add_2 _ _)
   (tuple_addW1 t b vs.toArray ws.toArray n p o d l g (by simpa using hv) (by simp[h])) ⟨i,a,x h⟩
 ·refine concat_meets ⟨_,i,rfl⟩ ⟨_,a,rfl⟩ noFill_tuple_add seq_tuple_add PySem.F.slot_tuple_add PySem.F.entry_tuple_add (PySem.F.args_tuple_add_2 _ _)
   (tuple_addW2 t b vs.toArray ws.toArray n p o d l g (by simpa using hv) (by simpa using h) (by rw[Qjq,Qjq];exact hsz)) ⟨i,a,?_⟩
  rw[e]
  exact r h
def dY(n d:Nat):Option Int->Nat
 |none=>d
 |some v=>if v<0 then(v+(n:Int)).toNat else min v.toNat n
def qK(n d:Nat):dY n d none=d:=rfl
def zS(n d k:Nat):dY n d (some (k:Int))=min k n:=by
 show(if (k:Int)<0 then((k:Int)+(n:Int)).toNat else min (k:Int).toNat n)=min k n
 rw[Quq (by omega),Int.toNat_natCast]
def Gu(n d:Nat)(hd:d<=n)(o:Option Int):dY n d o<=n:=by
 cases o with
 |none=>exact hd
 | some v=>
   show(if v<0 then(v+(n:Int)).toNat else min v.toNat n)<=n
   by_cases a:v<0
   · rw[Qhq a];omega
   · rw[Quq a];exact Nat.min_le_right _ _
def zz(v:Int)(n d:Nat):(if v<0 then max (v+(n:Int)) 0 else min v (n:Int))=((dY n d (some v):Nat):Int):=by
 show(if v<0 then max (v+(n:Int)) 0 else min v (n:Int))=(((if v<0 then(v+(n:Int)).toNat else min v.toNat n):Nat):Int)
 by_cases a:v<0
 ·simp only[Qhq a];omega
 ·simp only[Quq a];omega
def yH(lo hi:Option Int)(n:Nat):Builtin.Slice.sliceAdjust lo hi 1 (n:Int)=(((dY n 0 lo:Nat):Int),((dY n n hi:Nat):Int)):=by
 have a:¬((1:Int)<0):=by omega
 unfold Builtin.Slice.sliceAdjust
 simp only[a,if_false]
 refine Prod.ext ?_ ?_
 ·cases lo with
  |none=>rfl
  |some v=>exact zz v n 0
 ·cases hi with
  |none=>rfl
  |some v=>exact zz v n n
def y_(i j:Nat):Builtin.Slice.slicePlaces (i:Int) (j:Int) 1=j-i:=by
 unfold Builtin.Slice.slicePlaces
 have a:(1:Int)>0:=by omega
 simp only[a,if_true,Int.ediv_one]
 split <;>omega
def rR{v:Value}{o:Option Int}{Q:Option Int->Shared->Prop}(p:IsPart v o)(h:Q o s):wpAny (model prog w) A (Builtin.Slice.slicePartIndex v) Q E s:=by
 cases p with
 |none=>exact slicePart_none h
 |int i t=>exact slicePart_int h
def hZ{e:Addr}{d c:Value}{lo hi:Option Int}{n:Nat}{Q:Int×Int×Nat->Shared->Prop}(hs:s.heap.IsSliceOf e d c .none)(f:IsPart d lo)(g:IsPart c hi)
  (h:Q (((dY n 0 lo:Nat):Int),1,dY n n hi-dY n 0 lo) s):wpAny (model prog w) A (Builtin.Slice.sliceApplied (.ref e) (pure (n:Int))) Q E s:=by
 obtain⟨j,a,i,b⟩:=id hs
 unfold Builtin.Slice.sliceApplied Builtin.Slice.sliceFields
 refine Qaq (Qaq (QMq a b (x:=d) rfl (Qaq (QMq a b (x:=c) rfl (Qaq (QMq a b (x:=.none) rfl (Qgq ?_)))))))
 refine Qaq (slicePart_none ?_)
 show wpAny _ _ (if ((1:Int)==0)=true then _ else _) _ _ s
 rw[Quq (by decide)]
 refine Qaq (rR f (Qaq (rR g (Qaq (Qgq ?_)))))
 show wpAny _ _ (match Builtin.Slice.sliceAdjust lo hi 1 (n:Int) with|(lo,hi)=>pure (lo,(1:Int),Builtin.Slice.slicePlaces lo hi 1)) _ _ s
 rw[yH lo hi n]
 show wpAny _ _ (pure (((dY n 0 lo:Nat):Int),(1:Int),Builtin.Slice.slicePlaces ((dY n 0 lo:Nat):Int) ((dY n n hi:Nat):Int) 1)) _ _ s
 rw[y_]
 exact Qgq h
def Da(xs:Array Value)(i k:Nat):((List.range k).filterMap λ(m:Nat)=>xs[((i:Int)+(m:Int)*1).toNat]?).toArray=((xs.toList.drop i).take k).toArray:=by
 have e:(λ(m:Nat)=>xs[((i:Int)+(m:Int)*1).toNat]?)=λm=>xs[i+m]? :=by
  funext m
  have:((i:Int)+(m:Int)*1).toNat=i+m:=by omega
  rw[this]
 rw[e]
 have:=pick_run xs i k
 rw[List.filterMap_map] at this
 have a:((λx=>xs[x]?)∘λx=>i+x)=λm=>xs[i+m]? :=rfl
 rw[a] at this
 rw[this]
def mK{t d:Addr}{items:Array Value}{j i:Value}{lo hi:Option Int}{Q:Value->Shared->Prop}(b:IsTup s.heap t items)(hs:s.heap.IsSliceOf d j i .none)(o:IsPart j lo)(p:IsPart i hi)
  (n:¬(dY items.size 0 lo=0/\dY items.size items.size hi=items.size))
  (h:Q (.ref s.heap.objs.size) {s with heap:=s.heap.push {cls:=.type "tuple",data:=.seq ((items.toList.drop (dY items.size 0 lo)).take (dY items.size items.size hi-dY items.size 0 lo)).toArray}})
  (hsz:items.size<=sizeLine):wpAny (model prog w) A (getItem (.ref t) (.ref d)) Q E s:=by
 have a:sizeOk (.seq ((items.toList.drop (dY items.size 0 lo)).take (dY items.size items.size hi-dY items.size 0 lo)).toArray):=by
  show((items.toList.drop (dY items.size 0 lo)).take (dY items.size items.size hi-dY items.size 0 lo)).toArray.size<=sizeLine
  rw[Qjq,Qxq,List.length_drop,Array.length_toList]
  omega
 have u:dY items.size items.size hi<=items.size:=Gu _ _ (Qmq _) hi
 obtain⟨l,f,e,k⟩:=id hs
 have g:s.TypeIs (.ref d) "slice":=⟨l,f,e⟩
 unfold getItem
 try with_reducible refine QLq ?_
 first|refine Qaq (Qgq ?_)|skip
 refine Qaq (wpAny_sequenceKey b.typeIs (by decide) ?_)
 refine Qaq (QiQ (name:=Str.ofString "__getitem__") b.typeIs PyProof.Rows.slot_tuple_getitem
  (wpAny_call_entry PyProof.Rows.slot_tuple_getitem b.typeIs entry_tuple_getitem ?_ (args_tuple_getitem _ _)))
 show wpAny _ _ (Builtin.Tuple.tupleItemsOf (.ref t) >>= _) _ _ s
 refine Qaq (tupleItemsOf_ b ?_)
 refine Qaq (wpAny_typeOf g ?_)
 rw[Qhq (by decide)]
 refine Qaq (hZ hs o p ?_)
 have c:¬((((dY items.size 0 lo:Nat):Int)==0&&(1:Int)==1&&(dY items.size items.size hi-dY items.size 0 lo)==items.size)=true):=by
  intro q
  rw[QCq,QCq] at q
  have r:((dY items.size 0 lo:Nat):Int)=0:=eq_of_beq q.1.1
  have v:dY items.size items.size hi-dY items.size 0 lo=items.size:=eq_of_beq q.2
  exact n ⟨by omega,by omega⟩
 show wpAny _ _ (if (((dY items.size 0 lo:Nat):Int)==0&&(1:Int)==1&&(dY items.size items.size hi-dY items.size 0 lo)==items.size)=true then _ else _) _ _ s
 rw[Quq c,Da]
 first
  |exact Qaq (m:=Builtin.Tuple.tupleExact _) (QhQ (Qgq ⟨_,rfl,Qgq h⟩) a)
  |exact Qaq (m:=Builtin.Tuple.tupleExact _) (QhQ (Qaq (Qgq (Qgq ⟨_,rfl,Qgq h⟩))) a)
  |exact Qaq (Qaq (m:=Builtin.Tuple.tupleExact _) (QhQ (Qgq (Qgq ⟨_,rfl,Qgq h⟩)) a))
  |exact Qaq (Qaq (m:=Builtin.Tuple.tupleExact _) (QhQ (Qgq ⟨_,rfl,Qgq h⟩) a))
end
end HT
namespace L2
open PySem PySem.Spec PyProof.Rows
abbrev TO:=St->Hp->(Option Int->Hp->Prop)->Prop
def PO(X:Cx)(e:Option Expr)(t:TO):Prop:=
 ∀ (a:List (Addr×Obj)) (s:Shared) (b:St) (H:Hp) (Q:Option Int->Hp->Prop),Inv X a b H s->t b H Q→
   wpAny (model X.prog X.w) X.A (evalPart e X.env) (λu d=>∃o c,Inv X a b c d/\IsPart u o/\Q o c) X.xe s
def E4:TO:=λ_ H Q=>Q none H
def Ik(t:TE):TO:=λa H Q=>t a H λx H1=>∃i,x=.int i/\Q (some i) H1
section
variable{X:Cx}{e:Expr}{te:TE}{lo hi:Option Expr}{tl th:TO}{pos p2:Pos}
def Ep:PO X none E4:=by
 intro a s b H Q I h
 rw[evalPart_none]
 exact Qgq ⟨none,H,I,.none,h⟩
def EI(h:PE X e te):PO X (some e) (Ik te):=by
 intro a s j H Q I b
 rw[evalPart_some]
 refine bZ (h a s j H _ I b) λu k g=> ?_
 obtain⟨x,H1,f,c,d⟩:=g
 obtain⟨i,rfl,q⟩:=d
 obtain⟨t,rfl⟩:=c
 exact⟨some i,H1,f,.int i t,q⟩
def KE(X:Cx)(r:V->Option Int->Option Int->Hp->VK->Prop):Prop:=
 ∀ (a:List (Addr×Obj)) (s:Shared) (f:St) (H:Hp) (x:V) (v d c:Value) (lo hi:Option Int) (b:Addr) (Q:VK),Inv X a f H s->RelV x v->s.heap.IsSliceOf b d c .none->IsPart d lo->IsPart c hi->r x lo hi H Q→
   ∃T id,typeLookup (.type T) "__getitem__"=pure (some (.builtin id))/\s.TypeIs v T/\wpAny (model X.prog X.w) X.A (getItem v (.ref b)) (EP X a f Q) X.xe s
def Mz(r:V->Option Int->Option Int->Hp->VK->Prop)(te:TE)(tl th:TO):TE:=λa H Q=>te a H λx H1=>tl a H1 λl H2=>th a H2 λu H3=>r x l u H3 Q
def C1{r:V->Option Int->Option Int->Hp->VK->Prop}(B:KE X r)(he:PE X e te)(z:PO X lo tl)(G:PO X hi th):PE X (.Subscript e (.Slice lo hi none p2) pos) (Mz r te tl th):=by
 intro a s d H Q I h
 refine Subscript_ (bZ (he a s d H _ I h) λv J i=> ?_)
 obtain⟨x,H1,m,j,p⟩:=i
 refine wpAny_Slice (bZ (z a J d H1 _ m p) λg o ⟨l,H2,y,C,K⟩=>bZ (G a o d H2 _ y K) λf c i=> ?_)
 obtain⟨u,H3,n,F,t⟩:=i
 rw[evalPart_none]
 refine Qgq ?_
 have k:Inv X a d H3 {c with heap:=c.heap.push {cls:=.type "slice",data:=.fields #[g,f,.none]}}:=n.kept (t':=c.toks) λb L q=>Qcq _ q
 obtain⟨T,id,hT,ht,hg⟩:=B a {c with heap:=c.heap.push {cls:=.type "slice",data:=.fields #[g,f,.none]}} d H3 x v g f l u c.heap.objs.size Q k j (Heap.IsSliceOf.new ..) C F t
 show wpAny (model X.prog X.w) X.A (subscriptTail e (.Slice lo hi none p2) v (.ref c.heap.objs.size)) (EP X a d Q) X.xe {c with heap:=c.heap.push {cls:=.type "slice",data:=.fields #[g,f,.none]}}
 exact tail_any (ops:= [.ref c.heap.objs.size,v]) ht hT hg (by with_unfolding_all rfl)
def yp(xs:List V)(lo hi:Option Int):List V:=(xs.drop (HT.dY xs.length 0 lo)).take (HT.dY xs.length xs.length hi-HT.dY xs.length 0 lo)
def wm(xs:List V)(lo hi:Option Int):(yp xs lo hi).length<=xs.length:=by
 unfold yp
 rw[Qxq,List.length_drop]
 omega
def KY(K:PySem.W.Frag):V->Option Int->Option Int->Hp->VK->Prop:=λx lo hi H Q=>∃a b,x=.ref a/\gM K H a b∧
 ¬(HT.dY b.length 0 lo=0/\HT.dY b.length b.length hi=b.length)/\∀p,H p=none->Q (.ref p) (upd H p (.tup (yp b lo hi)))
def Gn:KE X (KY X.K):=by
 intro j s y H x v w p lo hi t Q I m n k l h
 obtain⟨a,d,rfl,hx,hw,q⟩:=h
 cases m
 obtain⟨f,r,g,i⟩:=I.tuple hx
 have c:f.toArray.size=d.length:=by rw[Qjq];exact r.length.symm
 refine⟨"tuple",_,PyProof.Rows.slot_tuple_getitem.lookup,g.typeIs,?_⟩
 refine HT.mK g n k l (by rw[c];exact hw) ?_ (by rw[c];exact i)
 rw[c]
 refine⟨.ref s.heap.objs.size,_,I.laid (t':=s.toks) (o:=.tup (yp d lo hi)) (λb u q=>Qcq _ q) (Qmq _) ?_,rfl,q _ (I.hok.fresh (Qmq _))⟩
 exact⟨QAq (wm d lo hi) i,_,(r.drop (HT.dY d.length 0 lo)).take (HT.dY d.length d.length hi-HT.dY d.length 0 lo),sI.new _ _⟩
def Fv(K:PySem.W.Frag):R2:=λx y H Q=>∃a b d c,x=.ref a/\y=.ref b/\gM K H a d/\gM K H b c/\d≠[]/\d.length+c.length<=sizeLine∧
 (c= []->Q (.ref a) H)/\(c≠[]->∀p,H p=none->Q (.ref p) (upd H p (.tup (d++c))))
def bo.nil_iff{xs:List V}{us:List Value}(r:bo xs us):us= []↔xs= []:=by
 cases r with
 |nil=>simp
 |cons _ _=>simp
def Ek:i6 X (binaryOp .Add) (Fv X.K):=by
 intro f s r H x y v u Q I l m h
 obtain⟨a,b,k,n,rfl,rfl,ha,hb,hx,hz,q1,q2⟩:=h
 cases l
 cases m
 obtain⟨i,d,j,_⟩:=I.tuple ha
 obtain⟨g,c,p2,_⟩:=I.tuple hb
 refine HT.EJ j p2 (λz=>hx (d.nil_iff.mp z)) (λz=>⟨.ref a,H,I,rfl,q1 (c.nil_iff.mp z)⟩) (λz=> ?_) (by rw[←d.length,←c.length];exact hz)
 refine⟨.ref s.heap.objs.size,_,I.laid (t':=s.toks) (o:=.tup (k++n)) (λb p q=>Qcq _ q) (Qmq _) ?_,rfl,q2 (λw=>z (c.nil_iff.mpr w)) _ (I.hok.fresh (Qmq _))⟩
 exact⟨by rw[lQa];exact hz,_,d.append c,sI.new _ _⟩
end
def yP(n:Nat)(i:Int):Option Nat:=if 0<=i then(if i<n then some i.toNat else none) else if -(n:Int)<=i then some (i+n).toNat else none
def k0{α:Type}(xs:List α)(i:Int):Option α:=(yP xs.length i).bind λj=>xs[j]?
def uV{n:Nat}{i:Int}{j:Nat}(h:yP n i=some j):seqIndex? i n=some j/\j<n/\ -(n:Int)<=i/\i<n:=by
 unfold yP at h
 by_cases b:0<=i
 ·rw[Qhq b] at h
  by_cases a:i<n
  ·rw[Qhq a] at h
   have e:i.toNat=j:=QdQ h
   exact⟨by rw[seqIndex_of b a,e],by omega,by omega,a⟩
  ·rw[Quq a] at h;cases h
 ·rw[Quq b] at h
  by_cases a: -(n:Int)<=i
  ·rw[Qhq a] at h
   have e:(i+n).toNat=j:=QdQ h
   exact⟨by rw[seqIndex_neg (by omega) a,e],by omega,a,by omega⟩
  ·rw[Quq a] at h;cases h
def uL{α:Type}{xs:List α}{i:Int}{v:α}(h:k0 xs i=some v):∃j,seqIndex? i xs.length=some j/\xs[j]?=some v/\j<xs.length/\ -(xs.length:Int)<=i/\i<xs.length:=by
 unfold k0 at h
 cases e:yP xs.length i with
 |none=>rw[e] at h;cases h
 | some j=>
   rw[e] at h
   obtain⟨c,a,d,b⟩:=uV e
   exact⟨j,c,h,a,d,b⟩
def Ac(b:Expr):Prop:=∀o i,subscripted b false o i=operate [o,i] (getItem o i)
def DV(X:Cx)(r:R2):Prop:=
 ∀ (c a:Expr) (b:List (Addr×Obj)) (s:Shared) (d:St) (H:Hp) (x y:V) (v u:Value) (Q:VK),Inv X b d H s->RelV x v->RelV y u->r x y H Q→
   subscripted a false v u=operate [v,u] (getItem v u)->wpAny (model X.prog X.w) X.A (subscriptTail c a v u) (EP X b d Q) X.xe s
def JH(X:Cx)(id:String)(r:V->List V->Hp->VK->Prop):Prop:=
 ∀ (a:List (Addr×Obj)) (s:Shared) (d:St) (H:Hp) (x:V) (c:List V) (v:Value) (b:List Value) (Q:VK),Inv X a d H s->RelV x v->bo c b->r x c H Q→
   wpAny (model X.prog X.w) X.A (call (.builtin id) (v::b)) (EP X a d Q) X.xe s
section
variable{X:Cx}{a b:Expr}{ta tb:TE}{pos:Pos}
def DV.or{r f:R2}(h:DV X r)(h':DV X f):DV X (λx y H Q=>r x y H Q\/f x y H Q):=by
 intro d c e s k H x y v u Q I g j q i
 rcases q with q|q
 ·exact h d c e s k H x y v u Q I g j q i
 ·exact h' d c e s k H x y v u Q I g j q i
def IH{r:R2}(g:DV X r)(l:PE X a ta)(d:PE X b tb)(hs:Ac b):PE X (.Subscript a b pos) (Ft r ta tb):=by
 intro c s k H Q I h
 exact Subscript_ (He l d I h λv u e x y H2 f i j q=>g a b c e k H2 x y v u Q f i j q (hs _ _))
def Jc(K:PySem.W.Frag):R2:=λx y H Q=>∃p c i v,x=.ref p/\y=.int i/\gx K H p c/\k0 c i=some v/\Q v H
def HE(K:PySem.W.Frag):R2:=λx y H Q=>∃p c i v,x=.ref p/\y=.int i/\gM K H p c/\k0 c i=some v/\Q v H
def HM:R2:=λx y H Q=>∃z i c,x=.str z/\y=.int i/\z.length<=sizeLine/\k0 z.cps.toList i=some c/\Q (.str ⟨#[c]⟩) H
def Et:DV X (Jc X.K):=by
 intro g f c s C H x y v u Q I N P h B
 obtain⟨p,S,i,z,rfl,rfl,hq,he,q⟩:=h
 cases N
 obtain⟨t,rfl⟩:=P
 obtain⟨l,r,m,R⟩:=I.list hq
 obtain⟨j,e,G,U,J,L⟩:=uL he
 obtain⟨w,A,k⟩:=r.get G
 have M:=r.length
 have W:=jk
 have d:EP X c C Q w s:=⟨z,H,I,k,q⟩
 by_cases o:0<=i
 ·have n:i.toNat=j:=by
   rw[seqIndex_of o L] at e
   exact QdQ e
  exact item_listR m.isList o (by omega) (by rw[n];simpa using A) d B
 ·have n:(i+(l.toArray.size:Int)).toNat=j:=by
   rw[seqIndex_neg (by omega) J] at e
   rw[Qjq,←M]
   exact QdQ e
  exact subscriptTail_builtinR (x:=w) m.isList.typeIs slot_list_getitem.lookup
   (wpAny_getItem_list_neg (Q:=λr F=>r=w/\EP X c C Q r F) m.isList (by omega) (by rw[Qjq] <;>omega) (by omega) (by rw[n];simpa using A) ⟨rfl,d⟩) B
def GM:DV X (HE X.K):=by
 intro e d c s l H x y v u Q I F J h G
 obtain⟨p,P,i,z,rfl,rfl,hq,he,q⟩:=h
 cases F
 obtain⟨t,rfl⟩:=J
 obtain⟨o,r,k,N⟩:=I.tuple hq
 obtain⟨j,A,n,R,L,M⟩:=uL he
 obtain⟨w,B,g⟩:=r.get n
 have C:=r.length
 have S:=jk
 have f:EP X c l Q w s:=⟨z,H,I,g,q⟩
 exact subscriptTail_builtinR (x:=w) k.typeIs slot_tuple_getitem.lookup
  (getItem_tuple (j:=j) (Q:=λr m=>r=w/\EP X c l Q r m) k (by omega) (by omega) (by rw[Qjq,←C];exact A) (by simpa using B) ⟨rfl,f⟩) G
def GD:DV X HM:=by
 intro e d g s F H x y v u Q I p w h r
 obtain⟨z,i,c,rfl,rfl,hz,he,q⟩:=h
 obtain⟨t,rfl⟩:=p
 obtain⟨B,rfl⟩:=w
 obtain⟨j,f,k,C,l,m⟩:=uL he
 have o:z.cps.toList.length=z.length:=by simp[Str.length]
 rw[o] at f l m
 have G:=jk
 exact tail_any (typeIs_str s z t) slot_str_getitem.lookup (getItem_str (c:=c) (by
  have A:decide (i< -(2^63:Int))=false:=Qdq (by omega)
  have n:decide (i>=2^63)=false:=Qdq (by omega)
  rw[A,n,Bool.or_false]) (by rw[f];simpa using k) ⟨.str ⟨#[c]⟩,H,I.tok _,⟨_,rfl⟩,q⟩) r
def Mg(K:PySem.W.Frag):R2:=λx y H Q=>Jc K x y H Q\/HE K x y H Q\/HM x y H Q
def Ha:DV X (Mg X.K):=Et.or (GM.or GD)
def yt(c:List Value)(n j:Nat)(u:Value):Obj.mapSeq (·.setIfInBounds j u) {cls:=.type "list",data:=.seq c.toArray n}={cls:=.type "list",data:=.seq (c.set j u).toArray n}:=by
 simp[Obj.mapSeq]
def Inv.lst{d:List (Addr×Obj)}{f:St}{H:Hp}{s:Shared}{p:Addr}{xs:List V}(I:Inv X d f H s)(h:H p=some (.lst xs)):
  ∃(c:List Value) (n:Nat),bo xs c/\s.heap.get? p=some {cls:=.type "list",data:=.seq c.toArray n}/\xs.length<=sizeLine:=by
 obtain⟨z,c,n,r,e⟩:=I.hok p _ h
 exact⟨c,n,r,e,z⟩
def Inv.lstUpd{c:List (Addr×Obj)}{j:St}{H:Hp}{s:Shared}{p:Addr}{xs ys:List V}{d its':List Value}{n g:Nat}{f:Obj->Obj}(I:Inv X c j H s)(h:H p=some (.lst xs))
  (l:s.heap.get? p=some {cls:=.type "list",data:=.seq d.toArray n}) (i:f {cls:=.type "list",data:=.seq d.toArray n}={cls:=.type "list",data:=.seq its'.toArray g}) (r:bo ys its') (hz:ys.length<=sizeLine) (t:Nat):
  Inv X c j (upd H p (.lst ys)) {s with heap:=s.heap.update p f,toks:=t}:=by
 have e:(s.heap.update p f).get? p=some {cls:=.type "list",data:=.seq its'.toArray g}:=by
  rw[Heap.get?_update_self f l (by rw[i] <;>rfl),i]
 refine I.write (x:=p) (e:=p) (by rw[h];trivial) (.inl rfl) (λb u k q=>(Heap.get?_update_other _ _ (Ne.symm k)).trans q) ⟨_,e⟩ ?_
 exact⟨hz,its',g,r,e⟩
def Fs:V->V->V->Hp->(Hp->Prop)->Prop:=λo i v H Q=>∃p c k j,o=.ref p/\i=.int k/\H p=some (.lst c)/\yP c.length k=some j/\Q (upd H p (.lst (c.set j v)))
def set_list:GY X Fs:=by
 intro d s F H o i v K M u Q I z G A h
 obtain⟨p,C,k,j,rfl,rfl,hp,hj,q⟩:=h
 cases z
 obtain⟨t,rfl⟩:=G
 obtain⟨c,n,r,g,B⟩:=I.lst hp
 obtain⟨e,J,y,w⟩:=uV hj
 have l:=r.length
 have L:=jk
 have x:Inv X d F (upd H p (.lst (C.set j v))) {s with heap:=s.heap.update p (Obj.mapSeq (·.setIfInBounds j u))}:=
  I.lstUpd hp g (yt c n j u) (r.set A j) (by rw[List.length_set];exact B) s.toks
 by_cases m:0<=k
 ·have f:k.toNat=j:=by
   rw[seqIndex_of m w] at e
   exact QdQ e
  exact PySem.W.ki_setAt g m (by omega) (by rw[Qjq,←l];exact w) (by rw[f];exact⟨_,x,q⟩)
 ·have f:(k+(c.toArray.size:Int)).toNat=j:=by
   rw[seqIndex_neg (by omega) y] at e
   rw[Qjq,←l]
   exact QdQ e
  exact PySem.W.ki_setBack g (by omega) (by rw[Qjq,←l];exact y) (by omega) (by rw[f];exact⟨_,x,q⟩)
def fR:V->Bool
 |.non=>true
 |.bl _=>true
 |.int _=>true
 |.str _=>true
 |_=>false
def pY:V->V->Bool
 |.non,.non=>true
 |.bl a,.bl b=>a==b
 |.bl a,.int b=>(if a then 1 else 0)==b
 |.int a,.bl b=>a==(if b then 1 else 0)
 |.int a,.int b=>a==b
 |.str a,.str b=>a==b
 |_,_=>false
def CK{A:Around}{s:Shared}{y x:V}{u v:Value}(f:RelV y u)(c:RelV x v)(g:fR y=true)(e:fR x=true):SeqAt.EqAt A s u v (pY y x):=by
 cases y with
 | non=>
   cases f
   cases x with
   |non=>cases c;exact SeqAt.EqAt.same _
   |bl b=>cases c;exact SeqAt.EqAt.none_bool b
   |int b=>obtain⟨t,rfl⟩:=c;exact SeqAt.EqAt.none_int b t
   |str b=>obtain⟨t,rfl⟩:=c;exact SeqAt.EqAt.none_str b t
   |_=>exact absurd (show false=true from e) Qtq
 | bl a=>
   cases f
   cases x with
   |non=>cases c;exact SeqAt.EqAt.bool_none a
   |bl b=>cases c;exact SeqAt.EqAt.bool_bool a b
   |int b=>obtain⟨t,rfl⟩:=c;exact SeqAt.EqAt.bool_int a b t
   |str b=>obtain⟨t,rfl⟩:=c;exact SeqAt.EqAt.bool_str a b t
   |_=>exact absurd (show false=true from e) Qtq
 | int a=>
   obtain⟨d,rfl⟩:=f
   cases x with
   |non=>cases c;exact SeqAt.EqAt.int_none a d
   |bl b=>cases c;exact SeqAt.EqAt.int_bool a d b
   |int b=>obtain⟨t,rfl⟩:=c;exact SeqAt.EqAt.int_int a d b t
   |str b=>obtain⟨t,rfl⟩:=c;exact SeqAt.EqAt.int_str a d b t
   |_=>exact absurd (show false=true from e) Qtq
 | str a=>
   obtain⟨d,rfl⟩:=f
   cases x with
   |non=>cases c;exact SeqAt.EqAt.str_none a d
   |bl b=>cases c;exact SeqAt.EqAt.str_bool a d b
   |int b=>obtain⟨t,rfl⟩:=c;exact SeqAt.EqAt.str_int a d b t
   |str b=>obtain⟨t,rfl⟩:=c;exact SeqAt.EqAt.str_str a d b t
   |_=>exact absurd (show false=true from e) Qtq
 |_=>exact absurd (show false=true from g) Qtq
def xV(x:V)(u:Value):Bool:=match u with
 |.none=>pY .non x
 |.bool b=>pY (.bl b) x
 |.int i _=>pY (.int i) x
 |.str z _=>pY (.str z) x
 |_=>false
def uU{x y:V}{u:Value}(r:RelV y u)(f:fR y=true):xV x u=pY y x:=by
 cases y with
 |non=>cases r;rfl
 |bl b=>cases r;rfl
 |int i=>obtain⟨t,rfl⟩:=r;rfl
 |str z=>obtain⟨t,rfl⟩:=r;rfl
 |_=>exact absurd (show false=true from f) Qtq
theorem mM{x:V}:∀{xs:List V} {us:List Value},bo xs us->xs.all fR=true->us.any (xV x)=xs.any λy=>pY y x
 |_,_,.nil,_=>rfl
 | y::xs,u::us,.cons r t,f=>by
   rw[List.all_cons,QCq] at f
   rw[List.any_cons,List.any_cons,uU r f.1,mM t f.2]
theorem g5{A:Around}{s:Shared}{x:V}{v:Value}(e:RelV x v)(d:fR x=true):∀{xs:List V} {us:List Value},bo xs us->xs.all fR=true->∀u∈us,SeqAt.EqAt A s u v (xV x u)
 |_,_,.nil,_=>λu c=>by cases c
 | y::xs,u::us,.cons r t,f=>λg c=>by
   rw[List.all_cons,QCq] at f
   rcases Qsq.mp c with rfl|c
   · rw[uU r f.1];exact CK r e f.1 d
   · exact g5 e d t f.2 g c
def CT(x:V)(xs:List V):Bool:=xs.any λy=>pY y x
def KH(K:PySem.W.Frag)(d:Bool):R2:=λx y H Q=>∃p c,y=.ref p/\(gx K H p c\/gM K H p c)/\fR x=true/\c.all fR=true/\Q (.bl (if d then !CT x c else CT x c)) H
def BD:i6 X (compareOp .In) (KH X.K false):=by
 intro g s m H x y v u Q I i k h
 obtain⟨p,l,rfl,d,fx,fs,q⟩:=h
 cases k
 rcases d with d|d
 ·obtain⟨c,r,f,j⟩:=I.list d
  refine SeqAt.in_listAt (xV x) f.isList (λw e=>g5 i fx r fs w (by simpa using e)) ⟨.bl _,H,I,rfl,?_⟩
  rw[show c.toArray.any (xV x)=c.any (xV x) by simp,mM r fs]
  exact q
 ·obtain⟨c,r,f,j⟩:=I.tuple d
  refine SeqAt.in_tupleAt (xV x) f (λw e=>g5 i fx r fs w (by simpa using e)) ⟨.bl _,H,I,rfl,?_⟩
  rw[show c.toArray.any (xV x)=c.any (xV x) by simp,mM r fs]
  exact q
def uC:i6 X (compareOp .NotIn) (KH X.K true):=by
 intro g s m H x y v u Q I i k h
 obtain⟨p,l,rfl,d,fx,fs,q⟩:=h
 cases k
 rcases d with d|d
 ·obtain⟨c,r,f,j⟩:=I.list d
  refine SeqAt.notIn_listAt (xV x) f.isList (λw e=>g5 i fx r fs w (by simpa using e)) ⟨.bl _,H,I,rfl,?_⟩
  rw[show c.toArray.any (xV x)=c.any (xV x) by simp,mM r fs]
  exact q
 ·obtain⟨c,r,f,j⟩:=I.tuple d
  refine SeqAt.notIn_tupleAt (xV x) f (λw e=>g5 i fx r fs w (by simpa using e)) ⟨.bl _,H,I,rfl,?_⟩
  rw[show c.toArray.any (xV x)=c.any (xV x) by simp,mM r fs]
  exact q
def u5:gy X (.builtin "len") (λxs H Q=>∃p ys,xs= [.ref p]/\(gx X.K H p ys\/gM X.K H p ys)/\Q (.int ys.length) H):=by
 intro i s k H xs m Q I r h
 obtain⟨p,ys,rfl,d,q⟩:=h
 obtain⟨u,rfl,rx⟩:=vals1 r
 cases rx
 have l:=jk
 rcases d with d|d
 ·obtain⟨f,e,g,j⟩:=I.list d
  have c:=e.length
  exact Calls.call_len_list g.isList (by simp only[Qjq] <;>omega) ⟨.int ys.length,H,I.tok _,⟨s.toks+1,by rw[Qjq,c]⟩,q⟩
 ·obtain⟨f,e,g,j⟩:=I.tuple d
  have c:=e.length
  exact len_tuple g (by simp only[Qjq] <;>omega) ⟨.int ys.length,H,I.tok _,⟨s.toks+1,by rw[Qjq,c]⟩,q⟩
def sM:gy X (.type "tuple") (λxs H Q=>∃p ys,xs= [.ref p]/\((gx X.K H p ys/\∀l,H l=none->Q (.ref l) (upd H l (.tup ys)))\/(gM X.K H p ys/\Q (.ref p) H))):=by
 intro c s t H xs y Q I r h
 obtain⟨p,ys,rfl,h⟩:=h
 obtain⟨u,rfl,rx⟩:=vals1 r
 cases rx
 rcases h with⟨i,q⟩|⟨i,q⟩
 ·obtain⟨d,g,j,n⟩:=I.list i
  have m:=g.length
  refine call_tuple_list j.isList (λf v=> ?_) (by simp only[Qjq] <;>omega)
  have k:Inv X c t H {s with heap:=f}:=I.kept (t':=s.toks) v
  have x:Inv X c t (upd H f.objs.size (.tup ys)) {s with heap:=f.push {cls:=.type "tuple",data:=.seq d.toArray}}:=
   k.laid (t':=s.toks) (λb o e=>Qcq _ e) (Qmq _) (show bR X.prog X.w _ _ _ (.tup ys) from⟨n,d,g,sI.new _ _⟩)
  exact⟨.ref f.objs.size,_,x,rfl,q _ (k.hok.fresh (Qmq _))⟩
 ·obtain⟨d,g,j,n⟩:=I.tuple i
  exact call_tuple_same j ⟨.ref p,H,I,rfl,q⟩
def Lf(K:PySem.W.Frag)(T:String)(x:V)(H:Hp):Prop:=match x with
 |.str _=>T="str"
 |.int _=>T="int"
 |.ref p=>(T="list" /\∃d,gx K H p d)\/(T="tuple" /\∃o,K.lookup p=some o/\o.cls=.type "tuple" /\o.dict=none)∨
   (T="dict" /\((∃c,H p=some (.dK c))\/∃c,H p=some (.dT c)))\/(T="set" /\∃S n,H p=some (.set S n))
 |_=>False
def Ck{g:List (Addr×Obj)}{w:St}{H:Hp}{s:Shared}{T:String}{x:V}{v:Value}(I:Inv X g w H s)(r:RelV x v)(h:Lf X.K T x H):
  s.TypeIs v T/\∀a,v=.ref a->∃m,s.heap.get? a=some m/\m.dict=none:=by
 cases x with
 | str z=>
   obtain⟨t,rfl⟩:=r
   cases (show T="str" from h)
   exact⟨typeIs_str s z t,λ_ e=>nomatch e⟩
 | int i=>
   obtain⟨t,rfl⟩:=r
   cases (show T="int" from h)
   exact⟨typeIs_int s i t,λ_ e=>nomatch e⟩
 | ref p=>
   cases r
   rcases h with⟨rfl,xs,hq⟩|⟨rfl,o,d,hc,j⟩|⟨rfl,d⟩|⟨rfl,S,n,d⟩
   · obtain⟨u,_,q,_⟩:=I.list hq
     refine⟨q.isList.typeIs,λa e=> ?_⟩
     cases e
     obtain⟨o,n,e,c,j,_⟩:=q
     exact⟨o,e,j⟩
   · refine⟨⟨o,I.kIn p o d,hc⟩,λa e=> ?_⟩
     cases e
     exact⟨o,I.kIn _ o d,j⟩
   · have z:∃o,s.heap.get? p=some o/\o.ExactDict:=by
       rcases d with⟨k,d⟩|⟨k,d⟩
       · obtain⟨_,_,_,_,o,_,_,e,f,_⟩:=I.hok p _ d
         exact⟨o,e,f⟩
       · obtain⟨_,_,_,_,o,_,_,e,f,_⟩:=I.hok p _ d
         exact⟨o,e,f⟩
     obtain⟨o,e,f⟩:=z
     refine⟨⟨o,e,f.1⟩,λa l=> ?_⟩
     cases l
     exact⟨o,e,f.2.1⟩
   · obtain⟨o,_,_,_,e,f,_⟩:=I.hok p _ d
     refine⟨⟨o,e,f.1⟩,λa l=> ?_⟩
     cases l
     exact⟨o,e,f.2.1⟩
 |_=>exact False.elim h
def K2(K:PySem.W.Frag)(T:String)(r:V->List V->Hp->VK->Prop)(c:TE):TE:=λd H Q=>c d H λx H1=>Lf K T x H1/\r x [] H1 Q
def JO(K:PySem.W.Frag)(T:String)(r:V->List V->Hp->VK->Prop)(d:TE)(t:TA):TE:=λc H Q=>d c H λx H1=>Lf K T x H1/\t c H1 λe H2=>r x e H2 Q
variable{o e:Expr}{es:List Expr}{to:TE}{t:TA}{name:Str}{apos cpos:Pos}{T id:String}{r:V->List V->Hp->VK->Prop}
def Gb(z:PlainAttrs T)(slot:Slot T name id)(g:typeOf (.builtin id)=pure (.type "method_descriptor"))(y:JH X id r)(p:PE X o to)
  (d:attributeBase o name X.env (eval o X.env)=eval o X.env:=by rfl) (f:(apos.endLine==cpos.line)=true:=by rfl):PE X (.Call (.Attribute o name apos) [] [] cpos) (K2 X.K T r to):=by
 intro c s k H Q I h
 refine wpAny_Call_method0_late d f (bZ (p c s k H _ I h) λv q w=> ?_)
 obtain⟨x,H1,j,i,u,m⟩:=w
 obtain⟨n,l⟩:=Ck j i u
 exact⟨T,id,z,slot,g,n,l,Calls.callWith_builtin rfl (PySem.evalArgs_none (y c q k H1 x [] v [] Q j i .nil m))⟩
def ub(N:PlainAttrs T)(slot:Slot T name id)(j:typeOf (.builtin id)=pure (.type "method_descriptor"))(J:JH X id r)(A:PE X o to)(M:PA X (e::es) t)
  (f:attributeBase o name X.env (eval o X.env)=eval o X.env:=by rfl)
  (i:((backTo cpos (starEach (e::es) X.env)).all (λx=> !x.1)&&(backToKw cpos (keywordEach [] X.env)).all (λx=>x.1.isSome)
   &&decide ((e::es).length+([]:List Keyword).length+(if ([]:List Keyword).isEmpty then 0 else 1)<30))=true:=by rfl)
  (g:(apos.endLine==cpos.line)=true:=by rfl) (hs:starEach (e::es) X.env=(false,eval e X.env)::starEach es X.env:=by rfl) (d:(backTo cpos (starEach es X.env)).any (·.1)=false:=by rfl):
  PE X (.Call (.Attribute o name apos) (e::es) [] cpos) (JO X.K T r to t):=by
 intro c s k H Q I h
 refine wpAny_Call_method_late f i g rfl (bZ (A c s k H _ I h) λv B C=> ?_)
 obtain⟨x,H1,m,l,F,w⟩:=C
 obtain⟨y,p⟩:=Ck m l F
 refine⟨T,id,N,slot,j,y,p,?_⟩
 have n:=M cpos c B k H1 _ m w
 rw[hs] at n⊢
 refine Calls.callWith_builtin (by show(false||(backTo cpos (starEach es X.env)).any (·.1))=false;rw[d] <;>rfl) (Calls.evalArgs_plain ?_)
 exact bZ n λL u ⟨q,H2,z,G,P⟩=>J c u k H2 x q v L Q z l G P
end
def Kb(X:Cx)(id:String)(r:V->List V->Hp->VK->Prop):Prop:=
 ∀ (a:List (Addr×Obj)) (s:Shared) (d:St) (H:Hp) (x:V) (c:List V) (v:Value) (b:List Value) (Q:VK),Inv X a d H s->RelV x v->bo c b->r x c H Q→
   wpAny (model X.prog X.w) X.A (call (.builtin id) (v::b)) (EP X a d Q) X.xe s
def bo.one:∀{x:V} {us:List Value},bo [x] us->∃u,us= [u]/\RelV x u
 |_,_,.cons r .nil=>⟨_,rfl,r⟩
theorem bo.eraseIdx:∀{xs:List V} {us:List Value} (i:Nat),bo xs us->bo (xs.eraseIdx i) (us.eraseIdx i)
 |_,_,_,.nil=>.nil
 |_,_,0,.cons _ t=>t
 |_,_,i+1,.cons r t=>.cons r (bo.eraseIdx i t)
theorem bo.rep{xs:List V}{us:List Value}(h:bo xs us):∀k:Nat,bo (List.replicate k xs).flatten (List.replicate k us).flatten
 |0=>.nil
 | k+1=>by
   rw[QNq,QNq,List.flatten_cons,List.flatten_cons]
   exact bo.append h (bo.rep h k)
theorem s_{α:Type}:∀(l:List α) (i:Nat),(l.eraseIdx i).length<=l.length
 | [],_=>Qmq _
 |_::_,0=>Nat.le_succ _
 |_::r,i+1=>Nat.succ_le_succ (s_ r i)
theorem foldl_rep(a:List Value):∀(k:Nat) (b:List Value),
  List.foldl (λd f=>d++f) b.toArray (List.replicate k a.toArray)=(b++(List.replicate k a).flatten).toArray
 |0,b=>by simp
 | k+1,b=>by
   have e:b.toArray++a.toArray=(b++a).toArray:=by simp
   have c:(b++a)++(List.replicate k a).flatten=b++(List.replicate (k+1) a).flatten:=by
     rw[QNq,List.flatten_cons,Qvq]
   rw[←c,←foldl_rep a k (b++a),←e,QNq,List.foldl_cons]
section
variable{X:Cx}{pins:List (Addr×Obj)}{σ:St}{H:Hp}{s:Shared}{l b:Addr}{xs ys zs:List V}
def Inv.lset{a its':List Value}{n:Nat}{f:Array Value->Array Value}{t':Nat}(I:Inv X pins σ H s)(d:H l=some (.lst xs))
  (e:s.heap.get? l=some {cls:=.type "list",data:=.seq a.toArray n}) (c:f a.toArray=its'.toArray) (hv:bo ys its') (hz:ys.length<=sizeLine):
  Inv X pins σ (upd H l (.lst ys)) {s with heap:=s.heap.update l (Obj.mapSeq f),toks:=t'}:=by
 have q:=PySem.IsL.update e f
 rw[c] at q
 refine I.write (x:=l) (e:=l) (by rw[d];exact trivial) (.inl rfl) (λi u h g=>(Heap.get?_update_other s.heap (Obj.mapSeq f) (Ne.symm h)).trans g) ⟨_,q⟩ ?_
 exact⟨hz,its',_,hv,q⟩
def Inv.lnew{a:List Value}{t':Nat}(I:Inv X pins σ H s)(hv:bo ys a)(hz:ys.length<=sizeLine):
  Inv X pins σ (upd H s.heap.objs.size (.lst ys)) {s with heap:=s.heap.push {cls:=.type "list",data:=.seq a.toArray},toks:=t'}:=
 I.laid (λ_ _ q=>Qcq _ q) (Qmq _) ⟨hz,a,0,hv,Qrq _ rfl⟩
def Inv.fresh(I:Inv X pins σ H s):H s.heap.objs.size=none:=I.hok.fresh (Qmq _)
def Inv.lstM(I:Inv X pins σ H s)(c:H l=some (.lst xs)):xs.length<=sizeLine/\∃(a:List Value) (n:Nat),bo xs a/\xs.length=a.length/\s.heap.get? l=some {cls:=.type "list",data:=.seq a.toArray n}:=by
 obtain⟨z,a,n,r,e⟩:=I.hok l _ c
 exact⟨z,a,n,r,r.length,e⟩
def rJ{n:Nat}(h:n<=sizeLine):Builtin.List.listTooLong n=false:=by
 unfold Builtin.List.listTooLong
 exact Qdq (by omega)
end
section
variable{X:Cx}
def Ab:V->List V->Hp->VK->Prop:=λx b H Q=>∃l a y,x=.ref l/\b= [y]/\H l=some (.lst a)/\a.length<sizeLine/\Q .non (upd H l (.lst (a++ [y])))
def nY:Kb X "list.append" Ab:=by
 intro b s j H x f v k Q I d c h
 obtain⟨l,i,y,rfl,rfl,hH,hz,q⟩:=h
 cases d
 obtain⟨u,rfl,ru⟩:=c.one
 obtain⟨z,a,n,r,g,e⟩:=I.lstM hH
 refine call_meets F.slot_list_append ⟨_,e,rfl⟩ F.entry_list_append (F.args_list_append_2 _ _) (PySem.list_append l a.toArray n u (by rw[Qjq];omega)) ⟨e,?_⟩
 refine⟨.non,_,I.lset (its':=a++ [u]) hH e (by simp) (r.append (.cons ru .nil)) ?_,rfl,q⟩
 rw[lQa,List.length_singleton]
 omega
def Ax:V->List V->Hp->VK->Prop:=λx d H Q=>∃l b a c,x=.ref l/\d= [.ref b]/\H l=some (.lst a)/\H b=some (.lst c)/\a.length+c.length<=sizeLine/\Q .non (upd H l (.lst (a++c)))
def AY:Kb X "list.extend" Ax:=by
 intro g s C H x y v G Q I m j h
 obtain⟨l,b,B,t,rfl,rfl,hH,hB,hz,q⟩:=h
 cases m
 obtain⟨u,rfl,ru⟩:=j.one
 cases ru
 obtain⟨z,c,n,r,A,e⟩:=I.lstM hH
 obtain⟨w,a,p,o,i,k⟩:=I.lstM hB
 have f:c.toArray.size+a.toArray.size<=sizeLine:=by rw[Qjq,Qjq];omega
 have d:¬(!c.toArray.isEmpty&&Builtin.List.listTooLong (c.toArray.size+a.toArray.size))=true:=by
  rw[rJ f,Bool.and_false]
  exact Qtq
 refine call_meets F.slot_list_extend ⟨_,e,rfl⟩ F.entry_list_extend (F.args_list_extend_2 _ _)
  (AutoSeq1.list_extend_list_list_0 l c.toArray n b a.toArray p d (by rw[Qjq];omega) (by omega)) ⟨e,k,?_⟩
 refine⟨.non,_,I.lset (its':=c++a) hH e (by simp) (r.append o) ?_,rfl,q⟩
 rw[lQa]
 omega
def Dc:V->List V->Hp->VK->Prop:=λx b H Q=>∃l a i k y,x=.ref l/\b= [.int i]/\H l=some (.lst a)/\ -(2^63)<=i/\i<2^63/\seqIndex? i a.length=some k/\a[k]?=some y/\Q y (upd H l (.lst (a.eraseIdx k)))
def Co:Kb X "list.pop" Dc:=by
 intro c s p H x o v A Q I m d h
 obtain⟨l,j,i,k,y,rfl,rfl,hH,h1,h2,hk,hy,q⟩:=h
 cases m
 obtain⟨u,rfl,ru⟩:=d.one
 obtain⟨t,rfl⟩:=ru
 obtain⟨z,a,n,r,g,e⟩:=I.lstM hH
 obtain⟨w,f,b⟩:=r.get hy
 refine call_meets F.slot_list_pop ⟨_,e,rfl⟩ F.entry_list_pop (F.args_list_pop_2 _ _)
  (MeetsSeq.list_pop_at l a.toArray n i t k w (fitsIndex_both h1 h2) (by rw[Qjq,←g];exact hk) (by rw[←Array.getElem?_toList];exact f) (by rw[Qjq];omega)) ⟨e,?_⟩
 refine⟨y,_,I.lset (its':=a.eraseIdx k) hH e ?_ (r.eraseIdx k) ?_,b,q⟩
 ·show a.toArray.eraseIdxIfInBounds k=(a.eraseIdx k).toArray
  rw[List.eraseIdxIfInBounds_toArray]
 ·have:=s_ j k
  omega
def KZ:R2:=λx y H Q=>∃l b a c,x=.ref l/\y=.ref b/\H l=some (.lst a)/\H b=some (.lst c)/\a.length+c.length<=sizeLine/\∀p,H p=none->Q (.ref p) (upd H p (.lst (a++c)))
def GA:i6 X (binaryOp .Add) KZ:=by
 intro d s A H x y v u Q I i j h
 obtain⟨l,b,w,o,rfl,rfl,hH,hB,hz,q⟩:=h
 cases i
 cases j
 obtain⟨z,c,n,r,t,e⟩:=I.lstM hH
 obtain⟨p,a,B,k,f,g⟩:=I.lstM hB
 refine PySem.P.add_list e g ?_ (by rw[Qjq,Qjq];omega)
 have m:c.toArray++a.toArray=(c++a).toArray:=by simp
 rw[m]
 exact⟨.ref _,_,I.lnew (t':=s.toks) (r.append k) (by rw[lQa];omega),rfl,q _ I.fresh⟩
def Kv:R2:=λx y H Q=>∃l k a,x=.ref l/\y=.int k/\H l=some (.lst a)/\ -(2^63)<=k/\k<2^63/\a.length*k.toNat<=sizeLine∧
 ∀p,H p=none->Q (.ref p) (upd H p (.lst (List.replicate k.toNat a).flatten))
def len_rep{α:Type}(xs:List α)(k:Nat):(List.replicate k xs).flatten.length=k*xs.length:=by
 induction k with
 |zero=>simp
 |succ k a=>rw[QNq,List.flatten_cons,lQa,a,Nat.succ_mul,Nat.add_comm]
def F7:i6 X (binaryOp .Mult) Kv:=by
 intro p s L H x y v u Q I C G h
 obtain⟨l,k,K,rfl,rfl,hH,h1,h2,hz,q⟩:=h
 cases C
 obtain⟨t,rfl⟩:=G
 obtain⟨z,b,n,r,B,e⟩:=I.lstM hH
 have f:b.toArray.size*k.toNat<=sizeLine:=by rw[Qjq,←B];exact hz
 have d:¬b.toArray.size*k.toNat>(2^63-1)/8:=by
  have:(sizeLine:Nat)<=(2^63-1)/8:=by decide
  omega
 have i:¬(!Builtin.List.listFitsIndex k)=true:=by
  rw[fitsIndex_both h1 h2]
  exact Qtq
 have c:¬Builtin.List.listTooLong (b.toArray.size*k.toNat)=true:=by
  rw[rJ f]
  exact Qtq
 have g:List.foldl (λo j=>o++j) #[] (List.replicate (if b.toArray.isEmpty=true then 0 else k.toNat) b.toArray)=(List.replicate k.toNat b).flatten.toArray:=by
  have A:∀m:Nat,List.foldl (λo j=>o++j) #[] (List.replicate m b.toArray)=(List.replicate m b).flatten.toArray:=λm=>by
   have:=foldl_rep b m []
   rw[List.nil_append] at this
   exact this
  rw[A]
  cases b with
  |nil=>simp
  |cons a J=>rw[Quq (by simp)]
 refine wpAny_binaryOp_repeat_ref (T:="list") (U:="int") (by decide) ⟨_,e,rfl⟩ (λw=>typeIs_int w k t) noFill_list_mul F.fills_int_mul F.slot_int_rmul repeat_list F.slot_int_index.lookup
  (call_meets F.slot_int_rmul (typeIs_int s k t) F.entry_int_rmul (F.args_int_rmul_2 _ _) (int___rmul___int_list k t l b.toArray n)
   ⟨e,rfl,⟨_,e,rfl⟩,call_meets F.slot_list_mul ⟨_,e,rfl⟩ F.entry_list_mul (F.args_list_mul_2 _ _) (AutoListH.list___mul___list_int_3 l b.toArray n k t i d c) ⟨e,?_⟩⟩)
 rw[g]
 exact⟨.ref _,_,I.lnew (t':=s.toks) (r.rep k.toNat) (by rw[len_rep,Nat.mul_comm];exact hz),rfl,q _ I.fresh⟩
end
end L2
namespace Att
open PySem PySem.W PySem.Calls PyProof.Rows
def pO{P:Params}{h:Heap}:∀(ns:List Int) (vs:List Value),WellAll P h vs (ns.map WData.int)->IntsAre vs ns:=by
 intro ns
 induction ns with
 | nil=>
   intro vs w
   rw[List.map_nil] at w
   cases w
   exact .nil
 | cons n ns c=>
   intro vs w
   rw[QDq] at w
   cases w with
   | cons a b=>
     cases a
     exact .cons _ _ (c _ b)
def BH{l:OpenLaw}{n:Nat}(p:l.most=some n){P:Params}{h:Heap}{args:List WData}{vals:List Value}
  (b:l.row.toRowW.claim.pre args=true) (i:WellAll P h vals args):
  ∃a vs ns,vals= [Value.ref a]/\args= [WData.list (ns.map WData.int)]/\h.get? a=some {cls:=.type "list",data:=.seq vs.toArray}/\IntsAre vs ns/\ns.length<=n:=by
 have j:WShape.hasAll [] args [.list .int]=true:=(pre_splitW b).1
 have k:l.pre.holds [] {args:=args}=true:=(pre_splitW b).2
 obtain⟨d,r,rfl,h1,h2⟩:=hasAllW_cons j
 obtain rfl:=hasAllW_nil h2
 obtain⟨u,rfl,h3⟩:=hasW_list h1
 obtain⟨ns,rfl⟩:=items_int h3
 have c:ns.length<=n:=by
  unfold OpenLaw.pre at k
  have f:(WTm.not (.lt (.lit (.int (n:Int))) (.len (.arg 0)))).holds [] {args:= [.list (ns.map .int)]}=true:=by
   have f:=(holds_andW k).1
   rw[p] at f
   exact f
  have g:=condW_of f (w_not (w_lt w_lit (w_len_list (w_arg rfl))))
  rw[lQm] at g
  refine Nat.le_of_not_lt λq=> ?_
  have t:(n:Int)<((ns.length:Nat):Int):=by omega
  first
   |(rw[Qeq t] at g;exact absurd g (by decide))
   |(simp at g;omega)
 cases i with
 | cons m s=>
   cases s
   cases m with
   |list o e=>exact⟨_,_,ns,rfl,rfl,o,pO ns _ e,c⟩
def Bg(l:OpenLaw)(args:List WData):l.row.toRowW.claim.post args (.bool true) args=true:=
 postW_of (r:=l.row.toRowW) (X:=(true==true))
  (show WShape.has [] (.bool true) .bool=true by first|rfl|decide|simp[WShape.has,WShape.arms,WShape.armsAll])
  (show(WTm.eq .res (.lit (.bool true))).value [] {args:=args,res:=some (.bool true),after:=args}=some (.bool (true==true)) from w_eq_bool (w_res rfl) w_lit) rfl
def wL{l:OpenLaw}{n:Nat}{q:Program}{c:List Str}{B:(Str->Option Value)->Heap->Prop}{A:World->Heap->Prop}{d:DefRec}
  (K:l.most=some n) (s:d.params.defaults= [])
  (g:∀(w:World) (s₀ b:Shared) (mg t:Str->Option Value) (h:Addr) (o:Obj) (m k e:Value) (a:Addr) (vs:List Value) (ns:List Int),
   Ground q c [] B w s₀ mg t b.heap->A w b.heap→
   b.heap.get? h=some o->o.data=.func (docDef d.name d.params d.body d.scope m k e)->b.heap.CodeRec k d.name->mg d.name=some (.ref h)→
   b.heap.get? a=some {cls:=.type "list",data:=.seq vs.toArray}->IntsAre vs ns->ns.length<=n->b.gens= #[]→
   codeAny (model l.prog w) callerA (.call (.ref h) ⟨[.ref a],[]⟩) (λr j=>r=.ok (.ret (.bool true))/\OldK b.heap j.heap/\j.os=b.os/\AllBare j.gens) b):
  WalkO q c B A l.row.toRowW d [] (λf vs=>PySem.call f vs):=by
 intro w s₀ b mg t G Y h o m k e N kV J F v z u H x y Q i C P p M
 obtain rfl:N=.none:=Dflts.none z s
 obtain rfl:kV=.none:=Dflts.noKw z
 obtain⟨a,vs,ns,rfl,rfl,hobj,hints,hlen⟩:=BH K i p
 refine enter_call (codeAny_mono (g w s₀ b mg t h o m k e a vs ns G Y J (fd_plain F) v u hobj hints hlen H) λr j I=> ?_)
 obtain⟨rfl,h2,h3,h4⟩:=I
 exact⟨.inl ⟨.bool true,.bool true,[],rfl,λ_=>rfl,.bool true,Bg l _,λ_=>⟨List.Pairwise.nil,λ_ L=>(nomatch L)⟩⟩,h2,h3,h4⟩
end Att
namespace L2
open PySem PySem.Spec PyProof.Rows
theorem sT:∀{vs:List Value} {ns:List Int},IntsAre vs ns->bo (ns.map V.int) vs
 |_,_,.nil=>.nil
 |_,_,.cons n t h=>.cons ⟨t,rfl⟩ (sT h)
def EY(H:Hp):Prop:=∀b,H b=none\/∃o a,H b=some (.frz o (.lst a))
def C4{P:Program}{w:World}{K:PySem.W.Frag}{mg U:Str->Option Value}{CX:BK}{k:Nat}{Z a:Addr}{fd:FuncData}{x:Str}{sp:Sp}{c:Shared}{vs:List Value}{ns:List Int}
  (KX:K.In c.heap) (L:c.heap.Ns mainGlobals mg) (g:c.heap.Ns builtinsNs U) (Q:∀x:Str,x≠"__name__" ->U x=bootBuiltins x) (M:c.heap.NoLimit) (hg:c.gens= #[])
  (N:c.heap.get? a=some {cls:=.type "list",data:=.seq vs.toArray}) (hi:IntsAre vs ns) (hl:ns.length<=sizeLine) (hr:eK k callerA)
  (F:∀base:Heap,K.In base->base.Ns mainGlobals mg->bj P w K mg base CX k Z fd [x] sp) (p:∀(s:Shared) (u:Value),BindsTo s fd ⟨[u],[]⟩ [(x,u)])
  (Y:∀H:Hp,EY H->gx K H a (ns.map V.int)->sp [.ref a] H (λv _=>v=.bl true) λ_ _ _=>False)
  (X:∀H e i,CX [] H c (λ_ _ _=>False) e i->False):
  codeAny (model P w) callerA (.call (.ref Z) ⟨[.ref a],[]⟩) (λr i=>r=.ok (.ret (.bool true))/\OldK c.heap i.heap/\i.os=c.os/\AllBare i.gens) c:=by
 have rv:=sT hi
 have G:=hi.length
 have l:∀H:Hp,EY H->gx K H a (ns.map V.int)->l_ P w H c.heap->(∀b,H b≠none->b=a)->(H a≠none->K.lookup a=none)→
   codeAny (model P w) callerA (.call (.ref Z) ⟨[.ref a],[]⟩) (λr i=>r=.ok (.ret (.bool true))/\OldK c.heap i.heap/\i.os=c.os/\AllBare i.gens) c:=by
  intro H hO hS y hA hK
  have f:∀{b:Addr} {o:Obj},c.heap.get? b=some o->H b=none->(vd c.heap H).get? b=some o:=λe n=>CU e n
  have R:∀{b:Addr} {o:Obj} {C:Array DictEntry} {I:Nat},c.heap.get? b=some o->o.data=.dict C I->H b=none:=λ{b o C I} e d=>by
   cases q:H b with
   |none=>rfl
   | some u=>
     have e':b=a:=hA b (by rw[q];simp)
     subst e'
     rw[N] at e;cases e
     have d':Data.seq vs.toArray _=Data.dict C I:=d
     cases d'
  have j:∀{b:Addr} {m:Str->Option Value},c.heap.Ns b m->(vd c.heap H).Ns b m:=λ{b m} ⟨o,C,I,e,d,r⟩=>⟨o,C,I,f e (R e d),d,r⟩
  have A:K.In (vd c.heap H):=λb o e=>f (KX b o e) (by
   cases q:H b with
   |none=>rfl
   | some u=>
     have e':b=a:=hA b (by rw[q];simp)
     subst e'
     rw[hK (by rw[q];simp)] at e;cases e)
  have hM:Mod K mg (vd c.heap H):=⟨A,j L,⟨U,j g,Q⟩,let ⟨mc,h1,h2⟩:=M;⟨mc,j h1,h2⟩⟩
  have e0:El P w K mg (vd c.heap H) callerA [] c H:=⟨rfl,hM,λb o e=>Fl e,Nat.le_of_eq (AA _ _),trivial,λb g=>absurd (show b∈([]:List Addr) from g) (by simp),y,.of_eq hg⟩
  refine codeAny_mono ((F _ A (j L)).run callerA [] c H ⟨[.ref a],[]⟩ [.ref a] [.ref a] _ _ hr e0 (p c (.ref a)) (.cons rfl .nil) (Y H hO hS)) λr i h=> ?_
  cases r with
  |error e=>exact(X H e i h).elim
  | ok fl=>
    cases fl with
    |next=>exact False.elim h
    |brk=>exact False.elim h
    |cont=>exact False.elim h
    | ret u=>
      obtain⟨v,H',os,t,un,J,r',q⟩:=h
      have q':v=.bl true:=q
      subst q'
      obtain rfl:u=Value.bool true:=r'
      refine⟨rfl,OldK.of_keep λb o e=> ?_,os,t⟩
      cases q:H b with
      |none=>exact un.keep b o e q (by intro z;exact absurd (show b∈([]:List Addr) from z) (by simp)) (by simp)
      | some u=>
        rcases hO b with z|⟨ob,xs,z⟩
        · rw[q] at z;cases z
        · have z2:=un.frzs b ob _ z
          obtain⟨e1,_⟩:=y b _ z
          obtain⟨e2,_⟩:=J b _ z2
          rw[e] at e1;cases e1
          exact e2
 cases S:K.lookup a with
 | some o=>
   have e:=KX a o S
   rw[N] at e
   cases e
   refine l (λ_=>none) (λ_=>.inl rfl) (.inr ⟨_,vs.toArray,_,S,rfl,rfl,rfl,by rw[Qjq,G];exact hl,by simpa using rv⟩) (λb u z=>by have B:(none:Option HO)=some u:=z;cases B) (λb z=>absurd rfl z) λz=>absurd rfl z
 | none=>
   refine l (λb=>if b=a then some (.frz {cls:=.type "list",data:=.seq vs.toArray} (.lst (ns.map V.int))) else none) (λb=> ?_) (.inl (.inr ⟨{cls:=.type "list",data:=.seq vs.toArray},Qhq rfl⟩)) (λb u z=> ?_) (λb z=> ?_) λ_=>S
   · by_cases g:b=a
     · exact .inr ⟨_,_,Qhq g⟩
     · exact .inl (Quq g)
   · by_cases g:b=a
     · have B:=(Qhq g).symm.trans z
       cases B
       subst g
       exact⟨N,by rw[lQm];exact hl,vs,_,rv,N⟩
     · have B:=(Quq g).symm.trans z
       cases B
   · by_cases g:b=a
     · exact g
     · exact absurd (Quq g) z
def E_{l:PySem.W.OpenLaw}{n k:Nat}{q:Program}{i:List Str}{Q:(Str->Option Value)->Heap->Prop}{M:World->Heap->Prop}{d:DefRec}{K:Params->PySem.W.Frag}{CX:World->BK}{sp:World->Sp}{x:Str}
  (hn:l.most=some n) (B:n<=sizeLine) (z:d.params.defaults= []) (X:eK k callerA)
  (U:∀(w:World) (h:Heap),M w h->(K w.params).In h)
  (F:∀(w:World) (mg:Str->Option Value) (r:Addr) (h:Heap),(K w.params).In h->h.Ns mainGlobals mg->mg d.name=some (.ref r)→
   ∃ y:FuncData,(∀(s:Shared) (u:Value),BindsTo s y ⟨[u],[]⟩ [(x,u)])∧
     ∀base:Heap,(K w.params).In base->base.Ns mainGlobals mg->bj l.prog w (K w.params) mg base (CX w) k r y [x] (sp w))
  (I:∀(w:World) (H:Hp) (a:Addr) (ns:List Int),ns.length<=n->EY H->gx (K w.params) H a (ns.map V.int)->sp w [.ref a] H (λv _=>v=.bl true) λ_ _ _=>False)
  (A:∀(w:World) (H:Hp) (s:Shared) (e:Value) (t:Shared),CX w [] H s (λ_ _ _=>False) e t->False):
  PySem.W.WalkO q i Q M l.row.toRowW d [] (λf vs=>PySem.call f vs):=by
 refine Att.wL hn z λw L p mg mb r o pm cd Z a vs ns G Y ho hd a0 C m j c P=> ?_
 have J:=U w _ Y
 obtain⟨y,N,S⟩:=F w mg r _ J G.T.g C
 exact C4 J G.T.g G.T.b G.T.builtins G.T.nolimit P m j (QAq c B) X S N (λH R hS=>I w H a ns c R hS) λH e t=>A w H p e t
def fV(s:Stmt):Arguments:=match s with
 |.FunctionDef _ a _ _ _ _ _ _ _ _=>a
 |_=>{posonlyargs:= [],args:= [],vararg:=none,kwonlyargs:= [],kw_defaults:= [],kwarg:=none,defaults:= []}
def eV(s:Stmt):List Stmt:=match s with
 |.FunctionDef _ _ b _ _ _ _ _ _ _=>b
 |_=> []
def az(s:Stmt):Scope:=match s with
 |.FunctionDef _ _ _ _ _ _ a _ _ _=>a
 |_=>{kind:=.function,names:= [],isGenerator:=false,isCoroutine:=false}
abbrev dA:BK:=λ_ _ _ _ _ _=>False
abbrev E0:XK:=λ_ _ _=>False
def C6{X:Cx}:y4 dA X E0:=λ_ _ _ _ _ _ _ h=>h.elim
structure dU(K:PySem.W.Frag)(x qual:Str)(st:Stmt)(f:Addr)(fd:FuncData):Prop where
 ex:∃(oc:Value) (od:Option Addr) (kV doc pm:Value) (an:Option Addr) (cdv ct:Value) (osl:Array (Option Value)),
  fd=PySem.W.fnOf x qual (fV st) (eV st) (az st) .none kV doc pm an cdv ct/\K.lookup f=some ⟨oc,od,.func fd,osl⟩/\PySem.W.codeIn K cdv qual=true
 kp:PySem.W.keepIn K (.ref f)=true
section
variable{P:Program}{w:World}{K:PySem.W.Frag}{mg:Str->Option Value}{base:Heap}
def dU.ok{x a:Str}{st:Stmt}{f:Addr}{e:FuncData}{N ps:List Str}{k:Nat}{sp:Sp}(F:dU K x a st f e)(S:aE N ps (az st))(len:∀vs H Q E,sp vs H Q E->vs.length=ps.length)
  (c:∀(b:Value) (A:Around) (outer:List Env) (s:Shared) (H:Hp) (vs:List V) (Q:VK) (E:XK),eK k (A.deeper (envOfC a (az st) s.heap.objs.size f b))->sp vs H Q E→
   ∃t,rO (yT dA P w K mg base N a (az st) f b A outer s H E).nox (eV st) t/\t {nx:=λ_ j=>Q .non j,rt:=Q} (start N vs) H):bj P w K mg base dA (k+1) f e ps sp:=by
 obtain⟨n,p,kV,i,m,o,b,r,l,rfl,lk,hcd⟩:=F.ex
 refine HD lk hcd S len λA outer s H vs Q E g d=> ?_
 obtain⟨t,h,q⟩:=c b A outer s H vs Q E g d
 exact⟨t,h.nox,q⟩
def dU.binds{x a:Str}{st:Stmt}{f:Addr}{g:FuncData}{ps:List Str}(F:dU K x a st f g)
  (h:∀(kV c e:Value) (d:Option Addr) (b ct:Value) (us:List Value),us.length=ps.length->bindArgs (PySem.W.fnOf x a (fV st) (eV st) (az st) .none kV c e d b ct) ⟨us,[]⟩=pure (ps.zip us)):Binds K g ps []:=by
 obtain⟨k,j,kV,c,e,d,b,ct,i,rfl,lk,hcd⟩:=F.ex
 exact .all (h kV c e d b ct)
def zf{x a:Str}{st:Stmt}{f:Addr}{j:Value}{i g:Option Addr}{e:Array (Option Value)}{kV d h b ct:Value}(l:K.lookup f=some ⟨j,i,.func (PySem.W.fnOf x a (fV st) (eV st) (az st) .none kV d h g b ct),e⟩)
  (c:PySem.W.codeIn K b a=true) (k:PySem.W.keepIn K (.ref f)=true):dU K x a st f (PySem.W.fnOf x a (fV st) (eV st) (az st) .none kV d h g b ct):=⟨⟨j,i,kV,d,h,g,b,ct,e,rfl,l,c⟩,k⟩
end
def xf{A:Around}{k:Nat}(a:eK k A):A.units+1<cLine:=Nat.lt_of_le_of_lt (Nat.add_le_add_left (by decide:1<=64) _) a.units
def aV{n:Nat}(h:n<=1000):n<sizeLine:=Nat.lt_of_le_of_lt h (by decide)
section
variable{X:Cx}
def pv(i:Nat){x:Str}{pos:Pos}(b:X.N[i]?=some x:=by rfl)(hv:D2 X.env.scope x:=by first|exact Or.inl rfl|exact Or.inr (Or.inl rfl)|exact Or.inr (Or.inr rfl))(hd:(x==("__debug__":Str))=false:=by decide)
  (a:(x==("__classdict__":Str))=false:=by decide):PE X (.Name x pos) (Hd i):=CD b hv hd a
end
section
variable{prog:Program}{w:World}{A:Around}{s:Shared}
def m3{o a l:Expr}{t:List Expr}{e:Scope}{pos:Pos}{it p:Value}{env:Env}{R:Result->Shared->Prop}(I:Nat->Shared->Prop)
  (B:∀n s,I n s->wpAny (model prog w) A (pyNext it) (λr f=>match r with
   |none=>R (.ok .next) f
   |some v=>wpAny (model prog w) A (letOwnedTupleGo a it v) (λ_ b=>wpAny (model prog w) A (assign a env v) (λ_ k=>
     wpAny (model prog w) A (forIn t true λc r=>if r=true then do let ok←isTrue c env (eval c env);pure (ForInStep.yield ok) else pure (ForInStep.yield r)) (λok s₃=>
      if ok=true then wpAny (model prog w) A (eval o env) (λx i=>
       wpAny (model prog w) A (call (.builtin "list.append") [p,x]) (λ_ j=>∃m,m<n/\I m j) (λ_ _=>False) i) (λ_ _=>False) s₃
      else∃m,m<n/\I m s₃) (λ_ _=>False) k) (λ_ _=>False) b) (λ_ _=>False) f) (λ_ _=>False) s)
  (n:Nat) (h:I n s):codeAny (model prog w) A (.compLoop (.ListComp o [⟨a,l,t,0⟩] e pos) 0 it p env) R s:=by
 refine codeAny_loop rfl I (λn s C=> ?_) n h
 show wpAny _ A ((compTurn (.ListComp o [⟨a,l,t,0⟩] e pos) 0 it p env).onRaise (λx=>do noteFrame x env;theTreesLotGoes x)) _ _ s
 refine wpAny_noted ?_
 rw[compTurn_list]
 refine Qaq (wpAny_standAt (Qaq (QRq (B n s C) (λr f g=> ?_) λ_ _ d=>d.elim)))
 cases r with
 |none=>exact Qgq g
 | some v=>
   refine Qaq (QRq g (λ_ b q=> ?_) λ_ _ d=>d.elim)
   refine Qaq (QRq q (λ_ k y=>Qaq (QRq y (λok s₃ h₃=> ?_) λ_ _ d=>d.elim)) λ_ _ d=>d.elim)
   cases ok with
   |false=>exact Qgq ⟨rfl,h₃⟩
   | true=>
     exact Qaq (Qaq (QRq h₃ (λx i u=>Qaq (QRq u (λ_ j z=>Qgq (Qgq ⟨rfl,z⟩)) λ_ _ d=>d.elim)) λ_ _ d=>d.elim))
end
def aF(X:Cx)(N:List Str)(a:Scope)(b:List (Str×Addr))(C:Addr)(s:Shared)(H:Hp)(fp:List Addr):Cx where
 prog:=X.prog
 w:=X.w
 K:=X.K
 mg:=X.mg
 base:=X.base
 A:=X.A
 N:=N
 s₀:=s
 H₀:=H
 env:=compEnvC a b C X.env
 outer:=X.stack
 stack:=X.stack
 ex:=fp
 fn:=λ_=>false
 calm:=X.calm
 pn:= []
 xe:=λ_ _=>False
def iP(js:List (Option Nat))(a:St):St:=js.map λo=>o.bind λj=>a.getD j none
structure aP(X:Cx)(N:List Str)(js:List (Option Nat))(scope:Scope)(cl:List (Str×Addr)):Prop where
 kind:scope.kind=.function
 nocell:∀y∈scope.names,y.2≠.cell
 names:∀y∈scope.names,y.2=.local->scope.names.lookup y.1=some .local
 clos:closureFor scope X.env=pure cl
 sub:∀x c,cl.lookup x=some c->X.env.cells.lookup x=some c
 has:∀x,((relabel scope X.env).names.lookup x=some .cell\/(relabel scope X.env).names.lookup x=some .free)->∃c,cl.lookup x=some c
 cap:∀(k j:Nat) (x:Str),js[k]?=some (some j)->N[k]?=some x->X.N[j]?=some x/\(X.env.kindOf x=some .cell\/X.env.kindOf x=some .free)/\((relabel scope X.env).names.lookup x=some .cell\/(relabel scope X.env).names.lookup x=some .free)
 len:js.length=N.length
def kT(X:Cx)(d:List Expr)(t:TT):Prop:=
 ∀ (a:List (Addr×Obj)) (s:Shared) (b:St) (H:Hp) (Q:Bool->Hp->Prop),Inv X a b H s->t b H Q→
   wpAny (model X.prog X.w) X.A (forIn d true λc r=>if r=true then do let ok←isTrue c X.env (eval c X.env);pure (ForInStep.yield ok) else pure (ForInStep.yield r)) (TP X a b Q) X.xe s
def Gy{X:Cx}:kT X [] (λ_ H Q=>Q true H):=λ_ _ _ H _ I h=>wpAny_tests_nil ⟨H,I,h⟩
def FR{X:Cx}{c:Expr}{t:TT}(b:PT X c t):kT X [c] t:=λa s d H Q I h=>
 wpAny_tests_one (bZ (b a s d H Q I h) λok s' h'=>h')
def Ig(J:It)(g:TG)(l:TT)(k:TE)(Q:VK)(D:Addr)(n:St)(H:Hp):Prop:=
 ∃ W:Nat->Nat->St->Hp->Prop,(∃m,W 0 m n H)/\∀i m d e,W i m d e→
   (J.stop i e/\Q (.ref D) e)\/(J.go i e/\∃f:St->Hp->Prop,(∀b c,f b c->∃j,j<m/\W (i+1) j b c)∧
     ∀ x H2,J.yld i e x H2->g x d H2 λa H3=>l a H3 λok H4=>
       if ok=true then k a H4 λy H5=>∃h,H5 D=some (.lst h)/\h.length<sizeLine/\f a (upd H5 D (.lst (h++ [y]))) else f a H4)
def DM(js:List (Option Nat))(b:TI)(g:TG)(d:TT)(c:TE):TE:=λa H Q=>b a H λJ H1=>∀D,H1 D=none->Ig J g d c Q D (iP js a) (upd H1 D (.lst []))
def EC{X:Cx}{N:List Str}{js:List (Option Nat)}{a:Scope}{R:List (Str×Addr)}{tg P a9:Expr}{b3:List Expr}{pos:Pos}{wi:TI}{g:TG}{tt:TT}{te:TE}
  (S:aP X N js a R) (hc:X.calm=true) (hi:PI X tg P wi)
  (hg:∀C s H fp,PG (aF X N a R C s H fp) tg g) (ht:∀C s H fp,kT (aF X N a R C s H fp) b3 tt) (he:∀C s H fp,PE (aF X N a R C s H fp) a9 te)
  (hs:∀x,foldedSetIterable P X.env x=pure x:=by intro _;rfl):PE X (.ListComp a9 [⟨tg,P,b3,0⟩] a pos) (DM js wi g tt te):=by
 intro a7 s σ H Q I h
 rw[eval_ListComp]
 refine wpAny_comprehension_free (use:=none) rfl hs S.clos S.kind S.names (bZ (hi a7 s σ H _ I h) λv s1 h1=>bZ h1 λd1 f h2=> ?_)
 obtain⟨it,fp,tn,J,H2,e,B,T,b1,f2,hD⟩:=h2
 subst e
 refine QhQ (wpAny_newFunctionEnv S.nocell (by intro y hy;simp at hy) (λL G t=> ?_) S.kind)
 dsimp only at G t⊢
 generalize b0:f.heap.push {cls:=.type "list",dict:=none,data:=.seq ([]:List Value).toArray}=P2 at G t⊢
 have hC:P2.objs.size=f.heap.objs.size+1:=by rw[←b0,Heap.size_push]
 have c5:f.heap.objs.size≠P2.objs.size:=by rw[hC];exact Qwq (Nat.lt_succ_self _)
 have a5:f.heap.objs.size<=P2.objs.size:=by rw[hC];exact Nat.le_succ _
 have F:∀b,b<f.heap.objs.size->b≠P2.objs.size:=λb k=>by rw[hC];exact Qwq (Nat.lt_succ_of_lt k)
 have U:∀b o,f.heap.get? b=some o->L.get? b=some o:=λb o e=>t.extBut b o (F b (Qiq e)) (Qcq _ (b0▸Qcq _ e))
 have c4:L.get? f.heap.objs.size=some {cls:=.type "list",dict:=none,data:=.seq ([]:List Value).toArray}:=t.extBut _ _ c5 (Qcq _ (b0▸Qrq _ rfl))
 have nD:H2 f.heap.objs.size=none:=B.fresh
 have nC:H2 P2.objs.size=none:=B.hok.fresh a5
 have b2:∀b∈fp,b<f.heap.objs.size:=λb k=>by
  obtain⟨o,e,_⟩:=T.obj _ _ b1 b k
  exact Qiq e
 obtain⟨W,⟨m0,w0⟩,c6⟩:=hD f.heap.objs.size nD
 have b4:(aF X N a R P2.objs.size f H2 fp).Ok:=by
  refine⟨B.ok.mod,S.kind,B.ok.glob,B.ok.blt,a5,λx y c h1 h2=>B.ok.inj x y c (S.sub x c h1) (S.sub y c h2),S.has,(λx c h=>by cases h),B.ok.hd,B.ok.frames,.inl rfl,
   λb k=>⟨F b (b2 b k),λx c h=>(f2 b k).2.2.2.2.1 x c (S.sub x c h)⟩,B.bs,QAq B.ok.bsz B.sz,λb o e k=> ?_,λb k z=> ?_,B.stack,B.stkFree⟩
  ·rcases(f2 b k).2.2.2.1 with z|z
   ·exact B.ok.noex b o e z
   ·exact absurd (Qqq (Qqq (Qiq e) B.ok.bsz) z) (Nat.lt_irrefl _)
  ·rcases Qsq.mp (B.stkSub b z) with q|q
   ·exact(f2 b k).2.1 q
   ·exact(f2 b k).2.2.1 q
 have c0:bR X.prog X.w (upd H2 f.heap.objs.size (.lst [])) L f.heap.objs.size (.lst []):=⟨Nat.zero_le _,[],0,.nil,c4⟩
 have I4:Inv (aF X N a R P2.objs.size f H2 fp) [] (iP js σ) (upd H2 f.heap.objs.size (.lst [])) {f with heap:=L,toks:=f.toks+([]:List (Str×Value)).length}:=by
  refine⟨b4,rfl,B.bare,Un.laid U (Qmq _) nD,⟨_,G,λi x v h1 h2 h3=> ?_⟩,λx c h=> ?_,by show upd H2 _ _ P2.objs.size=none;rw[aM c5.symm];exact nC,λx c h=> ?_,λp hp=>absurd (show p∈([]:List (Addr×Obj)) from hp) (by simp),B.hok.laid U (Qmq _) c0,by show(iP js σ).length=N.length;unfold iP;rw[lQm];exact S.len⟩
  ·unfold iP at h2
   rw[gQm] at h2
   cases e:js[i]? with
   |none=>rw[e] at h2;cases h2
   | some o=>
     rw[e] at h2
     cases o with
     |none=>cases h2
     | some j=>
       have a1:σ.getD j none=some v:=QdQ h2
       have hj:σ[j]?=some (some v):=by
         rw[Qlq] at a1
         cases q:σ[j]? with
         |none=>rw[q] at a1;cases a1
         |some y=>rw[q] at a1;exact congrArg some a1
       obtain⟨c1,c2,c3⟩:=S.cap i j x e h1
       obtain⟨m,hn,hl⟩:=B.loc
       have c8:D2 X.env.scope x:=by
         rcases c2 with z|z
         · exact .inr (.inl z)
         · exact .inr (.inr z)
       obtain⟨u,r,l⟩:=hl j x v c1 hj c8
       refine⟨u,r,.inr ⟨c3,?_⟩⟩
       obtain⟨c,b7⟩:=S.has x c3
       refine⟨c,b7,?_⟩
       rcases l with⟨z,_⟩|⟨_,c',e',z⟩
       · rcases c2 with y|y <;>rw[y] at z <;>cases z
       · rw[S.sub x c b7] at e'
         cases e'
         obtain⟨o,ho,hd⟩:=z
         exact⟨o,U _ _ ho,hd⟩
  ·obtain⟨v,o,ho,hd⟩:=B.cell x c (S.sub x c h)
   exact⟨v,o,U _ _ ho,hd⟩
  ·obtain⟨v,o,ho,hd⟩:=B.cell x c (S.sub x c h)
   rw[aM (Qwq (Qiq ho))]
   exact B.freeC x c (S.sub x c h)
 have a0:∀{M:List (Addr×Obj)} {Y:Hp},M= []->(∀b∈fp,Y b=none)->∀b∈fp,oK (aF X N a R P2.objs.size f H2 fp) M Y b:=λ{M Y} ep hn b k=>by
  subst ep
  refine⟨hn b k,F b (b2 b k),λz=>b4.exfs b k z,.inl k,λx c h=>(f2 b k).2.2.2.2.1 x c (S.sub x c h),λp hp=>absurd (show p∈([]:List (Addr×Obj)) from hp) (by simp)⟩
 have a6:codeAny (model X.prog X.w) X.A (.compLoop (.ListComp a9 [⟨tg,P,b3,0⟩] a pos) 0 (.ref it) (.ref f.heap.objs.size) (compEnvC a R P2.objs.size X.env))
   (compPost (model X.prog X.w) X.A X.xe none (EP X a7 σ Q) (.ref f.heap.objs.size) P2.objs.size) {f with heap:=L,toks:=f.toks+([]:List (Str×Value)).length}:=by
  refine m3 (λn s'=>∃i a2 Y,Inv (aF X N a R P2.objs.size f H2 fp) [] a2 Y s'/\tn i s'.heap/\(∀b∈fp,Y b=none)/\W i n a2 Y) ?_ m0
   ⟨0,_,_,I4,T.keep _ _ _ b1 λb _ o e=>U b o e,λb k=>by rw[aM (Qwq (b2 b k))];exact(f2 b k).1,w0⟩
  rintro n s3 ⟨i,a3,H3,I3,b6,b8,w3⟩
  rcases c6 i n a3 H3 w3 with⟨stop,q⟩|⟨go,Nx,hN,b5⟩
  ·refine bZ (T.done (aF X N a R P2.objs.size f H2 fp) rfl rfl rfl hc i [] s3 a3 H3 _ I3 (a0 rfl b8) b6 stop) λr s4 Z=> ?_
   obtain⟨hr,I5⟩:=Z
   subst hr
   obtain⟨m,hn,_⟩:=id I5.loc
   refine⟨m,hn,λh' a4=>⟨.ref f.heap.objs.size,H3,?_,rfl,q⟩⟩
   have u:=I5.base
   have ne:∀b o,f.heap.get? b=some o->b≠P2.objs.size:=λb o e=>F b (Qiq e)
   refine B.call' (ch:=fp) I5.os ⟨λb o e n k hx=>(a4.2 b (ne b o e)).trans (u.keep b o e n k hx),λb o e n k hx=> ?_,u.free,λb o e hx=> ?_,u.tups,u.frzs,u.tbls⟩ (λb ob e=> ?_) I5.bare λb k=>⟨(f2 b k).2.2.2.1,(f2 b k).2.1,(f2 b k).2.2.2.2.1,(f2 b k).2.2.2.2.2⟩
   ·obtain⟨sl,e1⟩:=u.slot b o e n k hx
    exact⟨sl,(a4.2 b (ne b o e)).trans e1⟩
   ·obtain⟨o',e1⟩:=u.there b o e hx
    exact⟨o',(a4.2 b (ne b o e)).trans e1⟩
   ·refine(I5.hok b ob e).stay (λc w' hc q=>(a4.2 c ?_).trans q) (λ_ q=>q) λ_ _ q=>q
    have fC:H3 P2.objs.size=none:=I5.free
    rintro rfl
    rcases hc with z|z
    ·rw[←z,fC] at e;cases e
    ·rw[fC] at z;cases z
  ·refine bZ (T.item (aF X N a R P2.objs.size f H2 fp) rfl rfl rfl hc i [] s3 a3 H3 _ I3 (a0 rfl b8) b6 go) λr s4 Z=> ?_
   obtain⟨u,hr,h4⟩:=Z
   subst hr
   refine bZ h4 λ_ s5 Z=> ?_
   obtain⟨x,H5,I5,r5,y5,a8,c7⟩:=Z
   have d0:=I5.pinned (a0 rfl c7) (T.obj _ _ a8)
   refine bZ (hg P2.objs.size f H2 fp _ s5 a3 H5 x u _ d0 r5 (b5 x H5 y5)) λ_ s6 Z=> ?_
   obtain⟨K,H6,I6,q6⟩:=Z
   refine bZ (ht P2.objs.size f H2 fp _ s6 K H6 _ I6 q6) λok s7 Z=> ?_
   obtain⟨H7,I7,q7⟩:=Z
   have again:∀{s8:Shared} {H8:Hp},Inv (aF X N a R P2.objs.size f H2 fp) ([]++lQ fp s5.heap) K H8 s8->Nx K H8->∃m,m<n/\∃i a2 Y,Inv (aF X N a R P2.objs.size f H2 fp) [] a2 Y s8/\tn i s8.heap/\(∀b∈fp,Y b=none)/\W i m a2 Y:=λ{s8 H8} I8 n8=>by
    obtain⟨m',hm,w8⟩:=hN K H8 n8
    refine⟨m',hm,i+1,K,H8,I8.unpinned,T.keep _ _ _ a8 λb k o e=>(I8.pin (b,o) (Qoq _ (Qoq _ (cJ k e)))).1,λb k=> ?_,w8⟩
    obtain⟨o,e,d⟩:=T.obj _ _ a8 b k
    exact(I8.pin (b,o) (Qoq _ (Qoq _ (cJ k e)))).2.1
   cases ok with
   |false=>exact again I7 q7
   | true=>
     refine bZ (he P2.objs.size f H2 fp _ s7 K H7 _ I7 q7) λyv s8 Z=> ?_
     obtain⟨y,H8,I8,ry,xs,hx,hl,n8⟩:=Z
     refine bZ (nY (X:=aF X N a R P2.objs.size f H2 fp) _ s8 K H8 (.ref f.heap.objs.size) [y] (.ref f.heap.objs.size) [yv] (λ_ Y=>Nx K Y) I8 rfl (.cons ry .nil) ⟨_,xs,y,rfl,rfl,hx,hl,n8⟩) λ_ s9 Z=> ?_
     obtain⟨z,H9,I9,_,q9⟩:=Z
     exact again I9 q9
 exact codeAny_compStart_list a6 (T.self _ 0 _ _ _ (T.keep _ _ _ b1 λb _ o e=>U b o e) a6)
section
variable{X:Cx}
def B3:gy X (.builtin "isinstance") (λxs H Q=>∃x T t b,xs= [x,.ty T]/\oM X.K H x t/\PySem.W.kitOne X.K t (.type T)=some b/\Q (.bl b) H):=by
 intro a s g H xs f Q I r h
 obtain⟨x,T,t,b,rfl,ty,e,q⟩:=h
 obtain⟨u,c,rfl,rx,rt⟩:=vals2 r
 cases (show c=Value.type T from rt)
 exact A0 I rx ty e λd=>⟨.bl b,H,I.tok d,rfl,q⟩
def Fy:List V->List V->Bool
 | [],[]=>true
 |x::xs,y::ys=>pY x y&&Fy xs ys
 |_,_=>false
theorem zw:∀{xs ys:List V},xs.length≠ys.length->Fy xs ys=false
 | [],[],h=>absurd rfl h
 | [],_::_,_=>rfl
 |_::_,[],_=>rfl
 | x::xs,y::ys,h=>by
   have:=zw (xs:=xs) (ys:=ys) λe=>h (by simp[e])
   show(pY x y&&Fy xs ys)=false
   rw[this,Bool.and_false]
theorem An:∀{xs ys:List V},xs.length=ys.length->(List.range xs.length).all (λj=>pY (xs.getD j .non) (ys.getD j .non))=Fy xs ys
 | [],[],_=>rfl
 | [],_::_,h=>by cases h
 |_::_,[],h=>by cases h
 | x::xs,y::ys,h=>by
   have a:=An (xs:=xs) (ys:=ys) (Nat.succ.inj h)
   rw[Qnq,List.range_succ_eq_map,List.all_cons,List.all_map]
   show(pY x y&&_)=(pY x y&&Fy xs ys)
   rw[←a]
   rfl
def Hn{A:Around}{s:Shared}{xs ys:List V}{us vs:List Value}(r:bo xs us)(c:bo ys vs)(f:xs.all fR=true)(f':ys.all fR=true)(j:Nat)(h:j<us.toArray.size)(e:j<vs.toArray.size):
  SeqAt.EqAt A s us.toArray[j] vs.toArray[j] (pY (xs.getD j .non) (ys.getD j .non)):=by
 have n:=r.length
 have o:=c.length
 have b:j<xs.length:=by rw[n];simpa using h
 have a:j<ys.length:=by rw[o];simpa using e
 obtain⟨u,l,g⟩:=r.get (gQe b)
 obtain⟨v,k,q⟩:=c.get (gQe a)
 have i:xs.getD j .non=xs[j]:=by rw[Qlq,gQe b];rfl
 have d:ys.getD j .non=ys[j]:=by rw[Qlq,gQe a];rfl
 have m:us.toArray[j]=u:=by
  have:=(gQs.mp l).2
  simpa using this
 have p:vs.toArray[j]=v:=by
  have:=(gQs.mp k).2
  simpa using this
 rw[m,p,i,d]
 exact CK g q (QUq.mp f _ (List.getElem_mem b)) (QUq.mp f' _ (List.getElem_mem a))
def Ks(K:PySem.W.Frag)(e:Bool):R2:=λx y H Q=>∃a b d c,x=.ref a/\y=.ref b/\gx K H a d/\gx K H b c/\d.all fR=true/\c.all fR=true/\Q (.bl (if e then !Fy d c else Fy d c)) H
def Hc(o:X.A.units<cLine):i6 X (compareOp .NotEq) (Ks X.K true):=by
 intro p s J H x y v u Q I B C h
 obtain⟨a,b,g,m,rfl,rfl,ha,hb,fa,fb,q⟩:=h
 cases B
 cases C
 obtain⟨c,r,n,G⟩:=I.list ha
 obtain⟨l,i,d,F⟩:=I.list hb
 by_cases f:g.length=m.length
 ·have k:c.toArray.size=l.toArray.size:=by simp[←r.length,←i.length,f]
  refine SeqAt.RcNeAt.lists (e:=λj=>pY (g.getD j .non) (m.getD j .non)) n.isList d.isList k o (λj z w=>Hn r i fa fb j z w) _ _ _ _ ⟨.bl _,H,I,rfl,?_⟩
  rw[show c.toArray.size=g.length by simp[r.length],An f]
  exact q
 ·refine SeqAt.RcNeAt.lists_lengths n.isList d.isList (by simpa [←r.length,←i.length] using f) o _ _ _ _ ⟨.bl _,H,I,rfl,?_⟩
  have t:Q (.bl (!Fy g m)) H:=q
  rw[zw f] at t
  exact t
end
section
variable{X:Cx}
def DK{bs:List Bool}{a:List Value}(r:bo (bs.map V.bl) a){i:Nat}{v:Value}(h:a.toArray[i]?=some v):v=.bool (bs.getD i false):=by
 have f:i<a.length:=by
  have:=(Array.getElem?_eq_some_iff.mp h).1
  simpa using this
 have l:=r.length
 rw[lQm] at l
 have b:i<bs.length:=by omega
 obtain⟨u,e,q⟩:=r.get (i:=i) (x:=V.bl bs[i]) (by rw[gQm,gQe b];rfl)
 have c:a[i]?=some v:=by simpa using h
 rw[e] at c
 cases c
 have d:bs.getD i false=bs[i]:=by rw[Qlq,gQe b];rfl
 rw[d]
 exact q
theorem xD:∀bs:List Bool,(List.range bs.length).all (λi=>bs.getD i false)=bs.all id
 | []=>rfl
 | b::bs=>by
   rw[Qnq,List.range_succ_eq_map,List.all_cons,List.all_map,List.all_cons,←xD bs]
   rfl
def HY(K:PySem.W.Frag)(f:List Bool->Bool):List V->Hp->VK->Prop:=λc H Q=>∃a b,c= [.ref a]/\gx K H a (b.map V.bl)/\Q (.bl (f b)) H
def A_(p:X.calm=true):gy X (.builtin "all") (HY X.K λbs=>bs.all id):=by
 intro j s B H z F Q I r h
 obtain⟨a,bs,rfl,ha,q⟩:=h
 obtain⟨u,rfl,rx⟩:=vals1 r
 cases (show u=Value.ref a from rx)
 obtain⟨c,g,f,y⟩:=I.list ha
 have m:c.toArray.size=bs.length:=by have:=g.length;simp at this;simp[this]
 have d:a<s.heap.objs.size:=by obtain⟨o,e,_⟩:=f.isList;exact Qiq e
 refine call_all_walk (wpAny_pyIter_list f.isList ⟨s.heap.objs.size,_,_,_,_,_,λi=>bs.getD i false,rfl,Walks.list (A:=X.A.in1) (show X.A.in1.handled=none from I.ok.hd p) s.heap.objs.size a (Qwq d) c.toArray,⟨⟨_,Qrq _ rfl,rfl,rfl⟩,f.isList.at λo e=>Qcq _ e⟩,?_,λh' w k=> ?_⟩)
 ·intro i v t C x n l
  rw[DK g n]
  exact wpAny_truthy_bool l
 ·rw[m,xD]
  refine⟨.bl _,H,I.kept (h':=h') λb o e=>k b o ?_ (Qcq _ e),rfl,q⟩
  have:=Qiq e
  simp
  exact Qwq this
end
end L2
namespace Dk
open PySem
def rp:mroOf (Value.type "dict")=pure [Value.type "dict",Value.type "object"]:=by
 rw[mroOf_type]
 rfl
def pR:typeLookup (Value.type "dict") (Str.ofString "__new__")=pure (some (Value.builtin "dict.__new__")):=by
 rw[typeLookup_type,builtinLookup_eq_fast]
 rfl
def wA:isSubtype (Value.type "dict") (Value.type "dict")=pure true:=by
 rw[isSubtype_type]
 rfl
def gr:plainId "dict.__new__"=true:=by decide +kernel
def cA:TypeCalled "dict" "dict.__new__" "dict.__init__" where
 notType:=by decide +kernel
 canCreate:=by decide +kernel
 mro:=⟨_,_,rp⟩
 made:=madeBy_type rp pR (by decide +kernel)
 plain:=gr
 sub:=wA
 init:=F.slot_dict_init
def pP(a:Value):checkTypeCall "dict" {pos:= [a]}=pure ():=by rfl
def rV(a:Value):checkBuiltinCall "dict.__new__" {pos:= [Value.type "dict",a]}=pure ():=by with_unfolding_all rfl
def sf:entryFor table "dict.__new__"=some Builtin.«dict.__new__»:=by rfl
def pH{prog:Program}{w:World}{A:Around}{E:Value->Shared->Prop}{s:Shared}(a:Value){Q₁:Value->Shared->Prop}
  (h:Q₁ (.ref s.heap.objs.size) {s with heap:=s.heap.push {cls:=.type "dict",data:=.dict #[]}}):
  codeAny (model prog w) A (.call (.builtin "dict.__new__") {pos:= [.type "dict",a]}) (wants Q₁ E) s:=by
 refine codeAny_of_tree ?_
 show wpAny _ _ (do checkBuiltinCall "dict.__new__" _;_) _ _ _
 refine Qaq (wpAny_of_eq (rV a) (Qgq ⟨plainId_quiet gr _,codeAny_builtin sf ?_⟩))
 rw[Around.under_plainId gr]
 refine Qaq (Qgq (QgQ rfl (Qaq (wpAny_of_eq wA (QgQ rfl (Qaq (wpAny_of_eq rp (QgQ ?_ ?_))))))))
 ·rfl
 ·refine Qaq ?_
  have e:newObj (.type "dict") (.dict #[])=newObjAsIs (.type "dict") (.dict #[]):=by
   unfold newObj
   simp
  rw[e]
  exact Qaq (wpAny_alloc (Qgq (Qgq h)))
def jz{prog:Program}{w:World}{A:Around}{E:Value->Shared->Prop}{s:Shared}{a:Value}{Q:Value->Shared->Prop}
  (h:wpAny (model prog w) A.in1.in1 (Builtin.«dict.__init__» {pos:= [.ref s.heap.objs.size,a]})
   (λm l=>match m with|.done f=>wants (λr b=>r=.none/\Q (.ref s.heap.objs.size) b) E (.ok f) l|.again x=>x.quiet=true/\codeAny (model prog w) A.in1 x (wants (λr b=>r=.none/\Q (.ref s.heap.objs.size) b) E) l)
   (λe l=>wants (λr b=>r=.none/\Q (.ref s.heap.objs.size) b) E (.error e) l) {s with heap:=s.heap.push {cls:=.type "dict",data:=.dict #[]}}):
  wpAny (model prog w) A (call (.type "dict") [a]) Q E s:=by
 obtain⟨c,C,k⟩:=cA.mro
 have g:=cA.made
 have j:=cA.sub
 refine wpAny_call (codeAny_of_tree ?_)
 refine Qgq ⟨Code.quiet_builtin _ (by decide +kernel),codeAny_builtin F.entry_type_call ?_⟩
 rw[Around.under_plain (weight_type_call_type "dict" [a] []) rfl]
 have G:=cA.notType
 have y:=cA.canCreate
 have q:=pP a
 unfold Builtin.«type.__call__»
 dsimp only
 refine QgQ rfl ?_
 refine QgQ (by rw[y];rfl) ?_
 refine Qaq (wpAny_of_eq q (Qaq (wpAny_of_eq k (QgQ rfl (Qaq (wpAny_of_eq g (Qaq (Qgq (Qaq (QLq (wpAny_call (codeAny_mono (pH (E:=E) (Q₁:=λv d=>v=.ref s.heap.objs.size/\d={s with heap:=s.heap.push {cls:=.type "dict",data:=.dict #[]}}) a ⟨rfl,rfl⟩) λr d i=> ?_))))))))))))
 cases r with
 |error e=>exact i
 | ok t=>
   cases t with
   | ret z=>
     obtain⟨rfl,rfl⟩:=i
     have B:=Qrq s.heap (o:={cls:=.type "dict",data:=.dict #[]}) rfl
     have n:Shared.TypeIs {s with heap:=s.heap.push {cls:=.type "dict",data:=.dict #[]}} (.ref s.heap.objs.size) "dict":=⟨_,B,rfl⟩
     have u:=cA.init.lookup
     have p:=cA.init.bind (.ref s.heap.objs.size)
     refine Qaq (wpAny_isInstance n j (QgQ rfl (Qaq (QLq ?_))))
     unfold callSpecial?
     refine Qaq (wpAny_specialOf n u (QLq (Qaq (wpAny_of_eq p (Qaq (wpAny_call (codeAny_mono (codeAny_call_builtin cA.init.plain F.entry_dict_init (cA.init.check _ _ _ _ _ [a] [] _ n (F.args_dict_init_2 _ _) h)) λr b i=> ?_)))))))
     cases r with
     |error e=>exact i
     | ok t=>
       cases t with
       | ret v=>
         obtain⟨rfl,hq⟩:=i
         exact Qgq (QgQ rfl (Qgq hq))
       |_=>exact i.elim
   |_=>exact i.elim
def oo:typeLookup (Value.type "list") (Str.ofString "keys")=pure none:=by
 rw[typeLookup_type,builtinLookup_eq_fast]
 rfl
def m9{prog:Program}{w:World}{A:Around}{E:Value->Shared->Prop}{s:Shared}{a:Addr}{xs:Array Value}{k:Nat}{l:Array (Option Value)}{Q:Option Value->Shared->Prop}
  (j:s.heap.get? a=some {cls:=.type "list",data:=.seq xs k,slots:=l}) (r:A.handled=none)
  (h:∀(h':Heap) (i:Nat),(∀b o,s.heap.get? b=some o->h'.get? b=some o)->Q none {s with heap:=h',toks:=i}):
  wpAny (model prog w) A (getAttr? (.ref a) (Str.ofString "keys")) Q E s:=by
 obtain⟨t,g,d,i,m⟩:=s
 have q:∀x,Shared.TypeIs ⟨t,g,d,x,m⟩ (.ref a) "list":=λx=>⟨_,j,rfl⟩
 have n:=sub_AttributeError
 have z:=F.slot_list_getattribute.lookup
 have v:=F.slot_list_getattribute.bind (Value.ref a)
 have u:=am_list_getattr_none
 unfold getAttr? mkText getAttrBy? getAttrBy
 refine Qaq (Qaq (wpAny_fresh' (Qgq (Qaq (wpAny_attempt (QLq ?_))))))
 unfold typeOf
 refine Qaq (Qaq (wpAny_loadPart' j (Qgq (Qaq (wpAny_of_eq z (QgQ rfl ?_))))))
 unfold getAttrByItsOwn hookBefore
 refine Qaq (QgQ rfl (Qgq (Qaq (wpAny_attempt (QLq ?_)))))
 unfold callGetattribute
 refine QgQ rfl ?_
 unfold boundAndCalled
 refine Qaq (wpAny_of_eq v ?_)
 refine call_meets F.slot_list_getattribute (q (i+1)) am_entry_list_getattribute (F.args_list_getattribute_2 (Value.ref a) _) (meets_getattribute_miss_list a xs k l (Str.ofString "keys") i oo (by decide +kernel) (by decide +kernel)) ⟨j,r,λh' f e c=> ?_⟩
 obtain⟨B,C,y⟩:=c.there
 have p:Shared.TypeIs ⟨h',g,d,f,m⟩ (.ref e) "AttributeError":=⟨_,y,rfl⟩
 show wpAny _ _ (getattributeRaised _ _ _ _ _ _ _) _ _ _
 unfold getattributeRaised
 refine Qaq (wpAny_isInstance p n (wpAny_ite_true rfl ?_))
 unfold hookBehind hookOrError
 refine Qaq (QgQ rfl (wpAny_of_eq u ?_))
 show wpAny _ _ (attributeErrorLeaves _ _ _ _ _) _ _ _
 unfold attributeErrorLeaves
 refine wpAny_ite_true rfl (wpAny_throw ?_)
 exact Qaq (wpAny_isInstance p n (wpAny_ite_true rfl (Qgq (h h' f c.keeps))))
def qw{prog:Program}{w:World}{A:Around}{E:Value->Shared->Prop}{s:Shared}{l:Addr}{xs:Array Value}{k:Nat}{i:Array (Option Value)}{Q:Value->Shared->Prop}
  (p:s.heap.get? l=some {cls:=.type "list",data:=.seq xs k,slots:=i}) (m:A.handled=none)
  (h:∀(h':Heap) (f:Nat),(∀b o,(s.heap.push {cls:=.type "dict",data:=.dict #[]}).get? b=some o->h'.get? b=some o)→
   wpAny (model prog w) A.in1.in1 (pyIter (.ref l)) (λit d=>codeAny (model prog w) A.in1 (.builtin "dict.update.loop" {pos:= [.ref s.heap.objs.size,it,rawInt 0,.none]}) (wants (λr c=>r=.none/\Q (.ref s.heap.objs.size) c) E) d) E {s with heap:=h',toks:=f}):
  wpAny (model prog w) A (call (.type "dict") [.ref l]) Q E s:=by
 refine jz ?_
 have t:=Qrq s.heap (o:={cls:=.type "dict",data:=.dict #[]}) rfl
 have j:Shared.TypeIs {s with heap:=s.heap.push {cls:=.type "dict",data:=.dict #[]}} (.ref s.heap.objs.size) "dict":=⟨_,t,rfl⟩
 have a:=Qcq {cls:=.type "dict",data:=.dict #[]} p
 have n:Shared.TypeIs {s with heap:=s.heap.push {cls:=.type "dict",data:=.dict #[]}} (.ref l) "list":=⟨_,a,rfl⟩
 unfold Builtin.«dict.__init__» Builtin.Dict.selfAndRest
 refine Qaq (Qaq (wpAny_notOrdered_dict j ?_))
 refine Qaq (Qgq (Qgq ?_))
 show wpAny _ _ (Builtin.Dict.updateFrom _ _ _ _ _) _ _ _
 unfold Builtin.Dict.updateFrom
 refine Qaq (wpAny_typeOf n (wpAny_ite_true (by decide +kernel) (Qaq (m9 a (by simpa using m) λh' f g=> ?_))))
 refine wpAny_ite_true rfl ?_
 refine Qaq (wpAny_rule (Qaq (QRq (h h' f g) (λit d q=> ?_) λe d q=>q)))
 exact Qgq ⟨plainId_quiet (by decide +kernel) _,q⟩
def fM:entryFor table "dict.update.loop"=some Builtin.«dict.update.loop»:=by rfl
def dh:plainId "dict.update.loop"=true:=by decide +kernel
section
variable{prog:Program}{w:World}{K:Type}[DecidableEq K]{knd:KeyKind prog w K}
def yY(kvs:List (K×Value))(k:K)(v:Value):(stored kvs k v).length<=kvs.length+1:=by
 unfold stored
 split
 ·rw[lQm];omega
 ·rw[lQa];simp
def Ay(b:Nat->K)(a:Nat->Value):Nat->List (K×Value)
 |0=> []
 |i+1=>stored (Ay b a i) (b i) (a i)
theorem vP(b:Nat->K)(a:Nat->Value):∀i,(Ay b a i).length<=i
 |0=>Qmq _
 |i+1=>QAq (yY _ _ _) (Nat.succ_le_succ (vP b a i))
def tR{A:Around}{I:Addr}{fp N:List Addr}{n:Nat}{P:Nat->Value->Prop}{St:Nat->Heap->Prop}{R:Result->Shared->Prop}(W:Walks prog w A.in1 I fp N n P St)(S:Addr)(y:S∉fp)
  (M:Nat->Addr) (kv t:Nat->Value) (x:Nat->K) (hP:∀i v,i<n->P i v->v=.ref (M i)) (J:∀i,i<n->knd.is (x i) (kv i)=true) (B:∀i,i<n->M i≠S/\M i∉N) (hn:n<=sizeLine):
  ∀ (m i:Nat) (z:Int) (s:Shared),n-i=m->i<=n->St i s.heap->(∀j,j<n->∃o e,s.heap.get? (M j)=some o/\o.cls=.type "tuple" /\o.data=.seq #[kv j,t j] e)->Heap.DictOf knd s.heap S (Ay x t i)→
    (∀h' f,Heap.DictOf knd h' S (Ay x t n)->(∀b o,b∉N->b≠S->s.heap.get? b=some o->h'.get? b=some o)->R (.ok (.ret .none)) {s with heap:=h',toks:=f})→
    codeAny (model prog w) A (.builtin "dict.update.loop" {pos:= [.ref S,.ref I,rawInt z,.none]}) R s:=by
 have q:∀(i:Nat) (z:Int) (s:Shared),i<=n->St i s.heap->(∀j,j<n->∃o e,s.heap.get? (M j)=some o/\o.cls=.type "tuple" /\o.data=.seq #[kv j,t j] e)->Heap.DictOf knd s.heap S (Ay x t i)→
   (i=n->∀h' f,(∀b o,b∉N->s.heap.get? b=some o->h'.get? b=some o)->R (.ok (.ret .none)) {s with heap:=h',toks:=f})→
   (i<n->∀h' f,St (i+1) h'->Heap.DictOf knd h' S (Ay x t (i+1))->(∀b o,b∉N->b≠S->s.heap.get? b=some o->h'.get? b=some o)->codeAny (model prog w) A (.builtin "dict.update.loop" {pos:= [.ref S,.ref I,rawInt (z+1),.none]}) R {s with heap:=h',toks:=f})→
   codeAny (model prog w) A (.builtin "dict.update.loop" {pos:= [.ref S,.ref I,rawInt z,.none]}) R s:=by
  intro i z s U d G F h0 L
  refine codeAny_builtin fM ?_
  rw[Around.under_plainId dh]
  show wpAny _ _ (do let __x←pyNext (.ref I);_) _ _ _
  by_cases a:i<n
  ·refine Qaq (W.item i s _ _ a d λv hp f pv l k=> ?_)
   have ev:=hP i v a pv
   subst ev
   obtain⟨⟨c,a3,a4,sl⟩,e,hg,hc,g⟩:=G i a
   cases hc
   cases g
   have H:=k _ _ (B i a).2 hg
   have C:Heap.DictOf knd hp S (Ay x t i):=by
    obtain⟨o,es,ep,L,Z⟩:=F
    exact⟨o,es,ep,k _ _ (λhw=>y (W.sub _ hw)) L,Z⟩
   refine Qaq (QLq (Qaq (wpAny_tryCatch ?_)))
   unfold Builtin.Dict.pairItems
   refine Qaq (wpAny_typeOf (T:="tuple") ⟨_,H,rfl⟩ (wpAny_ite_true rfl (Qaq ?_)))
   unfold seqItems?
   refine Qaq (wpAny_load' H (Qgq (Qgq (QLq (wpAny_dictSet_pairs (J i a) C (λh' u hs=> ?_) (QAq (vP x t i) (by omega)))))))
   refine Qgq ⟨plainId_quiet dh _,L a h' _ ?_ u λb o r p a0=> ?_⟩
   ·exact W.frame _ _ _ l λb r o Q=>by
     have Y:b≠S:=λe=>y (e▸r)
     rw[hs.2 b Y]
     exact Q
   ·rw[hs.2 b p]
    exact k b o r a0
  ·have e:i=n:=by omega
   subst e
   refine Qaq (W.done s _ _ d λhp f k=> ?_)
   exact Qaq (Qgq (Qgq (h0 rfl hp f k)))
 intro m
 induction m with
 | zero=>
   intro i z s hm U d G F h
   have e:i=n:=by omega
   refine q i z s U d G F (λ_ h' f k=>h h' f ?_ λb o r _ Q=>k b o r Q) (λa=>absurd a (by omega))
   subst e
   obtain⟨o,es,ep,L,Z⟩:=F
   exact⟨o,es,ep,k _ _ (λhw=>y (W.sub _ hw)) L,Z⟩
 | succ m ih=>
   intro i z s hm U d G F h
   refine q i z s U d G F (λe=>absurd e (by omega)) (λa h' f l C k=> ?_)
   refine ih (i+1) (z+1) {s with heap:=h',toks:=f} (by omega) (by omega) l (λj hj=> ?_) C (λa1 a2 u X=>h a1 a2 u λb o r p Q=>X b o r p (k b o r p Q))
   obtain⟨o,e,hg,hc,g⟩:=G j hj
   exact⟨o,e,k _ _ (B j hj).2 (B j hj).1 hg,hc,g⟩
end
end Dk
namespace L2
open PySem PySem.Spec PyProof.Rows
section
variable{X:Cx}
def GH(K:PySem.W.Frag):List V->Hp->VK->Prop:=λd H Q=>∃(a:Addr) (c:List Addr) (b:List (Key×V)),d= [.ref a]/\gx K H a (c.map V.ref)/\b.length=c.length∧
 (∀(j:Nat) t kv,c[j]?=some t->b[j]?=some kv->H t=some (.tup [kV kv.1,kv.2]))/\∀p,H p=none->Q (.ref p) (upd H p (.dK (eC [] b)))
theorem oA:∀{ts:List Addr} {a:List Value},bo (ts.map V.ref) a->a=ts.map Value.ref
 | [],_,r=>by cases r;rfl
 | t::ts,_,r=>by
   cases r with
   | cons h b=>
     rw[oA b,QDq]
     cases h
     rfl
def key_is{k:Key}{u:Value}(r:RelV (kV k) u)(P:Program)(w:World):(aX P w).is k u=true:=by
 cases k with
 |inl i=>obtain⟨t,rfl⟩:=(show∃t,u=Value.int i t from r);simp[aX,jA,Value.isInt]
 |inr x=>obtain⟨t,rfl⟩:=(show∃t,u=Value.str x t from r);simp[aX,jA,Value.isStrOf]
def yf(hc:X.calm=true):gy X (.type "dict") (GH X.K):=by
 intro b1 s σ H xs us Q I r h
 obtain⟨a,f,d,rfl,ha,hl,ht,q⟩:=h
 obtain⟨u,rfl,rx⟩:=vals1 r
 cases (show u=Value.ref a from rx)
 obtain⟨C,rv,pl,hz⟩:=I.list ha
 have ei:=oA rv
 subst ei
 rw[lQm] at hz
 obtain⟨⟨c,b3,b2,sl⟩,n,hg,Y,R,M⟩:=pl
 cases Y
 cases R
 cases M
 have z:∀j:Nat,∃p:Value×Value,j<f.length->∃t g,f[j]?=some t/\d[j]?=some g/\RelV (kV g.1) p.1/\RelV g.2 p.2/\IsTup s.heap t #[p.1,p.2]:=by
  intro j
  by_cases hj:j<f.length
  ·have x:=gQe hj
   have m:=gQe (l:=d) (i:=j) (by omega)
   obtain⟨_,us,a5,U⟩:_/\∃C:List Value,bo [kV (d[j]'(by omega)).1,(d[j]'(by omega)).2] C/\sI s.heap f[j] C.toArray:=(show bR X.prog X.w H s.heap f[j] (.tup [kV (d[j]'(by omega)).1,(d[j]'(by omega)).2]) from I.hok _ _ (ht j _ _ x m))
   replace U:=U.it
   cases a5 with
   | cons G t1=>
     cases t1 with
     | cons h2 t2=>
       cases t2
       exact⟨(_,_),λ_=>⟨_,_,x,m,G,h2,U⟩⟩
  ·exact⟨(.none,.none),λh=>absurd h hj⟩
 obtain⟨F,hF⟩:=Classical.axiomOfChoice z
 refine Dk.qw hg (I.ok.hd hc) λL tk hk=> ?_
 have a6:=Qcq {cls:=.type "dict",data:=.dict #[]} hg
 have S:=hk _ _ a6
 have a2:a<L.objs.size:=Qiq S
 have N:∀b o,s.heap.get? b=some o->L.get? b=some o:=λb o e=>hk b o (Qcq _ e)
 have a4:L.get? s.heap.objs.size=some {cls:=.type "dict",data:=.dict #[]}:=hk _ _ (Qrq s.heap rfl)
 have k:s.heap.objs.size<L.objs.size:=Qiq a4
 have a0:L.IsList a (f.map Value.ref).toArray:=⟨_,S,rfl,_,rfl⟩
 refine wpAny_pyIter_list a0 ?_
 have a1:(f.map Value.ref).toArray.size=f.length:=by simp
 have W:=Walks.list (prog:=X.prog) (w:=X.w) (A:=X.A.in1.in1) (show X.A.in1.in1.handled=none from I.ok.hd hc) L.objs.size a (Qwq a2) (f.map Value.ref).toArray
 rw[a1] at W
 have J:∀j t,f[j]?=some t->f.getD j 0=t:=λj t e=>by rw[Qlq,e];rfl
 have Z:∀j g,d[j]?=some g->(d.map (·.1)).getD j (.inl 0)=g.1:=λj g e=>by rw[Qlq,gQm,e];rfl
 refine Dk.tR (knd:=aX X.prog X.w) W s.heap.objs.size ?_ (λj=>f.getD j 0) (λj=>(F j).1) (λj=>(F j).2) (λj=>(d.map (·.1)).getD j (.inl 0)) ?_ ?_ ?_ hz f.length 0 0 _ (by omega) (Nat.zero_le _) ?_ ?_ ?_ ?_
 ·intro y
  simp at y
  rcases y with G|G
  ·exact absurd G (Qwq k)
  ·exact absurd G.symm (Qwq (Qiq hg))
 ·intro i v B pv
  have:(f.map Value.ref)[i]?=some v:=by simpa using pv
  rw[gQm,gQe B] at this
  rw[J i _ (gQe B)]
  exact(QdQ this).symm
 ·intro i B
  obtain⟨t,g,x,m,r1,r2,U⟩:=hF i B
  show(aX X.prog X.w).is ((d.map (·.1)).getD i (.inl 0)) (F i).1=true
  rw[Z i g m]
  exact key_is r1 _ _
 ·intro i B
  obtain⟨t,g,x,m,r1,r2,o,ho,_⟩:=hF i B
  have P:=Qiq ho
  show f.getD i 0≠_/\f.getD i 0∉_
  rw[J i t x]
  refine⟨Qwq P,λy=> ?_⟩
  simp at y
  exact absurd y (Qwq (Nat.lt_trans P k))
 ·exact⟨⟨_,Qrq _ rfl,rfl,rfl⟩,a0.at λo e=>Qcq _ e⟩
 ·intro j hj
  obtain⟨t,g,x,m,r1,r2,o,ho,b0,e,a9⟩:=hF j hj
  refine⟨o,e,?_,b0,a9⟩
  show Heap.get? _ (f.getD j 0)=_
  rw[J j t x]
  exact Qcq _ (N _ _ ho)
 ·obtain⟨o,es,ep,G,h2⟩:=Heap.DictOf.new (knd:=aX X.prog X.w) s.heap
  exact⟨o,es,ep,Qcq _ (hk _ _ G),h2⟩
 ·intro h2 a7 dd a3
  refine⟨rfl,.ref s.heap.objs.size,_,I.laid (a:=s.heap.objs.size) (o:=.dK (eC [] d)) (t':=a7) (λb o e=> ?_) (Qmq _) (kS ?_ (beq_eq_false_iff_ne.mpr (Ne.symm (Qwq I.big))) ?_ dd),rfl,q _ (I.hok.fresh (Qmq _))⟩
  ·have hb:=Qiq e
   exact a3 b o (λy=>by simp at y;exact absurd y (Qwq (Nat.lt_trans hb k))) (Qwq hb) (Qcq _ (N _ _ e))
  ·have:=dR d []
   rw[QGq] at this
   omega
  ·have a8:∀i,i<=f.length->KV (eC [] (d.take i)) (Dk.Ay (λj=>(d.map (·.1)).getD j (.inl 0)) (λj=>(F j).2) i):=by
    intro i
    induction i with
    |zero=>intro _;exact .nil
    | succ i ih=>
      intro B
      obtain⟨t,g,x,m,r1,r2,U⟩:=hF i (by omega)
      have e3:d.take (i+1)=d.take i++ [g]:=by rw[QYq,m];rfl
      rw[e3]
      show KV (List.foldl _ [] (d.take i++ [g])) (stored _ ((d.map (·.1)).getD i (.inl 0)) (F i).2)
      rw[List.foldl_append,Z i g m]
      exact(ih (by omega)).put g.1 r2
   have:=a8 f.length (Qmq _)
   rw[←hl,QEq] at this
   rw[←hl]
   exact this
end
end L2
namespace Dk
open PySem
end Dk
namespace L2
open PySem PySem.Spec PyProof.Rows
def Ec{X:Cx}{N:List Str}{js:List (Option Nat)}{a:Scope}{Y:List (Str×Addr)}{tg M a6 G:Expr}{a8:List Expr}{pos a9:Pos}{wi:TI}{g gt:TG}{tt:TT}{te:TE}
  (S:aP X N js a Y) (hc:X.calm=true) (hi:PI X tg M wi)
  (hg:∀C s H fp,PG (aF X N a Y C s H fp) tg g) (ht:∀C s H fp,kT (aF X N a Y C s H fp) a8 tt) (he:∀C s H fp,PE (aF X N a Y C s H fp) a6 te) (d6:PG X G gt)
  (hs:∀x,foldedSetIterable M X.env x=pure x:=by intro _;rfl) (d7:swapsWithSole [G] (.ListComp a6 [⟨tg,M,a8,0⟩] a pos) a9.line X.env=pure true:=by rfl)
  (h1:(assignEach [G] X.env).map (·.2)= [assign G X.env]:=by rfl):PS X (.Assign [G] (.ListComp a6 [⟨tg,M,a8,0⟩] a pos) a9) (AS (DM js wi g tt te) gt):=by
 intro U s σ H Dn I h
 rw[exec_Assign_arm]
 refine Qaq (wpAny_standAt (Qaq (wpAny_of_eq d7 (wpAny_ite_true rfl (Qaq ?_)))))
 rw[h1]
 show wpAny _ _ (do let _←comprehension _ _ _ _ _ _ _ (some λv=>assignAll v [assign G X.env]);pure ()) _ _ _
 refine Qaq ?_
 refine wpAny_comprehension_free (use:=some λv=>assignAll v [assign G X.env]) rfl hs S.clos S.kind S.names (bZ (hi U s σ H _ I h) λv s1 h1=>bZ h1 λd9 k h2=> ?_)
 obtain⟨it,fp,tn,J,H2,e,B,T,b3,f2,hD⟩:=h2
 subst e
 refine QhQ (wpAny_newFunctionEnv S.nocell (by intro y hy;simp at hy) (λP L t=> ?_) S.kind)
 dsimp only at L t⊢
 generalize b2:k.heap.push {cls:=.type "list",dict:=none,data:=.seq ([]:List Value).toArray}=P2 at L t⊢
 have hC:P2.objs.size=k.heap.objs.size+1:=by rw[←b2,Heap.size_push]
 have c7:k.heap.objs.size≠P2.objs.size:=by rw[hC];exact Qwq (Nat.lt_succ_self _)
 have a1:k.heap.objs.size<=P2.objs.size:=by rw[hC];exact Nat.le_succ _
 have K:∀b,b<k.heap.objs.size->b≠P2.objs.size:=λb f=>by rw[hC];exact Qwq (Nat.lt_succ_of_lt f)
 have Z:∀b o,k.heap.get? b=some o->P.get? b=some o:=λb o e=>t.extBut b o (K b (Qiq e)) (Qcq _ (b2▸Qcq _ e))
 have c6:P.get? k.heap.objs.size=some {cls:=.type "list",dict:=none,data:=.seq ([]:List Value).toArray}:=t.extBut _ _ c7 (Qcq _ (b2▸Qrq _ rfl))
 have nD:H2 k.heap.objs.size=none:=B.fresh
 have nC:H2 P2.objs.size=none:=B.hok.fresh a1
 have b4:∀b∈fp,b<k.heap.objs.size:=λb f=>by
  obtain⟨o,e,_⟩:=T.obj _ _ b3 b f
  exact Qiq e
 obtain⟨W,⟨m0,w0⟩,d0⟩:=hD k.heap.objs.size nD
 have b5:(aF X N a Y P2.objs.size k H2 fp).Ok:=by
  refine⟨B.ok.mod,S.kind,B.ok.glob,B.ok.blt,a1,λx y c h1 h2=>B.ok.inj x y c (S.sub x c h1) (S.sub y c h2),S.has,(λx c h=>by cases h),B.ok.hd,B.ok.frames,.inl rfl,
   λb f=>⟨K b (b4 b f),λx c h=>(f2 b f).2.2.2.2.1 x c (S.sub x c h)⟩,B.bs,QAq B.ok.bsz B.sz,λb o e f=> ?_,λb f z=> ?_,B.stack,B.stkFree⟩
  ·rcases(f2 b f).2.2.2.1 with z|z
   ·exact B.ok.noex b o e z
   ·exact absurd (Qqq (Qqq (Qiq e) B.ok.bsz) z) (Nat.lt_irrefl _)
  ·rcases Qsq.mp (B.stkSub b z) with q|q
   ·exact(f2 b f).2.1 q
   ·exact(f2 b f).2.2.1 q
 have c5:bR X.prog X.w (upd H2 k.heap.objs.size (.lst [])) P k.heap.objs.size (.lst []):=⟨Nat.zero_le _,[],0,.nil,c6⟩
 have I4:Inv (aF X N a Y P2.objs.size k H2 fp) [] (iP js σ) (upd H2 k.heap.objs.size (.lst [])) {k with heap:=P,toks:=k.toks+([]:List (Str×Value)).length}:=by
  refine⟨b5,rfl,B.bare,Un.laid Z (Qmq _) nD,⟨_,L,λi x v h1 h2 h3=> ?_⟩,λx c h=> ?_,by show upd H2 _ _ P2.objs.size=none;rw[aM c7.symm];exact nC,λx c h=> ?_,λp hp=>absurd (show p∈([]:List (Addr×Obj)) from hp) (by simp),B.hok.laid Z (Qmq _) c5,by show(iP js σ).length=N.length;unfold iP;rw[lQm];exact S.len⟩
  ·unfold iP at h2
   rw[gQm] at h2
   cases e:js[i]? with
   |none=>rw[e] at h2;cases h2
   | some o=>
     rw[e] at h2
     cases o with
     |none=>cases h2
     | some j=>
       have a3:σ.getD j none=some v:=QdQ h2
       have hj:σ[j]?=some (some v):=by
         rw[Qlq] at a3
         cases q:σ[j]? with
         |none=>rw[q] at a3;cases a3
         |some y=>rw[q] at a3;exact congrArg some a3
       obtain⟨c1,c2,c3⟩:=S.cap i j x e h1
       obtain⟨m,hn,hl⟩:=B.loc
       have d5:D2 X.env.scope x:=by
         rcases c2 with z|z
         · exact .inr (.inl z)
         · exact .inr (.inr z)
       obtain⟨u,r,l⟩:=hl j x v c1 hj d5
       refine⟨u,r,.inr ⟨c3,?_⟩⟩
       obtain⟨c,b8⟩:=S.has x c3
       refine⟨c,b8,?_⟩
       rcases l with⟨z,_⟩|⟨_,c',e',z⟩
       · rcases c2 with y|y <;>rw[y] at z <;>cases z
       · rw[S.sub x c b8] at e'
         cases e'
         obtain⟨o,ho,hd⟩:=z
         exact⟨o,Z _ _ ho,hd⟩
  ·obtain⟨v,o,ho,hd⟩:=B.cell x c (S.sub x c h)
   exact⟨v,o,Z _ _ ho,hd⟩
  ·obtain⟨v,o,ho,hd⟩:=B.cell x c (S.sub x c h)
   rw[aM (Qwq (Qiq ho))]
   exact B.freeC x c (S.sub x c h)
 have a2:∀{Q:List (Addr×Obj)} {H':Hp},Q= []->(∀b∈fp,H' b=none)->∀b∈fp,oK (aF X N a Y P2.objs.size k H2 fp) Q H' b:=λ{Q H'} ep hn b f=>by
  subst ep
  refine⟨hn b f,K b (b4 b f),λz=>b5.exfs b f z,.inl f,λx c h=>(f2 b f).2.2.2.2.1 x c (S.sub x c h),λp hp=>absurd (show p∈([]:List (Addr×Obj)) from hp) (by simp)⟩
 have b0:codeAny (model X.prog X.w) X.A (.compLoop (.ListComp a6 [⟨tg,M,a8,0⟩] a pos) 0 (.ref it) (.ref k.heap.objs.size) (compEnvC a Y P2.objs.size X.env))
   (compPost (model X.prog X.w) X.A X.xe (some λv=>assignAll v [assign G X.env]) (λ_ s9=>wpAny (model X.prog X.w) X.A (pure ()) (λ_ d1=>wpAny (model X.prog X.w) X.A (pure Flow.next) (SP X U Dn) X.xe d1) X.xe s9) (.ref k.heap.objs.size) P2.objs.size) {k with heap:=P,toks:=k.toks+([]:List (Str×Value)).length}:=by
  refine m3 (λn s'=>∃i a4 H',Inv (aF X N a Y P2.objs.size k H2 fp) [] a4 H' s'/\tn i s'.heap/\(∀b∈fp,H' b=none)/\W i n a4 H') ?_ m0
   ⟨0,_,_,I4,T.keep _ _ _ b3 λb _ o e=>Z b o e,λb f=>by rw[aM (Qwq (b4 b f))];exact(f2 b f).1,w0⟩
  rintro n s3 ⟨i,a5,H3,I3,b7,c4,w3⟩
  rcases d0 i n a5 H3 w3 with⟨stop,q⟩|⟨go,Nx,hN,b6⟩
  ·refine bZ (T.done (aF X N a Y P2.objs.size k H2 fp) rfl rfl rfl hc i [] s3 a5 H3 _ I3 (a2 rfl c4) b7 stop) λr s4 R=> ?_
   obtain⟨hr,I5⟩:=R
   subst hr
   obtain⟨m,hn,_⟩:=id I5.loc
   have d3:∀h',Heap.SameBut P2.objs.size s4.heap h'->Inv X U σ H3 {s4 with heap:=h'}:=by
    intro h' a0
    have u:=I5.base
    have ne:∀b o,k.heap.get? b=some o->b≠P2.objs.size:=λb o e=>K b (Qiq e)
    refine B.call' (ch:=fp) I5.os ⟨λb o e n f hx=>(a0.2 b (ne b o e)).trans (u.keep b o e n f hx),λb o e n f hx=> ?_,u.free,λb o e hx=> ?_,u.tups,u.frzs,u.tbls⟩ (λb ob e=> ?_) I5.bare λb f=>⟨(f2 b f).2.2.2.1,(f2 b f).2.1,(f2 b f).2.2.2.2.1,(f2 b f).2.2.2.2.2⟩
    ·obtain⟨sl,e1⟩:=u.slot b o e n f hx
     exact⟨sl,(a0.2 b (ne b o e)).trans e1⟩
    ·obtain⟨o',e1⟩:=u.there b o e hx
     exact⟨o',(a0.2 b (ne b o e)).trans e1⟩
    ·refine(I5.hok b ob e).stay (λc w' hc q=>(a0.2 c ?_).trans q) (λ_ q=>q) λ_ _ q=>q
     have fC:H3 P2.objs.size=none:=I5.free
     rintro rfl
     rcases hc with z|z
     ·rw[←z,fC] at e;cases e
     ·rw[fC] at z;cases z
   have IX:=d3 s4.heap ⟨rfl,λ_ _=>rfl⟩
   have a7:oK X U H3 P2.objs.size:=B.fpOk a1 I5.free
   obtain⟨oC,es,ep,c8,c0,d2⟩:=hn
   have IP:=IX.pinned (fp:= [P2.objs.size]) (λb f=>by rw[Qfq] at f;rw[f];exact a7) (λb f=>by rw[Qfq] at f;rw[f];exact⟨oC,c8,λv=>by rw[c0];simp⟩)
   show wpAny _ _ (assignAll (.ref k.heap.objs.size) [assign G X.env]) _ _ _
   rw[assignAll.eq_2]
   refine bZ (d6 _ s4 σ H3 (.ref k.heap.objs.size) (.ref k.heap.objs.size) _ IP rfl q) λ_ s6 R=> ?_
   obtain⟨F,H6,I6,q6⟩:=R
   have pC:=I6.pin (P2.objs.size,oC) (Qoq _ (Qoq _ (cJ (Qfq.mpr rfl) c8)))
   refine⟨m,⟨oC,es,ep,pC.1,c0,d2⟩,λh' a0=>Qgq (Qgq ⟨F,H6,?_,q6⟩)⟩
   exact I6.unpinned.turned (it:=P2.objs.size) (t':=s6.toks) (λb o' f e=>(a0.2 b f).trans e) pC.2.1 pC.2.2.1 a7.2.2.2.1 a7.2.2.2.2.1 a7.2.2.2.2.2
  ·refine bZ (T.item (aF X N a Y P2.objs.size k H2 fp) rfl rfl rfl hc i [] s3 a5 H3 _ I3 (a2 rfl c4) b7 go) λr s4 R=> ?_
   obtain⟨u,hr,h4⟩:=R
   subst hr
   refine bZ h4 λ_ s5 R=> ?_
   obtain⟨x,H5,I5,r5,y5,b1,d4⟩:=R
   have d8:=I5.pinned (a2 rfl d4) (T.obj _ _ b1)
   refine bZ (hg P2.objs.size k H2 fp _ s5 a5 H5 x u _ d8 r5 (b6 x H5 y5)) λ_ s6 R=> ?_
   obtain⟨F,H6,I6,q6⟩:=R
   refine bZ (ht P2.objs.size k H2 fp _ s6 F H6 _ I6 q6) λok s7 R=> ?_
   obtain⟨H7,I7,q7⟩:=R
   have again:∀{s8:Shared} {H8:Hp},Inv (aF X N a Y P2.objs.size k H2 fp) ([]++lQ fp s5.heap) F H8 s8->Nx F H8->∃m,m<n/\∃i a4 H',Inv (aF X N a Y P2.objs.size k H2 fp) [] a4 H' s8/\tn i s8.heap/\(∀b∈fp,H' b=none)/\W i m a4 H':=λ{s8 H8} I8 n8=>by
    obtain⟨m',hm,w8⟩:=hN F H8 n8
    refine⟨m',hm,i+1,F,H8,I8.unpinned,T.keep _ _ _ b1 λb f o e=>(I8.pin (b,o) (Qoq _ (Qoq _ (cJ f e)))).1,λb f=> ?_,w8⟩
    obtain⟨o,e,d⟩:=T.obj _ _ b1 b f
    exact(I8.pin (b,o) (Qoq _ (Qoq _ (cJ f e)))).2.1
   cases ok with
   |false=>exact again I7 q7
   | true=>
     refine bZ (he P2.objs.size k H2 fp _ s7 F H7 _ I7 q7) λyv s8 R=> ?_
     obtain⟨y,H8,I8,ry,xs,hx,hl,n8⟩:=R
     refine bZ (nY (X:=aF X N a Y P2.objs.size k H2 fp) _ s8 F H8 (.ref k.heap.objs.size) [y] (.ref k.heap.objs.size) [yv] (λ_ H'=>Nx F H') I8 rfl (.cons ry .nil) ⟨_,xs,y,rfl,rfl,hx,hl,n8⟩) λ_ s9 R=> ?_
     obtain⟨z,H9,I9,_,q9⟩:=R
     exact again I9 q9
 exact codeAny_compStart_list b0 (T.self _ 0 _ _ _ (T.keep _ _ _ b3 λb _ o e=>Z b o e) b0)
end L2
namespace Dk
open PySem
end Dk
namespace L2
open PySem PySem.Spec PyProof.Rows
section
variable{X:Cx}
def DZ(K:PySem.W.Frag):List V->Hp->VK->Prop:=λd H Q=>∃(a:Addr) (c:List Str),d= [.ref a]/\gx K H a (c.map V.str)/\c.length<64/\∀(l:Addr) (b:List Str),H l=none->sortedS b=true->b.Perm c->Q (.ref l) (upd H l (.lst (b.map V.str)))
theorem tf:∀{ys:List Str} {a:List Value},bo (ys.map V.str) a->StrsAre a ys
 | [],_,r=>by cases r;exact .nil
 | y::ys,_,r=>by
   cases r with
   | cons h t=>
     obtain⟨b,rfl⟩:=h
     exact .cons y b (tf t)
def vi{a:List Str}{vs:List Value}(h:StrsAre vs a):bo (a.map V.str) vs:=by
 induction h with
 |nil=>exact .nil
 |cons y t _ b=>exact .cons ⟨t,rfl⟩ b
def vp:gy X (.builtin "sorted") (DZ X.K):=by
 intro m s A H z B Q I r h
 obtain⟨a,j,rfl,ha,h64,q⟩:=h
 obtain⟨u,rfl,rx⟩:=vals1 r
 cases (show u=Value.ref a from rx)
 obtain⟨f,k,t,y⟩:=I.list ha
 have v:f.length=j.length:=by have:=k.length;simpa using this.symm
 have g:s.heap.objs.size<=s.heap.objs.size+1:=Nat.le_succ _
 refine sorted_strs t.isList (tf k) (by omega) λc d p l w=> ?_
 obtain⟨e,x⟩:=sortedAll_at s.heap f c
 have i:d.length=j.length:=l.length_eq
 refine⟨.ref (s.heap.objs.size+1),_,I.laid (a:=s.heap.objs.size+1) (o:=.lst (d.map V.str)) (h':=sortedAll s.heap f c) (t':=s.toks) (λb o n=> ?_) g ⟨?_,c.toList,e,vi p,?_⟩,rfl,q _ d (I.hok.fresh g) w l⟩
 ·exact sortedAll_old n
 ·rw[lQm,i]
  exact QAq (nQl h64) (by decide)
 ·simpa using x
end
end L2
namespace Zp
open PySem
section
variable{prog:Program}{w:World}{A:Around}{E:Value->Shared->Prop}{s:Shared}
def Iu{i t:Addr}{k:Nat}{vs:Array Value}{v:Value}{Q:Value->Shared->Prop}(c:s.heap.IsTupleIter i t k)(g:s.heap.IsTuple t vs)(hv:vs[k]?=some v)
  (q:∀h',h'.IsTupleIter i t (k+1)->Heap.SameBut i s.heap h'->Q v {s with heap:=h'}):wpAny (model prog w) A (Builtin.SmallTypes.nextOf (.ref i)) Q E s:=by
 obtain⟨h,b,e,a⟩:=id c
 obtain⟨l,f,_,j,d⟩:=g
 unfold Builtin.SmallTypes.nextOf
 refine Qaq (QiQ (name:=Str.ofString "__next__") c.typeIs F.slot_tuple_iterator_next (wpAny_call_entry F.slot_tuple_iterator_next c.typeIs F.entry_tuple_iterator_next ?_ (F.args_tuple_iterator_next_1 _)))
 refine(?_:wpAny _ _ (field (.ref i) 0 >>= _) _ _ s)
 refine Qaq (QMq b a (x:=.ref t) rfl ?_)
 refine(?_:wpAny _ _ (if (Value.ref t==Value.none)=true then _ else _) _ _ s)
 rw[Quq (λz=>by cases (show false=true from z))]
 refine(?_:wpAny _ _ (field (.ref i) 1 >>= _) _ _ s)
 refine Qaq (QMq b a (x:=.int k 0) rfl ?_)
 refine(?_:wpAny _ _ (seqItems? (.ref t) >>= _) _ _ s)
 refine Qaq (wpAny_seqItems f d ?_)
 simp only[Int.toNat_natCast,hv]
 refine Qaq (wpAny_setField b a (by simp) (Qgq ⟨v,rfl,Qgq (q _ ⟨_,Heap.get?_update_self _ b (Obj.isFreed_of_fields (Obj.data_mapFields a _)),(Obj.cls_mapFields ..).trans e,?_⟩ (Heap.SameBut.update ..))⟩))
 rw[Obj.data_mapFields a]
 simp[rawInt]
def IZ{i t:Addr}{k:Nat}{vs:Array Value}{Q:Value->Shared->Prop}(f:A.handled=none)(b:s.heap.IsTupleIter i t k)(j:s.heap.IsTuple t vs)(hv:vs[k]?=none)
  (q:∀h' e,Heap.ExtBut i s.heap h'->(∃o,h'.get? e=some o/\o.cls=.type "StopIteration")->E (.ref e) {s with heap:=h'}):wpAny (model prog w) A (Builtin.SmallTypes.nextOf (.ref i)) Q E s:=by
 obtain⟨n,c,l,d⟩:=id b
 obtain⟨r,h,_,p,g⟩:=j
 unfold Builtin.SmallTypes.nextOf
 refine Qaq (QiQ (name:=Str.ofString "__next__") b.typeIs F.slot_tuple_iterator_next (wpAny_call_entry F.slot_tuple_iterator_next b.typeIs F.entry_tuple_iterator_next ?_ (F.args_tuple_iterator_next_1 _)))
 refine(?_:wpAny _ _ (field (.ref i) 0 >>= _) _ _ s)
 refine Qaq (QMq c d (x:=.ref t) rfl ?_)
 refine(?_:wpAny _ _ (if (Value.ref t==Value.none)=true then _ else _) _ _ s)
 rw[Quq (λz=>by cases (show false=true from z))]
 refine(?_:wpAny _ _ (field (.ref i) 1 >>= _) _ _ s)
 refine Qaq (QMq c d (x:=.int k 0) rfl ?_)
 refine(?_:wpAny _ _ (seqItems? (.ref t) >>= _) _ _ s)
 refine Qaq (wpAny_seqItems h g ?_)
 simp only[Int.toNat_natCast,hv]
 refine Qaq (wpAny_rule (Qaq (wpAny_setField c d (by simp) ?_)))
 refine(?_:wpAny _ _ (newExc (.type "StopIteration") [] >>= _) _ _ _)
 refine Qaq ?_
 simp only[newExc,newTuple]
 refine Qaq (QhQ ?_ (by size_fits))
 refine Qaq (m:=firstArgMember _ _) (wpAny_of_eq (a:=Value.none) (by first|rfl|(simp only[firstArgMember];rfl)) (QhQ ?_ (by size_fits)))
 simp only[raiseNew]
 refine Qaq (wpAny_handled ?_)
 first|rw[show A.in1.handled=none from f]|rw[f]
 exact Qaq (Qgq (wpAny_throw (q _ _ (((Heap.SameBut.update ..).extBut.push _).push _) ⟨_,Qrq _ rfl,rfl⟩)))
end
def Rest(z O i j:Addr)(h h':Heap):Prop:=∀c o,c≠z->c≠O->c≠i->c≠j->h.get? c=some o->h'.get? c=some o
end Zp
namespace L2
open PySem PySem.Spec PyProof.Rows
section
variable{X:Cx}{pins:List (Addr×Obj)}{σ:St}{H:Hp}{s:Shared}{h':Heap}
def Inv.turnedL{t':Nat}{fp:List Addr}(I:Inv X pins σ H s)(d:∀b∈fp,oK X pins H b)(k:∀b o,b∉fp->s.heap.get? b=some o->h'.get? b=some o):Inv X pins σ H {s with heap:=h',toks:=t'}:=by
 have f:∀b u,H b=some u->b∉fp:=λb u e z=>by rw[(d b z).1] at e;cases e
 refine I.step (g':=s.gens) (d':=s.drawn) (ch:=fp) (λb g=>⟨(d b g).2.2.2.1,(d b g).2.1,(d b g).2.2.2.2.1,(d b g).2.2.2.2.2⟩) (λb o _ _ a e _=>k b o a e) (λb o _ _ a e _=>⟨o.slots,k b o a e⟩) (λ_ _ _ _ n=>n)
  (λb o a e=>⟨o,k b o a e⟩) (λ_ _ e=>e) (λ_ _ _ e=>e) (λb p e=>⟨#[],by rw[e];simp⟩) (λm j=> ?_) (λb u e=> ?_) I.bare
 ·obtain⟨o,i,l,h,r⟩:=j
  exact⟨o,i,l,k _ o (λz=>(d _ z).2.1 rfl) h,r⟩
 ·refine(I.hok b u e).stay (λc v a q=>k c v ?_ q) (λ_ q=>q) λ_ _ q=>q
  rcases a with z|z
  ·rw[z];exact f b u e
  ·exact f c _ z
def Inv.turnedNew{t':Nat}{fp:List Addr}{p:Addr}{o:HO}(I:Inv X pins σ H s)(f:∀b∈fp,oK X pins H b)(k:∀b u,b∉fp->s.heap.get? b=some u->h'.get? b=some u)(i:s.heap.objs.size<=p)
  (new:bR X.prog X.w (upd H p o) h' p o):Inv X pins σ (upd H p o) {s with heap:=h',toks:=t'}:=by
 have t:=I.hok.fresh i
 have h:∀b u,H b=some u->b∉fp:=λb u e z=>by rw[(f b z).1] at e;cases e
 have g:∀b u,H b=some u->upd H p o b=some u:=λb u e=>by rw[aM (c_ e t)];exact e
 refine I.step (g':=s.gens) (d':=s.drawn) (ch:=fp) (λb a=>⟨(f b a).2.2.2.1,(f b a).2.1,(f b a).2.2.2.2.1,(f b a).2.2.2.2.2⟩) (λb o _ _ d e _=>k b o d e) (λb o _ _ d e _=>⟨o.slots,k b o d e⟩)
  (λb u _ e n=>by rw[aM (λz=>Nat.lt_irrefl _ (Qqq (Qiq e) (by rw[z];exact i)))];exact n)
  (λb o d e=>⟨o,k b o d e⟩) (λb B e=>g b _ e) (λb u v e=>g b _ e) (λb A e=>⟨#[],by rw[g b _ e];simp⟩) (λm x=> ?_) (λb u e=> ?_) I.bare
 ·obtain⟨o,l,y,j,r⟩:=x
  exact⟨o,l,y,k _ o (λz=>(f _ z).2.1 rfl) j,r⟩
 ·by_cases a:b=p
  ·subst a
   rw[bp] at e
   cases e
   exact new
  ·rw[aM a] at e
   refine(I.hok b u e).stay (λc v d q=>k c v ?_ q) (λc q=>g c _ q) λc _ q=>g c _ q
   rcases d with z|z
   ·rw[z];exact h b u e
   ·exact h c _ z
end
end L2
namespace Zp
open PySem PySem.W PyProof.Rows
end Zp
namespace L2
open PySem PySem.Spec PyProof.Rows
mutual
inductive pF(N:Addr->Prop)(H:Hp):PyData->V->Prop
 |non:pF N H .none .non
 |bl (b:Bool):pF N H (.bool b) (.bl b)
 |int (i:Int):pF N H (.int i) (.int i)
 |str (x:Str):pF N H (.str x) (.str x)
 |tup {a:Addr} {us:List V} {xs:List PyData}:H a=some (.tup us)->rY N H xs us->pF N H (.tuple xs) (.ref a)
 |lst {a:Addr} {us:List V} {xs:List PyData}:H a=some (.lst us)->N a->rY N H xs us->pF N H (.list xs) (.ref a)
 |dct {a:Addr}:H a=some (.dK [])->pF N H (.dict []) (.ref a)
inductive rY(N:Addr->Prop)(H:Hp):List PyData->List V->Prop
 |nil:rY N H [] []
 |cons {x:PyData} {u:V} {xs:List PyData} {us:List V}:pF N H x u->rY N H xs us->rY N H (x::xs) (u::us)
end
section
variable{X:Cx}
mutual
theorem rH{g:List (Addr×Obj)}{J:St}{H:Hp}{s:Shared}{N:Addr->Prop}(I:Inv X g J H s)(q:∀a,N a->a≠sysModules):∀{d:PyData} {v:V} {u:Value},pF N H d v->RelV v u->∃as,Reads s.heap u d as/\sysModules∉as
 |_,_,_,.non,r=>by cases r;exact⟨_,.none,by simp⟩
 |_,_,_,.bl b,r=>by cases r;exact⟨_,.bool b,by simp⟩
 |_,_,_,.int i,r=>by obtain⟨t,rfl⟩:=r;exact⟨_,.int i t,by simp⟩
 |_,_,_,.str x,r=>by obtain⟨t,rfl⟩:=r;exact⟨_,.str x t,by simp⟩
 | _,_,_,.tup (a:=a) h hs,r=>by
   cases r
   obtain⟨k,l,⟨o,f,c,n,p⟩,A⟩:=I.tuple (gM.of h)
   obtain⟨as,j,m⟩:=m8 I q hs l
   exact⟨as,.tuple f c p (by simpa using j),m⟩
 | _,_,_,.lst (a:=a) h n hs,r=>by
   cases r
   obtain⟨k,l,C,A⟩:=I.list (gx.of h)
   obtain⟨o,f,c,L,p⟩:=C.isList
   obtain⟨as,j,m⟩:=m8 I q hs l
   exact⟨_,.list f c p (by simpa using j),by rw[Qsq];exact λe=>e.elim (λe=>q _ n e.symm) m⟩
 | _,_,_,.dct (a:=a) h,r=>by
   cases r
   obtain⟨_,y,M,G,z⟩:=rA I.hok h
   cases G
   obtain⟨o,F,P,f,K,c,_,B,_⟩:=z
   have w:F.toList= []:=List.eq_nil_of_length_eq_zero B.length
   exact⟨_,.dict (as:= []) (bs:= []) (kvs:= []) f K.1 c (by rw[w];exact .nil) (by rw[w];exact .nil),by
     simp
     intro e
     rw[e] at y
     simp at y⟩
theorem m8{b:List (Addr×Obj)}{k:St}{H:Hp}{s:Shared}{N:Addr->Prop}(I:Inv X b k H s)(c:∀a,N a->a≠sysModules):∀{xs:List PyData} {us:List V} {vs:List Value},rY N H xs us->bo us vs->∃as,ReadsAll s.heap vs xs as/\sysModules∉as
 |_,_,_,.nil,r=>by cases r;exact⟨_,.nil,by simp⟩
 | _,_,_,.cons h hs,r=>by
   cases r with
   | cons r g=>
     obtain⟨as,d,i⟩:=rH I c h r
     obtain⟨l,j,f⟩:=m8 I c hs g
     exact⟨_,.cons d j,by rw[mQa];exact λe=>e.elim i f⟩
end
end
section
variable{X:Cx}
def DY:i6 X (binaryOp .Mult) (rI IntMulOk λi j=>.int (i*j)):=JY λ_ _ _ _ _ _ _ a q=>mul_int q a
end
section
variable{X:Cx}
def Df:IM X (λx y H Q=>∃p xs k v,x=.ref p/\y=.int ((k:Nat):Int)/\gx X.K H p xs/\xs[k]?=some v/\Q v H):=by
 intro b s m H x y v u Q I g i h
 obtain⟨p,xs,k,z,rfl,rfl,hq,he,q⟩:=h
 cases g
 obtain⟨t,rfl⟩:=i
 obtain⟨d,r,f,l⟩:=I.list hq
 obtain⟨c,e,a⟩:=r.get he
 have j:k<xs.length:=(gQs.mp he).1
 have n:=jk
 exact wpAny_getItem_list f.isList (x:=c) (Int.natCast_nonneg k) (by omega) (by simpa using e) ⟨z,H,I,a,q⟩
end
section
variable{X:Cx}
def CC(K:PySem.W.Frag):R2:=λx y H Q=>∃a b c,x=.ref a/\y=.ref b/\gx K H a c/\gx K H b []/\Q (.bl (!c.isEmpty)) H
def B_(e:X.A.units<cLine):i6 X (compareOp .NotEq) (CC X.K):=by
 intro c s n H x y v u Q I f g h
 obtain⟨a,b,m,rfl,rfl,ha,hb,q⟩:=h
 cases m with
 |nil=>exact Hc e c s n H _ _ v u Q I f g ⟨a,b,[],[],rfl,rfl,ha,hb,rfl,rfl,q⟩
 | cons z w=>
   cases f
   cases g
   obtain⟨j,r,l,B⟩:=I.list ha
   obtain⟨k,i,d,t⟩:=I.list hb
   have o:=r.length
   have p:=i.length
   exact SeqAt.RcNeAt.lists_lengths l.isList d.isList (by simp[←o,←p]) e _ _ _ _ ⟨.bl true,H,I,rfl,q⟩
end
end L2
namespace HT
open PySem PySem.Spec PyProof.Rows
section
variable{prog:Program}{w:World}{A:Around}{E:Value->Shared->Prop}{s:Shared}
def kn{t c:Addr}{items:Array Value}{j g:Value}{lo hi:Option Int}{Q:Value->Shared->Prop}(a:IsTup s.heap t items)(hs:s.heap.IsSliceOf c j g .none)(o:IsPart j lo)(p:IsPart g hi)
  (i:dY items.size 0 lo=0/\dY items.size items.size hi=items.size) (h:Q (.ref t) s):wpAny (model prog w) A (getItem (.ref t) (.ref c)) Q E s:=by
 obtain⟨n,e,d,l⟩:=id hs
 have f:s.TypeIs (.ref c) "slice":=⟨n,e,d⟩
 unfold getItem
 try with_reducible refine QLq ?_
 first|refine Qaq (Qgq ?_)|skip
 refine Qaq (wpAny_sequenceKey a.typeIs (by decide) ?_)
 refine Qaq (QiQ (name:=Str.ofString "__getitem__") a.typeIs PyProof.Rows.slot_tuple_getitem
  (wpAny_call_entry PyProof.Rows.slot_tuple_getitem a.typeIs entry_tuple_getitem ?_ (args_tuple_getitem _ _)))
 show wpAny _ _ (Builtin.Tuple.tupleItemsOf (.ref t) >>= _) _ _ s
 refine Qaq (tupleItemsOf_ a ?_)
 refine Qaq (wpAny_typeOf f ?_)
 rw[Qhq (by decide)]
 refine Qaq (hZ hs o p ?_)
 have b:(((dY items.size 0 lo:Nat):Int)==0&&(1:Int)==1&&(dY items.size items.size hi-dY items.size 0 lo)==items.size)=true:=by
  rw[i.1,i.2]
  simp
 show wpAny _ _ (if (((dY items.size 0 lo:Nat):Int)==0&&(1:Int)==1&&(dY items.size items.size hi-dY items.size 0 lo)==items.size)=true then _ else _) _ _ s
 rw[Qhq b]
 have k:∀{A:Around} {E:Value->Shared->Prop} {R:Bool->Shared->Prop},R true s->wpAny (model prog w) A (Builtin.Tuple.tupleIsExact (.ref t)) R E s:=λ{A E R} h=>by
  unfold Builtin.Tuple.tupleIsExact
  exact Qaq (wpAny_typeOf a.typeIs (Qgq h))
 refine Qaq (m:=Builtin.Tuple.tupleIsExact _) (k ?_)
 rw[Qhq rfl]
 refine Qaq (wpAny_rule ?_)
 exact Qgq ⟨_,rfl,Qgq h⟩
end
end HT
namespace L2
open PySem PySem.Spec PyProof.Rows
def KF(K:PySem.W.Frag):V->Option Int->Option Int->Hp->VK->Prop:=λx c d H Q=>∃a b,x=.ref a/\gM K H a b∧
 (HT.dY b.length 0 c=0/\HT.dY b.length b.length d=b.length->Q (.ref a) H)/\(¬(HT.dY b.length 0 c=0/\HT.dY b.length b.length d=b.length)->∀p,H p=none->Q (.ref p) (upd H p (.tup (yp b c d))))
def Eu{X:Cx}:KE X (KF X.K):=by
 intro d s t H x v q o n m p Q I k l i j h
 obtain⟨a,b,rfl,hx,q1,q2⟩:=h
 by_cases e:HT.dY b.length 0 n=0/\HT.dY b.length b.length m=b.length
 ·cases k
  obtain⟨f,r,g,u⟩:=I.tuple hx
  have c:f.toArray.size=b.length:=by rw[Qjq];exact r.length.symm
  refine⟨"tuple",_,PyProof.Rows.slot_tuple_getitem.lookup,g.typeIs,?_⟩
  exact HT.kn g l i j (by rw[c];exact e) ⟨.ref a,H,I,rfl,q1 e⟩
 ·exact Gn d s t H _ v q o n m p Q I k l i j ⟨a,b,rfl,hx,e,q2 e⟩
end L2
namespace DL
open PySem PySem.Spec PyProof.Rows L2
inductive D where
 |non|bl (b:Bool)|int (i:Int)|str (x:Str)|tup (xs:List D)|ref (k:Nat)|fn (x:Str)
inductive O where
 |lst (xs:List D)|frz (xs:List D)|dct (kvs:List (Key×D))|fdc (kvs:List (Key×D))
abbrev aA:=List O
abbrev cz:=List (Option D)
structure Md where
 K:PySem.W.Frag
 mg:Str->Option Value
mutual
inductive Rel(M:Md)(ρ:List Addr)(H:Hp):D->V->Prop
 |non:Rel M ρ H .non .non
 |bl (b:Bool):Rel M ρ H (.bl b) (.bl b)
 |int (i:Int):Rel M ρ H (.int i) (.int i)
 |str (x:Str):Rel M ρ H (.str x) (.str x)
 |tup {a:Addr} {vs:List V} {ds:List D}:H a=some (.tup vs)->aU M ρ H ds vs->Rel M ρ H (.tup ds) (.ref a)
 |ref {k:Nat} {a:Addr}:ρ[k]?=some a->Rel M ρ H (.ref k) (.ref a)
 |fn {x:Str} {a:Addr}:M.mg x=some (.ref a)->Rel M ρ H (.fn x) (.ref a)
inductive aU(M:Md)(ρ:List Addr)(H:Hp):List D->List V->Prop
 |nil:aU M ρ H [] []
 |cons {d:D} {v:V} {ds:List D} {vs:List V}:Rel M ρ H d v->aU M ρ H ds vs->aU M ρ H (d::ds) (v::vs)
end
section
variable{M:Md}{ρ ρ':List Addr}{H H':Hp}
def LU:HO->Prop
 |.tup _=>True
 |.frz _ _=>True
 |_=>False
structure bJ(ρ:List Addr)(H:Hp)(ρ':List Addr)(H':Hp):Prop where
 pre:ρ <+: ρ'
 new:∀a∈ρ',a∈ρ\/H a=none
 keep:∀a o,H a=some o->a∉ρ\/LU o->H' a=some o
 grow:∀a,H' a=none->H a=none
def bJ.refl:bJ ρ H ρ H:=⟨List.prefix_refl _,λ_ h=>.inl h,λ_ _ h _=>h,λ_ h=>h⟩
def bJ.trans{b d:List Addr}{H1 H2:Hp}(e:bJ ρ H b H1)(f:bJ b H1 d H2):bJ ρ H d H2 where
 pre:=e.pre.trans f.pre
 new:=λa h=>(f.new a h).elim (λh=>e.new a h) λh=>.inr (e.grow a h)
 keep:=λa o h c=>f.keep a o (e.keep a o h c) (c.imp (λn m=>(e.new a m).elim n λz=>by rw[z] at h;cases h) id)
 grow:=λa h=>e.grow a (f.grow a h)
def bJ.laid{a:Addr}{o:HO}(h:H a=none):bJ ρ H ρ (upd H a o) where
 pre:=List.prefix_refl _
 new:=λ_ h=>.inl h
 keep:=λb c e _=>by rw[aM];exact e;intro z;subst z;rw[h] at e;cases e
 grow:=λb e=>by
  by_cases z:b=a
  ·subst z;exact h
  ·rw[aM z] at e;exact e
theorem jO{α:Type}:∀{l:List α},l.Nodup->∀{i j:Nat} {a:α},l[i]?=some a->l[j]?=some a->i=j
 | [],_,_,_,_,h,_=>by simp at h
 |x::l,n,0,0,_,_,_=>rfl
 | x::l,n,0,j+1,a,h1,h2=>by
   rw[List.nodup_cons] at n
   simp at h1 h2
   subst h1
   exact absurd (mQg h2) n.1
 | x::l,n,i+1,0,a,h1,h2=>by
   rw[List.nodup_cons] at n
   simp at h1 h2
   subst h2
   exact absurd (mQg h1) n.1
 | x::l,n,i+1,j+1,a,h1,h2=>by
   rw[List.nodup_cons] at n
   simp at h1 h2
   exact congrArg (·+1) (jO n.2 h1 h2)
def bN{α e:Type}{a c:α}{b d:e}(h:some (a,b)=some (c,d)):a=c/\b=d:=by cases h;exact⟨rfl,rfl⟩
def cq{α:Type}{l l':List α}(h:l <+: l'){k:Nat}{a:α}(e:l[k]?=some a):l'[k]?=some a:=by
 obtain⟨t,rfl⟩:=h
 rw[QHq (gQs.mp e).1]
 exact e
mutual
theorem Rel.ext(e:bJ ρ H ρ' H'):∀{d:D} {v:V},Rel M ρ H d v->Rel M ρ' H' d v
 |_,_,.non=>.non
 |_,_,.bl b=>.bl b
 |_,_,.int i=>.int i
 |_,_,.str x=>.str x
 |_,_,.tup h hs=>.tup (e.keep _ _ h (.inr trivial)) (aU.ext e hs)
 |_,_,.ref h=>.ref (cq e.pre h)
 |_,_,.fn h=>.fn h
theorem aU.ext(e:bJ ρ H ρ' H'):∀{ds:List D} {vs:List V},aU M ρ H ds vs->aU M ρ' H' ds vs
 |_,_,.nil=>.nil
 |_,_,.cons h hs=>.cons (Rel.ext e h) (aU.ext e hs)
end
mutual
theorem Rel.pre(e:ρ <+: ρ'):∀{d:D} {v:V},Rel M ρ H d v->Rel M ρ' H d v
 |_,_,.non=>.non
 |_,_,.bl b=>.bl b
 |_,_,.int i=>.int i
 |_,_,.str x=>.str x
 |_,_,.tup h hs=>.tup h (aU.pre e hs)
 |_,_,.ref h=>.ref (cq e h)
 |_,_,.fn h=>.fn h
theorem aU.pre(e:ρ <+: ρ'):∀{ds:List D} {vs:List V},aU M ρ H ds vs->aU M ρ' H ds vs
 |_,_,.nil=>.nil
 |_,_,.cons h hs=>.cons (Rel.pre e h) (aU.pre e hs)
end
theorem aU.length:∀{ds:List D} {vs:List V},aU M ρ H ds vs->ds.length=vs.length
 |_,_,.nil=>rfl
 |_,_,.cons _ h=>congrArg (·+1) h.length
theorem aU.append:∀{ds a:List D} {vs ws:List V},aU M ρ H ds vs->aU M ρ H a ws->aU M ρ H (ds++a) (vs++ws)
 |_,_,_,_,.nil,h=>h
 |_,_,_,_,.cons h hs,h'=>.cons h (hs.append h')
theorem aU.get:∀{ds:List D} {vs:List V} {i:Nat} {d:D},aU M ρ H ds vs->ds[i]?=some d->∃v,vs[i]?=some v/\Rel M ρ H d v
 |_,_,0,_,.cons h _,e=>by cases e;exact⟨_,rfl,h⟩
 |_,_,i+1,_,.cons _ hs,e=>hs.get (i:=i) (by simpa using e)
 |_,_,_,_,.nil,e=>by simp at e
theorem aU.set{d:D}{v:V}(h:Rel M ρ H d v):∀{ds:List D} {vs:List V} (i:Nat),aU M ρ H ds vs->aU M ρ H (ds.set i d) (vs.set i v)
 |_,_,_,.nil=>.nil
 |_,_,0,.cons _ t=>.cons h t
 |_,_,i+1,.cons q t=>.cons q (aU.set h i t)
theorem aU.take:∀{ds:List D} {vs:List V} (n:Nat),aU M ρ H ds vs->aU M ρ H (ds.take n) (vs.take n)
 |_,_,0,_=>.nil
 |_,_,_+1,.nil=>.nil
 |_,_,n+1,.cons h hs=>.cons h (hs.take n)
theorem aU.drop:∀{ds:List D} {vs:List V} (n:Nat),aU M ρ H ds vs->aU M ρ H (ds.drop n) (vs.drop n)
 |_,_,0,h=>h
 |_,_,_+1,.nil=>.nil
 |_,_,n+1,.cons _ hs=>hs.drop n
theorem aU.eraseIdx:∀{ds:List D} {vs:List V} (n:Nat),aU M ρ H ds vs->aU M ρ H (ds.eraseIdx n) (vs.eraseIdx n)
 |_,_,_,.nil=>.nil
 |_,_,0,.cons _ h=>h
 |_,_,n+1,.cons h hs=>.cons h (hs.eraseIdx n)
theorem aU.rep{ds:List D}{vs:List V}(h:aU M ρ H ds vs):∀k:Nat,aU M ρ H (List.replicate k ds).flatten (List.replicate k vs).flatten
 |0=>.nil
 |k+1=>by rw[QNq,QNq,List.flatten_cons,List.flatten_cons];exact h.append (h.rep k)
def bB(M:Md)(ρ:List Addr)(H:Hp):List (Key×D)->List (Key×V)->Prop
 | [],kv=>kv= []
 |(k,d)::r,kv=>∃v t,kv=(k,v)::t/\Rel M ρ H d v/\bB M ρ H r t
theorem bB.imp{ρ':List Addr}{H':Hp}(f:∀d v,Rel M ρ H d v->Rel M ρ' H' d v):∀{l:List (Key×D)} {kv:List (Key×V)},bB M ρ H l kv->bB M ρ' H' l kv
 | [],_,h=>h
 |(_,_)::_,_,⟨v,t,e,h,hs⟩=>⟨v,t,e,f _ _ h,bB.imp f hs⟩
theorem bB.length:∀{l:List (Key×D)} {kv:List (Key×V)},bB M ρ H l kv->l.length=kv.length
 | [],_,h=>by cases h;rfl
 |(_,_)::_,_,⟨v,t,e,h,hs⟩=>by subst e;exact congrArg (·+1) hs.length
def mI(M:Md)(ρ:List Addr)(H:Hp)(a:Addr):O->Prop
 |.lst e=>∃d,H a=some (.lst d)/\aU M ρ H e d
 |.frz e=>∃d o,H a=some (.frz o (.lst d))/\aU M ρ H e d
 |.dct b=>∃c,H a=some (.dK c)/\bB M ρ H b c
 |.fdc b=>∃c o,H a=some (.frz o (.dK c))/\bB M ρ H b c
structure eS(M:Md)(ρ:List Addr)(S:aA)(H:Hp):Prop where
 len:ρ.length=S.length
 nd:ρ.Nodup
 obj:∀(k:Nat) (a:Addr) (o:O),ρ[k]?=some a->S[k]?=some o->mI M ρ H a o
def mI.lay{a b:Addr}{o:O}{u:HO}(h:mI M ρ H a o)(k:H b=none):mI M ρ (upd H b u) a o:=by
 have e:bJ ρ H ρ (upd H b u):=bJ.laid k
 have f:∀{x},H a=some x->upd H b u a=some x:=λ{x} h=>by rw[aM];exact h;intro z;subst z;rw[k] at h;cases h
 cases o with
 |lst l=>obtain⟨j,d,c⟩:=h;exact⟨j,f d,c.ext e⟩
 |frz l=>obtain⟨j,o,d,c⟩:=h;exact⟨j,o,f d,c.ext e⟩
 |dct g=>obtain⟨i,d,c⟩:=h;exact⟨i,f d,c.imp λ_ _ r=>r.ext e⟩
 |fdc g=>obtain⟨i,o,d,c⟩:=h;exact⟨i,o,f d,c.imp λ_ _ r=>r.ext e⟩
def eS.lay{S:aA}{b:Addr}{u:HO}(h:eS M ρ S H)(e:H b=none):eS M ρ S (upd H b u):=⟨h.len,h.nd,λk a o d c=>(h.obj k a o d c).lay e⟩
theorem mI.pre{a:Addr}{o:O}(e:ρ <+: ρ')(h:mI M ρ H a o):mI M ρ' H a o:=by
 cases o with
 |lst i=>obtain⟨g,c,b⟩:=h;exact⟨g,c,b.pre e⟩
 |frz i=>obtain⟨g,o,c,b⟩:=h;exact⟨g,o,c,b.pre e⟩
 |dct d=>obtain⟨f,c,b⟩:=h;exact⟨f,c,b.imp λ_ _ r=>r.pre e⟩
 |fdc d=>obtain⟨f,o,c,b⟩:=h;exact⟨f,o,c,b.imp λ_ _ r=>r.pre e⟩
def eS.box{S:aA}{a:Addr}{o:O}(h:eS M ρ S H)(l:a∉ρ)(g:mI M (ρ++ [a]) H a o):eS M (ρ++ [a]) (S++ [o]) H where
 len:=by rw[lQa,lQa,h.len];rfl
 nd:=by rw[List.nodup_append];exact⟨h.nd,by simp,λx j y f=>by rw[Qfq] at f;subst f;exact λz=>l (z▸j)⟩
 obj:=λk b u d e=>by
  by_cases c:k<ρ.length
  ·rw[QHq c] at d
   rw[QHq (h.len▸c)] at e
   exact(h.obj k b u d e).pre (List.prefix_append _ _)
  ·have c:ρ.length<=k:=Nat.le_of_not_lt c
   rw[QQq c] at d
   rw[QQq (h.len▸c)] at e
   have z:k-ρ.length=0:=by
    have:=(gQs.mp d).1
    simp at this
    omega
   have i:k-S.length=0:=by rw[←h.len];exact z
   rw[z] at d
   rw[i] at e
   cases d
   cases e
   exact g
def eS.put{S:aA}{k:Nat}{a:Addr}{o y:O}{u:HO}(h:eS M ρ S H)(m:ρ[k]?=some a)(J:S[k]?=some o)(K:mI M ρ (upd H a u) a y)(F:∀x,H a=some x->¬LU x):eS M ρ (S.set k y) (upd H a u)/\bJ ρ H ρ (upd H a u):=by
 have G:a∈ρ:=mQg m
 have e:bJ ρ H ρ (upd H a u):=by
  refine⟨List.prefix_refl _,λ_ h=>.inl h,λb x A c=> ?_,λb l=> ?_⟩
  ·rw[aM]
   ·exact A
   ·intro z
    subst z
    exact c.elim (λn=>n G) λL=>F _ A L
  ·by_cases z:b=a
   ·subst z;rw[bp] at l;cases l
   ·rw[aM z] at l;exact l
 refine⟨⟨by rw[List.length_set];exact h.len,h.nd,λj b p g i=> ?_⟩,e⟩
 by_cases c:j=k
 ·subst c
  rw[m] at g
  cases g
  rw[Qyq (gQs.mp J).1] at i
  cases i
  exact K
 ·rw[QKq (Ne.symm c)] at i
  have s:b≠a:=by
   intro z
   subst z
   have B:=(gQs.mp g)
   have C:=(gQs.mp m)
   obtain⟨B,P⟩:=B
   obtain⟨C,N⟩:=C
   exact c (jO h.nd g m)
  have q:=h.obj j b p g i
  cases p with
  |lst I=>obtain⟨v,d,f⟩:=q;exact⟨v,by rw[aM s];exact d,f.ext e⟩
  |frz I=>obtain⟨v,o,d,f⟩:=q;exact⟨v,o,by rw[aM s];exact d,f.ext e⟩
  |dct t=>obtain⟨w,d,f⟩:=q;exact⟨w,by rw[aM s];exact d,f.imp λ_ _ r=>r.ext e⟩
  |fdc t=>obtain⟨w,o,d,f⟩:=q;exact⟨w,o,by rw[aM s];exact d,f.imp λ_ _ r=>r.ext e⟩
end
structure En(M:Md)(ρ:List Addr)(H:Hp)(Γ:cz)(σ:L2.St):Prop where
 len:σ.length=Γ.length
 get:∀(i:Nat) (d:D),Γ[i]?=some (some d)->∃v,σ[i]?=some (some v)/\Rel M ρ H d v
def En.ext{M:Md}{ρ a:List Addr}{H b:Hp}{c:cz}{f:L2.St}(h:En M ρ H c f)(e:bJ ρ H a b):En M a b c f:=⟨h.len,λi d q=>by obtain⟨v,j,g⟩:=h.get i d q;exact⟨v,j,g.ext e⟩⟩
def En.set{M:Md}{ρ:List Addr}{H:Hp}{a:cz}{b:L2.St}{i:Nat}{d:D}{v:V}(h:En M ρ H a b)(r:Rel M ρ H d v):En M ρ H (a.set i (some d)) (b.set i (some v)) where
 len:=by rw[List.length_set,List.length_set];exact h.len
 get:=λj e q=>by
  by_cases c:i=j
  ·subst c
   have l:i<a.length:=by
    have:=(gQs.mp q).1
    rwa [List.length_set] at this
   rw[Qyq l] at q
   cases q
   exact⟨v,Qyq (h.len▸l),r⟩
  ·rw[QKq c] at q⊢
   exact h.get j e q
structure Ok(M:Md)(ρ:List Addr)(Γ:cz)(S:aA)(σ:L2.St)(H:Hp):Prop where
 en:En M ρ H Γ σ
 st:eS M ρ S H
def Ok.to{M:Md}{ρ a:List Addr}{d:cz}{S c:aA}{f:L2.St}{H b:Hp}(h:Ok M ρ d S f H)(e:bJ ρ H a b)(s:eS M a c b):Ok M a d c f b:=⟨h.en.ext e,s⟩
abbrev bc:=cz->aA->Option (D×aA)
abbrev fO:=cz->aA->Option (List D×aA)
abbrev ix:=cz->aA->Option (Bool×aA)
def tD(M:Md)(f:bc):TE:=λh H Q=>∃e g S d c,Ok M e g S h H/\f g S=some (d,c)/\∀a v b,bJ e H a b->eS M a c b->Rel M a b d v->Q v b
def tL(M:Md)(f:fO):TE:=λj H Q=>∃g h S i d,Ok M g h S j H/\f h S=some (i,d)∧
 ∀b a e c,bJ g H b c->eS M b d c->H a=none->a∉b->c a=some (.lst e)->aU M b c i e->Q (.ref a) c
def v5(M:Md)(f:fO):TA:=λi H Q=>∃e g S h c,Ok M e g S i H/\f g S=some (h,c)/\∀a d b,bJ e H a b->eS M a c b->aU M a b h d->Q d b
def tB(M:Md)(f:ix):TT:=λh H Q=>∃e g S b d,Ok M e g S h H/\f g S=some (b,d)/\∀a c,bJ e H a c->eS M a d c->Q b c
section
variable{X:Cx}
abbrev md(X:Cx):Md:=⟨X.K,X.mg⟩
def i3{e:Expr}{t t':TE}(h:PE X e t)(w:∀b H Q,t' b H Q->t b H Q):PE X e t':=λa s b H Q I q=>h a s b H Q I (w _ _ _ q)
def J5{e:Expr}{t t':TT}(h:PT X e t)(w:∀b H Q,t' b H Q->t b H Q):PT X e t':=λa s b H Q I q=>h a s b H Q I (w _ _ _ q)
def L_{e:Expr}{t t':TT}(h:PW X e t)(w:∀b H Q,t' b H Q->t b H Q):PW X e t':=λc a s b H Q I q=>h c a s b H Q I (w _ _ _ q)
def Mn{d:List Expr}{t t':TA}(h:PA X d t)(w:∀b H Q,t' b H Q->t b H Q):PA X d t':=λc a s b H Q I q=>h c a s b H Q I (w _ _ _ q)
def AD{e:Stmt}{t t':TS}(h:PS X e t)(w:∀D b H,t' D b H->t D b H):PS X e t':=λa s b H D I q=>h a s b H D I (w _ _ _ q)
def IJ{e:List Stmt}{t t':TS}(h:rO X e t)(w:∀D b H,t' D b H->t D b H):rO X e t':=λa s b H D I q=>h a s b H D I (w _ _ _ q)
noncomputable def au(i:Nat):bc:=λa S=>match a[i]? with
 |some (some d)=>some (d,S)
 |_=>none
def AV{i:Nat}{b:cz}{S:aA}{d:D}{a:aA}(h:au i b S=some (d,a)):b[i]?=some (some d)/\a=S:=by
 unfold au at h
 split at h
 ·cases h;exact⟨by assumption,rfl⟩
 ·cases h
def HF{e:Expr}{i:Nat}(h:PE X e (Hd i)):PE X e (tD (md X) (au i)):=i3 h λl H Q b=>by
 obtain⟨c,k,S,d,j,ok,e,q⟩:=b
 obtain⟨a,rfl⟩:=AV e
 obtain⟨v,g,f⟩:=ok.en.get i d a
 exact⟨v,g,q c v H bJ.refl ok.st f⟩
noncomputable def cF(d:D):bc:=λ_ S=>some (d,S)
def j2{e:Expr}{v:V}{d:D}(h:PE X e (tC v))(r:∀ρ H,Rel (md X) ρ H d v):PE X e (tD (md X) (cF d)):=i3 h λg H Q a=>by
 obtain⟨ρ,f,S,c,b,ok,e,q⟩:=a
 cases e
 exact q ρ v H bJ.refl ok.st (r _ _)
def Jo{i:Int}{j pos}:PE X (.Constant (.int i) j pos) (tD (md X) (cF (.int i))):=j2 Hm λ_ _=>.int i
def Mw{b:Bool}{j pos}:PE X (.Constant (.bool b) j pos) (tD (md X) (cF (.bl b))):=j2 I0 λ_ _=>.bl b
def LV{j pos}:PE X (.Constant .none j pos) (tD (md X) (cF .non)):=j2 GS λ_ _=>.non
def LB{x:Str}{j pos}:PE X (.Constant (.str x) j pos) (tD (md X) (cF (.str x))):=j2 GB λ_ _=>.str x
def dH(f:fO):bc:=λb S=>(f b S).bind λ(c,a)=>some (.ref a.length,a++ [.lst c])
def LY{e:Expr}{f:fO}(h:PE X e (tL (md X) f)):PE X e (tD (md X) (dH f)):=i3 h λz H Q t=>by
 obtain⟨u,k,S,d,A,ok,e,q⟩:=t
 unfold dH at e
 cases j:f k S with
 |none=>rw[j] at e;cases e
 | some p=>
   obtain⟨n,w⟩:=p
   rw[j] at e
   obtain⟨rfl,rfl⟩:=bN e
   refine⟨u,k,S,n,w,ok,j,λg a m y x l o s v r=> ?_⟩
   have i:=r.pre (List.prefix_append g [a])
   refine q (g++ [a]) (.ref a) y ⟨x.pre.trans (List.prefix_append _ _),λb c=> ?_,x.keep,x.grow⟩ (l.box s ⟨m,v,i⟩) (.ref ?_)
   · rcases mQa.mp c with c|c
     · exact x.new b c
     · rw[Qfq] at c;subst c;exact .inr o
   · rw[←l.len,QQq (Qmq _)]
     simp
noncomputable def av:fO:=λ_ S=>some ([],S)
noncomputable def ar(f:bc)(g:fO):fO:=λa S=>(f a S).bind λ(d,c)=>(g a c).bind λ(e,b)=>some (d::e,b)
def aq{α c:Type}{o:Option α}{f:α->Option c}{b:c}(h:o.bind f=some b):∃a,o=some a/\f a=some b:=by
 cases o with
 |none=>cases h
 |some a=>exact⟨a,rfl,h⟩
def rC:PA X [] (v5 (md X) av):=Mn eQ λg H Q a=>by
 obtain⟨b,f,S,d,c,ok,e,q⟩:=a
 cases e
 exact q b [] H bJ.refl ok.st .nil
def iG{e:Expr}{a:List Expr}{f:bc}{g:fO}(A:PE X e (tD (md X) f))(u:PA X a (v5 (md X) g))(hs:starEach (e::a) X.env=(false,eval e X.env)::starEach a X.env:=by rfl):PA X (e::a) (v5 (md X) (ar f g)):=
 Mn (cC A u hs) λB H Q s=>by
  obtain⟨t,j,S,d,C,ok,e,q⟩:=s
  obtain⟨⟨x,l⟩,z,e⟩:=aq e
  obtain⟨⟨w,r⟩,p,e⟩:=aq e
  obtain⟨rfl,rfl⟩:=bN e
  refine⟨t,j,S,x,l,ok,z,λi v H1 m b n=>⟨i,j,l,w,r,ok.to m b,p,λc o H2 k h y=> ?_⟩⟩
  exact q c (v::o) H2 (m.trans k) h (.cons (n.ext k) y)
def bg(f:fO):bc:=λc S=>(f c S).bind λ(a,b)=>if a.length<=sizeLine then some (.tup a,b) else none
def Lm{j:List Expr}{f:fO}{k pos}(h:PA X j (v5 (md X) f)):PE X (.Tuple j k pos) (tD (md X) (bg f)):=i3 (F4 h) λv H Q m=>by
 obtain⟨n,o,S,d,w,ok,e,q⟩:=m
 obtain⟨⟨l,s⟩,r,e⟩:=aq e
 dsimp only at e
 split at e
 ·rename_i c
  obtain⟨rfl,rfl⟩:=bN e
  refine⟨n,o,S,l,s,ok,r,λb u H1 t a i=>⟨i.length▸c,λp g=> ?_⟩⟩
  exact q b (.ref p) _ (t.trans (bJ.laid g)) (a.lay g) (.tup bp (i.ext (bJ.laid g)))
 ·cases e
def cN(f:fO):fO:=λc S=>(f c S).bind λ(a,b)=>if a.length<=sizeLine then some (a,b) else none
def cX{M:Md}{ρ a:List Addr}{S:aA}{H f:Hp}{p:Addr}(x:bJ ρ H a f)(st:eS M a S f)(b:f p=none):p∉a:=λm=>by
 obtain⟨k,g⟩:=List.getElem?_of_mem m
 have l:k<S.length:=st.len▸(gQs.mp g).1
 have:=st.obj k p _ g (gQe l)
 cases e:S[k] with
 |lst d=>rw[e] at this;obtain⟨c,h,_⟩:=this;rw[b] at h;cases h
 |frz d=>rw[e] at this;obtain⟨c,o,h,_⟩:=this;rw[b] at h;cases h
 |dct d=>rw[e] at this;obtain⟨c,h,_⟩:=this;rw[b] at h;cases h
 |fdc d=>rw[e] at this;obtain⟨c,o,h,_⟩:=this;rw[b] at h;cases h
def Ii{k:List Expr}{f:fO}{pos}(h:PA X k (v5 (md X) f)):PE X (.List k pos) (tL (md X) (cN f)):=i3 (Hi h) λu H Q n=>by
 obtain⟨o,r,S,d,v,ok,e,q⟩:=n
 obtain⟨⟨m,t⟩,s,e⟩:=aq e
 dsimp only at e
 split at e
 ·rename_i c
  obtain⟨rfl,rfl⟩:=bN e
  refine⟨o,r,S,m,t,ok,s,λg l H1 i a j=>⟨j.length▸c,λp b=> ?_⟩⟩
  exact q g p l _ (i.trans (bJ.laid b)) (a.lay b) (i.grow p b) (cX i a b) bp (j.ext (bJ.laid b))
 ·cases e
end
section
variable{X:Cx}{a b c e:Expr}{pos:Pos}
def Dg:i6 X (binaryOp .Add) (λx y H Q=>∃a b ys,x=.ref a/\y=.ref b/\gM X.K H a []/\gM X.K H b ys/\Q (.ref b) H):=by
 intro w s R H x y v u Q I L M h
 obtain⟨a,b,ys,rfl,rfl,ha,j,q⟩:=h
 cases L
 cases M
 obtain⟨J,B,C,_⟩:=I.tuple ha
 obtain⟨g,S,j,_⟩:=I.tuple j
 cases B
 obtain⟨⟨A,N,p,G⟩,t,z,n,o⟩:=id C
 obtain⟨⟨r,k,m,l⟩,i,f,P,d⟩:=id j
 simp only at z o f d
 subst z o f d
 exact concat_meets ⟨_,t,rfl⟩ ⟨_,i,rfl⟩ noFill_tuple_add seq_tuple_add PySem.F.slot_tuple_add PySem.F.entry_tuple_add (PySem.F.args_tuple_add_2 _ _)
   (tuple_addW0 a b _ g.toArray n P N k G l (by simp)) ⟨t,i,.ref b,H,I,rfl,q⟩
abbrev sg:=aA->D->D->Option D
def kb(M:Md)(r:R2)(o:sg):Prop:=∀{f:List Addr} {S:aA} {H:Hp} {x y d:D} {u v:V} {Q:VK},eS M f S H->Rel M f H x u->Rel M f H y v->o S x y=some d->(∀w g,bJ f H f g->eS M f S g->Rel M f g d w->Q w g)->r u v H Q
noncomputable def aR(o:sg)(f g:bc):bc:=λi S=>(f i S).bind λ(x,j)=>(g i j).bind λ(y,h)=>(o h x y).bind λd=>some (d,h)
def oS{r:R2}{o:sg}{f g:bc}(G:kb (md X) r o)(h:PE X e (Ft r (tD (md X) f) (tD (md X) g))):PE X e (tD (md X) (aR o f g)):=i3 h λP H Q I=>by
 obtain⟨J,n,S,d,R,ok,e,q⟩:=I
 obtain⟨⟨x,s⟩,L,e⟩:=aq e
 obtain⟨⟨y,F⟩,C,e⟩:=aq e
 obtain⟨N,M,e⟩:=aq e
 obtain⟨rfl,rfl⟩:=bN e
 refine⟨J,n,S,x,s,ok,L,λm v H1 t i A=>⟨m,n,s,y,F,ok.to t i,C,λj w H2 p l K=> ?_⟩⟩
 exact G l (A.ext p) K M λz H3 B k u=>q j z H3 ((t.trans p).trans B) k u
def bO:sg:=λ_ x y=>match x,y with
 |.int i,.int j=>some (.int (i+j))
 |.str i,.str j=>if i.length+j.length<=sizeLine then some (.str (i++j)) else none
 |.tup i,.tup j=>if i.length+j.length<=sizeLine then some (.tup (i++j)) else none
 |_,_=>none
abbrev IU(K:PySem.W.Frag):R2:=λx y H Q=>(∃i j,x=.int i/\y=.int j/\Q (.int (i+j)) H)\/(∃i j,x=.str i/\y=.str j/\i.length+j.length<=sizeLine/\Q (.str (i++j)) H)∨
 (∃a b d,x=.ref a/\y=.ref b/\gM K H a []/\gM K H b d/\Q (.ref b) H)\/Fv K x y H Q
def Fj:i6 X (binaryOp .Add) (IU X.K):=GE.or (yB.or (Dg.or Ek))
def FZ{M:Md}:kb M (IU M.K) bO:=by
 intro w S H x y d u v Q h o n e q
 cases o with
 |int i=>cases n <;>simp only[bO,reduceCtorEq] at e;cases e;exact .inl ⟨_,_,rfl,rfl,q _ _ bJ.refl h (.int _)⟩
 | str i=>
   cases n <;>simp only[bO,reduceCtorEq] at e
   split at e <;>cases e
   exact .inr (.inl ⟨_,_,rfl,rfl,by assumption,q _ _ bJ.refl h (.str _)⟩)
 | tup k f=>
   cases n with
   | tup m j=>
     simp only[bO] at e
     split at e <;>cases e
     rename_i r
     have s:=f.length
     have t:=j.length
     cases f with
     |nil=>exact .inr (.inr (.inl ⟨_,_,_,rfl,rfl,gM.of k,gM.of m,q _ _ bJ.refl h (.tup m j)⟩))
     | cons f g=>
       refine .inr (.inr (.inr ⟨_,_,_,_,rfl,rfl,gM.of k,gM.of m,by simp,by rw[←s,←t];exact r,λz=> ?_,λz p l=> ?_⟩))
       · subst z
         cases j
         rw[List.append_nil] at q
         exact q _ _ bJ.refl h (.tup k (.cons f g))
       · exact q _ _ (bJ.laid l) (h.lay l) (.tup bp ((aU.append (.cons f g) j).ext (bJ.laid l)))
   |_=>simp only[bO,reduceCtorEq] at e
 |_=>simp only[bO,reduceCtorEq] at e
def LI{f g:bc}(d:PE X a (tD (md X) f))(h:PE X b (tD (md X) g)):PE X (.BinOp a .Add b pos) (tD (md X) (aR bO f g)):=oS FZ (oO Fj d h)
def intD(C:Int->Int->Prop)[∀i j,Decidable (C i j)](k:Int->Int->D):sg:=λ_ x y=>match x,y with
 |.int i,.int j=>if C i j then some (k i j) else none
 |_,_=>none
def vB{M:Md}{C:Int->Int->Prop}[∀i j,Decidable (C i j)]{k:Int->Int->D}{g:Int->Int->V}(h:∀i j ρ H,Rel M ρ H (k i j) (g i j)):kb M (rI C g) (intD C k):=by
 intro ρ S H x y d u v Q l f m e q
 cases f <;>cases m <;>simp only[intD,reduceCtorEq] at e
 split at e <;>cases e
 exact⟨_,_,rfl,rfl,by assumption,q _ _ bJ.refl l (h _ _ _ _)⟩
def m5{M:Md}{k:Int->Int->D}{g:Int->Int->V}(h:∀i j ρ H,Rel M ρ H (k i j) (g i j)):kb M (AH g) (intD (λ_ _=>True) k):=by
 intro ρ S H x y d u v Q l f m e q
 cases f <;>cases m <;>simp only[intD,reduceCtorEq] at e
 rw[Qhq trivial] at e
 cases e
 exact⟨_,_,rfl,rfl,q _ _ bJ.refl l (h _ _ _ _)⟩
instance{i j:Int}:Decidable (Cf i j):=by unfold Cf;infer_instance
instance{i j:Int}:Decidable (Cv i j):=by unfold Cv;infer_instance
open Classical in
noncomputable instance{i j:Int}:Decidable (IntMulOk i j):=Classical.propDecidable _
abbrev kj:sg:=intD (λ_ _=>True) λi j=>.int (i-j)
noncomputable abbrev lE:sg:=intD IntMulOk λi j=>.int (i*j)
abbrev pA:sg:=intD (λ_ j=>0<j) λi j=>.int (i%j)
abbrev xo:sg:=intD Cf λi j=>.int (i/j)
abbrev uG:sg:=intD Cv λi j=>.int (i^j.toNat)
def L5{f g:bc}(d:PE X a (tD (md X) f))(h:PE X b (tD (md X) g)):PE X (.BinOp a .Sub b pos) (tD (md X) (aR kj f g)):=oS (m5 λi j _ _=>.int _) (oO FT d h)
def Ll{f g:bc}(d:PE X a (tD (md X) f))(h:PE X b (tD (md X) g)):PE X (.BinOp a .Mult b pos) (tD (md X) (aR lE f g)):=oS (vB λi j _ _=>.int _) (oO DY d h)
def LO{f g:bc}(d:PE X a (tD (md X) f))(h:PE X b (tD (md X) g)):PE X (.BinOp a .Mod b pos) (tD (md X) (aR pA f g)):=oS (vB λi j _ _=>.int _) (oO F1 d h)
def KU{f g:bc}(d:PE X a (tD (md X) f))(h:PE X b (tD (md X) g)):PE X (.BinOp a .FloorDiv b pos) (tD (md X) (aR xo f g)):=oS (vB λi j _ _=>.int _) (oO Fb d h)
def Mm{f g:bc}(d:PE X a (tD (md X) f))(h:PE X b (tD (md X) g)):PE X (.BinOp a .Pow b pos) (tD (md X) (aR uG f g)):=oS (vB λi j _ _=>.int _) (oO G7 d h)
def i8(f:bc):bc:=λh S=>(f h S).bind λ(d,g)=>match d with
 |.int i=>some (.int (-i),g)
 |_=>none
def Mh{f:bc}(n:PE X a (tD (md X) f)):PE X (.UnaryOp .USub a pos) (tD (md X) (i8 f)):=i3 (Jp Gj n) λr H Q j=>by
 obtain⟨k,l,S,d,s,ok,e,q⟩:=j
 obtain⟨⟨x,o⟩,m,e⟩:=aq e
 dsimp only at e
 split at e
 ·obtain⟨rfl,rfl⟩:=bN e
  refine⟨k,l,S,_,o,ok,m,λi v H1 p g h=> ?_⟩
  cases h
  exact⟨_,rfl,q _ _ _ p g (.int _)⟩
 ·cases e
def vC:D->Option V
 |.non=>some .non
 |.bl b=>some (.bl b)
 |.int i=>some (.int i)
 |.str x=>some (.str x)
 |_=>none
def lJ{M:Md}{ρ:List Addr}{H:Hp}{d:D}{u v:V}(r:Rel M ρ H d u)(e:vC d=some v):u=v:=by
 cases r <;>simp[vC] at e <;>exact e
def dw(d:Bool):sg:=λ_ x y=>match vC x,vC y with
 |some u,some v=>if y8 u v=true then some (.bl (if d then !decide (u=v) else decide (u=v))) else none
 |_,_=>none
def xc{f:Bool}{S:aA}{x y d:D}(e:dw f S x y=some d):∃u v,vC x=some u/\vC y=some v/\y8 u v=true/\d=.bl (if f then !decide (u=v) else decide (u=v)):=by
 unfold dw at e
 split at e
 ·split at e <;>cases e
  exact⟨_,_,by assumption,by assumption,by assumption,rfl⟩
 ·cases e
def LP{M:Md}:kb M L0 (dw false):=by
 intro n S H x y d u v Q j g k e q
 obtain⟨m,l,h,f,i,rfl⟩:=xc e
 cases lJ g h
 cases lJ k f
 exact⟨i,q _ _ bJ.refl j (.bl _)⟩
def Mo{M:Md}:kb M LN (dw true):=by
 intro n S H x y d u v Q j g k e q
 obtain⟨m,l,h,f,i,rfl⟩:=xc e
 cases lJ g h
 cases lJ k f
 exact⟨i,q _ _ bJ.refl j (.bl _)⟩
abbrev Fx:sg:=intD (λ_ _=>True) λi j=>.bl (decide (i<j))
abbrev KB:sg:=intD (λ_ _=>True) λi j=>.bl (decide (i<=j))
abbrev FA:sg:=intD (λ_ _=>True) λi j=>.bl (decide (j<i))
abbrev Kn:sg:=intD (λ_ _=>True) λi j=>.bl (decide (j<=i))
def LA{M:Md}:kb M (AH λi j=>.bl (decide (i<j))) Fx:=m5 λi j _ _=>.bl _
def Lq{M:Md}:kb M (AH λi j=>.bl (decide (i<=j))) KB:=m5 λi j _ _=>.bl _
def L6{M:Md}:kb M (AH λi j=>.bl (decide (j<i))) FA:=m5 λi j _ _=>.bl _
def LD{M:Md}:kb M (AH λi j=>.bl (decide (j<=i))) Kn:=m5 λi j _ _=>.bl _
def isNone:D->Bool
 |.non=>true
 |_=>false
def B9(d:Bool):sg:=λ_ x y=>match y with
 |.non=>some (.bl (if d then !isNone x else isNone x))
 |_=>none
def Bt{M:Md}{ρ:List Addr}{H:Hp}{d:D}{u:V}(r:Rel M ρ H d u):decide (u=V.non)=isNone d:=by
 cases r <;>simp[isNone]
def K7{M:Md}:kb M (λx y H Q=>y=.non/\Q (.bl (decide (x=.non))) H) (B9 false):=by
 intro i S H x y d u v Q h g f e q
 cases f <;>simp only[B9,reduceCtorEq] at e
 cases e
 rw[Bt g]
 exact⟨rfl,q _ _ bJ.refl h (.bl _)⟩
def LF{d:CmpOp}{r:R2}{o:sg}{f g:bc}(j:i6 X (compareOp d) r)(h:kb (md X) r o)(k:PE X a (tD (md X) f))(l:PE X b (tD (md X) g))(i:behindInMarks d b=false):PE X (.Compare a [d] [b] pos) (tD (md X) (aR o f g)):=oS h (EV j k l i)
noncomputable def aI(f:bc):ix:=λh S=>(f h S).bind λ(d,g)=>match d with
 |.bl k=>some (k,g)
 |_=>none
def qW{f:bc}{h:cz}{S g:aA}{k:Bool}(e:aI f h S=some (k,g)):f h S=some (.bl k,g):=by
 obtain⟨⟨d,j⟩,i,e⟩:=aq e
 dsimp only at e
 split at e
 ·cases e;exact i
 ·cases e
def Jh{r:R2}{o:sg}{f g:bc}(F:kb (md X) r o)(h:PT X e (CP (Ft r (tD (md X) f) (tD (md X) g)))):PT X e (tB (md X) (aI (aR o f g))):=J5 h λP H Q G=>by
 obtain⟨I,n,S,d,R,ok,e,q⟩:=G
 have e:=qW e
 obtain⟨⟨x,s⟩,K,e⟩:=aq e
 obtain⟨⟨y,C⟩,B,e⟩:=aq e
 obtain⟨N,L,e⟩:=aq e
 obtain⟨rfl,rfl⟩:=bN e
 refine⟨I,n,S,x,s,ok,K,λm v H1 t i z=>⟨m,n,s,y,C,ok.to t i,B,λj w H2 p l J=> ?_⟩⟩
 exact F l (z.ext p) J L λM H3 A k u=>by cases u;exact⟨_,rfl,q j H3 ((t.trans p).trans A) k⟩
def Jt{d:CmpOp}{r:R2}{o:sg}{f g:bc}(j:i6 X (compareOp d) r)(h:kb (md X) r o)(k:PE X a (tD (md X) f))(l:PE X b (tD (md X) g))(i:behindInMarks d b=false):PT X (.Compare a [d] [b] pos) (tB (md X) (aI (aR o f g))):=Jh h (p5 j k l i)
def y7(S:aA):D->Option Bool
 |.non=>some false
 |.bl b=>some b
 |.int i=>some (i !=0)
 |.str y=>if y.length<=sizeLine then some ((y.length:Int) !=0) else none
 |.tup d=>some (!d.isEmpty)
 | .ref k=>match S[k]? with
   |some (.lst d)=>some (!d.isEmpty)
   |some (.dct d)=>some (!d.isEmpty)
   |_=>none
 |.fn _=>none
def aU.isEmpty{M:Md}{ρ:List Addr}{H:Hp}{ds:List D}{vs:List V}(h:aU M ρ H ds vs):ds.isEmpty=vs.isEmpty:=by cases h <;>rfl
theorem bB.isEmpty{M:Md}{ρ:List Addr}{H:Hp}{ds:List (Key×D)}{vs:List (Key×V)}(h:bB M ρ H ds vs):ds.isEmpty=vs.isEmpty:=by
 cases ds with
 |nil=>cases h;rfl
 |cons p r=>obtain⟨v,t,e,_⟩:=h;subst e;rfl
def ED{M:Md}{ρ:List Addr}{S:aA}{H:Hp}{d:D}{u:V}{k:Bool}(st:eS M ρ S H)(r:Rel M ρ H d u)(e:y7 S d=some k):G8 M.K u H k:=by
 cases r with
 |non=>cases e;rfl
 |bl=>cases e;rfl
 |int=>cases e;rfl
 |str=>simp only[y7] at e;split at e <;>cases e;exact⟨by assumption,rfl⟩
 |tup h j=>cases e;exact .inr (.inl ⟨_,gM.of h,by rw[j.isEmpty]⟩)
 |fn=>cases e
 | ref h=>
   simp only[y7] at e
   split at e
   · cases e
     obtain⟨f,i,g⟩:=st.obj _ _ _ h (by assumption)
     exact .inl ⟨f,gx.of i,by rw[g.isEmpty]⟩
   · cases e
     obtain⟨f,i,g⟩:=st.obj _ _ _ h (by assumption)
     exact .inr (.inr ⟨f,i,by rw[g.isEmpty]⟩)
   · cases e
def ja(f:bc):ix:=λh S=>(f h S).bind λ(d,g)=>(y7 g d).bind λk=>some (k,g)
def LC{f:bc}(r:PE X a (tD (md X) f))(he:∀d,isTrue a X.env d=(do let v←d;standAt a.pos;holding [v] (truthy v)):=by intro _;rfl):PT X a (tB (md X) (ja f)):=J5 (Cw r he) λu H Q m=>by
 obtain⟨n,o,S,k,w,ok,e,q⟩:=m
 obtain⟨⟨x,s⟩,p,e⟩:=aq e
 obtain⟨j,l,e⟩:=aq e
 obtain⟨rfl,rfl⟩:=bN e
 exact⟨n,o,S,x,s,ok,p,λi v H1 t g h=>⟨j,ED g h l,q _ _ t g⟩⟩
def y0(f:ix):ix:=λg S=>(f g S).bind λ(k,d)=>some (!k,d)
def Lp{f:ix}(n:PT X a (tB (md X) f)):PT X (.UnaryOp .Not a pos) (tB (md X) (y0 f)):=J5 (F5 n) λr H Q i=>by
 obtain⟨j,l,S,k,s,ok,e,q⟩:=i
 obtain⟨⟨g,o⟩,m,e⟩:=aq e
 obtain⟨rfl,rfl⟩:=bN e
 exact⟨j,l,S,g,o,ok,m,λh H1 p d=>q _ _ p d⟩
def i4(f g:ix):ix:=λh S=>(f h S).bind λ(k,d)=>if k=true then g h d else some (false,d)
def DT(f g:ix):ix:=λh S=>(f h S).bind λ(k,d)=>if k=true then some (true,d) else g h d
def KD{f:ix}(d:PT X a (tB (md X) f)):PW X (.BoolOp .And [a] pos) (tB (md X) f):=EK d
def LR{f:ix}(d:PT X a (tB (md X) f)):PW X (.BoolOp .Or [a] pos) (tB (md X) f):=Gx d
def w_and{d:List Expr}{f g:ix}(x:PT X a (tB (md X) f))(p:PW X (.BoolOp .And (b::d) pos) (tB (md X) g)):PW X (.BoolOp .And (a::b::d) pos) (tB (md X) (i4 f g)):=L_ (Gv x p) λy H Q s=>by
 obtain⟨t,m,S,k,v,ok,e,q⟩:=s
 obtain⟨⟨o,n⟩,w,e⟩:=aq e
 refine⟨t,m,S,o,n,ok,w,λj H1 l h=> ?_⟩
 dsimp only at e
 split at e
 ·rename_i c
  rw[Qhq c]
  exact⟨j,m,n,k,v,ok.to l h,e,λr H2 u i=>q _ _ (l.trans u) i⟩
 ·rename_i c
  rw[Quq c]
  obtain⟨rfl,rfl⟩:=bN e
  exact q _ _ l h
def w_or{d:List Expr}{f g:ix}(x:PT X a (tB (md X) f))(p:PW X (.BoolOp .Or (b::d) pos) (tB (md X) g)):PW X (.BoolOp .Or (a::b::d) pos) (tB (md X) (DT f g)):=L_ (Jb x p) λy H Q s=>by
 obtain⟨t,m,S,k,v,ok,e,q⟩:=s
 obtain⟨⟨o,n⟩,w,e⟩:=aq e
 refine⟨t,m,S,o,n,ok,w,λj H1 l h=> ?_⟩
 dsimp only at e
 split at e
 ·rename_i c
  rw[Qhq c]
  obtain⟨rfl,rfl⟩:=bN e
  exact q _ _ l h
 ·rename_i c
  rw[Quq c]
  exact⟨j,m,n,k,v,ok.to l h,e,λr H2 u i=>q _ _ (l.trans u) i⟩
def uu(f g:bc):bc:=λi S=>(f i S).bind λ(d,h)=>match d with
 |.bl true=>g i h
 |.bl false=>some (.bl false,h)
 |_=>none
def Fi(f:bc):bc:=λh S=>(f h S).bind λ(d,g)=>match d with
 |.bl k=>some (.bl (!k),g)
 |_=>none
def LL{op}{f:bc}(h:PE X a (tD (md X) f)):PE X (.BoolOp op [a] pos) (tD (md X) f):=Gh h
def Lx{h:List Expr}{f g:bc}(B:PE X a (tD (md X) f))(p:PE X (.BoolOp .And (b::h) pos) (tD (md X) g)):PE X (.BoolOp .And (a::b::h) pos) (tD (md X) (uu f g)):=i3 (FN B p) λC H Q s=>by
 obtain⟨t,n,S,d,z,ok,e,q⟩:=s
 obtain⟨⟨x,o⟩,A,e⟩:=aq e
 refine⟨t,n,S,x,o,ok,A,λk v H1 l i m=> ?_⟩
 dsimp only at e
 split at e
 ·cases m
  refine⟨_,rfl,?_⟩
  rw[Qhq rfl]
  exact⟨k,n,o,d,z,ok.to l i,e,λr w H2 u j y=>q _ _ _ (l.trans u) j y⟩
 ·cases m
  refine⟨_,rfl,?_⟩
  rw[Quq Qtq]
  obtain⟨rfl,rfl⟩:=bN e
  exact q _ _ _ l i (.bl _)
 ·cases e
def Mi{f:bc}(n:PE X a (tD (md X) f)):PE X (.UnaryOp .Not a pos) (tD (md X) (Fi f)):=i3 (G9 n) λr H Q j=>by
 obtain⟨k,l,S,d,s,ok,e,q⟩:=j
 obtain⟨⟨x,o⟩,m,e⟩:=aq e
 refine⟨k,l,S,x,o,ok,m,λi v H1 p g h=> ?_⟩
 dsimp only at e
 split at e
 ·cases h
  obtain⟨rfl,rfl⟩:=bN e
  exact⟨_,rfl,q _ _ _ p g (.bl _)⟩
 ·cases e
def sy(c:ix)(f g:bc):bc:=λd S=>(c d S).bind λ(k,h)=>if k=true then f d h else g d h
def Ls{h:ix}{f g:bc}(A:PT X c (tB (md X) h))(z:PE X a (tD (md X) f))(u:PE X b (tD (md X) g)):PE X (.IfExp c a b pos) (tD (md X) (sy h f g)):=i3 (CO A z u) λB H Q v=>by
 obtain⟨x,n,S,d,s,ok,e,q⟩:=v
 obtain⟨⟨t,r⟩,y,e⟩:=aq e
 refine⟨x,n,S,t,r,ok,y,λk H1 l j=> ?_⟩
 dsimp only at e
 split at e
 ·rename_i c
  rw[Qhq c]
  exact⟨k,n,r,d,s,ok.to l j,e,λm w H2 o i p=>q _ _ _ (l.trans o) i p⟩
 ·rename_i c
  rw[Quq c]
  exact⟨k,n,r,d,s,ok.to l j,e,λm w H2 o i p=>q _ _ _ (l.trans o) i p⟩
def ki:sg:=λS x y=>match x,y with
 |.tup xs,.int i=>k0 xs i
 |.str z,.int i=>if z.length<=sizeLine then(k0 z.cps.toList i).map λc=>.str ⟨#[c]⟩ else none
 | .ref k,.int i=>match S[k]? with
   |some (.lst xs)=>k0 xs i
   |some (.frz xs)=>k0 xs i
   |_=>none
 |_,_=>none
def ET{α d:Type}{xs:List α}{ys:List d}{i:Int}{x:α}(h:k0 xs i=some x)(l:xs.length=ys.length):∃j:Nat,xs[j]?=some x/\∀y,ys[j]?=some y->k0 ys i=some y:=by
 unfold k0 at h
 obtain⟨j,e,h⟩:=aq h
 exact⟨j,h,λy f=>by unfold k0;rw[←l,e];exact f⟩
def aU.atI{M:Md}{ρ:List Addr}{H:Hp}{ds:List D}{vs:List V}{i:Int}{d:D}(h:aU M ρ H ds vs)(e:L2.k0 ds i=some d):∃v,L2.k0 vs i=some v/\Rel M ρ H d v:=by
 obtain⟨j,k,f⟩:=ET e h.length
 obtain⟨v,l,g⟩:=h.get k
 exact⟨v,f v l,g⟩
def Iz{M:Md}:kb M (Mg M.K) ki:=by
 intro r S H x y d u v Q i l p e q
 cases p <;>cases l <;>simp only[ki,reduceCtorEq] at e
 ·split at e
  ·obtain⟨c,g,f⟩:=oQm.mp e
   subst f
   exact .inr (.inr ⟨_,_,c,rfl,rfl,by assumption,g,q _ _ bJ.refl i (.str _)⟩)
  ·cases e
 ·rename_i h n
  obtain⟨v,g,f⟩:=n.atI e
  exact .inr (.inl ⟨_,_,_,v,rfl,rfl,gM.of h,g,q _ _ bJ.refl i f⟩)
 ·rename_i h
  split at e
  ·obtain⟨m,k,j⟩:=i.obj _ _ _ h (by assumption)
   obtain⟨v,g,f⟩:=j.atI e
   exact .inl ⟨_,_,_,v,rfl,rfl,gx.of k,g,q _ _ bJ.refl i f⟩
  ·obtain⟨m,o,k,j⟩:=i.obj _ _ _ h (by assumption)
   obtain⟨v,g,f⟩:=j.atI e
   exact .inl ⟨_,_,_,v,rfl,rfl,.inl (.inr ⟨o,k⟩),g,q _ _ bJ.refl i f⟩
  ·cases e
def Ky{f g:bc}(d:PE X a (tD (md X) f))(h:PE X b (tD (md X) g))(hs:Ac b:=by intro _ _;rfl):PE X (.Subscript a b pos) (tD (md X) (aR ki f g)):=oS Iz (IH Ha d h hs)
end
inductive Tag where
 |tu|fr|st (k:Nat)|fz (k:Nat)
def yo(M:Md)(ρ:List Addr)(H:Hp)(a:Addr)(vs:List V):Tag->Prop
 |.tu=>gM M.K H a vs
 |.fr=>H a=some (.lst vs)/\a∉ρ
 |.st k=>ρ[k]?=some a/\H a=some (.lst vs)
 |.fz k=>ρ[k]?=some a/\∃o,H a=some (.frz o (.lst vs))
abbrev dQ:=cz->aA->Option ((List D×Tag)×aA)
def tQ(M:Md)(f:dQ):TE:=λj H Q=>∃g h S i t d,Ok M g h S j H/\f h S=some ((i,t),d)∧
 ∀b a e c,bJ g H b c->eS M b d c->yo M b c a e t->aU M b c i e->Q (.ref a) c
def yo.sq{M:Md}{ρ:List Addr}{H:Hp}{a:Addr}{vs:List V}{t:Tag}(h:yo M ρ H a vs t):gx M.K H a vs\/gM M.K H a vs:=by
 cases t with
 |tu=>exact .inr h
 |fr=>exact .inl (gx.of h.1)
 |st k=>exact .inl (gx.of h.2)
 |fz k=>obtain⟨_,o,h⟩:=h;exact .inl (.inl (.inr ⟨o,h⟩))
def Tag.isL:Tag->Bool
 |.tu=>false
 |_=>true
def Tag.isM:Tag->Bool
 |.fr=>true
 |.st _=>true
 |_=>false
def yo.sqL{M:Md}{ρ:List Addr}{H:Hp}{a:Addr}{vs:List V}{t:Tag}(h:yo M ρ H a vs t)(c:t.isL=true):gx M.K H a vs:=by
 cases t with
 |tu=>cases c
 |fr=>exact gx.of h.1
 |st k=>exact gx.of h.2
 |fz k=>obtain⟨_,o,h⟩:=h;exact .inl (.inr ⟨o,h⟩)
def yo.sqM{M:Md}{ρ:List Addr}{H:Hp}{a:Addr}{vs:List V}{t:Tag}(h:yo M ρ H a vs t)(c:t.isM=true):H a=some (.lst vs):=by
 cases t with
 |tu=>cases c
 |fr=>exact h.1
 |st k=>exact h.2
 |fz k=>cases c
def yo.sqT{M:Md}{ρ:List Addr}{H:Hp}{a:Addr}{vs:List V}{t:Tag}(h:yo M ρ H a vs t)(c:t.isL=false):gM M.K H a vs:=by
 cases t with
 |tu=>exact h
 |fr=>cases c
 |st k=>cases c
 |fz k=>cases c
def Tag.stays(S:aA)(ds:List D):Tag->Prop
 |.st k=>S[k]?=some (.lst ds)
 |.fz k=>S[k]?=some (.frz ds)
 |_=>True
def gM.ext{K:PySem.W.Frag}{ρ b:List Addr}{H c:Hp}{a:Addr}{vs:List V}(e:bJ ρ H b c)(h:gM K H a vs):gM K c a vs:=by
 rcases h with(h|⟨o,h⟩)|h
 ·exact .inl (.inl (e.keep _ _ h (.inr trivial)))
 ·exact .inl (.inr ⟨o,e.keep _ _ h (.inr trivial)⟩)
 ·exact .inr h
def yo.to{M:Md}{ρ b:List Addr}{S:aA}{H g:Hp}{a:Addr}{vs:List V}{ds:List D}{t:Tag}(h:yo M ρ H a vs t)(r:aU M ρ H ds vs)(e:bJ ρ H b g)(st:eS M b S g)(c:t.stays S ds):∃vs',yo M b g a vs' t/\aU M b g ds vs':=by
 cases t with
 |tu=>exact⟨vs,gM.ext e h,r.ext e⟩
 |fr=>exact⟨vs,⟨e.keep _ _ h.1 (.inl h.2),λm=>(e.new a m).elim h.2 λz=>by have d:=h.1;rw[z] at d;cases d⟩,r.ext e⟩
 | st k=>
   have f:=cq e.pre h.1
   obtain⟨vs',d,i⟩:=st.obj k a _ f c
   exact⟨vs',⟨f,d⟩,i⟩
 | fz k=>
   have f:=cq e.pre h.1
   obtain⟨vs',o,d,i⟩:=st.obj k a _ f c
   exact⟨vs',⟨f,o,d⟩,i⟩
section
variable{X:Cx}{a b c e:Expr}{pos:Pos}
def kd(f:fO):dQ:=λg S=>(f g S).bind λ(h,d)=>some ((h,.fr),d)
def MD{f:fO}(h:PE X e (tL (md X) f)):PE X e (tQ (md X) (kd f)):=i3 h λy H Q l=>by
 obtain⟨m,n,S,v,t,z,ok,e,q⟩:=l
 obtain⟨⟨d,s⟩,p,e⟩:=aq e
 obtain⟨i,rfl⟩:=bN e
 obtain⟨rfl,rfl⟩:=Prod.mk.inj i
 exact⟨m,n,S,d,s,ok,p,λg a u A x o w k r j=>q _ _ _ _ x o ⟨r,k⟩ j⟩
def q0(S:aA):D->Option (List D×Tag)
 |.tup d=>some (d,.tu)
 | .ref k=>match S[k]? with
   |some (.lst d)=>some (d,.st k)
   |some (.frz d)=>some (d,.fz k)
   |_=>none
 |_=>none
def bM(f:bc):dQ:=λh S=>(f h S).bind λ(d,g)=>(q0 g d).bind λp=>some (p,g)
def D_{M:Md}{ρ:List Addr}{S:aA}{H:Hp}{d:D}{v:V}{ds:List D}{t:Tag}(st:eS M ρ S H)(r:Rel M ρ H d v)(e:q0 S d=some (ds,t)):∃a vs,v=.ref a/\yo M ρ H a vs t/\aU M ρ H ds vs:=by
 cases r with
 |tup h i=>simp only[q0] at e;cases e;exact⟨_,_,rfl,gM.of h,i⟩
 | ref h=>
   simp only[q0] at e
   split at e
   · rename_i q
     cases e
     obtain⟨vs,g,f⟩:=st.obj _ _ _ h q
     exact⟨_,vs,rfl,⟨h,g⟩,f⟩
   · rename_i q
     cases e
     obtain⟨vs,o,g,f⟩:=st.obj _ _ _ h q
     exact⟨_,vs,rfl,⟨h,o,g⟩,f⟩
   · cases e
 |_=>simp only[q0,reduceCtorEq] at e
def MC{f:bc}(h:PE X e (tD (md X) f)):PE X e (tQ (md X) (bM f)):=i3 h λz H Q l=>by
 obtain⟨m,n,S,y,t,A,ok,e,q⟩:=l
 obtain⟨⟨d,s⟩,o,e⟩:=aq e
 obtain⟨⟨k,u⟩,j,e⟩:=aq e
 obtain⟨p,rfl⟩:=bN e
 obtain⟨rfl,rfl⟩:=Prod.mk.inj p
 refine⟨m,n,S,d,s,ok,o,λi v B x g r=> ?_⟩
 obtain⟨a,w,rfl,h1,h2⟩:=D_ g r j
 exact q _ _ _ _ x g h1 h2
def Jr{f:dQ}{p:Pos}(k:Gl X "len")(s:X.mg "len"=none)(v:PE X a (tQ (md X) f))(hs:starEach [a] X.env= [(false,eval a X.env)]:=by rfl):
  PE X (.Call (.Name "len" p) [a] [] pos) (tD (md X) λg S=>(f g S).bind λ(p,S1)=>some (.int p.1.length,S1)):=
 i3 (mV u5 k s PySem.boot_len (cC v eQ hs) (he:=hs)) λw H Q m=>by
  obtain⟨n,g,S,d,y,ok,e,q⟩:=m
  obtain⟨⟨⟨l,t⟩,S1⟩,u,e⟩:=aq e
  obtain⟨rfl,rfl⟩:=bN e
  refine⟨n,g,S,l,t,S1,ok,u,λj a i z x o h r=>⟨a,i,rfl,h.sq,?_⟩⟩
  have:=q _ (.int i.length) _ x o (by rw[←r.length];exact .int _)
  exact this
def jE(f:dQ):bc:=λg S=>(f g S).bind λ(p,d)=>some (.int p.1.length,d)
def tupQ(f:dQ):bc:=λg S=>(f g S).bind λ(p,d)=>some (.tup p.1,d)
def JU{f:dQ}{p:Pos}(o:Gl X "tuple")(y:X.mg "tuple"=none)(z:PE X a (tQ (md X) f))(hs:starEach [a] X.env= [(false,eval a X.env)]:=by rfl)(n:∀i S ds t j,f i S=some ((ds,t),j)->t.isL=true):
  PE X (.Call (.Name "tuple" p) [a] [] pos) (tD (md X) (tupQ f)):=
 i3 (j9 sM o y (by rfl) (cC z eQ hs) (he:=hs)) λB H Q u=>by
  obtain⟨v,i,S,d,j,ok,e,q⟩:=u
  obtain⟨⟨⟨ds,t⟩,A⟩,k,e⟩:=aq e
  obtain⟨rfl,rfl⟩:=bN e
  refine⟨v,i,S,ds,t,A,ok,k,λm a s C x w h r=>⟨a,s,rfl,.inl ⟨h.sqL (n _ _ _ _ _ k),λl g=> ?_⟩⟩⟩
  exact q _ _ _ (x.trans (bJ.laid g)) (w.lay g) (.tup bp (r.ext (bJ.laid g)))
def JL{f:fO}:∀g S ds t d,kd f g S=some ((ds,t),d)->t.isL=true:=λg S ds t d e=>by
 obtain⟨⟨h,j⟩,i,e⟩:=aq e
 cases e
 rfl
def ir(f:dQ):dQ:=λg S=>(f g S).bind λ(p,d)=>if p.2.isL=true then some (p,d) else none
def FF{f:dQ}:∀g S ds t d,ir f g S=some ((ds,t),d)->t.isL=true:=λg S ds t d e=>by
 obtain⟨⟨⟨h,k⟩,j⟩,i,e⟩:=aq e
 dsimp only at e
 split at e <;>cases e
 assumption
def LS{f:dQ}(h:PE X e (tQ (md X) f)):PE X e (tQ (md X) (ir f)):=i3 h λr H Q i=>by
 obtain⟨j,n,S,p,t,o,ok,e,q⟩:=i
 obtain⟨⟨⟨d,m⟩,l⟩,g,e⟩:=aq e
 dsimp only at e
 split at e
 ·obtain⟨k,rfl⟩:=bN e
  obtain⟨rfl,rfl⟩:=Prod.mk.inj k
  exact⟨j,n,S,d,m,l,ok,g,q⟩
 ·cases e
def Gs:List D->Option (List Bool)
 | []=>some []
 |.bl b::r=>(Gs r).bind λd=>some (b::d)
 |_::_=>none
theorem Dz{M:Md}{ρ:List Addr}{H:Hp}:∀{ds:List D} {vs:List V} {bs:List Bool},aU M ρ H ds vs->Gs ds=some bs->vs=bs.map V.bl
 | [],_,_,h,e=>by cases h;cases e;rfl
 | d::ds,_,_,h,e=>by
   cases d with
   | bl b=>
     simp only[Gs] at e
     obtain⟨g,f,e⟩:=aq e
     cases e
     cases h with
     | cons h i=>
       cases h
       rw[Dz i f]
       rfl
   |_=>cases e
def Ee(f:dQ):bc:=λg S=>(f g S).bind λ(p,d)=>if p.2.isL=true then(Gs p.1).bind λh=>some (.bl (h.all id),d) else none
def Me{f:dQ}{p:Pos}(z:X.calm=true)(j:Gl X "all")(u:X.mg "all"=none)(w:PE X a (tQ (md X) f))(hs:starEach [a] X.env= [(false,eval a X.env)]:=by rfl):
  PE X (.Call (.Name "all" p) [a] [] pos) (tD (md X) (Ee f)):=
 i3 (mV (A_ z) j u (by rfl) (cC w eQ hs) (he:=hs)) λB H Q m=>by
  obtain⟨n,o,S,d,C,ok,e,q⟩:=m
  obtain⟨⟨⟨k,t⟩,y⟩,v,e⟩:=aq e
  dsimp only at e
  split at e
  ·rename_i c
   obtain⟨i,l,e⟩:=aq e
   obtain⟨rfl,rfl⟩:=bN e
   refine⟨n,o,S,k,t,y,ok,v,λg a A F x s h r=>⟨a,i,rfl,?_,q _ _ _ x s (.bl _)⟩⟩
   rw[←Dz r l]
   exact h.sqL c
  ·cases e
def ES(S:aA)(T:String):D->Option Bool
 |.non=>some (T=="NoneType")
 |.bl _=>some (T=="bool" ||T=="int")
 |.int _=>some (T=="int")
 |.str _=>some (T=="str")
 |.tup _=>some (T=="tuple")
 | .ref k=>match S[k]? with
   |some (.lst _)=>some (T=="list")
   |some (.frz _)=>some (T=="list")
   |some (.dct _)=>some (T=="dict")
   |_=>none
 |.fn _=>none
def Ib(K:PySem.W.Frag)(T:String):Prop:=(PySem.W.kitOne K (.type "NoneType") (.type T)=some (T=="NoneType"))/\(PySem.W.kitOne K (.type "bool") (.type T)=some (T=="bool" ||T=="int"))/\(PySem.W.kitOne K (.type "int") (.type T)=some (T=="int"))/\(PySem.W.kitOne K (.type "str") (.type T)=some (T=="str"))∧
 (PySem.W.kitOne K (.type "tuple") (.type T)=some (T=="tuple"))/\(PySem.W.kitOne K (.type "list") (.type T)=some (T=="list"))/\(PySem.W.kitOne K (.type "dict") (.type T)=some (T=="dict"))
def kW(T:String)(f:bc):bc:=λh S=>(f h S).bind λ(d,g)=>(ES g T d).bind λk=>some (.bl k,g)
def Lu{T:String}{l:Expr}{f:bc}{p:Pos}(C:Ib X.K T)(A:Gl X "isinstance")(N:X.mg "isinstance"=none)(U:PE X a (tD (md X) f))(z:PE X l (tC (.ty T)))(hs:starEach [a,l] X.env= [(false,eval a X.env),(false,eval l X.env)]:=by rfl)(j:starEach [l] X.env= [(false,eval l X.env)]:=by rfl):
  PE X (.Call (.Name "isinstance" p) [a,l] [] pos) (tD (md X) (kW T f)):=
 i3 (mV B3 A N boot_isinstance (cC U (cC z eQ j) (by rw[hs,j])) (he:=by rw[hs,j]) (hpl:=by rw[j];rfl)) λZ H Q I=>by
  obtain⟨J,M,S,d,S',ok,e,q⟩:=I
  obtain⟨⟨L,W⟩,R,e⟩:=aq e
  obtain⟨k,i,e⟩:=aq e
  obtain⟨rfl,rfl⟩:=bN e
  obtain⟨w,P,F,Y,G,u,B⟩:=C
  refine⟨J,M,S,L,W,ok,R,λy v H' x s r=> ?_⟩
  have g:=q _ _ _ x s (.bl _)
  cases r with
  |non=>cases i;exact⟨_,_,_,_,rfl,.non,w,g⟩
  |bl=>cases i;exact⟨_,_,_,_,rfl,.bl _,P,g⟩
  |int=>cases i;exact⟨_,_,_,_,rfl,.int _,F,g⟩
  |str=>cases i;exact⟨_,_,_,_,rfl,.str _,Y,g⟩
  |tup h hs=>cases i;exact⟨_,_,_,_,rfl,.tup h,G,g⟩
  |fn=>cases i
  | ref h=>
    simp only[ES] at i
    split at i
    · rename_i n;cases i;obtain⟨t,m,_⟩:=s.obj _ _ _ h n;exact⟨_,_,_,_,rfl,.lst m,u,g⟩
    · rename_i n;cases i;obtain⟨t,o,m,_⟩:=s.obj _ _ _ h n;exact⟨_,_,_,_,rfl,.frz m,u,g⟩
    · rename_i n;cases i;obtain⟨t,m,_⟩:=s.obj _ _ _ h n;exact⟨_,_,_,_,rfl,.dK m,B,g⟩
    · cases i
abbrev FK:=List D->Option D
def BX(M:Md)(r:List V->Hp->VK->Prop)(o:FK):Prop:=∀{f:List Addr} {S:aA} {H:Hp} {h:List D} {d:D} {g:List V} {Q:VK},eS M f S H->aU M f H h g->o h=some d->(∀w,Rel M f H d w->Q w H)->r g H Q
def vg(o:FK)(f:fO):bc:=λi S=>(f i S).bind λ(h,g)=>(o h).bind λd=>some (d,g)
def Lb{r:List V->Hp->VK->Prop}{o:FK}{f:fO}(l:BX (md X) r o)(h:PE X e (J4 r (v5 (md X) f))):PE X e (tD (md X) (vg o f)):=i3 h λA H Q m=>by
 obtain⟨n,s,S,d,B,ok,e,q⟩:=m
 obtain⟨⟨p,v⟩,t,e⟩:=aq e
 obtain⟨z,u,e⟩:=aq e
 obtain⟨rfl,rfl⟩:=bN e
 exact⟨n,s,S,p,v,ok,t,λi y H1 x g k=>l g k u λw j=>q i w H1 x g j⟩
def Fe:FK
 | [.int i]=>some (.int (if i<0 then -i else i))
 |_=>none
def maxD:FK
 | [.int i,.int j]=>some (.int (if j>i then j else i))
 |_=>none
def minD:FK
 | [.int i,.int j]=>some (.int (if j<i then j else i))
 |_=>none
def intOfD:FK
 | [.int i]=>some (.int i)
 | [.bl k]=>some (.int (if k then 1 else 0))
 |_=>none
def Kw{M:Md}:BX M (λxs H Q=>∃i,xs= [.int i]/\Q (.int (if i<0 then -i else i)) H) Fe:=by
 intro h S H xs d g Q j r e q
 unfold Fe at e
 split at e <;>cases e
 cases r with|cons r f=>cases f;cases r;exact⟨_,rfl,q _ (.int _)⟩
def K6{M:Md}:BX M (λxs H Q=>∃i j,xs= [.int i,.int j]/\Q (.int (if j>i then j else i)) H) maxD:=by
 intro k S H xs d h Q l r e q
 unfold maxD at e
 split at e <;>cases e
 cases r with|cons r f=>cases f with|cons g f=>cases f;cases r;cases g;exact⟨_,_,rfl,q _ (.int _)⟩
def KS{M:Md}:BX M (λxs H Q=>∃i j,xs= [.int i,.int j]/\Q (.int (if j<i then j else i)) H) minD:=by
 intro k S H xs d h Q l r e q
 unfold minD at e
 split at e <;>cases e
 cases r with|cons r f=>cases f with|cons g f=>cases f;cases r;cases g;exact⟨_,_,rfl,q _ (.int _)⟩
def Ip{M:Md}:BX M (λxs H Q=>(∃i,xs= [.int i]/\Q (.int i) H)\/∃k,xs= [.bl k]/\Q (.int (if k then 1 else 0)) H) intOfD:=by
 intro h S H xs d g Q j r e q
 unfold intOfD at e
 split at e <;>cases e
 ·cases r with|cons r f=>cases f;cases r;exact .inl ⟨_,rfl,q _ (.int _)⟩
 ·cases r with|cons r f=>cases f;cases r;exact .inr ⟨_,rfl,q _ (.int _)⟩
def m4:List D->Option (List V)
 | []=>some []
 |d::r=>(vC d).bind λv=>(m4 r).bind λf=>some (v::f)
def qD{d:D}{v:V}(e:vC d=some v):fR v=true:=by
 cases d <;>simp[vC] at e <;>subst e <;>rfl
theorem se{M:Md}{ρ:List Addr}{H:Hp}:∀{ds:List D} {us vs:List V},aU M ρ H ds us->m4 ds=some vs->us=vs/\vs.all fR=true
 |_,_,_,.nil,e=>by cases e;exact⟨rfl,rfl⟩
 | _,_,_,.cons h hs,e=>by
   obtain⟨v,d,e⟩:=aq e
   obtain⟨vs,i,e⟩:=aq e
   cases e
   obtain⟨g,f⟩:=se hs i
   rw[lJ h d,g]
   exact⟨rfl,by rw[List.all_cons,qD d,f];rfl⟩
def DX(d:Bool)(f:bc)(g:dQ):bc:=λi S=>(f i S).bind λ(x,k)=>(g i k).bind λ(p,j)=>(vC x).bind λv=>(m4 p.1).bind λh=>some (.bl (if d then !CT v h else CT v h),j)
def uE{f:bc}{t:TE}(g:∀d H Q,tD (md X) f d H Q->t d H Q)(h:PT X e (CP t)):PT X e (tB (md X) (aI f)):=J5 h λd H Q ⟨j,m,S,k,i,ok,e,q⟩=>
 g _ _ _ ⟨j,m,S,.bl k,i,ok,qW e,λl v o x n r=>by cases r;exact⟨k,rfl,q _ _ x n⟩⟩
def FG{h:Bool}{f:bc}{g:dQ}:∀l H Q,tD (md X) (DX h f g) l H Q->Ft (KH X.K h) (tD (md X) f) (tQ (md X) g) l H Q:=λl H Q C=>by
 obtain⟨F,m,S,d,R,ok,e,q⟩:=C
 obtain⟨⟨x,o⟩,M,e⟩:=aq e
 obtain⟨⟨⟨z,t⟩,B⟩,A,e⟩:=aq e
 obtain⟨v,n,e⟩:=aq e
 obtain⟨P,N,e⟩:=aq e
 obtain⟨rfl,rfl⟩:=bN e
 refine⟨F,m,S,x,o,ok,M,λk u H1 p i s=>⟨k,m,o,z,t,B,ok.to p i,A,λw a L H2 I j r J=> ?_⟩⟩
 cases lJ s n
 obtain⟨G,y⟩:=se J N
 subst G
 exact⟨a,L,rfl,r.sq,qD n,y,q _ _ _ (p.trans I) j (.bl _)⟩
def My{f:bc}{g:dQ}(h:PE X a (tD (md X) f))(i:PE X b (tQ (md X) g))(d:behindInMarks .In b=false:=by rfl):PT X (.Compare a [.In] [b] pos) (tB (md X) (aI (DX false f g))):=uE FG (p5 BD h i d)
def JV{f:bc}{g:dQ}(h:PE X a (tD (md X) f))(i:PE X b (tQ (md X) g))(d:behindInMarks .NotIn b=false:=by rfl):PT X (.Compare a [.NotIn] [b] pos) (tB (md X) (aI (DX true f g))):=uE FG (p5 uC h i d)
end
inductive Out where
 |nx (Γ:cz) (S:aA)|bk (Γ:cz) (S:aA)|ct (Γ:cz) (S:aA)|rt (d:D) (S:aA)|rl (ds:List D) (S:aA)
abbrev cH:=cz->aA->Option Out
def vK(M:Md)(ρ:List Addr)(H:Hp)(D:Ends):Out->Prop
 |.nx f g=>∀b e c,bJ ρ H b c->Ok M b f g e c->D.nx e c
 |.bk f g=>∀b e c,bJ ρ H b c->Ok M b f g e c->D.bk e c
 |.ct f g=>∀b e c,bJ ρ H b c->Ok M b f g e c->D.ct e c
 |.rt d g=>∀b v c,bJ ρ H b c->eS M b g c->Rel M b c d v->D.rt v c
 |.rl i g=>∀b a h c,bJ ρ H b c->eS M b g c->H a=none->a∉b->c a=some (.lst h)->aU M b c i h->D.rt (.ref a) c
def vK.to{M:Md}{ρ c:List Addr}{H H1:Hp}{D:Ends}{o:Out}(h:vK M ρ H D o)(e:bJ ρ H c H1):vK M c H1 D o:=by
 cases o with
 |nx=>exact λb d f x ok=>h _ _ _ (e.trans x) ok
 |bk=>exact λb d f x ok=>h _ _ _ (e.trans x) ok
 |ct=>exact λb d f x ok=>h _ _ _ (e.trans x) ok
 |rt=>exact λb v f x g r=>h _ _ _ (e.trans x) g r
 |rl=>exact λb a l f x g i j k r=>h _ _ _ _ (e.trans x) g (e.grow _ i) j k r
def tS(M:Md)(g:cH):TS:=λD c H=>∃a b S o,Ok M a b S c H/\g b S=some o/\vK M a H D o
section
variable{X:Cx}{a b c e:Expr}{pos:Pos}{st:Stmt}{rest body other:List Stmt}
def eY:cH:=λd S=>some (.nx d S)
def LW:rO X [] (tS (md X) eY):=IJ D8 λD g H ⟨d,f,S,o,ok,e,q⟩=>by cases e;exact q _ _ _ bJ.refl ok
noncomputable def aC(f g:cH):cH:=λi S=>(f i S).bind λo=>match o with
 |.nx d h=>g d h
 |o=>some o
def DN{f g:cH}(l:PS X st (tS (md X) f))(k:rO X rest (tS (md X) g)):rO X (st::rest) (tS (md X) (aC f g)):=IJ (BS l k) λD v H n=>by
 obtain⟨p,r,S,o,ok,e,q⟩:=n
 obtain⟨j,s,e⟩:=aq e
 refine⟨p,r,S,j,ok,s,?_⟩
 cases j with
 |nx i t=>exact λd m H1 u h=>⟨d,i,t,o,h,e,q.to u⟩
 |bk=>cases e;exact q
 |ct=>cases e;exact q
 |rt=>cases e;exact q
 |rl=>cases e;exact q
def FH{f:cH}(d:PS X st (tS (md X) f)):rO X [st] (tS (md X) f):=D5 d
def never:cH:=λ_ _=>none
def JJ:PS X st (tS (md X) never):=AD B2 λD g H ⟨d,f,S,o,ok,e,q⟩=>by cases e
def wV(f:bc):cH:=λd S=>(f d S).bind λ(_,g)=>some (.nx d g)
def K9{f:bc}(h:PE X e (tD (md X) f))(hs:swapsWith e none pos.line X.env=pure false:=by rfl):PS X (.Expr e pos) (tS (md X) (wV f)):=AD (EH h hs) λD n H i=>by
 obtain⟨j,k,S,o,ok,e,q⟩:=i
 obtain⟨⟨d,m⟩,l,e⟩:=aq e
 cases e
 exact⟨j,k,S,d,m,ok,l,λg v p x st r=>q _ _ _ x (ok.to x st)⟩
noncomputable def bP(f:bc):cH:=λh S=>(f h S).bind λ(d,g)=>some (.rt d g)
def HZ{f:bc}(h:PE X e (tD (md X) f)):PS X (.Return (some e) pos) (tS (md X) (bP f)):=AD (Ce h) λD m H i=>by
 obtain⟨j,l,S,o,ok,e,q⟩:=i
 obtain⟨⟨d,k⟩,g,e⟩:=aq e
 cases e
 exact⟨j,l,S,d,k,ok,g,q⟩
noncomputable def EO(f:fO):cH:=λg S=>(f g S).bind λ(h,d)=>some (.rl h d)
def KL{f:fO}(h:PE X e (tL (md X) f)):PS X (.Return (some e) pos) (tS (md X) (EO f)):=AD (Ce h) λD m H i=>by
 obtain⟨j,l,S,o,ok,e,q⟩:=i
 obtain⟨⟨d,k⟩,g,e⟩:=aq e
 cases e
 exact⟨j,l,S,d,k,ok,g,q⟩
def dW(c:ix)(f g:cH):cH:=λd S=>(c d S).bind λ(k,h)=>if k=true then f d h else g d h
def Mp{h:ix}{f g:cH}(u:PT X c (tB (md X) h))(t:rO X body (tS (md X) f))(n:rO X other (tS (md X) g)):PS X (.If c body other pos) (tS (md X) (dW h f g)):=AD (Jy u t n) λD v H p=>by
 obtain⟨r,l,S,o,ok,e,q⟩:=p
 obtain⟨⟨k,m⟩,s,e⟩:=aq e
 refine⟨r,l,S,k,m,ok,s,λi H1 j d=> ?_⟩
 dsimp only at e
 split at e
 ·rename_i c
  rw[Qhq c]
  exact⟨i,l,m,o,ok.to j d,e,q.to j⟩
 ·rename_i c
  rw[Quq c]
  exact⟨i,l,m,o,ok.to j d,e,q.to j⟩
abbrev jS:=D->cz->aA->Option (cz×aA)
abbrev lU:=List D->cz->aA->Option (cz×aA)
def tG(M:Md)(g:jS):TG:=λv n H Q=>∃j m S d f l,Ok M j m S n H/\Rel M j H d v/\g d m S=some (f,l)/\∀h i k,bJ j H h k->Ok M h f l i k->Q i k
def Hy(M:Md)(g:lU):Dr:=λn o H Q=>∃i l S m f k,Ok M i l S o H/\aU M i H m n/\g m l S=some (f,k)/\∀h d j,bJ i H h j->Ok M h f k d j->Q d j
def JS{t t':TG}(h:PG X e t)(w:∀v f H Q,t' v f H Q->t v f H Q):PG X e t':=λd s f H v u Q I r q=>h d s f H v u Q I r (w _ _ _ _ q)
def HP{g:List Expr}{t t':Dr}(h:AR X g t)(w:∀v f H Q,t' v f H Q->t v f H Q):AR X g t':=λd s f H v u Q I r q=>h d s f H v u Q I r (w _ _ _ _ q)
def bS(i:Nat):jS:=λd f S=>some (f.set i (some d),S)
def DJ{i:Nat}(h:PG X e (mj i)):PG X e (tG (md X) (bS i)):=JS h λv m H Q f=>by
 obtain⟨k,l,S,d,g,j,ok,r,e,q⟩:=f
 cases e
 exact q _ _ _ bJ.refl ⟨ok.en.set r,ok.st⟩
def dy:lU:=λd f S=>match d with
 | []=>some (f,S)
 |_=>none
def aJ(f:jS)(g:lU):lU:=λk j S=>match k with
 |d::r=>(f d j S).bind λ(h,i)=>g r h i
 | []=>none
def KG:AR X [] (Hy (md X) dy):=HP ER λh l H Q d=>by
 obtain⟨i,j,S,k,f,g,ok,r,e,q⟩:=d
 cases r with
 |nil=>cases e;exact⟨rfl,q _ _ _ bJ.refl ok⟩
 |cons=>cases e
def J6{h:List Expr}{f:jS}{g:lU}(s:PG X e (tG (md X) f))(o:AR X h (Hy (md X) g))(hs:(assignEach (e::h) X.env).map (·.2)=assign e X.env::(assignEach h X.env).map (·.2):=by rfl):AR X (e::h) (Hy (md X) (aJ f g)):=
 HP (DI s o hs) λC G H Q v=>by
  obtain⟨w,x,S,F,l,z,ok,r,e,q⟩:=v
  cases r with
  |nil=>cases e
  | cons r t=>
    obtain⟨⟨d,m⟩,A,e⟩:=aq e
    refine⟨_,_,rfl,w,x,S,_,d,m,ok,r,A,λj u H1 n k=>⟨j,d,m,_,l,z,k,t.ext n,e,λp B H2 y i=>q _ _ _ (n.trans y) i⟩⟩
def jl(g:lU):jS:=λd f S=>match d with
 |.tup h=>g h f S
 |_=>none
def nG(n:Nat)(g:lU):lU:=λd f S=>if d.length=n then g d f S else none
def LK{f:List Expr}{k:Nat}{g:lU}{n:Nat}(t:X.calm=true)(h:AR X f (Hy (md X) g))(p:(assignEach f X.env).length=n:=by rfl)(i:(assignEach f X.env).findIdx? (·.1)=none:=by rfl):
  PG X (.Tuple f k pos) (tG (md X) (jl (nG n g))):=JS (G2 t h p i) λv u H Q ⟨m,o,S,d,j,s,ok,r,e,q⟩=>by
 cases r with
 | tup h l=>
   simp only[jl,nG] at e
   split at e
   · rename_i c
     exact⟨_,_,rfl,gM.of h,by rw[←l.length];exact c,m,o,S,_,j,s,ok,l,e,q⟩
   · cases e
 |_=>cases e
def pI(f:bc)(g:jS):cH:=λi S=>(f i S).bind λ(d,k)=>(g d i k).bind λ(h,j)=>some (.nx h j)
def HC{f:bc}{g:jS}:∀D k H,tS (md X) (pI f g) D k H->AS (tD (md X) f) (tG (md X) g) D k H:=λD k H w=>by
 obtain⟨x,m,S,o,ok,e,q⟩:=w
 obtain⟨⟨d,n⟩,z,e⟩:=aq e
 obtain⟨⟨l,u⟩,t,e⟩:=aq e
 cases e
 exact⟨x,m,S,d,n,ok,z,λj v H1 p h r=>⟨j,m,n,d,l,u,ok.to p h,r,t,λs A H2 y i=>q _ _ _ (p.trans y) i⟩⟩
def Lo{d:Expr}{f:bc}{g:jS}(he:PE X e (tD (md X) f))(j:PG X d (tG (md X) g))(hs:swapsWithSole [d] e pos.line X.env=pure false:=by rfl)(h:swappedStores [d] e X.env=pure none:=by rfl)
  (i:(assignEach [d] X.env).map (·.2)= [assign d X.env]:=by rfl):PS X (.Assign [d] e pos) (tS (md X) (pI f g)):=AD (Gw he j hs h i) HC
noncomputable def a_(i:Nat)(f:bc):cH:=λg S=>(f g S).bind λ(d,h)=>some (.nx (g.set i (some d)) h)
def Jk{i:Nat}{f:bc}(h:PS X st (AS (tD (md X) f) (mj i))):PS X st (tS (md X) (a_ i f)):=AD h λD t H m=>by
 obtain⟨n,p,S,o,ok,e,q⟩:=m
 obtain⟨⟨d,s⟩,r,e⟩:=aq e
 cases e
 exact⟨n,p,S,d,s,ok,r,λl v H1 j g k=>q _ _ _ j ⟨(ok.en.ext j).set k,g⟩⟩
abbrev sm:=cz->aA->Option ((List D×(aA->Prop))×aA)
def Walks(M:Md)(J:It)(ρ:List Addr)(H:Hp)(ds:List D)(W:aA->Prop):Prop:=∀(i:Nat) (f:List Addr) (j:aA) (h:Hp),bJ ρ H f h->eS M f j h->W j→
 (∀d,ds[i]?=some d->J.go i h/\∀x g,J.yld i h x g->bJ f h f g/\eS M f j g/\Rel M f g d x)/\(i=ds.length->J.stop i h)
def tI(M:Md)(f:sm):TI:=λl H R=>∃i j S k W h,Ok M i j S l H/\f j S=some ((k,W),h)/\∀d J g,bJ i H d g->eS M d h g->Walks M J d g k W->R J g
def J8{g:Expr}{t t':TI}(h:PI X g e t)(w:∀f H R,t' f H R->t f H R):PI X g e t':=λd s f H R I q=>h d s f H R I (w _ _ _ q)
def G0{y l:Expr}{r:TE}(z:PE X l r):PI X y l (λn H R=>r n H λx H1=>∃a,x=.ref a/\((∃xs,gx X.K H1 a xs)/\R (Lz X.K a) H1\/(∃xs,gM X.K H1 a xs)/\R (L7 X.K a) H1)):=by
 intro i s n H R I h
 refine bZ (z i s n H _ I h) λv d A=> ?_
 obtain⟨x,H1,f,t,m⟩:=A
 obtain⟨a,e,m⟩:=m
 subst e
 cases t
 rcases m with⟨⟨xs,k⟩,q⟩|⟨⟨xs,k⟩,q⟩
 ·obtain⟨g,u,p,w⟩:=f.list k
  refine wpAny_pyIter_list p.isList ?_
  refine⟨d.heap.objs.size,[d.heap.objs.size],_,_,H1,rfl,f.kept (t':=d.toks) λb o e=>Qcq _ e,Be a _,⟨_,Qrq _ rfl,rfl,rfl⟩,λb j=> ?_,q⟩
  have e:b=d.heap.objs.size:=by simpa using j
  subst e
  exact f.fpOk (Qmq _) (f.hok.fresh (Qmq _))
 ·obtain⟨g,u,p,w⟩:=f.tuple k
  refine wpAny_pyIter_tuple (show d.heap.IsTuple a g.toArray from p) ?_
  refine⟨d.heap.objs.size,[d.heap.objs.size],_,_,H1,rfl,f.kept (t':=d.toks) λb o e=>Qcq _ e,zh a _,⟨_,Qrq _ rfl,rfl,rfl⟩,λb j=> ?_,q⟩
  have e:b=d.heap.objs.size:=by simpa using j
  subst e
  exact f.fpOk (Qmq _) (f.hok.fresh (Qmq _))
def m7(f:dQ):sm:=λh S=>(f h S).bind λ(p,g)=>some ((p.1,λd=>p.2.stays d p.1),g)
def Mj{J l:Expr}{f:dQ}(L:PE X l (tQ (md X) f)):PI X J l (tI (md X) (m7 f)):=J8 (G0 L) λY H R K=>by
 obtain⟨M,N,S,U,W,Z,ok,e,q⟩:=K
 obtain⟨⟨⟨y,t⟩,Q⟩,P,e⟩:=aq e
 obtain⟨G,rfl⟩:=bN e
 obtain⟨rfl,rfl⟩:=Prod.mk.inj G
 refine⟨M,N,S,y,t,Q,ok,P,λF a C H' x st h r=>⟨a,rfl,?_⟩⟩
 cases c:t.isL with
 | true=>
   refine .inl ⟨⟨C,h.sqL c⟩,q _ _ _ x st λi s I H2 A j w=> ?_⟩
   obtain⟨g,u,n⟩:=h.to r A j w
   have k:=u.sqL c
   refine⟨λd p=> ?_,λB=>⟨g,k,by rw[B,n.length];exact Qmq _⟩⟩
   obtain⟨v,o,z⟩:=n.get p
   refine⟨⟨g,v,k,o⟩,λx H3 m=> ?_⟩
   obtain⟨rfl,m⟩:=m
   have:=m g k
   rw[o] at this
   cases this
   exact⟨bJ.refl,j,z⟩
 | false=>
   refine .inr ⟨⟨C,h.sqT c⟩,q _ _ _ x st λi s I H2 A j w=> ?_⟩
   obtain⟨g,u,n⟩:=h.to r A j w
   have k:=u.sqT c
   refine⟨λd p=> ?_,λB=>⟨g,k,by rw[B,n.length];exact Qmq _⟩⟩
   obtain⟨v,o,z⟩:=n.get p
   refine⟨⟨g,v,k,o⟩,λx H3 m=> ?_⟩
   obtain⟨rfl,m⟩:=m
   have:=m g k
   rw[o] at this
   cases this
   exact⟨bJ.refl,j,z⟩
def mC(lo hi:Int):List D:=(List.range (hi-lo).toNat).map λ(i:Nat)=>D.int (lo+(i:Int))
def sx(f:bc):sm:=λh S=>(f h S).bind λ(d,g)=>match d with
 |.int j=>if -(2^62)<=j/\j<2^62 then some ((mC 0 j,λ_=>True),g) else none
 |_=>none
def AK{M:Md}{ρ:List Addr}{H:Hp}{lo hi:Int}:Walks M (JW lo (hi-lo).toNat) ρ H (mC lo hi) (λ_=>True):=λi l o H2 p g w=>by
 unfold mC
 refine⟨λd h=> ?_,λhi=>by rw[lQm,QVq] at hi;exact Nat.le_of_eq hi.symm⟩
 rw[gQm] at h
 obtain⟨k,m,rfl⟩:=oQm.mp h
 have f:=(gQs.mp m)
 obtain⟨f,j⟩:=f
 rw[List.getElem_range] at j
 subst j
 rw[QVq] at f
 refine⟨f,λx H3 n=> ?_⟩
 obtain⟨rfl,rfl⟩:=n
 exact⟨bJ.refl,g,.int _⟩
def Kf{m a:Expr}{f:bc}{p:Pos}(i:Gl X "range")(s:X.mg "range"=none)(u:PE X a (tD (md X) f))(hs:starEach [a] X.env= [(false,eval a X.env)]:=by rfl):PI X m (.Call (.Name "range" p) [a] [] pos) (tI (md X) (sx f)):=
 J8 (BI i s (iG u rC hs) hs) λA H R n=>by
  obtain⟨ρ,o,S,z,W,B,ok,e,q⟩:=n
  obtain⟨⟨d,v⟩,t,e⟩:=aq e
  dsimp only at e
  split at e
  ·rename_i j
   split at e
   ·rename_i h
    obtain⟨k,rfl⟩:=bN e
    obtain⟨rfl,rfl⟩:=Prod.mk.inj k
    refine⟨ρ,o,S,[.int j],v,ok,by unfold ar av;rw[t];rfl,λg y w x st r=> ?_⟩
    cases r with
    | cons r l=>
      cases l
      cases r
      refine⟨j,rfl,h.1,h.2,q _ _ _ x st ?_⟩
      have:=AK (M:=md X) (ρ:=g) (H:=w) (lo:=0) (hi:=j)
      rw[Int.sub_zero] at this
      exact this
   ·cases e
  ·cases e
open Classical in
def forL(g:jS)(b:cH)(W:aA->Prop):List D->cz->aA->Option Out
 | [],Γ,S=>if W S then some (.nx Γ S) else none
 |d ::ds,Γ,S=>if W S then(g d Γ S).bind λ(i,j)=>(b i j).bind λo=>match o with
    |.nx f h=>forL g b W ds f h
    |.ct f h=>forL g b W ds f h
    |.bk f h=>some (.nx f h)
    |.rt x h=>some (.rt x h)
    |.rl x h=>some (.rl x h)
  else none
def qQ(i:sm)(g:jS)(b:cH):cH:=λd S=>(i d S).bind λ(p,f)=>forL g b p.2 p.1 d f
def L4{Z j:Expr}{i:sm}{g:jS}{f:cH}(hp:PassesOwn (model X.prog X.w) X.A X.env X.xe)(hc:X.calm=true)(hi:PI X Z j (tI (md X) i))(hg:PG X Z (tG (md X) g))(hb:rO X body (tS (md X) f))
  (hs:∀x,foldedSetIterable j X.env x=pure x:=by intro _;rfl):PS X (.For Z j body [] pos) (tS (md X) (qQ i g f)):=AD (GG hp hc hi hg hb hs) λD σ H ⟨ρ,Γ,S,o,ok,e,q⟩=>by
 obtain⟨⟨⟨h,W⟩,S1⟩,e1,e⟩:=aq e
 refine⟨ρ,Γ,S,h,W,S1,ok,e1,λu J H1 x1 Y wk=> ?_⟩
 have M:=q.to x1
 have N:=ok.to x1 Y
 refine⟨λi m t B=>m=h.length-i/\i<=h.length/\∃d r z,bJ u H1 d B/\Ok (md X) d r z t B/\forL g f W (h.drop i) r z=some o,⟨h.length,by simp,Nat.zero_le _,u,Γ,S1,bJ.refl,N,e⟩,?_⟩
 rintro i m a1 H2 ⟨rfl,hi,d,r,z,x2,ok2,e2⟩
 by_cases v:i<h.length
 ·have hd:h[i]?=some h[i]:=gQe v
  rw[QWq v] at e2
  unfold forL at e2
  split at e2
  ·rename_i w
   obtain⟨w1,w2⟩:=wk i d z H2 x2 ok2.st w
   obtain⟨go,P⟩:=w1 _ hd
   refine .inr ⟨go,λt B=>∃n p L,bJ u H1 n B/\Ok (md X) n p L t B/\forL g f W (h.drop (i+1)) p L=some o,λt B ⟨n,p,L,h1,h2,h3⟩=>⟨h.length-(i+1),by omega,rfl,v,n,p,L,h1,h2,h3⟩,λx H3 hy=> ?_⟩
   obtain⟨x3,Q,r3⟩:=P x H3 hy
   obtain⟨⟨F,S4⟩,e4,e5⟩:=aq e2
   refine⟨d,r,z,_,F,S4,ok2.to x3 Q,r3,e4,λR a0 H4 x4 U=> ?_⟩
   obtain⟨o5,e6,C⟩:=aq e5
   have G:=(x2.trans x3).trans x4
   refine⟨R,F,S4,o5,U,e6,?_⟩
   cases o5 with
   |nx s y=>exact λl I H6 K k=>⟨l,s,y,G.trans K,k,C⟩
   |ct s y=>exact λl I H6 K k=>⟨l,s,y,G.trans K,k,C⟩
   |bk s y=>cases C;exact λl I H6 K k=>M _ _ _ (G.trans K) k
   |rt d6 y=>cases C;exact M.to G
   |rl d6 y=>cases C;exact M.to G
  ·cases e2
 ·have e3:i=h.length:=by omega
  subst e3
  rw[List.drop_length] at e2
  unfold forL at e2
  split at e2
  ·rename_i w
   cases e2
   obtain⟨w1,w2⟩:=wk h.length d z H2 x2 ok2.st w
   exact .inl ⟨w2 rfl,M _ _ _ x2 ok2⟩
  ·cases e2
end
section
variable{M:Md}{ρ:List Addr}{H:Hp}{b:Addr}{us ws:List V}
mutual
theorem Rel.off(a:H b=some (.lst us)):∀{d:D} {v:V},Rel M ρ H d v->Rel M ρ (upd H b (.lst ws)) d v
 |_,_,.non=>.non
 |_,_,.bl x=>.bl x
 |_,_,.int i=>.int i
 |_,_,.str x=>.str x
 |_,_,.tup h hs=>.tup (by rw[aM (B0 h a (by intro z;cases z))];exact h) (aU.off a hs)
 |_,_,.ref h=>.ref h
 |_,_,.fn h=>.fn h
theorem aU.off(a:H b=some (.lst us)):∀{ds:List D} {vs:List V},aU M ρ H ds vs->aU M ρ (upd H b (.lst ws)) ds vs
 |_,_,.nil=>.nil
 |_,_,.cons h hs=>.cons (Rel.off a h) (aU.off a hs)
end
theorem eS.off{S:aA}(st:eS M ρ S H)(e:H b=some (.lst us))(n:b∉ρ):eS M ρ S (upd H b (.lst ws)):=⟨st.len,st.nd,λk a o j l=>by
 have q:=st.obj k a o j l
 have f:a≠b:=λz=>n (z▸mQg j)
 cases o with
 |lst m=>obtain⟨h,c,d⟩:=q;exact⟨h,by rw[aM f];exact c,d.off e⟩
 |frz m=>obtain⟨h,o,c,d⟩:=q;exact⟨h,o,by rw[aM f];exact c,d.off e⟩
 |dct g=>obtain⟨i,c,d⟩:=q;exact⟨i,by rw[aM f];exact c,d.imp λ_ _ r=>r.off e⟩
 |fdc g=>obtain⟨i,o,c,d⟩:=q;exact⟨i,o,by rw[aM f];exact c,d.imp λ_ _ r=>r.off e⟩⟩
def En.off{a:cz}{c:L2.St}(h:En M ρ H a c)(g:H b=some (.lst us)):En M ρ (upd H b (.lst ws)) a c:=⟨h.len,λi d q=>by obtain⟨v,f,e⟩:=h.get i d q;exact⟨v,f,e.off g⟩⟩
def bJ.off{d:List Addr}{f:Hp}(e:bJ d f ρ H)(g:f b=none)(u:HO):bJ d f ρ (upd H b u):=⟨e.pre,e.new,λa o h c=>by rw[aM (c_ h g)];exact e.keep a o h c,λa h=>by
 by_cases z:a=b
 ·subst z;exact g
 ·rw[aM z] at h;exact e.grow a h⟩
end
def lR(js:List (Option Nat))(a:cz):cz:=js.map λo=>o.bind λj=>a.getD j none
def En.sig{M:Md}{ρ:List Addr}{H:Hp}{a:cz}{c:L2.St}(js:List (Option Nat))(h:En M ρ H a c):En M ρ H (lR js a) (iP js c) where
 len:=by unfold lR iP;rw[lQm,lQm]
 get:=λi d q=>by
  unfold lR at q
  unfold iP
  rw[gQm] at q⊢
  cases e:js[i]? with
  |none=>rw[e] at q;cases q
  | some o=>
    rw[e] at q
    cases o with
    |none=>cases q
    | some j=>
      have b:a.getD j none=some d:=QdQ q
      have k:a[j]?=some (some d):=by
        rw[Qlq] at b
        cases z:a[j]? with
        |none=>rw[z] at b;cases b
        |some y=>rw[z] at b;exact congrArg some b
      obtain⟨v,g,f⟩:=h.get j d k
      refine⟨v,?_,f⟩
      show some (c.getD j none)=some (some v)
      rw[Qlq,g]
      rfl
open Classical in
def kM(g:jS)(t:ix)(f:bc)(W:aA->Prop):List D->cz->aA->List D->Option (List D×aA)
 | [],Γ,S,acc=>if W S then some (acc,S) else none
 |d ::ds,Γ,S,acc=>if W S then(g d Γ S).bind λ(a,e)=>(t a e).bind λ(k,b)=>
    if k=true then(f a b).bind λ(y,c)=>if acc.length<sizeLine then kM g t f W ds a c (acc++ [y]) else none
    else kM g t f W ds a b acc
  else none
def bW(js:List (Option Nat))(i:sm)(g:jS)(t:ix)(f:bc):fO:=λa S=>(i a S).bind λ(p,b)=>kM g t f p.2 p.1 (lR js a) b []
section
variable{M:Md}
def Ds{js:List (Option Nat)}{i:sm}{g:jS}{t:ix}{f:bc}:∀Z H Q,tL M (bW js i g t f) Z H Q->DM js (tI M i) (tG M g) (tB M t) (tD M f) Z H Q:=λZ H Q qq=>by
 obtain⟨ρ,Γ,S,rs,S',ok,e,q⟩:=qq
 obtain⟨⟨⟨j,W⟩,S1⟩,e1,e⟩:=aq e
 refine⟨ρ,Γ,S,j,W,S1,ok,e1,λl J H1 x1 P wk D K=> ?_⟩
 have n1:D∉l:=cX x1 P K
 have a1:Ok M l (lR js Γ) S1 (iP js Z) (upd H1 D (.lst [])):=⟨((ok.en.ext x1).ext (bJ.laid K)).sig js,P.lay K⟩
 refine⟨λi m B d=>m=j.length-i/\i<=j.length/\∃c s L b h,bJ l H1 c d/\Ok M c s L B d/\D∉c/\d D=some (.lst h)/\aU M c d b h/\kM g t f W (j.drop i) s L b=some (rs,S'),
  ⟨j.length,by simp,Nat.zero_le _,l,_,S1,[],[],bJ.laid K,a1,n1,bp,.nil,e⟩,?_⟩
 rintro i m a8 H2 ⟨rfl,hi,c,s,L,b,h,x2,ok2,n2,hD2,racc,e2⟩
 by_cases G:i<j.length
 ·have hd:j[i]?=some j[i]:=gQe G
  rw[QWq G] at e2
  unfold kM at e2
  split at e2
  ·rename_i w
   obtain⟨w1,w2⟩:=wk i c L H2 x2 ok2.st w
   obtain⟨go,a2⟩:=w1 _ hd
   refine .inr ⟨go,λB d=>∃a r A b h,bJ l H1 a d/\Ok M a r A B d/\D∉a/\d D=some (.lst h)/\aU M a d b h/\kM g t f W (j.drop (i+1)) r A b=some (rs,S'),
    λB d ⟨a,r,A,b,h,h1,h2,h3,h4,h5,h6⟩=>⟨j.length-(i+1),by omega,rfl,G,a,r,A,b,h,h1,h2,h3,h4,h5,h6⟩,λx H3 hy=> ?_⟩
   obtain⟨x3,a3,r3⟩:=a2 x H3 hy
   obtain⟨⟨n,S4⟩,e4,e5⟩:=aq e2
   refine⟨c,s,L,_,n,S4,ok2.to x3 a3,r3,e4,λa5 a7 H4 x4 p=> ?_⟩
   obtain⟨⟨k,S5⟩,e6,U⟩:=aq e5
   refine⟨a5,n,S4,k,S5,p,e6,λR H5 X N=> ?_⟩
   have o:=(x3.trans x4).trans X
   have C:∀{a d},bJ c H2 a d->d D=some (.lst h)/\D∉a:=λ{a d} x=>⟨x.keep _ _ hD2 (.inl n2),λm=>(x.new _ m).elim n2 λz=>by rw[z] at hD2;cases hD2⟩
   dsimp only at U⊢
   split at U
   ·rename_i ck
    rw[Qhq ck]
    obtain⟨⟨y,S6⟩,e8,Y⟩:=aq U
    refine⟨R,n,S5,y,S6,p.to X N,e8,λa0 v H6 x6 a4 r6=> ?_⟩
    have I:=o.trans x6
    obtain⟨u,n6⟩:=C I
    have F:=racc.ext I
    dsimp only at Y
    split at Y
    ·rename_i cl
     refine⟨h,u,by rw[←racc.length];exact cl,a0,n,S6,b++ [y],h++ [v],(x2.trans I).off K _,⟨((p.en.ext X).ext x6).off u,a4.off u n6⟩,n6,bp,(F.append (.cons r6 .nil)).off u,Y⟩
    ·cases Y
   ·rename_i ck
    rw[Quq ck]
    obtain⟨a6,n5⟩:=C o
    exact⟨R,n,S5,b,h,x2.trans o,p.to X N,n5,a6,racc.ext o,U⟩
  ·cases e2
 ·have e3:i=j.length:=by omega
  subst e3
  rw[List.drop_length] at e2
  unfold kM at e2
  split at e2
  ·rename_i w
   obtain⟨rfl,rfl⟩:=bN e2
   obtain⟨w1,w2⟩:=wk j.length c L H2 x2 ok2.st w
   exact .inl ⟨w2 rfl,q c D h H2 (x1.trans x2) ok2.st (x1.grow _ K) n2 hD2 racc⟩
  ·cases e2
end
section
variable{X:Cx}{a b c e:Expr}{pos:Pos}{st:Stmt}{rest body other:List Stmt}
def cM:ix:=λ_ S=>some (true,S)
def HJ{f:List Expr}{t t':TT}(h:kT X f t)(w:∀g H Q,t' g H Q->t g H Q):kT X f t':=λd s g H Q I q=>h d s g H Q I (w _ _ _ q)
def Lv:kT X [] (tB (md X) cM):=HJ Gy λh H Q ⟨f,g,S,k,d,ok,e,q⟩=>by cases e;exact q _ _ bJ.refl ok.st
def LJ{f:ix}(d:PT X c (tB (md X) f)):kT X [c] (tB (md X) f):=FR d
def GV{N:List Str}{js:List (Option Nat)}{d:Scope}{l:List (Str×Addr)}{m h j:Expr}{k:List Expr}{i:sm}{g:jS}{t:ix}{f:bc}
  (S:aP X N js d l) (p:X.calm=true) (hi:PI X m h (tI (md X) i))
  (o:∀C s H fp,PG (aF X N d l C s H fp) m (tG (md X) g)) (n:∀C s H fp,kT (aF X N d l C s H fp) k (tB (md X) t)) (he:∀C s H fp,PE (aF X N d l C s H fp) j (tD (md X) f))
  (hs:∀x,foldedSetIterable h X.env x=pure x:=by intro _;rfl):PE X (.ListComp j [⟨m,h,k,0⟩] d pos) (tL (md X) (bW js i g t f)):=i3 (EC S p hi o n he hs) Ds
def Hb{N:List Str}{js:List (Option Nat)}{h:Scope}{w:List (Str×Addr)}{v j p k:Expr}{r:List Expr}{i:sm}{g:jS}{t:ix}{f:bc}{n:Nat}{l:Pos}
  (S:aP X N js h w) (hc:X.calm=true) (hi:PI X v j (tI (md X) i))
  (L:∀C s H fp,PG (aF X N h w C s H fp) v (tG (md X) g)) (K:∀C s H fp,kT (aF X N h w C s H fp) r (tB (md X) t)) (he:∀C s H fp,PE (aF X N h w C s H fp) p (tD (md X) f)) (y:PG X k (mj n))
  (hs:∀x,foldedSetIterable j X.env x=pure x:=by intro _;rfl) (B:swapsWithSole [k] (.ListComp p [⟨v,j,r,0⟩] h pos) l.line X.env=pure true:=by rfl)
  (P:(assignEach [k] X.env).map (·.2)= [assign k X.env]:=by rfl):PS X (.Assign [k] (.ListComp p [⟨v,j,r,0⟩] h pos) l) (tS (md X) (a_ n (dH (bW js i g t f)))):=
 AD (Ec S hc hi L K he y hs B P) λD σ H Z=>by
  obtain⟨I,Γ,S,o,ok,e,q⟩:=Z
  obtain⟨⟨d,S1⟩,e1,e⟩:=aq e
  cases e
  obtain⟨⟨G,U⟩,Q,e3⟩:=aq e1
  obtain⟨rfl,rfl⟩:=bN e3
  refine Ds σ H _ ⟨I,Γ,S,G,U,ok,Q,λm a M J x st R Y ha W=> ?_⟩
  have z:=W.pre (List.prefix_append m [a])
  have A:=st.box (o:=.lst G) Y ⟨M,ha,z⟩
  have F:bJ I H (m++ [a]) J:=⟨x.pre.trans (List.prefix_append _ _),λb u=>by
   rcases mQa.mp u with u|u
   ·exact x.new b u
   ·rw[Qfq] at u;subst u;exact .inr R,x.keep,x.grow⟩
  refine q (m++ [a]) _ J F ⟨((ok.en.ext F).set (.ref ?_)),A⟩
  rw[←st.len,QQq (Qmq _)]
  simp
end
inductive Res where
 |d (x:D)|l (ds:List D)
abbrev cW:=List D->aA->Option (Res×aA)
def F6(M:Md)(ρ:List Addr)(H b:Hp)(v:V):Res->Prop
 |.d x=>Rel M ρ b x v
 |.l e=>∃a c,v=.ref a/\H a=none/\a∉ρ/\b a=some (.lst c)/\aU M ρ b e c
def dP(M:Md)(n:Nat)(F:cW):Sp:=λf H Q _=>∃c S d r e,d.length=n/\aU M c H d f/\eS M c S H/\F d S=some (r,e)/\∀a v b,bJ c H a b->eS M a e b->F6 M a H b v r->Q v b
mutual
def bL(m:Nat):D->Bool
 |.ref k=>decide (k<m)
 |.tup a=>bz m a
 |_=>true
def bz(m:Nat):List D->Bool
 | []=>true
 |d::ds=>bL m d&&bz m ds
end
def BJ(m:Nat):O->Bool
 |.lst b=>bz m b
 |.frz b=>bz m b
 |.dct a=>bz m (a.map (·.2))
 |.fdc a=>bz m (a.map (·.2))
section
variable{M:Md}{ρ ρ':List Addr}{H:Hp}
mutual
theorem Rel.cut(e:ρ <+: ρ'):∀{d:D} {v:V},Rel M ρ' H d v->bL ρ.length d=true->Rel M ρ H d v
 |_,_,.non,_=>.non
 |_,_,.bl x,_=>.bl x
 |_,_,.int i,_=>.int i
 |_,_,.str x,_=>.str x
 |_,_,.tup h hs,b=>.tup h (aU.cut e hs (by simpa [bL] using b))
 | _,_,.ref (k:=k) (a:=a) h,b=>.ref (by
   obtain⟨t,rfl⟩:=e
   have c:k<ρ.length:=by simpa [bL] using b
   rwa [QHq c] at h)
 |_,_,.fn h,_=>.fn h
theorem aU.cut(e:ρ <+: ρ'):∀{ds:List D} {vs:List V},aU M ρ' H ds vs->bz ρ.length ds=true->aU M ρ H ds vs
 |_,_,.nil,_=>.nil
 | _,_,.cons h hs,b=>by
   have a:=b
   simp only[bz,QDq,QCq] at a
   exact .cons (Rel.cut e h a.1) (aU.cut e hs a.2)
end
theorem bB.cut(e:ρ <+: ρ'):∀{l:List (Key×D)} {kv:List (Key×V)},bB M ρ' H l kv->bz ρ.length (l.map (·.2))=true->bB M ρ H l kv
 | [],_,h,_=>h
 | (_,_)::_,_,⟨v,t,q,h,hs⟩,b=>by
   have a:=b
   simp only[bz,QDq,QCq] at a
   exact⟨v,t,q,h.cut e a.1,bB.cut e hs a.2⟩
theorem mI.cut{a:Addr}{o:O}(e:ρ <+: ρ')(h:mI M ρ' H a o)(b:BJ ρ.length o=true):mI M ρ H a o:=by
 cases o with
 |lst j=>obtain⟨i,d,c⟩:=h;exact⟨i,d,c.cut e b⟩
 |frz j=>obtain⟨i,o,d,c⟩:=h;exact⟨i,o,d,c.cut e b⟩
 |dct f=>obtain⟨g,d,c⟩:=h;exact⟨g,d,c.cut e b⟩
 |fdc f=>obtain⟨g,o,d,c⟩:=h;exact⟨g,o,d,c.cut e b⟩
mutual
theorem Rel.low:∀{d:D} {v:V},Rel M ρ H d v->bL ρ.length d=true
 |_,_,.non=>rfl
 |_,_,.bl x=>rfl
 |_,_,.int i=>rfl
 |_,_,.str x=>rfl
 |_,_,.tup h hs=>by simp only[bL];exact aU.low hs
 |_,_,.ref h=>by simp only[bL];exact Qeq (gQs.mp h).1
 |_,_,.fn h=>rfl
theorem aU.low:∀{ds:List D} {vs:List V},aU M ρ H ds vs->bz ρ.length ds=true
 |_,_,.nil=>rfl
 |_,_,.cons h hs=>by simp only[bz];rw[Rel.low h,aU.low hs];rfl
end
theorem bB.low:∀{l:List (Key×D)} {kv:List (Key×V)},bB M ρ H l kv->bz ρ.length (l.map (·.2))=true
 | [],_,_=>rfl
 |(_,_)::_,_,⟨v,t,q,h,hs⟩=>by simp only[QDq,bz];rw[h.low,bB.low hs];rfl
theorem mI.low{a:Addr}{o:O}(h:mI M ρ H a o):BJ ρ.length o=true:=by
 cases o with
 |lst g=>obtain⟨f,d,b⟩:=h;exact b.low
 |frz g=>obtain⟨f,o,d,b⟩:=h;exact b.low
 |dct c=>obtain⟨e,d,b⟩:=h;exact b.low
 |fdc c=>obtain⟨e,o,d,b⟩:=h;exact b.low
end
def ku(S a:aA):Prop:=S.length<=a.length/\∀k o,k<S.length->a[k]?=some o->S[k]?=some o\/BJ S.length o=true
open Classical in
def settle(S:aA)(d:D)(a:aA):Option (Res×aA):=if ku S a then match d with
  | .ref k=>if k<S.length then some (.d (.ref k),a.take S.length) else match a[k]? with
    |some (.lst ds)=>if bz S.length ds=true then some (.l ds,a.take S.length) else none
    |_=>none
  |d=>if bL S.length d=true then some (.d d,a.take S.length) else none
 else none
open Classical in
def de(S:aA)(ds:List D)(a:aA):Option (Res×aA):=if ku S a/\bz S.length ds=true then some (.l ds,a.take S.length) else none
noncomputable def eJ(n:Nat)(b:cH):cW:=λc S=>(b (c.map some++List.replicate (n-c.length) none) S).bind λo=>match o with
 |.nx _ a=>settle S .non a
 |.rt d a=>settle S d a
 |.rl l a=>de S l a
 |_=>none
def eS.clean{M:Md}{ρ b:List Addr}{S j:aA}{H e:Hp}(st:eS M ρ S H)(x:bJ ρ H b e)(i:eS M b j e)(c:ku S j):eS M ρ (j.take S.length) e/\bJ ρ H ρ e:=by
 refine⟨⟨?_,st.nd,λk a o g f=> ?_⟩,List.prefix_refl _,λ_ h=>.inl h,x.keep,x.grow⟩
 ·rw[Qxq,st.len]
  have:=c.1
  omega
 ·have l:k<ρ.length:=(gQs.mp g).1
  have d:k<S.length:=st.len▸l
  rw[List.getElem?_take_of_lt d] at f
  refine(i.obj k a o (cq x.pre g) f).cut x.pre ?_
  rcases c.2 k o d f with z|z
  ·exact(st.obj k a o g z).low
  ·rw[st.len];exact z
def tw{M:Md}{ρ b:List Addr}{S t h:aA}{H g:Hp}{d:D}{v:V}{r:Res}(st:eS M ρ S H)(x:bJ ρ H b g)(f:eS M b t g)(l:Rel M b g d v)(e:settle S d t=some (r,h)):
  bJ ρ H ρ g/\eS M ρ h g/\F6 M ρ H g v r:=by
 unfold settle at e
 split at e
 ·rename_i c
  obtain⟨o,q⟩:=st.clean x f c
  cases d with
  | ref k=>
    dsimp only at e
    split at e
    · rename_i n
      obtain⟨rfl,rfl⟩:=bN e
      exact⟨q,o,l.cut x.pre (by simp only[bL];rw[st.len];exact Qeq n)⟩
    · rename_i n
      split at e
      · rename_i B A
        split at e
        · rename_i i
          obtain⟨rfl,rfl⟩:=bN e
          cases l with
          | ref p=>
            rename_i a
            obtain⟨y,z,w⟩:=f.obj k a _ p A
            have s:a∉ρ:=λm=>by
              obtain⟨j,u⟩:=List.getElem?_of_mem m
              have:=jO f.nd (cq x.pre u) p
              subst this
              exact n (st.len▸(gQs.mp u).1)
            refine⟨q,o,a,y,rfl,(x.new a (mQg p)).resolve_left s,s,z,w.cut x.pre (by rw[st.len];exact i)⟩
        · cases e
      · cases e
  | _=>
    dsimp only at e
    split at e
    · rename_i i
      obtain⟨rfl,rfl⟩:=bN e
      exact⟨q,o,l.cut x.pre (by rw[st.len];exact i)⟩
    · cases e
 ·cases e
def yM{M:Md}{ρ b:List Addr}{S h f:aA}{H d:Hp}{ds:List D}{a:Addr}{vs:List V}{r:Res}(st:eS M ρ S H)(x:bJ ρ H b d)(g:eS M b h d)(j:H a=none)(k:a∉b)(n:d a=some (.lst vs))(i:aU M b d ds vs)(e:de S ds h=some (r,f)):
  bJ ρ H ρ d/\eS M ρ f d/\F6 M ρ H d (.ref a) r:=by
 unfold de at e
 split at e
 ·rename_i c
  obtain⟨l,o⟩:=st.clean x g c.1
  obtain⟨rfl,rfl⟩:=bN e
  exact⟨o,l,a,vs,rfl,j,λm=>k (x.pre.subset m),n,i.cut x.pre (by rw[st.len];exact c.2)⟩
 ·cases e
def Cu{M:Md}{ρ:List Addr}{H:Hp}{ds:List D}{vs:List V}{N:List Str}(r:aU M ρ H ds vs):En M ρ H (ds.map some++List.replicate (N.length-ds.length) none) (L2.start N vs) where
 len:=by unfold L2.start;simp[r.length]
 get:=λi d q=>by
  unfold L2.start
  by_cases c:i<ds.length
  ·rw[QHq (by rw[lQm];exact c),gQm] at q
   obtain⟨g,e,a⟩:=oQm.mp q
   cases a
   obtain⟨v,f,b⟩:=r.get e
   exact⟨v,by rw[QHq (by rw[lQm,←r.length];exact c),gQm,f];rfl,b⟩
  ·rw[QQq (by rw[lQm];omega)] at q
   have:=mQg q
   rw[List.mem_replicate] at this
   cases this.2
section
variable{P:Program}{w:World}{K:PySem.W.Frag}{mg:Str->Option Value}{base:Heap}
def bf{x c:Str}{st:Stmt}{f:Addr}{B:FuncData}{N ps:List Str}{k:Nat}{b:cH}(F:dU K x c st f B)(S:aE N ps (az st))
  (i:∀(g:Value) (A:Around) (outer:List Env) (s:Shared) (H:Hp) (E:XK),eK k (A.deeper (envOfC c (az st) s.heap.objs.size f g))→
   rO (yT dA P w K mg base N c (az st) f g A outer s H E).nox (eV st) (tS ⟨K,mg⟩ b)):bj P w K mg base dA (k+1) f B ps (dP ⟨K,mg⟩ ps.length (eJ N.length b)):=by
 refine F.ok S (λC H Q E ⟨I,S,R,r,Z,G,y,_⟩=>by rw[←y.length];exact G) λg A outer s H C Q E X ⟨I,S,R,r,Z,G,y,t,M,q⟩=>⟨_,i g A outer s H E X,?_⟩
 obtain⟨o,e1,e⟩:=aq M
 refine⟨I,_,S,o,⟨Cu y,t⟩,e1,?_⟩
 cases o with
 |nx a0 J=>exact λj Y L m z=>by obtain⟨n,l,p⟩:=tw t m z.st .non e;exact q _ _ _ n l p
 |rt d J=>exact λj v L m h u=>by obtain⟨n,l,p⟩:=tw t m h u e;exact q _ _ _ n l p
 |rl d J=>exact λj a C L m h U W ha u=>by obtain⟨n,l,p⟩:=yM t m h U W ha u e;exact q _ _ _ n l p
 |bk=>cases e
 |ct=>cases e
end
section
variable{X:Cx}{x:Str}{k n:Nat}{f:Addr}{fd:FuncData}{ps:List Str}{F:cW}{e:Expr}{es:List Expr}{g:fO}{p pos:Pos}
noncomputable def ax(F:cW)(g:fO):bc:=λc S=>(g c S).bind λ(h,b)=>(F h b).bind λ(r,a)=>match r with
 |.d x=>some (x,a)
 |.l _=>none
def eW(F:cW)(g:fO):fO:=λh S=>(g h S).bind λ(a,c)=>(F a c).bind λ(r,b)=>match r with
 |.d _=>none
 |.l a=>some (a,b)
def nA(n:Nat)(g:fO):Prop:=∀c S a b,g c S=some (a,b)->a.length=n
def rS:nA 0 av:=λ_ _ _ _ e=>by cases e;rfl
def gF{n:Nat}{f:bc}{g:fO}(h:nA n g):nA (n+1) (ar f g):=λm S o c e=>by
 obtain⟨⟨d,l⟩,j,e⟩:=aq e
 obtain⟨⟨b,i⟩,a,e⟩:=aq e
 cases e
 rw[Qnq,h _ _ _ _ a]
def Am{M:Md}(B:nA n g):∀i H Q,tD M (ax F g) i H Q->Cg (dP M n F) [] E0 (v5 M g) i H Q:=λi H Q w=>by
 obtain⟨y,z,S,d,J,ok,e,q⟩:=w
 obtain⟨⟨h,m⟩,j,e⟩:=aq e
 obtain⟨⟨r,u⟩,t,e⟩:=aq e
 refine⟨y,z,S,h,m,ok,j,λc I H1 G a o=>⟨c,m,h,r,u,B _ _ _ _ j,by rw[List.append_nil];exact o,a,t,λs v H2 A b C=> ?_⟩⟩
 cases r with
 |d x=>obtain⟨rfl,rfl⟩:=bN e;exact q _ _ _ (G.trans A) b C
 |l h=>cases e
def EU{M:Md}(I:nA n g):∀j H Q,tL M (eW F g) j H Q->Cg (dP M n F) [] E0 (v5 M g) j H Q:=λj H Q A=>by
 obtain⟨B,C,S,d,K,ok,e,q⟩:=A
 obtain⟨⟨i,o⟩,m,e⟩:=aq e
 obtain⟨⟨r,z⟩,y,e⟩:=aq e
 refine⟨B,C,S,i,o,ok,m,λh w H1 s b t=>⟨h,o,i,r,z,I _ _ _ _ m,by rw[List.append_nil];exact t,b,y,λu v H2 G c J=> ?_⟩⟩
 cases r with
 |d x=>cases e
 | l i=>
   obtain⟨rfl,rfl⟩:=bN e
   obtain⟨a,w,rfl,fr,na,ha,rr⟩:=J
   exact q _ _ _ _ (s.trans G) c (s.grow _ fr) na ha rr
def GI(G:bj X.prog X.w X.K X.mg X.base dA k f fd ps (dP (md X) n F))(h:eK k X.A)(j:Gl X x)(b:X.mg x=some (.ref f))(c:PySem.W.keepIn X.K (.ref f)=true)(i:Binds X.K fd ps [])(d:PA X (e::es) (v5 (md X) g))(l:nA n g)
  (a:(x==("__debug__":Str))=false:=by decide) (he:starEach (e::es) X.env=(false,eval e X.env)::starEach es X.env:=by rfl) (hpl:(backTo pos (starEach es X.env)).any (·.1)=false:=by rfl):
  PE X (.Call (.Name x p) (e::es) [] pos) (tD (md X) (ax F g)):=i3 (zI G h j b c i .nil C6 d a he hpl) (Am l)
def GT(G:bj X.prog X.w X.K X.mg X.base dA k f fd ps (dP (md X) n F))(h:eK k X.A)(j:Gl X x)(b:X.mg x=some (.ref f))(c:PySem.W.keepIn X.K (.ref f)=true)(i:Binds X.K fd ps [])(d:PA X (e::es) (v5 (md X) g))(l:nA n g)
  (a:(x==("__debug__":Str))=false:=by decide) (he:starEach (e::es) X.env=(false,eval e X.env)::starEach es X.env:=by rfl) (hpl:(backTo pos (starEach es X.env)).any (·.1)=false:=by rfl):
  PE X (.Call (.Name x p) (e::es) [] pos) (tL (md X) (eW F g)):=i3 (zI G h j b c i .nil C6 d a he hpl) (EU l)
end
def hJ{α:Type}(xs:List α)(lo hi:Option Int):List α:=(xs.drop (HT.dY xs.length 0 lo)).take (HT.dY xs.length xs.length hi-HT.dY xs.length 0 lo)
def aU.cut3{M:Md}{ρ:List Addr}{H:Hp}{ds:List D}{vs:List V}{lo hi:Option Int}(h:aU M ρ H ds vs):aU M ρ H (hJ ds lo hi) (yp vs lo hi):=by
 unfold hJ yp
 rw[h.length]
 exact(h.drop _).take _
def E7{α:Type}{xs:List α}{lo hi:Option Int}(b:HT.dY xs.length 0 lo=0)(a:HT.dY xs.length xs.length hi=xs.length):hJ xs lo hi=xs:=by
 unfold hJ
 rw[b,a]
 simp
abbrev Hz:=cz->aA->Option (Option Int×aA)
def JQ(M:Md)(f:Hz):TO:=λg H Q=>∃d e S o c,Ok M d e S g H/\f e S=some (o,c)/\∀a b,bJ d H a b->eS M a c b->Q o b
section
variable{X:Cx}{a b c e:Expr}{pos:Pos}{st:Stmt}
def qc:Hz:=λ_ S=>some (none,S)
def pQ(f:bc):Hz:=λh S=>(f h S).bind λ(d,g)=>match d with
 |.int i=>some (some i,g)
 |_=>none
def L9{o:Option Expr}{t t':TO}(h:PO X o t)(w:∀f H Q,t' f H Q->t f H Q):PO X o t':=λd s f H Q I q=>h d s f H Q I (w _ _ _ q)
def KJ:PO X none (JQ (md X) qc):=L9 Ep λh H Q ⟨f,g,S,o,d,ok,e,q⟩=>by cases e;exact q _ _ bJ.refl ok.st
def K4{f:bc}(h:PE X e (tD (md X) f)):PO X (some e) (JQ (md X) (pQ f)):=L9 (EI h) λn H Q i=>by
 obtain⟨j,k,S,o,p,ok,e,q⟩:=i
 obtain⟨⟨d,m⟩,l,e⟩:=aq e
 dsimp only at e
 split at e
 ·obtain⟨rfl,rfl⟩:=bN e
  refine⟨j,k,S,_,m,ok,l,λg v s x st r=> ?_⟩
  cases r
  exact⟨_,rfl,q _ _ x st⟩
 ·cases e
def pS(f:bc)(lo hi:Hz):bc:=λg S=>(f g S).bind λ(d,k)=>(lo g k).bind λ(l,i)=>(hi g i).bind λ(h,j)=>match d with
 |.tup m=>some (.tup (hJ m l h),j)
 |_=>none
def JM{lo hi:Option Expr}{I:Pos}{f:bc}{l h:Hz}(he:PE X e (tD (md X) f))(N:PO X lo (JQ (md X) l))(R:PO X hi (JQ (md X) h)):PE X (.Subscript e (.Slice lo hi none I) pos) (tD (md X) (pS f l h)):=
 i3 (C1 Eu he N R) λZ H Q M=>by
  obtain⟨P,s,S,d,S',ok,e,q⟩:=M
  obtain⟨⟨x,C⟩,W,e⟩:=aq e
  obtain⟨⟨F,A⟩,L,e⟩:=aq e
  obtain⟨⟨y,U⟩,Y,e⟩:=aq e
  cases x with
  | tup z=>
    dsimp only at e
    obtain⟨rfl,rfl⟩:=bN e
    refine⟨P,s,S,_,C,ok,W,λo v H1 u g J=>⟨o,s,C,F,A,ok.to u g,L,λm H2 t n=>⟨m,s,A,y,U,(ok.to u g).to t n,Y,λK H3 w i=> ?_⟩⟩⟩
    have j:=(u.trans t).trans w
    have G:=J.ext (t.trans w)
    cases G with
    | tup B k=>
      refine⟨_,_,rfl,gM.of B,λc=> ?_,λc p r=> ?_⟩
      · have:hJ z F y=z:=E7 (by rw[k.length];exact c.1) (by rw[k.length];exact c.2)
        rw[this] at q
        exact q _ _ _ j i (.tup B k)
      · exact q _ _ _ (j.trans (bJ.laid r)) (i.lay r) (.tup bp (k.cut3.ext (bJ.laid r)))
  |_=>cases e
open Classical in
def Bc(f g:dQ):fO:=λh S=>(f h S).bind λ(p,i)=>(g h i).bind λ(r,d)=>if p.2.isM=true/\r.2.isM=true/\p.2.stays d p.1/\p.1.length+r.1.length<=sizeLine then some (p.1++r.1,d) else none
def Lw{f g:dQ}(P:PE X a (tQ (md X) f))(z:PE X b (tQ (md X) g)):PE X (.BinOp a .Add b pos) (tL (md X) (Bc f g)):=i3 (oO GA P z) λU H Q J=>by
 obtain⟨K,o,S,d,W,ok,e,q⟩:=J
 obtain⟨⟨⟨C,t⟩,u⟩,N,e⟩:=aq e
 obtain⟨⟨⟨L,w⟩,I⟩,G,e⟩:=aq e
 dsimp only at e
 split at e
 ·rename_i c
  obtain⟨rfl,rfl⟩:=bN e
  refine⟨K,o,S,C,t,u,ok,N,λl a R H1 v k B y=>⟨l,o,u,L,w,I,ok.to v k,G,λA b F H2 r h x s=> ?_⟩⟩
  obtain⟨m,M,n⟩:=B.to y r h c.2.2.1
  have i:=v.trans r
  refine⟨_,_,m,F,rfl,rfl,M.sqM c.1,x.sqM c.2.1,by rw[←n.length,←s.length];exact c.2.2.2,λp j=> ?_⟩
  exact q _ _ _ _ (i.trans (bJ.laid j)) (h.lay j) (i.grow _ j) (cX i h j) bp ((n.append s).ext (bJ.laid j))
 ·cases e
open Classical in
def Eb(f:dQ)(g:bc):fO:=λh S=>(f h S).bind λ(p,i)=>(g h i).bind λ(r,d)=>match r with
 |.int k=>if p.2.isM=true/\p.2.stays d p.1/\ -(2^63)<=k/\k<2^63/\p.1.length*k.toNat<=sizeLine then some ((List.replicate k.toNat p.1).flatten,d) else none
 |_=>none
def Mc{f:dQ}{g:bc}(N:PE X a (tQ (md X) f))(z:PE X b (tD (md X) g)):PE X (.BinOp a .Mult b pos) (tL (md X) (Eb f g)):=i3 (oO F7 N z) λR H Q I=>by
 obtain⟨J,s,S,d,U,ok,e,q⟩:=I
 obtain⟨⟨⟨C,t⟩,v⟩,M,e⟩:=aq e
 obtain⟨⟨r,G⟩,F,e⟩:=aq e
 cases r with
 | int k=>
   dsimp only at e
   split at e
   · rename_i c
     obtain⟨rfl,rfl⟩:=bN e
     refine⟨J,s,S,C,t,v,ok,M,λm a P H1 x l B y=>⟨m,s,v,_,G,ok.to x l,F,λA w H2 u h L=> ?_⟩⟩
     obtain⟨n,K,o⟩:=B.to y u h c.2.1
     have i:=x.trans u
     cases L
     refine⟨_,k,n,rfl,rfl,K.sqM c.1,c.2.2.1,c.2.2.2.1,by rw[←o.length];exact c.2.2.2.2,λp j=> ?_⟩
     exact q _ _ _ _ (i.trans (bJ.laid j)) (h.lay j) (i.grow _ j) (cX i h j) bp ((o.rep _).ext (bJ.laid j))
   · cases e
 |_=>cases e
open Classical in
def gP(f:dQ):bc:=λg S=>(f g S).bind λ(p,d)=>if p.2.isL=true/\p.2.stays d p.1 then some (.bl (!p.1.isEmpty),d) else none
def Fg{f:dQ}:∀k H Q,tD (md X) (gP f) k H Q->Ft (CC X.K) (tQ (md X) f) (tL (md X) (cN av)) k H Q:=λk H Q x=>by
 obtain⟨y,m,S,d,J,ok,e,q⟩:=x
 obtain⟨⟨⟨w,t⟩,l⟩,B,e⟩:=aq e
 dsimp only at e
 split at e
 ·rename_i c
  obtain⟨rfl,rfl⟩:=bN e
  refine⟨y,m,S,w,t,l,ok,B,λj a C H1 o i v r=>⟨j,m,l,[],l,ok.to o i,rfl,λu b F H2 n g G I s A=> ?_⟩⟩
  obtain⟨h,z,p⟩:=v.to r n g c.2
  cases A
  refine⟨a,b,h,rfl,rfl,z.sqL c.1,gx.of s,?_⟩
  rw[←p.isEmpty]
  exact q _ _ _ (o.trans n) g (.bl _)
 ·cases e
def IY:PE X (.List [] pos) (tL (md X) (cN av)):=Ii rC
def JX{f:dQ}{p:Pos}(d:X.A.units<cLine)(g:PE X a (tQ (md X) f)):PT X (.Compare a [.NotEq] [.List [] p] pos) (tB (md X) (aI (gP f))):=uE Fg (p5 (B_ d) g IY (DA _))
def eS.putL{M:Md}{ρ:List Addr}{S:aA}{H:Hp}{k:Nat}{a:Addr}{ds h:List D}{ws:List V}(st:eS M ρ S H)(d:ρ[k]?=some a)(f:S[k]?=some (.lst ds))(r:aU M ρ H h ws):eS M ρ (S.set k (.lst h)) (upd H a (.lst ws))/\bJ ρ H ρ (upd H a (.lst ws)):=by
 obtain⟨j,g,l⟩:=st.obj k a _ d f
 exact st.put d f ⟨ws,bp,r.off g⟩ λx i=>by rw[g] at i;cases i;exact id
def xW(m:List D->List D->Option (List D×D))(f:bc)(g:fO):bc:=λj S=>(f j S).bind λ(x,i)=>match x with
 | .ref k=>(g j i).bind λ(l,h)=>match i[k]?,h[k]? with
   |some (.lst _),some (.lst ds)=>(m ds l).bind λ(n,d)=>some (d,h.set k (.lst n))
   |_,_=>none
 |_=>none
def GQ(M:Md)(r:V->List V->Hp->VK->Prop)(m:List D->List D->Option (List D×D)):Prop:=∀{f:List Addr} {H:Hp} {a:Addr} {l i k:List D} {d:D} {j h:List V} {Q:VK},H a=some (.lst j)->aU M f H l j->aU M f H i h->m l i=some (k,d)→
 (∀g w,aU M f H k g->Rel M f H d w->Q w (upd H a (.lst g)))->r (.ref a) h H Q
def Ji{m:List D->List D->Option (List D×D)}{r:V->List V->Hp->VK->Prop}{f:bc}{g:fO}(P:GQ (md X) r m):∀t H Q,tD (md X) (xW m f g) t H Q->JO X.K "list" r (tD (md X) f) (v5 (md X) g) t H Q:=λt H Q U=>by
 obtain⟨W,y,S,d,S',ok,e,q⟩:=U
 obtain⟨⟨x,B⟩,Z,e⟩:=aq e
 cases x with
 | ref k=>
   dsimp only at e
   obtain⟨⟨ys,N⟩,M,e⟩:=aq e
   dsimp only at e
   split at e
   · rename_i I ds s j
     obtain⟨⟨es,d'⟩,e3,e⟩:=aq e
     obtain⟨rfl,rfl⟩:=bN e
     refine⟨W,y,S,_,B,ok,Z,λp v H1 C h G=> ?_⟩
     cases G with
     | ref A=>
       rename_i a
       obtain⟨n,R,_⟩:=h.obj k a _ A s
       refine⟨.inl ⟨rfl,n,gx.of R⟩,p,y,B,ys,N,ok.to C h,M,λJ us H2 z i Y=> ?_⟩
       have l:=cq z.pre A
       obtain⟨vs,L,F⟩:=i.obj k a _ l j
       refine P L F Y e3 λws w rw rd=> ?_
       obtain⟨o,u⟩:=i.putL l j rw
       exact q _ _ _ ((C.trans z).trans u) o (rd.ext u)
   · cases e
 |_=>cases e
def kc:List D->List D->Option (List D×D):=λd f=>match f with
 | [y]=>if d.length<sizeLine then some (d++ [y],.non) else none
 |_=>none
def F9{M:Md}:GQ M Ab kc:=by
 intro n H a p m o d h l Q k g f e q
 unfold kc at e
 split at e
 ·split at e
  ·rename_i i
   obtain⟨rfl,rfl⟩:=bN e
   cases f with
   | cons f j=>
     cases j
     exact⟨a,h,_,rfl,rfl,k,by rw[←g.length];exact i,q _ _ (g.append (.cons f .nil)) .non⟩
  ·cases e
 ·cases e
def IW{f:bc}{g:bc}{o:Expr}{h d:Pos}(l:PE X o (tD (md X) f))(m:PE X e (tD (md X) g))(i:attributeBase o "append" X.env (eval o X.env)=eval o X.env:=by rfl) (k:((backTo d (starEach [e] X.env)).all (λx=> !x.1)&&(backToKw d (keywordEach [] X.env)).all (λx=>x.1.isSome)
   &&decide ([e].length+([]:List Keyword).length+(if ([]:List Keyword).isEmpty then 0 else 1)<30))=true:=by rfl)
  (j:(h.endLine==d.line)=true:=by rfl) (hs:starEach [e] X.env= [(false,eval e X.env)]:=by rfl):PE X (.Call (.Attribute o "append" h) [e] [] d) (tD (md X) (xW kc f (ar g av))):=
 i3 (ub PySem.F.plainAttrs_list PySem.F.slot_list_append PySem.F.type_list_append nY l (iG m rC hs) i k j hs) (Ji F9)
end
section
variable{X:Cx}{a b c e:Expr}{pos:Pos}{st:Stmt}
def qu:List D->List D->Option (List D×D):=λd f=>match f with
 | [.int i]=>if -(2^63)<=i/\i<2^63 then(seqIndex? i d.length).bind λk=>(d[k]?).bind λy=>some (d.eraseIdx k,y) else none
 |_=>none
def CW{M:Md}:GQ M Dc qu:=by
 intro t H a s x u d m w Q o f g e q
 unfold qu at e
 split at e
 ·split at e
  ·rename_i i h
   obtain⟨k,j,e⟩:=aq e
   obtain⟨y,p,e⟩:=aq e
   obtain⟨rfl,rfl⟩:=bN e
   cases g with
   | cons g n=>
     cases n
     cases g
     obtain⟨v,r,l⟩:=f.get p
     rw[f.length] at j
     exact⟨a,m,i,k,v,rfl,rfl,o,h.1,h.2,j,r,q _ _ (f.eraseIdx k) l⟩
  ·cases e
 ·cases e
def J9{f:bc}{g:bc}{o:Expr}{h d:Pos}(l:PE X o (tD (md X) f))(m:PE X e (tD (md X) g))(i:attributeBase o "pop" X.env (eval o X.env)=eval o X.env:=by rfl) (k:((backTo d (starEach [e] X.env)).all (λx=> !x.1)&&(backToKw d (keywordEach [] X.env)).all (λx=>x.1.isSome)
   &&decide ([e].length+([]:List Keyword).length+(if ([]:List Keyword).isEmpty then 0 else 1)<30))=true:=by rfl)
  (j:(h.endLine==d.line)=true:=by rfl) (hs:starEach [e] X.env= [(false,eval e X.env)]:=by rfl):PE X (.Call (.Attribute o "pop" h) [e] [] d) (tD (md X) (xW qu f (ar g av))):=
 i3 (ub PySem.F.plainAttrs_list PySem.F.slot_list_pop PySem.F.type_list_pop Co l (iG m rC hs) i k j hs) (Ji CW)
def DG(f:bc)(g:dQ):bc:=λi S=>(f i S).bind λ(x,h)=>match x with
 | .ref k=>(g i h).bind λ(p,d)=>match h[k]?,d[k]? with
   |some (.lst _),some (.lst ds)=>if p.2.isM=true/\ds.length+p.1.length<=sizeLine then some (.non,d.set k (.lst (ds++p.1))) else none
   |_,_=>none
 |_=>none
def Iv{f:bc}{g:dQ}:∀r H Q,tD (md X) (DG f g) r H Q->JO X.K "list" Ax (tD (md X) f) (Cp (tQ (md X) g) Gi) r H Q:=λr H Q R=>by
 obtain⟨U,u,S,d,S',ok,e,q⟩:=R
 obtain⟨⟨x,A⟩,Z,e⟩:=aq e
 cases x with
 | ref k=>
   dsimp only at e
   obtain⟨⟨⟨ys,t⟩,N⟩,M,e⟩:=aq e
   dsimp only at e
   split at e
   · rename_i G ds p j
     split at e
     · rename_i c
       obtain⟨rfl,rfl⟩:=bN e
       refine⟨U,u,S,_,A,ok,Z,λo v H1 B h F=> ?_⟩
       cases F with
       | ref z=>
         rename_i a
         obtain⟨m,P,_⟩:=h.obj k a _ z p
         refine⟨.inl ⟨rfl,m,gx.of P⟩,o,u,A,ys,t,N,ok.to B h,M,λI b Y H2 w i C y=> ?_⟩
         have l:=cq w.pre z
         obtain⟨L,W,s⟩:=i.obj k a _ l j
         refine⟨a,b,L,Y,rfl,rfl,W,C.sqM c.1,by rw[←s.length,←y.length];exact c.2,?_⟩
         obtain⟨n,J⟩:=i.putL l j (s.append y)
         exact q _ _ _ ((B.trans w).trans J) n .non
     · cases e
   · cases e
 |_=>cases e
def Jf{f:bc}{g:dQ}{o:Expr}{h d:Pos}(l:PE X o (tD (md X) f))(m:PE X e (tQ (md X) g))(i:attributeBase o "extend" X.env (eval o X.env)=eval o X.env:=by rfl) (k:((backTo d (starEach [e] X.env)).all (λx=> !x.1)&&(backToKw d (keywordEach [] X.env)).all (λx=>x.1.isSome)
   &&decide ([e].length+([]:List Keyword).length+(if ([]:List Keyword).isEmpty then 0 else 1)<30))=true:=by rfl)
  (j:(h.endLine==d.line)=true:=by rfl) (hs:starEach [e] X.env= [(false,eval e X.env)]:=by rfl):PE X (.Call (.Attribute o "extend" h) [e] [] d) (tD (md X) (DG f g)):=
 i3 (ub PySem.F.plainAttrs_list PySem.F.slot_list_extend PySem.F.type_list_extend AY l (cC m eQ hs) i k j hs) Iv
def E3(f g:bc):jS:=λd h S=>(f h S).bind λ(x,m)=>(g h m).bind λ(y,l)=>match x,y with
 | .ref k,.int i=>match l[k]? with
   |some (.lst ds)=>(yP ds.length i).bind λj=>some (h,l.set k (.lst (ds.set j d)))
   |_=>none
 |_,_=>none
def KQ{f g:bc}:∀v s H Q,tG (md X) (E3 f g) v s H Q->Js (tD (md X) f) (tD (md X) g) Fs v s H Q:=λv s H Q L=>by
 obtain⟨M,w,S,d,W,S',ok,r,e,q⟩:=L
 obtain⟨⟨x,C⟩,R,e⟩:=aq e
 obtain⟨⟨y,K⟩,J,e⟩:=aq e
 cases x with
 | ref k=>
   cases y with
   | int i=>
     dsimp only at e
     split at e
     · rename_i Z z
       obtain⟨j,U,e⟩:=aq e
       obtain⟨rfl,rfl⟩:=bN e
       refine⟨M,w,S,_,C,ok,R,λp Y H1 F n m=>⟨p,w,C,_,K,ok.to F n,J,λG v2 H2 A h P=> ?_⟩⟩
       cases P
       have m:=m.ext A
       cases m with
       | ref B=>
         obtain⟨I,N,u⟩:=h.obj k _ _ B z
         have l:=F.trans A
         obtain⟨o,t⟩:=h.putL B z (aU.set (r.ext l) j u)
         exact⟨_,I,i,j,rfl,rfl,N,by rw[←u.length];exact U,q _ _ _ (l.trans t) ((ok.to l h).to t o)⟩
     · cases e
   |_=>cases e
 |_=>cases e
def Mb{o i:Expr}{f g:bc}(d:PE X o (tD (md X) f))(hi:PE X i (tD (md X) g))
  (h:∀v,assign (.Subscript o i pos) X.env v=(do
   let ov←holding [v] (eval o X.env)
   let iv←holding [v,ov] (eval i X.env)
   standAt pos
   holding [v,ov,iv] (setItem ov iv v)
   release [v,ov,iv] []):=by intro _;rfl):PG X (.Subscript o i pos) (tG (md X) (E3 f g)):=JS (FL d hi set_list h) KQ
def JT(f g h:bc):cH:=λd S=>(f d S).bind λ(x,p)=>(g d p).bind λ(y,l)=>match x,y with
 | .ref k,.int i=>match l[k]? with
   | some (.lst ds)=>if 0<=i then(ds[i.toNat]?).bind λz=>(h d l).bind λ(w,o)=>match z,w,o[k]? with
     |.int m,.int n,some (.lst es)=>(yP es.length i).bind λj=>some (.nx d (o.set k (.lst (es.set j (.int (m+n))))))
     |_,_,_=>none
     else none
   |_=>none
 |_,_=>none
def KW{o i e:Expr}{f g h:bc}{t:Pos}(ho:PE X o (tD (md X) f))(hi:PE X i (tD (md X) g))(he:PE X e (tD (md X) h))
  (B:∀A C new,augStore i A C new=(do holding [new,A,C] (setItem A C new);release [new,A,C] [];pure .next):=by intros;rfl):PS X (.AugAssign (.Subscript o i t) .Add e pos) (tS (md X) (JT f g h)):=
 AD (Fm ho hi Df he Hj set_list B) λD σ H qq=>by
  obtain⟨ρ,M,S,o,ok,e,q⟩:=qq
  obtain⟨⟨x,Y⟩,e1,e⟩:=aq e
  obtain⟨⟨y,Q⟩,e2,e⟩:=aq e
  cases x with
  | ref k=>
    cases y with
    | int i=>
      dsimp only at e
      split at e
      · rename_i ds hs
        split at e
        · rename_i hi
          obtain⟨z,e3,e⟩:=aq e
          obtain⟨⟨w,W⟩,e4,e⟩:=aq e
          cases z with
          | int m=>
            cases w with
            | int n=>
              cases d:W[k]? with
              |none=>rw[d] at e;cases e
              | some o3=>
                rw[d] at e
                cases o3 with
                | lst es=>
                  dsimp only at e
                  obtain⟨j,e5,e⟩:=aq e
                  cases e
                  refine⟨ρ,M,S,_,Y,ok,e1,λL v1 H1 Z I G=>⟨L,M,Y,_,Q,ok.to Z I,e2,λJ v2 H2 U r r2=> ?_⟩⟩
                  cases r2
                  have G:=G.ext U
                  cases G with
                  | ref B=>
                    have s:=Z.trans U
                    obtain⟨vs,h3,h4⟩:=r.obj k _ _ B hs
                    obtain⟨v,h5,h6⟩:=h4.get e3
                    cases h6
                    refine⟨_,vs,i.toNat,_,rfl,by rw[Int.toNat_of_nonneg hi],gx.of h3,h5,J,M,Q,_,W,ok.to s r,e4,λa0 v3 H3 P l r3=> ?_⟩
                    cases r3
                    have p:=cq P.pre B
                    obtain⟨K,g3,R⟩:=l.obj k _ _ p d
                    have u:=s.trans P
                    obtain⟨F,N⟩:=l.putL p d (aU.set (.int (m+n)) j R)
                    exact⟨m,n,rfl,rfl,_,K,i,j,rfl,rfl,g3,by rw[←R.length];exact e5,q _ _ _ (u.trans N) ((ok.to u l).to N F)⟩
                |_=>cases e
            |_=>cases e
          |_=>cases e
        · cases e
      · cases e
    |_=>cases e
  |_=>cases e
def Er(i j:Nat)(f:fO):cH:=λd S=>(f d S).bind λ(h,g)=>match h with
 | [v,w]=>some (.nx ((d.set i (some v)).set j (some w)) g)
 |_=>none
def Ju{i j:Nat}{f:fO}(h:PS X st (Ie i j (v5 (md X) f))):PS X st (tS (md X) (Er i j f)):=AD h λD v H l=>by
 obtain⟨m,n,S,o,ok,e,q⟩:=l
 obtain⟨⟨u,s⟩,p,e⟩:=aq e
 dsimp only at e
 split at e
 ·cases e
  refine⟨m,n,S,_,s,ok,p,λk t w x st r=> ?_⟩
  cases r with
  | cons r d=>
    cases d with
    | cons g d=>
      cases d
      exact⟨_,_,rfl,q _ _ _ x ⟨((ok.en.ext x).set r).set g,st⟩⟩
 ·cases e
end
def dk(cells:List (Str×Addr)):List (Str×NameKind)->List (Str×Addr)->List (Str×Addr)
 | [],acc=>acc
 |(n,k)::r,acc=>if (k==.free)=true then dk cells r ((n,(cells.lookup n).getD 0)::acc) else dk cells r acc
theorem om{env:Env}:∀(names:List (Str×NameKind)) (b:List (Str×Addr)),(∀y∈names,y.2=.free->(env.cells.lookup y.1).isSome=true)→
  (forIn names b λ(x:Str×NameKind) (f:List (Str×Addr))=>(do
   if (x.2==NameKind.free)=true then do
    let c←cellOf env x.1
    pure (ForInStep.yield ((x.1,c)::f))
   else pure (ForInStep.yield f):Sem (ForInStep (List (Str×Addr)))))=(pure (dk env.cells names b):Sem _)
 | [],b,_=>rfl
 | (n,k)::r,b,h=>by
   rw[List.forIn_cons]
   unfold dk
   by_cases c:(k==NameKind.free)=true
   · obtain⟨a,e⟩:=Option.isSome_iff_exists.mp (h (n,k) QBq (by simpa using c))
     simp only[c,if_true]
     have g:cellOf env n=pure a:=by
       unfold cellOf
       rw[e]
     rw[g,pure_bind,pure_bind,e]
     exact om r _ λy d=>h y (Qpq _ d)
   · simp only[c,Bool.false_eq_true,if_false]
     rw[pure_bind]
     exact om r _ λy d=>h y (Qpq _ d)
def Cc{a:Scope}{env:Env}(h:∀y∈a.names,y.2=.free->(env.cells.lookup y.1).isSome=true):closureFor a env=pure (dk env.cells a.names []):=by
 unfold closureFor
 have:=om a.names [] h
 rw[bind_pure]
 exact this
theorem qF{cells:List (Str×Addr)}:∀(names:List (Str×NameKind)) (a:List (Str×Addr)) (p:Str×Addr),p∈dk cells names a->p∈a\/∃n,(n,NameKind.free)∈names/\p=(n,(cells.lookup n).getD 0)
 | [],a,p,h=>.inl h
 | (n,k)::r,a,p,h=>by
   unfold dk at h
   split at h
   · rename_i c
     rcases qF r _ p h with h|⟨m,d,b⟩
     · rcases Qsq.mp h with h|h
       · exact .inr ⟨n,by rw[show k=NameKind.free by simpa using c];exact QBq,h⟩
       · exact .inl h
     · exact .inr ⟨m,Qpq _ d,b⟩
   · rcases qF r _ p h with h|⟨m,d,b⟩
     · exact .inl h
     · exact .inr ⟨m,Qpq _ d,b⟩
theorem rh{cells:List (Str×Addr)}{x:Str}:∀(names:List (Str×NameKind)) (a:List (Str×Addr)),((x,NameKind.free)∈names\/∃c,(x,c)∈a)->∃c,(x,c)∈dk cells names a
 | [],a,h=>by
   rcases h with h|h
   · cases h
   · exact h
 | (n,k)::r,a,h=>by
   unfold dk
   split
   · rename_i c
     refine rh r _ ?_
     rcases h with h|⟨c,h⟩
     · rcases Qsq.mp h with h|h
       · cases h;exact .inr ⟨_,QBq⟩
       · exact .inl h
     · exact .inr ⟨c,Qpq _ h⟩
   · rename_i c
     refine rh r _ ?_
     rcases h with h|h
     · rcases Qsq.mp h with h|h
       · cases h;exact absurd rfl c
       · exact .inl h
     · exact .inr h
theorem kH{x:Str}{c:Addr}:∀{l:List (Str×Addr)},(x,c)∈l->∃a,l.lookup x=some a
 | [],h=>by cases h
 | (n,d)::r,h=>by
   unfold List.lookup
   by_cases e:(x==n)=true
   · rw[e];exact⟨d,rfl⟩
   · have b:(x==n)=false:=by simpa using e
     rw[b]
     rcases Qsq.mp h with h|h
     · cases h;simp at e
     · exact kH h
def qH(b:List Str)(a:Str->Option NameKind)(names:List (Str×NameKind)):List (Option Nat)->List Str->Bool
 |some j::js,x::N=>(b[j]? ==some x)&&(a x==some .cell||a x==some .free)&&(names.lookup x==some .free)&&qH b a names js N
 |none::js,_::N=>qH b a names js N
 |_,_=>true
theorem rf{b:List Str}{a:Str->Option NameKind}{names:List (Str×NameKind)}:∀{js:List (Option Nat)} {N:List Str} {k j:Nat} {x:Str},qH b a names js N=true->js[k]?=some (some j)->N[k]?=some x->b[j]?=some x/\(a x=some .cell\/a x=some .free)/\names.lookup x=some .free
 | some i::js,y::N,0,j,x,h,h1,h2=>by
   cases h1
   cases h2
   simp only[qH,QCq,Bool.or_eq_true,beq_iff_eq] at h
   exact⟨h.1.1.1,h.1.1.2,h.1.2⟩
 | some i::js,y::N,k+1,j,x,h,h1,h2=>by
   simp only[qH,QCq] at h
   exact rf h.2 (by simpa using h1) (by simpa using h2)
 |none::js,y::N,0,j,x,h,h1,h2=>by cases h1
 |none::js,y::N,k+1,j,x,h,h1,h2=>rf (k:=k) (by simpa [qH] using h) (by simpa using h1) (by simpa using h2)
 | [],N,k,j,x,h,h1,h2=>by simp at h1
 |some i::js,[],k,j,x,h,h1,h2=>by simp at h2
 |none::js,[],k,j,x,h,h1,h2=>by simp at h2
theorem mW{env:Env}{x:Str}:∀{names:List (Str×NameKind)},names.lookup x=some .free->(names.map λ(n,k)=>if (k==NameKind.free&&env.scope.kind==.function&&env.kindOf n==some .cell) then(n,NameKind.cell) else(n,k)).lookup x=some .cell∨
  (names.map λ(n,k)=>if (k==NameKind.free&&env.scope.kind==.function&&env.kindOf n==some .cell) then(n,NameKind.cell) else(n,k)).lookup x=some .free
 | [],h=>by cases h
 | (n,k)::r,h=>by
   unfold List.lookup at h
   rw[QDq]
   by_cases e:(x==n)=true
   · rw[e] at h
     cases h
     dsimp only
     split
     · left;unfold List.lookup;rw[e]
     · right;unfold List.lookup;rw[e]
   · have a:(x==n)=false:=by simpa using e
     rw[a] at h
     have b:=mW (env:=env) h
     dsimp only
     split <;>(unfold List.lookup;rw[a];exact b)
def aP.gen{X:Cx}{N:List Str}{js:List (Option Nat)}{d:Scope}(k:d.kind=.function)(o:d.names.all (λy=>y.2 !=.cell)=true)(r:d.names.all (λy=>y.2 !=.local||d.names.lookup y.1==some .local)=true)
  (p:d.names.all (λy=>y.2 !=.free||(X.env.cells.lookup y.1).isSome)=true) (u:qH X.N X.env.kindOf d.names js N=true) (v:js.length=N.length):aP X N js d (dk X.env.cells d.names []) where
 kind:=k
 nocell:=λy f=>by
  have:=QUq.mp o y f
  simpa using this
 names:=λy f e=>by
  have:=QUq.mp r y f
  rw[e] at this
  simpa using this
 clos:=Cc λy f e=>by
  have:=QUq.mp p y f
  rw[e] at this
  simpa using this
 sub:=λx c h=>by
  rcases qF _ _ _ (PySem.mem_of_lookup h) with h|⟨n,m,e⟩
  ·cases h
  ·cases e
   have:=QUq.mp p _ m
   have w:(X.env.cells.lookup x).isSome=true:=by simpa using this
   obtain⟨c,g⟩:=Option.isSome_iff_exists.mp w
   rw[g]
   rfl
 has:=λx h=>by
  have l:(x,NameKind.free)∈d.names:=by
   have:∃k,(relabel d X.env).names.lookup x=some k/\(k=.cell\/k=.free):=by
    rcases h with h|h
    ·exact⟨_,h,.inl rfl⟩
    ·exact⟨_,h,.inr rfl⟩
   obtain⟨B,s,g⟩:=this
   have q:=PySem.mem_of_lookup s
   unfold relabel at q
   obtain⟨⟨n,t⟩,f,i⟩:=Qkq.mp q
   dsimp only at i
   split at i
   ·rename_i c
    cases i
    simp only[QCq] at c
    have:t=NameKind.free:=by simpa using c.1.1
    rw[←this]
    exact f
   ·cases i
    rcases g with z|z
    ·have:=QUq.mp o _ f
     rw[z] at this
     simp at this
    ·rw[←z];exact f
  obtain⟨c,g⟩:=rh (cells:=X.env.cells) d.names [] (.inl l)
  exact kH g
 cap:=λk j x A m=>by
  obtain⟨a,b,c⟩:=rf u A m
  refine⟨a,b,?_⟩
  unfold relabel
  exact mW c
 len:=v
structure eL(P:Program)(w:World)(K:PySem.W.Frag)(mg:Str->Option Value)(base:Heap)(k:Nat)(x:Str)(ps:List Str)(F:cW):Prop where
 ex:∃f fd,bj P w K mg base dA k f fd ps (dP ⟨K,mg⟩ ps.length F)/\Binds K fd ps []/\PySem.W.keepIn K (.ref f)=true/\mg x=some (.ref f)
section
variable{X:Cx}{x:Str}{k n:Nat}{ps:List Str}{F:cW}{e:Expr}{es:List Expr}{g:fO}{p pos:Pos}
def Jn(C:eL X.prog X.w X.K X.mg X.base k x ps F)(h:eK k X.A)(i:Gl X x)(d:PA X (e::es) (v5 (md X) g))(j:nA ps.length g)
  (a:(x==("__debug__":Str))=false:=by decide) (he:starEach (e::es) X.env=(false,eval e X.env)::starEach es X.env:=by rfl) (hpl:(backTo pos (starEach es X.env)).any (·.1)=false:=by rfl):
  PE X (.Call (.Name x p) (e::es) [] pos) (tD (md X) (ax F g)):=by
 obtain⟨f,l,G,b,c,m⟩:=C.ex
 exact GI G h i m c b d j a he hpl
def II(C:eL X.prog X.w X.K X.mg X.base k x ps F)(h:eK k X.A)(i:Gl X x)(d:PA X (e::es) (v5 (md X) g))(j:nA ps.length g)
  (a:(x==("__debug__":Str))=false:=by decide) (he:starEach (e::es) X.env=(false,eval e X.env)::starEach es X.env:=by rfl) (hpl:(backTo pos (starEach es X.env)).any (·.1)=false:=by rfl):
  PE X (.Call (.Name x p) (e::es) [] pos) (tL (md X) (eW F g)):=by
 obtain⟨f,l,G,b,c,m⟩:=C.ex
 exact GT G h i m c b d j a he hpl
end
def eL.mono{P:Program}{w:World}{K:PySem.W.Frag}{mg:Str->Option Value}{base:Heap}{j k:Nat}{x:Str}{ps:List Str}{F:cW}(C:eL P w K mg base j x ps F)(h:j<=k):eL P w K mg base k x ps F:=by
 obtain⟨f,a,G,b,c,m⟩:=C.ex
 exact⟨f,a,G.mono h,b,c,m⟩
structure Bl(mg:Str->Option Value):Prop where
 len:mg "len"=none
 tuple:mg "tuple"=none
 list:mg "list"=none
 dict:mg "dict"=none
 set:mg "set"=none
 int:mg "int"=none
 str:mg "str"=none
 bool:mg "bool"=none
 all:mg "all"=none
 any:mg "any"=none
 range:mg "range"=none
 zip:mg "zip"=none
 sorted:mg "sorted"=none
 isi:mg "isinstance"=none
 min:mg "min"=none
 max:mg "max"=none
 abs:mg "abs"=none
 enum:mg "enumerate"=none
 reversed:mg "reversed"=none
open AutoSeq1 in
def lV(l:Addr)(items:Array Value)(n:Nat)(b:Addr)(a:Array Value)(q:Nat)(p:Option Addr)(o:Array (Option Value))(m:¬(!items.isEmpty&&Builtin.List.listTooLong (items.size+a.size))=true)(c:items.size<=sizeLine)(e:items.size+a.size<=sizeLine+1):
  Meets (Builtin.«list.extend» ⟨[.ref l,.ref b],[]⟩) (λ_ R s=>s.heap.get? l=some {cls:=.type "list",dict:=none,data:=.seq items n,slots:= #[]}/\s.heap.get? b=some {cls:=.type "tuple",dict:=p,data:=.seq a q,slots:=o}/\R (.ok (.ret Value.none)) {s with heap:=s.heap.update l (Obj.mapSeq λx=>x++a),toks:=s.toks}):=
 .of_wp λj w A R s h=>by
  obtain⟨v,g,d,r,t⟩:=s;obtain⟨i,k,h⟩:=h;have u:=idx_int;have z:=AutoSeq1.sub_tuple_tuple;have C:=AutoSeq1.sub_list_list;have B:=AutoSeq1.sub_tuple_list;have y:=AutoSeq1.sub_list_tuple;
  have f:(items++a).size<=sizeLine+1:=by rw[Array.size_append];exact e
  wp_walk using (wpAny_updateSeq i rfl (hz:=c) (_hz':=f)),AutoSeq1.wpAny_loadPart' i,AutoSeq1.wpAny_loadPart' k;exact⟨_,rfl,h⟩
section
variable{X:Cx}{a b c e:Expr}{pos:Pos}{st:Stmt}
def Ei:Kb X "list.extend" (λx vs H Q=>∃l b xs i,x=.ref l/\vs= [.ref b]/\H l=some (.lst xs)/\gM X.K H b i/\xs.length+i.length<=sizeLine/\Q .non (upd H l (.lst (xs++i)))):=by
 intro m s P H x vs v R Q I J B h
 obtain⟨l,b,xs,i,rfl,rfl,hH,hB,hz,q⟩:=h
 cases J
 obtain⟨u,rfl,ru⟩:=B.one
 cases ru
 obtain⟨z,f,n,r,N,e⟩:=I.lstM hH
 obtain⟨d,o,⟨⟨t,L,w,A⟩,C,p,M,k⟩,G⟩:=I.tuple hB
 have y:=o.length
 simp only at p k
 subst p k
 have j:f.toArray.size+d.toArray.size<=sizeLine:=by rw[Qjq,Qjq];omega
 have g:¬(!f.toArray.isEmpty&&Builtin.List.listTooLong (f.toArray.size+d.toArray.size))=true:=by
  rw[rJ j,Bool.and_false]
  exact Qtq
 refine call_meets F.slot_list_extend ⟨_,e,rfl⟩ F.entry_list_extend (F.args_list_extend_2 _ _)
  (lV l f.toArray n b d.toArray M L A g (by rw[Qjq];omega) (by omega)) ⟨e,C,?_⟩
 refine⟨.non,_,I.lset (its':=f++d) hH e (by simp) (r.append o) ?_,rfl,q⟩
 rw[lQa]
 omega
def sY(f:bc)(g:dQ):bc:=λi S=>(f i S).bind λ(x,h)=>match x with
 | .ref k=>(g i h).bind λ(p,d)=>match h[k]?,d[k]? with
   |some (.lst _),some (.lst ds)=>if p.2.isL=false/\ds.length+p.1.length<=sizeLine then some (.non,d.set k (.lst (ds++p.1))) else none
   |_,_=>none
 |_=>none
def Gp{f:bc}{g:dQ}:∀u H Q,tD (md X) (sY f g) u H Q->JO X.K "list" (λx vs H Q=>∃l b xs o,x=.ref l/\vs= [.ref b]/\H l=some (.lst xs)/\gM X.K H b o/\xs.length+o.length<=sizeLine/\Q .non (upd H l (.lst (xs++o)))) (tD (md X) f) (Cp (tQ (md X) g) Gi) u H Q:=λu H Q U=>by
 obtain⟨W,y,S,d,S',ok,e,q⟩:=U
 obtain⟨⟨x,C⟩,e1,e⟩:=aq e
 cases x with
 | ref k=>
   dsimp only at e
   obtain⟨⟨⟨ys,t⟩,P⟩,N,e⟩:=aq e
   dsimp only at e
   split at e
   · rename_i J ds s j
     split at e
     · rename_i c
       obtain⟨rfl,rfl⟩:=bN e
       refine⟨W,y,S,_,C,ok,e1,λr v H1 F h I=> ?_⟩
       cases I with
       | ref B=>
         rename_i a
         obtain⟨n,R,_⟩:=h.obj k a _ B s
         refine⟨.inl ⟨rfl,n,gx.of R⟩,r,y,C,ys,t,P,ok.to F h,N,λL b Z H2 z i G A=> ?_⟩
         have m:=cq z.pre B
         obtain⟨vs,Y,w⟩:=i.obj k a _ m j
         refine⟨a,b,vs,Z,rfl,rfl,Y,G.sqT c.1,by rw[←w.length,←A.length];exact c.2,?_⟩
         obtain⟨p,M⟩:=i.putL m j (w.append A)
         exact q _ _ _ ((F.trans z).trans M) p .non
     · cases e
   · cases e
 |_=>cases e
def HB{f:bc}{g:dQ}{o:Expr}{h d:Pos}(l:PE X o (tD (md X) f))(m:PE X e (tQ (md X) g))(i:attributeBase o "extend" X.env (eval o X.env)=eval o X.env:=by rfl) (k:((backTo d (starEach [e] X.env)).all (λx=> !x.1)&&(backToKw d (keywordEach [] X.env)).all (λx=>x.1.isSome)
   &&decide ([e].length+([]:List Keyword).length+(if ([]:List Keyword).isEmpty then 0 else 1)<30))=true:=by rfl)
  (j:(h.endLine==d.line)=true:=by rfl) (hs:starEach [e] X.env= [(false,eval e X.env)]:=by rfl):PE X (.Call (.Attribute o "extend" h) [e] [] d) (tD (md X) (sY f g)):=
 i3 (ub PySem.F.plainAttrs_list PySem.F.slot_list_extend PySem.F.type_list_extend Ei l (cC m eQ hs) i k j hs) Gp
def mJ(x:V):List V->Option Nat
 | []=>none
 |y::r=>if pY y x=true then some 0 else(mJ x r).map (·+1)
theorem zx{x:V}:∀{xs:List V} {j:Nat},mJ x xs=some j->(∃y,xs[j]?=some y/\pY y x=true)/\∀m y,m<j->xs[m]?=some y->pY y x=false
 | [],_,h=>by cases h
 | y::r,j,h=>by
   unfold mJ at h
   split at h
   · rename_i c
     cases h
     exact⟨⟨y,rfl,c⟩,λm _ d=>absurd d (Nat.not_lt_zero _)⟩
   · rename_i c
     obtain⟨i,n,rfl⟩:=oQm.mp h
     obtain⟨⟨z,k,g⟩,l⟩:=zx n
     refine⟨⟨z,by simpa using k,g⟩,λm w d f=> ?_⟩
     cases m with
     |zero=>cases f;simpa using c
     |succ m=>exact l m w (by omega) (by simpa using f)
def Dh:JH X "list.index" (λx vs H Q=>∃a xs y j,x=.ref a/\vs= [y]/\gx X.K H a xs/\fR y=true/\xs.all fR=true/\mJ y xs=some j/\Q (.int (j:Nat)) H):=by
 intro C s σ H x vs v us Q I Z S h
 obtain⟨a,xs,y,j,rfl,rfl,hq,fy,fs,hj,q⟩:=h
 cases Z
 obtain⟨u,rfl,ru⟩:=S.one
 obtain⟨f,r,W,hz⟩:=I.list hq
 obtain⟨⟨L,dd,N,P⟩,n,e,G,g,B⟩:=W
 simp only at G g B
 subst G g B
 obtain⟨⟨z,t,M⟩,Y⟩:=zx hj
 have hl:=r.length
 have R:j<xs.length:=(gQs.mp t).1
 obtain⟨w,A,p⟩:=r.get t
 have i:f.toArray[j]'(by rw[Qjq];omega)=w:=by
  have:=(gQs.mp A).2
  simpa using this
 have J:=jk
 refine call_meets PySem.F.slot_list_index ⟨_,e,rfl⟩ PySem.F.entry_list_index (PySem.F.args_list_index_2 _ _)
  (SeqAt.list_indexAt a f.toArray n none P u (xV y) j (by rw[Qjq];omega) (by omega) (by rw[i,uU p (QUq.mp fs z (mQg t))];exact M) λm hm k=> ?_)
  ⟨e,λw A=>g5 ru fy r fs w (by simpa using A),⟨.int j,H,I.tok _,⟨_,rfl⟩,q⟩⟩
 have d:m<xs.length:=by rw[Qjq] at hm;omega
 obtain⟨w2,l,o⟩:=r.get (gQe d)
 have U:f.toArray[m]=w2:=by
  have:=(gQs.mp l).2
  simpa using this
 rw[U,uU o (QUq.mp fs _ (List.getElem_mem d))]
 exact Y m _ k (gQe d)
end
end DL
namespace Zq
open PySem
def It(t:Bool)(h:Heap)(i a:Addr)(k:Nat):Prop:=if t=true then h.IsTupleIter i a k else h.IsListIter i a k
def Sq(t:Bool)(h:Heap)(a:Addr)(xs:Array Value):Prop:=if t=true then h.IsTuple a xs else h.IsList a xs
section
variable{t t2:Bool}{h h':Heap}{i j a b z O T:Addr}{k:Nat}{xs ys:Array Value}
theorem It.at(g:It t h i a k)(f:∀o,h.get? i=some o->h'.get? i=some o):It t h' i a k:=by
 cases t with
 |true=>exact(show h.IsTupleIter i a k from g).at f
 |false=>exact(show h.IsListIter i a k from g).at f
def It.ext{c:Addr}(g:It t h i a k)(f:Heap.ExtBut c h h')(n:i≠c):It t h' i a k:=g.at λo e=>f i o n e
def Sq.at(g:Sq t h a xs)(f:∀o,h.get? a=some o->h'.get? a=some o):Sq t h' a xs:=by
 cases t with
 |true=>obtain⟨o,e,r⟩:=(show h.IsTuple a xs from g);exact(show h'.IsTuple a xs from⟨o,f o e,r⟩)
 |false=>obtain⟨o,e,r⟩:=(show h.IsList a xs from g);exact(show h'.IsList a xs from⟨o,f o e,r⟩)
def Sq.ext{c:Addr}(g:Sq t h a xs)(f:Heap.ExtBut c h h')(n:a≠c):Sq t h' a xs:=g.at λo e=>f a o n e
def It.obj(g:It t h i a k):∃o,h.get? i=some o/\∀v,o.data≠.cell v:=by
 cases t with
 |true=>obtain⟨o,e,_,d⟩:=(show h.IsTupleIter i a k from g);exact⟨o,e,λv n=>by rw[d] at n;cases n⟩
 |false=>obtain⟨o,e,_,d⟩:=(show h.IsListIter i a k from g);exact⟨o,e,λv n=>by rw[d] at n;cases n⟩
end
section
variable{prog:Program}{w:World}{A:Around}{E:Value->Shared->Prop}{s:Shared}{t t2:Bool}{z T O i j a b:Addr}{k:Nat}{xs ys:Array Value}{x y u v:Value}
def draw{Q:Value->Shared->Prop}(d:It t s.heap i a k)(c:Sq t s.heap a xs)(hv:xs[k]?=some v)
  (q:∀h',It t h' i a (k+1)->Heap.SameBut i s.heap h'->Q v {s with heap:=h'}):wpAny (model prog w) A (Builtin.SmallTypes.nextOf (.ref i)) Q E s:=by
 cases t with
 |true=>exact Zp.Iu d c hv q
 |false=>exact wpAny_nextOf_list_item d c hv q
def zN{Q:Value->Shared->Prop}(d:A.handled=none)(f:It t s.heap i a k)(c:Sq t s.heap a xs)(hv:xs[k]?=none)
  (q:∀h' e,Heap.ExtBut i s.heap h'->(∃o,h'.get? e=some o/\o.cls=.type "StopIteration")->E (.ref e) {s with heap:=h'}):wpAny (model prog w) A (Builtin.SmallTypes.nextOf (.ref i)) Q E s:=by
 cases t with
 |true=>exact Zp.IZ d f c hv q
 |false=>exact wpAny_nextOf_list_end d f c hv q
abbrev si(h:Heap)(z T O:Addr)(d c:Value):Prop:=
 h.get? z=some {cls:=.type "zip",dict:=none,data:=.fields #[d,c,.bool false,.ref T,.ref O],slots:= #[]}
def item(D:ZipApart z T O i j a b){Q:Value->Shared->Prop}(m:si s.heap z T O .none (.bool false))(gT:IsPair s.heap T (.ref i) (.ref j))(gO:IsPair s.heap O u v)(gi:It t s.heap i a k)(gj:It t2 s.heap j b k)
  (ga:Sq t s.heap a xs) (gb:Sq t2 s.heap b ys) (ex:xs[k]?=some x) (ey:ys[k]?=some y)
  (q:∀h',si h' z T O (rawInt s.heap.objs.size) (.bool false)->IsPair h' O x y->It t h' i a (k+1)->It t2 h' j b (k+1)->IsPair h' s.heap.objs.size x y->Zp.Rest z O i j s.heap h'->Q (.ref s.heap.objs.size) {s with heap:=h'}):
  wpAny (model prog w) A (Builtin.«zip.__next__» ⟨[.ref z],[]⟩) (λK s'=>∃r,K=.done (.ret r)/\Q r s') E s:=by
 refine(?_:wpAny _ _ (field (.ref z) 2 >>= _) _ _ _)
 refine Qaq (QMq m rfl (x:=.bool false) rfl ?_)
 refine(?_:wpAny _ _ (field (.ref z) 3 >>= _) _ _ _)
 refine Qaq (QMq m rfl (x:=.ref T) rfl (Qaq (wpAny_seqItems gT rfl ?_)))
 refine(?_:wpAny _ _ (Builtin.SmallTypes.ownedTupleIsFree (.ref z) >>= _) _ _ _)
 refine Qaq ?_
 unfold Builtin.SmallTypes.ownedTupleIsFree
 refine Qaq (QMq m rfl (x:=.none) rfl (Qgq ?_))
 simp only[if_true]
 refine Qaq (wpAny_rule (Qaq (QMq m rfl (x:=.ref O) rfl (Qaq (wpAny_setField_rec m (by simp) λh1 L f=> ?_)))))
 replace L:si h1 z T O .ellipsis (.bool false):=L
 refine Qaq ?_
 simp only[List.zipIdx_cons,List.zipIdx_nil,List.forIn_nil,List.forIn_cons]
 refine Qaq (Qaq (wpAny_onRaise ?_))
 refine(?_:wpAny _ _ (Builtin.SmallTypes.nextOf (.ref i) >>= _) _ _ _)
 refine Qaq (draw (gi.ext f.extBut D.i1z) (ga.ext f.extBut D.l1z) ex λh2 i2 l=>Qgq ?_)
 have S:IsPair h2 O u v:=l.extBut _ _ D.TOi1 (f.extBut _ _ D.TOz gO)
 refine Qaq (wpAny_seqItems S rfl (Qaq (wpAny_updateSeq_pair S λh3 I h=>Qaq (wpAny_letGo (Qgq ?_)))))
 replace I:IsPair h3 O x v:=I
 refine Qaq (Qaq (wpAny_onRaise ?_))
 refine(?_:wpAny _ _ (Builtin.SmallTypes.nextOf (.ref j) >>= _) _ _ _)
 refine Qaq (draw (((gj.ext f.extBut D.i2z).ext l.extBut D.i12.symm).ext h.extBut D.TOi2.symm) (((gb.ext f.extBut D.l2z).ext l.extBut D.l2i1).ext h.extBut D.l2TO) ey λh4 j4 p=>Qgq ?_)
 have X:IsPair h4 O x v:=p.extBut _ _ D.TOi2 I
 refine Qaq (wpAny_seqItems X rfl (Qaq (wpAny_updateSeq_pair X λd F n=>Qaq (wpAny_letGo (Qgq (Qgq ?_))))))
 replace F:IsPair d O x y:=F
 refine Qaq (wpAny_seqItems F rfl (Qaq (wpAny_newTuple ?_)))
 have U:d.objs.size=s.heap.objs.size:=by rw[n.1,p.1,h.1,l.1,f.1]
 have P:si d z T O .ellipsis (.bool false):=n.extBut _ _ D.TOz.symm (p.extBut _ _ D.i2z.symm (h.extBut _ _ D.TOz.symm (l.extBut _ _ D.i1z.symm L)))
 have r5:Zp.Rest z O i j s.heap d:=λc o g B M N e=>n.extBut _ _ B (p.extBut _ _ N (h.extBut _ _ B (l.extBut _ _ M (f.extBut _ _ g e))))
 have i5:It t d i a (k+1):=((i2.ext h.extBut D.TOi1.symm).ext p.extBut D.i12).ext n.extBut D.TOi1.symm
 have j5:It t2 d j b (k+1):=j4.ext n.extBut D.TOi2.symm
 have Y:z<d.objs.size:=Qiq P
 refine(?_:wpAny _ _ (Builtin.SmallTypes.ownedTupleHandOut (.ref z) (.ref d.objs.size) >>= _) _ _ _)
 refine Qaq ?_
 unfold Builtin.SmallTypes.ownedTupleHandOut
 have z6:si (d.push {cls:=.type "tuple",data:=.seq #[x,y]}) z T O .ellipsis (.bool false):=Qcq _ P
 refine Qaq (wpAny_setField_rec z6 (by simp) λh7 J R=> ?_)
 replace J:si h7 z T O (rawInt d.objs.size) (.bool false):=J
 refine wpAny_setField_rec J (by simp) λC H Z=> ?_
 replace H:si C z T O (rawInt d.objs.size) (.bool false):=H
 have G:∀c o,c≠z->d.get? c=some o->C.get? c=some o:=λc o g e=>Z.extBut _ _ g (R.extBut _ _ g (Qcq _ e))
 have W:IsPair C d.objs.size x y:=Z.extBut _ _ (Nat.ne_of_gt Y) (R.extBut _ _ (Nat.ne_of_gt Y) (Qrq _ rfl))
 rw[U] at H W
 refine Qgq ⟨_,rfl,?_⟩
 refine(?_:Q (.ref d.objs.size) _)
 rw[U]
 exact q C H (G _ _ D.TOz F) (i5.at λo e=>G _ o D.i1z e) (j5.at λo e=>G _ o D.i2z e) W λc o g B M N e=>G c o g (r5 c o g B M N e)
def alive{α:Addr}{Q:Option Obj->Shared->Prop}(h:Q (s.heap.get? α) s):wpAny (model prog w) A (loadIfAlive α) Q E s:=λ_ _ _=>h
def again(D:ZipApart z T O i j a b){p:Addr}{Z:Obj}{m:Value}{Q:Value->Shared->Prop}(g:si s.heap z T O (rawInt p) m)(R:s.heap.get? p=some Z)(X:IsPair s.heap T (.ref i) (.ref j))(gi:It t s.heap i a k)(S:It t2 s.heap j b k)
  (L:Sq t s.heap a xs) (N:Sq t2 s.heap b ys) (ex:xs[k]?=some x) (ey:ys[k]?=some y)
  (q:∀h',si h' z T O (rawInt p) (.bool true)->It t h' i a (k+1)->It t2 h' j b (k+1)->IsPair h' s.heap.objs.size x y->Zp.Rest z O i j s.heap h'->Q (.ref s.heap.objs.size) {s with heap:=h'}):
  wpAny (model prog w) A (Builtin.«zip.__next__» ⟨[.ref z],[]⟩) (λH B=>∃r,H=.done (.ret r)/\Q r B) E s:=by
 refine(?_:wpAny _ _ (field (.ref z) 2 >>= _) _ _ _)
 refine Qaq (QMq g rfl (x:=.bool false) rfl ?_)
 refine(?_:wpAny _ _ (field (.ref z) 3 >>= _) _ _ _)
 refine Qaq (QMq g rfl (x:=.ref T) rfl (Qaq (wpAny_seqItems X rfl ?_)))
 refine(?_:wpAny _ _ (Builtin.SmallTypes.ownedTupleIsFree (.ref z) >>= _) _ _ _)
 refine Qaq ?_
 unfold Builtin.SmallTypes.ownedTupleIsFree
 refine Qaq (QMq g rfl (x:=rawInt p) rfl ?_)
 refine(?_:wpAny _ _ (loadIfAlive ((p:Int).toNat) >>= _) _ _ _)
 refine Qaq ?_
 rw[Int.toNat_natCast]
 refine alive ?_
 rw[R]
 refine(?_:wpAny _ _ (field (.ref z) 1 >>= _) _ _ _)
 refine Qaq (QMq g rfl (x:=m) rfl ?_)
 have I:wpAny (model prog w) A (if (m !=Value.bool true)=true then(do let _←setField (.ref z) 1 (.bool true);pure false) else pure false)
   (λr B=>r=false/\∃l,B={s with heap:=l}/\si l z T O (rawInt p) (.bool true)/\Heap.SameBut z s.heap l) E s:=by
  by_cases c:(m !=Value.bool true)=true
  ·rw[Qhq c]
   exact Qaq (wpAny_setField_rec g (by simp) λl J d=>Qgq ⟨rfl,l,rfl,J,d⟩)
  ·rw[Quq c]
   have e:m=Value.bool true:=by simpa using c
   subst e
   exact Qgq ⟨rfl,s.heap,rfl,g,Heap.SameBut.refl _ _⟩
 refine QRq I (λr B G=> ?_) λ_ _ h=>h
 obtain⟨rfl,l,rfl,J,d⟩:=G
 simp only[Bool.false_eq_true,if_false]
 refine Qaq ?_
 simp only[List.forIn_toArray,List.forIn_cons,List.forIn_nil]
 refine Qaq (Qaq (QLq ?_))
 refine(?_:wpAny _ _ (Builtin.SmallTypes.nextOf (.ref i) >>= _) _ _ _)
 refine Qaq (draw (gi.ext d.extBut D.i1z) (L.ext d.extBut D.l1z) ex λh2 M n=>Qgq (Qgq ?_))
 refine Qaq (Qaq (QLq ?_))
 refine(?_:wpAny _ _ (Builtin.SmallTypes.nextOf (.ref j) >>= _) _ _ _)
 refine Qaq (draw ((S.ext d.extBut D.i2z).ext n.extBut D.i12.symm) ((N.ext d.extBut D.l2z).ext n.extBut D.l2i1) ey λf P C=>Qgq (Qgq (Qgq ?_)))
 refine Qaq (wpAny_newTuple ?_ (by show 2<=_;decide))
 have W:f.objs.size=s.heap.objs.size:=by rw[C.1,n.1,d.1]
 have F:∀c o,f.get? c=some o->(f.push {cls:=.type "tuple",data:=.seq #[x,y]}).get? c=some o:=λc o e=>Qcq _ e
 have K:IsPair (f.push {cls:=.type "tuple",data:=.seq #[x,y]}) f.objs.size x y:=Qrq _ rfl
 have z8:si (f.push {cls:=.type "tuple",data:=.seq #[x,y]}) z T O (rawInt p) (.bool true):=F _ _ (C.extBut _ _ D.i2z.symm (n.extBut _ _ D.i1z.symm J))
 refine Qgq ⟨_,rfl,?_⟩
 refine(?_:Q (.ref f.objs.size) _)
 rw[W] at K⊢
 exact q _ z8 ((M.ext C.extBut D.i12).at λo e=>F _ o e) (P.at λo e=>F _ o e) K λc o U c2 Y c4 e=>F c o (C.extBut _ _ c4 (n.extBut _ _ Y (d.extBut _ _ U e)))
def stop(D:ZipApart z T O i j a b){Q:Fin->Shared->Prop}(J:A.handled=none)(d:si s.heap z T O .none (.bool false))(K:IsPair s.heap T (.ref i) (.ref j))(P:It t s.heap i a k)(C:Sq t s.heap a xs)(ex:xs[k]?=none)
  (q:∀h' e,Zp.Rest z O i j s.heap h'->(∃o,h'.get? e=some o/\o.cls=.type "StopIteration")->E (.ref e) {s with heap:=h'}):
  wpAny (model prog w) A (Builtin.«zip.__next__» ⟨[.ref z],[]⟩) Q E s:=by
 refine(?_:wpAny _ _ (field (.ref z) 2 >>= _) _ _ _)
 refine Qaq (QMq d rfl (x:=.bool false) rfl ?_)
 refine(?_:wpAny _ _ (field (.ref z) 3 >>= _) _ _ _)
 refine Qaq (QMq d rfl (x:=.ref T) rfl (Qaq (wpAny_seqItems K rfl ?_)))
 refine(?_:wpAny _ _ (Builtin.SmallTypes.ownedTupleIsFree (.ref z) >>= _) _ _ _)
 refine Qaq ?_
 unfold Builtin.SmallTypes.ownedTupleIsFree
 refine Qaq (QMq d rfl (x:=.none) rfl (Qgq ?_))
 simp only[if_true]
 refine Qaq (wpAny_rule (Qaq (QMq d rfl (x:=.ref O) rfl (Qaq (wpAny_setField_rec d (by simp) λH g f=> ?_)))))
 replace g:si H z T O .ellipsis (.bool false):=g
 refine Qaq ?_
 simp only[List.zipIdx_cons,List.zipIdx_nil,List.forIn_nil,List.forIn_cons]
 refine Qaq (Qaq (wpAny_onRaise ?_))
 refine(?_:wpAny _ _ (Builtin.SmallTypes.nextOf (.ref i) >>= _) _ _ _)
 refine Qaq (zN J (P.ext f.extBut D.i1z) (C.ext f.extBut D.l1z) ex λF e r N=> ?_)
 obtain⟨I,h,B⟩:=N
 have m:si F z T O .ellipsis (.bool false):=r _ _ D.i1z.symm g
 have G:e≠z:=λn=>by rw[n,m] at h;cases h;simp at B
 exact wpAny_setField_rec m (by simp) λM _ l=>q M e (λc o p _ L _ n=>l.extBut _ _ p (r _ _ L (f.extBut _ _ p n))) ⟨I,l.extBut _ _ G h,B⟩
def Ia(D:ZipApart z T O i j a b){p:Addr}{P:Obj}{g:Value}{Q:Fin->Shared->Prop}(J:A.handled=none)(d:si s.heap z T O (rawInt p) g)(I:s.heap.get? p=some P)(L:IsPair s.heap T (.ref i) (.ref j))(S:It t s.heap i a k)(G:Sq t s.heap a xs)(ex:xs[k]?=none)
  (q:∀h' e,Zp.Rest z O i j s.heap h'->(∃o,h'.get? e=some o/\o.cls=.type "StopIteration")->E (.ref e) {s with heap:=h'}):
  wpAny (model prog w) A (Builtin.«zip.__next__» ⟨[.ref z],[]⟩) Q E s:=by
 refine(?_:wpAny _ _ (field (.ref z) 2 >>= _) _ _ _)
 refine Qaq (QMq d rfl (x:=.bool false) rfl ?_)
 refine(?_:wpAny _ _ (field (.ref z) 3 >>= _) _ _ _)
 refine Qaq (QMq d rfl (x:=.ref T) rfl (Qaq (wpAny_seqItems L rfl ?_)))
 refine(?_:wpAny _ _ (Builtin.SmallTypes.ownedTupleIsFree (.ref z) >>= _) _ _ _)
 refine Qaq ?_
 unfold Builtin.SmallTypes.ownedTupleIsFree
 refine Qaq (QMq d rfl (x:=rawInt p) rfl ?_)
 refine(?_:wpAny _ _ (loadIfAlive ((p:Int).toNat) >>= _) _ _ _)
 refine Qaq ?_
 rw[Int.toNat_natCast]
 refine alive ?_
 rw[I]
 refine(?_:wpAny _ _ (field (.ref z) 1 >>= _) _ _ _)
 refine Qaq (QMq d rfl (x:=g) rfl ?_)
 have B:wpAny (model prog w) A (if (g !=Value.bool true)=true then(do let _←setField (.ref z) 1 (.bool true);pure false) else pure false)
   (λr C=>r=false/\∃f,C={s with heap:=f}/\si f z T O (rawInt p) (.bool true)/\Heap.SameBut z s.heap f) E s:=by
  by_cases c:(g !=Value.bool true)=true
  ·rw[Qhq c]
   exact Qaq (wpAny_setField_rec d (by simp) λf F l=>Qgq ⟨rfl,f,rfl,F,l⟩)
  ·rw[Quq c]
   have e:g=Value.bool true:=by simpa using c
   subst e
   exact Qgq ⟨rfl,s.heap,rfl,d,Heap.SameBut.refl _ _⟩
 refine QRq B (λr C m=> ?_) λ_ _ h=>h
 obtain⟨rfl,f,rfl,F,l⟩:=m
 simp only[Bool.false_eq_true,if_false]
 refine Qaq ?_
 simp only[List.forIn_toArray,List.forIn_cons,List.forIn_nil]
 refine Qaq (Qaq (QLq ?_))
 refine(?_:wpAny _ _ (Builtin.SmallTypes.nextOf (.ref i) >>= _) _ _ _)
 refine Qaq (zN J (S.ext l.extBut D.i1z) (G.ext l.extBut D.l1z) ex λH e N R=> ?_)
 exact q H e (λc o K _ M _ n=>N _ _ M (l.extBut _ _ K n)) R
def Zs(h:Heap)(z T O i j:Addr):Prop:=si h z T O .none (.bool false)/\(∃u v,IsPair h O u v)\/∃(p:Addr) (c:Obj) (d:Value),si h z T O (rawInt (p:Nat)) d/\h.get? p=some c/\p≠z/\p≠O/\p≠i/\p≠j
def Zs.but{h h':Heap}{S:Addr}(g:Zs h z T O i j)(f:∀c o,c≠S->h.get? c=some o->h'.get? c=some o)(e:z≠S)(F:O≠S)(B:∃o,h'.get? S=some o):Zs h' z T O i j:=by
 rcases g with⟨d,u,v,C⟩|⟨p,r,l,d,m,n⟩
 ·exact .inl ⟨f _ _ e d,u,v,f _ _ F C⟩
 ·by_cases c:p=S
  ·subst c
   obtain⟨o,q⟩:=B
   exact .inr ⟨p,o,l,f _ _ e d,q,n⟩
  ·exact .inr ⟨p,r,l,f _ _ e d,f _ _ c m,n⟩
def C9(D:ZipApart z T O i j a b){Q:Option Value->Shared->Prop}(d:Zs s.heap z T O i j)(N:IsPair s.heap T (.ref i) (.ref j))(C:It t s.heap i a k)(m:It t2 s.heap j b k)
  (G:Sq t s.heap a xs) (K:Sq t2 s.heap b ys) (ex:xs[k]?=some x) (P:ys[k]?=some y)
  (q:∀h',Zs h' z T O i j->It t h' i a (k+1)->It t2 h' j b (k+1)->IsPair h' s.heap.objs.size x y->Zp.Rest z O i j s.heap h'->Q (some (.ref s.heap.objs.size)) {s with heap:=h'}):
  wpAny (model prog w) A (pyNext (.ref z)) Q E s:=by
 unfold pyNext
 have g:∀{c o},s.heap.get? c=some o->s.heap.objs.size≠c:=λe=>Nat.ne_of_gt (Qiq e)
 obtain⟨Y,S,_⟩:=C.obj
 obtain⟨oj,U,_⟩:=m.obj
 rcases d with⟨d,u,v,R⟩|⟨p,W,X,d,L,M,J,H,I⟩
 ·have f:s.TypeIs (.ref z) "zip":=⟨_,d,rfl⟩
  exact Qaq (wpAny_attempt (QiQ (name:=Str.ofString "__next__") f F.slot_zip_next (wpAny_call_entry F.slot_zip_next f F.entry_zip_next
   (item D d N R C m G K ex P λh' B Z n r h l=>Qgq (q h' (.inr ⟨_,_,_,B,h,g d,g R,g S,g U⟩) n r h l)) (F.args_zip_next_1 _))))
 ·have f:s.TypeIs (.ref z) "zip":=⟨_,d,rfl⟩
  exact Qaq (wpAny_attempt (QiQ (name:=Str.ofString "__next__") f F.slot_zip_next (wpAny_call_entry F.slot_zip_next f F.entry_zip_next
   (again D d L N C m G K ex P λh' B n r h l=>Qgq (q h' (.inr ⟨p,W,_,B,l _ _ M J H I L,M,J,H,I⟩) n r h l)) (F.args_zip_next_1 _))))
def wZ(D:ZipApart z T O i j a b){Q:Option Value->Shared->Prop}(l:A.handled=none)(c:Zs s.heap z T O i j)(m:IsPair s.heap T (.ref i) (.ref j))(n:It t s.heap i a k)(h:Sq t s.heap a xs)(ex:xs[k]?=none)
  (q:∀h',Zp.Rest z O i j s.heap h'->Q none {s with heap:=h'}):wpAny (model prog w) A (pyNext (.ref z)) Q E s:=by
 unfold pyNext
 rcases c with⟨c,u,v,H⟩|⟨p,G,C,c,B,_⟩
 ·have d:s.TypeIs (.ref z) "zip":=⟨_,c,rfl⟩
  exact Qaq (wpAny_attempt (QiQ (name:=Str.ofString "__next__") d F.slot_zip_next (wpAny_call_entry F.slot_zip_next d F.entry_zip_next
   (stop D l c m n h ex λh' e r ⟨o,f,g⟩=>Qaq (wpAny_isInstance (T:="StopIteration") (b:=true) ⟨o,f,g⟩ isSubtype_stop (Qgq (q _ r)))) (F.args_zip_next_1 _))))
 ·have d:s.TypeIs (.ref z) "zip":=⟨_,c,rfl⟩
  exact Qaq (wpAny_attempt (QiQ (name:=Str.ofString "__next__") d F.slot_zip_next (wpAny_call_entry F.slot_zip_next d F.entry_zip_next
   (Ia D l c B m n h ex λh' e r ⟨o,f,g⟩=>Qaq (wpAny_isInstance (T:="StopIteration") (b:=true) ⟨o,f,g⟩ isSubtype_stop (Qgq (q _ r)))) (F.args_zip_next_1 _))))
end
def Kg(t:Bool):String:=if t=true then "tuple_iterator" else "list_iterator"
abbrev H1(t:Bool)(h:Heap)(a:Addr):Heap:=h.push {cls:=.type (Kg t),data:=.fields #[.ref a,.int 0 0]}
abbrev H2(t t2:Bool)(h:Heap)(a b:Addr):Heap:=(H1 t h a).push {cls:=.type (Kg t2),data:=.fields #[.ref b,.int 0 0]}
abbrev H3(t t2:Bool)(h:Heap)(a b:Addr):Heap:=(H2 t t2 h a b).push {cls:=.type "tuple",data:=.seq #[.ref h.objs.size,.ref (H1 t h a).objs.size]}
abbrev H4(t t2:Bool)(h:Heap)(a b:Addr):Heap:=(H3 t t2 h a b).push {cls:=.type "tuple",data:=.seq #[.none,.none]}
abbrev H5(t t2:Bool)(h:Heap)(a b:Addr):Heap:=(H4 t t2 h a b).push {cls:=.type "zip",data:=.fields #[.none,.bool false,.bool false,.ref (H2 t t2 h a b).objs.size,.ref (H3 t t2 h a b).objs.size]}
def Sq.push{t:Bool}{h:Heap}{a:Addr}{xs:Array Value}(g:Sq t h a xs)(o:Obj):Sq t (h.push o) a xs:=g.at λ_ e=>Qcq _ e
def Ba(t t2:Bool)(a b:Addr)(xs ys:Array Value):Meets (Builtin.«zip.__new__» ⟨[.type "zip",.ref a,.ref b],[]⟩) (λ_ R s=>Sq t s.heap a xs/\Sq t2 s.heap b ys/\R (.ok (.ret (.ref (H4 t t2 s.heap a b).objs.size))) {s with heap:=H5 t t2 s.heap a b}):=
 .of_wp λm w A R s h=>by
  obtain⟨i,g,d,e,f⟩:=s
  obtain⟨l,n,h⟩:=h
  have o:=sub_zip
  have c:=n.push {cls:=.type (Kg t),data:=.fields #[.ref a,.int 0 0]}
  cases t <;>cases t2
  ·have j:Heap.IsList (Shared.heap ⟨i,g,d,e,f⟩) a xs:=l
   have k:Heap.IsList (Shared.heap ⟨i.push {cls:=.type "list_iterator",data:=.fields #[.ref a,.int 0 0]},g,d,e,f⟩) b ys:=c
   wp_walk using wpAny_pyIter_list j,wpAny_pyIter_list k
   exact⟨_,rfl,h⟩
  ·have j:Heap.IsList (Shared.heap ⟨i,g,d,e,f⟩) a xs:=l
   have k:Heap.IsTuple (Shared.heap ⟨i.push {cls:=.type "list_iterator",data:=.fields #[.ref a,.int 0 0]},g,d,e,f⟩) b ys:=c
   wp_walk using wpAny_pyIter_list j,wpAny_pyIter_tuple k
   exact⟨_,rfl,h⟩
  ·have j:Heap.IsTuple (Shared.heap ⟨i,g,d,e,f⟩) a xs:=l
   have k:Heap.IsList (Shared.heap ⟨i.push {cls:=.type "tuple_iterator",data:=.fields #[.ref a,.int 0 0]},g,d,e,f⟩) b ys:=c
   wp_walk using wpAny_pyIter_tuple j,wpAny_pyIter_list k
   exact⟨_,rfl,h⟩
  ·have j:Heap.IsTuple (Shared.heap ⟨i,g,d,e,f⟩) a xs:=l
   have k:Heap.IsTuple (Shared.heap ⟨i.push {cls:=.type "tuple_iterator",data:=.fields #[.ref a,.int 0 0]},g,d,e,f⟩) b ys:=c
   wp_walk using wpAny_pyIter_tuple j,wpAny_pyIter_tuple k
   exact⟨_,rfl,h⟩
section
variable{prog:Program}{w:World}{A:Around}{E:Value->Shared->Prop}{s:Shared}
def Fz{t t2:Bool}{a b:Addr}{xs ys:Array Value}{Q:Value->Shared->Prop}(p:Sq t s.heap a xs)(r:Sq t2 s.heap b ys)
  (q:∀h',si h' (s.heap.objs.size+4) (s.heap.objs.size+2) (s.heap.objs.size+3) .none (.bool false)->IsPair h' (s.heap.objs.size+2) (.ref s.heap.objs.size) (.ref (s.heap.objs.size+1))->IsPair h' (s.heap.objs.size+3) .none .none→
   It t h' s.heap.objs.size a 0->It t2 h' (s.heap.objs.size+1) b 0->(∀c o,s.heap.get? c=some o->h'.get? c=some o)->Q (.ref (s.heap.objs.size+4)) {s with heap:=h'}):
  wpAny (model prog w) A (call (.type "zip") [.ref a,.ref b]) Q E s:=by
 refine callType_new F.called_zip (by decide) (F.typeCall_zip_2 _ _) (F.newCall_zip_2 _ _) (λf=>F.args_object_init_3 f _ _) F.entry_zip_new (Ba t t2 a b xs ys) ⟨p,r,?_⟩
 have g:(H1 t s.heap a).objs.size=s.heap.objs.size+1:=Heap.size_push ..
 have e:(H2 t t2 s.heap a b).objs.size=s.heap.objs.size+2:=by rw[Heap.size_push,g]
 have h:(H3 t t2 s.heap a b).objs.size=s.heap.objs.size+3:=by rw[Heap.size_push,e]
 have k:(H4 t t2 s.heap a b).objs.size=s.heap.objs.size+4:=by rw[Heap.size_push,h]
 have d:(H5 t t2 s.heap a b).get? (H4 t t2 s.heap a b).objs.size=some _:=Qrq _ rfl
 have l:(H5 t t2 s.heap a b).get? (H3 t t2 s.heap a b).objs.size=some _:=Qcq _ (Qrq _ rfl)
 have i:(H5 t t2 s.heap a b).get? (H2 t t2 s.heap a b).objs.size=some _:=Qcq _ (Qcq _ (Qrq _ rfl))
 have j:(H5 t t2 s.heap a b).get? (H1 t s.heap a).objs.size=some _:=Qcq _ (Qcq _ (Qcq _ (Qrq _ rfl)))
 have m:(H5 t t2 s.heap a b).get? s.heap.objs.size=some _:=Qcq _ (Qcq _ (Qcq _ (Qcq _ (Qrq _ rfl))))
 refine(?_:_/\_)
 rw[e,h,k] at d
 rw[g,e] at i
 rw[h] at l
 rw[g] at j
 rw[k]
 refine⟨⟨_,d,rfl⟩,q _ d i l ?_ ?_ λc o n=>Qcq _ (Qcq _ (Qcq _ (Qcq _ (Qcq _ n))))⟩
 ·cases t <;>exact⟨_,m,rfl,rfl⟩
 ·cases t2 <;>exact⟨_,j,rfl,rfl⟩
end
def oa:typeLookup (.type "zip") "__getattr__"=pure none:=by rw[typeLookup_type,builtinLookup_eq_fast];kernel_rfl
def iH:entryFor table "zip.__getattribute__"=some Builtin.«object.__getattribute__»:=
 entryFor_alias (id':="object.__getattribute__") (by kernel_rfl) (by decide +kernel) (by decide +kernel) (by kernel_rfl)
def pM:typeLookup (Value.type "zip") (Str.ofString "keys")=pure none:=by
 rw[typeLookup_type,builtinLookup_eq_fast]
 rfl
def qZ(a:Addr)(fs:Array Value)(name:Str)(u:Tok)(e:typeLookup (.type "zip") name=pure none)(b:(["__module__","__name__","__qualname__","__doc__","__annotations__"]:List Str).contains name=false)(hsz:name.length+100<=sizeLine:=by size_fits):
  Meets (Builtin.«object.__getattribute__» ⟨[.ref a,.str name u],[]⟩) (λA R s=>s.heap.get? a=some {cls:=.type "zip",dict:=none,data:=.fields fs,slots:= #[]}/\raisesAttr (.ref a) name A R s):=
 Meets.of_wp λf w A R s c=>by
  obtain⟨j,g,d,h,i⟩:=s
  obtain⟨k,c⟩:=c
  have l:(⟨j,g,d,h,i⟩:Shared).TypeIs (.ref a) "zip":=⟨_,k,rfl⟩
  unfold Builtin.«object.__getattribute__»
  repeat (any_goals (first|assumption|wp_step))
  simp only[b,Bool.false_eq_true,if_false]
  repeat (any_goals (first|assumption|wp_step))
  exact wpAny_raiseAttrError c.1 c.2 (attrMsg_fits (by decide +kernel) hsz)
def m9{prog:Program}{w:World}{A:Around}{E:Value->Shared->Prop}{s:Shared}{a:Addr}{fs:Array Value}{Q:Option Value->Shared->Prop}
  (j:s.heap.get? a=some {cls:=.type "zip",dict:=none,data:=.fields fs,slots:= #[]}) (p:A.handled=none)
  (h:∀(h':Heap) (i:Nat),(∀b o,s.heap.get? b=some o->h'.get? b=some o)->Q none {s with heap:=h',toks:=i}):
  wpAny (model prog w) A (getAttr? (.ref a) (Str.ofString "keys")) Q E s:=by
 obtain⟨q,g,d,i,k⟩:=s
 have n:∀x,Shared.TypeIs ⟨q,g,d,x,k⟩ (.ref a) "zip":=λx=>⟨_,j,rfl⟩
 have l:=sub_AttributeError
 have v:=F.slot_zip_getattribute.lookup
 have t:=F.slot_zip_getattribute.bind (Value.ref a)
 have r:=oa
 unfold getAttr? mkText getAttrBy? getAttrBy
 refine Qaq (Qaq (wpAny_fresh' (Qgq (Qaq (wpAny_attempt (QLq ?_))))))
 unfold typeOf
 refine Qaq (Qaq (wpAny_loadPart' j (Qgq (Qaq (wpAny_of_eq v (QgQ rfl ?_))))))
 unfold getAttrByItsOwn hookBefore
 refine Qaq (QgQ rfl (Qgq (Qaq (wpAny_attempt (QLq ?_)))))
 unfold callGetattribute
 refine QgQ rfl ?_
 unfold boundAndCalled
 refine Qaq (wpAny_of_eq t ?_)
 refine call_meets F.slot_zip_getattribute (n (i+1)) iH (F.args_zip_getattribute_2 (Value.ref a) _) (qZ a fs (Str.ofString "keys") i pM (by decide +kernel) (by decide +kernel)) ⟨j,p,λh' f e c=> ?_⟩
 obtain⟨y,z,u⟩:=c.there
 have m:Shared.TypeIs ⟨h',g,d,f,k⟩ (.ref e) "AttributeError":=⟨_,u,rfl⟩
 show wpAny _ _ (getattributeRaised _ _ _ _ _ _ _) _ _ _
 unfold getattributeRaised
 refine Qaq (wpAny_isInstance m l (wpAny_ite_true rfl ?_))
 unfold hookBehind hookOrError
 refine Qaq (QgQ rfl (wpAny_of_eq r ?_))
 show wpAny _ _ (attributeErrorLeaves _ _ _ _ _) _ _ _
 unfold attributeErrorLeaves
 refine wpAny_ite_true rfl (wpAny_throw ?_)
 exact Qaq (wpAny_isInstance m l (wpAny_ite_true rfl (Qgq (h h' f c.keeps))))
def sF{prog:Program}{w:World}{A:Around}{E:Value->Shared->Prop}{s:Shared}{z:Addr}{fs:Array Value}{Q:Value->Shared->Prop}
  (l:s.heap.get? z=some {cls:=.type "zip",dict:=none,data:=.fields fs,slots:= #[]}) (j:A.handled=none)
  (h:∀(h':Heap) (f:Nat),(∀b o,(s.heap.push {cls:=.type "dict",data:=.dict #[]}).get? b=some o->h'.get? b=some o)→
   wpAny (model prog w) A.in1.in1 (pyIter (.ref z)) (λit d=>codeAny (model prog w) A.in1 (.builtin "dict.update.loop" {pos:= [.ref s.heap.objs.size,it,rawInt 0,.none]}) (wants (λr c=>r=.none/\Q (.ref s.heap.objs.size) c) E) d) E {s with heap:=h',toks:=f}):
  wpAny (model prog w) A (call (.type "dict") [.ref z]) Q E s:=by
 refine Dk.jz ?_
 have m:=Qrq s.heap (o:={cls:=.type "dict",data:=.dict #[]}) rfl
 have i:Shared.TypeIs {s with heap:=s.heap.push {cls:=.type "dict",data:=.dict #[]}} (.ref s.heap.objs.size) "dict":=⟨_,m,rfl⟩
 have a:=Qcq {cls:=.type "dict",data:=.dict #[]} l
 have k:Shared.TypeIs {s with heap:=s.heap.push {cls:=.type "dict",data:=.dict #[]}} (.ref z) "zip":=⟨_,a,rfl⟩
 unfold Builtin.«dict.__init__» Builtin.Dict.selfAndRest
 refine Qaq (Qaq (wpAny_notOrdered_dict i ?_))
 refine Qaq (Qgq (Qgq ?_))
 show wpAny _ _ (Builtin.Dict.updateFrom _ _ _ _ _) _ _ _
 unfold Builtin.Dict.updateFrom
 refine Qaq (wpAny_typeOf k (wpAny_ite_true (by decide +kernel) (Qaq (m9 a (by simpa using j) λh' f g=> ?_))))
 refine wpAny_ite_true rfl ?_
 refine Qaq (wpAny_rule (Qaq (QRq (h h' f g) (λit d q=> ?_) λe d q=>q)))
 exact Qgq ⟨plainId_quiet (by decide +kernel) _,q⟩
end Zq
namespace Zq
open PySem Dk
section
variable{prog:Program}{w:World}{K:Type}[DecidableEq K]{knd:KeyKind prog w K}{z T O i j a b S:Addr}{t t2:Bool}{xs ys:Array Value}
def yJ{A:Around}{R:Result->Shared->Prop}(hA:A.in1.handled=none)(D:ZipApart z T O i j a b)(nS:S≠z/\S≠T/\S≠O/\S≠i/\S≠j/\S≠a/\S≠b)(a4:a≠T/\b≠T)(f:Nat->K)(x:∀(n:Nat) v,xs[n]?=some v->knd.is (f n) v=true)(a5:xs.size<=ys.size)(hn:xs.size<=sizeLine):
  ∀ (m n:Nat) (c:Int) (s:Shared),xs.size-n=m->n<=xs.size->Zs s.heap z T O i j->IsPair s.heap T (.ref i) (.ref j)->It t s.heap i a n->It t2 s.heap j b n->Sq t s.heap a xs->Sq t2 s.heap b ys->Heap.DictOf knd s.heap S (Ay f (λn=>ys.getD n .none) n)→
    (∀h' W,Heap.DictOf knd h' S (Ay f (λn=>ys.getD n .none) xs.size)->(∀c o,c≠z->c≠O->c≠i->c≠j->c≠S->s.heap.get? c=some o->h'.get? c=some o)->R (.ok (.ret .none)) {s with heap:=h',toks:=W})→
    codeAny (model prog w) A (.builtin "dict.update.loop" {pos:= [.ref S,.ref z,rawInt c,.none]}) R s:=by
 obtain⟨n1,n2,N,P,J,n6,n7⟩:=nS
 intro m
 induction m with
 | zero=>
   intro n c s hm a2 I B gi gj y M G h
   have e:n=xs.size:=by omega
   subst e
   refine codeAny_builtin fM ?_
   rw[Around.under_plainId dh]
   show wpAny _ _ (do let __x←pyNext (.ref z);_) _ _ _
   refine Qaq (wZ D hA I B gi y (by simp) λh' r=> ?_)
   refine Qaq (Qgq (Qgq (h h' s.toks ?_ λc o g l p k _ e=>r c o g l p k e)))
   obtain⟨o,es,ep,Y,L⟩:=G
   exact⟨o,es,ep,r _ _ n1 N P J Y,L⟩
 | succ m ih=>
   intro n c s hm a2 I B gi gj y M G h
   have u:n<xs.size:=by omega
   have ex:xs[n]?=some xs[n]:=by simp[u]
   have ey:ys[n]?=some ys[n]:=by simp[show n<ys.size by omega]
   refine codeAny_builtin fM ?_
   rw[Around.under_plainId dh]
   show wpAny _ _ (do let __x←pyNext (.ref z);_) _ _ _
   refine Qaq (C9 D I B gi gj y M ex ey λhp a0 Q H gp r=> ?_)
   have a1:Heap.DictOf knd hp S (Ay f (λn=>ys.getD n .none) n):=by
     obtain⟨o,es,ep,Y,L⟩:=G
     exact⟨o,es,ep,r _ _ n1 N P J Y,L⟩
   refine Qaq (QLq (Qaq (wpAny_tryCatch ?_)))
   unfold Builtin.Dict.pairItems
   refine Qaq (wpAny_typeOf (T:="tuple") ⟨_,gp,rfl⟩ (wpAny_ite_true rfl (Qaq ?_)))
   unfold seqItems?
   refine Qaq (wpAny_load' gp (Qgq (Qgq (QLq (wpAny_dictSet_pairs (x n _ ex) a1 (λh' q hs=> ?_) (QAq (vP f _ n) (by omega)))))))
   have ev:ys.getD n .none=ys[n]:=by simp[Array.getD,show n<ys.size by omega]
   have F:∀c o,c≠S->hp.get? c=some o->h'.get? c=some o:=λc o hc e=>by rw[hs.2 c hc];exact e
   have d:∀c o,c≠z->c≠O->c≠i->c≠j->c≠S->s.heap.get? c=some o->h'.get? c=some o:=λc o g l p k C e=>F c o C (r c o g l p k e)
   have Z:∃o,h'.get? S=some o:=by obtain⟨o,_,_,e,_⟩:=q;exact⟨o,e⟩
   have X:Heap.DictOf knd h' S (Ay f (λn=>ys.getD n .none) (n+1)):=by
     show Heap.DictOf knd h' S (stored _ (f n) (ys.getD n .none))
     rw[ev]
     exact q
   refine Qgq ⟨plainId_quiet dh _,ih (n+1) (c+1) _ (by omega) u (a0.but F n1.symm N.symm Z) ?_ (Q.at λo e=>F _ o P.symm e) (H.at λo e=>F _ o J.symm e) ?_ ?_ X λU W a3 k4=>h U W a3 λc o g l p k C e=>k4 c o g l p k C (d c o g l p k C e)⟩
   · exact d _ _ D.TIz D.TITO D.TIi1 D.TIi2 n2.symm B
   · exact y.at λo e=>d _ o D.l1z D.l1TO D.l1i1 D.l1i2 n6.symm e
   · exact M.at λo e=>d _ o D.l2z D.l2TO D.l2i1 D.l2i2 n7.symm e
end
end Zq
namespace L2
open PySem PySem.Spec PyProof.Rows Zq
section
variable{X:Cx}
def xA(K:PySem.W.Frag)(t:Bool)(H:Hp)(a:Addr)(xs:List V):Prop:=if t=true then gM K H a xs else gx K H a xs
def Inv.sq{c:List (Addr×Obj)}{d:St}{H:Hp}{s:Shared}{t:Bool}{a:Addr}{xs:List V}(I:Inv X c d H s)(h:xA X.K t H a xs):∃b:List Value,bo xs b/\Sq t s.heap a b.toArray/\xs.length<=sizeLine:=by
 cases t with
 | true=>
   obtain⟨b,r,p,z⟩:=I.tuple h
   exact⟨b,r,(show s.heap.IsTuple a b.toArray from p),z⟩
 | false=>
   obtain⟨b,r,p,z⟩:=I.list h
   exact⟨b,r,(show s.heap.IsList a b.toArray from p.isList),z⟩
def Sq.lt{t:Bool}{h:Heap}{a:Addr}{xs:Array Value}(g:Sq t h a xs):a<h.objs.size:=by
 cases t with
 |true=>obtain⟨o,e,_⟩:=(show h.IsTuple a xs from g);exact Qiq e
 |false=>obtain⟨o,e,_⟩:=(show h.IsList a xs from g);exact Qiq e
def G1(K:PySem.W.Frag):List V->Hp->VK->Prop:=λf H Q=>∃(t e:Bool) (a b:Addr) (d:List Key) (c:List V),f= [.ref a,.ref b]/\xA K t H a (d.map kV)/\xA K e H b c/\d.length=c.length/\∀p,H p=none->Q (.ref p) (upd H p (.dK (eC [] (d.zip c))))
def ye{x y:Expr}{ta:TA}{p1 R c1 J:Pos}(B:X.calm=true)(a0:Gl X "dict")(a1:X.mg "dict"=none)(hg:Gl X "zip")(hm:X.mg "zip"=none)(ha:PA X [x,y] ta)(hs:starEach [x,y] X.env= [(false,eval x X.env),(false,eval y X.env)]:=by rfl)(L:starEach [y] X.env= [(false,eval y X.env)]:=by rfl)
  (he:starEach [Expr.Call (.Name "zip" R) [x,y] [] J] X.env= [(false,eval (Expr.Call (.Name "zip" R) [x,y] [] J) X.env)]:=by rfl):
  PE X (.Call (.Name "dict" p1) [.Call (.Name "zip" R) [x,y] [] J] [] c1) (J4 (G1 X.K) ta):=by
 intro C s σ H Q I h
 refine wpAny_Call_Name_kw (jM I a0 a1 (by rfl) ?_)
 refine PyProof.Rows.callWith_type1 ?_ he rfl
 rw[he]
 show wpAny _ _ (spliced ((false,eval (Expr.Call (.Name "zip" R) [x,y] [] J) X.env)::backTo c1 (starEach [] X.env))) _ _ s
 refine Calls.spliced_cons ?_
 refine wpAny_Call_Name_kw (jM I hg hm (by rfl) ?_)
 refine PyProof.Rows.callWith_type1 (bZ (ha J C s σ H _ I h) λus j ⟨vs,H1,F,r1,q1⟩=> ?_) (by rw[hs,L]) (by rw[L];rfl)
 obtain⟨t,t2,a,b,d,ys,e,qa,qb,hl,q⟩:=q1
 subst e
 cases r1 with
 | cons r rr=>
   cases rr with
   | cons r' rr=>
     cases rr
     cases r
     cases r'
     obtain⟨z,ra,pa,za⟩:=F.sq qa
     obtain⟨m,rb,pb,zb⟩:=F.sq qb
     have lx:=Sq.lt pa
     have ly:=Sq.lt pb
     have la:=ra.length
     have lb:=rb.length
     rw[lQm] at la
     refine Zq.Fz pa pb λg S gT gO gi gj Y=>Calls.spliced_nil ?_
     have I2:Inv X C σ H1 {j with heap:=g}:=F.kept (t':=j.toks) Y
     refine Zq.sF S (F.ok.hd B) λU tk Z=> ?_
     have p:∀c o,g.get? c=some o->U.get? c=some o:=λc o e=>Z c o (Qcq _ e)
     have a5:U.get? g.objs.size=some {cls:=.type "dict",data:=.dict #[]}:=Z _ _ (Qrq g rfl)
     refine wpAny_pyIter_zip (p _ _ S) ?_
     have DD:=PyProof.Rows.zipApart_new lx ly
     have f:j.heap.objs.size+4<g.objs.size:=Qiq S
     have P:∀(n:Nat) k,d[n]?=some k->d.getD n (.inl 0)=k:=λn k e=>by rw[Qlq,e];rfl
     have G:∀c,c<j.heap.objs.size->c≠j.heap.objs.size+4/\c≠j.heap.objs.size+3/\c≠j.heap.objs.size/\c≠j.heap.objs.size+1/\c≠g.objs.size:=λc B=>
       ⟨Qwq (Qqq B (Nat.le_add_right _ _)),Qwq (Qqq B (Nat.le_add_right _ _)),Qwq B,Qwq (Qqq B (Nat.le_add_right _ _)),Qwq (Nat.lt_trans (Qqq B (Nat.le_add_right _ 4)) f)⟩
     refine Zq.yJ (knd:=aX X.prog X.w) (t:=t) (t2:=t2) (xs:=z.toArray) (ys:=m.toArray) (show X.A.in1.in1.handled=none from F.ok.hd B) DD ?_ ?_ (λn=>d.getD n (.inl 0)) ?_ (by simp;omega) (by simp;omega) z.toArray.size 0 0 _ rfl (Nat.zero_le _)
       (.inl ⟨p _ _ S,_,_,p _ _ gO⟩) (p _ _ gT) (gi.at λo e=>p _ o e) (gj.at λo e=>p _ o e) (pa.at λo e=>p _ o (Y _ o e)) (pb.at λo e=>p _ o (Y _ o e)) ?_ ?_
     · refine⟨Nat.ne_of_gt f,Nat.ne_of_gt (Nat.lt_trans ?_ f),Nat.ne_of_gt (Nat.lt_trans ?_ f),Nat.ne_of_gt (Nat.lt_trans ?_ f),Nat.ne_of_gt (Nat.lt_trans ?_ f),(G _ lx).2.2.2.2.symm,(G _ ly).2.2.2.2.symm⟩ <;>(show _<j.heap.objs.size+4) <;>omega
     · exact⟨Qwq (Qqq lx (Nat.le_add_right _ _)),Qwq (Qqq ly (Nat.le_add_right _ _))⟩
     · intro n v hv
       have N:z[n]?=some v:=by simpa using hv
       have hn:n<d.length:=by
         have:=(gQs.mp N).1
         omega
       have M:=gQe hn
       obtain⟨u,W,ru⟩:=ra.get (i:=n) (x:=kV d[n]) (by rw[gQm,M];rfl)
       rw[N] at W
       cases W
       show(aX X.prog X.w).is (d.getD n (.inl 0)) v=true
       rw[P n _ M]
       exact key_is ru _ _
     · obtain⟨o,es,ep,e1,e2⟩:=Heap.DictOf.new (knd:=aX X.prog X.w) g
       exact⟨o,es,ep,Z _ _ e1,e2⟩
     · intro h3 a3 dd k3
       have a2:g.objs.size≠sysModules:=by
         have:=I2.big
         exact Nat.ne_of_gt this
       have le:j.heap.objs.size<=g.objs.size:=nQl (Nat.lt_of_le_of_lt (Nat.le_add_right _ 4) f)
       refine⟨rfl,.ref g.objs.size,_,F.laid (a:=g.objs.size) (o:=.dK (eC [] (d.zip ys))) (t':=a3) (h':=h3) (λc o e=> ?_) le (kS ?_ (beq_eq_false_iff_ne.mpr a2) ?_ dd),rfl,q _ (F.hok.fresh le)⟩
       · obtain⟨o1,o2,o3,o4,o5⟩:=G c (Qiq e)
         exact k3 c o o1 o2 o3 o4 o5 (p c o (Y c o e))
       · have:=dR (d.zip ys) []
         rw[QGq,List.length_zip] at this
         omega
       · have a4:∀n,n<=d.length->KV (eC [] ((d.zip ys).take n)) (Dk.Ay (λn=>d.getD n (.inl 0)) (λn=>m.toArray.getD n .none) n):=by
           intro n
           induction n with
           |zero=>intro _;exact .nil
           | succ n ih=>
             intro hn
             have M:=gQe (l:=d) (i:=n) (by omega)
             have hy:=gQe (l:=ys) (i:=n) (by omega)
             obtain⟨u,W,ru⟩:=rb.get hy
             have ez:(d.zip ys)[n]?=some (d[n],ys[n]):=by rw[List.getElem?_zip_eq_some];exact⟨M,hy⟩
             have e3:(d.zip ys).take (n+1)=(d.zip ys).take n++ [(d[n],ys[n])]:=by rw[QYq,ez];rfl
             have eu:m.toArray.getD n .none=u:=by
               have:=(gQs.mp W)
               obtain⟨g,U⟩:=this
               simp[Array.getD,g,U]
             rw[e3]
             show KV (List.foldl _ [] ((d.zip ys).take n++ [(d[n],ys[n])])) (stored _ (d.getD n (.inl 0)) (m.toArray.getD n .none))
             rw[List.foldl_append,P n _ M,eu]
             exact(ih (by omega)).put d[n] ru
         have:=a4 d.length (Qmq _)
         have e4:(d.zip ys).take d.length=d.zip ys:=by
           have:(d.zip ys).length=d.length:=by rw[List.length_zip];omega
           rw[←this,QEq]
         rw[e4] at this
         have e5:z.toArray.size=d.length:=by simp;omega
         rw[e5]
         exact this
end
end L2
namespace Zq
open PySem
section
variable{prog:Program}{w:World}{A:Around}{E:Value->Shared->Prop}{s:Shared}{t t2:Bool}{z T O i j a b:Addr}{k:Nat}{xs ys:Array Value}{x y u v:Value}
def Bd(D:ZipApart z T O i j a b){Q:Option Value->Shared->Prop}(c:si s.heap z T O .none (.bool false))(n:IsPair s.heap T (.ref i) (.ref j))(C:IsPair s.heap O u v)(G:It t s.heap i a k)(g:It t2 s.heap j b k)
  (e:Sq t s.heap a xs) (f:Sq t2 s.heap b ys) (ex:xs[k]?=some x) (B:ys[k]?=some y)
  (q:∀h',si h' z T O (rawInt s.heap.objs.size) (.bool false)->IsPair h' O x y->It t h' i a (k+1)->It t2 h' j b (k+1)->IsPair h' s.heap.objs.size x y->Zp.Rest z O i j s.heap h'->Q (some (.ref s.heap.objs.size)) {s with heap:=h'}):
  wpAny (model prog w) A (pyNext (.ref z)) Q E s:=by
 have d:s.TypeIs (.ref z) "zip":=⟨_,c,rfl⟩
 unfold pyNext
 exact Qaq (wpAny_attempt (QiQ (name:=Str.ofString "__next__") d F.slot_zip_next (wpAny_call_entry F.slot_zip_next d F.entry_zip_next
  (item D c n C G g e f ex B λh' p r h m l o=>Qgq (q h' p r h m l o)) (F.args_zip_next_1 _))))
end
end Zq
namespace L2
open PySem PySem.Spec PyProof.Rows Zq
def Inv.sq_inj{X:Cx}{b:List (Addr×Obj)}{c:St}{H:Hp}{s:Shared}{t:Bool}{a:Addr}{xs ys:List V}(I:Inv X b c H s)(h:xA X.K t H a xs)(h':xA X.K t H a ys):xs=ys:=by
 cases t with
 |true=>exact I.tuple_inj h h'
 |false=>exact I.list_inj h h'
def L3(K:PySem.W.Frag)(t t2:Bool)(a b:Addr):It:=
  ⟨λi H=>∃c d x y,xA K t H a c/\xA K t2 H b d/\c[i]?=some x/\d[i]?=some y,
   λi H v e=>∃p,v=.ref p/\H p=none/\∀c d x y,xA K t H a c->xA K t2 H b d->c[i]?=some x->d[i]?=some y->e=upd H p (.tup [x,y]),
   λi H=>∃c,xA K t H a c/\c.length<=i⟩
def BC{P:Program}{w:World}{K:PySem.W.Frag}{C:List Expr}{x1:Nat}{tp:Pos}{t t2:Bool}{z T O i j a b:Addr}(D:ZipApart z T O i j a b):
  Turn P w K (.Tuple C x1 tp) (L3 K t t2 a b) [z,T,O,i,j] z (λn h=>si h z T O .none (.bool false)/\IsPair h T (.ref i) (.ref j)/\(∃u v,IsPair h O u v)/\Zq.It t h i a n/\Zq.It t2 h j b n) where
 mem:=by simp
 obj:=λn h ⟨f,g,⟨u,v,l⟩,m,q⟩ c d=>by
  simp at d
  rcases d with rfl|rfl|rfl|rfl|rfl
  ·exact⟨_,f,λv n=>by cases n⟩
  ·exact⟨_,g,λv n=>by cases n⟩
  ·exact⟨_,l,λv n=>by cases n⟩
  ·exact m.obj
  ·exact q.obj
 keep:=λn h h' ⟨f,g,⟨u,v,l⟩,m,q⟩ k=>⟨k z (by simp) _ f,k T (by simp) _ g,⟨u,v,k O (by simp) _ l⟩,m.at λo e=>k i (by simp) o e,q.at λo e=>k j (by simp) o e⟩
 item:=by
  rintro X S R Z d n p s σ H E I G ⟨f,g,⟨u,v,l⟩,m,q⟩ Q
  subst S R Z
  obtain⟨xs,ys,x,y,F,qb,M,hy⟩:=Q
  obtain⟨Y,N,U,_⟩:=I.sq F
  obtain⟨a0,rb,pb,_⟩:=I.sq qb
  obtain⟨ux,ex,rx⟩:=N.get M
  obtain⟨uy,ey,ry⟩:=rb.get hy
  have B:∀{c o},s.heap.get? c=some o->c≠s.heap.objs.size:=λe=>Qwq (Qiq e)
  have A:∀c∈[z,T,O,i,j],c≠s.heap.objs.size:=λc d=>by
   obtain⟨oi,e1,_⟩:=m.obj
   obtain⟨oj,e2,_⟩:=q.obj
   simp at d
   rcases d with rfl|rfl|rfl|rfl|rfl
   ·exact B f
   ·exact B g
   ·exact B l
   ·exact B e1
   ·exact B e2
  refine Zq.Bd D f g l m q U pb (x:=ux) (y:=uy) (by simpa using ex) (by simpa using ey) λh1 z1 O1 i1 j1 n1 J=>⟨_,rfl,?_⟩
  have T1:=J _ _ D.TIz D.TITO D.TIi1 D.TIi2 g
  refine wpAny_letOwnedTupleGo_zip z1 λh2 z2 r=> ?_
  have I2:Inv X p σ (upd H s.heap.objs.size (.tup [x,y])) {s with heap:=h2}:=I.turnedNew (t':=s.toks) (fp:= [z,T,O,i,j]) G (λc o d e=> ?_) (Qmq _) ?_
  ·refine⟨.ref s.heap.objs.size,_,I2,rfl,⟨s.heap.objs.size,rfl,I.hok.fresh (Qmq _),λa1 a2 x' y' q1 q2 L q4=> ?_⟩,⟨z2,r.extBut _ _ D.TIz T1,⟨_,_,r.extBut _ _ D.TOz O1⟩,i1.ext r.extBut D.i1z,j1.ext r.extBut D.i2z⟩,λc d=> ?_⟩
   ·rw[I.sq_inj q1 F] at L
    rw[I.sq_inj q2 qb] at q4
    rw[M] at L
    rw[hy] at q4
    cases L
    cases q4
    rfl
   ·rw[aM (A c d)]
    exact(G c d).1
  ·simp at d
   exact r.extBut _ _ d.1 (J c o d.1 d.2.2.1 d.2.2.2.1 d.2.2.2.2 e)
  ·exact⟨by show 2<=_;decide,[ux,uy],.cons rx (.cons ry .nil),_,r.extBut _ _ (λe=>A z (by simp) e.symm) n1,rfl,rfl,0,rfl⟩
 done:=by
  rintro X S R Z d n p s σ H E I G ⟨f,g,⟨u,v,l⟩,m,q⟩ Q
  subst S R Z
  obtain⟨xs,F,M⟩:=Q
  obtain⟨Y,N,U,_⟩:=I.sq F
  have hl:=N.length
  refine Zq.wZ D (I.ok.hd d) (.inl ⟨f,u,v,l⟩) g m U (by simp;omega) λh1 J=>⟨rfl,I.turnedL (t':=s.toks) (fp:= [z,T,O,i,j]) G λc o d e=> ?_⟩
  simp at d
  exact J c o d.1 d.2.2.1 d.2.2.2.1 d.2.2.2.2 e
 self:=λ_ _ _ _ _ ⟨f,_⟩ h=>wpAny_pyIter_zip f h
section
variable{X:Cx}
def Mq(K:PySem.W.Frag)(g:TA):TI:=λh H R=>g h H λd H1=>∃(t c:Bool) (a b:Addr) (f e:List V),d= [.ref a,.ref b]/\xA K t H1 a f/\xA K c H1 b e/\R (L3 K t c a b) H1
def Ed{d:List Expr}{x1:Nat}{Q:Pos}{a b:Expr}{n:TA}{p pos:Pos}(B:Gl X "zip")(U:X.mg "zip"=none)(W:PA X [a,b] n)(hs:starEach [a,b] X.env= [(false,eval a X.env),(false,eval b X.env)]:=by rfl)(g:starEach [b] X.env= [(false,eval b X.env)]:=by rfl):
  PI X (.Tuple d x1 Q) (.Call (.Name "zip" p) [a,b] [] pos) (Mq X.K n):=by
 intro i s S H R I h
 refine Call_ (jM I B U (by rfl) (PyProof.Rows.callWith_type1 (bZ (W pos i s S H _ I h) λus u ⟨vs,H1,f,A,M⟩=> ?_) (by rw[hs,g]) (by rw[g];rfl)))
 obtain⟨t,t2,x,y,xs,ys,e,Y,F,q⟩:=M
 subst e
 cases A with
 | cons r j=>
   cases j with
   | cons z j=>
     cases j
     cases r
     cases z
     obtain⟨L,ra,v,_⟩:=f.sq Y
     obtain⟨N,rb,o,_⟩:=f.sq F
     have G:=Sq.lt v
     have C:=Sq.lt o
     refine Zq.Fz v o λh' l P Z gi J k=> ?_
     refine wpAny_pyIter_zip l ⟨_,_,_,_,H1,rfl,f.kept (t':=u.toks) k,BC (PyProof.Rows.zipApart_new G C),⟨l,P,⟨_,_,Z⟩,gi,J⟩,λc w=> ?_,q⟩
     have m:u.heap.objs.size<=c:=by
       simp only[Qsq,QXq,or_false] at w
       rcases w with e|e|e|e|e <;>(rw[e];first|exact Qmq _|exact Nat.le_add_right _ _)
     exact f.fpOk m (f.hok.fresh m)
end
end L2
namespace DL
open PySem PySem.Spec PyProof.Rows L2
def yo.sqB{M:Md}{ρ:List Addr}{H:Hp}{a:Addr}{vs:List V}{t:Tag}(h:yo M ρ H a vs t):L2.xA M.K (!t.isL) H a vs:=by
 cases c:t.isL with
 |true=>exact h.sqL c
 |false=>exact h.sqT c
def w_(xs ys:List D):List D:=List.zipWith (λx y=>D.tup [x,y]) xs ys
open Classical in
def DB(f g:dQ):sm:=λb S=>(f b S).bind λ(p,c)=>(g b c).bind λ(r,a)=>if p.2.stays a p.1/\p.1.length<=r.1.length then some ((w_ p.1 r.1,λS=>p.2.stays S p.1/\r.2.stays S r.1),a) else none
section
variable{X:Cx}{a b c e:Expr}{pos:Pos}{st:Stmt}
def Lr{m:List Expr}{s:Nat}{tp p:Pos}{f g:dQ}(hg:Gl X "zip")(hm:X.mg "zip"=none)(ha:PE X a (tQ (md X) f))(hb:PE X b (tQ (md X) g))(hs:starEach [a,b] X.env= [(false,eval a X.env),(false,eval b X.env)]:=by rfl)(j:starEach [b] X.env= [(false,eval b X.env)]:=by rfl):
  PI X (.Tuple m s tp) (.Call (.Name "zip" p) [a,b] [] pos) (tI (md X) (DB f g)):=J8 (Ed hg hm (cC ha (cC hb eQ j) (by rw[hs,j])) hs j) λσ H R ⟨ρ,L,S,ds,W,S',ok,e,q⟩=>by
 obtain⟨⟨⟨o,t1⟩,U⟩,e1,e⟩:=aq e
 obtain⟨⟨⟨l,t2⟩,S2⟩,e2,e⟩:=aq e
 dsimp only at e
 split at e
 ·rename_i c
  obtain⟨e3,rfl⟩:=bN e
  obtain⟨rfl,rfl⟩:=Prod.mk.inj e3
  refine⟨ρ,L,S,o,t1,U,ok,e1,λt a1 a0 H1 s F h1 r1=>⟨t,L,U,l,t2,S2,ok.to s F,e2,λa3 b1 ws H2 K n M r2=> ?_⟩⟩
  obtain⟨A,J,r3⟩:=h1.to r1 K n c.1
  refine⟨_,_,a1,b1,A,ws,rfl,J.sqB,M.sqB,q _ _ _ (s.trans K) n λi a2 S3 H3 P k w=> ?_⟩
  obtain⟨B,G,Y⟩:=J.to r3 P k w.1
  obtain⟨N,Z,g4⟩:=M.to r2 P k w.2
  refine⟨λd h=> ?_,λhi=>⟨B,G.sqB,?_⟩⟩
  ·unfold w_ at h
   rw[List.getElem?_zipWith] at h
   cases r:o[i]? with
   |none=>rw[r] at h;cases h
   | some x=>
     cases C:l[i]? with
     |none=>rw[r,C] at h;cases h
     | some y=>
       rw[r,C] at h
       cases h
       obtain⟨u,Q,ru⟩:=Y.get r
       obtain⟨z,I,rz⟩:=g4.get C
       refine⟨⟨B,N,u,z,G.sqB,Z.sqB,Q,I⟩,λv H4 hv=> ?_⟩
       obtain⟨p,rfl,hp,hq⟩:=hv
       have:=hq B N u z G.sqB Z.sqB Q I
       subst this
       exact⟨bJ.laid hp,k.lay hp,.tup bp ((aU.cons ru (.cons rz .nil)).ext (bJ.laid hp))⟩
  ·rw[hi]
   unfold w_
   rw[List.length_zipWith,Y.length.symm]
   have:=c.2
   omega
 ·cases e
end
def kh:D->Option Key
 |.int i=>some (.inl i)
 |.str x=>some (.inr x)
 |_=>none
def j0{M:Md}{ρ:List Addr}{H:Hp}{d:D}{v:V}{k:Key}(r:Rel M ρ H d v)(e:kh d=some k):v=kV k:=by
 cases r <;>simp[kh] at e <;>subst e <;>rfl
def v7:List D->Option (List Key)
 | []=>some []
 |d::r=>(kh d).bind λk=>(v7 r).bind λa=>some (k::a)
theorem w4{M:Md}{ρ:List Addr}{H:Hp}:∀{ds:List D} {vs:List V} {a:List Key},aU M ρ H ds vs->v7 ds=some a->vs=a.map kV
 |_,_,_,.nil,e=>by cases e;rfl
 | _,_,_,.cons h hs,e=>by
   obtain⟨k,b,e⟩:=aq e
   obtain⟨a,c,e⟩:=aq e
   cases e
   rw[j0 h b,w4 hs c]
   rfl
def dv(kvs:List (Key×D))(k:Key):Option D:=(kvs.find? λa=>decide (a.1=k)).map (·.2)
def putD(kvs:List (Key×D))(k:Key)(v:D):List (Key×D):=
 if (kvs.any λa=>decide (a.1=k))=true then kvs.map (λa=>if a.1=k then(a.1,v) else a) else kvs++ [(k,v)]
def aK(kvs more:List (Key×D)):List (Key×D):=more.foldl (λa b=>putD a b.1 b.2) kvs
section
variable{M:Md}{ρ:List Addr}{H:Hp}
theorem bB.append:∀{l m:List (Key×D)} {kv kw:List (Key×V)},bB M ρ H l kv->bB M ρ H m kw->bB M ρ H (l++m) (kv++kw)
 | [],_,_,_,h,h'=>by cases h;exact h'
 |(_,_)::_,_,_,_,⟨v,t,e,h,hs⟩,h'=>by subst e;exact⟨v,_,rfl,h,bB.append hs h'⟩
theorem bB.any:∀{l:List (Key×D)} {kv:List (Key×V)} (k:Key),bB M ρ H l kv->(l.any λp=>decide (p.1=k))=kv.any λp=>decide (p.1=k)
 | [],_,_,h=>by cases h;rfl
 |(_,_)::_,_,k,⟨v,t,e,h,hs⟩=>by subst e;simp only[List.any_cons,bB.any k hs]
theorem bB.mapP{d:D}{v:V}{k:Key}(r:Rel M ρ H d v):∀{l:List (Key×D)} {kv:List (Key×V)},bB M ρ H l kv->bB M ρ H (l.map λp=>if p.1=k then(p.1,d) else p) (kv.map λp=>if p.1=k then(p.1,v) else p)
 | [],_,h=>by cases h;rfl
 | (k',_)::_,_,⟨u,t,e,h,hs⟩=>by
   subst e
   simp only[QDq]
   by_cases c:k'=k
   · simp only[c,if_true];exact⟨v,_,rfl,r,bB.mapP r hs⟩
   · simp only[c,if_false];exact⟨u,_,rfl,h,bB.mapP r hs⟩
def bB.put{l:List (Key×D)}{kv:List (Key×V)}{k:Key}{d:D}{v:V}(h:bB M ρ H l kv)(r:Rel M ρ H d v):bB M ρ H (putD l k d) (putK kv k v):=by
 unfold putD putK
 rw[h.any k]
 split
 ·exact h.mapP r
 ·exact h.append ⟨v,[],rfl,r,rfl⟩
theorem bB.merge:∀{m:List (Key×D)} {kw:List (Key×V)} {l:List (Key×D)} {kv:List (Key×V)},bB M ρ H m kw->bB M ρ H l kv->bB M ρ H (aK l m) (eC kv kw)
 | [],_,_,_,h,h'=>by cases h;exact h'
 | (k,d)::m,_,_,_,⟨v,t,e,h,hs⟩,h'=>by
   subst e
   unfold aK eC
   rw[List.foldl_cons,List.foldl_cons]
   exact bB.merge (m:=m) (kw:=t) hs (h'.put h)
theorem bB.zip:∀{a:List Key} {ds:List D} {vs:List V},aU M ρ H ds vs->bB M ρ H (a.zip ds) (a.zip vs)
 | [],_,_,_=>rfl
 |_::_,_,_,.nil=>rfl
 |k::a,_,_,.cons h hs=>⟨_,_,rfl,h,bB.zip hs⟩
theorem bB.val:∀{l:List (Key×D)} {kv:List (Key×V)} {k:Key} {d:D},bB M ρ H l kv->dv l k=some d->∃v,ke kv k=some v/\Rel M ρ H d v
 | [],_,_,_,_,e=>by cases e
 | (k',d')::_,_,k,d,⟨v,t,e,h,hs⟩,e'=>by
   subst e
   unfold dv at e'
   unfold ke
   rw[List.find?_cons] at e'⊢
   by_cases c:k'=k
   · simp only[c,decide_true] at e'⊢
     cases e'
     exact⟨v,rfl,h⟩
   · simp only[c,decide_false] at e'⊢
     exact bB.val hs e'
theorem bB.noval:∀{l:List (Key×D)} {kv:List (Key×V)} {k:Key},bB M ρ H l kv->dv l k=none->ke kv k=none
 | [],_,_,h,_=>by cases h;rfl
 | (k',d')::_,_,k,⟨v,t,e,h,hs⟩,e'=>by
   subst e
   unfold dv at e'
   unfold ke
   rw[List.find?_cons] at e'⊢
   by_cases c:k'=k
   · simp only[c,decide_true] at e';cases e'
   · simp only[c,decide_false] at e'⊢
     exact bB.noval hs e'
def bB.ext'{a:List Addr}{b:Hp}{l:List (Key×D)}{kv:List (Key×V)}(h:bB M ρ H l kv)(e:bJ ρ H a b):bB M a b l kv:=h.imp λ_ _ r=>r.ext e
def bB.pre'{a:List Addr}{l:List (Key×D)}{kv:List (Key×V)}(h:bB M ρ H l kv)(e:ρ <+: a):bB M a H l kv:=h.imp λ_ _ r=>r.pre e
end
section
variable{X:Cx}{a b c e:Expr}{pos:Pos}{st:Stmt}
def Fd{M:Md}{ρ d:List Addr}{H h:Hp}{m:aA}{l:List (Key×D)}{kv:List (Key×V)}{p:Addr}{Q:VK}(x:bJ ρ H d h)(st:eS M d m h)(j:h p=none)(r:bB M d h l kv)
  (q:∀f v g,bJ ρ H f g->eS M f (m++ [.dct l]) g->Rel M f g (.ref m.length) v->Q v g):Q (.ref p) (upd h p (.dK kv)):=by
 have s:p∉d:=cX x st j
 have n:bJ d h d (upd h p (.dK kv)):=bJ.laid j
 have k:=(st.lay (u:=.dK kv) j).box (o:=.dct l) s ⟨kv,bp,(r.ext' n).pre' (List.prefix_append _ _)⟩
 refine q (d++ [p]) (.ref p) _ ⟨x.pre.trans (List.prefix_append _ _),λc i=> ?_,(x.trans n).keep,(x.trans n).grow⟩ k (.ref ?_)
 ·rcases mQa.mp i with i|i
  ·exact x.new c i
  ·rw[Qfq] at i;subst i;exact .inr (x.grow _ j)
 ·rw[←st.len,QQq (Qmq _)]
  simp
open Classical in
def Hw(f g:dQ):bc:=λh S=>(f h S).bind λ(p,i)=>(g h i).bind λ(r,d)=>if p.2.stays d p.1/\p.1.length=r.1.length then(v7 p.1).bind λj=>some (.ref d.length,d++ [.dct (aK [] (j.zip r.1))]) else none
def Hu{p1 j W r:Pos}{f g:dQ}(hc:X.calm=true)(m:Gl X "dict")(n:X.mg "dict"=none)(M:Gl X "zip")(hm:X.mg "zip"=none)(ha:PE X a (tQ (md X) f))(J:PE X b (tQ (md X) g))(hs:starEach [a,b] X.env= [(false,eval a X.env),(false,eval b X.env)]:=by rfl)(h:starEach [b] X.env= [(false,eval b X.env)]:=by rfl)
  (he:starEach [Expr.Call (.Name "zip" j) [a,b] [] r] X.env= [(false,eval (Expr.Call (.Name "zip" j) [a,b] [] r) X.env)]:=by rfl):
  PE X (.Call (.Name "dict" p1) [.Call (.Name "zip" j) [a,b] [] r] [] W) (tD (md X) (Hw f g)):=i3 (ye hc m n M hm (cC ha (cC J eQ h) (by rw[hs,h])) hs h he) λσ H Q ⟨ρ,w,S,d,S',ok,e,q⟩=>by
 obtain⟨⟨⟨s,t1⟩,z⟩,e1,e⟩:=aq e
 obtain⟨⟨⟨t,B⟩,Y⟩,U,e⟩:=aq e
 dsimp only at e
 split at e
 ·rename_i c
  obtain⟨K,e3,e⟩:=aq e
  obtain⟨rfl,rfl⟩:=bN e
  refine⟨ρ,w,S,s,t1,z,ok,e1,λo a1 I H1 A k P G=>⟨o,w,z,t,B,Y,ok.to A k,U,λL C R H2 x i F y=> ?_⟩⟩
  obtain⟨a0,h3,u⟩:=P.to G x i c.1
  have N:=w4 u e3
  subst N
  have v:=u.length
  rw[lQm] at v
  refine⟨_,_,a1,C,K,R,rfl,h3.sqB,F.sqB,by rw[←v,←y.length];exact c.2,λp Z=> ?_⟩
  exact Fd (A.trans x) i Z (bB.merge (l:= []) (bB.zip y) rfl) q
 ·cases e
def K1:bc:=λ_ S=>some (.ref S.length,S++ [.dct []])
def Kq:PE X (.Dict [] [] pos) (tD (md X) K1):=i3 Cm λk H Q g=>by
 obtain⟨i,j,S,d,h,ok,e,q⟩:=g
 obtain⟨rfl,rfl⟩:=bN e
 exact λp f=>Fd bJ.refl ok.st f (l:= []) (kv:= []) rfl q
def E1(f g:bc):bc:=λi S=>(f i S).bind λ(x,j)=>(g i j).bind λ(y,h)=>match x with
 | .ref k=>match h[k]? with
   |some (.dct l)=>(kh y).bind λm=>(dv l m).bind λd=>some (d,h)
   |_=>none
 |_=>none
def KA{f g:bc}(J:X.A.units+1<cLine)(n:PE X a (tD (md X) f))(u:PE X b (tD (md X) g))(hs:EG b):PE X (.Subscript a b pos) (tD (md X) (E1 f g)):=i3 (DW J n u hs) λσ H Q G=>by
 obtain⟨I,o,S,d,S',ok,e,q⟩:=G
 obtain⟨⟨x,r⟩,M,e⟩:=aq e
 obtain⟨⟨y,F⟩,C,e⟩:=aq e
 cases x with
 | ref k=>
   dsimp only at e
   split at e
   · rename_i l hs
     obtain⟨R,N,e⟩:=aq e
     obtain⟨W,P,e⟩:=aq e
     obtain⟨rfl,rfl⟩:=bN e
     refine⟨I,o,S,_,r,ok,M,λm U H1 s j i=>⟨m,o,r,y,F,ok.to s j,C,λw Y H2 p h L=> ?_⟩⟩
     cases j0 L N
     have i:=i.ext p
     cases i with
     | ref n=>
       obtain⟨Z,B,t⟩:=h.obj k _ _ n hs
       obtain⟨v,K,z⟩:=t.val P
       exact⟨_,v,rfl,by rw[←K];exact uR.k B,q _ _ _ (s.trans p) h z⟩
   · cases e
 |_=>cases e
def JC(f g h:bc):cH:=λi S=>(h i S).bind λ(d,n)=>(f i n).bind λ(x,m)=>(g i m).bind λ(y,j)=>match x with
 | .ref k=>match j[k]? with
   |some (.dct l)=>(kh y).bind λo=>if l.length<sizeLine then some (.nx i (j.set k (.dct (putD l o d)))) else none
   |_=>none
 |_=>none
mutual
theorem Rel.offK{M:Md}{ρ:List Addr}{H:Hp}{b:Addr}{us:List (Key×V)}{o:HO}(f:H b=some (.dK us)):∀{d:D} {v:V},Rel M ρ H d v->Rel M ρ (upd H b o) d v
 |_,_,.non=>.non
 |_,_,.bl x=>.bl x
 |_,_,.int i=>.int i
 |_,_,.str x=>.str x
 |_,_,.tup h hs=>.tup (by rw[aM (B0 h f (by intro z;cases z))];exact h) (aU.offK f hs)
 |_,_,.ref h=>.ref h
 |_,_,.fn h=>.fn h
theorem aU.offK{M:Md}{ρ:List Addr}{H:Hp}{b:Addr}{us:List (Key×V)}{o:HO}(d:H b=some (.dK us)):∀{ds:List D} {vs:List V},aU M ρ H ds vs->aU M ρ (upd H b o) ds vs
 |_,_,.nil=>.nil
 |_,_,.cons h hs=>.cons (Rel.offK d h) (aU.offK d hs)
end
def eS.putKd{M:Md}{ρ:List Addr}{S:aA}{H:Hp}{k:Nat}{a:Addr}{l l':List (Key×D)}{kw:List (Key×V)}(st:eS M ρ S H)(d:ρ[k]?=some a)(h:S[k]?=some (.dct l))(r:bB M ρ H l' kw):eS M ρ (S.set k (.dct l')) (upd H a (.dK kw))/\bJ ρ H ρ (upd H a (.dK kw)):=by
 obtain⟨j,f,i⟩:=st.obj k a _ d h
 exact st.put d h ⟨kw,bp,r.imp λ_ _ q=>q.offK f⟩ λx g=>by rw[f] at g;cases g;exact id
def Kk{f g h:bc}{i:Pos}{v:Expr}(hu:X.A.units+1<cLine)(p:PE X a (tD (md X) f))(N:PE X b (tD (md X) g))(hv:PE X v (tD (md X) h))(hs:swapsWith v (some (.Subscript a b i)) pos.line X.env=pure false:=by rfl):PS X (.Assign [.Subscript a b i] v pos) (tS (md X) (JC f g h)):=
 AD (D6 hu p N hv hs) λD σ H W=>by
  obtain⟨Y,B,S,o,ok,e,q⟩:=W
  obtain⟨⟨d,L⟩,e1,e⟩:=aq e
  obtain⟨⟨x,K⟩,U,e⟩:=aq e
  obtain⟨⟨y,S3⟩,e3,e⟩:=aq e
  cases x with
  | ref k=>
    dsimp only at e
    split at e
    · rename_i l hs
      obtain⟨P,e4,e⟩:=aq e
      split at e
      · rename_i Z
        cases e
        refine⟨Y,B,S,d,L,ok,e1,λz v1 H1 G m s=>⟨z,B,L,_,K,ok.to G m,U,λt v2 H2 C w F=>⟨t,B,K,y,S3,(ok.to G m).to C w,e3,λR v3 H3 u j M=> ?_⟩⟩⟩
        cases j0 M e4
        have F:=F.ext u
        have s:=s.ext (C.trans u)
        have n:=(G.trans C).trans u
        cases F with
        | ref p=>
          obtain⟨kv,Q,I⟩:=j.obj k _ _ p hs
          obtain⟨r,J⟩:=j.putKd p hs (I.put (k:=P) s)
          exact⟨_,_,rfl,DQ.k Q (by rw[←I.length];exact Z),q _ _ _ (n.trans J) ((ok.to n j).to J r)⟩
      · cases e
    · cases e
  |_=>cases e
open Classical in
def Gd(f:dQ)(g:bc):bc:=λh S=>(f h S).bind λ(p,k)=>if p.2.isL=true then(g h k).bind λ(y,d)=>if p.2.stays d p.1 then(vC y).bind λv=>(m4 p.1).bind λi=>(mJ v i).bind λj=>some (.int (j:Nat),d) else none else none
def JR{f:dQ}{g:bc}{o:Expr}{i h:Pos}(Y:PE X o (tQ (md X) f))(ha:PE X e (tD (md X) g))(k:attributeBase o "index" X.env (eval o X.env)=eval o X.env:=by rfl) (n:((backTo h (starEach [e] X.env)).all (λx=> !x.1)&&(backToKw h (keywordEach [] X.env)).all (λx=>x.1.isSome)
   &&decide ([e].length+([]:List Keyword).length+(if ([]:List Keyword).isEmpty then 0 else 1)<30))=true:=by rfl)
  (l:(i.endLine==h.line)=true:=by rfl) (hs:starEach [e] X.env= [(false,eval e X.env)]:=by rfl):PE X (.Call (.Attribute o "index" i) [e] [] h) (tD (md X) (Gd f g)):=
 i3 (ub PySem.F.plainAttrs_list PySem.F.slot_list_index PySem.F.type_list_index Dh Y (iG ha rC hs) k n l hs) λσ H Q Z=>by
  obtain⟨ρ,A,S,d,S',ok,e,q⟩:=Z
  obtain⟨⟨⟨P,t⟩,G⟩,e1,e⟩:=aq e
  dsimp only at e
  split at e
  ·rename_i w
   obtain⟨⟨y,W⟩,R,e⟩:=aq e
   dsimp only at e
   split at e
   ·rename_i M
    obtain⟨v,C,e⟩:=aq e
    obtain⟨vs,e4,e⟩:=aq e
    obtain⟨j,J,e⟩:=aq e
    obtain⟨rfl,rfl⟩:=bN e
    refine⟨ρ,A,S,P,t,G,ok,e1,λs a us H1 I p z L=>⟨.inl ⟨rfl,us,z.sqL w⟩,s,A,G,[y],W,ok.to I p,by simp only[ar,av,R,Qbq],λN ws H2 B m u=> ?_⟩⟩
    obtain⟨r,h3,K⟩:=z.to L B m M
    cases u with
    | cons u U=>
      cases U
      cases lJ u C
      obtain⟨rfl,f1⟩:=se K e4
      exact⟨a,r,_,j,rfl,rfl,h3.sqL w,qD C,f1,J,q _ _ _ (I.trans B) m (.int _)⟩
   ·cases e
  ·cases e
end
section
variable{X:Cx}{a b c e:Expr}{pos:Pos}{st:Stmt}
def Ko:V->List V->Hp->VK->Prop:=λx g H Q=>∃a b f d,x=.ref a/\g= [.ref b]/\a≠b/\H a=some (.dK f)/\H b=some (.dK d)/\f.length+d.length<=sizeLine/\Q .non (upd H a (.dK (eC f d)))
def Bi:JH X "dict.update" Ko:=by
 intro m s L H x J v M Q I A y h
 obtain⟨a,b,k,f,rfl,rfl,ab,ha,hb,hz,q⟩:=h
 cases A
 obtain⟨u,rfl,ru⟩:=y.one
 cases ru
 obtain⟨z,o,r,g,n⟩:=rA I.hok ha
 obtain⟨G,j,p,d,l⟩:=rA I.hok hb
 refine call_meetsIn PySem.F.slot_dict_update n.typeIs PySem.F.entry_dict_update (PySem.F.args_dict_update_2 _ _) (meets_dict_update (aX X.prog X.w) a b ab j) ⟨r,p,n,l,by rw[←g.length,←d.length];exact hz,λt i _ B=> ?_⟩
 have C:∃q,t.get? a=some q:=let ⟨q,_,_,hq,_⟩:=i;⟨q,hq⟩
 have K:=dR f k
 exact⟨.non,_,pV I (by rw[ha];exact True.intro) B C (kS (by omega) o (KV.merge d g) i),rfl,q⟩
def EA(f g:bc):bc:=λi S=>(f i S).bind λ(x,h)=>(g i h).bind λ(y,d)=>match x,y with
 | .ref k,.ref j=>if k≠j then match h[k]?,d[k]?,d[j]? with
   |some (.dct _),some (.dct l),some (.dct m)=>if l.length+m.length<=sizeLine then some (.non,d.set k (.dct (aK l m))) else none
   |_,_,_=>none
   else none
 |_,_=>none
def IG{f g:bc}{o:Expr}{n h:Pos}(ho:PE X o (tD (md X) f))(A:PE X e (tD (md X) g))(p:attributeBase o "update" X.env (eval o X.env)=eval o X.env:=by rfl) (u:((backTo h (starEach [e] X.env)).all (λx=> !x.1)&&(backToKw h (keywordEach [] X.env)).all (λx=>x.1.isSome)
   &&decide ([e].length+([]:List Keyword).length+(if ([]:List Keyword).isEmpty then 0 else 1)<30))=true:=by rfl)
  (r:(n.endLine==h.line)=true:=by rfl) (hs:starEach [e] X.env= [(false,eval e X.env)]:=by rfl):PE X (.Call (.Attribute o "update" n) [e] [] h) (tD (md X) (EA f g)):=
 i3 (ub PySem.F.plainAttrs_dict PySem.F.slot_dict_update PySem.F.type_dict_update Bi ho (iG A rC hs) p u r hs) λσ H Q qq=>by
  obtain⟨ρ,U,S,d,S',ok,e,q⟩:=qq
  obtain⟨⟨x,M⟩,e1,e⟩:=aq e
  obtain⟨⟨y,I⟩,e2,e⟩:=aq e
  cases x with
  | ref k=>
    cases y with
    | ref j=>
      dsimp only at e
      split at e
      · rename_i ne
        cases G:M[k]? with
        |none=>rw[G] at e;cases e
        | some o1=>
          rw[G] at e
          cases o1 with
          | dct l0=>
            cases w:I[k]? with
            |none=>rw[w] at e;cases e
            | some o2=>
              rw[w] at e
              cases o2 with
              | dct l=>
                cases K:I[j]? with
                |none=>rw[K] at e;cases e
                | some o3=>
                  rw[K] at e
                  cases o3 with
                  | dct m=>
                    dsimp only at e
                    split at e
                    · rename_i hl
                      obtain⟨rfl,rfl⟩:=bN e
                      refine⟨ρ,U,S,_,M,ok,e1,λC v H1 Y t Z=> ?_⟩
                      cases Z with
                      | ref A=>
                        rename_i a
                        obtain⟨J,g0,_⟩:=t.obj k a _ A G
                        refine⟨.inr (.inr (.inl ⟨rfl,.inl ⟨J,g0⟩⟩)),C,U,M,[.ref j],I,ok.to Y t,by simp only[ar,av,e2,Qbq],λa0 ws H2 W i L=> ?_⟩
                        cases L with
                        | cons L rr=>
                          cases rr
                          cases L with
                          | ref N=>
                            rename_i b
                            have s:=cq W.pre A
                            obtain⟨kv,g1,P⟩:=i.obj k a _ s w
                            obtain⟨kw,g3,R⟩:=i.obj j b _ N K
                            have ab:a≠b:=λz=>by subst z;exact ne (jO i.nd s N)
                            obtain⟨B,x3⟩:=i.putKd s w (bB.merge R P)
                            exact⟨a,b,kv,kw,rfl,rfl,ab,g1,g3,by rw[←P.length,←R.length];exact hl,q _ _ _ ((Y.trans W).trans x3) B .non⟩
                    · cases e
                  |_=>cases e
              |_=>cases e
          |_=>cases e
      · cases e
    |_=>cases e
  |_=>cases e
end
end DL
namespace L2
open PySem PySem.Spec PyProof.Rows
section
variable{prog:Program}{w:World}{A:Around}{s:Shared}
def sO{F G a o:Expr}{q:List Expr}{e:Scope}{pos:Pos}{it:Value}{D:Addr}{env:Env}{R:Result->Shared->Prop}(I:Nat->Shared->Prop)
  (C:∀n s,I n s->wpAny (model prog w) A (pyNext it) (λr f=>match r with
   |none=>R (.ok .next) f
   |some v=>wpAny (model prog w) A (letOwnedTupleGo a it v) (λ_ d=>wpAny (model prog w) A (assign a env v) (λ_ l=>
     wpAny (model prog w) A (forIn q true λc r=>if r=true then do let ok←isTrue c env (eval c env);pure (ForInStep.yield ok) else pure (ForInStep.yield r)) (λok s₃=>
      if ok=true then wpAny (model prog w) A (eval F env) (λx i=>wpAny (model prog w) A (eval G env) (λy j=>
       wpAny (model prog w) A (dictSet D x y) (λ_ k=>∃m,m<n/\I m k) (λ_ _=>False) j) (λ_ _=>False) i) (λ_ _=>False) s₃
      else∃m,m<n/\I m s₃) (λ_ _=>False) l) (λ_ _=>False) d) (λ_ _=>False) f) (λ_ _=>False) s)
  (n:Nat) (h:I n s):codeAny (model prog w) A (.compLoop (.DictComp F G [⟨a,o,q,0⟩] e pos) 0 it (.ref D) env) R s:=by
 refine codeAny_loop rfl I (λn s H=> ?_) n h
 show wpAny _ A ((compTurn (.DictComp F G [⟨a,o,q,0⟩] e pos) 0 it (.ref D) env).onRaise (λx=>do noteFrame x env;theTreesLotGoes x)) _ _ s
 refine wpAny_noted ?_
 rw[compTurn_dict]
 refine Qaq (wpAny_standAt (Qaq (QRq (C n s H) (λr f g=> ?_) λ_ _ b=>b.elim)))
 cases r with
 |none=>exact Qgq g
 | some v=>
   refine Qaq (QRq g (λ_ d p=> ?_) λ_ _ b=>b.elim)
   refine Qaq (QRq p (λ_ l u=>Qaq (QRq u (λok s₃ h₃=> ?_) λ_ _ b=>b.elim)) λ_ _ b=>b.elim)
   cases ok with
   |false=>exact Qgq ⟨rfl,h₃⟩
   | true=>
     exact Qaq (Qaq (QRq h₃ (λx i t=>Qaq (QLq (QRq t (λy j z=>Qaq (wpAny_standAt (QLq (QRq z (λ_ k B=>Qgq ⟨rfl,B⟩) λ_ _ b=>b.elim)))) λ_ _ b=>b.elim))) λ_ _ b=>b.elim))
end
def G6(J:It)(g:TG)(q:TT)(p o:TE)(Q:VK)(D:Addr)(r:St)(H:Hp):Prop:=
 ∃ W:Nat->Nat->St->Hp->Prop,(∃m,W 0 m r H)/\∀i m e f,W i m e f→
   (J.stop i f/\Q (.ref D) f)\/(J.go i f/\∃h:St->Hp->Prop,(∀b d,h b d->∃n,n<m/\W (i+1) n b d)∧
     ∀ x H2,J.yld i f x H2->g x e H2 λa H3=>q a H3 λok H4=>
       if ok=true then p a H4 λk H5=>o a H5 λy j=>∃c l,k=kV l/\j D=some (.dK c)/\c.length<sizeLine/\h a (upd j D (.dK (putK c l y))) else h a H4)
def BR(js:List (Option Nat))(c:TI)(g:TG)(e:TT)(d b:TE):TE:=λa H Q=>c a H λJ H1=>∀D,H1 D=none->G6 J g e d b Q D (iP js a) (upd H1 D (.dK []))
def Ct{X:Cx}{N:List Str}{js:List (Option Nat)}{a:Scope}{cl:List (Str×Addr)}{tg P kx vx G:Expr}{a8:List Expr}{pos a9:Pos}{wi:TI}{g gt:TG}{tt:TT}{tk tv:TE}
  (S:aP X N js a cl) (hc:X.calm=true) (hi:PI X tg P wi)
  (hg:∀C s H fp,PG (aF X N a cl C s H fp) tg g) (ht:∀C s H fp,kT (aF X N a cl C s H fp) a8 tt) (hk:∀C s H fp,PE (aF X N a cl C s H fp) kx tk) (hv:∀C s H fp,PE (aF X N a cl C s H fp) vx tv) (d6:PG X G gt)
  (hs:∀x,foldedSetIterable P X.env x=pure x:=by intro _;rfl) (d7:swapsWithSole [G] (.DictComp kx vx [⟨tg,P,a8,0⟩] a pos) a9.line X.env=pure true:=by rfl)
  (h1:(assignEach [G] X.env).map (·.2)= [assign G X.env]:=by rfl):PS X (.Assign [G] (.DictComp kx vx [⟨tg,P,a8,0⟩] a pos) a9) (AS (BR js wi g tt tk tv) gt):=by
 intro Z s σ H Dn I h
 rw[exec_Assign_arm]
 refine Qaq (wpAny_standAt (Qaq (wpAny_of_eq d7 (wpAny_ite_true rfl (Qaq ?_)))))
 rw[h1]
 show wpAny _ _ (do let _←comprehension _ _ _ _ _ _ _ (some λv=>assignAll v [assign G X.env]);pure ()) _ _ _
 refine Qaq ?_
 refine wpAny_comprehension_free (use:=some λv=>assignAll v [assign G X.env]) rfl hs S.clos S.kind S.names (bZ (hi Z s σ H _ I h) λv s1 h1=>bZ h1 λe3 t h2=> ?_)
 obtain⟨it,fp,tn,J,H2,e,F,T,b2,f2,hD⟩:=h2
 subst e
 refine QhQ (wpAny_newFunctionEnv S.nocell (by intro y hy;simp at hy) (λR M B=> ?_) S.kind)
 dsimp only at M B⊢
 generalize a6:t.heap.push {cls:=.type "dict",data:=.dict #[]}=P2 at M B⊢
 have hC:P2.objs.size=t.heap.objs.size+1:=by rw[←a6,Heap.size_push]
 have b4:t.heap.objs.size≠P2.objs.size:=by rw[hC];exact Qwq (Nat.lt_succ_self _)
 have a1:t.heap.objs.size<=P2.objs.size:=by rw[hC];exact Nat.le_succ _
 have K:∀b,b<t.heap.objs.size->b≠P2.objs.size:=λb f=>by rw[hC];exact Qwq (Nat.lt_succ_of_lt f)
 have a0:∀b o,t.heap.get? b=some o->R.get? b=some o:=λb o e=>B.extBut b o (K b (Qiq e)) (Qcq _ (a6▸Qcq _ e))
 have e0:R.get? t.heap.objs.size=some {cls:=.type "dict",data:=.dict #[]}:=B.extBut _ _ b4 (Qcq _ (a6▸Qrq _ rfl))
 have nD:H2 t.heap.objs.size=none:=F.fresh
 have nC:H2 P2.objs.size=none:=F.hok.fresh a1
 have b3:∀b∈fp,b<t.heap.objs.size:=λb f=>by
  obtain⟨o,e,_⟩:=T.obj _ _ b2 b f
  exact Qiq e
 obtain⟨W,⟨m0,w0⟩,d0⟩:=hD t.heap.objs.size nD
 have b5:(aF X N a cl P2.objs.size t H2 fp).Ok:=by
  refine⟨F.ok.mod,S.kind,F.ok.glob,F.ok.blt,a1,λx y c h1 h2=>F.ok.inj x y c (S.sub x c h1) (S.sub y c h2),S.has,(λx c h=>by cases h),F.ok.hd,F.ok.frames,.inl rfl,
   λb f=>⟨K b (b3 b f),λx c h=>(f2 b f).2.2.2.2.1 x c (S.sub x c h)⟩,F.bs,QAq F.ok.bsz F.sz,λb o e f=> ?_,λb f z=> ?_,F.stack,F.stkFree⟩
  ·rcases(f2 b f).2.2.2.1 with z|z
   ·exact F.ok.noex b o e z
   ·exact absurd (Qqq (Qqq (Qiq e) F.ok.bsz) z) (Nat.lt_irrefl _)
  ·rcases Qsq.mp (F.stkSub b z) with q|q
   ·exact(f2 b f).2.1 q
   ·exact(f2 b f).2.2.1 q
 have c6:bR X.prog X.w (upd H2 t.heap.objs.size (.dK [])) R t.heap.objs.size (.dK []):=by
  obtain⟨o,es,ep,e1,e2⟩:=Heap.DictOf.new (knd:=aX X.prog X.w) t.heap
  exact kS (Nat.zero_le _) (beq_eq_false_iff_ne.mpr (Ne.symm (Qwq F.big))) .nil ⟨o,es,ep,B.extBut _ _ b4 (Qcq _ (a6▸e1)),e2⟩
 have I4:Inv (aF X N a cl P2.objs.size t H2 fp) [] (iP js σ) (upd H2 t.heap.objs.size (.dK [])) {t with heap:=R,toks:=t.toks+([]:List (Str×Value)).length}:=by
  refine⟨b5,rfl,F.bare,Un.laid a0 (Qmq _) nD,⟨_,M,λi x v h1 h2 h3=> ?_⟩,λx c h=> ?_,by show upd H2 _ _ P2.objs.size=none;rw[aM b4.symm];exact nC,λx c h=> ?_,λp hp=>absurd (show p∈([]:List (Addr×Obj)) from hp) (by simp),F.hok.laid a0 (Qmq _) c6,by show(iP js σ).length=N.length;unfold iP;rw[lQm];exact S.len⟩
  ·unfold iP at h2
   rw[gQm] at h2
   cases e:js[i]? with
   |none=>rw[e] at h2;cases h2
   | some o=>
     rw[e] at h2
     cases o with
     |none=>cases h2
     | some j=>
       have a3:σ.getD j none=some v:=QdQ h2
       have hj:σ[j]?=some (some v):=by
         rw[Qlq] at a3
         cases q:σ[j]? with
         |none=>rw[q] at a3;cases a3
         |some y=>rw[q] at a3;exact congrArg some a3
       obtain⟨c1,c2,c3⟩:=S.cap i j x e h1
       obtain⟨m,hn,hl⟩:=F.loc
       have d5:D2 X.env.scope x:=by
         rcases c2 with z|z
         · exact .inr (.inl z)
         · exact .inr (.inr z)
       obtain⟨u,r,l⟩:=hl j x v c1 hj d5
       refine⟨u,r,.inr ⟨c3,?_⟩⟩
       obtain⟨c,c0⟩:=S.has x c3
       refine⟨c,c0,?_⟩
       rcases l with⟨z,_⟩|⟨_,c',e',z⟩
       · rcases c2 with y|y <;>rw[y] at z <;>cases z
       · rw[S.sub x c c0] at e'
         cases e'
         obtain⟨o,ho,hd⟩:=z
         exact⟨o,a0 _ _ ho,hd⟩
  ·obtain⟨v,o,ho,hd⟩:=F.cell x c (S.sub x c h)
   exact⟨v,o,a0 _ _ ho,hd⟩
  ·obtain⟨v,o,ho,hd⟩:=F.cell x c (S.sub x c h)
   rw[aM (Qwq (Qiq ho))]
   exact F.freeC x c (S.sub x c h)
 have a2:∀{U:List (Addr×Obj)} {H':Hp},U= []->(∀b∈fp,H' b=none)->∀b∈fp,oK (aF X N a cl P2.objs.size t H2 fp) U H' b:=λ{U H'} ep hn b f=>by
  subst ep
  refine⟨hn b f,K b (b3 b f),λz=>b5.exfs b f z,.inl f,λx c h=>(f2 b f).2.2.2.2.1 x c (S.sub x c h),λp hp=>absurd (show p∈([]:List (Addr×Obj)) from hp) (by simp)⟩
 have b0:codeAny (model X.prog X.w) X.A (.compLoop (.DictComp kx vx [⟨tg,P,a8,0⟩] a pos) 0 (.ref it) (.ref t.heap.objs.size) (compEnvC a cl P2.objs.size X.env))
   (compPost (model X.prog X.w) X.A X.xe (some λv=>assignAll v [assign G X.env]) (λ_ s9=>wpAny (model X.prog X.w) X.A (pure ()) (λ_ d1=>wpAny (model X.prog X.w) X.A (pure Flow.next) (SP X Z Dn) X.xe d1) X.xe s9) (.ref t.heap.objs.size) P2.objs.size) {t with heap:=R,toks:=t.toks+([]:List (Str×Value)).length}:=by
  refine sO (λn s'=>∃i a4 H',Inv (aF X N a cl P2.objs.size t H2 fp) [] a4 H' s'/\tn i s'.heap/\(∀b∈fp,H' b=none)/\W i n a4 H') ?_ m0
   ⟨0,_,_,I4,T.keep _ _ _ b2 λb _ o e=>a0 b o e,λb f=>by rw[aM (Qwq (b3 b f))];exact(f2 b f).1,w0⟩
  rintro n s3 ⟨i,a5,H3,I3,b8,c5,w3⟩
  rcases d0 i n a5 H3 w3 with⟨stop,q⟩|⟨go,Nx,hN,b7⟩
  ·refine bZ (T.done (aF X N a cl P2.objs.size t H2 fp) rfl rfl rfl hc i [] s3 a5 H3 _ I3 (a2 rfl c5) b8 stop) λr s4 Y=> ?_
   obtain⟨hr,I5⟩:=Y
   subst hr
   obtain⟨m,hn,_⟩:=id I5.loc
   have d3:∀h',Heap.SameBut P2.objs.size s4.heap h'->Inv X Z σ H3 {s4 with heap:=h'}:=by
    intro h' Q
    have u:=I5.base
    have ne:∀b o,t.heap.get? b=some o->b≠P2.objs.size:=λb o e=>K b (Qiq e)
    refine F.call' (ch:=fp) I5.os ⟨λb o e n f hx=>(Q.2 b (ne b o e)).trans (u.keep b o e n f hx),λb o e n f hx=> ?_,u.free,λb o e hx=> ?_,u.tups,u.frzs,u.tbls⟩ (λb ob e=> ?_) I5.bare λb f=>⟨(f2 b f).2.2.2.1,(f2 b f).2.1,(f2 b f).2.2.2.2.1,(f2 b f).2.2.2.2.2⟩
    ·obtain⟨sl,e1⟩:=u.slot b o e n f hx
     exact⟨sl,(Q.2 b (ne b o e)).trans e1⟩
    ·obtain⟨o',e1⟩:=u.there b o e hx
     exact⟨o',(Q.2 b (ne b o e)).trans e1⟩
    ·refine(I5.hok b ob e).stay (λc w' hc q=>(Q.2 c ?_).trans q) (λ_ q=>q) λ_ _ q=>q
     have fC:H3 P2.objs.size=none:=I5.free
     rintro rfl
     rcases hc with z|z
     ·rw[←z,fC] at e;cases e
     ·rw[fC] at z;cases z
   have IX:=d3 s4.heap ⟨rfl,λ_ _=>rfl⟩
   have a7:oK X Z H3 P2.objs.size:=F.fpOk a1 I5.free
   obtain⟨oC,es,ep,c8,c4,d2⟩:=hn
   have IP:=IX.pinned (fp:= [P2.objs.size]) (λb f=>by rw[Qfq] at f;rw[f];exact a7) (λb f=>by rw[Qfq] at f;rw[f];exact⟨oC,c8,λv=>by rw[c4];simp⟩)
   show wpAny _ _ (assignAll (.ref t.heap.objs.size) [assign G X.env]) _ _ _
   rw[assignAll.eq_2]
   refine bZ (d6 _ s4 σ H3 (.ref t.heap.objs.size) (.ref t.heap.objs.size) _ IP rfl q) λ_ s6 Y=> ?_
   obtain⟨L,H6,I6,q6⟩:=Y
   have pC:=I6.pin (P2.objs.size,oC) (Qoq _ (Qoq _ (cJ (Qfq.mpr rfl) c8)))
   refine⟨m,⟨oC,es,ep,pC.1,c4,d2⟩,λh' Q=>Qgq (Qgq ⟨L,H6,?_,q6⟩)⟩
   exact I6.unpinned.turned (it:=P2.objs.size) (t':=s6.toks) (λb o' f e=>(Q.2 b f).trans e) pC.2.1 pC.2.2.1 a7.2.2.2.1 a7.2.2.2.2.1 a7.2.2.2.2.2
  ·refine bZ (T.item (aF X N a cl P2.objs.size t H2 fp) rfl rfl rfl hc i [] s3 a5 H3 _ I3 (a2 rfl c5) b8 go) λr s4 Y=> ?_
   obtain⟨u,hr,h4⟩:=Y
   subst hr
   refine bZ h4 λ_ s5 Y=> ?_
   obtain⟨x,H5,I5,r5,y5,b1,d4⟩:=Y
   have d9:=I5.pinned (a2 rfl d4) (T.obj _ _ b1)
   refine bZ (hg P2.objs.size t H2 fp _ s5 a5 H5 x u _ d9 r5 (b7 x H5 y5)) λ_ s6 Y=> ?_
   obtain⟨L,H6,I6,q6⟩:=Y
   refine bZ (ht P2.objs.size t H2 fp _ s6 L H6 _ I6 q6) λok s7 Y=> ?_
   obtain⟨H7,I7,q7⟩:=Y
   have again:∀{s8:Shared} {H8:Hp},Inv (aF X N a cl P2.objs.size t H2 fp) ([]++lQ fp s5.heap) L H8 s8->Nx L H8->∃m,m<n/\∃i a4 H',Inv (aF X N a cl P2.objs.size t H2 fp) [] a4 H' s8/\tn i s8.heap/\(∀b∈fp,H' b=none)/\W i m a4 H':=λ{s8 H8} I8 n8=>by
    obtain⟨m',hm,w8⟩:=hN L H8 n8
    refine⟨m',hm,i+1,L,H8,I8.unpinned,T.keep _ _ _ b1 λb f o e=>(I8.pin (b,o) (Qoq _ (Qoq _ (cJ f e)))).1,λb f=> ?_,w8⟩
    obtain⟨o,e,d⟩:=T.obj _ _ b1 b f
    exact(I8.pin (b,o) (Qoq _ (Qoq _ (cJ f e)))).2.1
   cases ok with
   |false=>exact again I7 q7
   | true=>
     refine bZ (hk P2.objs.size t H2 fp _ s7 L H7 _ I7 q7) λkv s8 Y=> ?_
     obtain⟨k,H8,I8,rk,q8⟩:=Y
     refine bZ (hv P2.objs.size t H2 fp _ s8 L H8 _ I8 q8) λyv s9 Y=> ?_
     obtain⟨y,H9,I9,ry,d8,ky,ek,hx,hl,n9⟩:=Y
     subst ek
     obtain⟨z,hd,vs,c7,dd⟩:=rA I9.hok hx
     refine wpAny_dictSet_pairs (uj rk) dd (λh' b6 Q=> ?_) (by rw[←c7.length];exact z)
     have he:∃q,h'.get? t.heap.objs.size=some q:=let ⟨q,_,_,hq,_⟩:=b6;⟨q,hq⟩
     have e4:=gL d8 ky y
     exact again (pV I9 (by rw[hx];exact True.intro) Q he (kS (by omega) hd (c7.put ky ry) b6)) n9
 exact codeAny_compStart_dict b0 (T.self _ 0 _ _ _ (T.keep _ _ _ b2 λb _ o e=>a0 b o e) b0)
end L2
namespace DL
open PySem PySem.Spec PyProof.Rows L2
section
variable{M:Md}{ρ:List Addr}{H:Hp}{b:Addr}{us:List (Key×V)}{o:HO}
theorem eS.offK{S:aA}(st:eS M ρ S H)(e:H b=some (.dK us))(n:b∉ρ):eS M ρ S (upd H b o):=⟨st.len,st.nd,λk a p j l=>by
 have q:=st.obj k a p j l
 have f:a≠b:=λz=>n (z▸mQg j)
 cases p with
 |lst m=>obtain⟨h,c,d⟩:=q;exact⟨h,by rw[aM f];exact c,d.offK e⟩
 |frz m=>obtain⟨h,o,c,d⟩:=q;exact⟨h,o,by rw[aM f];exact c,d.offK e⟩
 |dct g=>obtain⟨i,c,d⟩:=q;exact⟨i,by rw[aM f];exact c,d.imp λ_ _ r=>r.offK e⟩
 |fdc g=>obtain⟨i,o,c,d⟩:=q;exact⟨i,o,by rw[aM f];exact c,d.imp λ_ _ r=>r.offK e⟩⟩
def En.offK{a:cz}{c:L2.St}(h:En M ρ H a c)(g:H b=some (.dK us)):En M ρ (upd H b o) a c:=⟨h.len,λi d q=>by obtain⟨v,f,e⟩:=h.get i d q;exact⟨v,f,e.offK g⟩⟩
end
open Classical in
def gW(g:jS)(t:ix)(b c:bc)(W:aA->Prop):List D->cz->aA->List (Key×D)->Option (List (Key×D)×aA)
 | [],Γ,S,acc=>if W S then some (acc,S) else none
 |d ::ds,Γ,S,acc=>if W S then(g d Γ S).bind λ(a,j)=>(t a j).bind λ(k,e)=>
    if k=true then(b a e).bind λ(x,f)=>(c a f).bind λ(y,i)=>(kh x).bind λh=>if acc.length<sizeLine then gW g t b c W ds a i (putD acc h y) else none
    else gW g t b c W ds a e acc
  else none
def ox(js:List (Option Nat))(i:sm)(g:jS)(t:ix)(b d:bc):cz->aA->Option (List (Key×D)×aA):=λa S=>(i a S).bind λ(p,c)=>gW g t b d p.2 p.1 (lR js a) c []
def Eh{M:Md}{js:List (Option Nat)}{i:sm}{g:jS}{t:ix}{fk fv:bc}{σ:L2.St}{H:Hp}{Q:VK}{ρ:List Addr}{Γ:cz}{S S':aA}{l:List (Key×D)}(ok:Ok M ρ Γ S σ H)(e:ox js i g t fk fv Γ S=some (l,S'))
  (q:∀b a kv f,bJ ρ H b f->eS M b S' f->H a=none->a∉b->f a=some (.dK kv)->bB M b f l kv->Q (.ref a) f):BR js (tI M i) (tG M g) (tB M t) (tD M fk) (tD M fv) σ H Q:=by
 obtain⟨⟨⟨n,W⟩,S1⟩,e1,e⟩:=aq e
 refine⟨ρ,Γ,S,n,W,S1,ok,e1,λo J H1 x1 Y wk D R=> ?_⟩
 have n1:D∉o:=cX x1 Y R
 have a1:Ok M o (lR js Γ) S1 (iP js σ) (upd H1 D (.dK [])):=⟨((ok.en.ext x1).ext (bJ.laid R)).sig js,Y.lay R⟩
 refine⟨λi m F f=>m=n.length-i/\i<=n.length/\∃d B U c j,bJ o H1 d f/\Ok M d B U F f/\D∉d/\f D=some (.dK j)/\bB M d f c j/\gW g t fk fv W (n.drop i) B U c=some (l,S'),
  ⟨n.length,by simp,Nat.zero_le _,o,_,S1,[],[],bJ.laid R,a1,n1,bp,rfl,e⟩,?_⟩
 rintro i m b3 H2 ⟨rfl,hi,d,B,U,c,j,x2,ok2,n2,hD2,racc,e2⟩
 by_cases L:i<n.length
 ·have hd:n[i]?=some n[i]:=gQe L
  rw[QWq L] at e2
  unfold gW at e2
  split at e2
  ·rename_i w
   obtain⟨w1,w2⟩:=wk i d U H2 x2 ok2.st w
   obtain⟨go,a3⟩:=w1 _ hd
   refine .inr ⟨go,λF f=>∃b A C c j,bJ o H1 b f/\Ok M b A C F f/\D∉b/\f D=some (.dK j)/\bB M b f c j/\gW g t fk fv W (n.drop (i+1)) A C c=some (l,S'),
    λF f ⟨b,A,C,c,j,h1,h2,h3,h4,h5,h6⟩=>⟨n.length-(i+1),by omega,rfl,L,b,A,C,c,j,h1,h2,h3,h4,h5,h6⟩,λx H3 hy=> ?_⟩
   obtain⟨x3,a4,r3⟩:=a3 x H3 hy
   obtain⟨⟨h,S4⟩,e4,e5⟩:=aq e2
   refine⟨d,B,U,_,h,S4,ok2.to x3 a4,r3,e4,λa6 b2 H4 x4 p=> ?_⟩
   obtain⟨⟨k,S5⟩,e6,e7⟩:=aq e5
   refine⟨a6,h,S4,k,S5,p,e6,λZ H5 X I=> ?_⟩
   have u:=(x3.trans x4).trans X
   have G:∀{b f},bJ d H2 b f->f D=some (.dK j)/\D∉b:=λ{b f} x=>⟨x.keep _ _ hD2 (.inl n2),λm=>(x.new _ m).elim n2 λz=>by rw[z] at hD2;cases hD2⟩
   dsimp only at e7⊢
   split at e7
   ·rename_i ck
    rw[Qhq ck]
    obtain⟨⟨kx,S6⟩,e8,e9⟩:=aq e7
    obtain⟨⟨y,S7⟩,a8,b0⟩:=aq e9
    obtain⟨kk,a9,K⟩:=aq b0
    refine⟨Z,h,S5,kx,S6,p.to X I,e8,λa0 kv H6 x6 a5 r6=>⟨a0,h,S6,y,S7,(p.to X I).to x6 a5,a8,λa2 v H7 x7 a7 r7=> ?_⟩⟩
    have N:=(u.trans x6).trans x7
    obtain⟨s,n7⟩:=G N
    have P:=racc.ext' N
    split at K
    ·rename_i cl
     refine⟨j,kk,j0 r6 a9,s,by rw[←racc.length];exact cl,a2,h,S7,putD c kk y,_,(x2.trans N).off R _,⟨(((p.en.ext X).ext x6).ext x7).offK s,a7.offK s n7⟩,n7,bp,(P.put r7).imp λ_ _ r=>r.offK s,K⟩
    ·cases K
   ·rename_i ck
    rw[Quq ck]
    obtain⟨b1,n5⟩:=G u
    exact⟨Z,h,S5,c,j,x2.trans u,p.to X I,n5,b1,racc.ext' u,e7⟩
  ·cases e2
 ·have e3:i=n.length:=by omega
  subst e3
  rw[List.drop_length] at e2
  unfold gW at e2
  split at e2
  ·rename_i w
   obtain⟨rfl,rfl⟩:=bN e2
   obtain⟨w1,w2⟩:=wk n.length d U H2 x2 ok2.st w
   exact .inl ⟨w2 rfl,q d D j H2 (x1.trans x2) ok2.st (x1.grow _ R) n2 hD2 racc⟩
  ·cases e2
def Io(n:Nat)(f:cz->aA->Option (List (Key×D)×aA)):cH:=λb S=>(f b S).bind λ(l,a)=>some (.nx (b.set n (some (.ref a.length))) (a++ [.dct l]))
section
variable{X:Cx}{pos:Pos}
def EM{N:List Str}{js:List (Option Nat)}{c:Scope}{p:List (Str×Addr)}{r d u v f:Expr}{k:List Expr}{i:sm}{g:jS}{t:ix}{A I:bc}{n:Nat}{h:Pos}
  (S:aP X N js c p) (hc:X.calm=true) (hi:PI X r d (tI (md X) i))
  (K:∀C s H fp,PG (aF X N c p C s H fp) r (tG (md X) g)) (J:∀C s H fp,kT (aF X N c p C s H fp) k (tB (md X) t)) (L:∀C s H fp,PE (aF X N c p C s H fp) u (tD (md X) A)) (hv:∀C s H fp,PE (aF X N c p C s H fp) v (tD (md X) I)) (w:PG X f (mj n))
  (hs:∀x,foldedSetIterable d X.env x=pure x:=by intro _;rfl) (z:swapsWithSole [f] (.DictComp u v [⟨r,d,k,0⟩] c pos) h.line X.env=pure true:=by rfl)
  (M:(assignEach [f] X.env).map (·.2)= [assign f X.env]:=by rfl):PS X (.Assign [f] (.DictComp u v [⟨r,d,k,0⟩] c pos) h) (tS (md X) (Io n (ox js i g t A I))):=
 AD (Ct S hc hi K J L hv w hs z M) λD σ H U=>by
  obtain⟨W,Γ,S,o,ok,e,q⟩:=U
  obtain⟨⟨l,S1⟩,Z,e⟩:=aq e
  cases e
  refine Eh ok Z λj a Y G x F P R ha Q=> ?_
  have y:=F.box (o:=.dct l) R ⟨Y,ha,Q.pre' (List.prefix_append j [a])⟩
  have B:bJ W H (j++ [a]) G:=⟨x.pre.trans (List.prefix_append _ _),λb m=>by
   rcases mQa.mp m with m|m
   ·exact x.new b m
   ·rw[Qfq] at m;subst m;exact .inr P,x.keep,x.grow⟩
  refine q (j++ [a]) _ G B ⟨((ok.en.ext B).set (.ref ?_)),y⟩
  rw[←F.len,QQq (Qmq _)]
  simp
end
end DL
namespace Zp
open PySem PySem.W PyProof.Rows
end Zp
namespace L2
open PySem PySem.Spec PyProof.Rows
end L2
namespace DL
open PySem PySem.Spec PyProof.Rows L2
def uh(a b:Str):Prop:=¬(b.cps.toList<a.cps.toList)
instance(a b:Str):Decidable (uh a b):=by unfold uh;infer_instance
def Bp(a b:Str):uh a b\/uh b a:=by
 by_cases h:b.cps.toList<a.cps.toList
 ·exact .inr λc=>List.lt_asymm h c
 ·exact .inl h
def ud{a b c:Str}(e:uh a b)(d:uh b c):uh a c:=by
 unfold uh at *
 rw[List.not_lt] at *
 exact List.le_trans e d
def DE{a b:Str}(c:uh a b)(d:uh b a):a=b:=by
 unfold uh at *
 rw[List.not_lt] at *
 have:=List.le_antisymm c d
 cases a
 cases b
 simp only[Str.mk.injEq]
 exact Array.toList_inj.mp this
def zm(x:Str):List Str->List Str
 | []=> [x]
 |y::r=>if uh x y then x::y::r else y::zm x r
def n_:List Str->List Str
 | []=> []
 |x::r=>zm x (n_ r)
theorem nc(x:Str):∀l:List Str,(zm x l).Perm (x::l)
 | []=>List.Perm.refl _
 | y::r=>by
   unfold zm
   split
   · exact List.Perm.refl _
   · exact((nc x r).cons y).trans (List.Perm.swap _ _ _)
theorem gD:∀l:List Str,(n_ l).Perm l
 | []=>List.Perm.refl _
 |x::r=>(nc x _).trans ((gD r).cons x)
theorem o9{x:Str}:∀{l:List Str},l.Pairwise uh->(zm x l).Pairwise uh
 | [],_=>by simp[zm]
 | y::r,h=>by
   rw[List.pairwise_cons] at h
   unfold zm
   split
   · rename_i c
     refine List.pairwise_cons.mpr ⟨λz a=> ?_,List.pairwise_cons.mpr h⟩
     rcases Qsq.mp a with rfl|a
     · exact c
     · exact ud c (h.1 z a)
   · rename_i c
     refine List.pairwise_cons.mpr ⟨λz a=> ?_,o9 h.2⟩
     rcases Qsq.mp ((nc x r).mem_iff.mp a) with rfl|a
     · exact(Bp _ _).resolve_left c
     · exact h.1 z a
theorem kE:∀l:List Str,(n_ l).Pairwise uh
 | []=>List.Pairwise.nil
 |x::r=>o9 (kE r)
def vn:∀{l:List Str},sortedS l=true->l.Pairwise uh
 | [],_=>List.Pairwise.nil
 | x::r,h=>by
   have e:∀(r:List Str) (x:Str),risingS x r=true->(x::r).Pairwise uh:=by
     intro r
     induction r with
     |nil=>intro x _;simp
     | cons y r d=>
       intro x h
       unfold risingS at h
       simp only[QCq] at h
       have c:=d y h.2
       have b:uh x y:=by
         have:=h.1
         unfold uh
         rw[ltCps_eq] at this
         simpa using this
       refine List.pairwise_cons.mpr ⟨λz a=> ?_,c⟩
       rcases Qsq.mp a with rfl|a
       · exact b
       · exact ud b ((List.pairwise_cons.mp c).1 z a)
   exact e r x h
def AC{c d:List Str}(h:sortedS c=true)(p:c.Perm d):c=n_ d:=
 List.Perm.eq_of_pairwise (le:=uh) (λa b _ _ f e=>DE f e) (vn h) (kE d) (p.trans (gD d).symm)
end DL
namespace L2
open PySem PySem.Spec PyProof.Rows
end L2
namespace DL
open PySem PySem.Spec L2
section
variable{X:Cx}{a b e:Expr}{pos:Pos}
def tT:List D->Option (List Str)
 | []=>some []
 |.str x::r=>(tT r).bind λc=>some (x::c)
 |_::_=>none
theorem wO{M:Md}{ρ:List Addr}{H:Hp}:∀{ds:List D} {vs:List V} {xs:List Str},aU M ρ H ds vs->tT ds=some xs->vs=xs.map V.str
 | [],_,_,h,e=>by cases h;cases e;rfl
 | d::ds,_,_,h,e=>by
   cases d with
   | str b=>
     simp only[tT] at e
     obtain⟨f,c,e⟩:=aq e
     cases e
     cases h with
     | cons h g=>
       cases h
       rw[wO g c]
       rfl
   |_=>cases e
theorem uc{M:Md}{ρ:List Addr}{H:Hp}:∀c:List Str,aU M ρ H (c.map D.str) (c.map V.str)
 | []=>.nil
 |s::c=>.cons (.str s) (uc c)
def zB(f:dQ):fO:=λg S=>(f g S).bind λ(p,d)=>if p.2.isL=true then(tT p.1).bind λc=>if c.length<64 then some ((n_ c).map D.str,d) else none else none
def Il{f:dQ}{p:Pos}(n:Gl X "sorted")(B:X.mg "sorted"=none)(F:PE X a (tQ (md X) f))(hs:starEach [a] X.env= [(false,eval a X.env)]:=by rfl):
  PE X (.Call (.Name "sorted" p) [a] [] pos) (tL (md X) (zB f)):=
 i3 (mV vp n B PyProof.Rows.boot_sorted (cC F eQ hs) (he:=hs)) λJ H Q y=>by
  obtain⟨z,A,S,d,K,ok,e,q⟩:=y
  obtain⟨⟨⟨u,t⟩,G⟩,C,e⟩:=aq e
  dsimp only at e
  split at e
  ·rename_i c
   obtain⟨k,v,e⟩:=aq e
   split at e
   ·rename_i w
    obtain⟨rfl,rfl⟩:=bN e
    refine⟨z,A,S,u,t,G,ok,C,λm a I L x i h r=>⟨a,k,rfl,?_,w,λl o g s j=> ?_⟩⟩
    ·rw[←wO r v];exact h.sqL c
    ·cases AC s j
     exact q _ _ _ _ (x.trans (bJ.laid g)) (i.lay g) (x.grow _ g) (cX x i g) bp (uc _)
   ·cases e
  ·cases e
end
def pZ{P:Program}{w:World}{K:PySem.W.Frag}{mg:Str->Option Value}{base:Heap}{f:Addr}{c:FuncData}{ps:List Str}{k n:Nat}:bj P w K mg base dA k f c ps (dP ⟨K,mg⟩ n λ_ _=>none):=
 {len:=λd H Q E h=>by
   obtain⟨_,_,_,_,_,_,_,_,e,_⟩:=h
   cases e
  run:=λA a s H b g d Q E _ _ _ _ h=>by
   obtain⟨_,_,_,_,_,_,_,_,e,_⟩:=h
   cases e}
end DL
namespace Zq
open PySem PyProof.Rows
def Fk{prog:Program}{w:World}{A:Around}(n:A.handled=none)(t:Bool)(it a:Addr)(f:a≠it)(items:Array Value):
  Draws prog w A it [it,a] items.size (λi v=>items[i]?=some v) (λi h=>It t h it a i/\Sq t h a items) where
 live:=λ_ _ b=>by obtain⟨o,h,_⟩:=b.1.obj;exact⟨o,h⟩
 frame:=λ_ _ _ b g=>⟨b.1.at λo e=>g it (by simp) o e,b.2.at λo e=>g a (by simp) o e⟩
 item:=λi s Q E j b k=>draw b.1 b.2 (v:=items[i]) (by simp[j]) λl d c=>k _ l s.toks (by simp[j]) ⟨d,b.2.ext c.extBut f⟩ c
 done:=λs Q E b m=>zN n b.1 b.2 (by simp) m
def BZ{prog:Program}{w:World}{A:Around}(f:A.handled=none)(t:Bool)(it a:Addr)(items:Array Value)(k:Nat)(c:items.size<=k):
  Draws prog w A it [it,a] k (λi v=>items[i]?=some v) (λi h=>i=k/\It t h it a k/\Sq t h a items) where
 live:=λ_ _ b=>by obtain⟨o,h,_⟩:=b.2.1.obj;exact⟨o,h⟩
 frame:=λ_ _ _ b c=>⟨b.1,b.2.1.at λo e=>c it (by simp) o e,b.2.2.at λo e=>c a (by simp) o e⟩
 item:=λi s Q E g b j=>absurd b.1 (Qwq g)
 done:=λs Q E b d=>zN f b.2.1 b.2.2 (by simp[c]) d
abbrev E2(t:Bool)(h:Heap)(a:Addr):Heap:=(H1 t h a).push {cls:=.type "enumerate",data:=.fields #[.none,.bool false,.ref h.objs.size,rawInt 0,.none,.none]}
def yS(t:Bool)(a:Addr)(xs:Array Value):Meets (Builtin.«enumerate.__new__» ⟨[.type "enumerate",.ref a],[]⟩) (λ_ R s=>Sq t s.heap a xs/\R (.ok (.ret (.ref (H1 t s.heap a).objs.size))) {s with heap:=E2 t s.heap a}):=
 .of_wp λk w A R s h=>by
  obtain⟨j,g,d,f,i⟩:=s
  obtain⟨e,h⟩:=h
  have l:=sub_enumerate
  cases t
  ·have b:Heap.IsList (Shared.heap ⟨j,g,d,f,i⟩) a xs:=e
   wp_walk
   refine wpAny_stack_any λm=>Qgq ?_
   split
   ·rename_i c _ _ _ _ _
    cases (c==Value.type "enumerate")
    ·wp_walk using wpAny_pyIter_list b
     exact⟨_,rfl,h⟩
    ·wp_walk using wpAny_pyIter_list b
     exact⟨_,rfl,h⟩
   ·wp_walk using wpAny_pyIter_list b
    exact⟨_,rfl,h⟩
  ·have b:Heap.IsTuple (Shared.heap ⟨j,g,d,f,i⟩) a xs:=e
   wp_walk
   refine wpAny_stack_any λm=>Qgq ?_
   split
   ·rename_i c _ _ _ _ _
    cases (c==Value.type "enumerate")
    ·wp_walk using wpAny_pyIter_tuple b
     exact⟨_,rfl,h⟩
    ·wp_walk using wpAny_pyIter_tuple b
     exact⟨_,rfl,h⟩
   ·wp_walk using wpAny_pyIter_tuple b
    exact⟨_,rfl,h⟩
section
variable{prog:Program}{w:World}{A:Around}{E:Value->Shared->Prop}{s:Shared}
def JD{t:Bool}{a:Addr}{xs:Array Value}{Q:Value->Shared->Prop}(g:Sq t s.heap a xs)
  (q:∀h',IsEnum h' (s.heap.objs.size+1) s.heap.objs.size 0 .none->It t h' s.heap.objs.size a 0->(∀c o,s.heap.get? c=some o->h'.get? c=some o)->Q (.ref (s.heap.objs.size+1)) {s with heap:=h'}):
  wpAny (model prog w) A (call (.type "enumerate") [.ref a]) Q E s:=by
 refine callType_new F.called_enumerate (by decide) (F.typeCall_enumerate_1 _) (F.newCall_enumerate_1 _) (λd=>F.args_object_init_2 d _) F.entry_enumerate_new (yS t a xs) ⟨g,?_⟩
 have e:(H1 t s.heap a).objs.size=s.heap.objs.size+1:=Heap.size_push ..
 have b:(E2 t s.heap a).get? (H1 t s.heap a).objs.size=some _:=Qrq _ rfl
 have f:(E2 t s.heap a).get? s.heap.objs.size=some _:=Qcq _ (Qrq _ rfl)
 refine(?_:_/\_)
 rw[e] at b
 rw[e]
 refine⟨⟨_,b,rfl⟩,q _ b ?_ λc o n=>Qcq _ (Qcq _ n)⟩
 cases t <;>exact⟨_,f,rfl,rfl⟩
end
end Zq
namespace L2
open PySem PyProof.Rows Zq
def L1(K:PySem.W.Frag)(t:Bool)(a:Addr):It:=
  ⟨λi H=>∃b x,xA K t H a b/\b[i]?=some x,
   λi H v c=>∃p,v=.ref p/\H p=none/\∀b x,xA K t H a b->b[i]?=some x->c=upd H p (.tup [.int (i:Nat),x]),
   λi H=>∃b,xA K t H a b/\b.length<=i⟩
def Bj{P:Program}{w:World}{K:PySem.W.Frag}{m:List Expr}{x1:Nat}{tp:Pos}{t:Bool}{e it a:Addr}(l:e≠it)(B:a≠e)(R:a≠it):
  Turn P w K (.Tuple m x1 tp) (L1 K t a) [e,it] e (λn h=>(∃d,IsEnum h e it (n:Nat) d)/\Zq.It t h it a n) where
 mem:=by simp
 obj:=λn h ⟨⟨d,f⟩,j⟩ c b=>by
  simp at b
  rcases b with rfl|rfl
  ·exact⟨_,f,λv n=>by cases n⟩
  ·exact j.obj
 keep:=λn h h' ⟨⟨d,f⟩,j⟩ k=>⟨⟨d,k e (by simp) _ f⟩,j.at λo e=>k it (by simp) o e⟩
 item:=by
  rintro X r M J b n i s σ H E I u ⟨⟨d,f⟩,j⟩ G
  subst r M J
  obtain⟨xs,x,y,Q⟩:=G
  obtain⟨g,C,S,_⟩:=I.sq y
  obtain⟨ux,U,rx⟩:=C.get Q
  have Z:∀{c o},s.heap.get? c=some o->c≠s.heap.objs.size:=λe=>Qwq (Qiq e)
  have p:∀c∈[e,it],c≠s.heap.objs.size:=λc b=>by
   obtain⟨oi,e1,_⟩:=j.obj
   simp at b
   rcases b with rfl|rfl
   ·exact Z f
   ·exact Z e1
  have z:n<g.toArray.size:=by
   have:=(gQs.mp U).1
   simpa using this
  refine wpAny_pyNext_enum_itemD (Fk (A:=X.A.in1) (I.ok.hd b) t it a R g.toArray) f ⟨j,S⟩ z l (by simp[l,Ne.symm B]) λx' h1 Y r ho F hT a1 hk=>⟨_,rfl,?_⟩
  obtain rfl:x'=ux:=by
   have:=r
   simp only[List.getElem?_toArray] at this
   rw[U] at this
   exact(QdQ this).symm
  refine wpAny_letOwnedTupleGo_enum ho λh2 e2 N=> ?_
  have I2:Inv X i σ (upd H s.heap.objs.size (.tup [.int (n:Nat),x])) {s with heap:=h2,toks:=Y+1}:=I.turnedNew (t':=Y+1) (fp:= [e,it]) u (λc o b q=> ?_) (Qmq _) ?_
  ·refine⟨.ref s.heap.objs.size,_,I2,rfl,⟨s.heap.objs.size,rfl,I.hok.fresh (Qmq _),λa0 x' q1 L=> ?_⟩,⟨⟨_,by simpa using e2⟩,F.1.ext N.extBut (Ne.symm l)⟩,λc b=> ?_⟩
   ·rw[I.sq_inj q1 y] at L
    rw[Q] at L
    cases L
    rfl
   ·rw[aM (p c b)]
    exact(u c b).1
  ·simp at b
   exact N.extBut _ _ b.1 (hk c o b.1 b.2 q)
  ·exact⟨by show 2<=_;decide,[_,_],.cons ⟨_,rfl⟩ (.cons rx .nil),_,N.extBut _ _ (λq=>p e (by simp) q.symm) hT,rfl,rfl,0,rfl⟩
 done:=by
  rintro X r M J b n i s σ H E I u ⟨⟨d,f⟩,j⟩ G
  subst r M J
  obtain⟨xs,y,Q⟩:=G
  obtain⟨g,C,S,_⟩:=I.sq y
  have hl:=C.length
  refine wpAny_pyNext_enum_endD (BZ (A:=X.A.in1) (I.ok.hd b) t it a g.toArray n (by simp;omega)) f ⟨rfl,j,S⟩ λh1 r1=>⟨rfl,I.turnedL (t':=s.toks) (fp:= [e,it]) u λc o b q=> ?_⟩
  simp at b
  exact r1 c o b.2 q
 self:=λ_ _ _ _ _ ⟨⟨d,f⟩,_⟩ h=>wpAny_pyIter_enum f h
section
variable{X:Cx}
def ID(K:PySem.W.Frag)(d:TA):TI:=λe H R=>d e H λb H1=>∃(t:Bool) (a:Addr) (c:List V),b= [.ref a]/\xA K t H1 a c/\R (L1 K t a) H1
def Eo{b:List Expr}{J:Nat}{A:Pos}{a:Expr}{l:TA}{p pos:Pos}(v:Gl X "enumerate")(C:X.mg "enumerate"=none)(F:PA X [a] l)(hs:starEach [a] X.env= [(false,eval a X.env)]:=by rfl):
  PI X (.Tuple b J A) (.Call (.Name "enumerate" p) [a] [] pos) (ID X.K l):=by
 intro d s B H R I h
 refine Call_ (jM I v C (by rfl) (PyProof.Rows.callWith_type1 (bZ (F pos d s B H _ I h) λS g ⟨P,H1,f,u,y⟩=> ?_) hs rfl))
 obtain⟨t,x,Q,e,G,q⟩:=y
 subst e
 cases u with
 | cons r z=>
   cases z
   cases r
   obtain⟨w,M,m,_⟩:=f.sq G
   have j:=Sq.lt m
   refine Zq.JD m λN n L k=> ?_
   refine wpAny_pyIter_enum n ⟨_,_,_,_,H1,rfl,f.kept (t':=g.toks) k,Bj (e:=g.heap.objs.size+1) (it:=g.heap.objs.size) (Nat.succ_ne_self _) (Qwq (Nat.lt_succ_of_lt j)) (Qwq j),⟨⟨_,n⟩,L⟩,λc o=> ?_,q⟩
   have i:g.heap.objs.size<=c:=by
     simp only[Qsq,QXq,or_false] at o
     rcases o with e|e <;>(rw[e];first|exact Qmq _|exact Nat.le_add_right _ _)
   exact f.fpOk i (f.hok.fresh i)
end
end L2
namespace DL
open PySem PySem.Spec L2
def fB(n:Nat):List D->List D
 | []=> []
 |d::ds=>.tup [.int n,d]::fB (n+1) ds
theorem ug:∀{ds:List D} {n i:Nat} {d:D},(fB n ds)[i]?=some d->∃x,ds[i]?=some x/\d=.tup [.int ((n+i:Nat)),x]
 | [],_,_,_,h=>by simp[fB] at h
 | x::ds,n,0,d,h=>by
   simp only[fB,List.getElem?_cons_zero,Option.some.injEq] at h
   exact⟨x,rfl,h.symm⟩
 | x::ds,n,i+1,d,h=>by
   simp only[fB,List.getElem?_cons_succ] at h
   obtain⟨y,b,a⟩:=ug h
   exact⟨y,by simpa using b,by rw[a];congr 3;omega⟩
theorem tN:∀{ds:List D} {n:Nat},(fB n ds).length=ds.length
 | [],_=>rfl
 |_::_,_=>congrArg (·+1) tN
def zC(f:dQ):sm:=λb S=>(f b S).bind λ(p,a)=>some ((fB 0 p.1,λS=>p.2.stays S p.1),a)
section
variable{X:Cx}{a:Expr}{pos:Pos}
def K8{b:List Expr}{m:Nat}{G p:Pos}{f:dQ}(z:Gl X "enumerate")(L:X.mg "enumerate"=none)(Q:PE X a (tQ (md X) f))(hs:starEach [a] X.env= [(false,eval a X.env)]:=by rfl):
  PI X (.Tuple b m G) (.Call (.Name "enumerate" p) [a] [] pos) (tI (md X) (zC f)):=J8 (Eo z L (cC Q eQ hs) hs) λσ H R ⟨F,I,S,ds,W,S',ok,e,q⟩=>by
 obtain⟨⟨⟨j,C⟩,Y⟩,M,e⟩:=aq e
 obtain⟨N,rfl⟩:=bN e
 obtain⟨rfl,rfl⟩:=Prod.mk.inj N
 refine⟨F,I,S,j,C,Y,ok,M,λA U g H1 m h o t=> ?_⟩
 refine⟨_,U,g,rfl,o.sqB,q _ _ _ m h λi B S3 H3 y c w=> ?_⟩
 obtain⟨l,k,n⟩:=o.to t y c w
 refine⟨λd s=> ?_,λJ=>⟨l,k.sqB,?_⟩⟩
 ·obtain⟨x,K,rfl⟩:=ug s
  obtain⟨u,r,Z⟩:=n.get K
  refine⟨⟨l,u,k.sqB,r⟩,λv H4 P=> ?_⟩
  obtain⟨p,rfl,hp,hq⟩:=P
  have:=hq l u k.sqB r
  subst this
  refine⟨bJ.laid hp,c.lay hp,.tup bp ((aU.cons ?_ (.cons Z .nil)).ext (bJ.laid hp))⟩
  rw[Nat.zero_add]
  exact .int _
 ·rw[J,tN,n.length]
  exact Qmq _
end
structure zu(P:Program)(w:World)(K:PySem.W.Frag)(mg:Str->Option Value)(x:Str)(tbl:List (Str×Str)):Prop where
 at_:∃a,mg x=some (.ref a)/\∀h:Heap,K.In h->∃vs,h.DictOf (aX P w) a vs/\∀k nm,tbl.lookup k=some nm->∃f,valueAt vs (Sum.inr k:Key)=some (.ref f)/\mg nm=some (.ref f)
section
variable{X:Cx}{a b c e:Expr}{pos:Pos}
def J3(d:List (Str×Str))(g:bc):bc:=λi S=>(g i S).bind λ(y,h)=>match y with
 |.str x=>(d.lookup x).bind λf=>some (.fn f,h)
 |_=>none
def Ff{x:Str}{i:List (Str×Str)}{g:bc}{p:Pos}(M:zu X.prog X.w X.K X.mg x i)(L:Gl X x)(J:PE X b (tD (md X) g))(hs:EG b)(hd:(x==("__debug__":Str))=false:=by decide):
  PE X (.Subscript (.Name x p) b pos) (tD (md X) (J3 i g)):=by
 rintro j s σ H Q I ⟨u,Z,S,d,S',ok,e,q⟩
 obtain⟨a,hm,P⟩:=M.at_
 obtain⟨⟨y,B⟩,e1,e⟩:=aq e
 cases y with
 | str z=>
   obtain⟨C,U,e⟩:=aq e
   obtain⟨rfl,rfl⟩:=bN e
   refine Aq PySem.F.slot_dict_getitem.lookup hs (vU I L hm ?_ hd)
   refine bZ (J j s σ H (λv l=>∃h,bJ u H h l/\eS (md X) h B l/\Rel (md X) h l (.str z) v) I ⟨u,Z,S,_,B,ok,e1,λh v l x st r=>⟨h,x,st,r⟩⟩) λiv N qr=> ?_
   obtain⟨v,H2,t,W,h,x2,n,r2⟩:=qr
   obtain⟨vs,A,hv⟩:=P _ t.kIn
   obtain⟨f,Y,m⟩:=hv z C U
   cases r2
   have ty:N.TypeIs (.ref a) "dict":=by
     obtain⟨o,es,ep,R,G,h3,_⟩:=A
     exact⟨o,R,G.1⟩
   refine⟨ty,wpAny_getItem_of (uj (k:=Sum.inr z) W) A.mapOf Y ?_⟩
   exact⟨.ref f,H2,t.tok _,rfl,q _ _ _ x2 n (.fn m)⟩
 |_=>cases e
def qO(i:Nat)(T:List (Str×cW))(g:fO):bc:=λd S=>match d[i]? with
 |some (some (.fn x))=>(T.lookup x).bind λF=>ax F g d S
 |_=>none
def D3{i k:Nat}{y:Str}{ps:List Str}{T:List (Str×cW)}{j:List Expr}{g:fO}{p:Pos}(Y:∀x F,T.lookup x=some F->eL X.prog X.w X.K X.mg X.base k x ps F)(hr:eK k X.A)(hN:X.N[i]?=some y)(hv:D2 X.env.scope y)
  (ha:PA X (e::j) (v5 (md X) g)) (hn:nA ps.length g) (B:(y==("__debug__":Str))=false:=by decide) (z:(y==("__classdict__":Str))=false:=by decide) (he:starEach (e::j) X.env=(false,eval e X.env)::starEach j X.env:=by rfl) (hpl:(backTo pos (starEach j X.env)).any (·.1)=false:=by rfl):
  PE X (.Call (.Name y p) (e::j) [] pos) (tD (md X) (qO i T g)):=by
 rintro h s n H Q I ⟨ρ,Γ,S,d,S',ok,e,q⟩
 unfold qO at e
 split at e
 ·rename_i x hx
  obtain⟨F,o,e⟩:=aq e
  obtain⟨f,fd,G,R,M,m⟩:=(Y x F o).ex
  obtain⟨v,t,Z⟩:=ok.en.get i _ hx
  cases Z with
  | fn hm=>
    have L:(md X).mg x=some (.ref f):=m
    rw[hm] at L
    cases L
    refine wpAny_Call_Name_kw (bZ (CD hN hv B z h s n H (λC l=>C=.ref f/\l=H) I ⟨_,t,rfl,rfl⟩) λu s1 qr=> ?_)
    obtain⟨C,l,U,P,o,e2⟩:=qr
    subst o e2
    cases (show u=Value.ref f from P)
    refine PySem.W.callWith_K (h₀:=X.base) I.ok.mod.kin M (bZ (ha pos h s1 n l _ U (Am hn n l Q ⟨ρ,Γ,S,d,S',ok,e,q⟩)) λus s2 ⟨vs,H1,J,r,q2⟩=>⟨J.kIn,?_⟩) he hpl
    exact DR G hr R .nil C6 J r q2
 ·cases e
end
def yd(w:World)(x:Str):PyData.keyHash w.params x=hashStr w x:=by
 unfold PyData.keyHash hashStr
 first|rfl|simp
inductive Al(w:World)(mg:Str->Option Value):List DictEntry->List (Str×Str)->Prop
 |nil:Al w mg [] []
 |cons {x nm:Str} {t:Tok} {f:Addr} {es:List DictEntry} {tbl:List (Str×Str)}:mg nm=some (.ref f)->Al w mg es tbl->Al w mg (⟨PyData.keyHash w.params x,.str x t,.ref f⟩::es) ((x,nm)::tbl)
def Al.keys{P:Program}{w:World}{mg:Str->Option Value}{b:List DictEntry}{a:List (Str×Str)}(c:Al w mg b a):∀e∈b,∃k,(aX P w).is k e.key=true/\e.hash=(aX P w).hash k:=by
 induction c with
 |nil=>intro e h;cases h
 | @cons x nm t f b a hm c ih=>
   intro e h
   rcases Qsq.mp h with rfl|h
   · exact⟨Sum.inr x,og x t,yd w x⟩
   · exact ih e h
def Al.pairs{P:Program}{w:World}{mg:Str->Option Value}{b:List DictEntry}{a:List (Str×Str)}(e:Al w mg b a):∃vs:List (Key×Value),Pairs (aX P w) b vs/\vs.map (·.1)=a.map (λp=>Sum.inr p.1)∧
  ∀k nm,a.lookup k=some nm->∃f,valueAt vs (Sum.inr k:Key)=some (.ref f)/\mg nm=some (.ref f):=by
 induction e with
 |nil=>exact⟨[],.nil,rfl,λk nm h=>by cases h⟩
 | @cons x nm t f b a hm e ih=>
   obtain⟨vs,m,i,o⟩:=ih
   refine⟨(Sum.inr x,.ref f)::vs,.cons (og x t) rfl m,by simp[i],λk n h=> ?_⟩
   by_cases c:k=x
   · subst c
     rw[List.lookup_cons_self] at h
     cases h
     refine⟨f,?_,hm⟩
     unfold valueAt
     rw[List.find?_cons_of_pos (by simp)]
     rfl
   · have j:(k==x)=false:=by simpa using c
     rw[List.lookup_cons,j] at h
     obtain⟨g,d,l⟩:=o k n h
     refine⟨g,?_,l⟩
     unfold valueAt at d⊢
     rw[List.find?_cons_of_neg]
     · exact d
     · intro z
       have:(Sum.inr x:Key)=Sum.inr k:=by simpa using z
       exact c (Sum.inr.inj this).symm
def CM{P:Program}{w:World}{K:PySem.W.Frag}{mg:Str->Option Value}{x:Str}{c:List (Str×Str)}{a:Addr}{f:List DictEntry}{q:Nat}(o:mg x=some (.ref a))(l:K.lookup a=some ⟨.type "dict",none,.dict f.toArray q,#[]⟩)(d:Al w mg f c)(nd:(c.map (·.1)).Nodup):zu P w K mg x c:=by
 obtain⟨j,k,g,m⟩:=d.pairs (P:=P)
 refine⟨a,o,λh i=>⟨j,⟨_,_,_,i _ _ l,⟨rfl,rfl,rfl⟩,rfl,λe r=>d.keys e (by simpa using r),by simpa using k,?_⟩,m⟩⟩
 rw[g]
 have:c.map (λp=>(Sum.inr p.1:Key))=(c.map (·.1)).map Sum.inr:=by rw[QPq];rfl
 rw[this]
 exact List.Pairwise.map _ (λa b n e=>n (Sum.inr.inj e)) nd
theorem B5{P:Program}{w:World}{K:PySem.W.Frag}{mg:Str->Option Value}{base:Heap}{k:Nat}{ps:List Str}:∀{T:List (Str×cW)},(∀p∈T,eL P w K mg base k p.1 ps p.2)->∀x F,T.lookup x=some F->eL P w K mg base k x ps F
 | [],_,x,F,h=>by cases h
 | p::T,g,x,F,h=>by
   by_cases c:x=p.1
   · subst c
     rw[List.lookup_cons_self] at h
     cases h
     exact g p (QBq ..)
   · have b:(x==p.1)=false:=by simpa using c
     rw[List.lookup_cons,b] at h
     exact B5 (λq a=>g q (Qpq _ a)) x F h
def xl:Sp:=λc H Q _=>∃(a:Addr) (b:List Int) (o:Obj),c= [.ref a]/\H a=some (.frz o (.lst (b.map V.int)))/\b.length<=63/\∀d,Q (.bl true) d
theorem sR{M:Md}{ρ:List Addr}{H:Hp}:∀ns:List Int,aU M ρ H (ns.map D.int) (ns.map V.int)
 | []=>.nil
 |s::ss=>.cons (.int s) (sR ss)
def Em{P:Program}{w:World}{K:PySem.W.Frag}{mg:Str->Option Value}{base:Heap}{k:Nat}{f:Addr}{g:FuncData}{ps:List Str}{F:cW}(G:bj P w K mg base dA k f g ps (dP ⟨K,mg⟩ 1 F))
  (h:∀ns:List Int,ns.length<=63->∃c,F [.ref 0] [.frz (ns.map D.int)]=some (.d (.bl true),c)):bj P w K mg base dA k f g ps xl:=
 G.imp λt H Q E m=>by
  obtain⟨a,ns,o,e,p,n,q⟩:=m
  subst e
  obtain⟨c,e⟩:=h ns n
  refine⟨[a],[.frz (ns.map D.int)],[.ref 0],_,c,rfl,.cons (.ref rfl) .nil,⟨rfl,by simp,λk b u i j=> ?_⟩,e,λl v s x y r=> ?_⟩
  ·cases k with
   |zero=>cases i;cases j;exact⟨_,o,p,sR ns⟩
   |succ k=>simp at i
  ·cases r
   exact q s
def xZ(K:PySem.W.Frag):Bool:=K.all λp=>match p.2.data with|.seq _ _=>(match p.2.cls with|.type s=>s !="list" |_=>true)|_=>true
def AL{K:PySem.W.Frag}(h:xZ K=true){a:Addr}{o:Obj}(e:K.lookup a=some o){f:Array Value}{n:Nat}(hd:o.data=.seq f n):o.cls≠.type "list":=by
 intro k
 have d:∀(K:List (Addr×Obj)),K.all (λp=>match p.2.data with|.seq _ _=>(match p.2.cls with|.type s=>s !="list" |_=>true)|_=>true)=true->K.lookup a=some o->False:=by
  intro K
  induction K with
  |nil=>intro _ e;cases e
  | cons p K j=>
    intro h e
    rw[List.all_cons,QCq] at h
    obtain⟨b,q⟩:=p
    rw[List.lookup_cons] at e
    by_cases c:a=b
    · subst c
      simp only[BEq.rfl] at e
      cases e
      have g:=h.1
      simp only[hd,k] at g
      simp at g
    · have i:(a==b)=false:=by simpa using c
      rw[i] at e
      exact j h.2 e
 exact d K h e
def JG{K:PySem.W.Frag}{H:Hp}{a:Addr}{ns:List Int}(b:xZ K=true)(c:ns.length<=63)(e:EY H)(d:gx K H a (ns.map V.int)):xl [.ref a] H (λv _=>v=.bl true) λ_ _ _=>False:=by
 rcases d with(h|⟨o,h⟩)|⟨o,its,n,h,hc,_,hd,_⟩
 ·rcases e a with z|⟨o,f,z⟩
  ·rw[h] at z;cases z
  ·rw[h] at z;cases z
 ·exact⟨a,ns,o,rfl,h,c,λ_=>rfl⟩
 ·exact absurd hc (AL b h hd)
def Jv{l:PySem.W.OpenLaw}{q:Program}{b:List Str}{j:(Str->Option Value)->Heap->Prop}{i:World->Heap->Prop}{d:DefRec}{K:Params->PySem.W.Frag}{k:Nat}(t:l.most=some 63)(c:d.params.defaults= [])(r:eK k PySem.callerA)
  (o:∀(w:World) (h:Heap),i w h->(K w.params).In h) (v:∀w:World,xZ (K w.params)=true)
  (F:∀(w:World) (mg:Str->Option Value) (g:Addr) (h:Heap),(K w.params).In h->h.Ns mainGlobals mg->mg d.name=some (.ref g)→
   ∃e:FuncData,(∀(s:Shared) (u:Value),BindsTo s e ⟨[u],[]⟩ [("_law_script",u)])/\∀base:Heap,(K w.params).In base->base.Ns mainGlobals mg->bj l.prog w (K w.params) mg base dA k g e ["_law_script"] xl):
  PySem.W.WalkO q b j i l.row.toRowW d [] (λf vs=>PySem.call f vs):=
 L2.E_ (n:=63) (k:=k) (x:="_law_script") (CX:=λ_=>dA) (sp:=λ_=>xl) t (by decide) c r o F (λw H a A p m y=>JG (v w) p m y) λ_ _ _ _ _ z=>z
end DL
namespace DL
open PySem PySem.Spec L2 PyProof.Rows
section
variable{X:Cx}{x:Str}{e:Expr}{f:bc}{pos pos':Pos}
def Jj(i:Nat)(b:X.N.Nodup)(he:PE X e (tD (md X) f))(hi:X.N[i]?=some x:=by rfl)(c:Loc X.env.scope x:=by first|exact Or.inl rfl|exact Or.inr rfl)(hs:swapsWith e (some (.Name x pos')) pos.line X.env=pure false:=by rfl)
  (a:X.fn x=true\/X.env.scope.names.lookup x=some .local:=by first|exact .inl rfl|exact .inr rfl|assumption):PS X (.Assign [.Name x pos'] e pos) (tS (md X) (a_ i f)):=Jk (Hk b hi c he hs a)
def MB(i:Nat)(b:X.N.Nodup)(hi:X.N[i]?=some x:=by rfl)(c:Loc X.env.scope x:=by first|exact Or.inl rfl|exact Or.inr rfl)(a:X.fn x=true\/X.env.scope.names.lookup x=some .local:=by first|exact .inl rfl|exact .inr rfl|assumption):PG X (.Name x pos) (mj i):=vY b hi c a
def Mu(i:Nat)(b:X.N.Nodup)(hi:X.N[i]?=some x:=by rfl)(c:Loc X.env.scope x:=by first|exact Or.inl rfl|exact Or.inr rfl)(a:X.fn x=true\/X.env.scope.names.lookup x=some .local:=by first|exact .inl rfl|exact .inr rfl|assumption):PG X (.Name x pos) (tG (md X) (bS i)):=DJ (vY b hi c a)
def Mx{N:List Str}{a:Scope}{b:List (Str×Addr)}{C:Addr}{s:Shared}{H:Hp}{fp:List Addr}(i:Nat)(g:N.Nodup:=by decide +kernel)(hi:(aF X N a b C s H fp).N[i]?=some x:=by rfl)(d:Loc (aF X N a b C s H fp).env.scope x:=by first|exact Or.inl rfl|exact Or.inr rfl)
  (c:(aF X N a b C s H fp).fn x=true\/(aF X N a b C s H fp).env.scope.names.lookup x=some .local:=by first|exact .inl rfl|exact .inr rfl|assumption):PG (aF X N a b C s H fp) (.Name x pos) (tG (md (aF X N a b C s H fp)) (bS i)):=DJ (vY g hi d c)
def v_(i:Nat)(b:X.N[i]?=some x:=by rfl)(hv:D2 X.env.scope x:=by first|exact Or.inl rfl|exact Or.inr (Or.inl rfl)|exact Or.inr (Or.inr rfl))(hd:(x==("__debug__":Str))=false:=by decide)(a:(x==("__classdict__":Str))=false:=by decide):PE X (.Name x pos) (tD (md X) (au i)):=HF (pv i b hv hd a)
end
section
variable{X:Cx}{x:Str}{k k':Nat}{ps:List Str}{F:cW}{e:Expr}{es:List Expr}{g:fO}{p pos:Pos}
def Kd(C:eL X.prog X.w X.K X.mg X.base k x ps F)(d:eK k' X.A)(c:PA X (e::es) (v5 (md X) g))(b:k<=k':=by first|decide|omega)(f:Gl X x:=by rfl)
  (h:nA ps.length g:=by repeat (first|exact rS|refine gF ?_))
  (a:(x==("__debug__":Str))=false:=by decide) (he:starEach (e::es) X.env=(false,eval e X.env)::starEach es X.env:=by rfl) (hpl:(backTo pos (starEach es X.env)).any (·.1)=false:=by rfl):
  PE X (.Call (.Name x p) (e::es) [] pos) (tD (md X) (ax F g)):=Jn C (d.mono b) f c h a he hpl
def Kx(C:eL X.prog X.w X.K X.mg X.base k x ps F)(d:eK k' X.A)(c:PA X (e::es) (v5 (md X) g))(b:k<=k':=by first|decide|omega)(f:Gl X x:=by rfl)
  (h:nA ps.length g:=by repeat (first|exact rS|refine gF ?_))
  (a:(x==("__debug__":Str))=false:=by decide) (he:starEach (e::es) X.env=(false,eval e X.env)::starEach es X.env:=by rfl) (hpl:(backTo pos (starEach es X.env)).any (·.1)=false:=by rfl):
  PE X (.Call (.Name x p) (e::es) [] pos) (tL (md X) (eW F g)):=II C (d.mono b) f c h a he hpl
end
def eZ{N P:List Str}{h:Scope}(a:h.kind=.function:=by rfl)(b:h.isCoroutine=false:=by rfl)(c:h.isGenerator=false:=by rfl)(d:N.Nodup:=by decide +kernel)(e:N.take P.length=P:=by rfl)
  (f:∀x∈P,h.names.lookup x=some .local\/h.names.lookup x=some .cell:=by decide +kernel) (g:∀y∈h.names,y.2≠.free:=by decide +kernel):aE N P h:=⟨a,b,c,d,e,f,g⟩
structure aZ(K:PySem.W.Frag)(x:Str)(st:Stmt)(f:Addr):Prop where
 ex:∃(oc:Value) (od:Option Addr) (kV dc pm:Value) (an:Option Addr) (cd ct:Value) (sl:Array (Option Value)),PySem.W.nsIn K mainGlobals x=some (some (.ref f))∧
  K.lookup f=some ⟨oc,od,.func (PySem.W.fnOf x x (fV st) (eV st) (az st) .none kV dc pm an cd ct),sl⟩/\PySem.W.codeIn K cd x=true/\PySem.W.keepIn K (.ref f)=true
def aZ.of{K:PySem.W.Frag}{x:Str}{st:Stmt}{f:Addr}{j:Value}{h:Option Addr}{kV i e:Value}{d:Option Addr}{b ct:Value}{g:Array (Option Value)}(a:PySem.W.nsIn K mainGlobals x=some (some (.ref f)))
  (l:K.lookup f=some ⟨j,h,.func (PySem.W.fnOf x x (fV st) (eV st) (az st) .none kV i e d b ct),g⟩) (c:PySem.W.codeIn K b x=true) (k:PySem.W.keepIn K (.ref f)=true):aZ K x st f:=⟨j,h,kV,i,e,d,b,ct,g,a,l,c,k⟩
structure KC(K:PySem.W.Frag)(mg:Str->Option Value)(x:Str)(st:Stmt)(ps:List Str)(f:Addr):Prop where
 ex:∃fd,dU K x x st f fd/\Binds K fd ps []/\PySem.W.keepIn K (.ref f)=true
 m:mg x=some (.ref f)
def aZ.ok1{K:PySem.W.Frag}{mg:Str->Option Value}{x:Str}{st:Stmt}{ps:List Str}{f:Addr}{h:Heap}(D:aZ K x st f)(X:K.In h)(G:h.Ns mainGlobals mg)
  (j:∀(kV c d:Value) (i:Option Addr) (b ct:Value) (us:List Value),us.length=ps.length->bindArgs (PySem.W.fnOf x x (fV st) (eV st) (az st) .none kV c d i b ct) ⟨us,[]⟩=pure (ps.zip us):=by intro _ _ _ _ _ _ us l;rcases us with _|⟨_,_|⟨_,_|⟨_,_|⟨_,_|⟨_,_|⟨_,_⟩⟩⟩⟩⟩⟩ <;>first|rfl|cases l):KC K mg x st ps f:=by
 obtain⟨n,q,kV,m,d,i,p,ct,o,k,e,g,a⟩:=D.ex
 exact⟨⟨_,zf e g a,(zf e g a).binds j,a⟩,PySem.W.mg_of X G k⟩
structure Pk(P:Program)(w:World)(base:Heap):Prop where
def KC.cal{P:Program}{w:World}{base:Heap}{K:PySem.W.Frag}{mg:Str->Option Value}{x:Str}{st:Stmt}{ps:List Str}{f:Addr}{k:Nat}{F:cW}(O:KC K mg x st ps f)(Z:Pk P w base)
  (h:∀a,dU K x x st f a->Binds K a ps []->PySem.W.keepIn K (.ref f)=true->mg x=some (.ref f)->bj P w K mg base dA k f a ps (dP ⟨K,mg⟩ ps.length F)):eL P w K mg base k x ps F:=by
 obtain⟨a,d,b,c⟩:=O.ex
 exact⟨f,a,h a d b c O.m,b,c,O.m⟩
end DL
namespace DL
open PySem PySem.Spec L2
def E{α:Type}(f:cz->aA->Option (α×aA))(c:cz)(S:aA)(Q:α->aA->Prop):Prop:=∃a b,f c S=some (a,b)/\Q a b
def T(f:cH)(a:cz)(S:aA)(Q:Out->Prop):Prop:=∃o,f a S=some o/\Q o
def Fn(F:cW)(ds:List D)(S:aA)(Q:Res->aA->Prop):Prop:=∃r a,F ds S=some (r,a)/\Q r a
def Tg(g:jS)(d:D)(c:cz)(S:aA)(Q:cz->aA->Prop):Prop:=∃a b,g d c S=some (a,b)/\Q a b
def Iw(g:lU)(d:List D)(c:cz)(S:aA)(Q:cz->aA->Prop):Prop:=∃a b,g d c S=some (a,b)/\Q a b
def Op{α:Type}(o:Option α)(Q:α->Prop):Prop:=∃d,o=some d/\Q d
section
variable{Γ:cz}{S:aA}
def E.mono{α:Type}{f:cz->aA->Option (α×aA)}{Q R:α->aA->Prop}(h:E f Γ S Q)(i:∀a S,Q a S->R a S):E f Γ S R:=by
 obtain⟨a,b,e,q⟩:=h
 exact⟨a,b,e,i _ _ q⟩
def T.mono{f:cH}{Q R:Out->Prop}(h:T f Γ S Q)(i:∀o,Q o->R o):T f Γ S R:=by
 obtain⟨a,e,q⟩:=h
 exact⟨a,e,i _ q⟩
def aB{i:Nat}{d:D}{Q:D->aA->Prop}(h:Γ[i]?=some (some d))(q:Q d S):E (au i) Γ S Q:=⟨d,S,by unfold au;rw[h],q⟩
def gV{d:D}{Q:D->aA->Prop}(q:Q d S):E (cF d) Γ S Q:=⟨d,S,rfl,q⟩
def bT{Q:List D->aA->Prop}(q:Q [] S):E av Γ S Q:=⟨[],S,rfl,q⟩
def aL{f:bc}{g:fO}{Q:List D->aA->Prop}(h:E f Γ S λd S1=>E g Γ S1 λds S2=>Q (d::ds) S2):E (ar f g) Γ S Q:=by
 obtain⟨d,S1,a,ds,S2,b,q⟩:=h
 exact⟨_,_,by unfold ar;rw[a];simp only[Qbq];rw[b];rfl,q⟩
def cO{o:sg}{f g:bc}{Q:D->aA->Prop}(h:E f Γ S λx S1=>E g Γ S1 λy S2=>Op (o S2 x y) λd=>Q d S2):E (aR o f g) Γ S Q:=by
 obtain⟨x,S1,a,y,S2,c,d,b,q⟩:=h
 exact⟨d,S2,by unfold aR;rw[a];simp only[Qbq];rw[c];simp only[Qbq];rw[b];rfl,q⟩
def g8{f:fO}{Q:D->aA->Prop}(h:E f Γ S λds S1=>ds.length<=sizeLine/\Q (.tup ds) S1):E (bg f) Γ S Q:=by
 obtain⟨ds,S1,a,l,q⟩:=h
 exact⟨_,_,by unfold bg;rw[a];simp only[Qbq];rw[Qhq l],q⟩
def J0{f:fO}{Q:List D->aA->Prop}(h:E f Γ S λds S1=>ds.length<=sizeLine/\Q ds S1):E (cN f) Γ S Q:=by
 obtain⟨ds,S1,a,l,q⟩:=h
 exact⟨_,_,by unfold cN;rw[a];simp only[Qbq];rw[Qhq l],q⟩
def tW{f:fO}{Q:D->aA->Prop}(h:E f Γ S λds S1=>Q (.ref S1.length) (S1++ [.lst ds])):E (dH f) Γ S Q:=by
 obtain⟨ds,S1,a,q⟩:=h
 exact⟨_,_,by unfold dH;rw[a];rfl,q⟩
def CH{o:FK}{f:fO}{Q:D->aA->Prop}(h:E f Γ S λds S1=>Op (o ds) λd=>Q d S1):E (vg o f) Γ S Q:=by
 obtain⟨ds,S1,a,d,b,q⟩:=h
 exact⟨d,S1,by unfold vg;rw[a];simp only[Qbq];rw[b];rfl,q⟩
def jn{f:bc}{Q:(List D×Tag)->aA->Prop}(h:E f Γ S λd S1=>Op (q0 S1 d) λp=>Q p S1):E (bM f) Γ S Q:=by
 obtain⟨c,S1,a,d,b,q⟩:=h
 exact⟨d,S1,by unfold bM;rw[a];simp only[Qbq];rw[b];rfl,q⟩
def vE{f:fO}{Q:(List D×Tag)->aA->Prop}(h:E f Γ S λds S1=>Q (ds,.fr) S1):E (kd f) Γ S Q:=by
 obtain⟨ds,S1,a,q⟩:=h
 exact⟨_,S1,by unfold kd;rw[a];rfl,q⟩
def LG{f:dQ}{Q:D->aA->Prop}(h:E f Γ S λp S1=>Q (.int p.1.length) S1):E (jE f) Γ S Q:=by
 obtain⟨p,S1,a,q⟩:=h
 exact⟨_,S1,by unfold jE;rw[a];rfl,q⟩
def qp{f:dQ}{Q:D->aA->Prop}(h:E f Γ S λp S1=>Q (.tup p.1) S1):E (tupQ f) Γ S Q:=by
 obtain⟨p,S1,a,q⟩:=h
 exact⟨_,S1,by unfold tupQ;rw[a];rfl,q⟩
def ue{f:dQ}{Q:(List D×Tag)->aA->Prop}(h:E f Γ S λp S1=>p.2.isL=true/\Q p S1):E (ir f) Γ S Q:=by
 obtain⟨p,S1,a,l,q⟩:=h
 exact⟨_,S1,by unfold ir;rw[a];simp only[Qbq];rw[Qhq l],q⟩
def zQ{f:dQ}{Q:D->aA->Prop}(h:E f Γ S λp S1=>(p.2.isL=true/\p.2.stays S1 p.1)/\Q (.bl (!p.1.isEmpty)) S1):E (gP f) Γ S Q:=by
 obtain⟨p,S1,a,l,q⟩:=h
 exact⟨_,S1,by unfold gP;rw[a];simp only[Qbq];rw[Qhq l],q⟩
def gh{F:cW}{g:fO}{Q:D->aA->Prop}(h:E g Γ S λds S1=>Fn F ds S1 λr S2=>match r with|.d x=>Q x S2|.l _=>False):E (ax F g) Γ S Q:=by
 obtain⟨ds,S1,a,r,S2,b,q⟩:=h
 cases r with
 |d x=>exact⟨x,S2,by unfold ax;rw[a];simp only[Qbq];rw[b];rfl,q⟩
 |l x=>exact q.elim
def J1{F:cW}{g:fO}{Q:List D->aA->Prop}(h:E g Γ S λds S1=>Fn F ds S1 λr S2=>match r with|.d _=>False|.l x=>Q x S2):E (eW F g) Γ S Q:=by
 obtain⟨ds,S1,a,r,S2,b,q⟩:=h
 cases r with
 |d x=>exact q.elim
 |l x=>exact⟨x,S2,by unfold eW;rw[a];simp only[Qbq];rw[b];rfl,q⟩
def eA{f:bc}{Q:Bool->aA->Prop}(h:E f Γ S λd S1=>match d with|.bl k=>Q k S1|_=>False):E (aI f) Γ S Q:=by
 obtain⟨d,S1,a,q⟩:=h
 cases d with
 |bl k=>exact⟨k,S1,by unfold aI;rw[a];rfl,q⟩
 |_=>exact q.elim
def FJ{f:bc}{Q:Bool->aA->Prop}(h:E f Γ S λd S1=>Op (y7 S1 d) λk=>Q k S1):E (ja f) Γ S Q:=by
 obtain⟨d,S1,a,k,b,q⟩:=h
 exact⟨k,S1,by unfold ja;rw[a];simp only[Qbq];rw[b];rfl,q⟩
def CJ{f:ix}{Q:Bool->aA->Prop}(h:E f Γ S λk S1=>Q (!k) S1):E (y0 f) Γ S Q:=by
 obtain⟨k,S1,a,q⟩:=h
 exact⟨_,S1,by unfold y0;rw[a];rfl,q⟩
def lT{f g:ix}{Q:Bool->aA->Prop}(h:E f Γ S λk S1=>if k=true then E g Γ S1 Q else Q false S1):E (i4 f g) Γ S Q:=by
 obtain⟨k,S1,a,q⟩:=h
 cases k with
 |true=>obtain⟨j,b,c,q⟩:=(q:E g Γ S1 Q);exact⟨j,b,by unfold i4;rw[a];exact c,q⟩
 |false=>exact⟨false,S1,by unfold i4;rw[a];rfl,q⟩
def mB{f g:ix}{Q:Bool->aA->Prop}(h:E f Γ S λk S1=>if k=true then Q true S1 else E g Γ S1 Q):E (DT f g) Γ S Q:=by
 obtain⟨k,S1,a,q⟩:=h
 cases k with
 |true=>exact⟨true,S1,by unfold DT;rw[a];rfl,q⟩
 |false=>obtain⟨j,b,c,q⟩:=(q:E g Γ S1 Q);exact⟨j,b,by unfold DT;rw[a];exact c,q⟩
def Jz{c:ix}{f g:bc}{Q:D->aA->Prop}(h:E c Γ S λk S1=>if k=true then E f Γ S1 Q else E g Γ S1 Q):E (sy c f g) Γ S Q:=by
 obtain⟨k,S1,d,q⟩:=h
 cases k with
 |true=>obtain⟨j,a,b,q⟩:=(q:E f Γ S1 Q);exact⟨j,a,by unfold sy;rw[d];exact b,q⟩
 |false=>obtain⟨j,a,b,q⟩:=(q:E g Γ S1 Q);exact⟨j,a,by unfold sy;rw[d];exact b,q⟩
def kq{i:Nat}{f:bc}{Q:Out->Prop}(h:E f Γ S λd S1=>Q (.nx (Γ.set i (some d)) S1)):T (a_ i f) Γ S Q:=by
 obtain⟨d,S1,a,q⟩:=h
 exact⟨_,by unfold a_;rw[a];rfl,q⟩
def eG{f:bc}{Q:Out->Prop}(h:E f Γ S λd S1=>Q (.rt d S1)):T (bP f) Γ S Q:=by
 obtain⟨d,S1,a,q⟩:=h
 exact⟨_,by unfold bP;rw[a];rfl,q⟩
def Li{f:fO}{Q:Out->Prop}(h:E f Γ S λd S1=>Q (.rl d S1)):T (EO f) Γ S Q:=by
 obtain⟨d,S1,a,q⟩:=h
 exact⟨_,by unfold EO;rw[a];rfl,q⟩
def sC{f:bc}{Q:Out->Prop}(h:E f Γ S λd S1=>Q (.nx Γ S1)):T (wV f) Γ S Q:=by
 obtain⟨d,S1,a,q⟩:=h
 exact⟨_,by unfold wV;rw[a];rfl,q⟩
def bC{Q:Out->Prop}(q:Q (.nx Γ S)):T eY Γ S Q:=⟨_,rfl,q⟩
def GP{f:bc}{g:jS}{Q:Out->Prop}(h:E f Γ S λd S1=>Tg g d Γ S1 λa S2=>Q (.nx a S2)):T (pI f g) Γ S Q:=by
 obtain⟨d,S1,b,a,S2,c,q⟩:=h
 exact⟨_,by unfold pI;rw[b];simp only[Qbq];rw[c];rfl,q⟩
def aS{f g:cH}{Q:Out->Prop}(h:T f Γ S λo=>match o with|.nx a S1=>T g a S1 Q|o=>Q o):T (aC f g) Γ S Q:=by
 obtain⟨o,b,q⟩:=h
 cases o with
 |nx a S1=>obtain⟨o,c,q⟩:=(q:T g a S1 Q);exact⟨o,by unfold aC;rw[b];exact c,q⟩
 |_=>exact⟨_,by unfold aC;rw[b];rfl,q⟩
def bV{c:ix}{f g:cH}{Q:Out->Prop}(h:E c Γ S λk S1=>if k=true then T f Γ S1 Q else T g Γ S1 Q):T (dW c f g) Γ S Q:=by
 obtain⟨k,S1,b,q⟩:=h
 cases k with
 |true=>obtain⟨j,a,q⟩:=(q:T f Γ S1 Q);exact⟨j,by unfold dW;rw[b];exact a,q⟩
 |false=>obtain⟨j,a,q⟩:=(q:T g Γ S1 Q);exact⟨j,by unfold dW;rw[b];exact a,q⟩
def aY{i:Nat}{d:D}{Q:cz->aA->Prop}(q:Q (Γ.set i (some d)) S):Tg (bS i) d Γ S Q:=⟨_,_,rfl,q⟩
def HL{f g:bc}{d:D}{Q:cz->aA->Prop}(h:E f Γ S λx S1=>E g Γ S1 λy S2=>∃k i ds j,x=.ref k/\y=.int i/\S2[k]?=some (.lst ds)/\yP ds.length i=some j/\Q Γ (S2.set k (.lst (ds.set j d)))):Tg (E3 f g) d Γ S Q:=by
 obtain⟨x,S1,a,y,S2,b,k,i,ds,j,rfl,rfl,h1,h2,q⟩:=h
 exact⟨_,_,by unfold E3;rw[a];simp only[Qbq];rw[b];simp only[Qbq,h1,h2],q⟩
def LH{f g h:bc}{Q:Out->Prop}(w:E f Γ S λx S1=>E g Γ S1 λy S2=>∃k i ds m,x=.ref k/\y=.int i/\S2[k]?=some (.lst ds)/\0<=i/\ds[i.toNat]?=some (.int m)/\E h Γ S2 λz b=>∃n a j,z=.int n/\b[k]?=some (.lst a)/\yP a.length i=some j/\Q (.nx Γ (b.set k (.lst (a.set j (.int (m+n))))))):T (JT f g h) Γ S Q:=by
 obtain⟨x,S1,d,y,S2,c,k,i,ds,m,rfl,rfl,h1,h2,h3,z,b,e3,n,a,j,rfl,h4,h5,q⟩:=w
 exact⟨_,by unfold JT;rw[d];simp only[Qbq];rw[c];simp only[Qbq,h1,Qhq h2,h3,e3,h4,h5],q⟩
def oU{i:sm}{g:jS}{b:cH}{Q:Out->Prop} (h:E i Γ S λp S1=>∃I:Nat->cz->aA->Prop,I 0 Γ S1/\(∀n a e,I n a e->p.2 e)∧
   (∀(n:Nat) (d:D) (a:cz) (e:aA),p.1[n]?=some d->I n a e->Tg g d a e λt S2=>T b t S2 λo=>match o with|.nx c f=>I (n+1) c f|.ct c f=>I (n+1) c f|.bk c f=>Q (.nx c f)|o=>Q o)∧
   ∀a e,I p.1.length a e->Q (.nx a e)):T (qQ i g b) Γ S Q:=by
 obtain⟨⟨r,W⟩,S1,z,I,y,v,j,m⟩:=h
 have B:∀(k n:Nat) (a:cz) (e:aA),n+k=r.length->I n a e->∃o,forL g b W (r.drop n) a e=some o/\Q o:=by
  intro k
  induction k with
  | zero=>
    intro n a e w s
    rw[List.drop_of_length_le (by omega)]
    refine⟨.nx a e,by simp only[forL];rw[Qhq (v _ _ _ s)],m _ _ (by rw[←w];exact s)⟩
  | succ k x=>
    intro n a e w s
    have l:n<r.length:=by omega
    rw[QWq l]
    obtain⟨t,S2,u,o,A,q⟩:=j n r[n] a e (gQe l) s
    simp only[forL]
    rw[Qhq (v _ _ _ s),u]
    simp only[Qbq]
    rw[A]
    simp only[Qbq]
    cases o with
    |nx c f=>exact x (n+1) c f (by omega) q
    |ct c f=>exact x (n+1) c f (by omega) q
    |bk c f=>exact⟨_,rfl,q⟩
    |rt d f=>exact⟨_,rfl,q⟩
    |rl d f=>exact⟨_,rfl,q⟩
 obtain⟨o,u,q⟩:=B r.length 0 Γ S1 (by omega) y
 exact⟨o,by unfold qQ;rw[z];exact u,q⟩
def jv{js:List (Option Nat)}{i:sm}{g:jS}{t:ix}{f:bc}{Q:List D->aA->Prop} (h:E i Γ S λp S1=>∃I:Nat->cz->aA->List D->Prop,I 0 (lR js Γ) S1 []/\(∀n b e a,I n b e a->p.2 e)∧
   (∀(n:Nat) (d:D) (b:cz) (e:aA) (a:List D),p.1[n]?=some d->I n b e a->Tg g d b e λj S2=>E t j S2 λk w=>if k=true then E f j w λy z=>a.length<sizeLine/\I (n+1) j z (a++ [y]) else I (n+1) j w a)∧
   ∀b e a,I p.1.length b e a->Q a e):E (bW js i g t f) Γ S Q:=by
 obtain⟨⟨u,W⟩,S1,H,I,F,A,m,s⟩:=h
 have K:∀(k n:Nat) (b:cz) (e:aA) (a:List D),n+k=u.length->I n b e a->∃r l,kM g t f W (u.drop n) b e a=some (r,l)/\Q r l:=by
  intro k
  induction k with
  | zero=>
    intro n b e a B v
    rw[List.drop_of_length_le (by omega)]
    refine⟨a,e,by simp only[kM];rw[Qhq (A _ _ _ _ v)],s _ _ _ (by rw[←B];exact v)⟩
  | succ k C=>
    intro n b e a B v
    have o:n<u.length:=by omega
    rw[QWq o]
    obtain⟨j,S2,x,c,w,J,q⟩:=m n u[n] b e a (gQe o) v
    simp only[kM]
    rw[Qhq (A _ _ _ _ v),x]
    simp only[Qbq]
    rw[J]
    simp only[Qbq]
    cases c with
    | true=>
      rw[Qhq rfl] at q⊢
      obtain⟨y,z,L,G,q⟩:=q
      rw[L]
      simp only[Qbq]
      rw[Qhq G]
      exact C (n+1) j z _ (by omega) q
    | false=>
      rw[Quq (by decide)] at q⊢
      exact C (n+1) j w _ (by omega) q
 obtain⟨r,l,x,q⟩:=K u.length 0 _ S1 [] (by omega) F
 exact⟨r,l,by unfold bW;rw[H];exact x,q⟩
def xN{f:bc}{Q:(List D×(aA->Prop))->aA->Prop}(h:E f Γ S λd S1=>∃j,d=.int j/\(-(2^62)<=j/\j<2^62)/\Q (mC 0 j,λ_=>True) S1):E (sx f) Γ S Q:=by
 obtain⟨d,S1,a,j,rfl,hj,q⟩:=h
 exact⟨_,S1,by unfold sx;rw[a];simp only[Qbq];rw[Qhq hj],q⟩
def w5{f:dQ}{Q:(List D×(aA->Prop))->aA->Prop}(h:E f Γ S λp S1=>Q (p.1,λa=>p.2.stays a p.1) S1):E (m7 f) Γ S Q:=by
 obtain⟨p,S1,b,q⟩:=h
 exact⟨_,S1,by unfold m7;rw[b];rfl,q⟩
def yW{m:List D->List D->Option (List D×D)}{f:bc}{g:fO}{Q:D->aA->Prop}(h:E f Γ S λx S1=>∃k a,x=.ref k/\S1[k]?=some (.lst a)/\E g Γ S1 λys S2=>∃ds,S2[k]?=some (.lst ds)/\Op (m ds ys) λp=>Q p.2 (S2.set k (.lst p.1))):E (xW m f g) Γ S Q:=by
 obtain⟨x,S1,b,k,a,rfl,h1,ys,S2,e2,ds,h2,p,e3,q⟩:=h
 exact⟨_,_,by unfold xW;rw[b];simp only[Qbq,e2,h1,h2,e3],q⟩
end
def bF{n:Nat}{b:cH}{ds:List D}{S:aA}{Q:Res->aA->Prop} (h:T b (ds.map some++List.replicate (n-ds.length) none) S λo=>match o with
   |.nx _ a=>Op (settle S .non a) λp=>Q p.1 p.2|.rt d a=>Op (settle S d a) λp=>Q p.1 p.2|.rl l a=>Op (de S l a) λp=>Q p.1 p.2|_=>False):Fn (eJ n b) ds S Q:=by
 obtain⟨o,f,q⟩:=h
 cases o with
 |nx g a=>obtain⟨⟨r,c⟩,e,q⟩:=q;exact⟨r,c,by unfold eJ;rw[f];exact e,q⟩
 |rt d a=>obtain⟨⟨r,c⟩,e,q⟩:=q;exact⟨r,c,by unfold eJ;rw[f];exact e,q⟩
 |rl d a=>obtain⟨⟨r,c⟩,e,q⟩:=q;exact⟨r,c,by unfold eJ;rw[f];exact e,q⟩
 |bk=>exact q.elim
 |ct=>exact q.elim
def fe{S a S2:aA}{d:D}{Q:Res×aA->Prop}(e:ku S a)(c:a.take S.length=S2)(hd:∀k,d≠.ref k)(b:bL S.length d=true)(q:Q (.d d,S2)):Op (settle S d a) Q:=by
 refine⟨_,?_,q⟩
 unfold settle
 rw[Qhq e,c]
 cases d with
 |ref k=>exact absurd rfl (hd k)
 |_=>simp only[b,if_true]
def lS{S a S2:aA}{ds:List D}{Q:Res×aA->Prop}(d:ku S a)(c:a.take S.length=S2)(b:bz S.length ds=true)(q:Q (.l ds,S2)):Op (de S ds a) Q:=by
 refine⟨_,?_,q⟩
 unfold de
 rw[Qhq ⟨d,b⟩,c]
def rT{S:aA}:ku S S:=⟨Qmq _,λk o _ h=>.inl h⟩
def nJ{S:aA}{k:Nat}{o:O}(h:BJ S.length o=true):ku S (S.set k o):=by
 refine⟨by simp,λj u _ e=> ?_⟩
 rw[List.getElem?_set] at e
 split at e
 ·split at e
  ·cases e;exact .inr h
  ·cases e
 ·exact .inl e
end DL
namespace L2
open PySem PySem.Spec PyProof.Rows
end L2
namespace DL
open PySem PySem.Spec L2
end DL
namespace L2
open PySem PySem.Spec PyProof.Rows
end L2
namespace DL
open PySem PySem.Spec PyProof.Rows L2
end DL
namespace L2
open PySem PySem.Spec PyProof.Rows
section
variable{X:Cx}{pos:Pos}
def Km(K:PySem.W.Frag)(n:Nat)(t:Dr):TG:=λv c H Q=>∃a b,v=.ref a/\gx K H a b/\b.length=n/\t b c H Q
def FM{d:List Expr}{k:Nat}{t:Dr}{n:Nat}(C:X.calm=true)(h:AR X d t)
  (z:(assignEach d X.env).length=n:=by rfl) (f:(assignEach d X.env).findIdx? (·.1)=none:=by rfl):PG X (.Tuple d k pos) (Km X.K n t):=by
 intro c s l H v u Q I r i
 obtain⟨a,y,B,q,w,i⟩:=i
 subst B
 cases r
 obtain⟨g,j,x,F⟩:=I.list q
 rw[assign_Tuple]
 refine Qaq (wpAny_standAt ?_)
 unfold unpack
 rw[show(assignEach d X.env).length=g.toArray.size by simp[z,←w,j.length],f]
 refine Qaq (QLq (PySem.W.kun_itemsOf (I.ok.hd C) x.isList λp A=> ?_))
 have m:Inv X c l H {s with heap:=p}:=I.kept (t':=s.toks) λb o e=>A b o (Qwq (Qiq e)) e
 exact h c _ l H y _ Q m (by simpa using j) i
end
end L2
namespace DL
open PySem PySem.Spec PyProof.Rows L2
section
variable{X:Cx}{pos:Pos}
def JE(g:lU):jS:=λd a S=>match d with
 | .ref k=>match S[k]? with
   |some (.lst ds)=>g ds a S
   |_=>none
 |_=>none
def L8{b:List Expr}{k:Nat}{g:lU}{n:Nat}(x:X.calm=true)(h:AR X b (Hy (md X) g))(t:(assignEach b X.env).length=n:=by rfl)(f:(assignEach b X.env).findIdx? (·.1)=none:=by rfl):
  PG X (.Tuple b k pos) (tG (md X) (JE (nG n g))):=JS (FM x h t f) λv y H Q ⟨p,s,S,d,i,u,ok,r,e,q⟩=>by
 cases r with
 | @ref k a hr=>
   simp only[JE,nG] at e
   split at e
   · rename_i o w
     split at e
     · rename_i c
       obtain⟨l,m,j⟩:=ok.st.obj k a _ hr w
       exact⟨a,l,rfl,gx.of m,by rw[←j.length];exact c,p,s,S,o,i,u,ok,j,e,q⟩
     · cases e
   · cases e
 |_=>cases e
end
end DL
namespace DL
open PySem PySem.Spec L2
mutual
def m_:D->Option PyData
 |.non=>some .none
 |.bl b=>some (.bool b)
 |.int i=>some (.int i)
 |.str x=>if PyData.strOk x=true then some (.str x) else none
 |.tup a=>(oV a).map .tuple
 |.ref _=>none
 |.fn _=>none
def oV:List D->Option (List PyData)
 | []=>some []
 |d::ds=>(m_ d).bind λp=>(oV ds).map (p::·)
end
mutual
theorem mY:∀{d:D} {p:PyData},m_ d=some p->p.canLay0=true
 |.non,_,e=>by cases e;rfl
 |.bl _,_,e=>by cases e;rfl
 |.int _,_,e=>by cases e;rfl
 | .str x,_,e=>by
   simp only[m_] at e
   split at e
   · rename_i c;cases e;exact c
   · cases e
 | .tup ds,_,e=>by
   simp only[m_] at e
   obtain⟨b,a,rfl⟩:=oQm.mp e
   exact sZ a
 |.ref _,_,e=>by cases e
 |.fn _,_,e=>by cases e
theorem sZ:∀{ds:List D} {ps:List PyData},oV ds=some ps->PyData.canLayAll0 ps=true
 | [],_,e=>by cases e;rfl
 | d::ds,_,e=>by
   simp only[oV] at e
   obtain⟨p,a,e⟩:=aq e
   obtain⟨ps,b,rfl⟩:=oQm.mp e
   simp only[PyData.canLayAll0,QCq]
   exact⟨mY a,sZ b⟩
end
mutual
theorem yG{M:Md}{ρ:List Addr}{H:Hp}:∀{d:D} {p:PyData} {v:V},Rel M ρ H d v->m_ d=some p->pF (λ_=>False) H p v
 |.non,_,_,.non,e=>by cases e;exact .non
 |.bl _,_,_,.bl _,e=>by cases e;exact .bl _
 |.int _,_,_,.int _,e=>by cases e;exact .int _
 | .str _,_,_,.str _,e=>by
   simp only[m_] at e
   split at e
   · cases e;exact .str _
   · cases e
 | .tup ds,_,_,.tup h hs,e=>by
   simp only[m_] at e
   obtain⟨b,a,rfl⟩:=oQm.mp e
   exact .tup h (zy hs a)
 |.ref _,_,_,_,e=>by cases e
 |.fn _,_,_,_,e=>by cases e
theorem zy{M:Md}{ρ:List Addr}{H:Hp}:∀{ds:List D} {ps:List PyData} {vs:List V},aU M ρ H ds vs->oV ds=some ps->rY (λ_=>False) H ps vs
 | [],_,_,.nil,e=>by cases e;exact .nil
 | d::ds,_,_,.cons h hs,e=>by
   simp only[oV] at e
   obtain⟨p,a,e⟩:=aq e
   obtain⟨ps,b,rfl⟩:=oQm.mp e
   exact .cons (yG h a) (zy hs b)
end
end DL
namespace L2
open PySem PySem.Spec
section
variable{X:Cx}
def HX(a:Bool):R2:=λx y H Q=>∃p q,pF (λ_=>False) H p x/\pF (λ_=>False) H q y/\p.canLay0=true/\q.canLay0=true/\p.depth<=60/\Q (.bl (if a then !PyData.eqv p q else PyData.eqv p q)) H
def FQ(o:X.A.units+64<cLine):i6 X (compareOp .NotEq) (HX true):=by
 rintro b s r H x y v u Q I i j ⟨p,q,e,k,f,d,l,h⟩
 obtain⟨m,c,_⟩:=rH I (λa z=>z.elim) e i
 obtain⟨n,g,_⟩:=rH I (λa z=>z.elim) k j
 exact SeqAt.neOverData _ _ _ _ _ _ _ _ _ _ _ _ c g f d (by omega) ⟨.bl _,H,I,rfl,h⟩
end
end L2
namespace DL
open PySem PySem.Spec L2
section
variable{X:Cx}{a b e:Expr}{pos:Pos}
def GX(c:Bool):sg:=λ_ x y=>(m_ x).bind λp=>(m_ y).bind λq=>if p.depth<=60 then some (.bl (if c then !PyData.eqv p q else PyData.eqv p q)) else none
def GL{M:Md}{f:Bool}:kb M (HX f) (GX f):=by
 intro m S H x y d u v Q k j l e q
 unfold GX at e
 obtain⟨p,h,e⟩:=aq e
 obtain⟨i,g,e⟩:=aq e
 split at e
 ·rename_i c
  cases e
  exact⟨p,i,yG j h,yG l g,mY h,mY g,c,q _ _ bJ.refl k (.bl _)⟩
 ·cases e
def IT{f g:bc}{k:Nat}(d:eK k X.A)(c:PE X a (tD (md X) f))(h:PE X b (tD (md X) g)):PT X (.Compare a [.NotEq] [b] pos) (tB (md X) (aI (aR (GX true) f g))):=Jt (FQ d.units) GL c h (DA _)
end
end DL
namespace DL
open PySem PySem.Spec PyProof.Rows L2
end DL
namespace L2
open PySem PySem.Spec PyProof.Rows
end L2
namespace DL
open PySem PySem.Spec L2
end DL
namespace L2
open PySem PySem.Spec PyProof.Rows
theorem tK{α c:Type}{F:α->c->Prop}:∀{l:List α} {m:List c} {i:Nat} {a:α},Paired F l m->l[i]?=some a->∃b,m[i]?=some b/\F a b
 |_,_,0,_,.cons h _,e=>by cases e;exact⟨_,rfl,h⟩
 |_,_,i+1,_,.cons _ t,e=>by simpa using tK (i:=i) t (by simpa using e)
 |_,_,_,_,.nil,e=>by simp at e
end L2
namespace DL
open PySem PySem.Spec PyProof.Rows L2
def kD:Key->D
 |.inl i=>.int i
 |.inr x=>.str x
def FX{M:Md}{ρ:List Addr}{H:Hp}(k:Key):Rel M ρ H (kD k) (kV k):=by
 cases k with
 |inl i=>exact .int i
 |inr x=>exact .str x
end DL
namespace DL
open PySem PySem.Spec L2
end DL
namespace L2
open PySem PySem.Spec
end L2
namespace DL
open PySem PySem.Spec L2
end DL
namespace L2
open PySem PySem.Spec PyProof.Rows
end L2
namespace DL
open PySem PySem.Spec L2
end DL
namespace DL
open PySem PySem.Spec PyProof.Rows L2
def gQ:List D->Option (List (Key×D))
 | []=>some []
 | d::r=>match d with
   |.tup [k,v]=>(kh k).bind λa=>(gQ r).bind λl=>some ((a,v)::l)
   |_=>none
theorem oI{M:Md}{ρ:List Addr}{H:Hp}:∀{ds:List D} {vs:List V} {l:List (Key×D)},aU M ρ H ds vs->gQ ds=some l->∃(ts:List Addr) (kvs:List (Key×V)),vs=ts.map V.ref/\kvs.length=ts.length/\(∀(j:Nat) t b,ts[j]?=some t->kvs[j]?=some b->H t=some (.tup [kV b.1,b.2]))/\bB M ρ H l kvs
 |_,_,_,.nil,e=>by cases e;exact⟨[],[],rfl,rfl,λj t b h=>by simp at h,rfl⟩
 | _,_,_,.cons (d:=d) h hs,e=>by
   simp only[gQ] at e
   split at e
   · rename_i k v
     obtain⟨m,p,e⟩:=aq e
     obtain⟨l,n,e⟩:=aq e
     cases e
     obtain⟨ts,kvs,rfl,h1,h2,h3⟩:=oI hs n
     cases h with
     | tup q c=>
       rename_i a r
       cases c with
       | cons i c=>
         cases c with
         | cons o c=>
           cases c
           cases j0 i p
           refine⟨a::ts,(m,_)::kvs,rfl,by simp[h1],λj t b g f=> ?_,⟨_,_,rfl,o,h3⟩⟩
           cases j with
           |zero=>cases g;cases f;exact q
           |succ j=>exact h2 j t b g f
   · cases e
section
variable{X:Cx}{a:Expr}{pos:Pos}
def J_(f:dQ):bc:=λc S=>(f c S).bind λ(p,b)=>if p.2.isL=true then(gQ p.1).bind λl=>some (.ref b.length,b++ [.dct (aK [] l)]) else none
def Ka{t r:Pos}{f:dQ}(G:X.calm=true)(h:Gl X "dict")(i:X.mg "dict"=none)(A:PE X a (tQ (md X) f))(hs:starEach [a] X.env= [(false,eval a X.env)]:=by rfl):
  PE X (.Call (.Name "dict" t) [a] [] r) (tD (md X) (J_ f)):=i3 (j9 (yf G) h i PyProof.Rows.boot_dict (cC A eQ hs) (he:=hs)) λI H Q ⟨v,w,S,d,J,ok,e,q⟩=>by
 obtain⟨⟨⟨j,u⟩,C⟩,x,e⟩:=aq e
 dsimp only at e
 split at e
 ·rename_i c
  obtain⟨l,y,e⟩:=aq e
  obtain⟨rfl,rfl⟩:=bN e
  refine⟨v,w,S,j,u,C,ok,x,λn B m H1 F g o k=> ?_⟩
  obtain⟨z,b,rfl,g1,g2,g3⟩:=oI k y
  refine⟨B,z,b,rfl,o.sqL c,g1,g2,λp s=> ?_⟩
  exact Fd F g s (bB.merge (l:= []) g3 rfl) q
 ·cases e
end
end DL
namespace L2
open PySem PySem.Spec PyProof.Rows
section
variable{X:Cx}{pins:List (Addr×Obj)}{σ:St}{H H':Hp}{s:Shared}{h':Heap}{t':Nat}
def Inv.more(I:Inv X pins σ H s)(k:∀b u,s.heap.get? b=some u->h'.get? b=some u)(hs:∀a o,H a=some o->H' a=some o)(g:∀a,a<s.heap.objs.size->H a=none->H' a=none)
  (new:∀a o,H' a=some o->H a=none->bR X.prog X.w H' h' a o):Inv X pins σ H' {s with heap:=h',toks:=t'}:=
 I.un ⟨λb u q _ _ _=>k b u q,λb u q _ _ _=>⟨u.slots,k b u q⟩,λb u q n _=>g b (Qiq q) n,λb u q _=>⟨u,k b u q⟩,λb d q=>hs _ _ q,λb u d q=>hs _ _ q,λb i q=>⟨#[],by rw[hs _ _ q];simp⟩⟩
  (λb u e=>by
   cases h:H b with
   |none=>exact new b u e h
   | some f=>
     have:=hs b f h
     rw[e] at this
     cases this
     exact(I.hok b u h).stay (λc v _ q=>k c v q) (λc q=>hs _ _ q) λc d q=>hs _ _ q)
def lB:Hp->List Addr->List (Key×V)->Hp
 |H,t::ts,kv::kvs=>lB (upd H t (.tup [kV kv.1,kv.2])) ts kvs
 |H,_,_=>H
theorem hU:∀{ts:List Addr} {kvs:List (Key×V)} {H:Hp} {a:Addr},a∉ts->lB H ts kvs a=H a
 | [],_,_,_,_=>by unfold lB;rfl
 |_::_,[],_,_,_=>by unfold lB;rfl
 | t::ts,kv::kvs,H,a,h=>by
   rw[Qsq,not_or] at h
   unfold lB
   rw[hU h.2,aM h.1]
theorem vI:∀{ts:List Addr} {kvs:List (Key×V)} {H:Hp} {j:Nat} {t:Addr} {kv:Key×V},ts.Nodup->ts[j]?=some t->kvs[j]?=some kv->lB H ts kvs t=some (.tup [kV kv.1,kv.2])
 | t::ts,kv::kvs,H,0,_,_,nd,e1,e2=>by
   cases e1;cases e2
   unfold lB
   rw[hU (List.nodup_cons.mp nd).1,bp]
 | t::ts,kv::kvs,H,j+1,_,_,nd,e1,e2=>by
   unfold lB
   exact vI (j:=j) (List.nodup_cons.mp nd).2 (by simpa using e1) (by simpa using e2)
def HU{P:Program}{w:World}{k:Key}{u:Value}(h:(aX P w).is k u=true):RelV (kV k) u:=by
 rw[xX] at h
 cases k with
 |inl i=>cases u <;>simp_all [jA,Value.isInt,Value.isStrOf] <;>exact⟨_,rfl⟩
 |inr x=>cases u <;>simp_all [jA,Value.isInt,Value.isStrOf] <;>exact⟨_,rfl⟩
end
def oH(r a:Addr):Heap->Prop:=λh=>h.IsItemsView r a
def BV{X:Cx}:JH X "dict.items" (λx vs H Q=>∃a kvs,x=.ref a/\vs= []/\H a=some (.dK kvs)/\∀r,H r=none->Q (.ref r) (upd H r (.ext (oH r a)))):=by
 intro f s u H x vs v y Q I n l h
 obtain⟨a,kvs,rfl,rfl,ha,q⟩:=h
 cases n
 cases l
 obtain⟨z,i,j,m,g⟩:=rA I.hok ha
 refine call_meetsIn PySem.F.slot_dict_items g.typeIs PySem.F.entry_dict_items (PySem.F.args_dict_items_1 _) (meets_dict_items (aX X.prog X.w) a i) ⟨⟨j,g⟩,?_⟩
 exact⟨.ref s.heap.objs.size,_,I.laid (t':=s.toks) (o:=.ext (oH s.heap.objs.size a)) (λb o e=>Qcq _ e) (Qmq _) ⟨⟨_,Qrq _ rfl,rfl,rfl⟩,⟨_,Qrq _ rfl⟩,λt p ⟨o,e,c,d⟩ k=>⟨o,k o e,c,d⟩⟩,rfl,q _ (I.hok.fresh (Qmq _))⟩
def rB{X:Cx}(hc:X.calm=true):gy X (.type "list") (λxs H Q=>∃r a kvs,xs= [.ref r]/\H r=some (.ext (oH r a))/\H a=some (.dK kvs)∧
  ∀l ts,H l=none->l∉ts->ts.Nodup->(∀t∈ts,H t=none)->ts.length=kvs.length->Q (.ref l) (upd (lB H ts kvs) l (.lst (ts.map V.ref)))):=by
 intro P s σ H xs us Q I rv h
 obtain⟨r,a,kvs,rfl,hr,ha,q⟩:=h
 obtain⟨u,rfl,rx⟩:=vals1 rv
 cases (show u=Value.ref r from rx)
 obtain⟨hv,_,_⟩:=(show bR X.prog X.w H s.heap r (.ext (oH r a)) from I.hok r _ hr)
 obtain⟨z,hd,ws,A,dd⟩:=rA I.hok ha
 have C:kvs.length=ws.length:=A.length
 obtain⟨ep,L⟩:=dd.dictAt
 refine PySem.W.kdx_call (knd:=aX X.prog X.w) (I.ok.hd hc) hv L (by rw[←C];exact z) λh' tk G c g Y hS hl m d=> ?_
 have v:∀t,t=s.heap.objs.size\/t∈g->H t=none:=λt n=>I.hok.fresh (by
  rcases n with rfl|n
  ·exact Qmq _
  ·exact nQl (m.above t n))
 have y:s.heap.objs.size∉g:=λf=>Nat.lt_irrefl _ (m.above _ f)
 have F:g.Nodup:=m.rise.imp λh=>Qwq h
 refine⟨.ref s.heap.objs.size,_,I.more Y (λb o e=> ?_) (λb p e=> ?_) (λb o e U=> ?_),rfl,q s.heap.objs.size g (v _ (.inl rfl)) y F (λt n=>v t (.inr n)) (by omega)⟩
 ·rw[aM (c_ e (v _ (.inl rfl))),hU]
  ·exact e
  ·intro f
   rw[v b (.inr f)] at e
   cases e
 ·rw[aM (Qwq p),hU]
  ·exact e
  ·exact λf=>Nat.lt_asymm p (m.above b f)
 ·by_cases p:b=s.heap.objs.size
  ·subst p
   rw[bp] at e
   cases e
   refine⟨by rw[lQm];omega,G.toList,c,?_,by simpa using hS⟩
   rw[d]
   clear m d q hl F y v
   induction g with
   |nil=>exact .nil
   |cons t ts ih=>exact .cons rfl ih
  ·rw[aM p] at e
   by_cases f:b∈g
   ·obtain⟨j,S⟩:=List.mem_iff_getElem?.mp f
    obtain⟨J,k,x,R,e2,e3⟩:=m.pairs j b S
    have a0:=(gQs.mp R).1
    obtain⟨B,K,hp⟩:∃B,kvs[j]?=some B/\(B.1=k/\RelV B.2 x):=by
     have M:=gQe (l:=kvs) (i:=j) (by omega)
     obtain⟨b,N,Z⟩:=tK A M
     rw[R] at N
     cases N
     exact⟨_,M,Z⟩
    rw[vI F S K] at e
    cases e
    obtain⟨rfl,hx⟩:=hp
    exact⟨by show 2<=_;decide,[J,x],.cons (HU e2) (.cons hx .nil),⟨_,e3,rfl,rfl,_,rfl⟩⟩
   ·rw[hU f,U] at e
    cases e
end L2
namespace DL
open PySem PySem.Spec PyProof.Rows L2
section
variable{X:Cx}{o:Expr}{p apos cpos pos:Pos}
theorem xH{M:Md}{ρ:List Addr}{S:aA}:∀{ts:List Addr} {kv:List (Key×V)} {H:Hp},ts.Nodup->(∀t∈ts,H t=none)->eS M ρ S H->bJ ρ H ρ (lB H ts kv)/\eS M ρ S (lB H ts kv)
 | [],_,_,_,_,st=>by unfold lB;exact⟨bJ.refl,st⟩
 |_::_,[],_,_,_,st=>by unfold lB;exact⟨bJ.refl,st⟩
 | t::ts,kv::kvs,H,nd,hn,st=>by
   unfold lB
   have b:=hn t (QBq ..)
   obtain⟨x,a⟩:=xH (kv:=kvs) (H:=upd H t (.tup [kV kv.1,kv.2])) (List.nodup_cons.mp nd).2 (λc h=>by
     rw[aM (by intro z;subst z;exact(List.nodup_cons.mp nd).1 h)]
     exact hn c (Qpq _ h)) (st.lay b)
   exact⟨(bJ.laid b).trans x,a⟩
def JN(p:Key×D):D:=.tup [kD p.1,p.2]
theorem qt{M:Md}{ρ:List Addr}{H:Hp}:∀{l:List (Key×D)} {kv:List (Key×V)} {ts:List Addr},bB M ρ H l kv->ts.length=kv.length->(∀(j:Nat) t p,ts[j]?=some t->kv[j]?=some p->H t=some (.tup [kV p.1,p.2]))->aU M ρ H (l.map JN) (ts.map V.ref)
 | [],_,[],h,_,_=>.nil
 | [],_,t::ts,h,hl,_=>by cases h;simp at hl
 |(k,d)::l,_,[],⟨v,t,e,_,_⟩,hl,_=>by subst e;simp at hl
 | (k,d)::l,_,t::ts,⟨v,r,e,h1,h2⟩,hl,ha=>by
   subst e
   exact .cons (.tup (ha 0 t _ rfl rfl) (.cons (FX k) (.cons h1 .nil))) (qt h2 (by simpa using hl) λj b p a c=>ha (j+1) b p (by simpa using a) (by simpa using c))
def Ci(f:bc):fO:=λb S=>(f b S).bind λ(x,a)=>match x with
 | .ref k=>match a[k]? with
   |some (.dct l)=>some (l.map JN,a)
   |_=>none
 |_=>none
def JP{f:bc}(hc:X.calm=true)(N:Gl X "list")(Y:X.mg "list"=none)(P:PE X o (tD (md X) f))(c:attributeBase o "items" X.env (eval o X.env)=eval o X.env:=by rfl)(g:(apos.endLine==cpos.line)=true:=by rfl)
  (hs:starEach [Expr.Call (.Attribute o "items" apos) [] [] cpos] X.env= [(false,eval (Expr.Call (.Attribute o "items" apos) [] [] cpos) X.env)]:=by rfl):
  PE X (.Call (.Name "list" p) [.Call (.Attribute o "items" apos) [] [] cpos] [] pos) (tL (md X) (Ci f)):=
 i3 (j9 (rB hc) N Y (by rfl) (cC (Gb PySem.F.plainAttrs_dict PySem.F.slot_dict_items PySem.F.type_dict_items BV P c g) eQ hs) (he:=hs)) λσ H Q R=>by
  obtain⟨ρ,U,S,d,S',ok,e,q⟩:=R
  obtain⟨⟨x,S1⟩,Z,e⟩:=aq e
  cases x with
  | ref k=>
    dsimp only at e
    split at e
    · rename_i l hs
      obtain⟨rfl,rfl⟩:=bN e
      refine⟨ρ,U,S,_,S1,ok,Z,λb v1 H1 y m L=> ?_⟩
      cases L with
      | ref ha=>
        rename_i a
        obtain⟨kv,u,K⟩:=m.obj k a _ ha hs
        refine⟨.inr (.inr (.inl ⟨rfl,.inl ⟨kv,u⟩⟩)),a,kv,rfl,rfl,u,λr v=> ?_⟩
        have w:bJ b H1 b (upd H1 r (.ext (oH r a))):=bJ.laid v
        refine⟨r,a,kv,rfl,bp,by rw[aM (c_ u v)];exact u,λt J C i B W s=> ?_⟩
        obtain⟨A,n⟩:=xH (kv:=kv) B W (m.lay v)
        have h:lB (upd H1 r (.ext (oH r a))) J kv t=none:=by rw[hU i];exact C
        have M:=A.trans (bJ.laid (ρ:=b) (o:=.lst (J.map V.ref)) h)
        have G:=w.trans M
        refine q b t _ _ (y.trans G) (n.lay h) ((y.trans w).grow _ C) (cX (y.trans (w.trans A)) n h) bp ?_
        refine qt (K.imp λ_ _ r=>r.ext G) s λj t' p I e4=> ?_
        rw[aM (by intro z;subst z;exact i (mQg I))]
        exact vI B I e4
    · cases e
  |_=>cases e
end
end DL
namespace Dk
open PySem
def ml:typeLookup (Value.type "tuple") (Str.ofString "keys")=pure none:=by
 rw[typeLookup_type,builtinLookup_eq_fast]
 rfl
def yD{prog:Program}{w:World}{A:Around}{E:Value->Shared->Prop}{s:Shared}{a:Addr}{xs:Array Value}{k:Nat}{l:Array (Option Value)}{Q:Option Value->Shared->Prop}
  (j:s.heap.get? a=some {cls:=.type "tuple",data:=.seq xs k,slots:=l}) (r:A.handled=none)
  (h:∀(h':Heap) (i:Nat),(∀b o,s.heap.get? b=some o->h'.get? b=some o)->Q none {s with heap:=h',toks:=i}):
  wpAny (model prog w) A (getAttr? (.ref a) (Str.ofString "keys")) Q E s:=by
 obtain⟨t,g,d,i,m⟩:=s
 have q:∀x,Shared.TypeIs ⟨t,g,d,x,m⟩ (.ref a) "tuple":=λx=>⟨_,j,rfl⟩
 have n:=sub_AttributeError
 have z:=F.slot_tuple_getattribute.lookup
 have v:=F.slot_tuple_getattribute.bind (Value.ref a)
 have u:=am_tuple_getattr_none
 unfold getAttr? mkText getAttrBy? getAttrBy
 refine Qaq (Qaq (wpAny_fresh' (Qgq (Qaq (wpAny_attempt (QLq ?_))))))
 unfold typeOf
 refine Qaq (Qaq (wpAny_loadPart' j (Qgq (Qaq (wpAny_of_eq z (QgQ rfl ?_))))))
 unfold getAttrByItsOwn hookBefore
 refine Qaq (QgQ rfl (Qgq (Qaq (wpAny_attempt (QLq ?_)))))
 unfold callGetattribute
 refine QgQ rfl ?_
 unfold boundAndCalled
 refine Qaq (wpAny_of_eq v ?_)
 refine call_meets F.slot_tuple_getattribute (q (i+1)) am_entry_tuple_getattribute (F.args_tuple_getattribute_2 (Value.ref a) _) (meets_getattribute_miss_tuple a xs k l (Str.ofString "keys") i ml (by decide +kernel) (by decide +kernel)) ⟨j,r,λh' f e c=> ?_⟩
 obtain⟨B,C,y⟩:=c.there
 have p:Shared.TypeIs ⟨h',g,d,f,m⟩ (.ref e) "AttributeError":=⟨_,y,rfl⟩
 show wpAny _ _ (getattributeRaised _ _ _ _ _ _ _) _ _ _
 unfold getattributeRaised
 refine Qaq (wpAny_isInstance p n (wpAny_ite_true rfl ?_))
 unfold hookBehind hookOrError
 refine Qaq (QgQ rfl (wpAny_of_eq u ?_))
 show wpAny _ _ (attributeErrorLeaves _ _ _ _ _) _ _ _
 unfold attributeErrorLeaves
 refine wpAny_ite_true rfl (wpAny_throw ?_)
 exact Qaq (wpAny_isInstance p n (wpAny_ite_true rfl (Qgq (h h' f c.keeps))))
def pK{prog:Program}{w:World}{A:Around}{E:Value->Shared->Prop}{s:Shared}{l:Addr}{xs:Array Value}{k:Nat}{i:Array (Option Value)}{Q:Value->Shared->Prop}
  (p:s.heap.get? l=some {cls:=.type "tuple",data:=.seq xs k,slots:=i}) (m:A.handled=none)
  (h:∀(h':Heap) (f:Nat),(∀b o,(s.heap.push {cls:=.type "dict",data:=.dict #[]}).get? b=some o->h'.get? b=some o)→
   wpAny (model prog w) A.in1.in1 (pyIter (.ref l)) (λit d=>codeAny (model prog w) A.in1 (.builtin "dict.update.loop" {pos:= [.ref s.heap.objs.size,it,rawInt 0,.none]}) (wants (λr c=>r=.none/\Q (.ref s.heap.objs.size) c) E) d) E {s with heap:=h',toks:=f}):
  wpAny (model prog w) A (call (.type "dict") [.ref l]) Q E s:=by
 refine jz ?_
 have t:=Qrq s.heap (o:={cls:=.type "dict",data:=.dict #[]}) rfl
 have j:Shared.TypeIs {s with heap:=s.heap.push {cls:=.type "dict",data:=.dict #[]}} (.ref s.heap.objs.size) "dict":=⟨_,t,rfl⟩
 have a:=Qcq {cls:=.type "dict",data:=.dict #[]} p
 have n:Shared.TypeIs {s with heap:=s.heap.push {cls:=.type "dict",data:=.dict #[]}} (.ref l) "tuple":=⟨_,a,rfl⟩
 unfold Builtin.«dict.__init__» Builtin.Dict.selfAndRest
 refine Qaq (Qaq (wpAny_notOrdered_dict j ?_))
 refine Qaq (Qgq (Qgq ?_))
 show wpAny _ _ (Builtin.Dict.updateFrom _ _ _ _ _) _ _ _
 unfold Builtin.Dict.updateFrom
 refine Qaq (wpAny_typeOf n (wpAny_ite_true (by decide +kernel) (Qaq (yD a (by simpa using m) λh' f g=> ?_))))
 refine wpAny_ite_true rfl ?_
 refine Qaq (wpAny_rule (Qaq (QRq (h h' f g) (λit d q=> ?_) λe d q=>q)))
 exact Qgq ⟨plainId_quiet (by decide +kernel) _,q⟩
end Dk
namespace L2
open PySem PySem.Spec PyProof.Rows
section
variable{X:Cx}
def G5:List V->Hp->VK->Prop:=λd H Q=>∃(a:Addr) (c:List Addr) (b:List (Key×V)),d= [.ref a]/\H a=some (.tup (c.map V.ref))/\b.length=c.length∧
 (∀(j:Nat) t kv,c[j]?=some t->b[j]?=some kv->H t=some (.tup [kV kv.1,kv.2]))/\∀p,H p=none->Q (.ref p) (upd H p (.dK (eC [] b)))
def yF(hc:X.calm=true):gy X (.type "dict") G5:=by
 intro b0 s σ H xs us Q I r h
 obtain⟨a,f,d,rfl,ha,hl,ht,q⟩:=h
 obtain⟨u,rfl,rx⟩:=vals1 r
 cases (show u=Value.ref a from rx)
 obtain⟨hz,C,rv,pl⟩:=(show bR X.prog X.w H s.heap a (.tup (f.map V.ref)) from I.hok a _ ha)
 have ei:=oA rv
 subst ei
 rw[lQm] at hz
 obtain⟨⟨c,b2,b1,sl⟩,hg,U,P,n,L⟩:=pl
 cases U
 cases P
 cases L
 have z:∀j:Nat,∃p:Value×Value,j<f.length->∃t g,f[j]?=some t/\d[j]?=some g/\RelV (kV g.1) p.1/\RelV g.2 p.2/\IsTup s.heap t #[p.1,p.2]:=by
  intro j
  by_cases hj:j<f.length
  ·have x:=gQe hj
   have m:=gQe (l:=d) (i:=j) (by omega)
   obtain⟨_,us,a4,S⟩:_/\∃C:List Value,bo [kV (d[j]'(by omega)).1,(d[j]'(by omega)).2] C/\sI s.heap f[j] C.toArray:=(show bR X.prog X.w H s.heap f[j] (.tup [kV (d[j]'(by omega)).1,(d[j]'(by omega)).2]) from I.hok _ _ (ht j _ _ x m))
   replace S:=S.it
   cases a4 with
   | cons G t1=>
     cases t1 with
     | cons h2 t2=>
       cases t2
       exact⟨(_,_),λ_=>⟨_,_,x,m,G,h2,S⟩⟩
  ·exact⟨(.none,.none),λh=>absurd h hj⟩
 obtain⟨F,hF⟩:=Classical.axiomOfChoice z
 refine Dk.pK hg (I.ok.hd hc) λK tk hk=> ?_
 have a5:=Qcq {cls:=.type "dict",data:=.dict #[]} hg
 have R:=hk _ _ a5
 have a1:a<K.objs.size:=Qiq R
 have M:∀b o,s.heap.get? b=some o->K.get? b=some o:=λb o e=>hk b o (Qcq _ e)
 have a3:K.get? s.heap.objs.size=some {cls:=.type "dict",data:=.dict #[]}:=hk _ _ (Qrq s.heap rfl)
 have k:s.heap.objs.size<K.objs.size:=Qiq a3
 have Z:K.IsTuple a (f.map Value.ref).toArray:=⟨_,R,rfl,_,rfl⟩
 refine wpAny_pyIter_tuple Z ?_
 have a0:(f.map Value.ref).toArray.size=f.length:=by simp
 have W:=Walks.tuple (prog:=X.prog) (w:=X.w) (A:=X.A.in1.in1) (show X.A.in1.in1.handled=none from I.ok.hd hc) K.objs.size a (Qwq a1) (f.map Value.ref).toArray
 rw[a0] at W
 have J:∀j t,f[j]?=some t->f.getD j 0=t:=λj t e=>by rw[Qlq,e];rfl
 have Y:∀j g,d[j]?=some g->(d.map (·.1)).getD j (.inl 0)=g.1:=λj g e=>by rw[Qlq,gQm,e];rfl
 refine Dk.tR (knd:=aX X.prog X.w) W s.heap.objs.size ?_ (λj=>f.getD j 0) (λj=>(F j).1) (λj=>(F j).2) (λj=>(d.map (·.1)).getD j (.inl 0)) ?_ ?_ ?_ hz f.length 0 0 _ (by omega) (Nat.zero_le _) ?_ ?_ ?_ ?_
 ·intro y
  simp at y
  rcases y with G|G
  ·exact absurd G (Qwq k)
  ·exact absurd G.symm (Qwq (Qiq hg))
 ·intro i v B pv
  have:(f.map Value.ref)[i]?=some v:=by simpa using pv
  rw[gQm,gQe B] at this
  rw[J i _ (gQe B)]
  exact(QdQ this).symm
 ·intro i B
  obtain⟨t,g,x,m,r1,r2,S⟩:=hF i B
  show(aX X.prog X.w).is ((d.map (·.1)).getD i (.inl 0)) (F i).1=true
  rw[Y i g m]
  exact key_is r1 _ _
 ·intro i B
  obtain⟨t,g,x,m,r1,r2,o,ho,_⟩:=hF i B
  have N:=Qiq ho
  show f.getD i 0≠_/\f.getD i 0∉_
  rw[J i t x]
  refine⟨Qwq N,λy=> ?_⟩
  simp at y
  exact absurd y (Qwq (Nat.lt_trans N k))
 ·exact⟨⟨_,Qrq _ rfl,rfl,rfl⟩,Z.at λo e=>Qcq _ e⟩
 ·intro j hj
  obtain⟨t,g,x,m,r1,r2,o,ho,a9,e,a8⟩:=hF j hj
  refine⟨o,e,?_,a9,a8⟩
  show Heap.get? _ (f.getD j 0)=_
  rw[J j t x]
  exact Qcq _ (M _ _ ho)
 ·obtain⟨o,es,ep,G,h2⟩:=Heap.DictOf.new (knd:=aX X.prog X.w) s.heap
  exact⟨o,es,ep,Qcq _ (hk _ _ G),h2⟩
 ·intro h2 a6 dd a2
  refine⟨rfl,.ref s.heap.objs.size,_,I.laid (a:=s.heap.objs.size) (o:=.dK (eC [] d)) (t':=a6) (λb o e=> ?_) (Qmq _) (kS ?_ (beq_eq_false_iff_ne.mpr (Ne.symm (Qwq I.big))) ?_ dd),rfl,q _ (I.hok.fresh (Qmq _))⟩
  ·have hb:=Qiq e
   exact a2 b o (λy=>by simp at y;exact absurd y (Qwq (Nat.lt_trans hb k))) (Qwq hb) (Qcq _ (M _ _ e))
  ·have:=dR d []
   rw[QGq] at this
   omega
  ·have a7:∀i,i<=f.length->KV (eC [] (d.take i)) (Dk.Ay (λj=>(d.map (·.1)).getD j (.inl 0)) (λj=>(F j).2) i):=by
    intro i
    induction i with
    |zero=>intro _;exact .nil
    | succ i ih=>
      intro B
      obtain⟨t,g,x,m,r1,r2,S⟩:=hF i (by omega)
      have e3:d.take (i+1)=d.take i++ [g]:=by rw[QYq,m];rfl
      rw[e3]
      show KV (List.foldl _ [] (d.take i++ [g])) (stored _ ((d.map (·.1)).getD i (.inl 0)) (F i).2)
      rw[List.foldl_append,Y i g m]
      exact(ih (by omega)).put g.1 r2
   have:=a7 f.length (Qmq _)
   rw[←hl,QEq] at this
   rw[←hl]
   exact this
end
end L2
namespace DL
open PySem PySem.Spec PyProof.Rows L2
section
variable{X:Cx}{a:Expr}{pos:Pos}
def H_(f:bc):bc:=λc S=>(f c S).bind λ(d,b)=>match d with
 |.tup e=>(gQ e).bind λl=>some (.ref b.length,b++ [.dct (aK [] l)])
 |_=>none
def JZ{r n:Pos}{f:bc}(C:X.calm=true)(g:Gl X "dict")(h:X.mg "dict"=none)(i:PE X a (tD (md X) f))(hs:starEach [a] X.env= [(false,eval a X.env)]:=by rfl):
  PE X (.Call (.Name "dict" r) [a] [] n) (tD (md X) (H_ f)):=i3 (j9 (yF C) g h PyProof.Rows.boot_dict (cC i eQ hs) (he:=hs)) λI H Q ⟨s,u,S,d,J,ok,e,q⟩=>by
 obtain⟨⟨x,A⟩,v,e⟩:=aq e
 cases x with
 | tup G=>
   dsimp only at e
   obtain⟨l,w,e⟩:=aq e
   obtain⟨rfl,rfl⟩:=bN e
   refine⟨s,u,S,_,A,ok,v,λm F H1 B c j=> ?_⟩
   cases j with
   | tup i t=>
     rename_i z k
     obtain⟨y,b,rfl,g1,g2,g3⟩:=oI t w
     refine⟨z,y,b,rfl,i,g1,g2,λp o=> ?_⟩
     exact Fd B c o (bB.merge (l:= []) g3 rfl) q
 |_=>cases e
end
end DL
namespace DL
open PySem PySem.Spec L2
section
variable{X:Cx}{a b:Expr}{pos:Pos}
def De(f g:bc):bc:=λd S=>(f d S).bind λ(y,e)=>(g d e).bind λ(x,c)=>match x with
 | .ref k=>match c[k]? with
   |some (.dct l)=>(kh y).bind λh=>some (.bl (dv l h).isSome,c)
   |_=>none
 |_=>none
def Iy{f g:bc}:∀(m:List (Option V)) (H:Hp) (Q:V->Hp->Prop),tD (md X) (De f g) m H Q->Jx (tD (md X) f) (tD (md X) g) m H Q:=λm H Q C=>by
 obtain⟨F,o,S,d,U,ok,e,q⟩:=C
 obtain⟨⟨y,s⟩,L,e⟩:=aq e
 obtain⟨⟨x,B⟩,A,e⟩:=aq e
 cases x with
 | ref k=>
   dsimp only at e
   split at e
   · rename_i l I
     obtain⟨i,M,e⟩:=aq e
     obtain⟨rfl,rfl⟩:=bN e
     refine⟨F,o,S,y,s,ok,L,λj P H1 t h u=>⟨j,o,s,_,B,ok.to t h,A,λw R H2 p c K=> ?_⟩⟩
     cases j0 (u.ext p) M
     cases K with
     | ref N=>
       obtain⟨J,z,n⟩:=c.obj k _ _ N I
       refine⟨_,_,rfl,uR.k z,?_⟩
       have:(ke J i).isSome=(dv l i).isSome:=by
         cases r:dv l i with
         |none=>rw[n.noval r];rfl
         |some d=>obtain⟨v,G,_⟩:=n.val r;rw[G];rfl
       rw[this]
       exact q _ _ _ (t.trans p) c (.bl _)
   · cases e
 |_=>cases e
def Ml{f g:bc}(e:X.A.units+1<cLine)(d:PE X a (tD (md X) f))(h:PE X b (tD (md X) g))(c:behindInMarks .In b=false:=by rfl):PT X (.Compare a [.In] [b] pos) (tB (md X) (aI (De f g))):=uE Iy (G_ (GF e d h) c)
end
end DL
namespace W28
open PySem PySem.Spec L2 DL
abbrev cP:=aR ki
abbrev dg(v:Nat)(k:Int):=aR ki (au v) (cF (.int k))
abbrev gH(v:Nat)(k:Int):=ar (aR ki (au v) (cF (.int k)))
abbrev uP(x:Str):=ar (cF (.str x))
abbrev bK(k:Int):=cF (.int k)
abbrev aD(k:Nat):=ar (au k)
abbrev ko(k:Int):=ar (cF (.int k))
def nT:cH:=
 (aC (a_ 2 (bK 0))
 (aC (dW (aI (aR Fx (au 1) (jE (bM (au 0))))) (a_ 2 (vg Fe (ar (cP (au 0) (au 1)) av))) eY)
 (aC (a_ 3 (aR lE (aR pA (au 2) (aR lE (aR uG (bK 10) (bK 60)) (aR uG (bK 10) (bK 60)))) (vg intOfD (ar (aR Kn (au 2) (aR uG (bK 10) (bK 18))) av))))
 (EO (cN (aD 3 (ar (aR pA (aR bO (aR bO (au 2) (aR lE (bK 104729) (au 1))) (bK 7)) (bK 2305843009213693951)) (ko 0 av))))))))
def jZ:cW:=eJ 4 nT
def lg:cH:=
 (aC (dW (aI (aR FA (dg 0 0) (bK 0))) (aC (a_ 2 (aR pA (dg 0 0) (au 1)))
 (aC (pI (aR xo (dg 0 0) (au 1)) (E3 (au 0) (bK 0)))
 (bP (au 2)))) eY)
 (aC (JT (au 0) (bK 2) (bK 1))
 (aC (a_ 3 (aR pA (aR bO (aR bO (aR lE (dg 0 1) (bK 69069)) (aR lE (bK 9973) (dg 0 2))) (bK 5)) (bK 2305843009213693921)))
 (aC (pI (aR pA (aR lE (au 3) (aR bO (aR bO (aR pA (au 3) (bK 999983)) (aR lE (bK 2) (dg 0 2))) (bK 3))) (bK 2305843009213693907)) (E3 (au 0) (bK 1)))
 (bP (aR pA (aR xo (dg 0 1) (bK 65537)) (au 1)))))))
def aG:cW:=eJ 4 lg
def jL:cH:=
 (aC (a_ 3 (dH (bW [none,some 1] (m7 (kd (cN (uP "a" (uP "b" (uP "c" (uP "d" (uP "e" (uP "zz" av))))))))) (bS 0) cM (aR bO (au 1) (au 0)))))
 (EO (zB (kd (bW [none,some 0,some 3] (sx (au 2)) (bS 0) cM (xW qu (au 2) (ar (ax aG (aD 1 (ar (jE (bM (au 2))) av))) av)))))))
def fF:cW:=eJ 4 jL
def lP:cH:=
 (bP (cP (au 1) (ax aG (aD 0 (ar (jE (bM (au 1))) av)))))
def cI:cW:=eJ 2 lP
def nZ(self:cW):cH:=
 (aC (a_ 4 (ax aG (aD 0 (ko 9 av))))
 (aC (dW (DT (aI (aR Fx (au 3) (bK 1))) (aI (aR Fx (au 4) (bK 3)))) (aC (dW (i4 (aI (gP (bM (au 1)))) (aI (aR FA (ax aG (aD 0 (ko 3 av))) (bK 0)))) (bP (ax cI (aD 0 (aD 1 av)))) eY)
 (bP (ax aG (aD 0 (ar (cP (dH (cN (ko 3 (ko 10 av)))) (vg intOfD (ar (aR (dw false) (ax aG (aD 0 (ko 5 av))) (bK 0)) av))) av))))) eY)
 (aC (dW (i4 (aI (aR (dw false) (au 4) (bK 3))) (aI (gP (bM (au 2))))) (bP (bg (uP "waits" (ar (ax cI (aD 0 (aD 2 av))) av)))) eY)
 (aC (dW (aI (aR (dw false) (au 4) (bK 4))) (bP (bg (uP "not" (ar (ax self (aD 0 (aD 1 (aD 2 (ar (aR kj (au 3) (bK 1)) av))))) av)))) eY)
 (aC (a_ 5 (cP (dH (cN (uP "plus" (uP "minus" (uP "less" (uP "same" (uP "both" av))))))) (ax aG (aD 0 (ko 5 av)))))
 (bP (bg (aD 5 (ar (ax self (aD 0 (aD 1 (aD 2 (ar (aR kj (au 3) (bK 1)) av))))) (ar (ax self (aD 0 (aD 1 (aD 2 (ar (aR kj (au 3) (bK 1)) av))))) av))))))))))
def bt:Nat->cW
 |0=>λ_ _=>none
 |n+1=>eJ 6 (nZ (bt n))
def gS:cH:=
 (aC (a_ 2 (dH (cN av)))
 (aC (a_ 3 (aR bO (bK 2) (ax aG (aD 0 (ko 8 av)))))
 (aC (qQ (sx (au 3)) (bS 4) (aC (a_ 5 (ax aG (aD 0 (ko 6 av))))
 (dW (i4 (aI (aR Fx (au 5) (bK 2))) (aI (gP (bM (au 1))))) (wV (xW kc (au 2) (ar (bg (uP "put" (ar (ax cI (aD 0 (aD 1 av))) (ar (ax (bt 4) (aD 0 (aD 1 (ar (dH (cN av)) (ko 3 av))))) av)))) av))) (dW (aI (aR (dw false) (au 5) (bK 2))) (wV (xW kc (au 2) (ar (bg (uP "unless" (ar (ax (bt 4) (aD 0 (aD 1 (ar (dH (cN av)) (ko 3 av))))) (ar (ax aG (aD 0 (ar (aR bO (au 3) (bK 1)) av))) av)))) av))) (dW (i4 (aI (aR (dw false) (au 5) (bK 3))) (aI (aR (dw false) (ax aG (aD 0 (ko 3 av))) (bK 0)))) (wV (xW kc (au 2) (ar (bg (uP "go" (ar (ax aG (aD 0 (ar (aR bO (au 3) (bK 1)) av))) av))) av))) (wV (xW kc (au 2) (ar (bg (uP "say" (ar (ax (bt 4) (aD 0 (aD 1 (ar (dH (cN av)) (ko 3 av))))) av))) av))))))))
 (bP (tupQ (ir (bM (au 2))))))))
def fw:cW:=eJ 6 gS
def jR:cH:=
 (aC (a_ 1 (dH (eW fF (aD 0 (uP "o" (ar (ax aG (aD 0 (ko 3 av))) av))))))
 (aC (a_ 2 (dH (cN av)))
 (aC (qQ (sx (aR bO (bK 1) (ax aG (aD 0 (ko 4 av))))) (bS 3) (aC (a_ 4 (dH (eW fF (aD 0 (uP "" (ar (ax aG (aD 0 (ko 3 av))) av))))))
 (aC (a_ 5 (tupQ (kd (bW [none,some 0] (m7 (bM (au 4))) (bS 0) cM (bg (aD 0 (ar (ax aG (aD 1 (ko 10 av))) av)))))))
 (wV (xW kc (au 2) (ar (bg (aD 5 (ar (ax fw (aD 0 (ar (dH (Bc (bM (au 4)) (bM (au 1)))) av))) av))) av))))))
 (bP (bg (ar (bg av) (ar (bg av) (ar (tupQ (kd (bW [none,some 0] (m7 (bM (au 1))) (bS 0) cM (bg (aD 0 (ar (ax aG (aD 1 (ko 10 av))) av)))))) (ar (tupQ (ir (bM (au 2)))) av)))))))))
def fJ:cW:=eJ 6 jR
def lW:cH:=
 (bP (tupQ (kd (bW [none,none] (m7 (bM (au 0))) (jl (nG 2 (aJ (bS 0) (aJ (bS 1) dy)))) cM (au 1)))))
def fm:cW:=eJ 1 lW
def jj:cH:=
 (aC (pI (au 0) (jl (nG 5 (aJ (bS 1) (aJ (bS 2) (aJ (bS 3) (aJ (bS 4) (aJ (bS 5) dy))))))))
 (bP (bg (ar (ax fm (aD 3 av)) (ar (cF (.int (-1))) (ar (bg av) (ar (bg av) (ar (tupQ (kd (bW [none] (m7 (bM (au 4))) (bS 0) cM (bg av)))) av))))))))
def gC:cW:=eJ 6 jj
def zk:cH:=
 (aC (pI (au 0) (jl (nG 4 (aJ (bS 1) (aJ (bS 2) (aJ (bS 3) (aJ (bS 4) dy)))))))
 (aC (a_ 5 (bg (ar (cF (.int (-1))) (ar (cF (.int (-1))) (ko 0 (ko 0 (ko 0 av)))))))
 (bP (bg (ar (tupQ (kd (bW [none] (m7 (bM (au 1))) (bS 0) cM (ax gC (aD 0 av))))) (ar (tupQ (kd (bW [none,none] (m7 (bM (au 2))) (jl (nG 2 (aJ (bS 0) (aJ (bS 1) dy)))) cM (bg (aD 1 (ar (bg av) av)))))) (ar (ax fm (aD 3 av)) (ar (tupQ (kd (bW [none,none,some 5] (m7 (bM (au 4))) (jl (nG 2 (aJ (bS 0) (aJ (bS 1) dy)))) cM (bg (ar (ax fm (aD 0 av)) (ar (bg (aD 2 av)) av)))))) av))))))))
def ur:cW:=eJ 6 zk
def kP:cH:=
 (aC (dW (i4 (aI (DX false (au 2) (bM (au 1)))) (aI (aR (dw false) (ax aG (aD 0 (ko 2 av))) (bK 0)))) (bP (au 2)) eY)
 (bP (ax cI (aD 0 (aD 1 av)))))
def iK:cW:=eJ 3 kP
def jH:cH:=
 (aC (a_ 3 (dH (cN av)))
 (aC (qQ (zC (bM (dg 0 3))) (jl (nG 2 (aJ (bS 4) (aJ (jl (nG 2 (aJ (bS 5) (aJ (bS 6) dy)))) dy)))) (aC (a_ 7 (tupQ (kd (bW [none,none,some 1,some 4] (m7 (bM (au 5))) (jl (nG 2 (aJ (bS 0) (aJ (bS 1) dy)))) cM (E1 (cP (au 2) (au 3)) (au 0))))))
 (wV (xW kc (au 3) (ar (bg (aD 7 (ar (bg (ar (bg (ar (i8 (bK 1)) (ar (i8 (bK 1)) (ar (cP (au 2) (au 4)) (ko 0 (ko 0 av)))))) av)) av))) av)))))
 (bP (bg (ar (bg av) (ar (bg av) (ar (tupQ (kd (bW [none,none,some 1] (m7 (bM (dg 0 2))) (jl (nG 2 (aJ (bS 0) (aJ (bS 1) dy)))) cM (E1 (cP (au 2) (i8 (bK 1))) (au 0))))) (ar (tupQ (ir (bM (au 3)))) av))))))))
def fL:cW:=eJ 8 jH
def jI(self:cW):cH:=
 (aC (dW (ja (kW "int" (au 0))) (bP (au 0)) eY)
 (aC (dW (ja (kW "str" (au 0))) (bP (E1 (au 1) (au 0))) eY)
 (aC (a_ 2 (dH (bW [none,some 1] (m7 (bM (pS (au 0) (pQ (bK 1)) qc))) (bS 0) cM (ax self (aD 0 (aD 1 av))))))
 (aC (dW (aI (aR (dw false) (dg 0 0) (cF (.str "not")))) (bP (vg intOfD (ar (aR (dw false) (dg 2 0) (bK 0)) av))) eY)
 (aC (pI (au 2) (JE (nG 2 (aJ (bS 3) (aJ (bS 4) dy)))))
 (aC (dW (aI (aR (dw false) (dg 0 0) (cF (.str "plus")))) (bP (vg minD (ko 9 (ar (aR bO (au 3) (au 4)) av)))) eY)
 (aC (dW (aI (aR (dw false) (dg 0 0) (cF (.str "minus")))) (bP (vg maxD (ko 0 (ar (aR kj (au 3) (au 4)) av)))) eY)
 (aC (dW (aI (aR (dw false) (dg 0 0) (cF (.str "less")))) (bP (vg intOfD (ar (aR Fx (au 3) (au 4)) av))) eY)
 (bP (vg intOfD (ar (sy (aI (aR (dw false) (dg 0 0) (cF (.str "same")))) (aR (dw false) (au 3) (au 4)) (uu (aR FA (au 3) (bK 0)) (aR FA (au 4) (bK 0)))) av)))))))))))
def bH:Nat->cW
 |0=>λ_ _=>none
 |n+1=>eJ 5 (jI (bH n))
def jo:cH:=
 (aC (a_ 4 (cP (cP (cP (dg 0 3) (au 3)) (bK 1)) (cP (au 2) (au 3))))
 (aC (pI (aR bO (cP (au 2) (au 3)) (bK 1)) (E3 (au 2) (au 3)))
 (aC (a_ 5 (J_ (kd (Bc (kd (Ci (cP (au 1) (au 3)))) (kd (Ci (cP (au 1) (i8 (bK 1)))))))))
 (aC (dW (aI (aR (dw false) (dg 4 0) (cF (.str "put")))) (aC (a_ 6 (i8 (bK 1)))
 (aC (dW (aI (De (dg 4 1) (cP (au 1) (au 3)))) (a_ 6 (au 3)) eY)
 (JC (cP (au 1) (au 6)) (dg 4 1) (ax (bH 5) (gH 4 2 (aD 5 av)))))) eY)
 (aC (dW (DT (aI (aR (dw false) (dg 4 0) (cF (.str "go")))) (i4 (aI (aR (dw false) (dg 4 0) (cF (.str "unless")))) (aI (aR (dw false) (ax (bH 5) (gH 4 1 (aD 5 av))) (bK 0))))) (pI (cP (au 4) (i8 (bK 1))) (E3 (au 2) (au 3))) eY)
 (aC (dW (aI (aR (dw false) (dg 4 0) (cF (.str "say")))) (bP (bg (aD 3 (ar (ax (bH 5) (gH 4 1 (aD 5 av))) av)))) eY)
 (bP (cF .non))))))))
def gE:cW:=eJ 7 jo
def jt:cH:=
 (bP (cP (cP (cP (dg 0 3) (au 1)) (bK 1)) (i8 (bK 1))))
def cj:cW:=eJ 2 jt
def ju:cH:=
 (aC (Er 3 4 (gH 2 0 (gH 2 1 av)))
 (aC (dW (aI (aR (dw false) (au 3) (cF (.int (-1))))) (bP (cP (cP (dg 0 3) (au 1)) (bK 1))) eY)
 (bP (cP (cP (cP (cP (dg 0 0) (au 3)) (bK 4)) (au 4)) (bK 1)))))
def eF:cW:=eJ 5 ju
def nQ:cH:=
 (EO (bW [none] (m7 (bM (au 0))) (bS 0) cM (dg 0 0)))
def dm:cW:=eJ 1 nQ
def nK:cH:=
 (bP (Gd (kd (eW dm (aD 0 av))) (au 1)))
def cy:cW:=eJ 2 nK
def lI:cH:=
 (bP (aR bO (aR bO (pS (au 0) qc (pQ (au 1))) (bg (aD 2 av))) (pS (au 0) (pQ (aR bO (au 1) (bK 1))) qc)))
def cG:cW:=eJ 3 lI
def lH:cH:=
 (bP (aR bO (pS (au 0) qc (pQ (bK 3))) (bg (ar (ax cG (gH 0 3 (aD 1 (ar (bg (aD 2 (aD 3 av))) av)))) av))))
def d_:cW:=eJ 4 lH
def lj:cH:=
 (bP (aR bO (bg (ar (ax cG (gH 0 0 (aD 1 (aD 2 av)))) av)) (pS (au 0) (pQ (bK 1)) qc)))
def cu:cW:=eJ 3 lj
def iV:cH:=
 (aC (a_ 5 (cP (ax cj (aD 1 (aD 2 av))) (bK 0)))
 (aC (dW (aI (aR (dw true) (au 5) (cF (.int (-1))))) (aC (a_ 6 (ax cy (ar (cP (cP (dg 0 0) (au 5)) (bK 2)) (aD 3 av))))
 (aC (a_ 7 (ax cG (ar (cP (cP (dg 1 0) (au 5)) (bK 0)) (aD 6 (aD 4 av)))))
 (bP (ax cu (aD 1 (aD 5 (ar (aR bO (bg (aD 7 av)) (pS (cP (dg 1 0) (au 5)) (pQ (bK 1)) qc)) av))))))) eY)
 (aC (dW (aI (DX false (au 3) (kd (eW dm (gH 0 2 av))))) (aC (a_ 8 (ax cG (gH 1 2 (ar (ax cy (gH 0 2 (aD 3 av))) (aD 4 av)))))
 (bP (bg (gH 1 0 (gH 1 1 (aD 8 (gH 1 3 av))))))) eY)
 (aC (pI (cP (dg 1 3) (au 2)) (jl (nG 2 (aJ (bS 7) (aJ (bS 9) dy)))))
 (aC (a_ 6 (ax cy (ar (cP (cP (dg 0 3) (au 2)) (bK 0)) (aD 3 av))))
 (bP (ax d_ (aD 1 (aD 2 (ar (ax cG (aD 7 (aD 6 (aD 4 av)))) (aD 9 av)))))))))))
def ef:cW:=eJ 10 iV
def gR:cH:=
 (aC (dW (aI (aR (dw false) (au 0) (cF (.str "plus")))) (bP (vg minD (ar (aR bO (au 1) (au 2)) (ar (cF (.int (9))) av)))) eY)
 (aC (dW (aI (aR (dw false) (au 0) (cF (.str "minus")))) (bP (vg maxD (ar (aR kj (au 1) (au 2)) (ko 0 av)))) eY)
 (aC (dW (aI (aR (dw false) (au 0) (cF (.str "less")))) (bP (sy (aI (aR Fx (au 1) (au 2))) (bK 1) (bK 0))) eY)
 (aC (dW (aI (aR (dw false) (au 0) (cF (.str "same")))) (bP (sy (aI (aR (dw false) (au 1) (au 2))) (bK 1) (bK 0))) eY)
 (bP (sy (i4 (aI (aR (dw true) (au 1) (bK 0))) (aI (aR (dw true) (au 2) (bK 0)))) (bK 1) (bK 0)))))))
def ft:cW:=eJ 3 gR
def ny(self:cW):cH:=
 (aC (dW (ja (kW "int" (au 0))) (bP (au 0)) eY)
 (aC (dW (ja (kW "str" (au 0))) (bP (E1 (au 1) (au 0))) eY)
 (aC (dW (aI (aR (dw false) (dg 0 0) (cF (.str "waits")))) (bP (sy (aI (aR FA (E1 (au 2) (dg 0 1)) (bK 0))) (bK 1) (bK 0))) eY)
 (aC (a_ 3 (ax self (gH 0 1 (aD 1 (aD 2 av)))))
 (aC (dW (aI (aR (dw false) (dg 0 0) (cF (.str "not")))) (bP (sy (aI (aR (dw false) (au 3) (bK 0))) (bK 1) (bK 0))) eY)
 (bP (ax ft (gH 0 0 (aD 3 (ar (ax self (gH 0 2 (aD 1 (aD 2 av)))) av))))))))))
def e_:Nat->cW
 |0=>λ_ _=>none
 |n+1=>eJ 4 (ny (e_ n))
def jT:cH:=
 (aC (a_ 4 (ax cj (aD 1 (aD 2 av))))
 (aC (a_ 5 (dg 4 0))
 (aC (dW (aI (aR (dw false) (au 5) (cF (.int (-1))))) (aC (a_ 6 (Hw (kd (eW dm (gH 0 2 av))) (bM (dg 1 2))))
 (aC (wV (EA (au 6) (Hw (kd (eW dm (ar (cP (cP (dg 0 3) (au 2)) (bK 0)) av))) (bM (cP (cP (dg 1 3) (au 2)) (bK 0))))))
 (bP (ax (e_ 6) (aD 3 (aD 6 (ar K1 av))))))) eY)
 (aC (a_ 6 (Hw (kd (eW dm (ar (cP (cP (dg 0 0) (au 5)) (bK 2)) av))) (bM (cP (cP (dg 1 0) (au 5)) (bK 0)))))
 (aC (JC (au 6) (cF (.str "given")) (dg 4 3))
 (aC (Io 7 (ox [none,none] (DB (kd (eW dm (ar (cP (cP (dg 0 0) (au 5)) (bK 3)) av))) (bM (cP (cP (dg 1 0) (au 5)) (bK 4)))) (jl (nG 2 (aJ (bS 0) (aJ (bS 1) dy)))) cM (au 0) (jE (bM (au 1)))))
 (bP (ax (e_ 6) (aD 3 (aD 6 (aD 7 av)))))))))))
def cU:cW:=eJ 8 jT
def vq:cH:=
 (bP (ax ef (aD 0 (aD 1 (aD 2 (gH 3 1 (ar (ax cU (aD 0 (aD 1 (aD 2 (gH 3 2 av))))) av)))))))
def p8:cW:=eJ 4 vq
def fh:cH:=
 (aC (pI (cP (dg 0 3) (au 1)) (jl (nG 2 (aJ (bS 3) (aJ (bS 4) dy)))))
 (bP (ax d_ (aD 0 (aD 1 (aD 3 (ar (aR bO (pS (au 4) qc (pQ (i8 (bK 1)))) (bg (aD 2 av))) av)))))))
def cT:cW:=eJ 5 fh
def um:cH:=
 (aC (a_ 3 (ax cj (aD 0 (aD 1 av))))
 (bP (ax cT (aD 0 (aD 1 (ar (aR bO (aR bO (pS (au 3) qc (pQ (bK 2))) (bg (aD 2 av))) (pS (au 3) (pQ (bK 3)) qc)) av))))))
def iw:cW:=eJ 4 um
def kO:cH:=
 (aC (dW (aI (aR (dw false) (ax cU (aD 0 (aD 1 (aD 2 (gH 3 1 av))))) (bK 0))) (bP (ax iw (aD 1 (aD 2 (gH 3 2 av))))) eY)
 (bP (au 1)))
def iq:cW:=eJ 4 kO
def yw:cH:=
 (bP (ax iw (aD 1 (aD 2 (gH 3 1 av)))))
def uN:cW:=eJ 4 yw
def qz:cH:=
 (aC (pI (cP (dg 0 0) (au 1)) (jl (nG 5 (aJ (bS 3) (aJ (bS 4) (aJ (bS 5) (aJ (bS 6) (aJ (bS 7) dy))))))))
 (aC (dW (aI (aR (dw false) (au 4) (cF (.int (-1))))) (bP (ax cu (aD 0 (aD 1 (ar (bg (aD 3 (aD 2 (aD 5 (aD 6 (aD 7 av)))))) av))))) eY)
 (bP (ax cu (aD 0 (aD 1 (ar (bg (aD 3 (aD 4 (ar (aR bO (au 5) (bg (aD 2 av))) (aD 6 (aD 7 av)))))) av)))))))
def jK:cW:=eJ 8 qz
def yX:cH:=
 (aC (a_ 4 (ax cy (gH 0 0 (gH 3 2 av))))
 (aC (a_ 5 (ax cy (ar (cP (cP (dg 0 0) (au 4)) (bK 4)) (gH 3 3 av))))
 (aC (a_ 6 (bg (aD 4 (aD 5 (ko 0 (ar (ax cU (aD 0 (aD 1 (aD 2 (gH 3 4 av))))) (ko 0 av)))))))
 (aC (pI (cP (dg 1 3) (au 2)) (jl (nG 2 (aJ (bS 7) (aJ (bS 8) dy)))))
 (bP (ax jK (ar (ax d_ (aD 1 (aD 2 (aD 7 (ar (aR bO (au 8) (bg (aD 6 av))) av))))) (aD 4 (aD 2 av)))))))))
def vW:cW:=eJ 9 yX
def rG:cH:=
 (aC (a_ 4 (cP (ax cj (aD 1 (aD 2 av))) (bK 0)))
 (bP (bg (aD 4 (ar (ax cy (ar (cP (cP (dg 0 0) (au 4)) (bK 3)) (aD 3 av))) av)))))
def g9:cW:=eJ 5 rG
def lF:cH:=
 (aC (a_ 4 (cP (dg 0 0) (au 1)))
 (bP (ax cu (aD 0 (aD 1 (ar (aR bO (pS (au 4) qc (pQ (bK 4))) (bg (ar (ax cG (gH 4 4 (aD 2 (aD 3 av)))) av))) av))))))
def dZ:cW:=eJ 5 lF
def xY:cH:=
 (aC (pI (cP (dg 0 0) (au 1)) (jl (nG 5 (aJ (bS 2) (aJ (bS 3) (aJ (bS 4) (aJ (bS 5) (aJ (bS 6) dy))))))))
 (aC (dW (ja (au 5)) (bP (ax cu (aD 0 (aD 1 (ar (bg (aD 2 (gH 5 0 (aD 4 (ar (pS (au 5) (pQ (bK 1)) qc) (aD 6 av)))))) av))))) eY)
 (aC (dW (ja (au 4)) (bP (ax cu (aD 0 (aD 1 (ar (bg (aD 2 (gH 4 0 (ar (pS (au 4) (pQ (bK 1)) qc) (aD 5 (aD 6 av)))))) av))))) eY)
 (bP (ax cu (aD 0 (aD 1 (ar (bg (aD 2 (ar (cF (.int (-1))) (aD 4 (aD 5 (aD 6 av)))))) av))))))))
def nV:cW:=eJ 7 xY
def qX:cH:=
 (aC (pI (ax g9 (aD 0 (aD 1 (aD 2 (gH 3 1 av))))) (jl (nG 2 (aJ (bS 4) (aJ (bS 5) dy)))))
 (aC (a_ 6 (bK 0))
 (aC (dW (aI (aR (dw false) (cP (cP (cP (cP (dg 0 0) (au 4)) (bK 3)) (au 5)) (bK 1)) (cF (.str "turns")))) (a_ 6 (ax cU (aD 0 (aD 1 (aD 2 (gH 3 2 av)))))) eY)
 (aC (a_ 7 (cP (cP (cP (dg 1 0) (au 4)) (bK 4)) (au 5)))
 (aC (a_ 8 (jE (kd (bW [none,none,some 6] (m7 (bM (au 7))) (jl (nG 2 (aJ (bS 0) (aJ (bS 1) dy)))) (aI (aR KB (au 0) (au 2))) (au 0)))))
 (aC (a_ 9 (ax dZ (aD 1 (aD 4 (aD 5 (ar (aR bO (aR bO (pS (au 7) qc (pQ (au 8))) (bg (ar (bg (aD 6 (aD 2 av))) av))) (pS (au 7) (pQ (au 8)) qc)) av))))))
 (bP (ax nV (aD 9 (aD 4 av))))))))))
def mQ:cW:=eJ 10 qX
def qA:cH:=
 (aC (pI (ax g9 (aD 0 (aD 1 (aD 2 (gH 3 1 av))))) (jl (nG 2 (aJ (bS 4) (aJ (bS 5) dy)))))
 (aC (a_ 6 (cP (cP (cP (dg 1 0) (au 4)) (bK 4)) (au 5)))
 (aC (dW (y0 (ja (au 6))) (bP (au 1)) eY)
 (aC (a_ 7 (ax dZ (aD 1 (aD 4 (aD 5 (ar (pS (au 6) (pQ (bK 1)) qc) av))))))
 (aC (dW (aI (aR (dw false) (cP (cP (dg 0 0) (au 4)) (bK 1)) (cF (.str "when free")))) (bP (au 7)) eY)
 (aC (pI (cP (dg 7 0) (au 4)) (jl (nG 5 (aJ (bS 8) (aJ (bS 9) (aJ (bS 10) (aJ (bS 11) (aJ (bS 12) dy))))))))
 (bP (ax cu (aD 7 (aD 4 (ar (bg (aD 8 (ar (cP (dg 6 0) (bK 1)) (aD 10 (ar (aR bO (au 11) (bg (aD 2 av))) (aD 12 av)))))) av)))))))))))
def mX:cW:=eJ 13 qA
def uY:cH:=
 (aC (pI (ax g9 (aD 0 (aD 1 (aD 2 (gH 3 1 av))))) (jl (nG 2 (aJ (bS 4) (aJ (bS 5) dy)))))
 (bP (ax dZ (aD 1 (aD 4 (aD 5 (ar (bg av) av)))))))
def p6:cW:=eJ 6 uY
def qy:cH:=
 (aC (a_ 4 (ax cU (aD 0 (aD 1 (aD 2 (gH 3 1 av))))))
 (bP (ax cT (aD 1 (aD 2 (ar (aR bO (pS (ax cj (aD 1 (aD 2 av))) qc (pQ (bK 4))) (bg (aD 4 av))) av))))))
def mv:cW:=eJ 5 qy
def kY:cH:=
 (bP (aR bO (bg (gH 0 0 (ar (ax cG (gH 0 1 (aD 1 (aD 2 av)))) av))) (pS (au 0) (pQ (bK 2)) qc)))
def eh:cW:=eJ 3 kY
def yK:cH:=
 (aC (a_ 4 (ax cy (gH 0 1 (aD 3 av))))
 (aC (pI (cP (dg 1 1) (au 4)) (jl (nG 2 (aJ (bS 5) (aJ (bS 6) dy)))))
 (aC (dW (aI (aR FA (au 5) (bK 0))) (bP (ax eh (aD 1 (aD 4 (ar (bg (ar (aR kj (au 5) (bK 1)) (aD 6 av))) av))))) eY)
 (bP (ax eh (aD 1 (aD 4 (ar (bg (aD 5 (ar (aR bO (au 6) (bg (aD 2 av))) av))) av))))))))
def ql:cW:=eJ 7 yK
def qv:cH:=
 (bP (ax ql (aD 0 (aD 1 (aD 2 (gH 3 1 av))))))
def mL:cW:=eJ 4 qv
def jG:cH:=
 (aC (a_ 3 (ax cy (gH 0 1 (aD 2 av))))
 (aC (pI (cP (dg 1 1) (au 3)) (jl (nG 2 (aJ (bS 4) (aJ (bS 5) dy)))))
 (aC (dW (ja (au 5)) (bP (ax eh (aD 1 (aD 3 (ar (bg (aD 4 (ar (pS (au 5) (pQ (bK 1)) qc) av))) av))))) eY)
 (bP (ax eh (aD 1 (aD 3 (ar (bg (ar (vg minD (ar (aR bO (au 4) (bK 1)) (ar (cF (.int (9))) av))) (aD 5 av))) av))))))))
def fE:cW:=eJ 6 jG
def rX:cH:=
 (bP (ax fE (aD 0 (aD 1 (gH 3 1 av)))))
def mq:cW:=eJ 4 rX
def qx:cH:=
 (bP (ax ql (aD 0 (ar (ax fE (aD 0 (aD 1 (gH 3 1 av)))) (aD 2 (gH 3 2 av))))))
def mH:cW:=eJ 4 qx
def vo:cH:=
 (bP (au 1))
def qd:cW:=eJ 4 vo
def jY:List (Str×Str):= [("put","by_put"),("unless","by_unless"),("go","by_go"),("do","by_do"),("wait","by_wait"),("call","by_call"),("all","by_all"),("tell","by_tell"),("take","by_take"),("give","by_give"),("pass","by_pass"),("say","by_say")]
def r_:List (Str×cW):= [("by_put",p8),("by_unless",iq),("by_go",uN),("by_do",vW),("by_wait",mQ),("by_call",mX),("by_all",p6),("by_tell",mv),("by_take",mL),("by_give",mq),("by_pass",mH),("by_say",qd)]
def tH:cH:=
 (aC (a_ 4 (J3 jY (dg 3 0)))
 (bP (qO 4 r_ (aD 0 (aD 1 (aD 2 (aD 3 av)))))))
def ia:cW:=eJ 5 tH
def nz:cH:=
 (aC (pI (cP (dg 1 3) (au 2)) (jl (nG 2 (aJ (bS 3) (aJ (bS 4) dy)))))
 (aC (pI (cP (au 4) (i8 (bK 1))) (jl (nG 5 (aJ (bS 5) (aJ (bS 6) (aJ (bS 7) (aJ (bS 8) (aJ (bS 9) dy))))))))
 (aC (a_ 10 (ax d_ (ar (ax nV (aD 1 (aD 5 av))) (aD 2 (aD 3 (ar (pS (au 4) qc (pQ (i8 (bK 1)))) av))))))
 (aC (a_ 11 (cP (ax eF (aD 0 (aD 2 (ar (cP (au 4) (i8 (bK 2))) av)))) (aR kj (cP (cP (au 4) (i8 (bK 2))) (bK 2)) (bK 1))))
 (aC (dW (aI (aR (B9 false) (dg 11 1) (cF .non))) (bP (au 10)) eY)
 (bP (ax ef (aD 0 (aD 10 (aD 2 (gH 11 1 (aD 9 av))))))))))))
def ie:cW:=eJ 12 nz
def jb:cH:=
 (aC (a_ 3 (ax cj (aD 1 (aD 2 av))))
 (aC (a_ 4 (dg 3 0))
 (aC (dW (i4 (aI (aR (dw true) (au 4) (cF (.int (-1))))) (aI (aR (dw true) (cP (cP (dg 1 0) (au 4)) (bK 1)) (au 2)))) (bP (bg (ar (ax jK (aD 1 (aD 4 (aD 2 av)))) (ar (cF .non) av)))) eY)
 (aC (a_ 5 (ax eF (aD 0 (aD 2 (aD 3 av)))))
 (aC (dW (aI (aR (dw false) (dg 3 2) (jE (bM (au 5))))) (bP (bg (ar (ax ie (aD 0 (aD 1 (aD 2 av)))) (ar (cF .non) av)))) eY)
 (aC (a_ 6 (cP (au 5) (dg 3 2)))
 (aC (a_ 7 (cF .non))
 (aC (dW (aI (aR (dw false) (dg 6 0) (cF (.str "say")))) (a_ 7 (bg (aD 2 (ar (ax cU (aD 0 (aD 1 (aD 2 (gH 6 1 av))))) av)))) eY)
 (bP (bg (ar (ax ia (aD 0 (ar (ax iw (aD 1 (aD 2 (ar (aR bO (dg 3 2) (bK 1)) av)))) (aD 2 (aD 6 av))))) (aD 7 av))))))))))))
def mZ:cW:=eJ 8 jb
def oy:cH:=
 (EO (bW [none,none] (m7 (bM (au 0))) (jl (nG 2 (aJ (bS 0) (aJ (bS 1) dy)))) cM (au 1)))
def j3:cW:=eJ 1 oy
def fZ:cH:=
 (aC (a_ 1 (dH (cN av)))
 (aC (qQ (m7 (bM (dg 0 1))) (jl (nG 2 (aJ (bS 2) (aJ (bS 3) dy)))) (wV (sY (au 1) (bM (au 3)))))
 (aC (qQ (m7 (bM (dg 0 0))) (jl (nG 5 (aJ (bS 4) (aJ (bS 5) (aJ (bS 3) (aJ (bS 6) (aJ (bS 7) dy))))))) (aC (wV (sY (au 1) (bM (aR bO (au 3) (au 6)))))
 (qQ (m7 (bM (au 7))) (bS 8) (wV (DG (au 1) (kd (eW j3 (aD 8 av))))))))
 (bP (au 1)))))
def dC:cW:=eJ 9 fZ
def f_:cH:=
 (aC (a_ 3 (ax cj (aD 1 (aD 2 av))))
 (bP (uu (aR (dw false) (dg 3 0) (cF (.int (-1)))) (aR (dw false) (dg 3 2) (jE (bM (ax eF (aD 0 (aD 2 (aD 3 av))))))))))
def eR:cW:=eJ 4 f_
def nN:cH:=
 (aC (a_ 2 (dH (eW dC (aD 1 av))))
 (EO (bW [none,some 0,some 1,some 2] (sx (jE (bM (dg 1 3)))) (bS 0) (i4 (aI (DX true (au 0) (bM (au 3)))) (y0 (ja (ax eR (aD 1 (aD 2 (aD 0 av))))))) (au 0))))
def j8:cW:=eJ 3 nN
def rj:cH:=
 (aC (dW (aI (DX true (au 2) (kd (eW j8 (aD 0 (aD 1 av)))))) never eY)
 (bP (ax mZ (aD 0 (aD 1 (aD 2 av))))))
def mw:cW:=eJ 3 rj
def fj(self:cW):cH:=
 (aC (dW (ja (kW "tuple" (au 1))) (aC (dW (DT (y0 (ja (kW "tuple" (au 0)))) (aI (aR (dw true) (jE (bM (au 0))) (jE (bM (au 1)))))) (bP (cF (.bl false))) eY)
 (bP (Ee (kd (bW [none,none] (DB (bM (au 0)) (bM (au 1))) (jl (nG 2 (aJ (bS 0) (aJ (bS 1) dy)))) cM (ax self (aD 0 (aD 1 av)))))))) eY)
 (aC (dW (DT (ja (kW "str" (au 1))) (aI (aR (B9 false) (au 1) (cF .non)))) (bP (uu (aR (dw false) (kW "str" (au 0)) (kW "str" (au 1))) (aR (dw false) (au 0) (au 1)))) eY)
 (bP (uu (kW "int" (au 0)) (uu (Fi (kW "bool" (au 0))) (aR (dw false) (au 0) (au 1)))))))
def fc:Nat->cW
 |0=>λ_ _=>none
 |n+1=>eJ 2 (fj (fc n))
def FP:cH:=
 (aC (qQ (sx (vg maxD (ko 1 (ar (vg minD (ar (jE (bM (au 0))) (ko 6 av))) av)))) (bS 1) (aC (a_ 2 (dH (eW jZ (aD 0 (aD 1 av)))))
 (aC (a_ 3 (ax fJ (aD 2 av)))
 (aC (a_ 4 (jE (bM (dg 3 3))))
 (aC (a_ 5 (dH (Bc (kd (bW [none,none] (m7 (bM (dg 3 3))) (jl (nG 2 (aJ (bS 0) (aJ (bS 1) dy)))) cM (H_ (au 0)))) (kd (cN (ar (H_ (dg 3 2)) av))))))
 (aC (a_ 6 (dH (Eb (kd (cN (ko 0 av))) (au 4))))
 (aC (a_ 7 (ax ur (aD 3 av)))
 (aC (a_ 8 (i8 (bK 1)))
 (qQ (sx (bK 60)) (bS 9) (aC (a_ 10 (dH (bW [none,some 3,some 6] (sx (au 4)) (bS 0) (aI (aR Fx (cP (au 2) (au 0)) (jE (bM (cP (cP (dg 1 3) (au 0)) (bK 1)))))) (au 0))))
 (dW (aI (gP (bM (au 10)))) (aC (a_ 8 (ax iK (aD 2 (aD 10 (aD 8 av)))))
 (aC (a_ 11 (ax fL (aD 3 (aD 5 (aD 6 av)))))
 (aC (a_ 12 (ax gE (aD 3 (aD 5 (aD 6 (aD 8 av))))))
 (aC (a_ 13 (ax mw (aD 3 (aD 7 (aD 8 av)))))
 (aC (a_ 14 (bg (ar (ax fL (aD 3 (aD 5 (aD 6 av)))) (aD 12 av))))
 (aC (dW (DT (y0 (ja (ax (fc 10) (aD 13 (aD 14 av))))) (aI (aR (GX true) (au 7) (au 11)))) (bP (cF (.bl false))) eY)
 (a_ 7 (dg 13 0)))))))) eY)))))))))))
 (bP (cF (.bl true))))
def Ef:cW:=eJ 15 FP
def top(i:Nat):Stmt:=PySem.Challenge.pw_calledroom_k20_own_rows.main.body.getD i (.Pass ⟨0,0,0,0⟩)
abbrev k_:Stmt:=top 56
abbrev jP:Stmt:=top 57
abbrev iJ:Stmt:=top 59
abbrev jm:Stmt:=top 58
abbrev lz:Stmt:=top 60
abbrev gd:Stmt:=top 63
abbrev iU:Stmt:=top 64
abbrev jx:Stmt:=top 10
abbrev iC:Stmt:=top 12
abbrev vj:Stmt:=top 11
abbrev jQ:Stmt:=top 61
abbrev iS:Stmt:=top 66
abbrev iM:Stmt:=top 65
abbrev iD:Stmt:=top 67
abbrev iz:Stmt:=top 13
abbrev iL:Stmt:=top 14
abbrev kU:Stmt:=top 23
abbrev lN:Stmt:=top 25
abbrev jy:Stmt:=top 15
abbrev jN:Stmt:=top 18
abbrev jf:Stmt:=top 16
abbrev jC:Stmt:=top 27
abbrev gc:Stmt:=top 6
abbrev lC:Stmt:=top 5
abbrev lO:Stmt:=top 26
abbrev qI:Stmt:=top 31
abbrev eO:Stmt:=top 19
abbrev qN:Stmt:=top 20
abbrev jr:Stmt:=top 32
abbrev vc:Stmt:=top 33
abbrev ow:Stmt:=top 28
abbrev vy:Stmt:=top 34
abbrev ou:Stmt:=top 35
abbrev ji:Stmt:=top 36
abbrev vJ:Stmt:=top 29
abbrev nF:Stmt:=top 37
abbrev oN:Stmt:=top 38
abbrev qk:Stmt:=top 39
abbrev ng:Stmt:=top 40
abbrev je:Stmt:=top 17
abbrev vL:Stmt:=top 42
abbrev nX:Stmt:=top 41
abbrev iA:Stmt:=top 44
abbrev oB:Stmt:=top 43
abbrev oG:Stmt:=top 45
abbrev qS:Stmt:=top 46
abbrev kR:Stmt:=top 48
abbrev lD:Stmt:=top 30
abbrev oJ:Stmt:=top 54
abbrev k9:Stmt:=top 21
abbrev fN:Stmt:=top 51
abbrev fQ:Stmt:=top 52
abbrev kQ:Stmt:=top 50
abbrev oz:Stmt:=top 53
abbrev jg:Stmt:=top 62
abbrev mf:Stmt:=top 68
end W28
namespace W28
open PySem PySem.Spec L2 DL PyProof.Rows
abbrev yI:List Str:= ["_law_found","_law_due"]
abbrev Ea:List Str:= ["_law_pot_here","_law_many"]
abbrev CZ:List Str:= ["_law_pot_here","_law_some","_law_last"]
abbrev xM:List Str:= ["_law_pot_here","_law_some"]
abbrev zZ:List Str:= ["_law_pot_here","_law_stem","_law_many"]
abbrev t7:List Str:= ["_law_pot_here","_law_words_here","_law_bells","_law_deep"]
abbrev zV:List Str:= ["_law_pot_here","_law_words_here"]
abbrev As:List Str:= ["_law_pot_here"]
abbrev Ae:List Str:= ["_law_script","_law_k"]
abbrev Cs:List Str:= ["_law_script"]
abbrev sU:List Str:= ["_law_told","_law_things"]
abbrev FE:List Str:= ["_law_word","_law_pot_here"]
abbrev Af:List Str:= ["_law_world_here","_law_values","_law_spots","_law_own"]
abbrev Aa:List Str:= ["_law_world_here","_law_values","_law_spots"]
abbrev xg:List Str:= ["form","first","second"]
abbrev wY:List Str:= ["line"]
abbrev xh:List Str:= ["parts","at","part"]
abbrev xp:List Str:= ["roll","name"]
abbrev xQ:List Str:= ["roll"]
abbrev xU:List Str:= ["room"]
abbrev xb:List Str:= ["scene","at","room"]
abbrev xj:List Str:= ["scene","at","turnstile"]
abbrev zY:List Str:= ["scene","hand","frame"]
abbrev Ap:List Str:= ["scene","hand","row"]
abbrev wM:List Str:= ["scene","hand","values","frames"]
abbrev we:List Str:= ["scene","hand"]
abbrev zW:List Str:= ["scene","room","bell","line"]
abbrev z9:List Str:= ["scene","room","hand"]
abbrev zK:List Str:= ["scene","room"]
abbrev Ak:List Str:= ["scene"]
abbrev xr:List Str:= ["things"]
abbrev tq:List Str:= ["tree","things","waiting"]
abbrev zR:List Str:= ["world","hand","frame"]
abbrev z4:List Str:= ["world","scene","hand","name"]
abbrev bu:List Str:= ["world","scene","hand","row"]
abbrev Ah:List Str:= ["world","scene","hand","tree"]
abbrev zT:List Str:= ["world","scene","hand","word","value"]
abbrev zA:List Str:= ["world","scene","hand","word"]
abbrev fI:List Str:= ["world","scene","hand"]
abbrev Ai:List Str:= ["world","scene","name"]
abbrev zF:List Str:= ["world","scene"]
abbrev zE:List Str:= ["world"]
section
variable(P:Program)(w:World)(K:PySem.W.Frag)(mg:Str->Option Value)(base:Heap)
abbrev yR:Prop:=eL P w K mg base 1 "_law_pot" Ae jZ
abbrev eI:Prop:=eL P w K mg base 1 "_law_take" Ea aG
abbrev vw:Prop:=eL P w K mg base 2 "_law_words" zZ fF
abbrev jd:Prop:=eL P w K mg base 2 "_law_pick" xM cI
abbrev ya:Prop:=eL P w K mg base 7 "_law_sum" t7 (bt 4)
abbrev qf:Prop:=eL P w K mg base 8 "_law_program" zV fw
abbrev vO:Prop:=eL P w K mg base 9 "_law_world" As fJ
abbrev oY:Prop:=eL P w K mg base 1 "values_of" xr fm
abbrev vD:Prop:=eL P w K mg base 2 "begun_room" xU gC
abbrev EZ:Prop:=eL P w K mg base 3 "begun" zE ur
abbrev wU:Prop:=eL P w K mg base 3 "_law_next" CZ iK
abbrev uI:Prop:=eL P w K mg base 1 "_law_scene" Aa fL
abbrev vm:Prop:=eL P w K mg base 6 "_law_value" sU (bH 5)
abbrev ve:Prop:=eL P w K mg base 7 "_law_event" Af gE
abbrev cZ:Prop:=eL P w K mg base 1 "last_frame" we cj
abbrev iy:Prop:=eL P w K mg base 1 "program_of" zR eF
abbrev lA:Prop:=eL P w K mg base 1 "names_of" xQ dm
abbrev gg:Prop:=eL P w K mg base 2 "place_of" xp cy
abbrev fH:Prop:=eL P w K mg base 1 "with_part" xh cG
abbrev gJ:Prop:=eL P w K mg base 2 "with_hand" wM d_
abbrev fD:Prop:=eL P w K mg base 2 "with_room" xb cu
abbrev pe:Prop:=eL P w K mg base 3 "put_thing" zT ef
abbrev q_:Prop:=eL P w K mg base 1 "value_of_two" xg ft
abbrev y6:Prop:=eL P w K mg base 8 "value_of" tq (e_ 6)
abbrev fq:Prop:=eL P w K mg base 9 "reckoned" Ah cU
abbrev gA:Prop:=eL P w K mg base 3 "with_last_frame" zY cT
abbrev qL:Prop:=eL P w K mg base 4 "at_row" Ap iw
abbrev ua:Prop:=eL P w K mg base 3 "come_in" z9 jK
abbrev nR:Prop:=eL P w K mg base 3 "bell_of" zA g9
abbrev jh:Prop:=eL P w K mg base 3 "with_line" zW dZ
abbrev zX:Prop:=eL P w K mg base 3 "leave" zK nV
abbrev pq:Prop:=eL P w K mg base 2 "with_pass" xj eh
abbrev zt:Prop:=eL P w K mg base 3 "taken" z4 ql
abbrev mG:Prop:=eL P w K mg base 3 "given_back" Ai fE
abbrev zo:Prop:=eL P w K mg base 11 "row_done" bu ia
abbrev zq:Prop:=eL P w K mg base 4 "end_deed" fI ie
abbrev Bh:Prop:=eL P w K mg base 12 "step_of" fI mZ
abbrev yL:Prop:=eL P w K mg base 1 "hands_at" wY j3
abbrev pG:Prop:=eL P w K mg base 2 "hands_in_rows" Ak dC
abbrev pL:Prop:=eL P w K mg base 2 "is_behind_all" fI eR
abbrev yr:Prop:=eL P w K mg base 3 "may_step" zF j8
abbrev Bm:Prop:=eL P w K mg base 13 "stepped" fI mw
abbrev xO:Prop:=eL P w K mg base 11 "_law_same" yI (fc 10)
end
def Kr{X:Cx}{a:Expr}{pos:Pos}{f:dQ}{p:Pos}(d:Gl X "len")(b:X.mg "len"=none)(c:PE X a (tQ (md X) f))(hs:starEach [a] X.env= [(false,eval a X.env)]):PE X (.Call (.Name "len" p) [a] [] pos) (tD (md X) (jE f)):=Jr d b c hs
def cB{X:Cx}{pos:Pos}{N:List Str}{js:List (Option Nat)}{a:Scope}{c:List (Str×Addr)}{h b d:Expr}{e:List Expr}{i:sm}{g:jS}{t:ix}{f:bc}(S:aP X N js a c)(l:X.calm=true)(hi:PI X h b (tI (md X) i))(k:∀C s H fp,PG (aF X N a c C s H fp) h (tG (md (aF X N a c C s H fp)) g))(j:∀C s H fp,kT (aF X N a c C s H fp) e (tB (md (aF X N a c C s H fp)) t))(he:∀C s H fp,PE (aF X N a c C s H fp) d (tD (md (aF X N a c C s H fp)) f))(hs:∀x,foldedSetIterable b X.env x=pure x:=by intro _;rfl):PE X (.ListComp d [⟨h,b,e,0⟩] a pos) (tL (md X) (bW js i g t f)):=GV S l hi k j he hs
def Az{X:Cx}{pos:Pos}{N:List Str}{js:List (Option Nat)}{a:Scope}{h:List (Str×Addr)}{k b e c:Expr}{j:List Expr}{i:sm}{g:jS}{t:ix}{f:bc}{n:Nat}{d:Pos}(S:aP X N js a h)(r:X.calm=true)(hi:PI X k b (tI (md X) i))(p:∀C s H fp,PG (aF X N a h C s H fp) k (tG (md (aF X N a h C s H fp)) g))(o:∀C s H fp,kT (aF X N a h C s H fp) j (tB (md (aF X N a h C s H fp)) t))(he:∀C s H fp,PE (aF X N a h C s H fp) e (tD (md (aF X N a h C s H fp)) f))(l:PG X c (mj n))(hs:∀x,foldedSetIterable b X.env x=pure x:=by intro _;rfl)(m:swapsWithSole [c] (.ListComp e [⟨k,b,j,0⟩] a pos) d.line X.env=pure true:=by rfl)(q:(assignEach [c] X.env).map (·.2)= [assign c X.env]:=by rfl):PS X (.Assign [c] (.ListComp e [⟨k,b,j,0⟩] a pos) d) (tS (md X) (a_ n (dH (bW js i g t f)))):=Hb S r hi p o he l hs m q
def DS{X:Cx}{pos:Pos}{N:List Str}{js:List (Option Nat)}{a:Scope}{d:List (Str×Addr)}{h b j k c:Expr}{f:List Expr}{i:sm}{g:jS}{t:ix}{o p:bc}{n:Nat}{e:Pos}(S:aP X N js a d)(w:X.calm=true)(hi:PI X h b (tI (md X) i))(r:∀C s H fp,PG (aF X N a d C s H fp) h (tG (md (aF X N a d C s H fp)) g))(q:∀C s H fp,kT (aF X N a d C s H fp) f (tB (md (aF X N a d C s H fp)) t))(u:∀C s H fp,PE (aF X N a d C s H fp) j (tD (md (aF X N a d C s H fp)) o))(hv:∀C s H fp,PE (aF X N a d C s H fp) k (tD (md (aF X N a d C s H fp)) p))(l:PG X c (mj n))(hs:∀x,foldedSetIterable b X.env x=pure x:=by intro _;rfl)(m:swapsWithSole [c] (.DictComp j k [⟨h,b,f,0⟩] a pos) e.line X.env=pure true:=by rfl)(v:(assignEach [c] X.env).map (·.2)= [assign c X.env]:=by rfl):PS X (.Assign [c] (.DictComp j k [⟨h,b,f,0⟩] a pos) e) (tS (md X) (Io n (ox js i g t o p))):=EM S w hi r q u hv l hs m v
local macro_rules|`(tactic|specialize $n:num)=>do
 let k:=n.getNat
 if k<13 then `(tactic|specialize $(Lean.Syntax.mkNumLit (toString (k+1)))) else Lean.Macro.throwError ""
local macro_rules|`(tactic|specialize $n:num)=>do
 let k:=n.getNat
 let g (l:List (String×Nat)):Lean.MacroM (Array (Lean.TSyntax `Lean.Parser.Tactic.tacticSeq)):=l.toArray.mapM λ(s,k)=>do
  let ws:=((s.splitOn " ").map λn=>Lean.mkIdent n.toName).toArray
  let h←`(?_)
  let e:=Lean.Syntax.mkApp ⟨ws[0]!.raw⟩ ((ws.toList.tail!.map λw=>⟨w.raw⟩).toArray++Array.replicate k h)
  `(tacticSeq|refine $e)
 let A (i j:Nat):=g ((([("v_",5),("Jo",0),("Ky",3),("Lm",1),("LB",0),("LI",2),("JM",3),("LY",1),("Kr",4),("Mh",1),("JU",5),("LF LM LP",3),("Ll",2),("LO",2),("L5",2),("IW",6),("Ls",3),("LV",0),("KA",4),("Lu",7),("Lx",2),("Mm",2),("Hu",10),("Mw",0),("KU",2),("LF LQ L6",3),("HB",6),("LF LX LD",3),("J9",6),("LF Mf LA",3),("JR",6),("IG",6),("Kq",0),("Jf",6),("Me",5),("Mi",1),("LL",1),("iG",3),("rC",0),("Mx",5),("Mu",5),("LK",4),("Mb",3),("L8",4),("J6",3),("KG",0),("HZ",1),("Mp",3),("Lo",5),("K9",2),("L4",6),("KL",1),("Kk",5),("KW",4),("JJ",0),("DN",2),("LW",0),("FH",1),("Mj",1),("Kf",4),("Lr",6),("K8",4),("MC",1),("MD",1),("LS",1),("Ii",1),("Lw",2),("Il",4),("Mc",2),("Jt LM LP",3),("Jt Mf LA",3),("Jt Mk Mo",3),("Jt LQ L6",3),("JX",2),("Lp",1),("My",3),("Jt Kc K7",3),("JV",3),("Ml",4),("Jt Ln Lq",3),("LC",2),("K4",1),("KJ",0),("Lv",0),("MB",5),("JP",7),("JZ",5),("Ka",5),("LJ",1),("KD",1),("LR",1)]:List (String×Nat)).drop i).take j)
 let C (_:Unit):Lean.MacroM (Array (Lean.TSyntax `Lean.Parser.Tactic.tacticSeq)):=([("Ip j9 Hx Bl.int",0),("KS mV Ht Bl.min",1),("K6 mV Hv Bl.max",1),("Kw mV Im Bl.abs",0),("str",2),("int",2),("tuple",2),("bool",2)]:List (String×Nat)).toArray.mapM λ(s,k)=>do
  let ws:=((s.splitOn " ").map λn=>Lean.mkIdent n.toName).toArray
  if k=2 then
   `(tacticSeq|refine Ez (v:=.ty $(Lean.quote s)) rfl ($(Lean.mkIdent (.str (.str .anonymous "Bl") s)) (by assumption)) $(Lean.mkIdent (.str `PyProof.Rows ("boot_" ++s))) rfl)
  else
   let e←if k=1 then `($(ws[2]!) rfl) else pure ⟨ws[2]!.raw⟩
   `(tacticSeq|((with_reducible refine Lb $(ws[0]!) ?_);refine $(ws[1]!) $e rfl ($(ws[3]!) (by assumption)) (by rfl) ?_))
 let z:=([(0,0),(0,37),(37,2),(39,5),(44,2),(46,9),(55,3),(58,4),(62,3),(65,4),(69,12),(0,91)]:List (Nat×Nat)).getD k (0,0)
 let a←A z.1 z.2
 if k=0 then `(tactic|first|((with_reducible change _=_);exact rfl)|((with_reducible change _\/_);first|exact Or.inl rfl|exact Or.inr rfl|exact Or.inr (Or.inl rfl)|exact Or.inr (Or.inr rfl))|((with_reducible change Gl _ _);exact rfl)|((with_reducible change L2.Loc _ _);first|exact Or.inl rfl|exact Or.inr rfl)|((with_reducible change D2 _ _);first|exact Or.inl rfl|exact Or.inr (Or.inl rfl)|exact Or.inr (Or.inr rfl))|((with_reducible change (_:Nat)<=_);omega)|((with_reducible intro _ _);rfl)|with_reducible assumption) else
 if k=1 then
  let c←C ()
  `(tactic|((with_reducible change PE _ _ (tD _ _));first|(with_reducible first $[| $a]*)|((with_reducible refine' Kd ?cc ?hh ?_ ?hk ?_ ?hn ?_ ?_ ?_);(case cc=>assumption);(case hh=>assumption);(case hk=>first|decide|omega);(case hn=>repeat (first|exact rS|refine gF ?_)))|((with_reducible refine' j2 ?pg ?ff);(case pg=>(refine' Ad (v:=.int (-1)) ?a0 ?m0 ?r0 ?d0;(case a0=>exact rfl);(case m0=>assumption);(case r0=>exact⟨_,rfl⟩);(case d0=>decide)));(case ff=>exact λ_ _=>.int (-1)))|((with_reducible refine' j2 ?pg ?ff);(case pg=>(refine' Ad (v:=.int (9)) ?a0 ?m0 ?r0 ?d0;(case a0=>exact rfl);(case m0=>assumption);(case r0=>exact⟨_,rfl⟩);(case d0=>decide)));(case ff=>exact λ_ _=>.int (9)))|(first $[| $c]*))) else
 if k=2 then
  `(tactic|((with_reducible change PA _ _ (v5 _ _));first|(with_reducible first $[| $a]*))) else
 if k=3 then
  `(tactic|((with_reducible change PG _ _ (tG _ _));first|(with_reducible first $[| $a]*))) else
 if k=4 then
  `(tactic|((with_reducible change AR _ _ (Hy _ _));first|(with_reducible first $[| $a]*))) else
 if k=5 then
  `(tactic|((with_reducible change PS _ _ (tS _ _));first|(with_reducible first $[| $a]*)|((with_reducible refine Jj ?_ ?_ ?_ ?_ ?_ ?hsz ?_);(case hsz=>exact rfl)))) else
 if k=6 then
  `(tactic|((with_reducible change rO _ _ (tS _ _));first|(with_reducible first $[| $a]*)|refine DN ?_ ?_|refine FH ?_)) else
 if k=7 then
  `(tactic|((with_reducible change PI _ _ _ (tI _ _));first|(with_reducible first $[| $a]*))) else
 if k=8 then
  `(tactic|((with_reducible change PE _ _ (tQ _ _));first|(with_reducible first $[| $a]*))) else
 if k=9 then
  `(tactic|((with_reducible change PE _ _ (tL _ _));first|(with_reducible first $[| $a]*)|((with_reducible refine' Kx ?cc ?hh ?_ ?hk ?_ ?hn ?_ ?_ ?_);(case cc=>assumption);(case hh=>assumption);(case hk=>first|decide|omega);(case hn=>repeat (first|exact rS|refine gF ?_))))) else
 if k=10 then
  `(tactic|((with_reducible change PT _ _ (tB _ _));first|(with_reducible first $[| $a]*))) else
 if k=11 then `(tactic|with_reducible first $[| $a]*) else
 if k=12 then `(tactic|first|exact rfl|exact Or.inl rfl|(with_reducible first|refine PW.pt (w_and ?_ ?_)|refine PW.pt (w_or ?_ ?_))|refine IT (by assumption) ?_ ?_|assumption|exact Or.inr rfl|exact Or.inr (Or.inl rfl)|exact Or.inr (Or.inr rfl)|decide|omega|(intro _ _;rfl)|(intro _;rfl)|(intro _ _ _;rfl)|exact⟨rfl,rfl,rfl,rfl,rfl,rfl,rfl⟩|exact λ_ _=>.int _) else
 let b←g [("DA",1),("PassesOwn.never",0),("FF",0),("JL",0),("Bl.abs",1),("Bl.all",1),("Bl.bool",1),("Bl.dict",1),("Bl.enum",1),("Bl.int",1),("Bl.isi",1),("Bl.len",1),("Bl.list",1),("Bl.max",1),("Bl.min",1),("Bl.range",1),("Bl.sorted",1),("Bl.str",1),("Bl.tuple",1),("Bl.zip",1),("DN",2),("FH",1)]
 let c←C ()
 `(tactic|first $[| $c]* $[| $b]*)
local macro_rules|`(tactic|ac_rfl)=>`(tactic|repeat specialize 0)
section
variable{P:Program}{w:World}{K:PySem.W.Frag}{mg:Str->Option Value}{base:Heap}{f:Addr}{fd:FuncData}
def o8:aE ["_law_script","_law_k","_law_cell","_law_digits"] Ae (az k_):=eZ
def xJ(F:dU K "_law_pot" "_law_pot" k_ f fd)(B:Bl mg):bj P w K mg base dA 1 f fd Ae (dP ⟨K,mg⟩ 2 jZ):=by
 have c:=o8.nd
 refine bf F o8 λb A a s H E d=> ?_
 delta nT
 ac_rfl
def mE:aE ["_law_pot_here","_law_many","_law_digit","_law_mixed"] Ea (az jP):=eZ
def uM(F:dU K "_law_take" "_law_take" jP f fd)(B:Bl mg):bj P w K mg base dA 1 f fd Ea (dP ⟨K,mg⟩ 2 aG):=by
 have c:=mE.nd
 refine bf F mE λb A a s H E d=> ?_
 delta lg
 ac_rfl
def kr:aE ["_law_pot_here","_law_stem","_law_many","_law_left"] zZ (az iJ):=eZ
def sk(F:dU K "_law_words" "_law_words" iJ f fd)(B:Bl mg)(e:eI P w K mg base):bj P w K mg base dA 2 f fd zZ (dP ⟨K,mg⟩ 3 fF):=by
 have c:=kr.nd
 refine bf F kr λb A a s H E d=> ?_
 delta jL
 ac_rfl
 refine cB (N:= ["_law_one","_law_stem"]) (js:= [none,some 1]) (aP.gen rfl rfl rfl rfl rfl rfl) rfl ?_ (λ_ _ _ _=> ?_) (λ_ _ _ _=> ?_) (λ_ _ _ _=> ?_)
 ac_rfl
 refine cB (N:= ["_law_k","_law_pot_here","_law_left"]) (js:= [none,some 0,some 3]) (aP.gen rfl rfl rfl rfl rfl rfl) rfl ?_ (λ_ _ _ _=> ?_) (λ_ _ _ _=> ?_) (λ_ _ _ _=> ?_)
 ac_rfl
def u6:aE xM xM (az jm):=eZ
def uA(F:dU K "_law_pick" "_law_pick" jm f fd)(B:Bl mg)(d:eI P w K mg base):bj P w K mg base dA 2 f fd xM (dP ⟨K,mg⟩ 2 cI):=by
 refine bf F u6 λb A a s H E c=> ?_
 delta lP
 ac_rfl
def oW:aE ["_law_pot_here","_law_words_here","_law_bells","_law_deep","_law_way","_law_word"] t7 (az lz):=eZ
theorem pk(F:dU K "_law_sum" "_law_sum" lz f fd)(B:Bl mg)(h:eI P w K mg base)(g:jd P w K mg base)(b:Binds K fd t7 [])(c:PySem.W.keepIn K (.ref f)=true)(m:mg "_law_sum"=some (.ref f)):∀n,bj P w K mg base dA (3+n) f fd t7 (dP ⟨K,mg⟩ 4 (bt n))
 |0=>pZ
 | n+1=>by
   have j:eL P w K mg base (3+n) "_law_sum" t7 (bt n):=⟨f,fd,pk F B h g b c m n,b,c,m⟩
   have i:=oW.nd
   refine bf (k:=3+n) F oW λd A a s H E e=> ?_
   have l:=e.units0
   delta nZ
   ac_rfl
def iW:aE ["_law_pot_here","_law_words_here","_law_rows","_law_many","_law_k","_law_way"] zV (az gd):=eZ
def pJ(F:dU K "_law_program" "_law_program" gd f fd)(B:Bl mg)(h:eI P w K mg base)(e:ya P w K mg base)(g:jd P w K mg base):bj P w K mg base dA 8 f fd zV (dP ⟨K,mg⟩ 2 fw):=by
 have d:=iW.nd
 refine bf F iW λb A a s H E c=> ?_
 have i:=c.units0
 delta gS
 ac_rfl
def kK:aE ["_law_pot_here","_law_shared","_law_hands","_law_k","_law_own","_law_things"] As (az iU):=eZ
def sJ(F:dU K "_law_world" "_law_world" iU f fd)(B:Bl mg)(d:vw P w K mg base)(g:eI P w K mg base)(h:qf P w K mg base):bj P w K mg base dA 9 f fd As (dP ⟨K,mg⟩ 1 fJ):=by
 have c:=kK.nd
 refine bf F kK λb A a s H E e=> ?_
 delta jR
 ac_rfl
 refine cB (N:=FE) (js:= [none,some 0]) (aP.gen rfl rfl rfl rfl rfl rfl) rfl ?_ (λ_ _ _ _=> ?_) (λ_ _ _ _=> ?_) (λ_ _ _ _=> ?_)
 ac_rfl
 refine cB (N:=FE) (js:= [none,some 0]) (aP.gen rfl rfl rfl rfl rfl rfl) rfl ?_ (λ_ _ _ _=> ?_) (λ_ _ _ _=> ?_) (λ_ _ _ _=> ?_)
 ac_rfl
def uB:aE xr xr (az jx):=eZ
def vh(F:dU K "values_of" "values_of" jx f fd)(B:Bl mg):bj P w K mg base dA 1 f fd xr (dP ⟨K,mg⟩ 1 fm):=by
 refine bf F uB λb A a s H E c=> ?_
 delta lW
 ac_rfl
 refine cB (N:= ["word","value"]) (js:= [none,none]) (aP.gen rfl rfl rfl rfl rfl rfl) rfl ?_ (λ_ _ _ _=> ?_) (λ_ _ _ _=> ?_) (λ_ _ _ _=> ?_)
 ac_rfl
end
section
variable{P:Program}{w:World}{K:PySem.W.Frag}{mg:Str->Option Value}{base:Heap}{f:Addr}{fd:FuncData}
def kB:aE ["room","name","manner","things","bells","deeds"] xU (az iC):=eZ
def sL(F:dU K "begun_room" "begun_room" iC f fd)(B:Bl mg)(g:oY P w K mg base){c:Tok}(h:mg "NOBODY"=some (.int (-1) c)):bj P w K mg base dA 2 f fd xU (dP ⟨K,mg⟩ 1 gC):=by
 have d:=kB.nd
 refine bf F kB λb A a s H E e=> ?_
 delta jj
 ac_rfl
 refine cB (N:= ["bell"]) (js:= [none]) (aP.gen rfl rfl rfl rfl rfl rfl) rfl ?_ (λ_ _ _ _=> ?_) (λ_ _ _ _=> ?_) (λ_ _ _ _=> ?_)
 ac_rfl
def wx:aE ["world","rooms","passes","shared","hands","own"] zE (az vj):=eZ
def CN(F:dU K "begun" "begun" vj f fd)(B:Bl mg)(h:oY P w K mg base)(i:vD P w K mg base){c:Tok}(d:mg "OWN"=some (.int (-1) c)):bj P w K mg base dA 3 f fd zE (dP ⟨K,mg⟩ 1 ur):=by
 have e:=wx.nd
 refine bf F wx λb A a s H E g=> ?_
 delta zk
 ac_rfl
 refine cB (N:=xU) (js:= [none]) (aP.gen rfl rfl rfl rfl rfl rfl) rfl ?_ (λ_ _ _ _=> ?_) (λ_ _ _ _=> ?_) (λ_ _ _ _=> ?_)
 ac_rfl
 refine cB (N:= ["name","value"]) (js:= [none,none]) (aP.gen rfl rfl rfl rfl rfl rfl) rfl ?_ (λ_ _ _ _=> ?_) (λ_ _ _ _=> ?_) (λ_ _ _ _=> ?_)
 ac_rfl
 refine cB (N:= ["things","program","own"]) (js:= [none,none,some 5]) (aP.gen rfl rfl rfl rfl rfl rfl) rfl ?_ (λ_ _ _ _=> ?_) (λ_ _ _ _=> ?_) (λ_ _ _ _=> ?_)
 ac_rfl
def uv:aE CZ CZ (az jQ):=eZ
def uz(F:dU K "_law_next" "_law_next" jQ f fd)(B:Bl mg)(e:eI P w K mg base)(d:jd P w K mg base):bj P w K mg base dA 3 f fd CZ (dP ⟨K,mg⟩ 3 iK):=by
 refine bf F uv λb A a s H E c=> ?_
 delta kP
 ac_rfl
def kG:aE ["_law_world_here","_law_values","_law_spots","_law_hands","_law_own","_law_things","_law_program_here","_law_told"] Aa (az iS):=eZ
def sE(F:dU K "_law_scene" "_law_scene" iS f fd)(B:Bl mg):bj P w K mg base dA 1 f fd Aa (dP ⟨K,mg⟩ 3 fL):=by
 have e:=kG.nd
 refine bf F kG λb A a s H E c=> ?_
 have d:=xf c
 delta jH
 ac_rfl
 refine cB (N:= ["_law_word","_law_value_here","_law_values","_law_own"]) (js:= [none,none,some 1,some 4]) (aP.gen rfl rfl rfl rfl rfl rfl) rfl ?_ (λ_ _ _ _=> ?_) (λ_ _ _ _=> ?_) (λ_ _ _ _=> ?_)
 ac_rfl
 refine cB (N:= ["_law_word","_law_value_here","_law_values"]) (js:= [none,none,some 1]) (aP.gen rfl rfl rfl rfl rfl rfl) rfl ?_ (λ_ _ _ _=> ?_) (λ_ _ _ _=> ?_) (λ_ _ _ _=> ?_)
 ac_rfl
def kN:aE ["_law_told","_law_things","_law_parts","_law_one","_law_other"] sU (az iM):=eZ
theorem kL(F:dU K "_law_value" "_law_value" iM f fd)(B:Bl mg)(b:Binds K fd sU [])(c:PySem.W.keepIn K (.ref f)=true)(m:mg "_law_value"=some (.ref f)):∀n,bj P w K mg base dA (1+n) f fd sU (dP ⟨K,mg⟩ 2 (bH n))
 |0=>pZ
 | n+1=>by
   have i:eL P w K mg base (1+n) "_law_value" sU (bH n):=⟨f,fd,kL F B b c m n,b,c,m⟩
   have h:=kN.nd
   refine bf (k:=1+n) F kN λd A a s H E e=> ?_
   have g:=xf e
   delta jI
   ac_rfl
   refine Az (n:=2) (N:= ["_law_part","_law_things"]) (js:= [none,some 1]) (aP.gen rfl rfl rfl rfl rfl rfl) rfl ?_ (λ_ _ _ _=> ?_) (λ_ _ _ _=> ?_) (λ_ _ _ _=> ?_) ?_
   ac_rfl
def kI:aE ["_law_world_here","_law_values","_law_spots","_law_own","_law_row","_law_things","_law_place"] Af (az iD):=eZ
def sD(F:dU K "_law_event" "_law_event" iD f fd)(B:Bl mg)(g:vm P w K mg base):bj P w K mg base dA 7 f fd Af (dP ⟨K,mg⟩ 4 gE):=by
 have e:=kI.nd
 refine bf F kI λb A a s H E c=> ?_
 have d:=xf c
 delta jo
 ac_rfl
def sr:aE we we (az iz):=eZ
def su(F:dU K "last_frame" "last_frame" iz f fd)(B:Bl mg):bj P w K mg base dA 1 f fd we (dP ⟨K,mg⟩ 2 cj):=by
 refine bf F sr λb A a s H E c=> ?_
 delta jt
 ac_rfl
def kJ:aE ["world","hand","frame","room","deed"] zR (az iL):=eZ
def sN(F:dU K "program_of" "program_of" iL f fd)(B:Bl mg){c:Tok}(d:mg "OWN"=some (.int (-1) c)):bj P w K mg base dA 1 f fd zR (dP ⟨K,mg⟩ 3 eF):=by
 have e:=kJ.nd
 refine bf F kJ λb A a s H E g=> ?_
 delta ju
 ac_rfl
 refine Ju (Gz (i:=3) (j:=4) rfl (by assumption) rfl rfl (by decide) rfl rfl ?_ rfl)
 ac_rfl
end
section
variable{P:Program}{w:World}{K:PySem.W.Frag}{mg:Str->Option Value}{base:Heap}{f:Addr}{fd:FuncData}
def wq:aE xQ xQ (az kU):=eZ
def wa(F:dU K "names_of" "names_of" kU f fd)(B:Bl mg):bj P w K mg base dA 1 f fd xQ (dP ⟨K,mg⟩ 1 dm):=by
 refine bf F wq λb A a s H E c=> ?_
 delta nQ
 ac_rfl
 refine cB (N:= ["row"]) (js:= [none]) (aP.gen rfl rfl rfl rfl rfl rfl) rfl ?_ (λ_ _ _ _=> ?_) (λ_ _ _ _=> ?_) (λ_ _ _ _=> ?_)
 ac_rfl
def xq:aE xp xp (az lN):=eZ
def xK(F:dU K "place_of" "place_of" lN f fd)(B:Bl mg)(d:lA P w K mg base):bj P w K mg base dA 2 f fd xp (dP ⟨K,mg⟩ 2 cy):=by
 refine bf F xq λb A a s H E c=> ?_
 delta nK
 ac_rfl
def u3:aE xh xh (az jy):=eZ
def u4(F:dU K "with_part" "with_part" jy f fd)(B:Bl mg):bj P w K mg base dA 1 f fd xh (dP ⟨K,mg⟩ 3 cG):=by
 refine bf F u3 λb A a s H E c=> ?_
 delta lI
 ac_rfl
def vQ:aE wM wM (az jN):=eZ
def vH(F:dU K "with_hand" "with_hand" jN f fd)(B:Bl mg)(d:fH P w K mg base):bj P w K mg base dA 2 f fd wM (dP ⟨K,mg⟩ 4 d_):=by
 refine bf F vQ λb A a s H E c=> ?_
 delta lH
 ac_rfl
def vt:aE xb xb (az jf):=eZ
def vS(F:dU K "with_room" "with_room" jf f fd)(B:Bl mg)(d:fH P w K mg base):bj P w K mg base dA 2 f fd xb (dP ⟨K,mg⟩ 3 cu):=by
 refine bf F vt λb A a s H E c=> ?_
 delta lj
 ac_rfl
def mF:aE ["world","scene","hand","word","value","room","place","values","shared","frames"] zT (az jC):=eZ
def vR(F:dU K "put_thing" "put_thing" jC f fd)(B:Bl mg)(g:cZ P w K mg base)(l:gg P w K mg base)(j:fH P w K mg base)(h:fD P w K mg base)(m:lA P w K mg base)(k:gJ P w K mg base){c:Tok}(d:mg "OWN"=some (.int (-1) c)):bj P w K mg base dA 3 f fd zT (dP ⟨K,mg⟩ 5 ef):=by
 have e:=mF.nd
 refine bf F mF λb A a s H E i=> ?_
 delta iV
 ac_rfl
def pE:aE xg xg (az gc):=eZ
def pN(F:dU K "value_of_two" "value_of_two" gc f fd)(B:Bl mg){c:Tok}(d:mg "HIGHEST"=some (.int (9) c)):bj P w K mg base dA 1 f fd xg (dP ⟨K,mg⟩ 3 ft):=by
 refine bf F pE λb A a s H E e=> ?_
 delta gR
 ac_rfl
def oX:aE ["tree","things","waiting","first"] tq (az lC):=eZ
theorem pd(F:dU K "value_of" "value_of" lC f fd)(B:Bl mg)(h:q_ P w K mg base)(b:Binds K fd tq [])(c:PySem.W.keepIn K (.ref f)=true)(m:mg "value_of"=some (.ref f)):∀n,bj P w K mg base dA (2+n) f fd tq (dP ⟨K,mg⟩ 3 (e_ n))
 |0=>pZ
 | n+1=>by
   have j:eL P w K mg base (2+n) "value_of" tq (e_ n):=⟨f,fd,pd F B h b c m n,b,c,m⟩
   have i:=oX.nd
   refine bf (k:=2+n) F oX λd A a s H E e=> ?_
   have g:=xf e
   delta ny
   ac_rfl
def oZ:aE ["world","scene","hand","tree","frame","room","things","waiting"] Ah (az lO):=eZ
def wW(F:dU K "reckoned" "reckoned" lO f fd)(B:Bl mg)(i:cZ P w K mg base)(k:lA P w K mg base)(j:y6 P w K mg base){c:Tok}(g:mg "OWN"=some (.int (-1) c)):bj P w K mg base dA 9 f fd Ah (dP ⟨K,mg⟩ 4 cU):=by
 have h:=oZ.nd
 refine bf F oZ λb A a s H E d=> ?_
 have e:=xf d
 delta jT
 ac_rfl
 refine DS (n:=7) (N:= ["bell","line"]) (js:= [none,none]) (aP.gen rfl rfl rfl rfl rfl rfl) rfl ?_ (λ_ _ _ _=> ?_) (λ_ _ _ _=> ?_) (λ_ _ _ _=> ?_) (λ_ _ _ _=> ?_) ?_
 ac_rfl
def AM:aE bu bu (az qI):=eZ
def A6(F:dU K "by_put" "by_put" qI f fd)(B:Bl mg)(e:pe P w K mg base)(c:fq P w K mg base):bj P w K mg base dA 10 f fd bu (dP ⟨K,mg⟩ 4 p8):=by
 refine bf F AM λb A a s H E d=> ?_
 delta vq
 ac_rfl
def fY:aE ["scene","hand","frame","values","frames"] zY (az eO):=eZ
def lK(F:dU K "with_last_frame" "with_last_frame" eO f fd)(B:Bl mg)(e:gJ P w K mg base):bj P w K mg base dA 3 f fd zY (dP ⟨K,mg⟩ 3 cT):=by
 have c:=fY.nd
 refine bf F fY λb A a s H E d=> ?_
 delta fh
 ac_rfl
end
section
variable{P:Program}{w:World}{K:PySem.W.Frag}{mg:Str->Option Value}{base:Heap}{f:Addr}{fd:FuncData}
def sS:aE ["scene","hand","row","frame"] Ap (az qN):=eZ
def Bf(F:dU K "at_row" "at_row" qN f fd)(B:Bl mg)(d:cZ P w K mg base)(g:gA P w K mg base):bj P w K mg base dA 4 f fd Ap (dP ⟨K,mg⟩ 3 iw):=by
 have c:=sS.nd
 refine bf F sS λb A a s H E e=> ?_
 delta um
 ac_rfl
def uT:aE bu bu (az jr):=eZ
def vX(F:dU K "by_unless" "by_unless" jr f fd)(B:Bl mg)(c:fq P w K mg base)(d:qL P w K mg base):bj P w K mg base dA 10 f fd bu (dP ⟨K,mg⟩ 4 iq):=by
 refine bf F uT λb A a s H E e=> ?_
 delta kO
 ac_rfl
def DF:aE bu bu (az vc):=eZ
def Dw(F:dU K "by_go" "by_go" vc f fd)(B:Bl mg)(c:qL P w K mg base):bj P w K mg base dA 5 f fd bu (dP ⟨K,mg⟩ 4 uN):=by
 refine bf F DF λb A a s H E d=> ?_
 delta yw
 ac_rfl
def qP:aE ["scene","room","hand","values","within","row","late","bells"] z9 (az ow):=eZ
def yb(F:dU K "come_in" "come_in" ow f fd)(B:Bl mg)(e:fD P w K mg base){c:Tok}(h:mg "NOBODY"=some (.int (-1) c)):bj P w K mg base dA 3 f fd z9 (dP ⟨K,mg⟩ 3 jK):=by
 have d:=qP.nd
 refine bf F qP λb A a s H E g=> ?_
 delta qz
 ac_rfl
def xx:aE ["world","scene","hand","row","room","deed","frame","values","frames"] bu (az vy):=eZ
def Cb(F:dU K "by_do" "by_do" vy f fd)(B:Bl mg)(h:gg P w K mg base)(d:fq P w K mg base)(i:ua P w K mg base)(g:gJ P w K mg base):bj P w K mg base dA 10 f fd bu (dP ⟨K,mg⟩ 4 vW):=by
 have c:=xx.nd
 refine bf F xx λb A a s H E e=> ?_
 delta yX
 ac_rfl
def qC:aE ["world","scene","hand","word","room"] zA (az ou):=eZ
def yi(F:dU K "bell_of" "bell_of" ou f fd)(B:Bl mg)(d:cZ P w K mg base)(g:gg P w K mg base):bj P w K mg base dA 3 f fd zA (dP ⟨K,mg⟩ 4 g9):=by
 have c:=qC.nd
 refine bf F qC λb A a s H E e=> ?_
 delta rG
 ac_rfl
def mR:aE ["scene","room","bell","line","state"] zW (az ji):=eZ
def vk(F:dU K "with_line" "with_line" ji f fd)(B:Bl mg)(d:fD P w K mg base)(g:fH P w K mg base):bj P w K mg base dA 3 f fd zW (dP ⟨K,mg⟩ 4 dZ):=by
 have c:=mR.nd
 refine bf F mR λb A a s H E e=> ?_
 delta lF
 ac_rfl
def wc:aE ["scene","room","values","within","row","late","bells"] zK (az vJ):=eZ
def C3(F:dU K "leave" "leave" vJ f fd)(B:Bl mg)(e:fD P w K mg base){c:Tok}(h:mg "NOBODY"=some (.int (-1) c)):bj P w K mg base dA 3 f fd zK (dP ⟨K,mg⟩ 2 nV):=by
 have d:=wc.nd
 refine bf F wc λb A a s H E g=> ?_
 delta xY
 ac_rfl
def qo:aE ["world","scene","hand","row","room","bell","turn","line","ahead","waiting"] bu (az nF):=eZ
def zj(F:dU K "by_wait" "by_wait" nF f fd)(B:Bl mg)(i:nR P w K mg base)(d:fq P w K mg base)(h:jh P w K mg base)(e:zX P w K mg base):bj P w K mg base dA 10 f fd bu (dP ⟨K,mg⟩ 4 mQ):=by
 have c:=qo.nd
 refine bf F qo λb A a s H E g=> ?_
 delta qX
 ac_rfl
 refine cB (N:= ["other","waiter","turn"]) (js:= [none,none,some 6]) (aP.gen rfl rfl rfl rfl rfl rfl) rfl ?_ (λ_ _ _ _=> ?_) (λ_ _ _ _=> ?_) (λ_ _ _ _=> ?_)
 ac_rfl
def rN:aE ["world","scene","hand","row","room","bell","line","called","values","within","queue","late","bells"] bu (az oN):=eZ
def yQ(F:dU K "by_call" "by_call" oN f fd)(B:Bl mg)(h:nR P w K mg base)(g:jh P w K mg base)(d:fD P w K mg base):bj P w K mg base dA 4 f fd bu (dP ⟨K,mg⟩ 4 mX):=by
 have c:=rN.nd
 refine bf F rN λb A a s H E e=> ?_
 delta qA
 ac_rfl
def tO:aE ["world","scene","hand","row","room","bell"] bu (az qk):=eZ
def AF(F:dU K "by_all" "by_all" qk f fd)(B:Bl mg)(g:nR P w K mg base)(e:jh P w K mg base):bj P w K mg base dA 4 f fd bu (dP ⟨K,mg⟩ 4 p6):=by
 have c:=tO.nd
 refine bf F tO λb A a s H E d=> ?_
 delta uY
 ac_rfl
end
section
variable{P:Program}{w:World}{K:PySem.W.Frag}{mg:Str->Option Value}{base:Heap}{f:Addr}{fd:FuncData}
def rL:aE ["world","scene","hand","row","told"] bu (az ng):=eZ
def yq(F:dU K "by_tell" "by_tell" ng f fd)(B:Bl mg)(d:fq P w K mg base)(h:gA P w K mg base)(e:cZ P w K mg base):bj P w K mg base dA 10 f fd bu (dP ⟨K,mg⟩ 4 mv):=by
 have c:=rL.nd
 refine bf F rL λb A a s H E g=> ?_
 delta qy
 ac_rfl
def uq:aE xj xj (az je):=eZ
def uS(F:dU K "with_pass" "with_pass" je f fd)(B:Bl mg)(d:fH P w K mg base):bj P w K mg base dA 2 f fd xj (dP ⟨K,mg⟩ 3 eh):=by
 refine bf F uq λb A a s H E c=> ?_
 delta kY
 ac_rfl
def wu:aE ["world","scene","hand","name","place","value","row"] z4 (az vL):=eZ
def Cr(F:dU K "taken" "taken" vL f fd)(B:Bl mg)(g:gg P w K mg base)(d:pq P w K mg base):bj P w K mg base dA 3 f fd z4 (dP ⟨K,mg⟩ 4 ql):=by
 have c:=wu.nd
 refine bf F wu λb A a s H E e=> ?_
 delta yK
 ac_rfl
def yE:aE bu bu (az nX):=eZ
def zd(F:dU K "by_take" "by_take" nX f fd)(B:Bl mg)(d:zt P w K mg base):bj P w K mg base dA 4 f fd bu (dP ⟨K,mg⟩ 4 mL):=by
 refine bf F yE λb A a s H E c=> ?_
 delta qv
 ac_rfl
def kA:aE ["world","scene","name","place","value","row"] Ai (az iA):=eZ
def sP(F:dU K "given_back" "given_back" iA f fd)(B:Bl mg)(i:gg P w K mg base)(g:pq P w K mg base){c:Tok}(e:mg "HIGHEST"=some (.int (9) c)):bj P w K mg base dA 3 f fd Ai (dP ⟨K,mg⟩ 3 fE):=by
 have d:=kA.nd
 refine bf F kA λb A a s H E h=> ?_
 delta jG
 ac_rfl
def yz:aE bu bu (az oB):=eZ
def x8(F:dU K "by_give" "by_give" oB f fd)(B:Bl mg)(c:mG P w K mg base):bj P w K mg base dA 4 f fd bu (dP ⟨K,mg⟩ 4 mq):=by
 refine bf F yz λb A a s H E d=> ?_
 delta rX
 ac_rfl
def yy:aE bu bu (az oG):=eZ
def yu(F:dU K "by_pass" "by_pass" oG f fd)(B:Bl mg)(e:zt P w K mg base)(c:mG P w K mg base):bj P w K mg base dA 4 f fd bu (dP ⟨K,mg⟩ 4 mH):=by
 refine bf F yy λb A a s H E d=> ?_
 delta qx
 ac_rfl
def Bn:aE bu bu (az qS):=eZ
def A7(F:dU K "by_say" "by_say" qS f fd)(B:Bl mg):bj P w K mg base dA 1 f fd bu (dP ⟨K,mg⟩ 4 qd):=by
 refine bf F Bn λb A a s H E c=> ?_
 delta vo
 ac_rfl
def o7:aE ["world","scene","hand","row","deed"] bu (az kR):=eZ
def xP(F:dU K "row_done" "row_done" kR f fd)(B:Bl mg)(g:∀x F,r_.lookup x=some F->eL P w K mg base 10 x bu F)(e:zu P w K mg "DONE_BY" jY):bj P w K mg base dA 11 f fd bu (dP ⟨K,mg⟩ 4 ia):=by
 have c:=o7.nd
 refine bf F o7 λb A a s H E d=> ?_
 exact(DN (Jj 4 c (Ff e rfl (Ky (v_ 3) Jo) (λ_ _=>rfl)))
  (FH (HZ (D3 g (d.mono (by decide)) rfl (by first|exact Or.inl rfl|exact Or.inr (Or.inl rfl)) (iG (v_ 0) (iG (v_ 1) (iG (v_ 2) (iG (v_ 3) rC)))) (gF (gF (gF (gF rS))))))))
def oP:aE ["world","scene","hand","values","frames","room","deed","row","given","told","outside","came_by"] fI (az lD):=eZ
def wB(F:dU K "end_deed" "end_deed" lD f fd)(B:Bl mg)(h:gJ P w K mg base)(e:zX P w K mg base)(c:iy P w K mg base)(i:pe P w K mg base):bj P w K mg base dA 4 f fd fI (dP ⟨K,mg⟩ 3 ie):=by
 have d:=oP.nd
 refine bf F oP λb A a s H E g=> ?_
 delta nz
 ac_rfl
def rM:aE ["world","scene","hand","frame","room","program","row","event"] fI (az oJ):=eZ
def yA(F:dU K "step_of" "step_of" oJ f fd)(B:Bl mg)(d:cZ P w K mg base)(g:ua P w K mg base)(k:iy P w K mg base)(n:zq P w K mg base)(m:fq P w K mg base)(i:zo P w K mg base)(e:qL P w K mg base){b:Tok}(j:mg "OWN"=some (.int (-1) b)):bj P w K mg base dA 12 f fd fI (dP ⟨K,mg⟩ 3 mZ):=by
 have h:=rM.nd
 refine bf F rM λc A a s H E l=> ?_
 delta jb
 ac_rfl
def xt:aE wY wY (az k9):=eZ
def xT(F:dU K "hands_at" "hands_at" k9 f fd)(B:Bl mg):bj P w K mg base dA 1 f fd wY (dP ⟨K,mg⟩ 1 j3):=by
 refine bf F xt λb A a s H E c=> ?_
 delta oy
 ac_rfl
 refine cB (N:= ["turn","hand"]) (js:= [none,none]) (aP.gen rfl rfl rfl rfl rfl rfl) rfl ?_ (λ_ _ _ _=> ?_) (λ_ _ _ _=> ?_) (λ_ _ _ _=> ?_)
 ac_rfl
def g6:aE ["scene","hands","value","row","values","within","late","bells","line"] Ak (az fN):=eZ
def nj(F:dU K "hands_in_rows" "hands_in_rows" fN f fd)(B:Bl mg)(d:yL P w K mg base):bj P w K mg base dA 2 f fd Ak (dP ⟨K,mg⟩ 1 dC):=by
 have c:=g6.nd
 refine bf F g6 λb A a s H E e=> ?_
 delta fZ
 ac_rfl
end
section
variable{P:Program}{w:World}{K:PySem.W.Frag}{mg:Str->Option Value}{base:Heap}{f:Addr}{fd:FuncData}
def g7:aE ["world","scene","hand","frame"] fI (az fQ):=eZ
def nH(F:dU K "is_behind_all" "is_behind_all" fQ f fd)(B:Bl mg)(g:cZ P w K mg base)(e:iy P w K mg base){c:Tok}(d:mg "OWN"=some (.int (-1) c)):bj P w K mg base dA 2 f fd fI (dP ⟨K,mg⟩ 3 eR):=by
 have h:=g7.nd
 refine bf F g7 λb A a s H E i=> ?_
 delta f_
 ac_rfl
def ph:aE ["world","scene","held_up"] zF (az kQ):=eZ
def xw(F:dU K "may_step" "may_step" kQ f fd)(B:Bl mg)(e:pG P w K mg base)(g:pL P w K mg base):bj P w K mg base dA 3 f fd zF (dP ⟨K,mg⟩ 2 j8):=by
 have c:=ph.nd
 refine bf F ph λb A a s H E d=> ?_
 delta nN
 ac_rfl
 refine cB (N:= ["hand","world","scene","held_up"]) (js:= [none,some 0,some 1,some 2]) (aP.gen rfl rfl rfl rfl rfl rfl) rfl ?_ (λ_ _ _ _=> ?_) (λ_ _ _ _=> ?_) (λ_ _ _ _=> ?_)
 ac_rfl
def zi:aE fI fI (az oz):=eZ
def yZ(F:dU K "stepped" "stepped" oz f fd)(B:Bl mg)(e:yr P w K mg base)(c:Bh P w K mg base):bj P w K mg base dA 13 f fd fI (dP ⟨K,mg⟩ 3 mw):=by
 refine bf F zi λb A a s H E d=> ?_
 delta rj
 ac_rfl
def vZ:aE yI yI (az jg):=eZ
theorem mr(F:dU K "_law_same" "_law_same" jg f fd)(B:Bl mg)(b:Binds K fd yI [])(c:PySem.W.keepIn K (.ref f)=true)(m:mg "_law_same"=some (.ref f)):∀n,bj P w K mg base dA (1+n) f fd yI (dP ⟨K,mg⟩ 2 (fc n))
 |0=>pZ
 | n+1=>by
   have g:eL P w K mg base (1+n) "_law_same" yI (fc n):=⟨f,fd,mr F B b c m n,b,c,m⟩
   refine bf (k:=1+n) F vZ λd A a s H E e=> ?_
   delta fj
   ac_rfl
   refine cB (N:= ["_law_one","_law_other"]) (js:= [none,none]) (aP.gen rfl rfl rfl rfl rfl rfl) rfl ?_ (λ_ _ _ _=> ?_) (λ_ _ _ _=> ?_) (λ_ _ _ _=> ?_)
   ac_rfl
def C5:aE ["_law_script","_law_k","_law_pot_here","_law_world_here","_law_many","_law_values","_law_spots","_law_scene_here","_law_last","_law_turn","_law_some","_law_ahead","_law_event_here","_law_found","_law_due"] Cs (az mf):=eZ
def Ga(F:dU K "law" "law" mf f fd)(B:Bl mg)(d:yR P w K mg base)(o:vO P w K mg base)(e:EZ P w K mg base)(g:wU P w K mg base)(h:uI P w K mg base)(k:ve P w K mg base)(i:Bm P w K mg base)(m:xO P w K mg base):bj P w K mg base dA 14 f fd Cs (dP ⟨K,mg⟩ 1 Ef):=by
 have j:=C5.nd
 refine bf F C5 λb A a s H E c=> ?_
 have l:=c.units0
 delta FP
 ac_rfl
 refine cB (N:= ["_law_things","_law_program_here"]) (js:= [none,none]) (aP.gen rfl rfl rfl rfl rfl rfl) rfl ?_ (λ_ _ _ _=> ?_) (λ_ _ _ _=> ?_) (λ_ _ _ _=> ?_)
 ac_rfl
 refine Az (n:=10) (N:= ["_law_own","_law_world_here","_law_spots"]) (js:= [none,some 3,some 6]) (aP.gen rfl rfl rfl rfl rfl rfl) rfl ?_ (λ_ _ _ _=> ?_) (λ_ _ _ _=> ?_) (λ_ _ _ _=> ?_) ?_
 ac_rfl
end
def all_mk{l:PySem.W.OpenLaw}{w:World}{K:PySem.W.Frag}{h:Heap}{mg:Str->Option Value}{fa f1 f2 f3 f4 f5 f6 f7 f8 f9 m0 o5 e8 e3 q4 b2 n7 o1 h7 c8 r5 a3 h3 p0 f0 q3 I n9 h6 r a1 r1 z n2 p4 l3 H n Q o d0 q6 t r6 R N y b6 r0 j5 m2 k1 k5 h9 r2 e7 c:Addr}(X:K.In h)(G:h.Ns mainGlobals mg)(e4:mg "law"=some (.ref fa))
  (d1:aZ K "_law_pot" k_ f1)
  (d2:aZ K "_law_take" jP f2)
  (d3:aZ K "_law_words" iJ f3)
  (d4:aZ K "_law_pick" jm f4)
  (d5:aZ K "_law_sum" lz f5)
  (d6:aZ K "_law_program" gd f6)
  (d7:aZ K "_law_world" iU f7)
  (d8:aZ K "values_of" jx f8)
  (d9:aZ K "begun_room" iC f9)
  (r7:aZ K "begun" vj m0)
  (a7:aZ K "_law_next" jQ o5)
  (i1:aZ K "_law_scene" iS e8)
  (a4:aZ K "_law_value" iM e3)
  (q1:aZ K "_law_event" iD q4)
  (s0:aZ K "last_frame" iz b2)
  (o3:aZ K "program_of" iL n7)
  (e2:aZ K "names_of" kU o1)
  (a5:aZ K "place_of" lN h7)
  (e6:aZ K "with_part" jy c8)
  (l6:aZ K "with_hand" jN r5)
  (k6:aZ K "with_room" jf a3)
  (h1:aZ K "put_thing" jC h3)
  (b4:aZ K "value_of_two" gc p0)
  (c6:aZ K "value_of" lC f0)
  (r4:aZ K "reckoned" lO q3)
  (l0:aZ K "by_put" qI I)
  (b3:aZ K "with_last_frame" eO n9)
  (m1:aZ K "at_row" qN h6)
  (i5:aZ K "by_unless" jr r)
  (g2:aZ K "by_go" vc a1)
  (c1:aZ K "come_in" ow r1)
  (k4:aZ K "by_do" vy z)
  (q9:aZ K "bell_of" ou n2)
  (h5:aZ K "with_line" ji p4)
  (e9:aZ K "leave" vJ l3)
  (a6:aZ K "by_wait" nF H)
  (p9:aZ K "by_call" oN n)
  (q2:aZ K "by_all" qk Q)
  (n8:aZ K "by_tell" ng o)
  (l1:aZ K "with_pass" je d0)
  (b8:aZ K "taken" vL q6)
  (o6:aZ K "by_take" nX t)
  (r3:aZ K "given_back" iA r6)
  (l9:aZ K "by_give" oB R)
  (c2:aZ K "by_pass" oG N)
  (g1:aZ K "by_say" qS y)
  (k7:aZ K "row_done" kR b6)
  (n0:aZ K "end_deed" lD r0)
  (o4:aZ K "step_of" oJ j5)
  (l5:aZ K "hands_at" k9 m2)
  (c3:aZ K "hands_in_rows" fN k1)
  (b7:aZ K "is_behind_all" fQ k5)
  (e5:aZ K "may_step" kQ h9)
  (c0:aZ K "stepped" oz r2)
  (n3:aZ K "_law_same" jg e7)
  {oc kV dc pm cd ct:Value} {od an:Option Addr} {sl:Array (Option Value)} (i2:PySem.W.nsIn K mainGlobals "law"=some (some (.ref c))) (b0:K.lookup c=some ⟨oc,od,.func (PySem.W.fnOf "law" "law" (fV mf) (eV mf) (az mf) .none kV dc pm an cd ct),sl⟩) (k3:PySem.W.codeIn K cd "law"=true) (a8:PySem.W.keepIn K (.ref c)=true)
  {gk:Tok} (BW:PySem.W.nsIn K mainGlobals "NOBODY"=some (some (.int (-1) gk)))
  {il:Tok} (IK:PySem.W.nsIn K mainGlobals "OWN"=some (some (.int (-1) il)))
  {hV:Tok} (Bz:PySem.W.nsIn K mainGlobals "HIGHEST"=some (some (.int (9) hV)))
  {tU yV:Nat} {vN vz u9 vf uF vT uJ uK uO uw sG sA:Tok} (AI:PySem.W.nsIn K mainGlobals "DONE_BY"=some (some (.ref tU))) (ze:K.lookup tU=some ⟨.type "dict",none,.dict (List.toArray [⟨PyData.keyHash w.params "put",.str "put" vN,.ref I⟩,⟨PyData.keyHash w.params "unless",.str "unless" vz,.ref r⟩,⟨PyData.keyHash w.params "go",.str "go" u9,.ref a1⟩,⟨PyData.keyHash w.params "do",.str "do" vf,.ref z⟩,⟨PyData.keyHash w.params "wait",.str "wait" uF,.ref H⟩,⟨PyData.keyHash w.params "call",.str "call" vT,.ref n⟩,⟨PyData.keyHash w.params "all",.str "all" uJ,.ref Q⟩,⟨PyData.keyHash w.params "tell",.str "tell" uK,.ref o⟩,⟨PyData.keyHash w.params "take",.str "take" uO,.ref t⟩,⟨PyData.keyHash w.params "give",.str "give" uw,.ref R⟩,⟨PyData.keyHash w.params "pass",.str "pass" sG,.ref N⟩,⟨PyData.keyHash w.params "say",.str "say" sA,.ref y⟩]) yV,#[]⟩)
  (HW:PySem.W.nsIn K mainGlobals "len"=some none) (EL:PySem.W.nsIn K mainGlobals "tuple"=some none) (G4:PySem.W.nsIn K mainGlobals "list"=some none) (Gc:PySem.W.nsIn K mainGlobals "dict"=some none) (IB:PySem.W.nsIn K mainGlobals "set"=some none) (Ja:PySem.W.nsIn K mainGlobals "int"=some none) (JB:PySem.W.nsIn K mainGlobals "str"=some none) (GJ:PySem.W.nsIn K mainGlobals "bool"=some none) (Je:PySem.W.nsIn K mainGlobals "all"=some none) (HV:PySem.W.nsIn K mainGlobals "any"=some none) (EX:PySem.W.nsIn K mainGlobals "range"=some none) (Iq:PySem.W.nsIn K mainGlobals "zip"=some none) (Ca:PySem.W.nsIn K mainGlobals "sorted"=some none) (vV:PySem.W.nsIn K mainGlobals "isinstance"=some none) (IS:PySem.W.nsIn K mainGlobals "min"=some none) (Jq:PySem.W.nsIn K mainGlobals "max"=some none) (Ir:PySem.W.nsIn K mainGlobals "abs"=some none) (xB:PySem.W.nsIn K mainGlobals "enumerate"=some none) (zr:PySem.W.nsIn K mainGlobals "reversed"=some none)
  (T:∀ns:List Int,ns.length<=63->∃S',Ef [.ref 0] [.frz (ns.map D.int)]=some (.d (.bl true),S')):
  ∃fd:FuncData,(∀(s:Shared) (v:Value),BindsTo s fd ⟨[v],[]⟩ [("_law_script",v)])/\∀base:Heap,K.In base->base.Ns mainGlobals mg->bj l.prog w K mg base dA 14 fa fd Cs xl:=by
 have e:=e4.symm.trans (PySem.W.mg_of X G i2)
 cases e
 have p2:=zf (st:=mf) b0 k3 a8
 have O1:=d1.ok1 (ps:=Ae) X G
 have O2:=d2.ok1 (ps:=Ea) X G
 have O3:=d3.ok1 (ps:=zZ) X G
 have O4:=d4.ok1 (ps:=xM) X G
 have O5:=d5.ok1 (ps:=t7) X G
 have O6:=d6.ok1 (ps:=zV) X G
 have O7:=d7.ok1 (ps:=As) X G
 have O8:=d8.ok1 (ps:=xr) X G
 have O9:=d9.ok1 (ps:=xU) X G
 have o2:=r7.ok1 (ps:=zE) X G
 have b1:=a7.ok1 (ps:=CZ) X G
 have j1:=i1.ok1 (ps:=Aa) X G
 have q7:=a4.ok1 (ps:=sU) X G
 have e0:=q1.ok1 (ps:=Af) X G
 have e1:=s0.ok1 (ps:=we) X G
 have n4:=o3.ok1 (ps:=zR) X G
 have c4:=e2.ok1 (ps:=xQ) X G
 have o0:=a5.ok1 (ps:=xp) X G
 have n6:=e6.ok1 (ps:=xh) X G
 have l2:=l6.ok1 (ps:=wM) X G
 have j4:=k6.ok1 (ps:=xb) X G
 have n5:=h1.ok1 (ps:=zT) X G
 have g0:=b4.ok1 (ps:=xg) X G
 have p1:=c6.ok1 (ps:=tq) X G
 have g4:=r4.ok1 (ps:=Ah) X G
 have P:=l0.ok1 (ps:=bu) X G
 have i7:=b3.ok1 (ps:=zY) X G
 have b5:=m1.ok1 (ps:=Ap) X G
 have C:=i5.ok1 (ps:=bu) X G
 have a0:=g2.ok1 (ps:=bu) X G
 have h8:=c1.ok1 (ps:=z9) X G
 have j:=k4.ok1 (ps:=bu) X G
 have h0:=q9.ok1 (ps:=zA) X G
 have l7:=h5.ok1 (ps:=zW) X G
 have h4:=e9.ok1 (ps:=zK) X G
 have U:=a6.ok1 (ps:=bu) X G
 have M:=p9.ok1 (ps:=bu) X G
 have q:=q2.ok1 (ps:=bu) X G
 have a2:=n8.ok1 (ps:=bu) X G
 have l4:=l1.ok1 (ps:=xj) X G
 have c5:=b8.ok1 (ps:=z4) X G
 have A:=o6.ok1 (ps:=bu) X G
 have p3:=r3.ok1 (ps:=Ai) X G
 have L:=l9.ok1 (ps:=bu) X G
 have Y:=c2.ok1 (ps:=bu) X G
 have S:=g1.ok1 (ps:=bu) X G
 have k8:=k7.ok1 (ps:=bu) X G
 have g3:=n0.ok1 (ps:=fI) X G
 have h2:=o4.ok1 (ps:=fI) X G
 have q5:=l5.ok1 (ps:=wY) X G
 have n1:=c3.ok1 (ps:=Ak) X G
 have c7:=b7.ok1 (ps:=fI) X G
 have k2:=e5.ok1 (ps:=zF) X G
 have q8:=c0.ok1 (ps:=fI) X G
 have a9:=n3.ok1 (ps:=yI) X G
 have ik:=PySem.W.mg_of X G BW
 have f:=PySem.W.mg_of X G IK
 have jX:=PySem.W.mg_of X G Bz
 have ni:zu l.prog w K mg "DONE_BY" jY:=CM (PySem.W.mg_of X G AI) ze (.cons P.m (.cons C.m (.cons a0.m (.cons j.m (.cons U.m (.cons M.m (.cons q.m (.cons a2.m (.cons A.m (.cons L.m (.cons Y.m (.cons S.m .nil)))))))))))) (by decide +kernel)
 have B:Bl mg:=⟨QFq X G HW,QFq X G EL,QFq X G G4,QFq X G Gc,QFq X G IB,QFq X G Ja,QFq X G JB,QFq X G GJ,QFq X G Je,QFq X G HV,QFq X G EX,QFq X G Iq,QFq X G Ca,QFq X G vV,QFq X G IS,QFq X G Jq,QFq X G Ir,QFq X G xB,QFq X G zr⟩
 refine⟨PySem.W.fnOf "law" "law" (fV mf) (eV mf) (az mf) .none kV dc pm an cd ct,λs v=>.of_eq rfl,λbase _ _=> ?_⟩
 have Z:Pk l.prog w base:=⟨⟩
 have rD:=O1.cal Z λ_ F _ _ _=>xJ F B
 have g:=O2.cal Z λ_ F _ _ _=>uM F B
 have my:=O3.cal Z λ_ F _ _ _=>sk F B g
 have dz:=O4.cal Z λ_ F _ _ _=>uA F B g
 have lX:=O5.cal Z λ_ F b k m=>pk F B g dz b k m 4
 have jc:=O6.cal Z λ_ F _ _ _=>pJ F B g lX dz
 have mh:=O7.cal Z λ_ F _ _ _=>sJ F B my g jc
 have gG:=O8.cal Z λ_ F _ _ _=>vh F B
 have me:=O9.cal Z λ_ F _ _ _=>sL F B gG ik
 have zU:=o2.cal Z λ_ F _ _ _=>CN F B gG me f
 have oT:=b1.cal Z λ_ F _ _ _=>uz F B g dz
 have mU:=j1.cal Z λ_ F _ _ _=>sE F B
 have ip:=q7.cal Z λ_ F b k m=>kL F B b k m 5
 have mN:=e0.cal Z λ_ F _ _ _=>sD F B ip
 have a:=e1.cal Z λ_ F _ _ _=>su F B
 have dF:=n4.cal Z λ_ F _ _ _=>sN F B f
 have fg:=c4.cal Z λ_ F _ _ _=>wa F B
 have u:=o0.cal Z λ_ F _ _ _=>xK F B fg
 have J:=n6.cal Z λ_ F _ _ _=>u4 F B
 have cY:=l2.cal Z λ_ F _ _ _=>vH F B J
 have cm:=j4.cal Z λ_ F _ _ _=>vS F B J
 have gB:=n5.cal Z λ_ F _ _ _=>vR F B a u J cm fg cY f
 have gw:=g0.cal Z λ_ F _ _ _=>pN F B jX
 have lZ:=p1.cal Z λ_ F b k m=>pd F B gw b k m 6
 have i:=g4.cal Z λ_ F _ _ _=>wW F B a fg lZ f
 have C2:=P.cal Z λ_ F _ _ _=>A6 F B gB i
 have dt:=i7.cal Z λ_ F _ _ _=>lK F B cY
 have ij:=b5.cal Z λ_ F _ _ _=>Bf F B a dt
 have xv:=C.cal Z λ_ F _ _ _=>vX F B i ij
 have D1:=a0.cal Z λ_ F _ _ _=>Dw F B ij
 have j6:=h8.cal Z λ_ F _ _ _=>yb F B cm ik
 have Eg:=j.cal Z λ_ F _ _ _=>Cb F B u i j6 cY
 have fX:=h0.cal Z λ_ F _ _ _=>yi F B a u
 have eE:=l7.cal Z λ_ F _ _ _=>vk F B cm J
 have pU:=h4.cal Z λ_ F _ _ _=>C3 F B cm ik
 have A1:=U.cal Z λ_ F _ _ _=>zj F B fX i eE pU
 have A5:=M.cal Z λ_ F _ _ _=>yQ F B fX eE cm
 have CB:=q.cal Z λ_ F _ _ _=>AF F B fX eE
 have A4:=a2.cal Z λ_ F _ _ _=>yq F B i dt a
 have gI:=l4.cal Z λ_ F _ _ _=>uS F B J
 have p7:=c5.cal Z λ_ F _ _ _=>Cr F B u gI
 have BF:=A.cal Z λ_ F _ _ _=>zd F B p7
 have fT:=p3.cal Z λ_ F _ _ _=>sP F B u gI jX
 have BA:=L.cal Z λ_ F _ _ _=>x8 F B fT
 have AW:=Y.cal Z λ_ F _ _ _=>yu F B p7 fT
 have Dy:=S.cal Z λ_ F _ _ _=>A7 F B
 have r8:∀x F,r_.lookup x=some F->eL l.prog w K mg base 10 x bu F:=by
  refine B5 λp hp=> ?_
  simp only[r_,Qsq,QXq,or_false] at hp
  rcases hp with rfl|rfl|rfl|rfl|rfl|rfl|rfl|rfl|rfl|rfl|rfl|rfl
  ·exact C2.mono (by decide)
  ·exact xv.mono (by decide)
  ·exact D1.mono (by decide)
  ·exact Eg.mono (by decide)
  ·exact A1.mono (by decide)
  ·exact A5.mono (by decide)
  ·exact CB.mono (by decide)
  ·exact A4.mono (by decide)
  ·exact BF.mono (by decide)
  ·exact BA.mono (by decide)
  ·exact AW.mono (by decide)
  ·exact Dy.mono (by decide)
 have rP:=k8.cal Z λ_ F _ _ _=>xP F B r8 ni
 have qY:=g3.cal Z λ_ F _ _ _=>wB F B cY pU dF gB
 have sQ:=h2.cal Z λ_ F _ _ _=>yA F B a j6 dF qY i rP ij f
 have qh:=q5.cal Z λ_ F _ _ _=>xT F B
 have iX:=n1.cal Z λ_ F _ _ _=>nj F B qh
 have iY:=c7.cal Z λ_ F _ _ _=>nH F B a dF f
 have qM:=k2.cal Z λ_ F _ _ _=>xw F B iX iY
 have t6:=q8.cal Z λ_ F _ _ _=>yZ F B qM sQ
 have jq:=a9.cal Z λ_ F b k m=>mr F B b k m 10
 exact Em (Ga p2 B rD mh zU oT mU mN t6 jq) T
end W28
namespace DL
open PySem PySem.Spec L2
def nU{a:cz}{S:aA}{Q:Bool->aA->Prop}(q:Q true S):E cM a S Q:=⟨_,_,rfl,q⟩
section
variable{S:aA}
def FD{i j:Int}{Q:D->Prop}(q:Q (.int (i+j))):Op (bO S (.int i) (.int j)) Q:=⟨_,rfl,q⟩
def FU{i j:Str}{Q:D->Prop}(h:i.length+j.length<=sizeLine)(q:Q (.str (i++j))):Op (bO S (.str i) (.str j)) Q:=⟨_,by simp only[bO];rw[Qhq h],q⟩
def dr{i j:List D}{Q:D->Prop}(h:i.length+j.length<=sizeLine)(q:Q (.tup (i++j))):Op (bO S (.tup i) (.tup j)) Q:=⟨_,by simp only[bO];rw[Qhq h],q⟩
def oq{k:Int->Int->D}{i j:Int}{Q:D->Prop}(q:Q (k i j)):Op (intD (λ_ _=>True) k S (.int i) (.int j)) Q:=⟨_,by simp only[intD,if_true],q⟩
def qT{i j:Int}{Q:D->Prop}(h:0<j)(q:Q (.int (i%j))):Op (pA S (.int i) (.int j)) Q:=⟨_,by simp only[pA,intD];rw[Qhq h],q⟩
def Dj{i j:Int}{Q:D->Prop}(h:Cf i j)(q:Q (.int (i/j))):Op (xo S (.int i) (.int j)) Q:=⟨_,by simp only[xo,intD];rw[Qhq h],q⟩
def tV{i j:Int}{Q:D->Prop}(h:EN i j)(q:Q (.int (i*j))):Op (lE S (.int i) (.int j)) Q:=⟨_,by simp only[lE,intD];rw[Qhq h.ok],q⟩
def aw{ds:List D}{i:Int}{d:D}{Q:D->Prop}(h:k0 ds i=some d)(q:Q d):Op (ki S (.tup ds) (.int i)) Q:=⟨_,h,q⟩
def dM{k:Nat}{ds:List D}{i:Int}{d:D}{Q:D->Prop}(a:S[k]?=some (.lst ds))(h:k0 ds i=some d)(q:Q d):Op (ki S (.ref k) (.int i)) Q:=⟨_,by simp only[ki,a];exact h,q⟩
def dX{ds:List D}{Q:List D×Tag->Prop}(q:Q (ds,.tu)):Op (q0 S (.tup ds)) Q:=⟨_,rfl,q⟩
def eP{k:Nat}{ds:List D}{Q:List D×Tag->Prop}(a:S[k]?=some (.lst ds))(q:Q (ds,.st k)):Op (q0 S (.ref k)) Q:=⟨_,by simp only[q0,a],q⟩
def Kj{α:Type}{o:Option α}{d:α}{Q:α->Prop}(h:o=some d)(q:Q d):Op o Q:=⟨d,h,q⟩
end
def aH{b:Bool}{p q:Prop}(c:b=true->p)(a:b=false->q):if b=true then p else q:=by
 cases b with
 |true=>exact c rfl
 |false=>exact a rfl
end DL
local macro_rules|`(tactic|injection $n:num)=>do
 let k:=n.getNat
 if k<6 then `(tactic|injection $(Lean.Syntax.mkNumLit (toString (k+1)))) else Lean.Macro.throwError ""
local macro_rules|`(tactic|injection $n:num)=>do
 let k:=n.getNat
 if k=6 then `(tactic|first|((with_reducible refine DL.aB (d := ?_) ?_ ?_); rotate_left; rfl)|dsimp only) else
 let mut a:Array (Lean.TSyntax `Lean.Parser.Tactic.tacticSeq):= #[]
 for s in ((["aS","bV","eG","Li","kq","GP","sC","bC","LH","cO","gV","aL","bT","g8","J0","tW","CH","jn","vE","LG","qp","ue","zQ","gh","J1","eA","FJ","CJ","lT","mB","Jz","nU","aY","HL","xN","w5","FD","oq","dX"]:List String).drop (7*k)).take 7 do a:=a.push (←`(tacticSeq|refine $(Lean.mkIdent (.str (.str .anonymous "DL") s)) ?_))
 `(tactic|with_reducible first $[| $a]*)
local macro_rules|`(tactic|symm)=>`(tactic|repeat injection 0)
local macro_rules|`(tactic|apply $e)=>`(tactic|(refine $e;symm))
namespace W28
open PySem PySem.Spec L2 DL
def mi(a b c:Int):O:=.lst [.int a,.int b,.int c]
def AG{S:aA}{k:Nat}{a b r m:Int}{Q:Res->aA->Prop}(e:S[k]?=some (mi a b r))(g:0<m)(u:m<1000000)
  (h:∀(d q n l:Int),0<=d->d<m->Q (.d (.int d)) (S.set k (mi q n l))):Fn aG [.ref k,.int m] S Q:=by
 have p:k<S.length:=(gQs.mp e).1
 have j:∀(o:O),(S.set k o).take S.length=S.set k o:=λo=>by rw[List.take_of_length_le];simp
 refine bF ?_
 unfold lg
 symm
 refine dM e rfl ?_
 symm
 refine aH (λc=> ?_) (λc=> ?_)
 ·symm
  refine dM e rfl ?_
  symm
  refine qT g ?_
  symm
  refine dM e rfl ?_
  symm
  refine Dj ⟨g,by omega⟩ ?_
  symm
  refine⟨_,_,_,_,rfl,rfl,e,rfl,?_⟩
  symm
  refine fe (nJ (by rfl)) (j _) (λ_ z=>by cases z) rfl ?_
  exact h _ _ _ _ (Int.emod_nonneg _ (by omega)) (Int.emod_lt_of_pos _ g)
 ·symm
  refine⟨_,_,_,_,rfl,rfl,e,by decide,rfl,?_⟩
  symm
  refine⟨_,_,_,rfl,e,rfl,?_⟩
  have i:∀o:O,(S.set k o)[k]?=some o:=λo=>by rw[Qyq p]
  symm
  refine dM (i _) rfl ?_
  symm
  refine tV (.inr ⟨by decide,by decide⟩) ?_
  symm
  refine dM (i _) rfl ?_
  refine tV (.inl ⟨by decide,by decide⟩) ?_
  symm
  refine qT (by decide) ?_
  generalize f:(b*69069+9973*_+5)%2305843009213693921=mx
  have t:0<=mx:=by rw[←f];exact Int.emod_nonneg _ (by decide)
  have s:mx<2305843009213693921:=by rw[←f];exact Int.emod_lt_of_pos _ (by decide)
  symm
  refine qT (by decide) ?_
  symm
  refine dM (i _) rfl ?_
  refine tV (.inl ⟨by decide,by decide⟩) ?_
  symm
  refine tV (.inl ⟨by omega,by omega⟩) ?_
  symm
  refine qT (by decide) ?_
  symm
  refine⟨_,_,_,_,rfl,rfl,i _,rfl,?_⟩
  symm
  refine dM (by rw[List.set_set];exact i _) rfl ?_
  symm
  refine Dj ⟨by decide,by decide⟩ ?_
  symm
  refine qT g ?_
  symm
  rw[List.set_set]
  refine fe (nJ (by rfl)) (j _) (λ_ z=>by cases z) rfl ?_
  exact h _ _ _ _ (Int.emod_nonneg _ (by omega)) (Int.emod_lt_of_pos _ g)
structure Ex(k:Nat)(S S':aA):Prop where
 len:S.length<=S'.length
 keep:∀(j:Nat) (o:O),j≠k->S[j]?=some o->S'[j]?=some o
 pot:∃a b c,S'[k]?=some (mi a b c)
def Ex.refl{k:Nat}{S:aA}{a b c:Int}(h:S[k]?=some (mi a b c)):Ex k S S:=⟨Qmq _,λ_ _ _ h=>h,_,_,_,h⟩
def Ex.trans{k:Nat}{S S1 S2:aA}(x:Ex k S S1)(y:Ex k S1 S2):Ex k S S2:=⟨QAq x.len y.len,λj o n h=>y.keep j o n (x.keep j o n h),y.pot⟩
def Ex.set{k:Nat}{S S1:aA}{a b c:Int}(x:Ex k S S1):Ex k S (S1.set k (mi a b c)):=by
 obtain⟨_,_,_,h⟩:=x.pot
 refine⟨by simpa using x.len,λj o n h=> ?_,a,b,c,Qyq (gQs.mp h).1⟩
 rw[QKq (Ne.symm n)]
 exact x.keep j o n h
def Ex.app{k:Nat}{S S1 G:aA}(x:Ex k S S1):Ex k S (S1++G):=by
 obtain⟨a,b,c,h⟩:=x.pot
 refine⟨by rw[lQa];have:=x.len;omega,λj o n h=> ?_,a,b,c,?_⟩
 ·have:=x.keep j o n h
  rw[QHq (gQs.mp this).1]
  exact this
 ·rw[QHq (gQs.mp h).1]
  exact h
def Ex.put{k r:Nat}{S S1:aA}{o:O}(x:Ex k S S1)(g:S.length<=r)(e:k<S.length):Ex k S (S1.set r o):=by
 obtain⟨a,b,c,h⟩:=x.pot
 refine⟨by simpa using x.len,λj d n h=> ?_,a,b,c,?_⟩
 ·have f:=(gQs.mp h).1
  rw[QKq (by omega)]
  exact x.keep j d n h
 ·rw[QKq (by omega)]
  exact h
def Ex.lt{k:Nat}{S S1:aA}(x:Ex k S S1):k<S1.length:=by
 obtain⟨a,b,c,h⟩:=x.pot
 exact(gQs.mp h).1
def cb{S G:aA}{j:Nat}{o:O}(h:S[j]?=some o):(S++G)[j]?=some o:=by
 rw[QHq (gQs.mp h).1]
 exact h
def bh{S:aA}{o:O}:(S++ [o])[S.length]?=some o:=by simp
def Cn{S:aA}{k j:Nat}{o a:O}(n:j≠k)(h:S[j]?=some o):(S.set k a)[j]?=some o:=by
 rw[QKq (Ne.symm n)]
 exact h
def qG{S:aA}{j:Nat}{o a:O}(h:S[j]?=some o):(S.set j a)[j]?=some a:=Qyq (gQs.mp h).1
def Ex.clean{k:Nat}{S f:aA}(x:Ex k S f)(l:k<S.length):ku S f/\∃a b c,f.take S.length=S.set k (mi a b c):=by
 obtain⟨a,b,c,h⟩:=x.pot
 have g:∀j,j<S.length->f[j]?=(S.set k (mi a b c))[j]? :=λj d=>by
  by_cases e:j=k
  ·subst e
   rw[h,Qyq d]
  ·rw[QKq (Ne.symm e),x.keep j _ e (gQe d),gQe d]
 refine⟨⟨x.len,λj o d e=> ?_⟩,a,b,c,?_⟩
 ·by_cases i:j=k
  ·subst i
   rw[h] at e
   cases e
   exact .inr rfl
  ·rw[x.keep j _ i (gQe d)] at e
   rw[gQe d]
   exact .inl e
 ·apply List.ext_getElem?
  intro j
  by_cases d:j<S.length
  ·rw[List.getElem?_take_of_lt d]
   exact g j d
  ·rw[List.getElem?_eq_none (by rw[Qxq];omega),List.getElem?_eq_none (by simp;omega)]
def t9{k:Nat}{S e:aA}{d:D}{Q:Res->aA->Prop}(x:Ex k S e)(f:k<S.length)(hd:∀k,d≠.ref k)(g:bL S.length d=true)(q:∀a b c,Q (.d d) (S.set k (mi a b c))):Op (settle S d e) λp=>Q p.1 p.2:=by
 obtain⟨i,a,b,c,h⟩:=x.clean f
 exact fe i h hd g (q a b c)
def Jg{k:Nat}{S d:aA}{ds:List D}{Q:Res->aA->Prop}(x:Ex k S d)(e:k<S.length)(f:bz S.length ds=true)(q:∀a b c,Q (.l ds) (S.set k (mi a b c))):Op (de S ds d) λp=>Q p.1 p.2:=by
 obtain⟨h,a,b,c,g⟩:=x.clean e
 exact lS h g f (q a b c)
def cQ{S f:aA}{k:Nat}{m:Int}{Q:Res->aA->Prop}(x:Ex k f S)(j:0<m)(l:m<1000000)
  (h:∀(d:Nat) (e:aA),(d:Int)<m->Ex k f e->Ex k S e->e.length=S.length->Q (.d (.int d)) e):Fn aG [.ref k,.int m] S Q:=by
 obtain⟨a,b,c,g⟩:=x.pot
 refine AG g j l λd r p o q i=> ?_
 obtain⟨n,rfl⟩:∃n:Nat,d=n:=⟨d.toNat,by omega⟩
 exact h n _ i x.set (Ex.refl g).set (by simp)
def aO{α:Type}{xs:List α}{j:Nat}{x:α}(h:xs[j]?=some x):k0 xs (j:Int)=some x:=by
 have a:=(gQs.mp h).1
 unfold k0 yP
 rw[Qhq (by omega),Qhq (by omega)]
 simpa using h
def pX{S l:aA}{k i:Nat}{xs:List D}{Q:Res->aA->Prop}(x:Ex k l S)(hi:i≠k)(n:S[i]?=some (.lst xs))(s:0<xs.length)(t:xs.length<1000)(q:∀d∈xs,(∀k,d≠.ref k)/\bL 0 d=true)
  (e:∀d∈xs,bL S.length d=true)
  (h:∀(d:D) (f:aA),d∈xs->Ex k l f->Ex k S f->f.length=S.length->Q (.d d) f):Fn cI [.ref k,.ref i] S Q:=by
 have y:Ex k S S:=by obtain⟨a,b,c,r⟩:=x.pot;exact Ex.refl r
 refine bF ?_
 unfold lP
 symm
 apply eP n ?_
 refine cQ y (by show(0:Int)<xs.length;omega) (by show(xs.length:Int)<1000000;omega) λd f o m u p=> ?_
 dsimp only
 have g:d<xs.length:=by have:(d:Int)<(xs.length:Int):=o;omega
 refine dM (m.keep _ _ hi n) (aO (gQe g)) ?_
 have j:=List.getElem_mem g
 refine t9 m x.lt (q _ j).1 (e _ j) λa b c=> ?_
 exact h _ _ j x.set y.set (by simp)
end W28
namespace DL
open PySem PySem.Spec L2
mutual
theorem eN{m:Nat}:∀{d:D},bL 0 d=true->bL m d=true
 |.non,_=>rfl
 |.bl _,_=>rfl
 |.int _,_=>rfl
 |.str _,_=>rfl
 |.tup ds,h=>by simp only[bL] at h⊢;exact h_ h
 |.ref k,h=>by simp[bL] at h
 |.fn _,_=>rfl
theorem h_{m:Nat}:∀{ds:List D},bz 0 ds=true->bz m ds=true
 | [],_=>rfl
 | d::ds,h=>by
   simp only[bz,QCq] at h⊢
   exact⟨eN h.1,h_ h.2⟩
end
theorem qe{m:Nat}:∀{ds:List D},(∀d∈ds,bL m d=true)->bz m ds=true
 | [],_=>rfl
 | d::ds,h=>by
   simp only[bz,QCq]
   exact⟨h d (QBq ..),qe λe a=>h e (Qpq _ a)⟩
def aQ{α:Type}{m:Nat}{f:α->D}{l:List α}(h:∀a∈l,bL m (f a)=true):bz m (l.map f)=true:=qe λd b=>by
 obtain⟨a,c,rfl⟩:=Qkq.mp b
 exact h a c
theorem sX:∀a:List Str,tT (a.map D.str)=some a
 | []=>rfl
 |s::a=>by simp only[QDq,tT];rw[sX a];rfl
def Gf{b:cz}{S:aA}{f:dQ}{Q:List D->aA->Prop}(h:E f b S λp S1=>p.2.isL=true/\∃a:List Str,p.1=a.map D.str/\a.length<64/\Q ((n_ a).map D.str) S1):E (zB f) b S Q:=by
 obtain⟨p,S1,c,l,a,e,d,q⟩:=h
 exact⟨_,S1,by unfold zB;rw[c];simp only[Qbq];rw[Qhq l,e,sX];simp only[Qbq];rw[Qhq d],q⟩
end DL
namespace W28
open PySem PySem.Spec L2 DL
def six:List Str:= ["a","b","c","d","e","zz"]
theorem sV{α a:Type}(g:α->a):∀(l:List α) (k:Nat),(l.map g).eraseIdx k=(l.eraseIdx k).map g
 | [],_=>rfl
 |_::_,0=>rfl
 |x::l,k+1=>congrArg (g x::·) (sV g l k)
def BQ{α:Type}{b a c:List α}{j:Nat}(d:j<a.length)(h:(b++a).Perm c):((b++ [a[j]])++a.eraseIdx j).Perm c:=by
 refine List.Perm.trans ?_ h
 rw[Qvq]
 refine List.Perm.append_left b ?_
 show(a[j]::a.eraseIdx j).Perm a
 rw[List.eraseIdx_eq_take_drop_succ]
 have e:a=a.take j++a[j]::a.drop (j+1):=by rw[←QWq d,List.take_append_drop]
 refine List.Perm.trans ?_ (List.Perm.of_eq e.symm)
 exact List.perm_middle.symm
def HS{n j:Nat}(h:j<n)(a:n<1000):seqIndex? (j:Int) n=some j:=(uV (by unfold yP;rw[Qhq (by omega),Qhq (by omega)];simp)).1
def wG{S N:aA}{k:Nat}{e:Str}{i:Int}{Q:Res->aA->Prop}(x:Ex k N S)(hm:0<=i)(P:i<=6)(R:e.length<=1)
  (h:∀(ws:List Str) (t:aA),(∃l,(ws++l).Perm (six.map (e++·)))->(ws.length:Int)=i->Ex k N t->Ex k S t->t.length=S.length->Q (.l (ws.map D.str)) t):Fn fF [.ref k,.str e,.int i] S Q:=by
 have y:Ex k S S:=by obtain⟨a,b,c,Y⟩:=x.pot;exact Ex.refl Y
 refine bF ?_
 unfold jL
 symm
 apply jv ?_
 refine⟨by decide,⟨λn f t g=>f= [f.getD 0 none,some (.str e)]/\t=S/\g=((six.take n).map (e++·)).map D.str,⟨rfl,rfl,rfl⟩,λn f t g h=>trivial,λn d f t g F ⟨s,v,q⟩=> ?_,λf t g ⟨_,v,q⟩=> ?_⟩⟩
 ·have v:=v.symm
  subst v q
  obtain⟨o,rfl⟩:∃o,f= [o,some (.str e)]:=⟨_,s⟩
  have L:∃z,six[n]?=some z/\d=.str z:=by
   rcases n with _|_|_|_|_|_|n <;>first|(cases F;exact⟨_,rfl,rfl⟩)|(simp at F)
  obtain⟨z,J,rfl⟩:=L
  have X:z.length<=2:=by
   have:=mQg J
   simp only[six,Qsq,QXq,or_false] at this
   rcases this with rfl|rfl|rfl|rfl|rfl|rfl <;>decide
  symm
  rw[Qhq rfl]
  symm
  refine FU (QAq (show e.length+z.length<=3 by omega) (by decide)) ?_
  have B:n<6:=(gQs.mp J).1
  refine⟨?_,rfl,rfl,?_⟩
  ·simp only[lQm,Qxq]
   exact Nat.lt_of_le_of_lt (Nat.min_le_left _ _) (Nat.lt_trans B (by decide))
  ·rw[QYq,J]
   simp
 ·have v:=v.symm
  subst v q
  symm
  apply Gf ?_
  apply jv ?_
  refine⟨i,rfl,⟨by omega,by omega⟩,λn f A g=>∃(r m:List Str),f= [f.getD 0 none,some (.ref k),some (.ref S.length)]/\Ex k S A/\A.length=S.length+1/\A[S.length]?=some (.lst (m.map D.str))/\g=r.map D.str/\r.length=n/\(r++m).Perm (six.map (e++·)),?_,λ_ _ _ _ _=>trivial,?_,?_⟩
  ·refine⟨[],six.map (e++·),rfl,y.app,by simp,?_,rfl,rfl,List.Perm.refl _⟩
   exact bh
  ·rintro n d f A g F ⟨r,m,s,I,w,G,rfl,B,hp⟩
   obtain⟨o,rfl⟩:∃o,f= [o,some (.ref k),some (.ref S.length)]:=⟨_,s⟩
   have p:=hp.length_eq
   simp only[lQa,lQm] at p
   have Z:six.length=6:=rfl
   have U:n<6:=by
    have:=(gQs.mp F).1
    simp only[mC,lQm,QVq] at this
    omega
   have W:0<m.length:=by omega
   symm
   rw[Qhq rfl]
   apply yW ?_
   apply⟨_,_,rfl,G,?_⟩
   apply eP G ?_
   refine cQ I (by simp only[lQm];omega) (by simp only[lQm];omega) λj S3 hj e3 M K=> ?_
   dsimp only
   symm
   have u:j<m.length:=by simpa using hj
   have H:S.length≠k:=by have:=x.lt;omega
   have C:=M.keep _ _ H G
   refine⟨_,C,?_⟩
   refine Kj (d:=((m.map D.str).eraseIdx j,D.str m[j])) ?_ ?_
   ·simp only[qu]
    rw[Qhq ⟨by omega,by omega⟩,lQm,HS u (by omega)]
    simp[gQe u]
   ·refine⟨?_,r++ [m[j]],m.eraseIdx j,rfl,e3.put (Qmq _) x.lt,by simp[K,w],?_,by simp,by simp[B],BQ u hp⟩
    ·simp only[lQm]
     exact Nat.lt_trans (show r.length<6 by omega) (by decide)
    ·rw[qG C,sV]
  ·rintro f A g ⟨r,m,s,I,w,G,rfl,B,hp⟩
   have p:=hp.length_eq
   simp only[lQa,lQm] at p
   have Z:six.length=6:=rfl
   refine⟨rfl,r,rfl,by omega,?_⟩
   refine Jg I x.lt (aQ λ_ _=>rfl) λa b c=> ?_
   refine h _ _ ⟨m,(QJq m (gD r)).trans hp⟩ ?_ x.set y.set (by simp)
   rw[(gD r).length_eq,B]
   simp only[mC,lQm,QVq]
   omega
end W28
namespace DL
open PySem PySem.Spec L2
def CI{a:cz}{S:aA}{f g:dQ}{Q:List D->aA->Prop}(h:E f a S λp S1=>E g a S1 λr S2=>(p.2.isM=true/\r.2.isM=true/\p.2.stays S2 p.1/\p.1.length+r.1.length<=sizeLine)/\Q (p.1++r.1) S2):E (Bc f g) a S Q:=by
 obtain⟨p,S1,b,r,S2,c,l,q⟩:=h
 exact⟨_,S2,by unfold Bc;rw[b];simp only[Qbq];rw[c];simp only[Qbq];rw[Qhq l],q⟩
def dJ{S:aA}{i j:Int}{Q:D->Prop}(q:Q (.bl (decide (i=j)))):Op (dw false S (.int i) (.int j)) Q:=⟨_,by simp[dw,vC,y8],q⟩
def gq{S:aA}{i j:Str}{Q:D->Prop}(q:Q (.bl (decide (i=j)))):Op (dw false S (.str i) (.str j)) Q:=⟨_,by simp[dw,vC,y8],q⟩
def eU{b:cz}{S:aA}{n:Nat}{g:lU}{ds:List D}{Q:cz->aA->Prop}(d:ds.length=n)(h:Iw g ds b S Q):Tg (jl (nG n g)) (.tup ds) b S Q:=by
 obtain⟨a,c,e,q⟩:=h
 exact⟨a,c,by show nG n g ds b S=_;unfold nG;rw[Qhq d];exact e,q⟩
def bq{a:cz}{S:aA}{Q:cz->aA->Prop}(q:Q a S):Iw dy [] a S Q:=⟨_,_,rfl,q⟩
def ay{b:cz}{S:aA}{f:jS}{g:lU}{d:D}{ds:List D}{Q:cz->aA->Prop}(h:Tg f d b S λa S1=>Iw g ds a S1 Q):Iw (aJ f g) (d::ds) b S Q:=by
 obtain⟨a,S1,i,c,e,j,q⟩:=h
 exact⟨c,e,by show(f d b S).bind _=_;rw[i];exact j,q⟩
end DL
namespace W28
open PySem PySem.Spec L2 DL
def ops:List Str:= ["plus","minus","less","same","both"]
inductive Tr where
 |num (n:Nat)|word (x:Str)|waits (b:Str)|no (t:Tr)|two (o:Str) (a b:Tr)
def Tr.d:Tr->D
 |.num n=>.int n
 |.word x=>.str x
 |.waits b=>.tup [.str "waits",.str b]
 |.no t=>.tup [.str "not",t.d]
 |.two o a b=>.tup [.str o,a.d,b.d]
def Tr.Ok(ws bs:List Str):Tr->Prop
 |.num n=>n<=9
 |.word x=>x∈ws
 |.waits b=>b∈bs
 |.no t=>t.Ok ws bs
 |.two o a b=>o∈ops/\a.Ok ws bs/\b.Ok ws bs
def Tr.dep:Tr->Nat
 |.num _=>1
 |.word _=>1
 |.waits _=>1
 |.no t=>t.dep+1
 |.two _ a b=>max a.dep b.dep+1
theorem Tr.low:∀t:Tr,bL 0 t.d=true
 |.num _=>rfl
 |.word _=>rfl
 |.waits _=>rfl
 |.no t=>by simp only[Tr.d,bL,bz];rw[t.low];rfl
 |.two _ a b=>by simp only[Tr.d,bL,bz];rw[a.low,b.low];rfl
def Tr.noref(t:Tr):∀k,t.d≠.ref k:=by
 intro k
 cases t <;>simp[Tr.d]
def lG{ws:List Str}:∀d∈ws.map D.str,(∀k,d≠.ref k)/\bL 0 d=true:=λd b=>by
 obtain⟨a,_,rfl⟩:=Qkq.mp b
 exact⟨λk z=>(nomatch z),rfl⟩
def rF{ws:List Str}{m:Nat}:∀d∈ws.map D.str,bL m d=true:=λd b=>by
 obtain⟨a,_,rfl⟩:=Qkq.mp b
 rfl
def GZ{n:Nat}(h:(n:Int)<5):∃o,o∈ops/\k0 ([.str "plus",.str "minus",.str "less",.str "same",.str "both"]:List D) (n:Int)=some (.str o):=by
 rcases n with _|_|_|_|_|n
 ·exact⟨"plus",by simp[ops],rfl⟩
 ·exact⟨"minus",by simp[ops],rfl⟩
 ·exact⟨"less",by simp[ops],rfl⟩
 ·exact⟨"same",by simp[ops],rfl⟩
 ·exact⟨"both",by simp[ops],rfl⟩
 ·omega
theorem DP:∀(n:Nat) {S S0:aA} {k i j:Nat} {ws bs:List Str} {deep:Nat} {Q:Res->aA->Prop} (x:Ex k S0 S) (hi:i≠k) (N:j≠k) (Z:S[i]?=some (.lst (ws.map D.str))) (hb:S[j]?=some (.lst (bs.map D.str))) (lw:ws.length<1000) (lb:bs.length<1000) (hn:deep<n)
  (h:∀(t:Tr) (f:aA),t.Ok ws bs->t.dep<=deep+1->Ex k S0 f->Ex k S f->f.length=S.length->Q (.d t.d) f),Fn (bt n) [.ref k,.ref i,.ref j,.int deep] S Q
 |0,_,_,_,_,_,_,_,_,_,_,_,_,_,_,_,_,hn,_=>absurd hn (Nat.not_lt_zero _)
 | n+1,S,S0,k,i,j,ws,bs,deep,Q,x,hi,N,Z,hb,lw,lb,hn,h=>by
   have y:Ex k S S:=by obtain⟨a,b,c,hh⟩:=x.pot;exact Ex.refl hh
   have s:∀(t:Tr) (f:aA),t.Ok ws bs->t.dep<=deep+1->Ex k S f->Op (settle S t.d f) λp=>Q p.1 p.2:=λt f L h2 e=>t9 e x.lt t.noref (eN t.low) λa b c=>h _ _ L h2 x.set y.set (by simp)
   refine bF ?_
   unfold nZ
   symm
   apply cQ y (by decide) (by decide) λA S1 a1 X _ l1=> ?_
   have a2:=X.keep _ _ hi Z
   have a3:=X.keep _ _ N hb
   have F:∀g,Ex k S g->T (aC (dW (i4 (aI (gP (bM (au 1)))) (aI (aR FA (ax aG (ar (au 0) (ar (cF (.int 3)) av))) (cF (.int 0))))) (bP (ax cI (ar (au 0) (ar (au 1) av)))) eY)
     (bP (ax aG (ar (au 0) (ar (aR ki (dH (cN (ar (cF (.int 3)) (ar (cF (.int 10)) av)))) (vg intOfD (ar (aR (dw false) (ax aG (ar (au 0) (ar (cF (.int 5)) av))) (cF (.int 0))) av))) av)))))
     [some (.ref k),some (.ref i),some (.ref j),some (.int deep),some (.int A),none] g λo=>match o with|.rt d f=>Op (settle S d f) λp=>Q p.1 p.2|_=>False:=by
     intro g q
     have W:=q.keep _ _ hi Z
     have u:∀P,Ex k S P->T (bP (ax aG (ar (au 0) (ar (aR ki (dH (cN (ar (cF (.int 3)) (ar (cF (.int 10)) av)))) (vg intOfD (ar (aR (dw false) (ax aG (ar (au 0) (ar (cF (.int 5)) av))) (cF (.int 0))) av))) av))))
       [some (.ref k),some (.ref i),some (.ref j),some (.int deep),some (.int A),none] P λo=>match o with|.rt d f=>Op (settle S d f) λp=>Q p.1 p.2|_=>False:=by
       intro P U
       symm
       apply⟨by decide,?_⟩
       apply cQ (U.app (G:= [O.lst [D.int 3,D.int 10]])) (by decide) (by decide) λd S4 hd K I l4=> ?_
       apply dJ ?_
       have a0:S4[P.length]?=some (.lst [.int 3,.int 10]):=I.keep _ _ (by have:=U.lt;omega) bh
       have hm:∃m:Int,(m=3\/m=10)/\Op (intOfD [D.bl (decide ((d:Int)=0))]) (λz=>∃r,z=.int r/\k0 ([.int 3,.int 10]:List D) r=some (.int m)):=by
         by_cases c:(d:Int)=0
         · exact⟨10,.inr rfl,_,rfl,1,by rw[Qeq c];rfl,rfl⟩
         · exact⟨3,.inl rfl,_,rfl,0,by rw[Qdq c];rfl,rfl⟩
       obtain⟨m,hm,z,C,r,rfl,e6⟩:=hm
       refine⟨_,C,?_⟩
       apply dM a0 e6 ?_
       refine cQ K (by omega) (by omega) λv S5 hv C _ l5=> ?_
       dsimp only
       exact s (.num v) _ (by show v<=9;omega) (by show 1<=deep+1;omega) C
     symm
     refine eP W ?_
     refine⟨⟨rfl,W⟩,?_⟩
     dsimp only
     refine aH (λc=> ?_) (λc=> ?_)
     · symm
       apply cQ q (by decide) (by decide) λd P hd U _ l3=> ?_
       refine aH (λc2=> ?_) (λc2=> ?_)
       · symm
         have H:0<(ws.map D.str).length:=by
           cases ws with
           |nil=>simp at c
           |cons a b=>simp
         refine pX U hi (U.keep _ _ hi Z) H (by simpa using lw) lG rF λv S4 hv K _ l4=> ?_
         obtain⟨z,hz,rfl⟩:=Qkq.mp hv
         exact s (.word z) _ hz (by show 1<=deep+1;omega) K
       · exact bC (u P U)
     · rw[Quq (by decide)]
       exact bC (u g q)
   have go:∀{R:Res->aA->Prop} {g:aA},Ex k S g->1<=deep->(∀(t:Tr) (f:aA),t.Ok ws bs->t.dep<=deep->Ex k S f->R (.d t.d) f)->Fn (bt n) [.ref k,.ref i,.ref j,.int ((deep:Int)-1)] g R:=by
     intro R g q hd hR
     have e:((deep:Int)-1)=((deep-1:Nat):Int):=by omega
     rw[e]
     exact DP n q hi N (q.keep _ _ hi Z) (q.keep _ _ N hb) lw lb (by omega) λt f L h2 h3 _ _=>hR t f L (by omega) h3
   have Y:∀g,Ex k S g->1<=deep->T (aC (dW (i4 (aI (aR (dw false) (au 4) (cF (.int 3)))) (aI (gP (bM (au 2))))) (bP (bg (ar (cF (.str "waits")) (ar (ax cI (ar (au 0) (ar (au 2) av))) av)))) eY)
     (aC (dW (aI (aR (dw false) (au 4) (cF (.int 4)))) (bP (bg (ar (cF (.str "not")) (ar (ax (bt n) (ar (au 0) (ar (au 1) (ar (au 2) (ar (aR kj (au 3) (cF (.int 1))) av))))) av)))) eY)
     (aC (a_ 5 (aR ki (dH (cN (ar (cF (.str "plus")) (ar (cF (.str "minus")) (ar (cF (.str "less")) (ar (cF (.str "same")) (ar (cF (.str "both")) av))))))) (ax aG (ar (au 0) (ar (cF (.int 5)) av)))))
     (bP (bg (ar (au 5) (ar (ax (bt n) (ar (au 0) (ar (au 1) (ar (au 2) (ar (aR kj (au 3) (cF (.int 1))) av))))) (ar (ax (bt n) (ar (au 0) (ar (au 1) (ar (au 2) (ar (aR kj (au 3) (cF (.int 1))) av))))) av))))))))
     [some (.ref k),some (.ref i),some (.ref j),some (.int deep),some (.int A),none] g λo=>match o with|.rt d f=>Op (settle S d f) λp=>Q p.1 p.2|_=>False:=by
     intro g q w
     have J:=q.keep _ _ N hb
     have M:T (aC (a_ 5 (aR ki (dH (cN (ar (cF (.str "plus")) (ar (cF (.str "minus")) (ar (cF (.str "less")) (ar (cF (.str "same")) (ar (cF (.str "both")) av))))))) (ax aG (ar (au 0) (ar (cF (.int 5)) av)))))
       (bP (bg (ar (au 5) (ar (ax (bt n) (ar (au 0) (ar (au 1) (ar (au 2) (ar (aR kj (au 3) (cF (.int 1))) av))))) (ar (ax (bt n) (ar (au 0) (ar (au 1) (ar (au 2) (ar (aR kj (au 3) (cF (.int 1))) av))))) av))))))
       [some (.ref k),some (.ref i),some (.ref j),some (.int deep),some (.int A),none] g λo=>match o with|.rt d f=>Op (settle S d f) λp=>Q p.1 p.2|_=>False:=by
       symm
       apply⟨by decide,?_⟩
       refine cQ (q.app (G:= [O.lst [.str "plus",.str "minus",.str "less",.str "same",.str "both"]])) (by decide) (by decide) λd S4 hd K I l4=> ?_
       dsimp only
       obtain⟨o,B,C⟩:=GZ hd
       refine dM (I.keep _ _ (by have:=q.lt;omega) bh) C ?_
       symm
       apply go K w λt1 S5 L h2 C=> ?_
       apply go C w λt2 S6 h3 h4 e6=> ?_
       refine⟨by show 3<=_;decide,?_⟩
       exact s (.two o t1 t2) _ ⟨B,L,h3⟩ (by simp only[Tr.dep];omega) e6
     have l:T (aC (dW (aI (aR (dw false) (au 4) (cF (.int 4)))) (bP (bg (ar (cF (.str "not")) (ar (ax (bt n) (ar (au 0) (ar (au 1) (ar (au 2) (ar (aR kj (au 3) (cF (.int 1))) av))))) av)))) eY)
       (aC (a_ 5 (aR ki (dH (cN (ar (cF (.str "plus")) (ar (cF (.str "minus")) (ar (cF (.str "less")) (ar (cF (.str "same")) (ar (cF (.str "both")) av))))))) (ax aG (ar (au 0) (ar (cF (.int 5)) av)))))
       (bP (bg (ar (au 5) (ar (ax (bt n) (ar (au 0) (ar (au 1) (ar (au 2) (ar (aR kj (au 3) (cF (.int 1))) av))))) (ar (ax (bt n) (ar (au 0) (ar (au 1) (ar (au 2) (ar (aR kj (au 3) (cF (.int 1))) av))))) av)))))))
       [some (.ref k),some (.ref i),some (.ref j),some (.int deep),some (.int A),none] g λo=>match o with|.rt d f=>Op (settle S d f) λp=>Q p.1 p.2|_=>False:=by
       symm
       refine dJ ?_
       dsimp only
       refine aH (λc=> ?_) (λc=> ?_)
       · symm
         apply go q w λt S5 L h2 C=> ?_
         refine⟨by show 2<=_;decide,?_⟩
         exact s (.no t) _ L (by simp only[Tr.dep];omega) C
       · exact bC M
     symm
     refine dJ ?_
     dsimp only
     refine aH (λc=> ?_) (λc=> ?_)
     · symm
       refine eP J ?_
       refine⟨⟨rfl,J⟩,?_⟩
       dsimp only
       refine aH (λc=> ?_) (λc=> ?_)
       · symm
         have H:0<(bs.map D.str).length:=by
           cases bs with
           |nil=>simp at c
           |cons a b=>simp
         refine pX q N J H (by simpa using lb) lG rF λv S4 hv K _ l4=> ?_
         obtain⟨z,hz,rfl⟩:=Qkq.mp hv
         symm
         refine⟨by show 2<=_;decide,?_⟩
         exact s (.waits z) _ hz (by show 1<=deep+1;omega) K
       · exact bC l
     · rw[Quq (by decide)]
       exact bC l
   refine aH (λc=> ?_) (λc=> ?_)
   · rw[Qhq rfl]
     exact(F S1 X).mono λo B=>by
       cases o with
       |rt d f=>exact B
       |_=>exact B.elim
   · symm
     refine aH (λc2=> ?_) (λc2=> ?_)
     · exact(F S1 X).mono λo B=>by
         cases o with
         |rt d f=>exact B
         |_=>exact B.elim
     · have w:1<=deep:=by
         have:=QaQ c
         omega
       refine bC ?_
       exact(Y S1 X w).mono λo B=>by
         cases o with
         |rt d f=>exact B
         |_=>exact B.elim
inductive Rw where
 |put (x:Str) (t:Tr)|unl (t:Tr) (n:Nat)|go (n:Nat)|do_ (g:Option Str) (r d:Str) (t:Tr)|wait (b:Str) (t:Tr)|call (b:Str)|all (b:Str)|tell (t:Tr)
 |take (p:Str)|give (p:Str)|pass (p q:Str)|say (t:Tr)
def GO:Option Str->D
 |none=>.non
 |some x=>.str x
def Rw.d:Rw->D
 |.put x t=>.tup [.str "put",.str x,t.d]
 |.unl t n=>.tup [.str "unless",t.d,.int n]
 |.go n=>.tup [.str "go",.int n]
 |.do_ g r d t=>.tup [.str "do",GO g,.str r,.str d,t.d]
 |.wait b t=>.tup [.str "wait",.str b,t.d]
 |.call b=>.tup [.str "call",.str b]
 |.all b=>.tup [.str "all",.str b]
 |.tell t=>.tup [.str "tell",t.d]
 |.take p=>.tup [.str "take",.str p]
 |.give p=>.tup [.str "give",.str p]
 |.pass p q=>.tup [.str "pass",.str p,.str q]
 |.say t=>.tup [.str "say",t.d]
structure Sc where
 own:Bool
 ws:List Str
 ps:List Str
 bs:List Str
 gs:List (Str×Str)
 ts:List Str
def EF(a:Sc)(t:Tr):Prop:=t.Ok a.ws a.bs/\t.dep<=4
def Rw.Ok(a:Sc)(n:Nat):Rw->Prop
 |.put x t=>x∈a.ps/\EF a t
 |.unl t m=>EF a t/\m<=n
 |.go m=>m<=n
 |.do_ g r d t=>(∀x,g=some x->x∈a.ps)/\(r,d)∈a.gs/\EF a t
 |.wait b t=>a.own=false/\b∈a.bs/\EF a t
 |.call b=>a.own=false/\b∈a.bs
 |.all b=>a.own=false/\b∈a.bs
 |.tell t=>a.own=false/\EF a t
 |.take p=>a.own=true/\p∈a.ts
 |.give p=>a.own=true/\p∈a.ts
 |.pass p q=>a.own=true/\p∈a.ts/\q∈a.ts
 |.say t=>a.own=true/\EF a t
theorem Rw.low(r:Rw):bL 0 r.d=true:=by
 cases r with
 |do_ g r d t=>cases g <;>simp only[Rw.d,bL,bz,GO,t.low,Bool.and_true,Bool.true_and]
 |_=>simp only[Rw.d,bL,bz,Tr.low,Bool.and_true,Bool.true_and]
def Gg(b:Sc)(a:List Rw):Prop:=∀r∈a,r.Ok b a.length
end W28
namespace DL
open PySem PySem.Spec L2
def HI{b:cz}{S:aA}{f:bc}{g:dQ}{Q:D->aA->Prop}(h:E f b S λx S1=>∃k a,x=.ref k/\S1[k]?=some (.lst a)/\E g b S1 λp S2=>∃ds,S2[k]?=some (.lst ds)/\(p.2.isM=true/\ds.length+p.1.length<=sizeLine)/\Q .non (S2.set k (.lst (ds++p.1)))):E (DG f g) b S Q:=by
 obtain⟨x,S1,c,k,a,rfl,h1,p,S2,e2,ds,h2,h3,q⟩:=h
 exact⟨_,_,by unfold DG;rw[c];simp only[Qbq,e2,h1,h2];rw[Qhq h3],q⟩
def nM{a:cz}{S:aA}{f g:bc}{Q:D->aA->Prop}(h:E f a S λd S1=>∃k,d=.bl k/\if k=true then E g a S1 Q else Q (.bl false) S1):E (uu f g) a S Q:=by
 obtain⟨d,S1,b,k,rfl,q⟩:=h
 cases k with
 |true=>obtain⟨j,c,e,q⟩:=(q:E g a S1 Q);exact⟨j,c,by unfold uu;rw[b];exact e,q⟩
 |false=>exact⟨_,S1,by unfold uu;rw[b];rfl,q⟩
def yh{ds:List D}{y:D}{Q:List D×D->Prop}(h:ds.length<sizeLine)(q:Q (ds++ [y],.non)):Op (kc ds [y]) Q:=⟨_,by simp only[kc];rw[Qhq h],q⟩
end DL
namespace W28
open PySem PySem.Spec L2 DL
def nI:List Str:= ["given"]
end W28
namespace DL
open PySem PySem.Spec L2
def Ki{a b:cz}{d:D}(h:a.set 0 none=b.set 0 none):a.set 0 (some d)=b.set 0 (some d):=by
 have:=congrArg (λc:cz=>c.set 0 (some d)) h
 simpa using this
def FO{e:cz}{S:aA}{js:List (Option Nat)}{f:dQ}{c:bc}{Q:List D->aA->Prop}(F:D->D)(h:E f e S λp S1=>p.2.stays S1 p.1/\p.1.length<=1000/\(∀d∈p.1,E c ((lR js e).set 0 (some d)) S1 λy S2=>y=F d/\S2=S1)/\Q (p.1.map F) S1):
  E (bW js (m7 f) (bS 0) cM c) e S Q:=by
 refine jv (w5 (h.mono λp S1 k=> ?_))
 obtain⟨l,s,r,q⟩:=k
 refine⟨λn b g a=>g=S1/\a=(p.1.take n).map F/\b.set 0 none=(lR js e).set 0 none,⟨rfl,rfl,rfl⟩,λn b g a h=>by rw[h.1];exact l,λn d b g a i h=> ?_,λb g a h=> ?_⟩
 ·obtain⟨rfl,rfl,h3⟩:=h
  refine aY (nU ?_)
  rw[Qhq rfl,Ki h3]
  refine(r d (mQg i)).mono λy S2 m=> ?_
  obtain⟨o,j⟩:=m
  subst o j
  have t:=(gQs.mp i).1
  refine⟨?_,rfl,?_,by simp⟩
  ·rw[lQm,Qxq]
   exact aV (by omega)
  ·rw[QYq,i]
   simp
 ·obtain⟨rfl,rfl,_⟩:=h
  rw[QEq]
  exact q
end DL
namespace W28
open PySem PySem.Spec L2 DL
def nO(p:Str×Nat):D:=.tup [.str p.1,.int p.2]
def HA(p:Str×Str):D:=.tup [.str p.1,.str p.2]
def t_(p:Str×List Rw):D:=.tup [.str p.1,.tup (p.2.map Rw.d)]
structure Rm where
 name:Str
 ah:Str
 ao:List (Str×Nat)
 aa:List (Str×Str)
 ae:List (Str×List Rw)
def Rm.d(r:Rm):D:=.tup [.str r.name,.str r.ah,.tup (r.ao.map nO),.tup (r.aa.map HA),.tup (r.ae.map t_)]
structure HK(gs:List (Str×Str))(r:Rm):Prop where
 mn:r.ah="at once" \/r.ah="when free"
 tv:∀p∈r.ao,p.2<=9
 l1:r.ao.length<=6
 l2:r.aa.length<=6
 l3:r.ae.length<=6
 bv:∀p∈r.aa,p.2="row" \/p.2="turns"
 pr:∀p∈r.ae,Gg ⟨false,r.ao.map (·.1)++nI,r.ao.map (·.1),r.aa.map (·.1),gs,[]⟩ p.2/\p.2.length<=12
def BP(p:Str×List Rw):bL 0 (t_ p)=true:=by
 simp only[t_,bL,bz,Bool.and_true,Bool.true_and]
 exact aQ λr _=>r.low
def Rm.low(r:Rm):bL 0 r.d=true:=by
 simp only[Rm.d,bL,bz,Bool.and_true,Bool.true_and,QCq]
 exact⟨aQ λ_ _=>rfl,aQ λ_ _=>rfl,aQ λp _=>BP p⟩
end W28
namespace DL
open PySem PySem.Spec L2
end DL
namespace W28
open PySem PySem.Spec L2 DL
end W28
namespace DL
open PySem PySem.Spec L2
end DL
namespace W28
open PySem PySem.Spec L2 DL
def fu(a:List Rm):List (Str×Str):=a.flatMap λr=>r.ae.map λp=>(r.name,p.1)
def dD(p:List (Str×Nat)×List Rw):D:=.tup [.tup (p.1.map nO),.tup (p.2.map Rw.d)]
structure c9 where
 aj:List Rm
 ai:List (Str×Nat)
 ak:List (Str×Nat)
 af:List (List (Str×Nat)×List Rw)
def c9.d(w:c9):D:=.tup [.tup (w.aj.map Rm.d),.tup (w.ai.map nO),.tup (w.ak.map nO),.tup (w.af.map dD)]
structure Gr(gs:List (Str×Str))(ak ai:List Str)(h:List (Str×Nat)×List Rw):Prop where
 tv:∀p∈h.1,p.2<=9
 l1:h.1.length<=6
 l2:h.2.length<=9
 l0:0<h.2.length
 pr:Gg ⟨true,h.1.map (·.1)++ak,h.1.map (·.1)++ak,[],gs,ai⟩ h.2
structure iZ(w:c9):Prop where
 nd:(w.aj.map (·.name)).Nodup
 l1:w.aj.length<=3
 l2:w.ai.length<=6
 l3:w.ak.length<=6
 l4:w.af.length<=4
 l0:0<w.af.length
 pv:∀p∈w.ai,p.2<=9
 sv:∀p∈w.ak,p.2<=9
 rm:∀r∈w.aj,HK (fu w.aj) r
 hd:∀h∈w.af,Gr (fu w.aj) (w.ak.map (·.1)) (w.ai.map (·.1)) h
def B6(p:List (Str×Nat)×List Rw):bL 0 (dD p)=true:=by
 simp only[dD,bL,bz,Bool.and_true,Bool.true_and,QCq]
 exact⟨aQ λ_ _=>rfl,aQ λr _=>r.low⟩
def c9.low(w:c9):bL 0 w.d=true:=by
 simp only[c9.d,bL,bz,Bool.and_true,Bool.true_and,QCq]
 exact⟨aQ λr _=>r.low,aQ λ_ _=>rfl,aQ λ_ _=>rfl,aQ λp _=>B6 p⟩
end W28
namespace DL
open PySem PySem.Spec L2
def Hs{k:cz}{S:aA}{js:List (Option Nat)}{f:dQ}{g:jS}{e:bc}{Q:List D->aA->Prop}(P:cz->Prop)(F:D->D)(m:P (lR js k)) (h:E f k S λp S1=>p.2.stays S1 p.1/\p.1.length<=1000∧
   (∀d∈p.1,∀a,P a->Tg g d a S1 λc S2=>S2=S1/\P c/\E e c S1 λy l=>y=F d/\l=S1)/\Q (p.1.map F) S1):E (bW js (m7 f) g cM e) k S Q:=by
 refine jv (w5 (h.mono λp S1 r=> ?_))
 obtain⟨s,x,w,q⟩:=r
 refine⟨λn a i b=>i=S1/\b=(p.1.take n).map F/\P a,⟨rfl,rfl,m⟩,λn a i b h=>by rw[h.1];exact s,λn d a i b j h=> ?_,λa i b h=> ?_⟩
 ·obtain⟨rfl,rfl,h3⟩:=h
  obtain⟨c,S2,u,rfl,h4,h5⟩:=w d (mQg j) a h3
  refine⟨c,S2,u,nU ?_⟩
  rw[Qhq rfl]
  refine h5.mono λy l t=> ?_
  obtain⟨o,v⟩:=t
  subst o v
  have z:=(gQs.mp j).1
  refine⟨?_,rfl,?_,h4⟩
  ·rw[lQm,Qxq]
   exact aV (by omega)
  ·rw[QYq,j]
   simp
 ·obtain⟨rfl,rfl,_⟩:=h
  rw[QEq]
  exact q
def lu{α:Type}{m:cz}{S:aA}{js:List (Option Nat)}{f:dQ}{g:jS}{j:bc}{Q:List D->aA->Prop}(P:cz->Prop)(enc G:α->D)(s:P (lR js m)) (h:E f m S λp S1=>∃xs:List α,p.1=xs.map enc/\p.2.stays S1 p.1/\xs.length<=1000∧
   (∀x∈xs,∀a,P a->Tg g (enc x) a S1 λc S2=>S2=S1/\P c/\E j c S1 λy r=>y=G x/\r=S1)/\Q (xs.map G) S1):E (bW js (m7 f) g cM j) m S Q:=by
 refine jv (w5 (h.mono λp S1 u=> ?_))
 obtain⟨xs,o,v,C,B,q⟩:=u
 refine⟨λn a l b=>l=S1/\b=(xs.take n).map G/\P a,⟨rfl,rfl,s⟩,λn a l b h=>by rw[h.1];exact v,λn d a l b k h=> ?_,λa l b h=> ?_⟩
 ·obtain⟨rfl,rfl,h3⟩:=h
  have k:p.1[n]?=some d:=k
  rw[o,gQm] at k
  obtain⟨x,i,rfl⟩:=oQm.mp k
  obtain⟨c,S2,z,rfl,h4,h5⟩:=B x (mQg i) a h3
  refine⟨c,S2,z,nU ?_⟩
  rw[Qhq rfl]
  refine h5.mono λy r w=> ?_
  obtain⟨t,A⟩:=w
  subst t A
  have F:=(gQs.mp i).1
  refine⟨?_,rfl,?_,h4⟩
  ·rw[lQm,Qxq]
   exact aV (by omega)
  ·rw[QYq,i]
   simp
 ·obtain⟨rfl,rfl,_⟩:=h
  have e:p.1.length=xs.length:=by rw[o,lQm]
  show Q ((xs.take p.1.length).map G) _
  rw[e,QEq]
  exact q
def bU{S:aA}{d:D}{Q:Res->aA->Prop}(hd:∀k,d≠.ref k)(a:bL 0 d=true)(q:Q (.d d) S):Op (settle S d S) λp=>Q p.1 p.2:=fe rT (QEq) hd (eN a) q
def Cz{S:aA}{ds:List D}{Q:Res->aA->Prop}(a:bz 0 ds=true)(q:Q (.l ds) S):Op (de S ds S) λp=>Q p.1 p.2:=lS rT (QEq) (h_ a) q
end DL
namespace W28
open PySem PySem.Spec L2 DL
structure b_ where
 room:Int
 deed:Int
 row:Int
 given:Int
 told:Int
structure eT where
 vals:List Int
 within:Int
 row:List Int
 ag:List Int
 aa:List (List (Int×Int))
structure aW where
 aj:List eT
 ai:List (Int×List Int)
 ak:List Int
 af:List (List Int×List b_)
def b9(l:List Int):D:=.tup (l.map D.int)
def b_.d(f:b_):D:=.tup [.int f.room,.int f.deed,.int f.row,.int f.given,.int f.told]
def pairD(p:Int×Int):D:=.tup [.int p.1,.int p.2]
def dI(l:List (Int×Int)):D:=.tup (l.map pairD)
def eT.d(r:eT):D:=.tup [b9 r.vals,.int r.within,b9 r.row,b9 r.ag,.tup (r.aa.map dI)]
def zL(p:Int×List Int):D:=.tup [.int p.1,b9 p.2]
def pz(h:List Int×List b_):D:=.tup [b9 h.1,.tup (h.2.map b_.d)]
def aW.d(s:aW):D:=.tup [.tup (s.aj.map eT.d),.tup (s.ai.map zL),b9 s.ak,.tup (s.af.map pz)]
def jw(l:List Int):bL 0 (b9 l)=true:=by simp only[b9,bL];exact aQ λ_ _=>rfl
def rZ(l:List (Int×Int)):bL 0 (dI l)=true:=by simp only[dI,bL];exact aQ λ_ _=>rfl
def eT.low(r:eT):bL 0 r.d=true:=by
 simp only[eT.d,bL,bz,jw,Bool.and_true,Bool.true_and]
 exact aQ λl _=>rZ l
def y2(p:Int×List Int):bL 0 (zL p)=true:=by simp only[zL,bL,bz,jw,Bool.and_true]
def ym(h:List Int×List b_):bL 0 (pz h)=true:=by
 simp only[pz,bL,bz,jw,Bool.and_true,Bool.true_and]
 exact aQ λ_ _=>rfl
def aW.low(s:aW):bL 0 s.d=true:=by
 simp only[aW.d,bL,bz,jw,Bool.and_true,Bool.true_and,QCq]
 exact⟨aQ λr _=>r.low,aQ λp _=>y2 p,aQ λh _=>ym h⟩
def eg(ts:List (Str×Nat)):List Int:=ts.map λp=>(p.2:Int)
def dG(r:Rm):eT:=⟨eg r.ao,-1,[],[],r.aa.map λ_=> []⟩
def BE:b_:=⟨-1,-1,0,0,0⟩
def da(w:c9):aW:=⟨w.aj.map dG,w.ai.map λp=>((p.2:Int),[]),eg w.ak,w.af.map λh=>(eg h.1,[BE])⟩
section
variable{S:aA}{Q:Res->aA->Prop}
def iE{ts:List (Str×Nat)}(l:ts.length<=1000)(h:Q (.d (b9 (eg ts))) S):Fn fm [.tup (ts.map nO)] S Q:=by
 refine bF ?_
 unfold lW
 symm
 apply Hs (λc=>∃a b,c= [a,b]) (λd=>match d with|.tup [_,v]=>v|d=>d) ⟨none,none,rfl⟩ ?_
 refine⟨trivial,by simpa using l,λd g c f=> ?_,?_⟩
 ·obtain⟨p,_,rfl⟩:=Qkq.mp g
  obtain⟨a,b,rfl⟩:=f
  refine eU rfl (ay (aY (ay (aY (bq ?_)))))
  apply⟨rfl,⟨_,_,rfl⟩,?_⟩
  exact⟨rfl,rfl⟩
 ·have e:(ts.map nO).map (λd=>match d with|.tup [_,v]=>v|d=>d)=(eg ts).map D.int:=by
   simp only[eg,QPq]
   rfl
  rw[e]
  exact bU (d:=b9 (eg ts)) (λk z=>(nomatch z)) (jw _) h
def sH{r:Rm}(b:r.ao.length<=6)(c:r.aa.length<=6)(h:Q (.d (dG r).d) S):Fn gC [r.d] S Q:=by
 refine bF ?_
 unfold jj
 symm
 apply eU rfl (ay (aY (ay (aY (ay (aY (ay (aY (ay (aY (bq ?_)))))))))))
 apply iE (by omega) ?_
 apply⟨by decide,?_⟩
 apply⟨by decide,?_⟩
 apply FO (λ_=>.tup []) ?_
 refine⟨trivial,by simp;omega,λd a=> ?_,?_⟩
 ·symm
  exact⟨by decide,rfl,rfl⟩
 ·symm
  refine⟨by show 5<=_;decide,?_⟩
  have e:D.tup ((r.aa.map HA).map λ_=>D.tup [])=D.tup ((dG r).aa.map dI):=by
   simp only[dG,QPq]
   rfl
  rw[e]
  exact bU (d:=(dG r).d) (λk z=>(nomatch z)) (eT.low _) h
def Dv{w:c9}(o:iZ w)(h:Q (.d (da w).d) S):Fn ur [w.d] S Q:=by
 refine bF ?_
 unfold zk
 symm
 apply eU rfl (ay (aY (ay (aY (ay (aY (ay (aY (bq ?_)))))))))
 apply⟨by decide,?_⟩
 have n:=o.l1
 have q:=o.l2
 have l:=o.l3
 have m:=o.l4
 apply lu (α:=Rm) (λc=>∃a,c= [a]) Rm.d (λr=>(dG r).d) ⟨none,rfl⟩ ?_
 refine⟨w.aj,rfl,trivial,by omega,λr f c e=> ?_,?_⟩
 ·obtain⟨a,rfl⟩:=e
  apply aY ⟨rfl,⟨_,rfl⟩,?_⟩
  exact sH (o.rm r f).l1 (o.rm r f).l2 ⟨rfl,rfl⟩
 symm
 apply lu (α:=Str×Nat) (λc=>∃a b,c= [a,b]) nO (λp=>zL ((p.2:Int),[])) ⟨none,none,rfl⟩ ?_
 refine⟨w.ai,rfl,trivial,by omega,λr f c e=> ?_,?_⟩
 ·obtain⟨a,b,rfl⟩:=e
  refine eU rfl (ay (aY (ay (aY (bq ?_)))))
  apply⟨rfl,⟨_,_,rfl⟩,?_⟩
  apply⟨by decide,?_⟩
  exact⟨by show 2<=_;decide,rfl,rfl⟩
 symm
 apply iE (by omega) ?_
 apply lu (α:=List (Str×Nat)×List Rw) (λc=>∃a b,c= [a,b,some BE.d]) dD (λh=>pz (eg h.1,[BE])) ⟨none,none,rfl⟩ ?_
 refine⟨w.af,rfl,trivial,by omega,λr f c e=> ?_,?_⟩
 ·obtain⟨a,b,rfl⟩:=e
  refine eU rfl (ay (aY (ay (aY (bq ?_)))))
  apply⟨rfl,⟨_,_,rfl⟩,?_⟩
  refine iE (by have:=(o.hd r f).l1;omega) ?_
  symm
  refine⟨by show 1<=_;decide,?_⟩
  symm
  exact⟨by show 2<=_;decide,rfl,rfl⟩
 symm
 refine⟨by show 4<=_;decide,?_⟩
 have i:w.aj.map (λr=>(dG r).d)=(da w).aj.map eT.d:=by simp only[da,QPq];rfl
 have g:w.ai.map (λp=>zL ((p.2:Int),[]))=(da w).ai.map zL:=by simp only[da,QPq];rfl
 have j:w.af.map (λh=>pz (eg h.1,[BE]))=(da w).af.map pz:=by simp only[da,QPq];rfl
 rw[i,g,j]
 exact bU (d:=(da w).d) (λk z=>(nomatch z)) (aW.low _) h
end
end W28
namespace DL
open PySem PySem.Spec L2
section
variable{Γ:cz}{S:aA}
def gK{f:bc}{Q:D->aA->Prop}(h:E f Γ S λd S1=>∃i,d=.int i/\Q (.int (-i)) S1):E (i8 f) Γ S Q:=by
 obtain⟨d,S1,a,i,rfl,q⟩:=h
 exact⟨_,S1,by unfold i8;rw[a];rfl,q⟩
def cg{Q:Option Int->aA->Prop}(q:Q none S):E qc Γ S Q:=⟨_,_,rfl,q⟩
def cf{f:bc}{Q:Option Int->aA->Prop}(h:E f Γ S λd S1=>∃i,d=.int i/\Q (some i) S1):E (pQ f) Γ S Q:=by
 obtain⟨d,S1,a,i,rfl,q⟩:=h
 exact⟨_,S1,by unfold pQ;rw[a];rfl,q⟩
def iI{f:bc}{lo hi:Hz}{Q:D->aA->Prop}(h:E f Γ S λd S1=>E lo Γ S1 λl S2=>E hi Γ S2 λu a=>∃ds,d=.tup ds/\Q (.tup (hJ ds l u)) a):E (pS f lo hi) Γ S Q:=by
 obtain⟨d,S1,b,l,S2,e,u,a,c,ds,rfl,q⟩:=h
 exact⟨_,a,by unfold pS;rw[b];simp only[Qbq];rw[e];simp only[Qbq];rw[c];rfl,q⟩
def JA{i j:Nat}{f:fO}{Q:Out->Prop}(h:E f Γ S λds S1=>∃a b,ds= [a,b]/\Q (.nx ((Γ.set i (some a)).set j (some b)) S1)):T (Er i j f) Γ S Q:=by
 obtain⟨ds,S1,c,a,b,rfl,q⟩:=h
 exact⟨_,by unfold Er;rw[c];rfl,q⟩
end
def Cy{α:Type}{xs:List α}{i:Nat}(h:i<=xs.length):hJ xs none (some (i:Int))=xs.take i:=by
 unfold hJ
 rw[HT.qK,HT.zS,Nat.min_eq_left h]
 simp
def gn{α:Type}{xs:List α}{i:Nat}(h:i<=xs.length):hJ xs (some (i:Int)) none=xs.drop i:=by
 unfold hJ
 rw[HT.qK,HT.zS,Nat.min_eq_left h]
 rw[List.take_of_length_le]
 simp
def xk{α:Type}{xs:List α}(h:0<xs.length):hJ xs none (some (-1))=xs.dropLast:=by
 unfold hJ
 rw[HT.qK]
 show(xs.drop 0).take (HT.dY xs.length xs.length (some (-1))-0)=_
 rw[show HT.dY xs.length xs.length (some (-1))=xs.length-1 by simp only[HT.dY];rw[Qhq (by omega)];omega]
 simp[List.dropLast_eq_take]
def wg{α:Type}{xs:List α}{x:α}(h:xs.getLast? =some x):k0 xs (-1)=some x:=by
 have c:0<xs.length:=by
  cases xs with
  |nil=>cases h
  |cons a b=>simp
 unfold k0 yP
 rw[Quq (by omega),Qhq (by omega)]
 rw[List.getLast?_eq_getElem?] at h
 simp only[Qbq]
 rw[show((-1:Int)+(xs.length:Int)).toNat=xs.length-1 by omega]
 exact h
end DL
namespace W28
open PySem PySem.Spec L2 DL
section
variable{S:aA}{Q:Res->aA->Prop}
def bD{s:aW}{h:Nat}{vs:List Int}{fs:List b_}{f:b_}(b:s.af[h]?=some (vs,fs))(a:fs.getLast? =some f)(q:Q (.d f.d) S):Fn cj [s.d,.int h] S Q:=by
 refine bF ?_
 unfold jt
 symm
 apply aw rfl ?_
 refine aw (d:=pz (vs,fs)) (aO (by rw[gQm,b];rfl)) ?_
 symm
 refine aw rfl ?_
 apply gK ?_
 refine⟨1,rfl,?_⟩
 refine aw (d:=f.d) (wg (by rw[QfQ,a];rfl)) ?_
 exact bU (λk z=>(nomatch z)) rfl q
def progOf(w:c9)(h:Nat)(f:b_):Option (List Rw):=
 if f.room= -1 then(w.af[h]?).map (·.2) else if 0<=f.room/\0<=f.deed then(w.aj[f.room.toNat]?).bind λr=>(r.ae[f.deed.toNat]?).map (·.2) else none
def jU{α:Type}{xs:List α}{i:Int}{x:α}(a:0<=i)(h:xs[i.toNat]?=some x):k0 xs i=some x:=by
 obtain⟨n,rfl⟩:∃n:Nat,i=n:=⟨i.toNat,by omega⟩
 exact aO (by simpa using h)
def xu(a:List Rw):bL 0 (.tup (a.map Rw.d))=true:=by simp only[bL];exact aQ λr _=>r.low
def fA{w:c9}{h:Nat}{f:b_}{pr:List Rw}(a:progOf w h f=some pr)(q:Q (.d (.tup (pr.map Rw.d))) S):Fn eF [w.d,.int h,f.d] S Q:=by
 refine bF ?_
 unfold ju
 apply aS (JA ?_)
 apply aw rfl ?_
 apply aw rfl ?_
 apply⟨_,_,rfl,?_⟩
 refine dJ ?_
 dsimp only
 unfold progOf at a
 by_cases c:f.room= -1
 ·rw[Qhq c] at a
  obtain⟨j,b,rfl⟩:=oQm.mp a
  rw[Qeq c,Qhq rfl]
  symm
  apply aw rfl ?_
  refine aw (d:=dD j) (aO (by rw[gQm,b];rfl)) ?_
  symm
  refine aw rfl ?_
  exact bU (λk z=>(nomatch z)) (xu _) q
 ·rw[Quq c] at a
  split at a
  ·rename_i e
   obtain⟨r,b,a⟩:=aq a
   obtain⟨g,i,rfl⟩:=oQm.mp a
   rw[Qdq c,Quq (by decide)]
   symm
   apply aw rfl ?_
   refine aw (d:=r.d) (jU e.1 (by rw[gQm,b];rfl)) ?_
   symm
   apply aw rfl ?_
   refine aw (d:=t_ g) (jU e.2 (by rw[gQm,i];rfl)) ?_
   symm
   refine aw rfl ?_
   exact bU (λk z=>(nomatch z)) (xu _) q
  ·cases a
def df{xs:List D}{i:Nat}{d:D}(hi:i<xs.length)(m:xs.length<=900)(j:bz 0 xs=true)(g:bL 0 d=true)(q:Q (.d (.tup (xs.set i d))) S):Fn cG [.tup xs,.int i,d] S Q:=by
 refine bF ?_
 unfold lI
 symm
 apply iI ?_
 apply cg (cf ?_)
 apply⟨_,rfl,_,rfl,?_⟩
 refine⟨by show 1<=_;decide,?_⟩
 rw[Cy (by omega)]
 refine dr (by simp only[Qxq,Qnq,QGq];exact nQl (aV (by omega))) ?_
 apply iI ?_
 apply cf ?_
 refine⟨_,rfl,cg ⟨_,rfl,?_⟩⟩
 rw[show((i:Int)+1)=((i+1:Nat):Int) by omega,gn (by omega)]
 refine dr (by simp only[lQa,Qxq,List.length_drop,Qnq,QGq];exact nQl (aV (by omega))) ?_
 have e:xs.take i++ [d]++xs.drop (i+1)=xs.set i d:=by
  rw[List.set_eq_take_append_cons_drop,Qhq hi]
  simp
 rw[e]
 refine bU (λk z=>(nomatch z)) ?_ q
 simp only[bL]
 refine qe λz b=> ?_
 rcases QTq b with b|rfl
 ·have c:∀l:List D,bz 0 l=true->∀z∈l,bL 0 z=true:=by
   intro l
   induction l with
   |nil=>intro _ z b;cases b
   | cons a l f=>
     intro h z b
     simp only[bz,QCq] at h
     rcases Qsq.mp b with rfl|b
     · exact h.1
     · exact f h.2 z b
  exact c xs j z b
 ·exact g
end
section
variable{S:aA}{Q:Res->aA->Prop}
def map_set{α b:Type}(f:α->b)(l:List α)(i:Nat)(a:α):(l.set i a).map f=(l.map f).set i (f a):=by
 rw[List.map_set]
def aN(s:aW):∀k,s.d≠.ref k:=λk z=>(nomatch z)
def cE{s:aW}{i:Nat}{r:eT}(hi:i<s.aj.length)(a:s.aj.length<=900)(q:Q (.d ({s with aj:=s.aj.set i r}:aW).d) S):Fn cu [s.d,.int i,r.d] S Q:=by
 refine bF ?_
 unfold lj
 symm
 apply aw rfl ?_
 apply df (by simpa using hi) (by simpa using a) (aQ λr _=>r.low) r.low ?_
 refine⟨by show 1<=_;decide,?_⟩
 apply iI ?_
 apply cf ?_
 refine⟨_,rfl,cg ⟨_,rfl,?_⟩⟩
 refine dr (by show 4<=_;decide) ?_
 refine bU (d:=({s with aj:=s.aj.set i r}:aW).d) (aN _) (aW.low _) q|>λz=> ?_
 rw[←map_set]
 exact z
def fU{s:aW}{i:Nat}{p:Int×List Int}(hi:i<s.ai.length)(a:s.ai.length<=900)(q:Q (.d ({s with ai:=s.ai.set i p}:aW).d) S):Fn eh [s.d,.int i,zL p] S Q:=by
 refine bF ?_
 unfold kY
 symm
 apply aw rfl ?_
 apply aw rfl ?_
 apply df (by simpa using hi) (by simpa using a) (aQ λr _=>y2 r) (y2 p) ?_
 refine⟨by show 2<=_;decide,?_⟩
 apply iI ?_
 apply cf ?_
 refine⟨_,rfl,cg ⟨_,rfl,?_⟩⟩
 refine dr (by show 4<=_;decide) ?_
 refine bU (d:=({s with ai:=s.ai.set i p}:aW).d) (aN _) (aW.low _) q|>λz=> ?_
 rw[←map_set]
 exact z
def fS{s:aW}{i:Nat}{vs:List Int}{fs:List b_}(hi:i<s.af.length)(a:s.af.length<=900)(q:Q (.d ({s with af:=s.af.set i (vs,fs)}:aW).d) S):Fn d_ [s.d,.int i,b9 vs,.tup (fs.map b_.d)] S Q:=by
 refine bF ?_
 unfold lH
 apply eG (cO (iI ?_))
 apply cg (cf ?_)
 apply⟨_,rfl,_,rfl,?_⟩
 apply aw rfl ?_
 refine⟨by show 2<=_;decide,?_⟩
 symm
 apply df (d:=pz (vs,fs)) (by simpa using hi) (by simpa using a) (aQ λr _=>ym r) (ym (vs,fs)) ?_
 refine⟨by show 1<=_;decide,?_⟩
 refine dr (by show 4<=_;decide) ?_
 refine bU (d:=({s with af:=s.af.set i (vs,fs)}:aW).d) (aN _) (aW.low _) q|>λz=> ?_
 rw[←map_set]
 exact z
def gf{s:aW}{h:Nat}{vs:List Int}{fs:List b_}{f:b_}(a:s.af[h]?=some (vs,fs))(c:0<fs.length)(g:fs.length<=900)(b:s.af.length<=900)(q:Q (.d ({s with af:=s.af.set h (vs,fs.dropLast++ [f])}:aW).d) S):Fn cT [s.d,.int h,f.d] S Q:=by
 refine bF ?_
 unfold fh
 symm
 apply aw rfl ?_
 refine aw (d:=pz (vs,fs)) (aO (by rw[gQm,a];rfl)) ?_
 apply eU rfl (ay (aY (ay (aY (bq ?_)))))
 apply iI ?_
 apply cg (cf (gK ?_))
 apply⟨1,rfl,_,rfl,_,rfl,?_⟩
 refine⟨by show 1<=_;decide,?_⟩
 rw[xk (by simpa using c)]
 refine dr (by simp only[List.length_dropLast,lQm,Qnq,QGq];exact nQl (aV (by omega))) ?_
 symm
 have e:(fs.map b_.d).dropLast++ [f.d]=(fs.dropLast++ [f]).map b_.d:=by rw[Qzq,List.map_dropLast];rfl
 rw[e]
 refine fS (gQs.mp a).1 b ?_
 exact bU (aN _) (aW.low _) q
def nB{s:aW}{h:Nat}{vs:List Int}{fs:List b_}{f:b_}{n:Int}(e:s.af[h]?=some (vs,fs))(c:fs.getLast? =some f)(i:fs.length<=900)(g:s.af.length<=900)(q:Q (.d ({s with af:=s.af.set h (vs,fs.dropLast++ [{f with row:=n}])}:aW).d) S):Fn iw [s.d,.int h,.int n] S Q:=by
 refine bF ?_
 unfold um
 symm
 apply bD e c ?_
 apply iI ?_
 apply cg (cf ?_)
 apply⟨_,rfl,_,rfl,?_⟩
 refine⟨by show 1<=_;decide,?_⟩
 refine dr (by show 3<=_;decide) ?_
 apply iI ?_
 apply cf ?_
 refine⟨_,rfl,cg ⟨_,rfl,?_⟩⟩
 refine dr (by show 5<=_;decide) ?_
 symm
 have j:0<fs.length:=by
  cases fs with
  |nil=>cases c
  |cons a b=>simp
 refine gf (f:={f with row:=n}) e j i g ?_
 exact bU (aN _) (aW.low _) q
def jB(r:eT)(h:Int):eT:=if r.within= -1 then{r with within:=h} else{r with row:=r.row++ [h]}
def dN(r:eT):eT:=match r.ag,r.row with
 |a::l,_=>{r with within:=a,ag:=l}
 | [],a::l=>{r with within:=a,row:=l}
 | [],[]=>{r with within:= -1}
def qm{s:aW}{i:Nat}{h:Int}{r:eT}(b:s.aj[i]?=some r)(a:s.aj.length<=900)(lr:r.row.length<=900)(q:Q (.d ({s with aj:=s.aj.set i (jB r h)}:aW).d) S):Fn jK [s.d,.int i,.int h] S Q:=by
 have f:=(gQs.mp b).1
 refine bF ?_
 unfold qz
 symm
 apply aw rfl ?_
 refine aw (d:=r.d) (aO (by rw[gQm,b];rfl)) ?_
 apply eU rfl (ay (aY (ay (aY (ay (aY (ay (aY (ay (aY (bq ?_)))))))))))
 refine dJ ?_
 dsimp only
 unfold jB at q
 by_cases c:r.within= -1
 ·rw[Qhq c] at q
  rw[Qeq c,Qhq rfl]
  symm
  refine⟨by show 5<=_;decide,?_⟩
  symm
  refine cE (r:={r with within:=h}) f a ?_
  exact bU (aN _) (aW.low _) q
 ·rw[Quq c] at q
  rw[Qdq c,Quq (by decide)]
  symm
  refine⟨by show 1<=_;decide,?_⟩
  refine dr (by simp only[lQm,Qnq,QGq];exact nQl (aV (by omega))) ?_
  symm
  refine⟨by show 5<=_;decide,?_⟩
  symm
  have e:D.tup (r.row.map D.int++ [D.int h])=b9 (r.row++ [h]):=by simp[b9]
  rw[e]
  refine cE (r:={r with row:=r.row++ [h]}) f a ?_
  exact bU (aN _) (aW.low _) q
end
section
variable{S:aA}{Q:Res->aA->Prop}
def AX{α:Type}{a:α}{l:List α}:k0 (a::l) 0=some a:=aO (j:=0) rfl
def vM{S:aA}{ds:List D}{Q:Bool->Prop}(q:Q (!ds.isEmpty)):Op (y7 S (.tup ds)) Q:=⟨_,rfl,q⟩
def xI{s:aW}{i:Nat}{r:eT}(m:s.aj[i]?=some r)(h:s.aj.length<=900)(q:Q (.d ({s with aj:=s.aj.set i (dN r)}:aW).d) S):Fn nV [s.d,.int i] S Q:=by
 have j:=(gQs.mp m).1
 refine bF ?_
 unfold xY
 symm
 apply aw rfl ?_
 refine aw (d:=r.d) (aO (by rw[gQm,m];rfl)) ?_
 refine eU rfl (ay (aY (ay (aY (ay (aY (ay (aY (ay (aY (bq ?_)))))))))))
 obtain⟨b,g,f,n,k⟩:=r
 symm
 refine vM ?_
 cases n with
 | cons a l=>
   apply aH (λ_=> ?_) (λc=>by cases c)
   apply aw (d:=.int a) AX ?_
   apply iI ?_
   apply cf ?_
   apply⟨_,rfl,cg ⟨_,rfl,?_⟩⟩
   refine⟨by show 5<=_;decide,?_⟩
   symm
   have e:D.tup (hJ ((a::l).map D.int) (some 1) none)=b9 l:=by
     rw[show(some (1:Int))=some ((1:Nat):Int) from rfl,gn (by simp)]
     rfl
   rw[e]
   refine cE (r:=⟨b,a,f,l,k⟩) j h ?_
   exact bU (aN _) (aW.low _) q
 | nil=>
   refine aH (λc=>by cases c) (λ_=> ?_)
   apply bC ?_
   refine vM ?_
   cases f with
   | cons a l=>
     apply aH (λ_=> ?_) (λc=>by cases c)
     apply aw (d:=.int a) AX ?_
     apply iI ?_
     apply cf ?_
     apply⟨_,rfl,cg ⟨_,rfl,?_⟩⟩
     refine⟨by show 5<=_;decide,?_⟩
     symm
     have e:D.tup (hJ ((a::l).map D.int) (some 1) none)=b9 l:=by
       rw[show(some (1:Int))=some ((1:Nat):Int) from rfl,gn (by simp)]
       rfl
     rw[e]
     refine cE (r:=⟨b,a,l,[],k⟩) j h ?_
     exact bU (aN _) (aW.low _) q
   | nil=>
     refine aH (λc=>by cases c) (λ_=> ?_)
     apply bC ?_
     refine⟨by show 5<=_;decide,?_⟩
     symm
     refine cE (r:=⟨b,-1,[],[],k⟩) j h ?_
     exact bU (aN _) (aW.low _) q
def eD{α:Type}{enc:α->D}{nm:α->Str}{xs:List α}(he:∀a,∃r,enc a=.tup (.str (nm a)::r))(d:xs.length<=1000)(q:Q (.l ((xs.map nm).map D.str)) S):Fn dm [.tup (xs.map enc)] S Q:=by
 refine bF ?_
 unfold nQ
 symm
 apply lu (α:=α) (λb=>∃a,b= [a]) enc (λa=>.str (nm a)) ⟨none,rfl⟩ ?_
 refine⟨xs,rfl,trivial,d,λr f b c=> ?_,?_⟩
 ·obtain⟨a,rfl⟩:=c
  refine aY ⟨rfl,⟨_,rfl⟩,?_⟩
  obtain⟨g,e⟩:=he r
  rw[e]
  symm
  exact aw AX ⟨rfl,rfl⟩
 ·have e:xs.map (λa=>D.str (nm a))=(xs.map nm).map D.str:=by rw[QPq];rfl
  rw[e]
  exact Cz (aQ λ_ _=>rfl) q
theorem kX:∀a:List Str,m4 (a.map D.str)=some (a.map V.str)
 | []=>rfl
 |s::a=>by simp only[QDq,m4,vC,Qbq];rw[kX a];rfl
theorem uX{x:Str}:∀{ns:List Str},x∈ns->∃j,mJ (.str x) (ns.map V.str)=some j/\ns[j]?=some x
 | [],h=>by cases h
 | n::ns,h=>by
   by_cases c:n=x
   · subst c
     exact⟨0,by simp[mJ,pY],rfl⟩
   · obtain⟨j,b,a⟩:=uX (ns:=ns) ((Qsq.mp h).resolve_left (Ne.symm c))
     exact⟨j+1,by simp only[QDq,mJ];rw[b];simp[pY,c],by simpa using a⟩
end
end W28
namespace DL
open PySem PySem.Spec L2
section
variable{Γ:cz}{S:aA}
def rQ{T:String}{f:bc}{Q:D->aA->Prop}(h:E f Γ S λd S1=>Op (ES S1 T d) λk=>Q (.bl k) S1):E (kW T f) Γ S Q:=by
 obtain⟨d,S1,a,k,b,q⟩:=h
 exact⟨_,S1,by unfold kW;rw[a];simp only[Qbq];rw[b];rfl,q⟩
def yg{b:Bool}{Q:Bool->Prop}(q:Q b):Op (y7 S (.bl b)) Q:=⟨_,rfl,q⟩
def D9{f g:bc}{Q:D->aA->Prop}(h:E f Γ S λx S1=>E g Γ S1 λy S2=>∃k kvs z v,x=.ref k/\y=.str z/\S2[k]?=some (.dct kvs)/\dv kvs (.inr z)=some v/\Q v S2):E (E1 f g) Γ S Q:=by
 obtain⟨x,S1,a,y,S2,b,k,kvs,z,v,rfl,rfl,h1,h2,q⟩:=h
 exact⟨v,S2,by unfold E1;rw[a];simp only[Qbq];rw[b];simp only[Qbq,h1,kh,h2],q⟩
def kF{i j:Int}{Q:D->Prop}(q:Q (.bl (!decide (i=j)))):Op (dw true S (.int i) (.int j)) Q:=⟨_,by simp[dw,vC,y8],q⟩
def Aj{i j:Int}{Q:D->Prop}(q:Q (.int (if j<i then j else i))):Op (minD [.int i,.int j]) Q:=⟨_,rfl,q⟩
def CG{i j:Int}{Q:D->Prop}(q:Q (.int (if j>i then j else i))):Op (maxD [.int i,.int j]) Q:=⟨_,rfl,q⟩
end
end DL
namespace W28
open PySem PySem.Spec L2 DL
def Fq(o:Str)(a b:Int):Int:=
 if o="plus" then(if 9<a+b then 9 else a+b) else if o="minus" then(if 0>a-b then 0 else a-b) else if o="less" then(if a<b then 1 else 0)
 else if o="same" then(if a=b then 1 else 0) else(if a≠0/\b≠0 then 1 else 0)
def l8(th wt:Str->Int):Tr->Int
 |.num n=>n
 |.word x=>th x
 |.waits b=>if 0<wt b then 1 else 0
 |.no t=>if l8 th wt t=0 then 1 else 0
 |.two o a b=>Fq o (l8 th wt a) (l8 th wt b)
def Bo{o:Str}{a b:Int}(c:0<=a/\a<=9)(d:0<=b/\b<=9):0<=Fq o a b/\Fq o a b<=9:=by
 unfold Fq
 repeat' split
 all_goals omega
theorem fo{th wt:Str->Int}{ws bs:List Str}(h:∀x∈ws,0<=th x/\th x<=9):∀{t:Tr},t.Ok ws bs->0<=l8 th wt t/\l8 th wt t<=9
 |.num n,ho=>by have:n<=9:=ho;simp only[l8];omega
 |.word x,ho=>h x ho
 |.waits b,_=>by simp only[l8];split <;>omega
 |.no t,_=>by simp only[l8];split <;>omega
 |.two o a b,ho=>Bo (fo h ho.2.1) (fo h ho.2.2)
section
variable{S:aA}{Q:Res->aA->Prop}
def cv{S:aA}{i:Int}{Q:Res->aA->Prop}(q:Q (.d (.int i)) S):Op (settle S (.int i) S) λp=>Q p.1 p.2:=bU (λk z=>(nomatch z)) rfl q
def pB{o:Str}{a b:Int}(q:Q (.d (.int (Fq o a b))) S):Fn ft [.str o,.int a,.int b] S Q:=by
 refine bF ?_
 unfold gR
 unfold Fq at q
 symm
 refine gq ?_
 dsimp only
 by_cases j:o="plus"
 ·rw[Qhq j] at q
  rw[Qeq j,Qhq rfl]
  symm
  refine Aj ?_
  exact cv q
 rw[Quq j] at q
 rw[Qdq j,Quq (by decide)]
 apply bC ?_
 refine gq ?_
 dsimp only
 by_cases e:o="minus"
 ·rw[Qhq e] at q
  rw[Qeq e,Qhq rfl]
  symm
  refine CG ?_
  exact cv q
 rw[Quq e] at q
 rw[Qdq e,Quq (by decide)]
 apply bC ?_
 refine gq ?_
 dsimp only
 by_cases f:o="less"
 ·rw[Qhq f] at q
  rw[Qeq f,Qhq rfl]
  symm
  by_cases c:a<b
  ·rw[Qhq c] at q
   rw[Qeq c,Qhq rfl]
   symm
   exact cv q
  ·rw[Quq c] at q
   rw[Qdq c,Quq (by decide)]
   symm
   exact cv q
 rw[Quq f] at q
 rw[Qdq f,Quq (by decide)]
 apply bC ?_
 refine gq ?_
 dsimp only
 by_cases i:o="same"
 ·rw[Qhq i] at q
  rw[Qeq i,Qhq rfl]
  symm
  refine dJ ?_
  dsimp only
  by_cases c:a=b
  ·rw[Qhq c] at q
   rw[Qeq c,Qhq rfl]
   symm
   exact cv q
  ·rw[Quq c] at q
   rw[Qdq c,Quq (by decide)]
   symm
   exact cv q
 rw[Quq i] at q
 rw[Qdq i,Quq (by decide)]
 apply bC ?_
 refine kF ?_
 dsimp only
 by_cases g:a=0
 ·rw[Quq (λz=>z.1 g)] at q
  rw[Qeq g]
  show if (false=true) then _ else _
  rw[Quq (by decide)]
  show if (false=true) then _ else _
  rw[Quq (by decide)]
  symm
  exact cv q
 ·rw[Qdq g]
  show if (true=true) then _ else _
  rw[Qhq rfl]
  symm
  refine kF ?_
  dsimp only
  by_cases h:b=0
  ·rw[Quq (λz=>z.2 h)] at q
   rw[Qeq h]
   show if (false=true) then _ else _
   rw[Quq (by decide)]
   symm
   exact cv q
  ·rw[Qhq ⟨g,h⟩] at q
   rw[Qdq h]
   show if (true=true) then _ else _
   rw[Qhq rfl]
   symm
   exact cv q
end
def bI{a:cz}{S:aA}{T:String}{f:bc}{d:D}{b:Bool}{Q:Bool->aA->Prop}(h:E f a S λx S1=>x=d/\S1=S)(hd:ES S T d=some b)(q:Q b S):E (ja (kW T f)) a S Q:=by
 refine FJ (rQ (h.mono λx S1 e=> ?_))
 obtain⟨c,g⟩:=e
 subst c g
 exact⟨b,hd,yg q⟩
def Ag{o:Str}(h:o∈ops):o≠"waits" /\o≠"not":=by
 simp only[ops,Qsq,QXq,or_false] at h
 rcases h with rfl|rfl|rfl|rfl|rfl <;>exact⟨by decide +kernel,by decide +kernel⟩
theorem fK{th wt:Str->Int}{ws bs:List Str}{i j:Nat}{kvs kws:List (Key×D)}{S:aA}(hi:S[i]?=some (.dct kvs))(g:S[j]?=some (.dct kws))(f:∀x∈ws,dv kvs (.inr x)=some (.int (th x)))(e:∀b∈bs,dv kws (.inr b)=some (.int (wt b))):
  ∀(n:Nat) (t:Tr) {Q:Res->aA->Prop},t.Ok ws bs->t.dep<=n->Q (.d (.int (l8 th wt t))) S->Fn (e_ n) [t.d,.ref i,.ref j] S Q
 |0,t,Q,_,hd,_=>by cases t <;>simp[Tr.dep] at hd
 | n+1,t,Q,ho,hd,q=>by
   refine bF ?_
   unfold ny
   cases t with
   | num v=>
     refine aS (bV (bI (d:=.int v) (aB rfl ⟨rfl,rfl⟩) rfl ?_))
     apply aH (λ_=> ?_) (λc=>by cases c)
     exact cv q
   | word x=>
     refine aS (bV (bI (d:=.str x) (aB rfl ⟨rfl,rfl⟩) rfl ?_))
     refine aH (λc=>by cases c) (λ_=>bC ?_)
     refine aS (bV (bI (d:=.str x) (aB rfl ⟨rfl,rfl⟩) rfl ?_))
     refine aH (λ_=> ?_) (λc=>by cases c)
     apply eG (D9 ?_)
     refine⟨_,_,_,_,rfl,rfl,hi,f x ho,?_⟩
     exact cv q
   | waits b=>
     refine aS (bV (bI (d:=.tup [.str "waits",.str b]) (aB rfl ⟨rfl,rfl⟩) rfl ?_))
     refine aH (λc=>by cases c) (λ_=>bC ?_)
     refine aS (bV (bI (d:=.tup [.str "waits",.str b]) (aB rfl ⟨rfl,rfl⟩) rfl ?_))
     apply aH (λc=>by cases c) (λ_=>bC ?_)
     apply aw rfl ?_
     refine gq ?_
     dsimp only
     rw[Qeq rfl,Qhq rfl]
     symm
     apply D9 ?_
     refine aw rfl ?_
     apply⟨_,_,_,_,rfl,rfl,g,e b ho,?_⟩
     simp only[l8] at q
     by_cases c:0<wt b
     · rw[Qhq c] at q
       rw[Qeq c,Qhq rfl]
       symm
       exact cv q
     · rw[Quq c] at q
       rw[Qdq c,Quq (by decide)]
       symm
       exact cv q
   | no t=>
     have k:t.dep<=n:=by simp only[Tr.dep] at hd;omega
     refine aS (bV (bI (d:=.tup [.str "not",t.d]) (aB rfl ⟨rfl,rfl⟩) rfl ?_))
     refine aH (λc=>by cases c) (λ_=>bC ?_)
     refine aS (bV (bI (d:=.tup [.str "not",t.d]) (aB rfl ⟨rfl,rfl⟩) rfl ?_))
     apply aH (λc=>by cases c) (λ_=>bC ?_)
     apply aw rfl ?_
     refine gq ?_
     dsimp only
     rw[Qdq (show¬(("not":Str)="waits") by decide +kernel),Quq (by decide)]
     apply bC ?_
     apply aw rfl ?_
     apply fK hi g f e n t ho k ?_
     apply aw rfl ?_
     refine gq ?_
     dsimp only
     rw[Qeq rfl,Qhq rfl]
     symm
     refine dJ ?_
     dsimp only
     simp only[l8] at q
     by_cases c:l8 th wt t=0
     · rw[Qhq c] at q
       rw[Qeq c,Qhq rfl]
       symm
       exact cv q
     · rw[Quq c] at q
       rw[Qdq c,Quq (by decide)]
       symm
       exact cv q
   | two o a b=>
     have h:a.dep<=n:=by simp only[Tr.dep] at hd;omega
     have l:b.dep<=n:=by simp only[Tr.dep] at hd;omega
     obtain⟨m,p⟩:=Ag ho.1
     refine aS (bV (bI (d:=.tup [.str o,a.d,b.d]) (aB rfl ⟨rfl,rfl⟩) rfl ?_))
     refine aH (λc=>by cases c) (λ_=>bC ?_)
     refine aS (bV (bI (d:=.tup [.str o,a.d,b.d]) (aB rfl ⟨rfl,rfl⟩) rfl ?_))
     apply aH (λc=>by cases c) (λ_=>bC ?_)
     apply aw rfl ?_
     refine gq ?_
     dsimp only
     rw[Qdq m,Quq (by decide)]
     apply bC ?_
     apply aw rfl ?_
     apply fK hi g f e n a ho.2.1 h ?_
     apply aw rfl ?_
     refine gq ?_
     dsimp only
     rw[Qdq p,Quq (by decide)]
     apply bC ?_
     apply aw rfl ?_
     apply aw rfl ?_
     apply fK hi g f e n b ho.2.2 l ?_
     refine pB ?_
     exact cv q
end W28
namespace DL
open PySem PySem.Spec L2
def tm{l:List (Key×D)}{k:Key}(h:k∈l.map (·.1)):∃d,dv l k=some d/\(k,d)∈l:=by
 unfold dv
 cases e:l.find? λb=>decide (b.1=k) with
 | none=>
   obtain⟨p,a,rfl⟩:=Qkq.mp h
   have:=List.find?_eq_none.mp e p a
   simp at this
 | some p=>
   have f:=List.find?_some e
   have c:=List.mem_of_find?_eq_some e
   have g:p.1=k:=by simpa using f
   exact⟨p.2,rfl,by rw[←g];exact c⟩
def w9{l:List (Key×D)}{k:Key}{v:D}{p:Key×D}(h:p∈putD l k v):p∈l\/p=(k,v):=by
 unfold putD at h
 split at h
 ·obtain⟨q,a,e⟩:=Qkq.mp h
  split at e
  ·rename_i c
   rw[←e,c]
   exact .inr rfl
  ·rw[←e]
   exact .inl a
 ·rcases mQa.mp h with h|h
  ·exact .inl h
  ·exact .inr (Qfq.mp h)
def ka{l:List (Key×D)}{k x:Key}{v:D}(h:x=k\/x∈l.map (·.1)):x∈(putD l k v).map (·.1):=by
 unfold putD
 split
 ·rename_i c
  have a:∀p∈l,(if p.1=k then(p.1,v) else p).1=p.1:=λp _=>by split <;>rfl
  have e:(l.map λp=>if p.1=k then(p.1,v) else p).map (·.1)=l.map (·.1):=by
   rw[QPq]
   exact List.map_congr_left a
  rw[e]
  rcases h with rfl|h
  ·obtain⟨p,b,d⟩:=List.any_eq_true.mp c
   exact Qkq.mpr ⟨p,b,by simpa using d⟩
  ·exact h
 ·rw[Qzq]
  rcases h with rfl|h
  ·exact Qoq _ (by simp)
  ·exact List.mem_append_left _ h
theorem iO:∀{more l:List (Key×D)} {p:Key×D},p∈aK l more->p∈l\/p∈more
 | [],l,p,h=>.inl h
 | q::more,l,p,h=>by
   rcases iO (more:=more) (l:=putD l q.1 q.2) h with h|h
   · rcases w9 h with h|rfl
     · exact .inl h
     · exact .inr (QBq ..)
   · exact .inr (Qpq _ h)
theorem dE:∀{more l:List (Key×D)} {x:Key},x∈l.map (·.1)\/x∈more.map (·.1)->x∈(aK l more).map (·.1)
 | [],l,x,h=>h.elim id λz=>by cases z
 | q::more,l,x,h=>by
   refine dE (more:=more) (l:=putD l q.1 q.2) ?_
   rcases h with h|h
   · exact .inl (ka (.inr h))
   · rcases Qsq.mp h with rfl|h
     · exact .inl (ka (.inl rfl))
     · exact .inr h
theorem rg:∀a:List Str,v7 (a.map D.str)=some (a.map Sum.inr)
 | []=>rfl
 |s::a=>by simp only[QDq,v7,kh,Qbq];rw[rg a];rfl
section
variable{Γ:cz}{S:aA}
def KI{Q:D->aA->Prop}(q:Q (.ref S.length) (S++ [.dct []])):E K1 Γ S Q:=⟨_,_,rfl,q⟩
def F_{f g:dQ}{Q:D->aA->Prop}(h:E f Γ S λp S1=>E g Γ S1 λr S2=>∃a:List Str,p.1=a.map D.str/\(p.2.stays S2 p.1/\p.1.length=r.1.length)/\Q (.ref S2.length) (S2++ [.dct (aK [] ((a.map Sum.inr).zip r.1))])):E (Hw f g) Γ S Q:=by
 obtain⟨p,S1,b,r,S2,e,a,d,c,q⟩:=h
 refine⟨_,_,?_,q⟩
 unfold Hw
 rw[b]
 simp only[Qbq]
 rw[e]
 simp only[Qbq]
 rw[Qhq c,d,rg]
 rfl
def HN{f g:bc}{Q:D->aA->Prop}(h:E f Γ S λx S1=>E g Γ S1 λy S2=>∃k j a l m,x=.ref k/\y=.ref j/\k≠j/\S1[k]?=some (.dct a)/\S2[k]?=some (.dct l)/\S2[j]?=some (.dct m)/\l.length+m.length<=sizeLine/\Q .non (S2.set k (.dct (aK l m)))):E (EA f g) Γ S Q:=by
 obtain⟨x,S1,b,y,S2,c,k,j,a,l,m,rfl,rfl,hn,h0,h1,h2,h3,q⟩:=h
 exact⟨_,_,by unfold EA;rw[b];simp only[Qbq];rw[c];simp only[Qbq];rw[Qhq hn];simp only[h0,h1,h2];rw[Qhq h3],q⟩
def G3{f g h:bc}{Q:Out->Prop}(w:E h Γ S λd S1=>E f Γ S1 λx S2=>E g Γ S2 λy a=>∃k l z,x=.ref k/\y=.str z/\a[k]?=some (.dct l)/\l.length<sizeLine/\Q (.nx Γ (a.set k (.dct (putD l (.inr z) d))))):T (JC f g h) Γ S Q:=by
 obtain⟨d,S1,b,x,S2,e,y,a,c,k,l,z,rfl,rfl,h1,h2,q⟩:=w
 exact⟨_,by unfold JC;rw[b];simp only[Qbq];rw[e];simp only[Qbq];rw[c];simp only[Qbq,h1,kh];rw[Qhq h2],q⟩
def Kt{α:Type}{n:Nat}{js:List (Option Nat)}{i:sm}{g:jS}{o t:bc}{Q:Out->Prop}(P:cz->Prop)(enc:α->D)(e:α->Str)(d:α->D)(F:P (lR js Γ)) (h:E i Γ S λp S1=>∃xs:List α,p.1=xs.map enc/\p.2 S1/\xs.length<=1000∧
   (∀x∈xs,∀c,P c->Tg g (enc x) c S1 λf S2=>S2=S1/\P f/\E o f S1 λy A=>y=.str (e x)/\A=S1/\E t f S1 λz B=>z=d x/\B=S1)∧
   Q (.nx (Γ.set n (some (.ref S1.length))) (S1++ [.dct (aK [] (xs.map λx=>(Sum.inr (e x),d x)))]))):T (Io n (ox js i g cM o t)) Γ S Q:=by
 obtain⟨⟨N,W⟩,S1,K,xs,rfl,hW,hl,hs,q⟩:=h
 have G:∀(l:List (Key×D)) (k:Key) (v:D),(putD l k v).length<=l.length+1:=λl k v=>by
  unfold putD
  split <;>simp
 have M:∀(j:List α) (c:cz) (b:List (Key×D)),(∀y∈j,y∈xs)->P c->b.length+j.length<=1000->∃r,gW g cM o t W (j.map enc) c S1 b=some (r,S1)/\r=aK b (j.map λx=>(Sum.inr (e x),d x)):=by
  intro j
  induction j with
  |nil=>intro c b _ _ _;exact⟨b,by simp only[List.map_nil,gW];rw[Qhq hW],rfl⟩
  | cons a j L=>
    intro c b w H m
    obtain⟨f,S2,s,rfl,hp1,y,A,e3,rfl,rfl,z,B,e4,rfl,rfl⟩:=hs a (w a (QBq ..)) c H
    have u:=G b (Sum.inr (e a)) (d a)
    simp only[Qnq] at m
    obtain⟨r,C,J⟩:=L f (putD b (Sum.inr (e a)) (d a)) (λy I=>w y (Qpq _ I)) hp1 (by omega)
    refine⟨r,?_,J⟩
    simp only[QDq,gW]
    rw[Qhq hW,s]
    simp only[Qbq,cM,if_true]
    rw[e3]
    simp only[Qbq]
    rw[e4]
    simp only[Qbq,kh]
    rw[Qhq (aV (by omega))]
    exact C
 obtain⟨r,s,rfl⟩:=M xs _ [] (λ_ h=>h) F (by simpa using hl)
 exact⟨_,by unfold Io ox;rw[K];simp only[Qbq];rw[s];rfl,q⟩
end
def Dq{a:cz}{S:aA}{f g:dQ}{Q:(List D×(aA->Prop))->aA->Prop}(h:E f a S λp S1=>E g a S1 λr S2=>(p.2.stays S2 p.1/\p.1.length<=r.1.length)/\Q (w_ p.1 r.1,λS=>p.2.stays S p.1/\r.2.stays S r.1) S2):E (DB f g) a S Q:=by
 obtain⟨p,S1,b,r,S2,d,c,q⟩:=h
 exact⟨_,S2,by unfold DB;rw[b];simp only[Qbq];rw[d];simp only[Qbq];rw[Qhq c],q⟩
def gN(l:List (Key×D)):Prop:=∀p∈l,∃v:Int,p.2=.int v/\0<=v/\v<=9
def gN.merge{l m:List (Key×D)}(c:gN l)(b:gN m):gN (aK l m):=λp a=>(iO a).elim (c p) (b p)
def gN.put{l:List (Key×D)}{k:Key}{v:Int}(h:gN l)(c:0<=v)(b:v<=9):gN (putD l k (.int v)):=λp a=>by
 rcases w9 a with a|rfl
 ·exact h p a
 ·exact⟨v,rfl,c,b⟩
def numAt(l:List (Key×D))(x:Str):Int:=match dv l (.inr x) with|some (.int v)=>v|_=>0
def gZ{l:List (Key×D)}(h:gN l){x:Str}(i:(Sum.inr x:Key)∈l.map (·.1)):dv l (.inr x)=some (.int (numAt l x))/\0<=numAt l x/\numAt l x<=9:=by
 obtain⟨d,b,c⟩:=tm i
 obtain⟨v,a,f,g⟩:=h _ c
 have a:d=.int v:=a
 subst a
 have e:numAt l x=v:=by unfold numAt;rw[b]
 rw[e]
 exact⟨b,f,g⟩
def Dt{d:List Str}{vs:List Int}(h:∀v∈vs,0<=v/\v<=9):gN ((d.map (Sum.inr:Str->Key)).zip (vs.map D.int)):=λp a=>by
 have c:p.2∈vs.map D.int:=(QeQ (show(p.1,p.2)∈_ from a)).2
 obtain⟨v,b,e⟩:=Qkq.mp c
 exact⟨v,e.symm,h v b⟩
def CQ{a:List Str}{ds:List D}(h:a.length=ds.length):((a.map (Sum.inr:Str->Key)).zip ds).map (·.1)=a.map Sum.inr:=by
 rw[List.map_fst_zip]
 simpa using Nat.le_of_eq h
end DL
namespace W28
open PySem PySem.Spec L2 DL
def bQ(ts:List (Str×Nat))(vs:List Int):List (Key×D):=aK [] (((ts.map (·.1)).map Sum.inr).zip (vs.map D.int))
def qE(w:c9)(s:aW)(ts:List (Str×Nat))(vs:List Int):List (Key×D):=aK (bQ w.ak s.ak) (bQ ts vs)
def qR(r:Rm)(b:eT)(a:Int):List (Key×D):=putD (bQ r.ao b.vals) (.inr "given") (.int a)
def zG(r:Rm)(a:eT):List (Key×D):=aK [] ((r.aa.zip a.aa).map λp=>(Sum.inr p.1.1,D.int (p.2.length:Nat)))
def di{ts:List (Str×Nat)}{vs:List Int}(h:∀v∈vs,0<=v/\v<=9):gN (bQ ts vs):=gN.merge (λp a=>by cases a) (Dt h)
def cV{ts:List (Str×Nat)}{vs:List Int}(a:ts.length=vs.length){x:Str}(h:x∈ts.map (·.1)):(Sum.inr x:Key)∈(bQ ts vs).map (·.1):=by
 refine dE (.inr ?_)
 rw[CQ (by simpa using a)]
 exact Qkq.mpr ⟨x,h,rfl⟩
structure pT(S S':aA):Prop where
 len:S.length<=S'.length
 eq:∀j,j<S.length->S'[j]?=S[j]?
def pT.refl{S:aA}:pT S S:=⟨Qmq _,λ_ _=>rfl⟩
def pT.app{S S1 G:aA}(x:pT S S1):pT S (S1++G):=⟨by rw[lQa];have:=x.len;omega,λj a=>by rw[QHq (by have:=x.len;omega)];exact x.eq j a⟩
def pT.put{S S1:aA}{r:Nat}{o:O}(x:pT S S1)(b:S.length<=r):pT S (S1.set r o):=⟨by simpa using x.len,λj a=>by rw[QKq (by omega)];exact x.eq j a⟩
def xC{S a:aA}{d:D}{Q:Res->aA->Prop}(x:pT S a)(hd:∀k,d≠.ref k)(f:bL 0 d=true)(q:Q (.d d) S):Op (settle S d a) λp=>Q p.1 p.2:=by
 refine fe ⟨x.len,λk o c e=>.inl (by rw[←x.eq k c];exact e)⟩ ?_ hd (eN f) q
 apply List.ext_getElem?
 intro j
 by_cases b:j<S.length
 ·rw[List.getElem?_take_of_lt b]
  exact x.eq j b
 ·rw[List.getElem?_eq_none (by rw[Qxq];omega),List.getElem?_eq_none (by omega)]
def fW:∀a:Str×Nat,∃r,nO a=.tup (.str a.1::r):=λa=>⟨_,rfl⟩
def zM:∀a:Str×Str,∃r,HA a=.tup (.str a.1::r):=λa=>⟨_,rfl⟩
section
variable{S:aA}{Q:Res->aA->Prop}
theorem qJ:∀{m l:List (Key×D)},(aK l m).length<=l.length+m.length
 | [],l=>Qmq _
 | q::m,l=>by
   have a:(aK (putD l q.1 q.2) m).length<=(putD l q.1 q.2).length+m.length:=qJ
   have b:(putD l q.1 q.2).length<=l.length+1:=by unfold putD;split <;>simp
   show(aK (putD l q.1 q.2) m).length<=_
   simp only[Qnq]
   omega
def qB{ts:List (Str×Nat)}{vs:List Int}:(bQ ts vs).length<=ts.length:=by
 refine QAq qJ ?_
 simp only[QGq,List.length_zip,lQm]
 omega
def uH{w:c9}{s:aW}{h:Nat}{ts:List (Str×Nat)}{pr:List Rw}{vs:List Int}{fs:List b_}{f:b_}{t:Tr}(y:w.af[h]?=some (ts,pr))(hs:s.af[h]?=some (vs,fs))(A:fs.getLast? =some f)(F:f.room= -1)
  (o:w.ak.length=s.ak.length) (p:ts.length=vs.length) (I:w.ak.length<=100) (L:ts.length<=100) (u:∀v∈s.ak,0<=v/\v<=9) (G:∀v∈vs,0<=v/\v<=9)
  (B:t.Ok (ts.map (·.1)++w.ak.map (·.1)) []) (hd:t.dep<=6) (q:Q (.d (.int (l8 (numAt (qE w s ts vs)) (λ_=>0) t))) S):Fn cU [w.d,s.d,.int h,t.d] S Q:=by
 have c:gN (qE w s ts vs):=gN.merge (di u) (di G)
 refine bF ?_
 unfold jT
 symm
 apply bD hs A ?_
 apply aw (d:=.int f.room) rfl ?_
 refine dJ ?_
 dsimp only
 rw[Qeq F,Qhq rfl]
 symm
 apply F_ ?_
 apply aw rfl ?_
 apply eD (enc:=nO) (nm:=(·.1)) fW (by omega) ?_
 refine aw rfl ?_
 refine dX (ds:=s.ak.map D.int) ?_
 refine⟨_,rfl,⟨trivial,by simp only[lQm];exact o⟩,?_⟩
 dsimp only
 rw[show aK [] (((w.ak.map (·.1)).map (Sum.inr:Str->Key)).zip (s.ak.map D.int))=bQ w.ak s.ak from rfl]
 apply aS (sC (HN ?_))
 apply F_ ?_
 apply aw rfl ?_
 refine aw (d:=dD (ts,pr)) (aO (by rw[gQm,y];rfl)) ?_
 symm
 apply aw rfl ?_
 apply eD (enc:=nO) (nm:=(·.1)) fW (by omega) ?_
 apply aw rfl ?_
 refine aw (d:=pz (vs,fs)) (aO (by rw[gQm,hs];rfl)) ?_
 symm
 refine aw rfl ?_
 refine dX (ds:=vs.map D.int) ?_
 refine⟨_,rfl,⟨trivial,by simp only[lQm];exact p⟩,?_⟩
 dsimp only
 rw[show aK [] (((ts.map (·.1)).map (Sum.inr:Str->Key)).zip (vs.map D.int))=bQ ts vs from rfl]
 have e:(S++ [O.dct (bQ w.ak s.ak)])[S.length]?=some (.dct (bQ w.ak s.ak)):=bh
 have i:(S++ [O.dct (bQ w.ak s.ak)]).length=S.length+1:=by simp
 have H:pT S (S++ [O.dct (bQ w.ak s.ak)]):=pT.refl.app
 show∃k j C l m,D.ref S.length=.ref k/\D.ref (S++ [O.dct (bQ w.ak s.ak)]).length=.ref j/\k≠j/\(S++ [O.dct (bQ w.ak s.ak)])[k]?=some (.dct C)/\(S++ [O.dct (bQ w.ak s.ak)]++ [O.dct (bQ ts vs)])[k]?=some (.dct l)/\(S++ [O.dct (bQ w.ak s.ak)]++ [O.dct (bQ ts vs)])[j]?=some (.dct m)/\_
 refine⟨_,_,_,_,_,rfl,rfl,by omega,e,cb e,bh,?_,?_⟩
 ·have K:=qB (ts:=w.ak) (vs:=s.ak)
  have J:=qB (ts:=ts) (vs:=vs)
  exact nQl (aV (by omega))
 have g:((S++ [O.dct (bQ w.ak s.ak)]++ [O.dct (bQ ts vs)]).set S.length (.dct (aK (bQ w.ak s.ak) (bQ ts vs))))[S.length]?=some (.dct (qE w s ts vs)):=qG (cb e)
 have n:pT S ((S++ [O.dct (bQ w.ak s.ak)]++ [O.dct (bQ ts vs)]).set S.length (.dct (aK (bQ w.ak s.ak) (bQ ts vs)))):=H.app.put (Qmq _)
 generalize ((S++ [O.dct (bQ w.ak s.ak)]++ [O.dct (bQ ts vs)]).set S.length (.dct (aK (bQ w.ak s.ak) (bQ ts vs))))=S2 at g n⊢
 symm
 apply KI ?_
 refine fK (th:=numAt (qE w s ts vs)) (wt:=λ_=>0) (ws:=ts.map (·.1)++w.ak.map (·.1)) (bs:= []) (cb g) bh (λx a=> ?_) (λb r=>by cases r) 6 t B hd ?_
 ·refine(gZ c ?_).1
  refine dE ?_
  rcases mQa.mp a with a|a
  ·exact .inr (cV p a)
  ·exact .inl (cV o a)
 ·exact xC n.app (λk z=>(nomatch z)) rfl q
end
section
variable{S:aA}{Q:Res->aA->Prop}
theorem wJ:∀(bs:List (Str×Str)) (ls:List (List (Int×Int))),w_ ((bs.map (·.1)).map D.str) (ls.map dI)=(bs.zip ls).map λp=>D.tup [.str p.1.1,dI p.2]
 | [],_=>rfl
 |_::_,[]=>rfl
 | b::bs,l::ls=>by
   have:=wJ bs ls
   simp only[w_,QDq,List.zipWith_cons_cons,List.zip_cons_cons] at this⊢
   rw[this]
def t8(r:Rm)(a:eT)(x:Str):Int:=numAt (zG r a) x
def Cj{r:Rm}{a:eT}(l:r.aa.length=a.aa.length){x:Str}(h:x∈r.aa.map (·.1)):dv (zG r a) (.inr x)=some (.int (t8 r a x)):=by
 have g:(Sum.inr x:Key)∈(zG r a).map (·.1):=by
  refine dE (.inr ?_)
  rw[QPq]
  obtain⟨b,k,rfl⟩:=Qkq.mp h
  obtain⟨i,f,e⟩:=QbQ k
  refine Qkq.mpr ⟨(b,a.aa[i]'(by omega)),?_,rfl⟩
  rw[←e]
  have:(r.aa.zip a.aa)[i]?=some (r.aa[i],a.aa[i]'(by omega)):=by
   rw[List.getElem?_zip_eq_some]
   exact⟨gQe f,gQe (by omega)⟩
  exact mQg this
 obtain⟨d,j,c⟩:=tm g
 have f:∃v:Int,d=.int v:=by
  rcases iO c with c|c
  ·cases c
  ·obtain⟨p,_,e⟩:=Qkq.mp c
   exact⟨_,(congrArg (·.2) e).symm⟩
 obtain⟨v,rfl⟩:=f
 unfold t8 DL.numAt
 rw[j]
def sj{w:c9}{s:aW}{h i:Nat}{vs:List Int}{fs:List b_}{f:b_}{r:Rm}{c:eT}{t:Tr}(hs:s.af[h]?=some (vs,fs))(F:fs.getLast? =some f)(H:f.room=i)(o:w.aj[i]?=some r)(e:s.aj[i]?=some c)
  (A:r.ao.length=c.vals.length) (I:r.aa.length=c.aa.length) (K:r.ao.length<=100) (M:r.aa.length<=100) (C:∀v∈c.vals,0<=v/\v<=9) (u:0<=f.given/\f.given<=9)
  (G:t.Ok (r.ao.map (·.1)++nI) (r.aa.map (·.1))) (hd:t.dep<=6) (q:Q (.d (.int (l8 (numAt (qR r c f.given)) (t8 r c) t))) S):Fn cU [w.d,s.d,.int h,t.d] S Q:=by
 have j:gN (qR r c f.given):=(di C).put u.1 u.2
 refine bF ?_
 unfold jT
 symm
 apply bD hs F ?_
 apply aw (d:=.int f.room) rfl ?_
 refine dJ ?_
 dsimp only
 rw[Qdq (show¬f.room= -1 by omega),Quq (by decide),H]
 apply bC ?_
 apply F_ ?_
 apply aw rfl ?_
 refine aw (d:=r.d) (aO (by rw[gQm,o];rfl)) ?_
 symm
 apply aw rfl ?_
 apply eD (enc:=nO) (nm:=(·.1)) fW (by omega) ?_
 apply aw rfl ?_
 refine aw (d:=c.d) (aO (by rw[gQm,e];rfl)) ?_
 symm
 refine aw rfl ?_
 refine dX (ds:=c.vals.map D.int) ?_
 refine⟨_,rfl,⟨trivial,by simp only[lQm];exact A⟩,?_⟩
 dsimp only
 rw[show aK [] (((r.ao.map (·.1)).map (Sum.inr:Str->Key)).zip (c.vals.map D.int))=bQ r.ao c.vals from rfl]
 have J:pT S (S++ [O.dct (bQ r.ao c.vals)]):=pT.refl.app
 apply aS (G3 ?_)
 apply aw (d:=.int f.given) rfl ?_
 refine⟨_,_,_,rfl,rfl,bh,aV (by have:=qB (ts:=r.ao) (vs:=c.vals);omega),?_⟩
 have n:((S++ [O.dct (bQ r.ao c.vals)]).set S.length (.dct (putD (bQ r.ao c.vals) (.inr "given") (.int f.given))))[S.length]?=some (.dct (qR r c f.given)):=qG bh
 have y:pT S ((S++ [O.dct (bQ r.ao c.vals)]).set S.length (.dct (putD (bQ r.ao c.vals) (.inr "given") (.int f.given)))):=J.put (Qmq _)
 generalize ((S++ [O.dct (bQ r.ao c.vals)]).set S.length (.dct (putD (bQ r.ao c.vals) (.inr "given") (.int f.given))))=S2 at n y⊢
 apply aS (Kt (α:=(Str×Str)×List (Int×Int)) (λl=>∃a b,l= [a,b]) (λp=>D.tup [.str p.1.1,dI p.2]) (λp=>p.1.1) (λp=>.int (p.2.length:Nat)) ⟨none,none,rfl⟩ (Dq ?_))
 apply aw rfl ?_
 refine aw (d:=r.d) (aO (by rw[gQm,o];rfl)) ?_
 symm
 apply aw rfl ?_
 apply eD (enc:=HA) (nm:=(·.1)) zM (by omega) ?_
 apply aw rfl ?_
 refine aw (d:=c.d) (aO (by rw[gQm,e];rfl)) ?_
 symm
 refine aw rfl ?_
 refine dX (ds:=c.aa.map dI) ?_
 refine⟨⟨trivial,by simp only[lQm];omega⟩,r.aa.zip c.aa,wJ _ _,⟨trivial,trivial⟩,by rw[List.length_zip];omega,λp L l m=> ?_,?_⟩
 ·obtain⟨a,b,rfl⟩:=m
  refine eU rfl (ay (aY (ay (aY (bq ?_)))))
  apply⟨rfl,⟨_,_,rfl⟩,?_⟩
  apply⟨rfl,rfl,?_⟩
  refine dX (ds:=p.2.map pairD) ?_
  exact⟨by simp,rfl⟩
 symm
 refine fK (th:=numAt (qR r c f.given)) (wt:=t8 r c) (ws:=r.ao.map (·.1)++nI) (bs:=r.aa.map (·.1)) (kws:=zG r c) (cb n) bh (λx g=> ?_) (λb B=>Cj I B) 6 t G hd ?_
 ·refine(gZ j ?_).1
  refine ka ?_
  rcases mQa.mp g with g|g
  ·exact .inr (cV A g)
  ·left
   rw[Qfq.mp g]
 ·exact xC y.app (λk z=>(nomatch z)) rfl q
end
end W28
namespace DL
open PySem PySem.Spec L2
def E8{b:cz}{S:aA}{a:Bool}{f:bc}{g:dQ}{Q:D->aA->Prop}(h:E f b S λx S1=>E g b S1 λp S2=>∃v vs,vC x=some v/\m4 p.1=some vs/\Q (.bl (if a then !CT v vs else CT v vs)) S2):E (DX a f g) b S Q:=by
 obtain⟨x,S1,c,p,S2,i,v,vs,e,d,q⟩:=h
 exact⟨_,S2,by unfold DX;rw[c];simp only[Qbq];rw[i];simp only[Qbq];rw[e,d];rfl,q⟩
def EW{x:Str}{b:List Str}:CT (.str x) (b.map V.str)=decide (x∈b):=by
 induction b with
 |nil=>rfl
 | cons a b d=>
   show(pY (.str a) (.str x)||CT (.str x) (b.map V.str))=_
   rw[d]
   simp only[pY,Qsq]
   by_cases c:a=x
   · subst c;simp
   · have e:¬x=a:=λz=>c z.symm
     simp[c,e]
end DL
namespace W28
open PySem PySem.Spec L2 DL
section
variable{S:aA}{Q:Res->aA->Prop}
def bA(ns:List Str)(vs:List Int)(x:Str)(v:Int):List Int:=vs.set ((mJ (.str x) (ns.map V.str)).getD 0) v
def mS{α:Type}{enc:α->D}{nm:α->Str}{xs:List α}{x:Str}(he:∀a,∃r,enc a=.tup (.str (nm a)::r))(g:xs.length<=1000)(h:x∈xs.map nm)(q:((mJ (.str x) ((xs.map nm).map V.str)).getD 0)<xs.length->Q (.d (.int ((mJ (.str x) ((xs.map nm).map V.str)).getD 0:Nat))) S):Fn cy [.tup (xs.map enc),.str x] S Q:=by
 refine bF ?_
 unfold nK
 obtain⟨j,e,f⟩:=uX h
 have l:j<xs.length:=by have:=(gQs.mp f).1;simpa using this
 rw[e] at q
 refine eG ?_
 have c:E (kd (eW dm (ar (au 0) av))) ([D.tup (xs.map enc),D.str x].map some++List.replicate (2- [D.tup (xs.map enc),D.str x].length) none) S λp b=>p=((xs.map nm).map D.str,.fr)/\b=S:=by
  symm
  exact eD he g ⟨rfl,rfl⟩
 obtain⟨p,b,i,rfl,rfl⟩:=c
 refine⟨.int j,b,?_,bU (λk z=>(nomatch z)) rfl (q l)⟩
 unfold Gd
 rw[i]
 simp only[Qbq]
 rw[Qhq (show Tag.fr.isL=true from rfl)]
 show((au 1 _ b).bind _)=_
 rw[show au 1 ([D.tup (xs.map enc),D.str x].map some++List.replicate (2- [D.tup (xs.map enc),D.str x].length) none) b=some (.str x,b) from rfl]
 simp only[Qbq]
 rw[Qhq (show Tag.stays b _ .fr from trivial)]
 show(vC (.str x)).bind _=_
 simp only[vC,Qbq]
 rw[kX]
 simp only[Qbq]
 rw[e]
 rfl
def C0{w:c9}{s:aW}{h i:Nat}{vs:List Int}{fs:List b_}{f:b_}{r:Rm}{a:eT}{x:Str}{v:Int}(hs:s.af[h]?=some (vs,fs))(g:fs.getLast? =some f)(j:f.room=i)(c:w.aj[i]?=some r)(b:s.aj[i]?=some a)
  (o:r.ao.length=a.vals.length) (l:r.ao.length<=100) (m:s.aj.length<=100) (k:x∈r.ao.map (·.1))
  (q:Q (.d ({s with aj:=s.aj.set i {a with vals:=bA (r.ao.map (·.1)) a.vals x v}}:aW).d) S):Fn ef [w.d,s.d,.int h,.str x,.int v] S Q:=by
 refine bF ?_
 unfold iV
 symm
 apply bD hs g ?_
 apply aw (d:=.int f.room) rfl ?_
 refine kF ?_
 dsimp only
 rw[Qdq (show¬f.room= -1 by omega),j]
 show if (true=true) then _ else _
 rw[Qhq rfl]
 symm
 apply aw rfl ?_
 refine aw (d:=r.d) (aO (by rw[gQm,c];rfl)) ?_
 symm
 apply aw rfl ?_
 apply mS (enc:=nO) (nm:=(·.1)) fW (by omega) k λn=> ?_
 apply aw rfl ?_
 refine aw (d:=a.d) (aO (by rw[gQm,b];rfl)) ?_
 symm
 apply aw rfl ?_
 refine df (xs:=a.vals.map D.int) (by rw[lQm];omega) (by rw[lQm];omega) (aQ λ_ _=>rfl) rfl ?_
 symm
 refine⟨by show 1<=_;decide,?_⟩
 apply iI ?_
 apply aw rfl ?_
 refine aw (d:=a.d) (aO (by rw[gQm,b];rfl)) ?_
 apply cf ?_
 refine⟨_,rfl,cg ⟨_,rfl,?_⟩⟩
 refine dr (by show 5<=_;decide) ?_
 symm
 have e:({a with vals:=bA (r.ao.map (·.1)) a.vals x v}:eT).d=.tup ([.tup ((a.vals.map D.int).set ((mJ (.str x) ((r.ao.map (·.1)).map V.str)).getD 0) (.int v))]++hJ [b9 a.vals,.int a.within,b9 a.row,b9 a.ag,.tup (a.aa.map dI)] (some 1) none):=by
  show D.tup [b9 (bA _ _ _ _),_,_,_,_]=_
  unfold bA b9
  rw[map_set]
  rfl
 rw[←e]
 refine cE (gQs.mp b).1 (by omega) ?_
 exact bU (aN _) (aW.low _) q
end
section
variable{S:aA}{Q:Res->aA->Prop}
def oE(w:c9)(s:aW)(h:Nat)(ts:List (Str×Nat))(vs:List Int)(fs:List b_)(x:Str)(v:Int):aW:=
 if x∈w.ak.map (·.1) then{s with ak:=bA (w.ak.map (·.1)) s.ak x v} else{s with af:=s.af.set h (bA (ts.map (·.1)) vs x v,fs)}
def D7{w:c9}{s:aW}{h:Nat}{ts:List (Str×Nat)}{pr:List Rw}{vs:List Int}{fs:List b_}{f:b_}{x:Str}{v:Int}(e:w.af[h]?=some (ts,pr))(hs:s.af[h]?=some (vs,fs))(g:fs.getLast? =some f)(j:f.room= -1)
  (t:w.ak.length=s.ak.length) (u:ts.length=vs.length) (n:w.ak.length<=100) (r:ts.length<=100) (o:s.af.length<=100) (k:x∈ts.map (·.1)++w.ak.map (·.1))
  (q:Q (.d (oE w s h ts vs fs x v).d) S):Fn ef [w.d,s.d,.int h,.str x,.int v] S Q:=by
 refine bF ?_
 unfold iV
 symm
 apply bD hs g ?_
 apply aw (d:=.int f.room) rfl ?_
 refine kF ?_
 dsimp only
 rw[Qeq j]
 refine aH (λc=>by cases c) (λ_=>bC ?_)
 apply aS (bV (eA (E8 ?_)))
 apply aw rfl ?_
 apply eD (enc:=nO) (nm:=(·.1)) fW (by omega) ?_
 refine⟨_,_,rfl,kX _,?_⟩
 unfold oE at q
 show if CT (.str x) ((w.ak.map (·.1)).map V.str)=true then _ else _
 rw[EW]
 by_cases c:x∈w.ak.map (·.1)
 ·rw[Qhq c] at q
  rw[Qeq c,Qhq rfl]
  symm
  apply aw rfl ?_
  apply aw rfl ?_
  apply mS (enc:=nO) (nm:=(·.1)) fW (by omega) c λl=> ?_
  refine df (xs:=s.ak.map D.int) (by rw[lQm];omega) (by rw[lQm];omega) (aQ λ_ _=>rfl) rfl ?_
  symm
  apply aw rfl ?_
  apply aw rfl ?_
  apply aw rfl ?_
  refine⟨by show 4<=_;decide,?_⟩
  rw[←map_set]
  exact bU (d:=({s with ak:=bA (w.ak.map (·.1)) s.ak x v}:aW).d) (aN _) (aW.low _) q
 ·rw[Quq c] at q
  rw[Qdq c,Quq (by decide)]
  refine bC ?_
  have a:x∈ts.map (·.1):=(mQa.mp k).resolve_right c
  symm
  apply aw rfl ?_
  refine aw (d:=pz (vs,fs)) (aO (by rw[gQm,hs];rfl)) ?_
  apply eU rfl (ay (aY (ay (aY (bq ?_)))))
  apply aw rfl ?_
  refine aw (d:=dD (ts,pr)) (aO (by rw[gQm,e];rfl)) ?_
  symm
  apply aw rfl ?_
  apply mS (enc:=nO) (nm:=(·.1)) fW (by omega) a λl=> ?_
  refine df (xs:=vs.map D.int) (by rw[lQm];omega) (by rw[lQm];omega) (aQ λ_ _=>rfl) rfl ?_
  symm
  rw[←map_set]
  rw[show D.tup ((vs.set ((mJ (.str x) ((ts.map (·.1)).map V.str)).getD 0) v).map D.int)=b9 (bA (ts.map (·.1)) vs x v) from rfl]
  generalize bA (ts.map (·.1)) vs x v=nv at q⊢
  have i:h<s.af.length:=(gQs.mp hs).1
  have b:s.af.length<=900:=by omega
  have m:Op (settle S ({s with af:=s.af.set h (nv,fs)}:aW).d S) λp=>Q p.1 p.2:=bU (aN _) (aW.low _) q
  exact fS i b m
end
section
variable{S:aA}{Q:Res->aA->Prop}
def cx(ns:List Str)(x:Str):Nat:=(mJ (.str x) (ns.map V.str)).getD 0
def gu{ns:List Str}{x:Str}(h:x∈ns):cx ns x<ns.length/\ns[cx ns x]?=some x:=by
 obtain⟨j,b,a⟩:=uX h
 unfold cx
 rw[b]
 exact⟨(gQs.mp a).1,a⟩
def ig{α:Type}{enc:α->D}{nm:α->Str}{xs:List α}{x:Str}(he:∀a,∃r,enc a=.tup (.str (nm a)::r))(b:xs.length<=1000)(c:x∈xs.map nm)(q:Q (.d (.int (cx (xs.map nm) x:Nat))) S):Fn cy [.tup (xs.map enc),.str x] S Q:=mS he b c λ_=>q
def lY{w:c9}{s:aW}{h i:Nat}{vs:List Int}{fs:List b_}{f:b_}{r:Rm}{x:Str}(hs:s.af[h]?=some (vs,fs))(b:fs.getLast? =some f)(c:f.room=i)(a:w.aj[i]?=some r)(g:r.aa.length<=100)(e:x∈r.aa.map (·.1))
  (q:Q (.d (.tup [.int i,.int (cx (r.aa.map (·.1)) x:Nat)])) S):Fn g9 [w.d,s.d,.int h,.str x] S Q:=by
 refine bF ?_
 unfold rG
 symm
 apply bD hs b ?_
 refine aw (d:=.int f.room) rfl ?_
 rw[c]
 symm
 apply aw rfl ?_
 refine aw (d:=r.d) (aO (by rw[gQm,a];rfl)) ?_
 symm
 apply aw rfl ?_
 apply ig (enc:=HA) (nm:=(·.1)) zM (by omega) e ?_
 refine⟨by show 2<=_;decide,?_⟩
 exact bU (λk z=>(nomatch z)) rfl q
def iR{s:aW}{i b:Nat}{a:eT}{l:List (Int×Int)}(c:s.aj[i]?=some a)(m:b<a.aa.length)(k:a.aa.length<=100)(n:s.aj.length<=100)
  (q:Q (.d ({s with aj:=s.aj.set i {a with aa:=a.aa.set b l}}:aW).d) S):Fn dZ [s.d,.int i,.int b,dI l] S Q:=by
 refine bF ?_
 unfold lF
 symm
 apply aw rfl ?_
 refine aw (d:=a.d) (aO (by rw[gQm,c];rfl)) ?_
 symm
 apply iI ?_
 apply cg (cf ?_)
 apply⟨_,rfl,_,rfl,?_⟩
 apply aw rfl ?_
 refine df (xs:=a.aa.map dI) (by rw[lQm];omega) (by rw[lQm];omega) (aQ λl _=>rZ l) (rZ l) ?_
 symm
 refine⟨by show 1<=_;decide,?_⟩
 refine dr (by show 5<=_;decide) ?_
 symm
 rw[←map_set]
 generalize h:a.aa.set b l=nb at q⊢
 have e:({a with aa:=nb}:eT).d=.tup (hJ [b9 a.vals,.int a.within,b9 a.row,b9 a.ag,.tup (a.aa.map dI)] none (some 4)++ [.tup (nb.map dI)]):=rfl
 rw[←e]
 have g:i<s.aj.length:=(gQs.mp c).1
 have f:s.aj.length<=900:=by omega
 have j:Op (settle S ({s with aj:=s.aj.set i {a with aa:=nb}}:aW).d S) λp=>Q p.1 p.2:=bU (aN _) (aW.low _) q
 exact cE g f j
def gY(p:Int×List Int)(h:Int):Int×List Int:=if 0<p.1 then(p.1-1,p.2) else(p.1,p.2++ [h])
def fG(p:Int×List Int):Int×List Int:=match p.2 with
 |_::l=>(p.1,l)
 | []=>(if 9<p.1+1 then 9 else p.1+1,[])
def wX{w:c9}{s:aW}{h:Int}{x:Str}{p:Int×List Int}(i:x∈w.ai.map (·.1))(b:s.ai[cx (w.ai.map (·.1)) x]?=some p)(k:w.ai.length<=100)(l:s.ai.length<=100)(m:p.2.length<=900)
  (q:Q (.d ({s with ai:=s.ai.set (cx (w.ai.map (·.1)) x) (gY p h)}:aW).d) S):Fn ql [w.d,s.d,.int h,.str x] S Q:=by
 refine bF ?_
 unfold yK
 symm
 apply aw rfl ?_
 refine ig (enc:=nO) (nm:=(·.1)) fW (by omega) i ?_
 generalize cx (w.ai.map (·.1)) x=j at b q⊢
 have f:j<s.ai.length:=(gQs.mp b).1
 have g:s.ai.length<=900:=by omega
 symm
 apply aw rfl ?_
 refine aw (d:=zL p) (aO (by rw[gQm,b];rfl)) ?_
 refine eU rfl (ay (aY (ay (aY (bq ?_)))))
 have a:Op (settle S ({s with ai:=s.ai.set j (gY p h)}:aW).d S) λp=>Q p.1 p.2:=bU (aN _) (aW.low _) q
 unfold gY at a
 symm
 by_cases c:0<p.1
 ·rw[Qhq c] at a
  rw[Qeq c,Qhq rfl]
  symm
  refine⟨by show 2<=_;decide,?_⟩
  symm
  exact fU (p:=(p.1-1,p.2)) f g a
 ·rw[Quq c] at a
  rw[Qdq c,Quq (by decide)]
  apply bC ?_
  refine⟨by show 1<=_;decide,?_⟩
  refine dr (by simp only[lQm,Qnq,QGq];exact nQl (aV (by omega))) ?_
  symm
  refine⟨by show 2<=_;decide,?_⟩
  symm
  have e:D.tup [.int p.1,.tup (p.2.map D.int++ [.int h])]=zL (p.1,p.2++ [h]):=by simp[zL,b9]
  rw[e]
  exact fU f g a
end
section
variable{S:aA}{Q:Res->aA->Prop}
def kC{w:c9}{s:aW}{x:Str}{p:Int×List Int}(k:x∈w.ai.map (·.1))(b:s.ai[cx (w.ai.map (·.1)) x]?=some p)(m:w.ai.length<=100)(n:s.ai.length<=100)
  (q:Q (.d ({s with ai:=s.ai.set (cx (w.ai.map (·.1)) x) (fG p)}:aW).d) S):Fn fE [w.d,s.d,.str x] S Q:=by
 refine bF ?_
 unfold jG
 symm
 apply aw rfl ?_
 refine ig (enc:=nO) (nm:=(·.1)) fW (by omega) k ?_
 generalize cx (w.ai.map (·.1)) x=j at b q⊢
 have h:j<s.ai.length:=(gQs.mp b).1
 have g:s.ai.length<=900:=by omega
 symm
 apply aw rfl ?_
 refine aw (d:=zL p) (aO (by rw[gQm,b];rfl)) ?_
 refine eU rfl (ay (aY (ay (aY (bq ?_)))))
 have i:Op (settle S ({s with ai:=s.ai.set j (fG p)}:aW).d S) λp=>Q p.1 p.2:=bU (aN _) (aW.low _) q
 obtain⟨v,f⟩:=p
 symm
 refine vM ?_
 cases f with
 | cons a l=>
   apply aH (λ_=> ?_) (λc=>by cases c)
   apply iI ?_
   apply cf ?_
   apply⟨_,rfl,cg ⟨_,rfl,?_⟩⟩
   refine⟨by show 2<=_;decide,?_⟩
   symm
   have e:D.tup (hJ ((a::l).map D.int) (some 1) none)=b9 l:=by
     rw[show(some (1:Int))=some ((1:Nat):Int) from rfl,gn (by simp)]
     rfl
   rw[e]
   exact fU (p:=(v,l)) h g i
 | nil=>
   apply aH (λc=>by cases c) (λ_=>bC ?_)
   apply Aj ?_
   refine⟨by show 2<=_;decide,?_⟩
   symm
   exact fU (p:=(if 9<v+1 then 9 else v+1,[])) h g i
def AO{b sd hd a:D}{s:aW}(q:Q (.d s.d) S):Fn qd [b,s.d,hd,a] S Q:=by
 refine bF ?_
 unfold vo
 symm
 exact bU (aN _) (aW.low _) q
def Dm{g:D}{s:aW}{h n:Nat}{vs:List Int}{fs:List b_}{f:b_}(c:s.af[h]?=some (vs,fs))(b:fs.getLast? =some f)(e:fs.length<=900)(a:s.af.length<=900)(q:Q (.d ({s with af:=s.af.set h (vs,fs.dropLast++ [{f with row:=n}])}:aW).d) S):Fn uN [g,s.d,.int h,(Rw.go n).d] S Q:=by
 refine bF ?_
 unfold yw
 symm
 apply aw (d:=.int n) rfl ?_
 have i:Op (settle S ({s with af:=s.af.set h (vs,fs.dropLast++ [{f with row:=n}])}:aW).d S) λp=>Q p.1 p.2:=bU (aN _) (aW.low _) q
 exact nB c b e a i
end
section
variable{S:aA}{Q:Res->aA->Prop}
def y3{w:c9}{s:aW}{h:Int}{x:Str}{p:Int×List Int}(g:x∈w.ai.map (·.1))(a:s.ai[cx (w.ai.map (·.1)) x]?=some p)(b:w.ai.length<=100)(c:s.ai.length<=100)(e:p.2.length<=900)
  (q:Q (.d ({s with ai:=s.ai.set (cx (w.ai.map (·.1)) x) (gY p h)}:aW).d) S):Fn mL [w.d,s.d,.int h,(Rw.take x).d] S Q:=by
 refine bF ?_
 unfold qv
 symm
 apply aw (d:=.str x) rfl ?_
 have f:Op (settle S ({s with ai:=s.ai.set (cx (w.ai.map (·.1)) x) (gY p h)}:aW).d S) λp=>Q p.1 p.2:=bU (aN _) (aW.low _) q
 exact wX g a b c e f
def yj{w:c9}{s:aW}{hd:D}{x:Str}{p:Int×List Int}(f:x∈w.ai.map (·.1))(a:s.ai[cx (w.ai.map (·.1)) x]?=some p)(b:w.ai.length<=100)(c:s.ai.length<=100)
  (q:Q (.d ({s with ai:=s.ai.set (cx (w.ai.map (·.1)) x) (fG p)}:aW).d) S):Fn mq [w.d,s.d,hd,(Rw.give x).d] S Q:=by
 refine bF ?_
 unfold rX
 symm
 apply aw (d:=.str x) rfl ?_
 have e:Op (settle S ({s with ai:=s.ai.set (cx (w.ai.map (·.1)) x) (fG p)}:aW).d S) λp=>Q p.1 p.2:=bU (aN _) (aW.low _) q
 exact kC f a b c e
end
section
variable{S:aA}{Q:Res->aA->Prop}
def yk(w:c9)(s:aW)(h:Nat)(t:Tr)(v:Int):Prop:=∀(S:aA) (Q:Res->aA->Prop),Q (.d (.int v)) S->Fn cU [w.d,s.d,.int h,t.d] S Q
def Puts(w:c9)(s:aW)(h:Nat)(x:Str)(v:Int)(a:aW):Prop:=∀(S:aA) (Q:Res->aA->Prop),Q (.d a.d) S->Fn ef [w.d,s.d,.int h,.str x,.int v] S Q
def yl{w:c9}{s:aW}{h:Int}{x y:Str}{p a:Int×List Int}(k:x∈w.ai.map (·.1))(g:y∈w.ai.map (·.1))(f:s.ai[cx (w.ai.map (·.1)) x]?=some p)(c:w.ai.length<=100)(e:s.ai.length<=100)(i:a.2.length<=900)
  (b:(s.ai.set (cx (w.ai.map (·.1)) x) (fG p))[cx (w.ai.map (·.1)) y]?=some a)
  (q:Q (.d ({s with ai:=(s.ai.set (cx (w.ai.map (·.1)) x) (fG p)).set (cx (w.ai.map (·.1)) y) (gY a h)}:aW).d) S):Fn mH [w.d,s.d,.int h,(Rw.pass x y).d] S Q:=by
 refine bF ?_
 unfold qx
 symm
 apply aw (d:=.str x) rfl ?_
 apply kC k f c e ?_
 apply aw (d:=.str y) rfl ?_
 have j:Op (settle S ({s with ai:=(s.ai.set (cx (w.ai.map (·.1)) x) (fG p)).set (cx (w.ai.map (·.1)) y) (gY a h)}:aW).d S) λp=>Q p.1 p.2:=bU (aN _) (aW.low _) q
 exact wX (s:={s with ai:=s.ai.set (cx (w.ai.map (·.1)) x) (fG p)}) g b c (by simpa using e) i j
def Bk{w:c9}{s a:aW}{h:Nat}{x:Str}{t:Tr}{v:Int}(c:yk w s h t v)(b:Puts w s h x v a)(q:Q (.d a.d) S):Fn p8 [w.d,s.d,.int h,(Rw.put x t).d] S Q:=by
 refine bF ?_
 unfold vq
 symm
 apply aw (d:=.str x) rfl ?_
 apply aw (d:=t.d) rfl ?_
 apply c _ _ ?_
 refine b _ _ ?_
 exact bU (aN _) (aW.low _) q
def vA{w:c9}{s:aW}{h n:Nat}{t:Tr}{v:Int}{vs:List Int}{fs:List b_}{f:b_}(g:yk w s h t v)(b:s.af[h]?=some (vs,fs))(a:fs.getLast? =some f)(i:fs.length<=900)(e:s.af.length<=900)
  (q:Q (.d (if v=0 then({s with af:=s.af.set h (vs,fs.dropLast++ [{f with row:=n}])}:aW) else s).d) S):Fn iq [w.d,s.d,.int h,(Rw.unl t n).d] S Q:=by
 refine bF ?_
 unfold kO
 symm
 apply aw (d:=t.d) rfl ?_
 apply g _ _ ?_
 refine dJ ?_
 dsimp only
 by_cases c:v=0
 ·rw[Qhq c] at q
  rw[Qeq c,Qhq rfl]
  symm
  apply aw (d:=.int n) rfl ?_
  have j:Op (settle S ({s with af:=s.af.set h (vs,fs.dropLast++ [{f with row:=n}])}:aW).d S) λp=>Q p.1 p.2:=bU (aN _) (aW.low _) q
  exact nB b a i e j
 ·rw[Quq c] at q
  rw[Qdq c,Quq (by decide)]
  apply bC ?_
  exact bU (aN _) (aW.low _) q
end
section
variable{S:aA}{Q:Res->aA->Prop}
def yx{w:c9}{s:aW}{h:Nat}{t:Tr}{v:Int}{vs:List Int}{fs:List b_}{f:b_}(j:yk w s h t v)(e:s.af[h]?=some (vs,fs))(c:fs.getLast? =some f)(k:fs.length<=900)(i:s.af.length<=900)
  (q:Q (.d ({s with af:=s.af.set h (vs,fs.dropLast++ [{f with told:=v}])}:aW).d) S):Fn mv [w.d,s.d,.int h,(Rw.tell t).d] S Q:=by
 refine bF ?_
 unfold qy
 symm
 apply aw (d:=t.d) rfl ?_
 apply j _ _ ?_
 apply iI ?_
 refine bD e c ?_
 apply cg (cf ?_)
 apply⟨_,rfl,_,rfl,?_⟩
 refine⟨by show 1<=_;decide,?_⟩
 refine dr (by show 5<=_;decide) ?_
 symm
 have g:0<fs.length:=by
  cases fs with
  |nil=>cases c
  |cons a b=>simp
 have l:Op (settle S ({s with af:=s.af.set h (vs,fs.dropLast++ [{f with told:=v}])}:aW).d S) λp=>Q p.1 p.2:=bU (aN _) (aW.low _) q
 exact gf (f:={f with told:=v}) e g k i l
def Br{w:c9}{s:aW}{h i:Nat}{vs:List Int}{fs:List b_}{f:b_}{r:Rm}{a:eT}{x:Str}(hs:s.af[h]?=some (vs,fs))(m:fs.getLast? =some f)(n:f.room=i)(k:w.aj[i]?=some r)(c:s.aj[i]?=some a)(o:r.aa.length<=100)(u:r.aa.length=a.aa.length)(j:s.aj.length<=100)(g:x∈r.aa.map (·.1))
  (q:Q (.d ({s with aj:=s.aj.set i {a with aa:=a.aa.set (cx (r.aa.map (·.1)) x) []}}:aW).d) S):Fn p6 [w.d,s.d,.int h,(Rw.all x).d] S Q:=by
 have e:=(gu g).1
 rw[lQm] at e
 refine bF ?_
 unfold uY
 symm
 apply aw (d:=.str x) rfl ?_
 refine lY hs m n k o g ?_
 refine eU rfl (ay (aY (ay (aY (bq ?_)))))
 generalize cx (r.aa.map (·.1)) x=b at e q⊢
 symm
 apply⟨by decide,?_⟩
 have t:Op (settle S ({s with aj:=s.aj.set i {a with aa:=a.aa.set b []}}:aW).d S) λp=>Q p.1 p.2:=bU (aN _) (aW.low _) q
 exact iR (l:= []) c (by omega) (by omega) j t
end
section
variable{S:aA}{Q:Res->aA->Prop}
def GK:∀a:Rm,∃r,a.d=.tup (.str a.name::r):=λa=>⟨_,rfl⟩
def DH:∀a:Str×List Rw,∃r,t_ a=.tup (.str a.1::r):=λa=>⟨_,rfl⟩
def DC{w:c9}{s:aW}{h:Nat}{g:Option Str}{a c:Str}{t:Tr}{v:Int}{vs:List Int}{fs:List b_}{r:Rm}{f:eT}(o:yk w s h t v)(hs:s.af[h]?=some (vs,fs))(j:a∈w.aj.map (·.name))(l:w.aj[cx (w.aj.map (·.name)) a]?=some r)(b:s.aj[cx (w.aj.map (·.name)) a]?=some f)(k:c∈r.ae.map (·.1))
  (y:w.aj.length<=100) (C:r.ae.length<=100) (B:s.aj.length<=100) (u:f.row.length<=900) (z:fs.length<=900) (A:s.af.length<=100)
  (q:Q (.d ({s with af:=s.af.set h (vs,fs++ [⟨(cx (w.aj.map (·.name)) a:Nat),(cx (r.ae.map (·.1)) c:Nat),0,v,0⟩]),aj:=s.aj.set (cx (w.aj.map (·.name)) a) (jB f h)}:aW).d) S):Fn vW [w.d,s.d,.int h,(Rw.do_ g a c t).d] S Q:=by
 refine bF ?_
 unfold yX
 symm
 apply aw rfl ?_
 apply aw (d:=.str a) rfl ?_
 refine ig (enc:=Rm.d) (nm:=(·.name)) GK (by omega) j ?_
 generalize cx (w.aj.map (·.name)) a=i at l b q⊢
 symm
 apply aw rfl ?_
 refine aw (d:=r.d) (aO (by rw[gQm,l];rfl)) ?_
 symm
 apply aw rfl ?_
 apply aw (d:=.str c) rfl ?_
 refine ig (enc:=t_) (nm:=(·.1)) DH (by omega) k ?_
 generalize cx (r.ae.map (·.1)) c=dd at q⊢
 symm
 apply aw (d:=t.d) rfl ?_
 apply o _ _ ?_
 refine⟨by show 5<=_;decide,?_⟩
 symm
 apply aw rfl ?_
 refine aw (d:=pz (vs,fs)) (aO (by rw[gQm,hs];rfl)) ?_
 apply eU rfl (ay (aY (ay (aY (bq ?_)))))
 refine⟨by show 1<=_;decide,?_⟩
 refine dr (by simp only[lQm,Qnq,QGq];exact nQl (aV (by omega))) ?_
 symm
 have e:fs.map b_.d++ [D.tup [.int i,.int dd,.int 0,.int v,.int 0]]=(fs++ [(⟨i,dd,0,v,0⟩:b_)]).map b_.d:=by rw[Qzq];rfl
 rw[e]
 generalize m:fs++ [(⟨i,dd,0,v,0⟩:b_)]=nf at q⊢
 have n:h<s.af.length:=(gQs.mp hs).1
 apply fS (vs:=vs) (fs:=nf) n (by omega) ?_
 have x:Op (settle S ({s with af:=s.af.set h (vs,nf),aj:=s.aj.set i (jB f h)}:aW).d S) λp=>Q p.1 p.2:=bU (aN _) (aW.low _) q
 exact qm (s:={s with af:=s.af.set h (vs,nf)}) b (by show s.aj.length<=900;omega) u x
end
section
variable{S:aA}{Q:Res->aA->Prop}
def qU(free:Bool)(a:eT)(b:Nat)(h:Int):eT:=match a.aa[b]? with
 |some (p::l)=>if free then{a with aa:=a.aa.set b l} else{a with aa:=a.aa.set b l,within:=p.2,ag:=a.ag++ [h]}
 |_=>a
def yn{w:c9}{s:aW}{h i:Nat}{vs:List Int}{fs:List b_}{f:b_}{r:Rm}{a:eT}{x:Str}(hs:s.af[h]?=some (vs,fs))(C:fs.getLast? =some f)(G:f.room=i)(v:w.aj[i]?=some r)(m:s.aj[i]?=some a)(H:r.aa.length<=100)(L:r.aa.length=a.aa.length)(A:s.aj.length<=100)(K:a.ag.length<=900)(z:x∈r.aa.map (·.1))
  (q:Q (.d ({s with aj:=s.aj.set i (qU (decide (r.ah="when free")) a (cx (r.aa.map (·.1)) x) h)}:aW).d) S):Fn mX [w.d,s.d,.int h,(Rw.call x).d] S Q:=by
 have y:=(gu z).1
 rw[lQm] at y
 have t:i<s.aj.length:=(gQs.mp m).1
 refine bF ?_
 unfold qA
 symm
 apply aw (d:=.str x) rfl ?_
 refine lY hs C G v H z ?_
 refine eU rfl (ay (aY (ay (aY (bq ?_)))))
 generalize cx (r.aa.map (·.1)) x=b at y q⊢
 have u:b<a.aa.length:=by omega
 obtain⟨n,g⟩:∃l,a.aa[b]?=some l:=⟨_,gQe u⟩
 have k:Op (settle S ({s with aj:=s.aj.set i (qU (decide (r.ah="when free")) a b h)}:aW).d S) λp=>Q p.1 p.2:=bU (aN _) (aW.low _) q
 unfold qU at k
 rw[g] at k
 symm
 apply aw rfl ?_
 refine aw (d:=a.d) (aO (by rw[gQm,m];rfl)) ?_
 symm
 apply aw rfl ?_
 refine aw (d:=dI n) (aO (by rw[gQm,g];rfl)) ?_
 symm
 refine vM ?_
 cases n with
 | nil=>
   apply aH (λ_=> ?_) (λc=>by cases c)
   have e:s.aj.set i a=s.aj:=by
     apply List.ext_getElem?
     intro j
     rw[List.getElem?_set]
     split
     · rename_i c
       subst c
       rw[m]
       first|done|simp[t]
     · rfl
   have B:({s with aj:=s.aj.set i a}:aW)=s:=by rw[e]
   have o:Op (settle S ({s with aj:=s.aj.set i a}:aW).d S) λp=>Q p.1 p.2:=k
   rw[B] at o
   exact o
 | cons p l=>
   apply aH (λc=>by cases c) (λ_=>bC ?_)
   apply iI ?_
   apply cf ?_
   apply⟨_,rfl,cg ⟨_,rfl,?_⟩⟩
   have e:D.tup (hJ ((p::l).map pairD) (some 1) none)=dI l:=by
     rw[show(some (1:Int))=some ((1:Nat):Int) from rfl,gn (by simp)]
     rfl
   rw[e]
   refine iR m u (by omega) A ?_
   dsimp only at k
   generalize J:a.aa.set b l=nb at k⊢
   symm
   apply aw rfl ?_
   refine aw (d:=r.d) (aO (by rw[gQm,v];rfl)) ?_
   symm
   apply aw (d:=.str r.ah) rfl ?_
   refine gq ?_
   dsimp only
   by_cases c:r.ah="when free"
   · rw[Qeq c] at k⊢
     rw[Qhq rfl] at k
     rw[Qhq rfl]
     symm
     exact k
   · rw[Qdq c] at k⊢
     rw[Quq (by decide)] at k
     rw[Quq (by decide)]
     apply bC ?_
     refine aw rfl ?_
     have F:((s.aj.set i {a with aa:=nb}).map eT.d)[i]?=some ({a with aa:=nb}:eT).d:=by rw[gQm,Qyq t];rfl
     symm
     refine aw (d:=({a with aa:=nb}:eT).d) (aO F) ?_
     apply eU rfl (ay (aY (ay (aY (ay (aY (ay (aY (ay (aY (bq ?_)))))))))))
     apply aw (d:=pairD p) AX ?_
     apply aw (d:=.int p.2) rfl ?_
     refine⟨by show 1<=_;decide,?_⟩
     refine dr (by simp only[lQm,Qnq,QGq];exact nQl (aV (by omega))) ?_
     symm
     refine⟨by show 5<=_;decide,?_⟩
     symm
     have I:D.tup [b9 a.vals,.int p.2,b9 a.row,.tup (a.ag.map D.int++ [.int h]),.tup (nb.map dI)]=({a with aa:=nb,within:=p.2,ag:=a.ag++ [(h:Int)]}:eT).d:=by simp[eT.d,b9]
     rw[I]
     have o:Op (settle S ({s with aj:=(s.aj.set i {a with aa:=nb}).set i {a with aa:=nb,within:=p.2,ag:=a.ag++ [(h:Int)]}}:aW).d S) λp=>Q p.1 p.2:=by rw[List.set_set];exact k
     exact cE (s:={s with aj:=s.aj.set i {a with aa:=nb}}) (by simpa using t) (by simp;omega) o
end
end W28
namespace DL
open PySem PySem.Spec L2
def p_{α:Type}{s:cz}{S:aA}{js:List (Option Nat)}{i:sm}{g:jS}{t:ix}{m:bc}{Q:List D->aA->Prop}(P:cz->Prop)(enc G:α->D)(c:α->Bool)(C:P (lR js s)) (h:E i s S λp S1=>∃xs:List α,p.1=xs.map enc/\p.2 S1/\xs.length<=1000∧
   (∀x∈xs,∀a,P a->Tg g (enc x) a S1 λb S2=>S2=S1/\P b/\E t b S1 λk z=>z=S1/\k=c x/\(c x=true->E m b S1 λy A=>y=G x/\A=S1))/\Q ((xs.filter c).map G) S1):E (bW js i g t m) s S Q:=by
 refine jv (h.mono λp S1 H=> ?_)
 obtain⟨xs,w,I,R,M,q⟩:=H
 refine⟨λn a r f=>r=S1/\f=((xs.take n).filter c).map G/\P a,⟨rfl,rfl,C⟩,λn a r f h=>by rw[h.1];exact I,λn d a r f o h=> ?_,λa r f h=> ?_⟩
 ·obtain⟨rfl,rfl,h3⟩:=h
  have o:p.1[n]?=some d:=o
  rw[w,gQm] at o
  obtain⟨x,j,rfl⟩:=oQm.mp o
  obtain⟨b,S2,K,rfl,h4,h5⟩:=M x (mQg j) a h3
  refine⟨b,S2,K,?_⟩
  refine h5.mono λk z u=> ?_
  obtain⟨F,L,J⟩:=u
  subst F L
  have U:=(gQs.mp j).1
  have v:((xs.take (n+1)).filter c).map G=((xs.take n).filter c).map G++if c x=true then [G x] else []:=by
   rw[QYq,j]
   cases l:c x <;>simp[l]
  by_cases l:c x=true
  ·rw[Qhq l]
   refine(J l).mono λy A u=> ?_
   obtain⟨N,B⟩:=u
   subst N B
   refine⟨?_,rfl,?_,h4⟩
   ·rw[lQm]
    have:=List.length_filter_le c (xs.take n)
    rw[Qxq] at this
    exact aV (by omega)
   ·rw[v,Qhq l]
  ·rw[Quq l]
   refine⟨rfl,?_,h4⟩
   rw[v,Quq l,List.append_nil]
 ·obtain⟨rfl,rfl,_⟩:=h
  have e:p.1.length=xs.length:=by rw[w,lQm]
  show Q (((xs.take p.1.length).filter c).map G) _
  rw[e,QEq]
  exact q
end DL
namespace W28
open PySem PySem.Spec L2 DL
section
variable{S:aA}{Q:Res->aA->Prop}
def A3(l:List (Int×Int))(t h:Int):List (Int×Int):=l.take (l.filter λp=>decide (p.1<=t)).length++ [(t,h)]++l.drop (l.filter λp=>decide (p.1<=t)).length
def zp{w:c9}{s:aW}{h i:Nat}{vs:List Int}{fs:List b_}{f:b_}{r:Rm}{k:eT}{x y:Str}{t:Tr}{v:Int}{g:List (Int×Int)}(hs:s.af[h]?=some (vs,fs))(X:fs.getLast? =some f)(Y:f.room=i)(K:w.aj[i]?=some r)(u:s.aj[i]?=some k)(Z:r.aa.length<=100)(l2:r.aa.length=k.aa.length)(P:s.aj.length<=100)(L:x∈r.aa.map (·.1))
  (C:r.aa[cx (r.aa.map (·.1)) x]?=some (x,y)) (m:k.aa[cx (r.aa.map (·.1)) x]?=some g) (b4:g.length<=900) (F:yk w s h t v)
  (q:Q (.d ({s with aj:=s.aj.set i (dN {k with aa:=k.aa.set (cx (r.aa.map (·.1)) x) (A3 g (if y="turns" then v else 0) h)})}:aW).d) S):Fn mQ [w.d,s.d,.int h,(Rw.wait x t).d] S Q:=by
 have H:=(gu L).1
 rw[lQm] at H
 have hi:i<s.aj.length:=(gQs.mp u).1
 refine bF ?_
 unfold qX
 symm
 apply aw (d:=.str x) rfl ?_
 refine lY hs X Y K Z L ?_
 refine eU rfl (ay (aY (ay (aY (bq ?_)))))
 generalize cx (r.aa.map (·.1)) x=b at H q C m⊢
 have N:b<k.aa.length:=by omega
 symm
 apply aw rfl ?_
 refine aw (d:=r.d) (aO (by rw[gQm,K];rfl)) ?_
 symm
 apply aw rfl ?_
 refine aw (d:=HA (x,y)) (aO (by rw[gQm,C];rfl)) ?_
 symm
 apply aw (d:=.str y) rfl ?_
 refine gq ?_
 dsimp only
 have z:∀j:Int,j=(if y="turns" then v else 0)->T (aC (a_ 7 (aR ki (aR ki (aR ki (aR ki (au 1) (cF (.int 0))) (au 4)) (cF (.int 4))) (au 5)))
   (aC (a_ 8 (jE (kd (bW [none,none,some 6] (m7 (bM (au 7))) (jl (nG 2 (aJ (bS 0) (aJ (bS 1) dy)))) (aI (aR KB (au 0) (au 2))) (au 0)))))
   (aC (a_ 9 (ax dZ (ar (au 1) (ar (au 4) (ar (au 5) (ar (aR bO (aR bO (pS (au 7) qc (pQ (au 8))) (bg (ar (bg (ar (au 6) (ar (au 2) av))) av))) (pS (au 7) (pQ (au 8)) qc)) av))))))
   (bP (ax nV (ar (au 9) (ar (au 4) av)))))))
   [some w.d,some s.d,some (.int h),some (Rw.wait x t).d,some (.int i),some (.int b),some (.int j),none,none,none] S (λo=>match o with
   |.nx _ A=>Op (settle S .non A) λp=>Q p.1 p.2|.rt d A=>Op (settle S d A) λp=>Q p.1 p.2|.rl l A=>Op (de S l A) λp=>Q p.1 p.2|_=>False):=by
  intro j G
  rw[←G] at q
  symm
  apply aw rfl ?_
  refine aw (d:=k.d) (aO (by rw[gQm,u];rfl)) ?_
  symm
  apply aw rfl ?_
  refine aw (d:=dI g) (aO (by rw[gQm,m];rfl)) ?_
  symm
  apply p_ (α:=Int×Int) (λB=>∃a b,B= [a,b,some (.int j)]) pairD (λp=>.int p.1) (λp=>decide (p.1<=j)) ⟨none,none,rfl⟩ ?_
  refine dX (ds:=g.map pairD) ?_
  refine⟨g,rfl,trivial,by omega,λp H B I=> ?_,?_⟩
  ·obtain⟨a,b,rfl⟩:=I
   refine eU rfl (ay (aY (ay (aY (bq ?_)))))
   apply⟨rfl,⟨_,_,rfl⟩,?_⟩
   apply⟨rfl,rfl,λ_=> ?_⟩
   exact⟨rfl,rfl⟩
  have U:((g.filter λp=>decide (p.1<=j)).map λp=>D.int p.1).length=(g.filter λp=>decide (p.1<=j)).length:=lQm ..
  have J:=List.length_filter_le (λp=>decide (p.1<=j)) g
  unfold A3 at q
  symm
  rw[U]
  generalize (g.filter λp=>decide (p.1<=j)).length=n at q J⊢
  apply iI ?_
  apply cg (cf ?_)
  refine⟨_,rfl,g.map pairD,rfl,?_⟩
  rw[Cy (by rw[lQm];exact J)]
  symm
  refine⟨by show 2<=_;decide,?_⟩
  symm
  refine⟨by show 1<=_;decide,?_⟩
  refine dr (by simp only[lQm,Qxq,Qnq,QGq];exact nQl (aV (by omega))) ?_
  apply iI ?_
  apply cf ?_
  refine⟨_,rfl,cg ⟨g.map pairD,rfl,?_⟩⟩
  rw[gn (by rw[lQm];exact J)]
  refine dr (by simp only[lQa,lQm,Qxq,List.length_drop,Qnq,QGq];exact nQl (aV (by omega))) ?_
  symm
  have e:D.tup ((g.map pairD).take n++ [D.tup [.int j,.int h]]++(g.map pairD).drop n)=dI (g.take n++ [(j,(h:Int))]++g.drop n):=by
   simp only[dI,Qzq,List.map_take,List.map_drop]
   rfl
  rw[e]
  generalize g.take n++ [(j,(h:Int))]++g.drop n=nl at q⊢
  apply iR u N (by omega) P ?_
  have M:Op (settle S ({s with aj:=s.aj.set i (dN {k with aa:=k.aa.set b nl})}:aW).d S) λp=>Q p.1 p.2:=bU (aN _) (aW.low _) q
  generalize R:({k with aa:=k.aa.set b nl}:eT)=nr at M⊢
  have W:Op (settle S ({s with aj:=(s.aj.set i nr).set i (dN nr)}:aW).d S) λp=>Q p.1 p.2:=by rw[List.set_set];exact M
  exact xI (s:={s with aj:=s.aj.set i nr}) (Qyq hi) (by simp;omega) W
 by_cases c:y="turns"
 ·rw[Qeq c,Qhq rfl]
  symm
  apply aw (d:=t.d) rfl ?_
  refine F _ _ ?_
  exact z v (by rw[Qhq c])
 ·rw[Qdq c,Quq (by decide)]
  refine bC ?_
  exact z 0 (by rw[Quq c])
end
end W28
namespace DL
open PySem PySem.Spec L2
section
variable{Γ:cz}{S:aA}
def KO{a:List (Str×Str)}{g:bc}{Q:D->aA->Prop}(h:E g Γ S λy S1=>∃x nm,y=.str x/\a.lookup x=some nm/\Q (.fn nm) S1):E (J3 a g) Γ S Q:=by
 obtain⟨y,S1,b,x,nm,rfl,e2,q⟩:=h
 exact⟨_,S1,by unfold J3;rw[b];simp only[Qbq];rw[e2];rfl,q⟩
def Ey{i:Nat}{T:List (Str×cW)}{g:fO}{x:Str}{F:cW}{Q:D->aA->Prop}(d:Γ[i]?=some (some (.fn x)))(b:T.lookup x=some F)(h:E (ax F g) Γ S Q):E (qO i T g) Γ S Q:=by
 obtain⟨y,c,a,q⟩:=h
 exact⟨_,c,by unfold qO;rw[d];show(T.lookup x).bind _=_;rw[b];exact a,q⟩
def FS{f:bc}{Q:D->aA->Prop}(h:E f Γ S λd S1=>∃k,d=.bl k/\Q (.bl (!k)) S1):E (Fi f) Γ S Q:=by
 obtain⟨d,S1,a,k,rfl,q⟩:=h
 exact⟨_,S1,by unfold Fi;rw[a];rfl,q⟩
def CA{a:Bool}{x:D}{Q:D->Prop}(q:Q (.bl (if a then !isNone x else isNone x))):Op (B9 a S x .non) Q:=⟨_,rfl,q⟩
end
def tZ{α:Type}{xs:List α}{a b:α}:k0 (xs++ [a,b]) (-2)=some a:=by
 unfold k0 yP
 rw[Quq (by omega),Qhq (by simp;omega)]
 simp only[Qbq]
 rw[show((-2:Int)+((xs++ [a,b]).length:Int)).toNat=xs.length by simp;omega]
 simp
end DL
namespace W28
open PySem PySem.Spec L2 DL
section
variable{S:aA}{Q:Res->aA->Prop}
def Ma:Rw->cW
 |.put _ _=>p8
 |.unl _ _=>iq
 |.go _=>uN
 |.do_ _ _ _ _=>vW
 |.wait _ _=>mQ
 |.call _=>mX
 |.all _=>p6
 |.tell _=>mv
 |.take _=>mL
 |.give _=>mq
 |.pass _ _=>mH
 |.say _=>qd
def Rw.kind:Rw->Str
 |.put _ _=>"put"
 |.unl _ _=>"unless"
 |.go _=>"go"
 |.do_ _ _ _ _=>"do"
 |.wait _ _=>"wait"
 |.call _=>"call"
 |.all _=>"all"
 |.tell _=>"tell"
 |.take _=>"take"
 |.give _=>"give"
 |.pass _ _=>"pass"
 |.say _=>"say"
def Rw.d_kind(r:Rw):∃l,r.d=.tup (.str r.kind::l):=by cases r <;>exact⟨_,rfl⟩
def D4(r:Rw):∃nm,jY.lookup r.kind=some nm/\r_.lookup nm=some (Ma r):=by
 cases r
 ·exact⟨"by_put",rfl,rfl⟩
 ·exact⟨"by_unless",rfl,rfl⟩
 ·exact⟨"by_go",rfl,rfl⟩
 ·exact⟨"by_do",rfl,rfl⟩
 ·exact⟨"by_wait",rfl,rfl⟩
 ·exact⟨"by_call",rfl,rfl⟩
 ·exact⟨"by_all",rfl,rfl⟩
 ·exact⟨"by_tell",rfl,rfl⟩
 ·exact⟨"by_take",rfl,rfl⟩
 ·exact⟨"by_give",rfl,rfl⟩
 ·exact⟨"by_pass",rfl,rfl⟩
 ·exact⟨"by_say",rfl,rfl⟩
def Hf(w:c9)(s:aW)(h:Nat)(r:Rw)(a:aW):Prop:=∀(S:aA) (Q:Res->aA->Prop),Q (.d a.d) S->Fn (Ma r) [w.d,s.d,.int h,r.d] S Q
def wN{w:c9}{s a:aW}{h:Nat}{r:Rw}(hd:Hf w s h r a)(q:Q (.d a.d) S):Fn ia [w.d,s.d,.int h,r.d] S Q:=by
 obtain⟨b,e,f⟩:=D4 r
 obtain⟨l,c⟩:=r.d_kind
 refine bF ?_
 unfold tH
 apply aS (kq (KO ?_))
 rw[c]
 refine aw (d:=.str r.kind) AX ?_
 rw[←c]
 refine⟨_,b,rfl,e,?_⟩
 apply eG (Ey (x:=b) rfl f ?_)
 refine hd _ _ ?_
 exact bU (aN _) (aW.low _) q
def pj{w:c9}{s m:aW}{h i:Nat}{vs:List Int}{e:List b_}{b f:b_}{l:eT}{pr:List Rw}{g:Option Str}{r u:Str}{t:Tr}(hs:s.af[h]?=some (vs,e++ [b,f]))(A:f.room=i)(n:s.aj[i]?=some l)(v:s.aj.length<=900)(B:s.af.length<=900)
  (y:progOf w h b=some pr) (C:1<=b.row) (k:pr[(b.row-1).toNat]?=some (.do_ g r u t))
  (j:∀a:aW,a={s with aj:=s.aj.set i (dN l),af:=s.af.set h (vs,e++ [b])}->match g with|none=>m=a|some x=>Puts w a h x f.told m)
  (q:Q (.d m.d) S):Fn ie [w.d,s.d,.int h] S Q:=by
 have z:h<s.af.length:=(gQs.mp hs).1
 refine bF ?_
 unfold nz
 symm
 apply aw rfl ?_
 refine aw (d:=pz (vs,e++ [b,f])) (aO (by rw[gQm,hs];rfl)) ?_
 refine eU rfl (ay (aY (ay (aY (bq ?_)))))
 have o:(e++ [b,f]).map b_.d=e.map b_.d++ [b.d,f.d]:=by simp
 dsimp only
 rw[o]
 symm
 apply gK ?_
 refine⟨1,rfl,?_⟩
 refine aw (d:=f.d) (wg (by simp)) ?_
 refine eU rfl (ay (aY (ay (aY (ay (aY (ay (aY (ay (aY (bq ?_)))))))))))
 rw[A]
 symm
 apply xI n v ?_
 apply iI ?_
 apply cg (cf (gK ?_))
 refine⟨1,rfl,_,rfl,_,rfl,?_⟩
 rw[xk (by simp)]
 have p:D.tup ((e.map b_.d++ [b.d,f.d]).dropLast)=.tup ((e++ [b]).map b_.d):=by
  rw[show e.map b_.d++ [b.d,f.d]=(e.map b_.d++ [b.d])++ [f.d] by simp,List.dropLast_concat]
  simp
 rw[p]
 symm
 refine fS (s:={s with aj:=s.aj.set i (dN l)}) z B ?_
 have j:=j _ rfl
 dsimp only at j⊢
 generalize ({s with aj:=s.aj.set i (dN l),af:=s.af.set h (vs,e++ [b])}:aW)=a at j⊢
 symm
 apply gK ?_
 refine⟨2,rfl,?_⟩
 apply aw (d:=b.d) tZ ?_
 apply fA y ?_
 apply gK ?_
 refine⟨2,rfl,?_⟩
 apply aw (d:=b.d) tZ ?_
 apply aw (d:=.int b.row) rfl ?_
 refine aw (d:=(Rw.do_ g r u t).d) (jU (by omega) (by rw[gQm,k];rfl)) ?_
 symm
 apply aw (d:=GO g) rfl ?_
 refine CA ?_
 cases g with
 | none=>
   dsimp only at j
   subst j
   apply aH (λ_=> ?_) (λc=>by cases c)
   exact bU (aN _) (aW.low _) q
 | some x=>
   apply aH (λc=>by cases c) (λ_=>bC ?_)
   apply aw (d:=.str x) rfl ?_
   refine j _ _ ?_
   exact bU (aN _) (aW.low _) q
end
section
variable{S:aA}{Q:Res->aA->Prop}
def JK(h:Nat):Option Int->D
 |none=>.non
 |some v=>.tup [.int h,.int v]
def Ej(h:Nat)(e:Option Int):bL 0 (JK h e)=true:=by cases e <;>rfl
def D0(s:aW)(h:Nat)(e:Option Int):D:=.tup [s.d,JK h e]
def pW(s:aW)(h:Nat)(e:Option Int):bL 0 (D0 s h e)=true:=by
 simp only[D0,bL,bz,Ej,aW.low,Bool.and_true]
def wb(w:c9)(s:aW)(h:Nat)(a:aW)(e:Option Int):Prop:=∀(S:aA) (Q:Res->aA->Prop),Q (.d (D0 a h e)) S->Fn mZ [w.d,s.d,.int h] S Q
def AQ{w:c9}{s:aW}{h i:Nat}{vs:List Int}{fs:List b_}{f:b_}{a:eT}(hs:s.af[h]?=some (vs,fs))(e:fs.getLast? =some f)(g:f.room=i)(b:s.aj[i]?=some a)(l:a.within≠h)(c:s.aj.length<=900)(j:a.row.length<=900):
  wb w s h {s with aj:=s.aj.set i (jB a h)} none:=by
 intro S Q q
 refine bF ?_
 unfold jb
 symm
 apply bD hs e ?_
 apply aw (d:=.int f.room) rfl ?_
 refine kF ?_
 dsimp only
 rw[Qdq (show¬f.room= -1 by omega),g]
 show if (true=true) then _ else _
 rw[Qhq rfl]
 symm
 apply aw rfl ?_
 refine aw (d:=a.d) (aO (by rw[gQm,b];rfl)) ?_
 symm
 apply aw (d:=.int a.within) rfl ?_
 refine kF ?_
 dsimp only
 rw[Qdq l]
 show if (true=true) then _ else _
 rw[Qhq rfl]
 symm
 apply qm b c j ?_
 refine⟨by show 2<=_;decide,?_⟩
 exact bU (d:=D0 _ h none) (λk z=>(nomatch z)) (pW _ _ _) q
def Here(s:aW)(h:Nat)(f:b_):Prop:=f.room= -1\/∃(i:Nat) (a:eT),f.room=i/\s.aj[i]?=some a/\a.within=h
def tY{w:c9}{s:aW}{h:Nat}{f:b_}{a b c d:Option D}{Q:Bool->aA->Prop}(k:Here s h f)(q:Q false S):E (i4 (aI (aR (dw true) (au 4) (cF (.int (-1))))) (aI (aR (dw true) (aR ki (aR ki (aR ki (au 1) (cF (.int 0))) (au 4)) (cF (.int 1))) (au 2)))) [some w.d,some s.d,some (.int h),some f.d,some (.int f.room),a,b,c] S Q:=by
 rcases k with g|⟨i,j,g,e,l⟩
 ·symm
  refine kF ?_
  dsimp only
  rw[Qeq g]
  show if (false=true) then _ else _
  rw[Quq (by decide)]
  exact q
 ·symm
  refine kF ?_
  dsimp only
  rw[Qdq (show¬f.room= -1 by omega),g]
  show if (true=true) then _ else _
  rw[Qhq rfl]
  symm
  apply aw rfl ?_
  refine aw (d:=j.d) (aO (by rw[gQm,e];rfl)) ?_
  symm
  apply aw (d:=.int j.within) rfl ?_
  refine kF ?_
  dsimp only
  rw[Qeq l]
  exact q
def wR{w:c9}{s b:aW}{h:Nat}{vs:List Int}{fs:List b_}{f:b_}{pr:List Rw}(hs:s.af[h]?=some (vs,fs))(g:fs.getLast? =some f)(i:Here s h f)(e:progOf w h f=some pr)(a:f.row=pr.length)
  (he:∀(S:aA) (Q:Res->aA->Prop),Q (.d b.d) S->Fn ie [w.d,s.d,.int h] S Q):wb w s h b none:=by
 intro S Q q
 refine bF ?_
 unfold jb
 symm
 apply bD hs g ?_
 refine aw (d:=.int f.room) rfl ?_
 refine aS (bV (tY (d:=none) i ?_))
 apply aH (λc=>by cases c) (λ_=>bC ?_)
 apply fA e ?_
 apply aw (d:=.int f.row) rfl ?_
 refine dJ ?_
 dsimp only
 rw[lQm,Qeq a,Qhq rfl]
 symm
 apply he _ _ ?_
 refine⟨by show 2<=_;decide,?_⟩
 exact bU (d:=D0 _ h none) (λk z=>(nomatch z)) (pW _ _ _) q
def Ho(w:c9)(s:aW)(h:Nat)(r:Rw)(e:Option Int):Prop:=match r with
 |.say t=>∃v,e=some v/\yk w s h t v
 |_=>e=none
def xR{w:c9}{s j:aW}{h:Nat}{vs:List Int}{fs:List b_}{f:b_}{pr:List Rw}{r:Rw}{e:Option Int}(hs:s.af[h]?=some (vs,fs))(m:fs.getLast? =some f)(A:Here s h f)(y:progOf w h f=some pr)(x:0<=f.row)(b:pr[f.row.toNat]?=some r)(u:fs.length<=900)(B:s.af.length<=900)
  (a:Ho w s h r e) (hd:Hf w {s with af:=s.af.set h (vs,fs.dropLast++ [{f with row:=f.row+1}])} h r j):wb w s h j e:=by
 intro S Q q
 have n:=(gQs.mp b).1
 refine bF ?_
 unfold jb
 symm
 apply bD hs m ?_
 refine aw (d:=.int f.room) rfl ?_
 refine aS (bV (tY (d:=none) A ?_))
 apply aH (λc=>by cases c) (λ_=>bC ?_)
 apply fA y ?_
 apply aw (d:=.int f.row) rfl ?_
 refine dJ ?_
 dsimp only
 rw[lQm,Qdq (show¬f.row=(pr.length:Int) by omega),Quq (by decide)]
 apply bC ?_
 refine aw (d:=.int f.row) rfl ?_
 refine aw (d:=r.d) (jU x (by rw[gQm,b];rfl)) ?_
 symm
 obtain⟨l,C⟩:=r.d_kind
 have g:T (bP (bg (ar (ax ia (ar (au 0) (ar (ax iw (ar (au 1) (ar (au 2) (ar (aR bO (aR ki (au 3) (cF (.int 2))) (cF (.int 1))) av)))) (ar (au 2) (ar (au 6) av))))) (ar (au 7) av))))
   [some w.d,some s.d,some (.int h),some f.d,some (.int f.room),some (.tup (pr.map Rw.d)),some r.d,some (JK h e)] S (λo=>match o with
   |.nx _ i=>Op (settle S .non i) λp=>Q p.1 p.2|.rt d i=>Op (settle S d i) λp=>Q p.1 p.2|.rl l i=>Op (de S l i) λp=>Q p.1 p.2|_=>False):=by
  symm
  apply aw (d:=.int f.row) rfl ?_
  apply nB hs m u B ?_
  apply wN hd ?_
  refine⟨by show 2<=_;decide,?_⟩
  exact bU (d:=D0 _ h e) (λk z=>(nomatch z)) (pW _ _ _) q
 cases r with
 | say t=>
   obtain⟨v,rfl,hv⟩:=a
   apply aw (d:=.str "say") rfl ?_
   refine gq ?_
   dsimp only
   rw[Qeq rfl,Qhq rfl]
   symm
   apply aw (d:=t.d) rfl ?_
   apply hv _ _ ?_
   refine⟨by show 2<=_;decide,?_⟩
   exact g
 | _=>
   have a:e=none:=a
   subst a
   apply aw rfl ?_
   refine gq ?_
   dsimp only
   refine aH (λc=>absurd (QZq c) (by decide +kernel)) (λ_=>bC ?_)
   exact g
end
end W28
namespace DL
open PySem PySem.Spec L2
section
variable{Γ:cz}{S:aA}
def C_{f:bc}{g:dQ}{Q:D->aA->Prop}(h:E f Γ S λx S1=>∃k a,x=.ref k/\S1[k]?=some (.lst a)/\E g Γ S1 λp S2=>∃ds,S2[k]?=some (.lst ds)/\(p.2.isL=false/\ds.length+p.1.length<=sizeLine)/\Q .non (S2.set k (.lst (ds++p.1)))):E (sY f g) Γ S Q:=by
 obtain⟨x,S1,b,k,a,rfl,h1,p,S2,e2,ds,h2,h3,q⟩:=h
 exact⟨_,_,by unfold sY;rw[b];simp only[Qbq,e2,h1,h2];rw[Qhq h3],q⟩
end
def yc{S a:aA}{k:Nat}{ds:List D}{Q:Res×aA->Prop}(d:ku S a)(e:S.length<=k)(c:a[k]?=some (.lst ds))(b:bz S.length ds=true)(q:Q (.l ds,a.take S.length)):Op (settle S (.ref k) a) Q:=by
 refine⟨_,?_,q⟩
 unfold settle
 rw[Qhq d]
 show(if k<S.length then _ else _)=_
 rw[Quq (by omega),c]
 show(if bz S.length ds=true then _ else _)=_
 rw[Qhq b]
def vF{n:Nat}(h:n<=100000):n<=sizeLine:=QAq h (by decide)
theorem iT:∀a:List Int,m4 (a.map D.int)=some (a.map V.int)
 | []=>rfl
 |s::a=>by simp only[QDq,m4,vC,Qbq];rw[iT a];rfl
def u7{x:Int}{b:List Int}:CT (.int x) (b.map V.int)=decide (x∈b):=by
 induction b with
 |nil=>rfl
 | cons a b d=>
   show(pY (.int a) (.int x)||CT (.int x) (b.map V.int))=_
   rw[d]
   simp only[pY,Qsq]
   by_cases c:a=x
   · subst c;simp
   · have e:¬x=a:=λz=>c z.symm
     simp[c,e]
end DL
namespace W28
open PySem PySem.Spec L2 DL
section
variable{S:aA}{Q:Res->aA->Prop}
def wz{S a:aA}(x:pT S a):a.take S.length=S:=by
 apply List.ext_getElem?
 intro j
 by_cases b:j<S.length
 ·rw[List.getElem?_take_of_lt b]
  exact x.eq j b
 ·rw[List.getElem?_eq_none (by rw[Qxq];omega),List.getElem?_eq_none (by omega)]
def GC{S a:aA}{ds:List D}{Q:Res->aA->Prop}(x:pT S a)(c:bz 0 ds=true)(q:Q (.l ds) S):Op (de S ds a) λp=>Q p.1 p.2:=
 lS ⟨x.len,λk o b e=>.inl (by rw[←x.eq k b];exact e)⟩ (wz x) (h_ c) q
def GW{S a:aA}{k:Nat}{ds:List D}{Q:Res->aA->Prop}(x:pT S a)(b:S.length<=k)(d:a[k]?=some (.lst ds))(c:bz 0 ds=true)(q:Q (.l ds) S):Op (settle S (.ref k) a) λp=>Q p.1 p.2:=
 yc ⟨x.len,λk o b e=>.inl (by rw[←x.eq k b];exact e)⟩ b d (h_ c) (by rw[wz x];exact q)
def xm{l:List (Int×Int)}(f:l.length<=1000)(q:Q (.l ((l.map (·.2)).map D.int)) S):Fn j3 [dI l] S Q:=by
 refine bF ?_
 unfold oy
 symm
 apply lu (α:=Int×Int) (λc=>∃a b,c= [a,b]) pairD (λp=>.int p.2) ⟨none,none,rfl⟩ ?_
 refine dX (ds:=l.map pairD) ?_
 refine⟨l,rfl,trivial,f,λp g c d=> ?_,?_⟩
 ·obtain⟨a,b,rfl⟩:=d
  refine eU rfl (ay (aY (ay (aY (bq ?_)))))
  apply⟨rfl,⟨_,_,rfl⟩,?_⟩
  exact⟨rfl,rfl⟩
 ·have e:l.map (λp=>D.int p.2)=(l.map (·.2)).map D.int:=by rw[QPq];rfl
  rw[e]
  exact Cz (aQ λ_ _=>rfl) q
def iu(r:eT):List Int:=r.row++r.ag++r.aa.flatMap λl=>l.map (·.2)
def held(s:aW):List Int:=s.ai.flatMap (·.2)++s.aj.flatMap iu
theorem mm{α c:Type}{f:α->List c}{n:Nat}:∀{l:List α},(∀a∈l,(f a).length<=n)->(l.flatMap f).length<=n*l.length
 | [],_=>by simp
 | a::l,h=>by
   have g:=h a (QBq ..)
   have e:=mm (f:=f) (l:=l) λb d=>h b (Qpq _ d)
   rw[QSq,lQa,Qnq,Nat.mul_add]
   omega
def nL{α b:Type}{f:α->List b}{l:List α}{n:Nat}{a:α}(h:l[n]?=some a):(l.take (n+1)).flatMap f=(l.take n).flatMap f++f a:=by
 rw[QYq,h]
 simp
def oh{s:aW}{n:Nat}(U:n<=100)(b1:s.ai.length<=100)(b2:s.aj.length<=20)(P:∀p∈s.ai,p.2.length<=n)(I:∀r∈s.aj,r.row.length<=n/\r.ag.length<=n/\r.aa.length<=10/\∀l∈r.aa,l.length<=n)
  (q:Q (.l ((held s).map D.int)) S):Fn dC [s.d] S Q:=by
 have Z:∀o:List D,pT S (S++ [.lst o]):=λo=>pT.refl.app
 have G:∀r∈s.aj,∀j:Nat,((r.aa.take j).flatMap λl=>l.map (·.2)).length<=1000:=λr G j=>by
  obtain⟨_,_,R,M⟩:=I r G
  have C:=mm (f:=λl:List (Int×Int)=>l.map (·.2)) (n:=n) (l:=r.aa.take j) λl u=>by rw[lQm];exact M l (List.mem_of_mem_take u)
  have H:(r.aa.take j).length<=10:=by rw[Qxq];omega
  have Y:n*(r.aa.take j).length<=100*10:=Nat.mul_le_mul U H
  omega
 have L:∀r∈s.aj,(iu r).length<=1200:=λr h=>by
  have J:=G r h r.aa.length
  obtain⟨X,R,_⟩:=I r h
  rw[QEq] at J
  simp only[iu,lQa]
  omega
 have x:∀j:Nat,((s.ai.take j).flatMap (·.2)).length<=10000:=λj=>by
  have C:=mm (f:=λp:Int×List Int=>p.2) (n:=n) (l:=s.ai.take j) λl u=>P l (List.mem_of_mem_take u)
  have H:(s.ai.take j).length<=100:=by rw[Qxq];omega
  have Y:n*(s.ai.take j).length<=100*100:=Nat.mul_le_mul U H
  omega
 have K:∀j:Nat,((s.aj.take j).flatMap iu).length<=24000:=λj=>by
  have C:=mm (f:=iu) (n:=1200) (l:=s.aj.take j) λl u=>L l (List.mem_of_mem_take u)
  have H:(s.aj.take j).length<=20:=by rw[Qxq];omega
  omega
 refine bF ?_
 unfold fZ
 symm
 refine⟨by decide,?_⟩
 apply aS (oU (w5 ?_))
 refine aw rfl ?_
 refine dX (ds:=s.ai.map zL) ?_
 refine⟨λj k v=>(∃a b c d e f g,k= [some s.d,some (.ref S.length),a,b,c,d,e,f,g])/\v=S++ [.lst (((s.ai.take j).flatMap (·.2)).map D.int)],⟨⟨_,_,_,_,_,_,_,rfl⟩,rfl⟩,λ_ _ _ _=>trivial,?_,?_⟩
 ·rintro j d k v t ⟨⟨a,b,c,F,e,f,g,rfl⟩,rfl⟩
  have t:(s.ai.map zL)[j]?=some d:=t
  rw[gQm] at t
  obtain⟨p,N,rfl⟩:=oQm.mp t
  refine eU rfl (ay (aY (ay (aY (bq ?_)))))
  apply sC (C_ ?_)
  apply⟨_,_,rfl,bh,?_⟩
  refine dX (ds:=p.2.map D.int) ?_
  refine⟨_,bh,⟨rfl,?_⟩,⟨_,_,_,_,_,_,_,rfl⟩,?_⟩
  ·have:=x j
   have:=P p (mQg N)
   simp only[lQm]
   exact vF (by omega)
  ·rw[nL N,Qzq]
   simp
 rintro k v ⟨⟨a,b,c,F,e,f,g,rfl⟩,rfl⟩
 have u:(s.ai.map zL).length=s.ai.length:=lQm ..
 rw[u,QEq]
 apply aS (oU (w5 ?_))
 refine aw rfl ?_
 refine dX (ds:=s.aj.map eT.d) ?_
 refine⟨λj k v=>(∃a b c d e f g,k= [some s.d,some (.ref S.length),a,b,c,d,e,f,g])/\v=S++ [.lst ((s.ai.flatMap (·.2)++(s.aj.take j).flatMap iu).map D.int)],⟨⟨_,_,_,_,_,_,_,rfl⟩,by simp⟩,λ_ _ _ _=>trivial,?_,?_⟩
 ·rintro j d k v t ⟨⟨a,b,c,F,e,f,g,rfl⟩,rfl⟩
  have t:(s.aj.map eT.d)[j]?=some d:=t
  rw[gQm] at t
  obtain⟨r,y,rfl⟩:=oQm.mp t
  have w:=mQg y
  obtain⟨X,R,M,C⟩:=I r w
  have z:(s.ai.flatMap (·.2)++(s.aj.take j).flatMap iu).length<=34000:=by
   have:=x s.ai.length
   rw[QEq] at this
   have:=K j
   rw[lQa]
   omega
  generalize A:s.ai.flatMap (·.2)++(s.aj.take j).flatMap iu=o at z⊢
  refine eU rfl (ay (aY (ay (aY (ay (aY (ay (aY (ay (aY (bq ?_)))))))))))
  apply aS (sC (C_ ?_))
  apply⟨_,_,rfl,bh,?_⟩
  refine dr (i:=r.row.map D.int) (j:=r.ag.map D.int) (by simp only[lQm];exact vF (by omega)) ?_
  refine dX ?_
  refine⟨_,bh,⟨rfl,?_⟩,?_⟩
  ·simp only[lQa,lQm]
   exact vF (by omega)
  dsimp only
  have e1:(S++ [O.lst (o.map D.int)]).set S.length (.lst (o.map D.int++(r.row.map D.int++r.ag.map D.int)))=S++ [.lst ((o++(r.row++r.ag)).map D.int)]:=by simp
  rw[e1]
  apply oU (w5 ?_)
  refine⟨λj k v=>(∃a b c d e f g,k= [some s.d,some (.ref S.length),a,b,c,d,e,f,g])/\v=S++ [.lst ((o++(r.row++r.ag)++(r.aa.take j).flatMap λl=>l.map (·.2)).map D.int)],⟨⟨_,_,_,_,_,_,_,rfl⟩,by simp⟩,λ_ _ _ _=>trivial,?_,?_⟩
  ·rintro m d k v t ⟨⟨a,b,c,F,e,f,g,rfl⟩,rfl⟩
   have t:(r.aa.map dI)[m]?=some d:=t
   rw[gQm] at t
   obtain⟨l,B,rfl⟩:=oQm.mp t
   have W:=C l (mQg B)
   refine aY ?_
   apply sC (HI ?_)
   apply⟨_,_,rfl,bh,?_⟩
   apply xm (by omega) ?_
   refine⟨_,bh,⟨rfl,?_⟩,⟨_,_,_,_,_,_,_,rfl⟩,?_⟩
   ·have:=G r w m
    simp only[lQa,lQm]
    exact vF (by omega)
   ·rw[nL B,←Qvq,Qzq]
    simp
  ·rintro k v ⟨J,rfl⟩
   refine⟨J,?_⟩
   have u:(r.aa.map dI).length=r.aa.length:=lQm ..
   rw[u,QEq,nL y]
   subst A
   simp only[iu,Qvq]
 ·rintro k v ⟨⟨a,b,c,F,e,f,g,rfl⟩,rfl⟩
  have u:(s.aj.map eT.d).length=s.aj.length:=lQm ..
  rw[u,QEq]
  symm
  exact GW (Z _) (Qmq _) bh (aQ λ_ _=>rfl) q
end
section
variable{S:aA}{Q:Res->aA->Prop}
def wF(s:aW)(h:Nat):Option b_:=(s.af[h]?).bind λp=>p.2.getLast?
def uk(w:c9)(s:aW)(h:Nat):Bool:=match wF s h with
 |some f=>decide (f.room= -1)&&decide (f.row=(((progOf w h f).getD []).length:Int))
 |none=>false
def nu{w:c9}{s:aW}{h:Nat}{vs:List Int}{fs:List b_}{f:b_}{pr:List Rw}(hs:s.af[h]?=some (vs,fs))(b:fs.getLast? =some f)(a:progOf w h f=some pr)(q:Q (.d (.bl (uk w s h))) S):Fn eR [w.d,s.d,.int h] S Q:=by
 have e:uk w s h=(decide (f.room= -1)&&decide (f.row=(pr.length:Int))):=by
  unfold uk wF
  rw[hs]
  show(match fs.getLast? with|some f=>_|none=>_)=_
  rw[b]
  simp only[a,Option.getD_some]
 rw[e] at q
 refine bF ?_
 unfold f_
 symm
 apply bD hs b ?_
 apply nM ?_
 apply aw (d:=.int f.room) rfl ?_
 refine dJ ?_
 refine⟨_,rfl,?_⟩
 by_cases c:f.room= -1
 ·rw[Qeq c] at q⊢
  rw[Qhq rfl]
  symm
  apply aw (d:=.int f.row) rfl ?_
  apply fA a ?_
  refine dJ ?_
  rw[lQm]
  exact bU (λk z=>(nomatch z)) rfl q
 ·rw[Qdq c] at q⊢
  rw[Quq (by decide)]
  exact bU (λk z=>(nomatch z)) rfl q
def xE(w:c9)(s:aW):List Nat:=(List.range s.af.length).filter λh=> !decide ((h:Int)∈held s)&& !uk w s h
def eB(h:Nat):D:=.int h
def GR(w:c9)(s:aW):Prop:=∀(S:aA) (Q:Res->aA->Prop),Q (.l ((xE w s).map eB)) S->Fn j8 [w.d,s.d] S Q
def wI{w:c9}{s:aW}(m:∀(S:aA) (Q:Res->aA->Prop),Q (.l ((held s).map D.int)) S->Fn dC [s.d] S Q)(k:∀h<s.af.length,∃vs fs f pr,s.af[h]?=some (vs,fs)/\fs.getLast? =some f/\progOf w h f=some pr)(p:s.af.length<=100):GR w s:=by
 intro S Q q
 refine bF ?_
 unfold nN
 symm
 apply m _ _ ?_
 apply p_ (α:=Nat) (λb=>∃a,b= [a,some w.d,some s.d,some (.ref S.length)]) (λ(i:Nat)=>D.int (0+(i:Int))) eB (λh=> !decide ((h:Int)∈held s)&& !uk w s h) ⟨none,rfl⟩ ?_
 apply aw rfl ?_
 refine⟨_,rfl,?_,?_⟩
 ·simp only[lQm]
  omega
 refine⟨List.range s.af.length,?_,trivial,by simp;omega,λh o b e=> ?_,?_⟩
 ·simp only[mC,lQm]
  rfl
 ·obtain⟨a,rfl⟩:=e
  obtain⟨vs,fs,f,pr,j,g,n⟩:=k h (List.mem_range.mp o)
  refine aY ⟨rfl,⟨_,rfl⟩,?_⟩
  rw[Int.zero_add]
  apply lT (eA (E8 ?_))
  refine eP (ds:=(held s).map D.int) bh ?_
  refine⟨_,_,rfl,iT _,?_⟩
  rw[u7]
  by_cases c:(h:Int)∈held s
  ·rw[Qeq c]
   refine aH (λc=>by cases c) (λ_=> ?_)
   exact⟨rfl,rfl,λc=>by cases c⟩
  ·rw[Qdq c]
   apply aH (λ_=> ?_) (λc=>by cases c)
   refine nu j g n ?_
   dsimp only
   refine yg ?_
   apply⟨rfl,rfl,λ_=> ?_⟩
   exact⟨rfl,rfl⟩
 ·refine GC (pT.refl.app) (aQ λ_ _=>rfl) q
def zc{w:c9}{s b:aW}{h:Nat}{e:Option Int}(f:GR w s)(i:h∈xE w s)(a:wb w s h b e)(q:Q (.d (D0 b h e)) S):Fn mw [w.d,s.d,.int h] S Q:=by
 refine bF ?_
 unfold rj
 apply aS (bV (eA (E8 ?_)))
 refine f _ _ ?_
 dsimp only
 have g:(xE w s).map eB=((xE w s).map λh:Nat=>(h:Int)).map D.int:=by rw[QPq];rfl
 refine⟨_,_,rfl,by rw[g];exact iT _,?_⟩
 rw[u7,Qeq (Qkq.mpr ⟨h,i,rfl⟩)]
 apply aH (λc=>by cases c) (λ_=>bC ?_)
 refine a _ _ ?_
 exact bU (λk z=>(nomatch z)) (pW _ _ _) q
end
structure iB(n:Nat)(r:Rm)(rs:eT):Prop where
 lv:r.ao.length=rs.vals.length
 lb:r.aa.length=rs.aa.length
 vv:∀v∈rs.vals,0<=v/\v<=9
 br:rs.row.length<=n
 bl:rs.ag.length<=n
 bb:∀l∈rs.aa,l.length<=n
structure C7(w:c9)(h:Nat)(f:b_):Prop where
 pr:∃pr,progOf w h f=some pr/\0<=f.row/\f.row<=pr.length
 gv:0<=f.given/\f.given<=9
 tv:0<=f.told/\f.told<=9
def Ku(w:c9)(h:Nat)(f:b_):Prop:=∃a g c b t,progOf w h f=some a/\1<=f.row/\a[(f.row-1).toNat]?=some (.do_ g c b t)
def ib:List b_->Prop
 | []=>False
 |f0::tl=>f0.room= -1/\∀f∈tl,f.room≠-1
structure ic(w:c9)(n h:Nat)(ts:List (Str×Nat))(vs:List Int)(fs:List b_):Prop where
 lv:ts.length=vs.length
 vv:∀v∈vs,0<=v/\v<=9
 lf:fs.length<=n
 fr:∀f∈fs,C7 w h f
 hd:ib fs
 ch:∀f∈fs.dropLast,Ku w h f
structure cR(w:c9)(n:Nat)(s:aW):Prop where
 lr:w.aj.length=s.aj.length
 rm:∀(i:Nat) (r:Rm) (rs:eT),w.aj[i]?=some r->s.aj[i]?=some rs->iB n r rs
 lp:w.ai.length=s.ai.length
 ps:∀p∈s.ai,p.2.length<=n
 ls:w.ak.length=s.ak.length
 sv:∀v∈s.ak,0<=v/\v<=9
 lh:w.af.length=s.af.length
 hd:∀(h:Nat) (ts:List (Str×Nat)) (pr:List Rw) (vs:List Int) (fs:List b_),w.af[h]?=some (ts,pr)->s.af[h]?=some (vs,fs)->ic w n h ts vs fs
def iB.mono{n m:Nat}{r:Rm}{a:eT}(h:iB n r a)(l:n<=m):iB m r a:=⟨h.lv,h.lb,h.vv,QAq h.br l,QAq h.bl l,λx b=>QAq (h.bb x b) l⟩
def ic.mono{w:c9}{n m h:Nat}{ts:List (Str×Nat)}{vs:List Int}{fs:List b_}(x:ic w n h ts vs fs)(l:n<=m):ic w m h ts vs fs:=⟨x.lv,x.vv,QAq x.lf l,x.fr,x.hd,x.ch⟩
def cR.mono{w:c9}{n m:Nat}{s:aW}(x:cR w n s)(l:n<=m):cR w m s:=⟨x.lr,λi r c b a=>(x.rm i r c b a).mono l,x.lp,λp d=>QAq (x.ps p d) l,x.ls,x.sv,x.lh,λh f j e g b a=>(x.hd h f j e g b a).mono l⟩
def get_set{α:Type}{l:List α}{i j:Nat}{a b:α}(h:(l.set i a)[j]?=some b):(j=i/\b=a)\/(j≠i/\l[j]?=some b):=by
 rw[List.getElem?_set] at h
 split at h
 ·rename_i c
  split at h
  ·cases h;exact .inl ⟨c.symm,rfl⟩
  ·cases h
 ·rename_i c
  exact .inr ⟨λz=>c z.symm,h⟩
def cR.room{w:c9}{n i:Nat}{s:aW}{r:Rm}{d:eT}(x:cR w n s)(f:w.aj[i]?=some r)(g:iB n r d):cR w n {s with aj:=s.aj.set i d} where
 lr:=by simpa using x.lr
 rm:=λj e c b a=>by
  rcases get_set a with⟨rfl,rfl⟩|⟨_,a⟩
  ·rw[f] at b;cases b;exact g
  ·exact x.rm j e c b a
 lp:=x.lp
 ps:=x.ps
 ls:=x.ls
 sv:=x.sv
 lh:=x.lh
 hd:=x.hd
def cR.pass{w:c9}{n i:Nat}{s:aW}{p:Int×List Int}(x:cR w n s)(b:p.2.length<=n):cR w n {s with ai:=s.ai.set i p} where
 lr:=x.lr
 rm:=x.rm
 lp:=by simpa using x.lp
 ps:=λq a=>by
  rcases QTq a with a|rfl
  ·exact x.ps q a
  ·exact b
 ls:=x.ls
 sv:=x.sv
 lh:=x.lh
 hd:=x.hd
def cR.share{w:c9}{n:Nat}{s:aW}{vs:List Int}(x:cR w n s)(a:vs.length=s.ak.length)(hv:∀v∈vs,0<=v/\v<=9):cR w n {s with ak:=vs}:=⟨x.lr,x.rm,x.lp,x.ps,by rw[x.ls,←a],hv,x.lh,x.hd⟩
def cR.hand{w:c9}{n h:Nat}{s:aW}{ts:List (Str×Nat)}{pr:List Rw}{vs:List Int}{fs:List b_}(x:cR w n s)(i:w.af[h]?=some (ts,pr))(k:ic w n h ts vs fs):cR w n {s with af:=s.af.set h (vs,fs)} where
 lr:=x.lr
 rm:=x.rm
 lp:=x.lp
 ps:=x.ps
 ls:=x.ls
 sv:=x.sv
 lh:=by simpa using x.lh
 hd:=λj g a c d f b=>by
  rcases get_set b with⟨rfl,e⟩|⟨_,b⟩
  ·rw[i] at f;cases f;cases e;exact k
  ·exact x.hd j g a c d f b
def lL{α:Type}{l:List α}{a:α}(h:l.getLast? =some a):l=l.dropLast++ [a]:=by
 cases l with
 |nil=>cases h
 | cons x y=>
   have b:x::y≠[]:=by simp
   rw[List.getLast?_eq_some_getLast b] at h
   cases h
   exact(List.dropLast_concat_getLast b).symm
def ib.last{fs:List b_}{f f':b_}:∀{b:List b_},ib (b++ [f])->f'.room=f.room->ib (b++ [f'])
 | [],h,e=>⟨by rw[e];exact h.1,λ_ z=>by cases z⟩
 | a::l,h,e=>⟨h.1,λx c=>by
   rcases mQa.mp c with c|c
   · exact h.2 x (mQa.mpr (.inl c))
   · rw[Qfq.mp c,e];exact h.2 f (mQa.mpr (.inr (Qfq.mpr rfl)))⟩
def ib.push{f':b_}:∀{fs:List b_},ib fs->f'.room≠-1->ib (fs++ [f'])
 | [],h,_=>h.elim
 | a::l,h,e=>⟨h.1,λx b=>by
   rcases mQa.mp b with b|b
   · exact h.2 x b
   · rw[Qfq.mp b];exact e⟩
def ib.pop{c f:b_}:∀{d:List b_},ib (d++ [c,f])->ib (d++ [c])
 | [],h=>⟨h.1,λ_ z=>by cases z⟩
 | a::l,h=>⟨h.1,λx b=>h.2 x (by
   rcases mQa.mp b with b|b
   · exact mQa.mpr (.inl b)
   · exact mQa.mpr (.inr (by rw[Qfq.mp b];simp)))⟩
def ib.two{f:b_}:∀{b:List b_},ib (b++ [f])->f.room≠-1->∃d c,b=d++ [c]
 | [],h,e=>absurd h.1 e
 |a::l,h,e=>⟨(a::l).dropLast,(a::l).getLast (by simp),(List.dropLast_concat_getLast (by simp)).symm⟩
section
variable{w:c9}{n h:Nat}{ts:List (Str×Nat)}{vs:List Int}{fs:List b_}{f f' f2:b_}
def ic.setLast(x:ic w n h ts vs fs)(d:fs.getLast? =some f)(e:f'.room=f.room)(i:C7 w h f'):ic w n h ts vs (fs.dropLast++ [f']):=by
 have c:=lL d
 have b:=x.hd
 rw[c] at b
 refine⟨x.lv,x.vv,?_,λg a=> ?_,ib.last (fs:=fs) b e,λg a=> ?_⟩
 ·have:=congrArg List.length c
  have:=x.lf
  simp only[lQa,Qnq,QGq] at *
  omega
 ·rcases mQa.mp a with a|a
  ·exact x.fr g (List.dropLast_subset _ a)
  ·rw[Qfq.mp a];exact i
 ·rw[List.dropLast_concat] at a
  exact x.ch g a
def ic.push(x:ic w n h ts vs fs)(b:fs.getLast? =some f)(d:Ku w h f)(e:f'.room≠-1)(i:C7 w h f'):ic w (n+1) h ts vs (fs++ [f']):=by
 refine⟨x.lv,x.vv,?_,λg a=> ?_,x.hd.push e,λg a=> ?_⟩
 ·have:=x.lf
  simp only[lQa,Qnq,QGq]
  omega
 ·rcases mQa.mp a with a|a
  ·exact x.fr g a
  ·rw[Qfq.mp a];exact i
 ·rw[List.dropLast_concat,lL b] at a
  rcases mQa.mp a with a|a
  ·exact x.ch g a
  ·rw[Qfq.mp a];exact d
def ic.pop{b:List b_}(x:ic w n h ts vs (b++ [f2,f])):ic w n h ts vs (b++ [f2])/\Ku w h f2:=by
 have e:(b++ [f2,f]).dropLast=b++ [f2]:=by rw[show b++ [f2,f]=(b++ [f2])++ [f] by simp,List.dropLast_concat]
 have c:=x.ch
 rw[e] at c
 refine⟨⟨x.lv,x.vv,?_,λg a=>x.fr g ?_,x.hd.pop,λg a=>c g ?_⟩,c f2 (by simp)⟩
 ·have:=x.lf
  simp only[lQa,Qnq,QGq] at *
  omega
 ·rcases mQa.mp a with a|a
  ·exact mQa.mpr (.inl a)
  ·exact mQa.mpr (.inr (by rw[Qfq.mp a];simp))
 ·rw[List.dropLast_concat] at a
  exact mQa.mpr (.inl a)
def ic.vals{a:List Int}(x:ic w n h ts vs fs)(b:a.length=vs.length)(hv:∀v∈a,0<=v/\v<=9):ic w n h ts a fs:=⟨by rw[x.lv,b],hv,x.lf,x.fr,x.hd,x.ch⟩
def ic.last(x:ic w n h ts vs fs):∃f,fs.getLast? =some f/\C7 w h f:=by
 have:=x.hd
 cases fs with
 |nil=>exact this.elim
 | cons a l=>
   refine⟨_,List.getLast?_eq_some_getLast (by simp),x.fr _ (List.getLast_mem (by simp))⟩
end
def lM{w:c9}{h:Nat}{f:b_}{pr:List Rw}(a:progOf w h f=some pr):(f.room= -1/\∃ts,w.af[h]?=some (ts,pr))\/∃(i j:Nat) (r:Rm) (b:Str),f.room=i/\f.deed=j/\w.aj[i]?=some r/\r.ae[j]?=some (b,pr):=by
 unfold progOf at a
 split at a
 ·rename_i c
  obtain⟨⟨ts,g⟩,e,d⟩:=oQm.mp a
  cases d
  exact .inl ⟨c,ts,e⟩
 ·split at a
  ·rename_i c
   obtain⟨r,e,d⟩:=aq a
   obtain⟨⟨b,g⟩,l,k⟩:=oQm.mp d
   cases k
   exact .inr ⟨f.room.toNat,f.deed.toNat,r,b,by omega,by omega,e,l⟩
  ·cases a
def AB{w:c9}{h i j:Nat}{f:b_}{r:Rm}{a:Str}{pr:List Rw}(d:f.room=i)(b:f.deed=j)(e:w.aj[i]?=some r)(c:r.ae[j]?=some (a,pr)):progOf w h f=some pr:=by
 unfold progOf
 rw[Quq (by omega),Qhq ⟨by omega,by omega⟩,d,b]
 show(w.aj[i]?).bind _=_
 rw[e]
 show(r.ae[j]?).map _=_
 rw[c]
 rfl
def Bu(w:c9)(h:Nat)(f:b_):Option Sc:=if f.room= -1 then(w.af[h]?).map λp=>⟨true,p.1.map (·.1)++w.ak.map (·.1),p.1.map (·.1)++w.ak.map (·.1),[],fu w.aj,w.ai.map (·.1)⟩
 else(w.aj[f.room.toNat]?).map λr=>⟨false,r.ao.map (·.1)++nI,r.ao.map (·.1),r.aa.map (·.1),fu w.aj,[]⟩
def Di{w:c9}{h:Nat}{f:b_}{pr:List Rw}(o:iZ w)(e:progOf w h f=some pr):∃b,Bu w h f=some b/\Gg b pr:=by
 unfold Bu
 rcases lM e with⟨c,l,a⟩|⟨i,j,r,k,a,m,d,g⟩
 ·rw[Qhq c,a]
  exact⟨_,rfl,(o.hd _ (mQg a)).pr⟩
 ·rw[Quq (by omega),a]
  refine⟨_,by rw[show((i:Int)).toNat=i by omega,d];rfl,((o.rm _ (mQg d)).pr _ (mQg g)).1⟩
def BG{w:c9}(o:iZ w):cR w 1 (da w) where
 lr:=by simp[da]
 rm:=λi r n c d=>by
  simp only[da,gQm,c,Option.map_some,Option.some.injEq] at d
  subst d
  have g:=o.rm r (mQg c)
  refine⟨by simp[dG,eg],by simp[dG],λv b=> ?_,by simp[dG],by simp[dG],λl j=> ?_⟩
  ·simp only[dG,eg,Qkq] at b
   obtain⟨p,a,rfl⟩:=b
   have:=g.tv p a
   omega
  ·simp only[dG,Qkq] at j
   obtain⟨p,a,rfl⟩:=j
   simp
 lp:=by simp[da]
 ps:=λp a=>by
  simp only[da,Qkq] at a
  obtain⟨p,a,rfl⟩:=a
  simp
 ls:=by simp[da,eg]
 sv:=λv b=>by
  simp only[da,eg,Qkq] at b
  obtain⟨p,a,rfl⟩:=b
  have:=o.sv p a
  omega
 lh:=by simp[da]
 hd:=λh s k m q c d=>by
  simp only[da,gQm,c,Option.map_some,Option.some.injEq] at d
  cases d
  have g:=o.hd _ (mQg c)
  refine⟨by simp[eg],λv b=> ?_,by simp,λf e=> ?_,⟨rfl,λ_ z=>by cases z⟩,λf e=>by cases e⟩
  ·simp only[eg,Qkq] at b
   obtain⟨p,a,rfl⟩:=b
   have:=g.tv p a
   omega
  ·rw[Qfq.mp e]
   refine⟨⟨k,?_,by decide,?_⟩,by decide,by decide⟩
   ·unfold progOf
    rw[Qhq (show BE.room= -1 from rfl),c]
    rfl
   ·show(0:Int)<=_
    omega
def BL(s:aW)(h:Nat):List Int×List b_:=(s.af[h]?).getD ([],[])
def J7(w:c9)(h:Nat):List (Str×Nat)×List Rw:=(w.af[h]?).getD ([],[])
def gX(s:aW)(h:Nat):b_:=((BL s h).2.getLast?).getD BE
def DU(w:c9)(i:Nat):Rm:=(w.aj[i]?).getD ⟨"","",[],[],[]⟩
def zv(s:aW)(i:Nat):eT:=(s.aj[i]?).getD ⟨[],0,[],[],[]⟩
def FI(s:aW)(k:Nat):Int×List Int:=(s.ai[k]?).getD (0,[])
def wQ(s:aW)(h:Nat)(f:b_):aW:={s with af:=s.af.set h ((BL s h).1,(BL s h).2.dropLast++ [f])}
def pw(s:aW)(i:Nat)(r:eT):aW:={s with aj:=s.aj.set i r}
def xi(s:aW)(k:Nat)(p:Int×List Int):aW:={s with ai:=s.ai.set k p}
def dB(w:c9)(s:aW)(h:Nat)(t:Tr):Int:=
 if (gX s h).room= -1 then l8 (numAt (qE w s (J7 w h).1 (BL s h).1)) (λ_=>0) t
 else l8 (numAt (qR (DU w (gX s h).room.toNat) (zv s (gX s h).room.toNat) (gX s h).given)) (t8 (DU w (gX s h).room.toNat) (zv s (gX s h).room.toNat)) t
def qg(w:c9)(s:aW)(h:Nat)(x:Str)(v:Int):aW:=
 if (gX s h).room= -1 then oE w s h (J7 w h).1 (BL s h).1 (BL s h).2 x v
 else pw s (gX s h).room.toNat {zv s (gX s h).room.toNat with vals:=bA ((DU w (gX s h).room.toNat).ao.map (·.1)) (zv s (gX s h).room.toNat).vals x v}
def Fu(r:Rm)(a:eT)(b:Str)(v:Int)(h:Nat):eT:=
 dN {a with aa:=a.aa.set (cx (r.aa.map (·.1)) b) (A3 ((a.aa[cx (r.aa.map (·.1)) b]?).getD []) (if ((r.aa[cx (r.aa.map (·.1)) b]?).getD ("","")).2="turns" then v else 0) h)}
def nq(w:c9)(s:aW)(h:Nat):Rw->aW
 |.put x t=>qg w s h x (dB w s h t)
 |.unl t n=>if dB w s h t=0 then wQ s h {gX s h with row:=n} else s
 |.go n=>wQ s h {gX s h with row:=n}
 |.do_ _ a c t=>pw {s with af:=s.af.set h ((BL s h).1,(BL s h).2++ [⟨(cx (w.aj.map (·.name)) a:Nat),(cx ((DU w (cx (w.aj.map (·.name)) a)).ae.map (·.1)) c:Nat),0,dB w s h t,0⟩])} (cx (w.aj.map (·.name)) a) (jB (zv s (cx (w.aj.map (·.name)) a)) h)
 |.wait b t=>pw s (gX s h).room.toNat (Fu (DU w (gX s h).room.toNat) (zv s (gX s h).room.toNat) b (dB w s h t) h)
 |.call b=>pw s (gX s h).room.toNat (qU (decide ((DU w (gX s h).room.toNat).ah="when free")) (zv s (gX s h).room.toNat) (cx ((DU w (gX s h).room.toNat).aa.map (·.1)) b) h)
 |.all b=>pw s (gX s h).room.toNat {zv s (gX s h).room.toNat with aa:=(zv s (gX s h).room.toNat).aa.set (cx ((DU w (gX s h).room.toNat).aa.map (·.1)) b) []}
 |.tell t=>wQ s h {gX s h with told:=dB w s h t}
 |.take p=>xi s (cx (w.ai.map (·.1)) p) (gY (FI s (cx (w.ai.map (·.1)) p)) h)
 |.give p=>xi s (cx (w.ai.map (·.1)) p) (fG (FI s (cx (w.ai.map (·.1)) p)))
 |.pass p q=>xi (xi s (cx (w.ai.map (·.1)) p) (fG (FI s (cx (w.ai.map (·.1)) p)))) (cx (w.ai.map (·.1)) q) (gY (FI (xi s (cx (w.ai.map (·.1)) p) (fG (FI s (cx (w.ai.map (·.1)) p)))) (cx (w.ai.map (·.1)) q)) h)
 |.say _=>s
def yC(s:aW)(h:Nat):aW:=pw {s with af:=s.af.set h ((BL s h).1,(BL s h).2.dropLast)} (gX s h).room.toNat (dN (zv s (gX s h).room.toNat))
def Gq(w:c9)(s:aW)(h:Nat):Option Rw:=(progOf w h (gX s h)).bind λa=>a[((gX s h).row-1).toNat]?
def Bx(w:c9)(s:aW)(h:Nat):aW:=match Gq w (yC s h) h with
 |some (.do_ (some x) _ _ _)=>qg w (yC s h) h x (gX s h).told
 |_=>yC s h
def xG(s:aW)(h:Nat):aW:=wQ s h {gX s h with row:=(gX s h).row+1}
def F2(w:c9)(s:aW)(h:Nat):Rw->Option Int
 |.say t=>some (dB w s h t)
 |_=>none
def hX(w:c9)(s:aW)(h:Nat):aW×Option Int:=
 if (gX s h).room≠-1/\(zv s (gX s h).room.toNat).within≠h then(pw s (gX s h).room.toNat (jB (zv s (gX s h).room.toNat) h),none)
 else match progOf w h (gX s h) with
  |none=>(s,none)
  | some a=>if (gX s h).row=a.length then(Bx w s h,none) else match a[(gX s h).row.toNat]? with
    |none=>(s,none)
    |some r=>(nq w (xG s h) h r,F2 w s h r)
section
variable{w:c9}{h:Nat}{s:aW}{vs:List Int}{fs:List b_}{f:b_}
def i9(hs:s.af[h]?=some (vs,fs)):BL s h=(vs,fs):=by unfold BL;rw[hs];rfl
def jD(hs:s.af[h]?=some (vs,fs))(a:fs.getLast? =some f):gX s h=f:=by unfold gX;rw[i9 hs];show(fs.getLast?).getD _=f;rw[a];rfl
def u_{p:List (Str×Nat)×List Rw}(a:w.af[h]?=some p):J7 w h=p:=by unfold J7;rw[a];rfl
def nh{i:Nat}{r:Rm}(a:w.aj[i]?=some r):DU w i=r:=by unfold DU;rw[a];rfl
def gU{i:Nat}{r:eT}(a:s.aj[i]?=some r):zv s i=r:=by unfold zv;rw[a];rfl
def uD{i:Nat}{p:Int×List Int}(a:s.ai[i]?=some p):FI s i=p:=by unfold FI;rw[a];rfl
def jV{g:b_}(hs:s.af[h]?=some (vs,fs)):wQ s h g={s with af:=s.af.set h (vs,fs.dropLast++ [g])}:=by unfold wQ;rw[i9 hs]
end
section
variable{w:c9}{n h:Nat}{s:aW}{vs:List Int}{fs:List b_}{f:b_}{sc:Sc}
def cR.whand(x:cR w n s)(hs:s.af[h]?=some (vs,fs)):∃ts pr,w.af[h]?=some (ts,pr)/\ic w n h ts vs fs:=by
 have a:h<w.af.length:=by rw[x.lh];exact(gQs.mp hs).1
 exact⟨_,_,gQe a,x.hd h _ _ vs fs (gQe a) hs⟩
def cR.wroom{i:Nat}{r:Rm}(x:cR w n s)(a:w.aj[i]?=some r):∃b,s.aj[i]?=some b/\iB n r b:=by
 have c:i<s.aj.length:=by rw[←x.lr];exact(gQs.mp a).1
 exact⟨_,gQe c,x.rm i r _ a (gQe c)⟩
def jJ{t:Sc}(a:Bu w h f=some t):(f.room= -1/\∃ts pr,w.af[h]?=some (ts,pr)/\t=⟨true,ts.map (·.1)++w.ak.map (·.1),ts.map (·.1)++w.ak.map (·.1),[],fu w.aj,w.ai.map (·.1)⟩)∨
  (f.room≠-1/\∃r,w.aj[f.room.toNat]?=some r/\t=⟨false,r.ao.map (·.1)++nI,r.ao.map (·.1),r.aa.map (·.1),fu w.aj,[]⟩):=by
 unfold Bu at a
 split at a
 ·rename_i c
  obtain⟨⟨ts,pr⟩,d,b⟩:=oQm.mp a
  exact .inl ⟨c,ts,pr,d,b.symm⟩
 ·rename_i c
  obtain⟨r,d,b⟩:=oQm.mp a
  exact .inr ⟨c,r,d,b.symm⟩
def oF(x:C7 w h f)(c:f.room≠-1):f.room=(f.room.toNat:Int):=by
 obtain⟨e,a,_⟩:=x.pr
 rcases lM a with⟨b,_⟩|⟨i,_,_,_,d,_⟩
 ·exact absurd b c
 ·omega
def jW{t:Tr}(o:iZ w)(x:cR w n s)(hs:s.af[h]?=some (vs,fs))(j:fs.getLast? =some f)(A:Bu w h f=some sc)(d:EF sc t):(0<=dB w s h t/\dB w s h t<=9)/\yk w s h t (dB w s h t):=by
 obtain⟨z,L,m,k⟩:=x.whand hs
 have F:=o.hd _ (mQg m)
 have p:=k.fr f (QcQ j)
 have K:=o.l3
 have G:=F.l1
 have B:=x.ls
 rcases jJ A with⟨c,C,H,e,rfl⟩|⟨c,r,hr,rfl⟩
 ·rw[m] at e
  cases e
  have b:gN (qE w s z vs):=gN.merge (di x.sv) (di k.vv)
  have u:dB w s h t=l8 (numAt (qE w s z vs)) (λ_=>0) t:=by unfold dB;rw[jD hs j,Qhq c,u_ m,i9 hs]
  rw[u]
  refine⟨?_,λS Q q=>uH m hs j c B k.lv (by omega) (by dsimp only at G;omega) x.sv k.vv d.1 (by have:=d.2;omega) q⟩
  refine fo (ws:=z.map (·.1)++w.ak.map (·.1)) (bs:= []) (λy a=> ?_) d.1
  refine(gZ b (dE ?_)).2
  rcases mQa.mp a with a|a
  ·exact .inr (cV k.lv a)
  ·exact .inl (cV B a)
 ·obtain⟨v,i,l⟩:=x.wroom hr
  have g:=o.rm r (mQg hr)
  have I:=g.l1
  have J:=g.l2
  have b:gN (qR r v f.given):=(di l.vv).put p.gv.1 p.gv.2
  have u:dB w s h t=l8 (numAt (qR r v f.given)) (t8 r v) t:=by unfold dB;rw[jD hs j,Quq c,nh hr,gU i]
  rw[u]
  refine⟨?_,λS Q q=>sj hs j (oF p c) hr i l.lv l.lb (by omega) (by omega) l.vv p.gv d.1 (by have:=d.2;omega) q⟩
  refine fo (ws:=r.ao.map (·.1)++nI) (bs:=r.aa.map (·.1)) (λy a=> ?_) d.1
  refine(gZ b (ka ?_)).2
  rcases mQa.mp a with a|a
  ·exact .inr (cV l.lv a)
  ·left
   rw[Qfq.mp a]
def kZ{ns:List Str}{y:Str}{v:Int}{us:List Int}(c:∀v∈us,0<=v/\v<=9)(b:0<=v/\v<=9):(bA ns us y v).length=us.length/\∀u∈bA ns us y v,0<=u/\u<=9:=by
 unfold bA
 refine⟨by simp,λz a=> ?_⟩
 rcases QTq a with a|rfl
 ·exact c z a
 ·exact b
def zP{y:Str}{v:Int}(o:iZ w)(x:cR w n s)(hs:s.af[h]?=some (vs,fs))(i:fs.getLast? =some f)(p:Bu w h f=some sc)(u:y∈sc.ps)(hv:0<=v/\v<=9):Puts w s h y v (qg w s h y v)/\cR w n (qg w s h y v):=by
 obtain⟨z,K,g,k⟩:=x.whand hs
 have B:=o.hd _ (mQg g)
 have G:=k.fr f (QcQ i)
 have H:=o.l1
 have J:=o.l3
 have C:=B.l1
 have L:=o.l4
 have N:=x.lr
 have M:=x.lh
 rcases jJ p with⟨c,A,F,d,rfl⟩|⟨c,r,hr,rfl⟩
 ·rw[g] at d
  cases d
  have l:qg w s h y v=oE w s h z vs fs y v:=by unfold qg;rw[jD hs i,Qhq c,u_ g,i9 hs]
  rw[l]
  refine⟨λS Q q=>D7 g hs i c x.ls k.lv (by omega) (by dsimp only at C;omega) (by omega) u q,?_⟩
  unfold oE
  split
  ·obtain⟨b,j⟩:=kZ (ns:=w.ak.map (·.1)) (y:=y) x.sv hv
   exact x.share b j
  ·obtain⟨b,j⟩:=kZ (ns:=z.map (·.1)) (y:=y) k.vv hv
   exact x.hand g (k.vals b j)
 ·obtain⟨t,e,a⟩:=x.wroom hr
  have m:=o.rm r (mQg hr)
  have I:=m.l1
  have l:qg w s h y v={s with aj:=s.aj.set f.room.toNat {t with vals:=bA (r.ao.map (·.1)) t.vals y v}}:=by unfold qg;rw[jD hs i,Quq c,nh hr,gU e];rfl
  rw[l]
  refine⟨λS Q q=>C0 hs i (oF G c) hr e a.lv (by omega) (by omega) u q,?_⟩
  obtain⟨b,j⟩:=kZ (ns:=r.ao.map (·.1)) (y:=y) a.vv hv
  exact x.room hr ⟨by rw[a.lv,←b],a.lb,j,a.br,a.bl,a.bb⟩
def cR.goes{m:Int}{pr:List Rw}(x:cR w n s)(hs:s.af[h]?=some (vs,fs))(a:fs.getLast? =some f)(d:progOf w h f=some pr)(i:0<=m)(g:m<=pr.length):cR w n {s with af:=s.af.set h (vs,fs.dropLast++ [{f with row:=m}])}:=by
 obtain⟨k,j,e,c⟩:=x.whand hs
 have b:=c.fr f (QcQ a)
 exact x.hand e (c.setLast a rfl ⟨⟨pr,d,i,g⟩,b.gv,b.tv⟩)
def cR.tells{v:Int}(x:cR w n s)(hs:s.af[h]?=some (vs,fs))(a:fs.getLast? =some f)(hv:0<=v/\v<=9):cR w n {s with af:=s.af.set h (vs,fs.dropLast++ [{f with told:=v}])}:=by
 obtain⟨g,e,d,b⟩:=x.whand hs
 have c:=b.fr f (QcQ a)
 exact x.hand d (b.setLast a rfl ⟨c.pr,c.gv,hv⟩)
def iB.come{r:Rm}{a:eT}{k:Int}(x:iB n r a):iB (n+1) r (jB a k):=by
 unfold jB
 have:=x.br
 split
 ·exact⟨x.lv,x.lb,x.vv,by show a.row.length<=_;omega,Nat.le_succ_of_le x.bl,λl b=>Nat.le_succ_of_le (x.bb l b)⟩
 ·exact⟨x.lv,x.lb,x.vv,by simp;omega,Nat.le_succ_of_le x.bl,λl b=>Nat.le_succ_of_le (x.bb l b)⟩
def iB.leave{r:Rm}{c:eT}(x:iB n r c):iB n r (dN c):=by
 obtain⟨g,b,d,j,k⟩:=c
 have i:=x.br
 have e:=x.bl
 unfold dN
 dsimp only at i e⊢
 cases j with
 |cons a l=>exact⟨x.lv,x.lb,x.vv,x.br,by simp at e;show l.length<=n;omega,x.bb⟩
 | nil=>
   cases d with
   |cons a l=>exact⟨x.lv,x.lb,x.vv,by simp at i;show l.length<=n;omega,x.bl,x.bb⟩
   |nil=>exact⟨x.lv,x.lb,x.vv,x.br,x.bl,x.bb⟩
def iB.line{r:Rm}{a:eT}{b:Nat}{l:List (Int×Int)}(x:iB n r a)(d:l.length<=n):iB n r {a with aa:=a.aa.set b l}:=⟨x.lv,by simp;exact x.lb,x.vv,x.br,x.bl,λk c=>by
 rcases QTq c with c|rfl
 ·exact x.bb k c
 ·exact d⟩
def iB.call{r:Rm}{a:eT}{b:Nat}{k:Int}{d:Bool}(x:iB n r a):iB (n+1) r (qU d a b k):=by
 unfold qU
 split
 ·rename_i p l e
  have c:=x.bb _ (mQg e)
  have y:=(x.mono (Nat.le_succ n)).line (b:=b) (l:=l) (by simp at c;omega)
  have z:=x.bl
  split
  ·exact y
  ·exact⟨y.lv,y.lb,y.vv,y.br,by simp;omega,y.bb⟩
 ·exact x.mono (Nat.le_succ n)
def CY{l:List (Int×Int)}{a b:Int}:(A3 l a b).length=l.length+1:=by
 unfold A3
 have:=List.length_filter_le (λp:Int×Int=>decide (p.1<=a)) l
 simp only[lQa,Qxq,List.length_drop,Qnq,QGq]
 omega
def Fc{a c:Str}(o:iZ w)(g:(a,c)∈fu w.aj):a∈w.aj.map (·.name)/\∃r,w.aj[cx (w.aj.map (·.name)) a]?=some r/\c∈r.ae.map (·.1):=by
 unfold fu at g
 obtain⟨r,d,k⟩:=QOq.mp g
 obtain⟨p,l,e⟩:=Qkq.mp k
 cases e
 have b:r.name∈w.aj.map (·.name):=Qkq.mpr ⟨r,d,rfl⟩
 refine⟨b,r,?_,Qkq.mpr ⟨p,l,rfl⟩⟩
 obtain⟨t,m⟩:=gu b
 obtain⟨i,j,e⟩:=QbQ d
 have q:(w.aj.map (·.name))[i]?=some r.name:=by rw[gQm,gQe j,e];rfl
 rw[jO o.nd m q,gQe j,e]
def zO{r:Rw}{pr:List Rw}(o:iZ w)(x:cR w n s)(hn:n<=100)(hs:s.af[h]?=some (vs,fs))(F:fs.getLast? =some f)(hp:progOf w h f=some pr)(h1:1<=f.row)(Y:pr[(f.row-1).toNat]?=some r):Hf w s h r (nq w s h r)/\cR w (n+1) (nq w s h r):=by
 have e1:=i9 hs
 have e2:=jD hs F
 obtain⟨sc,B,b8⟩:=Di o hp
 have b:=b8 r (mQg Y)
 obtain⟨ts,a0,hw,hi⟩:=x.whand hs
 have fi:=hi.fr f (QcQ F)
 have b1:=o.l1
 have b2:=o.l2
 have b3:=o.l3
 have b4:=o.l4
 have lr:=x.lr
 have lp:=x.lp
 have lh:=x.lh
 have lf:=hi.lf
 have P:=x.mono (Nat.le_succ n)
 have C:sc.own=false->∃(i:Nat) (r:Rm) (H:eT),f.room=i/\w.aj[i]?=some r/\s.aj[i]?=some H/\iB n r H/\HK (fu w.aj) r/\sc.bs=r.aa.map (·.1):=λho=>by
  rcases jJ B with⟨c,a2,a0,a4,rfl⟩|⟨c,r,G,rfl⟩
  ·cases ho
  ·obtain⟨H,j,K⟩:=x.wroom G
   exact⟨_,r,H,oF fi c,G,j,K,o.rm r (mQg G),rfl⟩
 have J:sc.own=true->sc.ts=w.ai.map (·.1):=λho=>by
  rcases jJ B with⟨c,a2,a0,a4,rfl⟩|⟨c,r,G,rfl⟩
  ·rfl
  ·cases ho
 have k:∀y,y∈w.ai.map (·.1)->∀ps:List (Int×List Int),w.ai.length=ps.length->∃p,ps[cx (w.ai.map (·.1)) y]?=some p:=λy u ps hl=>by
  have:=(gu u).1
  rw[lQm] at this
  exact⟨_,gQe (by omega)⟩
 have R:∀p:Int×List Int,p.2.length<=n->(gY p h).2.length<=n+1:=λp hp=>by
  unfold gY
  split
  ·show p.2.length<=_;omega
  ·simp;omega
 have M:∀p:Int×List Int,p.2.length<=n->(fG p).2.length<=n:=λp hp=>by
  obtain⟨v,l⟩:=p
  unfold fG
  cases l with
  |nil=>simp
  |cons a l=>simp at hp;show l.length<=n;omega
 cases r with
 | put y t=>
   obtain⟨X,G⟩:=jW o x hs F B b.2
   obtain⟨e,b0⟩:=zP o x hs F B b.1 X
   exact⟨λS Q q=>Bk G e q,b0.mono (Nat.le_succ n)⟩
 | unl t m=>
   obtain⟨X,G⟩:=jW o x hs F B b.1
   have A:nq w s h (.unl t m)=if dB w s h t=0 then{s with af:=s.af.set h (vs,fs.dropLast++ [{f with row:=m}])} else s:=by simp only[nq,e2,jV hs]
   rw[A]
   refine⟨λS Q q=>vA G hs F (by omega) (by omega) q,?_⟩
   split
   · exact P.goes hs F hp (by omega) (by have:=b.2;omega)
   · exact P
 | go m=>
   have A:nq w s h (.go m)={s with af:=s.af.set h (vs,fs.dropLast++ [{f with row:=m}])}:=by simp only[nq,e2,jV hs]
   rw[A]
   exact⟨λS Q q=>Dm hs F (by omega) (by omega) q,P.goes hs F hp (by omega) (by have:m<=pr.length:=b;omega)⟩
 | do_ g U W t=>
   obtain⟨X,G⟩:=jW o x hs F B b.2.2
   have ev:nq w s h (.do_ g U W t)=nq w s h (.do_ g U W t):=rfl
   generalize c3:dB w s h t=v at X G
   have c1:sc.gs=fu w.aj:=by
     rcases jJ B with⟨c,a2,a0,a4,rfl⟩|⟨c,r,G,rfl⟩ <;>rfl
   have a7:=b.2.1
   rw[c1] at a7
   obtain⟨a8,r,d,a3⟩:=Fc o a7
   obtain⟨H,j,K⟩:=x.wroom d
   have I:=o.rm r (mQg d)
   have b5:=I.l3
   have b6:=K.br
   have A:nq w s h (.do_ g U W t)={s with af:=s.af.set h (vs,fs++ [⟨(cx (w.aj.map (·.name)) U:Nat),(cx (r.ae.map (·.1)) W:Nat),0,v,0⟩]),aj:=s.aj.set (cx (w.aj.map (·.name)) U) (jB H h)}:=by simp only[nq,e1,nh d,gU j,c3,pw]
   rw[A]
   refine⟨λS Q q=>DC G hs a8 d j a3 (by omega) (by omega) (by omega) (by omega) (by omega) (by omega) q,?_⟩
   have c0:=gu a3
   have a5:=c0.1
   rw[lQm] at a5
   obtain⟨⟨c4,a6⟩,c2⟩:∃p,r.ae[cx (r.ae.map (·.1)) W]?=some p:=⟨_,gQe a5⟩
   have pf:progOf w h ⟨(cx (w.aj.map (·.name)) U:Nat),(cx (r.ae.map (·.1)) W:Nat),0,v,0⟩=some a6:=AB rfl rfl d c2
   have hh:=hi.push (f':=⟨(cx (w.aj.map (·.name)) U:Nat),(cx (r.ae.map (·.1)) W:Nat),0,v,0⟩) F ⟨pr,g,U,W,t,hp,h1,Y⟩ (by show((cx (w.aj.map (·.name)) U:Nat):Int)≠-1;omega) ⟨⟨a6,pf,by show(0:Int)<=0;omega,by show(0:Int)<=_;omega⟩,X,by show(0:Int)<=0/\(0:Int)<=9;omega⟩
   exact(P.hand hw hh).room d K.come
 | wait y t=>
   obtain⟨i,r,H,N,d,j,K,I,L⟩:=C b.1
   obtain⟨X,G⟩:=jW o x hs F B b.2.2
   have u:=b.2.1
   rw[L] at u
   have b6:=I.l2
   have lb:=K.lb
   obtain⟨k1,k2⟩:=gu u
   rw[lQm] at k1
   rw[gQm] at k2
   obtain⟨⟨y',so⟩,k3,k4⟩:=oQm.mp k2
   have k4:y'=y:=k4
   subst k4
   obtain⟨Z,hl⟩:∃l,H.aa[cx (r.aa.map (·.1)) y']?=some l:=⟨_,gQe (by omega)⟩
   have ll:=K.bb Z (mQg hl)
   have ti:f.room.toNat=i:=by omega
   have A:nq w s h (.wait y' t)={s with aj:=s.aj.set i (dN {H with aa:=H.aa.set (cx (r.aa.map (·.1)) y') (A3 Z (if so="turns" then dB w s h t else 0) h)})}:=by simp only[nq,Fu,pw,e2,ti,nh d,gU j,hl,k3,Option.getD_some]
   rw[A]
   refine⟨λS Q q=>zp hs F N d j (by omega) lb (by omega) u k3 hl (by omega) G q,?_⟩
   exact P.room d (((K.mono (Nat.le_succ n)).line (by rw[CY];omega)).leave)
 | call y=>
   obtain⟨i,r,H,N,d,j,K,I,L⟩:=C b.1
   have u:=b.2
   rw[L] at u
   have b6:=I.l2
   have b7:=K.bl
   have ti:f.room.toNat=i:=by omega
   have A:nq w s h (.call y)={s with aj:=s.aj.set i (qU (decide (r.ah="when free")) H (cx (r.aa.map (·.1)) y) h)}:=by simp only[nq,pw,e2,ti,nh d,gU j]
   rw[A]
   refine⟨λS Q q=>yn hs F N d j (by omega) K.lb (by omega) (by omega) u q,?_⟩
   exact P.room d K.call
 | all y=>
   obtain⟨i,r,H,N,d,j,K,I,L⟩:=C b.1
   have u:=b.2
   rw[L] at u
   have b6:=I.l2
   have ti:f.room.toNat=i:=by omega
   have A:nq w s h (.all y)={s with aj:=s.aj.set i {H with aa:=H.aa.set (cx (r.aa.map (·.1)) y) []}}:=by simp only[nq,pw,e2,ti,nh d,gU j]
   rw[A]
   refine⟨λS Q q=>Br hs F N d j (by omega) K.lb (by omega) u q,?_⟩
   exact P.room d ((K.mono (Nat.le_succ n)).line (by simp))
 | tell t=>
   obtain⟨X,G⟩:=jW o x hs F B b.2
   have A:nq w s h (.tell t)={s with af:=s.af.set h (vs,fs.dropLast++ [{f with told:=dB w s h t}])}:=by simp only[nq,e2,jV hs]
   rw[A]
   exact⟨λS Q q=>yx G hs F (by omega) (by omega) q,P.tells hs F X⟩
 | take y=>
   have u:=b.2
   rw[J b.1] at u
   obtain⟨p,e⟩:=k y u s.ai lp
   have pl:=x.ps p (mQg e)
   have A:nq w s h (.take y)={s with ai:=s.ai.set (cx (w.ai.map (·.1)) y) (gY p h)}:=by simp only[nq,xi,uD e]
   rw[A]
   exact⟨λS Q q=>y3 u e (by omega) (by omega) (by omega) q,P.pass (R p pl)⟩
 | give y=>
   have u:=b.2
   rw[J b.1] at u
   obtain⟨p,e⟩:=k y u s.ai lp
   have pl:=x.ps p (mQg e)
   have A:nq w s h (.give y)={s with ai:=s.ai.set (cx (w.ai.map (·.1)) y) (fG p)}:=by simp only[nq,xi,uD e]
   rw[A]
   exact⟨λS Q q=>yj u e (by omega) (by omega) q,P.pass (Nat.le_succ_of_le (M p pl))⟩
 | pass y z=>
   have u:=b.2.1
   have hz:=b.2.2
   rw[J b.1] at u hz
   obtain⟨p,e⟩:=k y u s.ai lp
   have pl:=x.ps p (mQg e)
   have x2:cR w n _:=x.pass (i:=cx (w.ai.map (·.1)) y) (M p pl)
   obtain⟨p2,a1⟩:=k z hz (s.ai.set (cx (w.ai.map (·.1)) y) (fG p)) (by simpa using lp)
   have a9:=x2.ps p2 (mQg a1)
   have A:nq w s h (.pass y z)={s with ai:=(s.ai.set (cx (w.ai.map (·.1)) y) (fG p)).set (cx (w.ai.map (·.1)) z) (gY p2 h)}:=by
     have e3:FI (xi s (cx (w.ai.map (·.1)) y) (fG p)) (cx (w.ai.map (·.1)) z)=p2:=uD a1
     simp only[nq,uD e]
     rw[e3]
     rfl
   rw[A]
   refine⟨λS Q q=>yl u hz e (by omega) (by omega) (by omega) a1 q,(x2.mono (Nat.le_succ n)).pass (R p2 a9)⟩
 |say t=>exact⟨λS Q q=>AO (sd:=.non) q,P⟩
end
section
variable{w:c9}{n h:Nat}{s:aW}{vs:List Int}{fs:List b_}{f:b_}{sc:Sc}
def cR.mays(o:iZ w)(x:cR w n s)(t:n<=100):GR w s:=by
 have v:=o.l1
 have A:=o.l2
 have B:=o.l4
 have G:=x.lr
 have y:=x.lp
 have C:=x.lh
 refine wI (λS Q q=>oh t (by omega) (by omega) x.ps (λk c=> ?_) q) (λh r=> ?_) (by omega)
 ·obtain⟨i,g,e⟩:=QbQ c
  have a:s.aj[i]?=some k:=by rw[gQe g,e]
  have d:w.aj[i]?=some (w.aj[i]'(by omega)):=gQe (by omega)
  have b:=x.rm i _ k d a
  have:=(o.rm _ (mQg d)).l2
  have:=b.lb
  exact⟨b.br,b.bl,by omega,b.bb⟩
 ·obtain⟨⟨vs,fs⟩,a⟩:∃p,s.af[h]?=some p:=⟨_,gQe r⟩
  obtain⟨F,z,d,g⟩:=x.whand a
  obtain⟨f,l,u⟩:=g.last
  obtain⟨j,m,_⟩:=u.pr
  exact⟨vs,fs,f,j,a,l,m⟩
def E5(o:iZ w)(x:cR w n s)(hn:n<=100)(hm:h∈xE w s)(hs:s.af[h]?=some (vs,fs))(l:fs.getLast? =some f):wb w s h (hX w s h).1 (hX w s h).2/\cR w (n+1) (hX w s h).1:=by
 have e1:=i9 hs
 have L:=jD hs l
 obtain⟨ts,a3,hw,hi⟩:=x.whand hs
 have fi:=hi.fr f (QcQ l)
 obtain⟨pr,d,P,a5⟩:=fi.pr
 have b1:=o.l1
 have b4:=o.l4
 have lr:=x.lr
 have lh:=x.lh
 have lf:=hi.lf
 have nb:¬(f.room= -1/\f.row=pr.length):=by
  rintro⟨c1,c2⟩
  have:=(List.mem_filter.mp hm).2
  rw[QCq] at this
  have hb:uk w s h=true:=by
   unfold uk wF
   rw[hs]
   show(match fs.getLast? with|some f=>_|none=>_)=_
   rw[l]
   simp only[d,Option.getD_some,c1,c2,decide_true,Bool.and_true]
  rw[hb] at this
  exact absurd this.2 (by decide)
 by_cases c:f.room= -1
 ·
  have F:pr=a3:=by
   unfold progOf at d
   rw[Qhq c,hw] at d
   cases d;rfl
  subst F
  have I:f.row.toNat<pr.length:=by
   have:f.row≠pr.length:=λz=>nb ⟨c,z⟩
   omega
  have a:pr[f.row.toNat]?=some (pr[f.row.toNat]):=gQe I
  generalize pr[f.row.toNat]=r at a
  obtain⟨sc,H,G⟩:=Di o d
  have k:=G r (mQg a)
  have N:Ho w s h r (F2 w s h r):=by
   cases r with
   |say t=>exact⟨_,rfl,(jW o x hs l H k.2).2⟩
   |_=>rfl
  have B:hX w s h=(nq w {s with af:=s.af.set h (vs,fs.dropLast++ [{f with row:=f.row+1}])} h r,F2 w s h r):=by
   unfold hX xG
   rw[L,Quq (λz=>z.1 c),d]
   simp only
   rw[Quq (λz=>nb ⟨c,z⟩),a,jV hs]
  rw[B]
  have K:=x.goes hs l d (m:=f.row+1) (by omega) (by omega)
  have R:h<s.af.length:=(gQs.mp hs).1
  obtain⟨M,p⟩:=zO (f:={f with row:=f.row+1}) (r:=r) (pr:=pr) o K hn (Qyq R) (by simp) d (by show 1<=f.row+1;omega) (by show pr[(f.row+1-1).toNat]?=_;rw[show f.row+1-1=f.row by omega];exact a)
  exact⟨xR hs l (.inl c) d P a (by omega) (by omega) N M,p⟩
 ·
  rcases lM d with⟨c',_⟩|⟨i,j,r,dn,h1,h2,Y,h4⟩
  ·exact absurd c' c
  obtain⟨J,b,ri⟩:=x.wroom Y
  have br:=ri.br
  have Z:f.room.toNat=i:=by omega
  by_cases U:J.within=h
  ·have u:Here s h f:=.inr ⟨i,J,h1,b,U⟩
   by_cases ce:f.row=pr.length
   ·
    have W:=lL l
    have M:=hi.hd
    rw[W] at M
    obtain⟨C,A,hg⟩:=M.two c
    have a1:fs=C++ [A,f]:=by rw[W,hg];simp
    subst a1
    obtain⟨a0,a4⟩:=hi.pop
    obtain⟨a6,g,rn,a2,t,p1,p2,X⟩:=a4
    have eo:yC s h={s with aj:=s.aj.set i (dN J),af:=s.af.set h (vs,C++ [A])}:=by
     unfold yC
     rw[L,e1,Z,gU b]
     simp only[pw]
     rw[show C++ [A,f]=(C++ [A])++ [f] by simp,List.dropLast_concat]
    have ho:(yC s h).af[h]?=some (vs,C++ [A]):=by rw[eo];exact Qyq (gQs.mp hs).1
    have eb:Gq w (yC s h) h=some (.do_ g rn a2 t):=by
     unfold Gq
     rw[jD ho (f:=A) (by simp),p1]
     exact X
    have B:hX w s h=(Bx w s h,none):=by
     unfold hX
     rw[L,Z,gU b,Quq (λz=>z.2 U),d]
     simp only
     rw[Qhq ce]
    have K:cR w n {s with aj:=s.aj.set i (dN J),af:=s.af.set h (vs,C++ [A])}:=(x.hand hw a0).room Y ri.leave
    obtain⟨sc,H,G⟩:=Di o p1
    have k:=G _ (mQg X)
    have R:h<s.af.length:=(gQs.mp hs).1
    cases g with
    | none=>
      have ee:Bx w s h={s with aj:=s.aj.set i (dN J),af:=s.af.set h (vs,C++ [A])}:=by unfold Bx;rw[eb];exact eo
      rw[B,ee]
      exact⟨wR hs l u d ce λS Q q=>pj hs h1 b (by omega) (by omega) p1 p2 X (λ_ e=>e.symm) q,K.mono (Nat.le_succ n)⟩
    | some y=>
      obtain⟨F,p⟩:=zP (y:=y) (v:=f.told) o K (Qyq R) (by simp) H (k.1 y rfl) fi.tv
      have ee:Bx w s h=qg w {s with aj:=s.aj.set i (dN J),af:=s.af.set h (vs,C++ [A])} h y f.told:=by unfold Bx;rw[eb,eo,L]
      rw[B,ee]
      exact⟨wR hs l u d ce λS Q q=>pj hs h1 b (by omega) (by omega) p1 p2 X (λ_ e=>by rw[e];exact F) q,p.mono (Nat.le_succ n)⟩
   ·
    have I:f.row.toNat<pr.length:=by omega
    have a:pr[f.row.toNat]?=some (pr[f.row.toNat]):=gQe I
    generalize pr[f.row.toNat]=r' at a
    have k:=((o.rm _ (mQg Y)).pr _ (mQg h4)).1 r' (mQg a)
    have he:Ho w s h r' none:=by
     cases r' with
     |say t=>exact absurd k.1 (show¬(false=true) by decide)
     |_=>rfl
    have K:=x.goes hs l d (m:=f.row+1) (by omega) (by omega)
    have R:h<s.af.length:=(gQs.mp hs).1
    have B:hX w s h=(nq w {s with af:=s.af.set h (vs,fs.dropLast++ [{f with row:=f.row+1}])} h r',none):=by
     unfold hX xG
     rw[L,Z,gU b,Quq (λz=>z.2 U),d]
     simp only
     rw[Quq ce,a,jV hs]
     refine congrArg (Prod.mk _) ?_
     cases r' with
     |say t=>exact absurd k.1 (show¬(false=true) by decide)
     |_=>rfl
    rw[B]
    obtain⟨M,p⟩:=zO (f:={f with row:=f.row+1}) (r:=r') (pr:=pr) o K hn (Qyq R) (by simp) d (by show 1<=f.row+1;omega) (by show pr[(f.row+1-1).toNat]?=_;rw[show f.row+1-1=f.row by omega];exact a)
    exact⟨xR hs l u d P a (by omega) (by omega) he M,p⟩
  ·
   have B:hX w s h=({s with aj:=s.aj.set i (jB J h)},none):=by
    unfold hX
    rw[L,Z,gU b,Qhq ⟨c,U⟩]
    rfl
   rw[B]
   exact⟨AQ hs l h1 b U (by omega) (by omega),(x.mono (Nat.le_succ n)).room Y ri.come⟩
end
end W28
namespace DL
open PySem PySem.Spec L2
section
variable{Γ:cz}{S:aA}
def Es{f:dQ}{Q:(List D×(aA->Prop))->aA->Prop}(h:E f Γ S λp S1=>Q (fB 0 p.1,λa=>p.2.stays a p.1) S1):E (zC f) Γ S Q:=by
 obtain⟨p,S1,b,q⟩:=h
 exact⟨_,S1,by unfold zC;rw[b];rfl,q⟩
def JF{f:dQ}{Q:D->aA->Prop}(h:E f Γ S λp S1=>p.2.isL=true/\∃bs,Gs p.1=some bs/\Q (.bl (bs.all id)) S1):E (Ee f) Γ S Q:=by
 obtain⟨p,S1,a,l,bs,b,q⟩:=h
 exact⟨_,S1,by unfold Ee;rw[a];simp only[Qbq];rw[Qhq l,b];rfl,q⟩
def C8{i j:Int}{Q:D->Prop}(h:Cv i j)(q:Q (.int (i^j.toNat))):Op (uG S (.int i) (.int j)) Q:=⟨_,by simp only[uG,intD];rw[Qhq h],q⟩
def F3{i j:Int}{Q:D->Prop}(h:IntMulOk i j)(q:Q (.int (i*j))):Op (lE S (.int i) (.int j)) Q:=⟨_,by simp only[lE,intD];rw[Qhq h],q⟩
end
theorem xS:∀n:Nat,Gs (List.replicate n (.bl true))=some (List.replicate n true)
 |0=>rfl
 |n+1=>by simp only[QNq,Gs];rw[xS n];rfl
end DL
namespace W28
open PySem PySem.Spec L2 DL
section
variable{S S0:aA}{Q:Res->aA->Prop}
def Bv(l:List Nat):l.map eB=(l.map λh:Nat=>(h:Int)).map D.int:=by rw[QPq];rfl
def iQ{l:List Nat}:∀d∈l.map eB,(∀k,d≠.ref k)/\bL 0 d=true:=λd b=>by
 obtain⟨a,_,rfl⟩:=Qkq.mp b
 exact⟨λk z=>(nomatch z),rfl⟩
def Ew{k i:Nat}{l:List Nat}{e:Int}(x:Ex k S0 S)(hi:i≠k)(v:S[i]?=some (.lst (l.map eB)))(w:0<l.length)(A:l.length<1000)
  (h:∀(m:Nat) (f:aA),m∈l->Ex k S0 f->Ex k S f->f.length=S.length->Q (.d (.int m)) f):Fn iK [.ref k,.ref i,.int e] S Q:=by
 have y:Ex k S S:=by obtain⟨a,b,c,C⟩:=x.pot;exact Ex.refl C
 have g:∀r,Ex k S r->r.length=S.length->T (bP (ax cI (ar (au 0) (ar (au 1) av)))) [some (.ref k),some (.ref i),some (.int e)] r (λo=>match o with
   |.nx _ f=>Op (settle S .non f) λp=>Q p.1 p.2|.rt d f=>Op (settle S d f) λp=>Q p.1 p.2|.rl l f=>Op (de S l f) λp=>Q p.1 p.2|_=>False):=λr t F=>by
  symm
  refine pX (xs:=l.map eB) t hi (t.keep _ _ hi v) (by simpa using w) (by simpa using A) iQ (λd j=>eN (iQ d j).2) λd f j q B n=> ?_
  obtain⟨m,s,rfl⟩:=Qkq.mp j
  dsimp only
  refine t9 q x.lt (iQ _ j).1 (eN (iQ _ j).2) λa b c=> ?_
  exact h m _ s x.set y.set (by simp)
 refine bF ?_
 unfold kP
 apply aS (bV (lT (eA (E8 ?_))))
 refine eP v ?_
 refine⟨_,_,rfl,by rw[Bv];exact iT _,?_⟩
 rw[u7]
 show if decide (e∈l.map λh:Nat=>(h:Int))=true then _ else _
 by_cases c:e∈l.map λh:Nat=>(h:Int)
 ·rw[Qeq c,Qhq rfl]
  obtain⟨m,s,rfl⟩:=Qkq.mp c
  symm
  apply cQ y (by decide) (by decide) λd f j q B n=> ?_
  refine dJ ?_
  dsimp only
  by_cases u:(d:Int)=0
  ·rw[Qeq u,Qhq rfl]
   symm
   refine t9 q x.lt (λk z=>(nomatch z)) rfl λa b c=> ?_
   exact h m _ s x.set y.set (by simp)
  ·rw[Qdq u,Quq (by decide)]
   refine bC ?_
   exact g f q n
 ·rw[Qdq c,Quq (by decide)]
  rw[Quq (by decide)]
  refine bC ?_
  exact g S y rfl
end
section
variable{S S0:aA}{Q:Res->aA->Prop}
def Pl:Nat->D->Prop
 |0,_=>False
 |_+1,.int _=>True
 |_+1,.str _=>True
 |_+1,.non=>True
 |n+1,.tup ds=>ds.length<=1000/\∀d∈ds,Pl n d
 |_+1,_=>False
theorem wD:∀ds:List D,w_ ds ds=ds.map λd=>D.tup [d,d]
 | []=>rfl
 | d::ds=>by
   have:=wD ds
   simp only[w_,List.zipWith_cons_cons,QDq] at this⊢
   rw[this]
theorem Au:∀(n:Nat) (d:D) {S:aA} {Q:Res->aA->Prop},Pl n d->Q (.d (.bl true)) S->Fn (fc n) [d,d] S Q
 |0,_,_,_,h,_=>h.elim
 | n+1,.int i,S,Q,_,q=>by
   refine bF ?_
   unfold fj
   refine aS (bV (bI (d:=.int i) (aB rfl ⟨rfl,rfl⟩) rfl ?_))
   refine aH (λc=>by cases c) (λ_=>bC ?_)
   refine aS (bV (mB (bI (d:=.int i) (aB rfl ⟨rfl,rfl⟩) rfl ?_)))
   apply aH (λc=>by cases c) (λ_=> ?_)
   refine CA ?_
   refine aH (λc=>by cases c) (λ_=>bC ?_)
   refine eG (nM (rQ (aB rfl ⟨_,rfl,true,rfl,?_⟩)))
   rw[Qhq rfl]
   refine nM (FS (rQ (aB rfl ⟨_,rfl,false,rfl,true,rfl,?_⟩)))
   rw[Qhq rfl]
   symm
   refine dJ ?_
   rw[Qeq rfl]
   exact bU (λk z=>(nomatch z)) rfl q
 | n+1,.str i,S,Q,_,q=>by
   refine bF ?_
   unfold fj
   refine aS (bV (bI (d:=.str i) (aB rfl ⟨rfl,rfl⟩) rfl ?_))
   refine aH (λc=>by cases c) (λ_=>bC ?_)
   refine aS (bV (mB (bI (d:=.str i) (aB rfl ⟨rfl,rfl⟩) rfl ?_)))
   refine aH (λ_=> ?_) (λc=>by cases c)
   refine aH (λ_=> ?_) (λc=>by cases c)
   refine eG (nM (cO (rQ (aB rfl ⟨_,rfl,rQ (aB rfl ⟨_,rfl,.bl true,rfl,true,rfl,?_⟩)⟩))))
   rw[Qhq rfl]
   symm
   refine gq ?_
   rw[Qeq rfl]
   exact bU (λk z=>(nomatch z)) rfl q
 | n+1,.non,S,Q,_,q=>by
   refine bF ?_
   unfold fj
   refine aS (bV (bI (d:=.non) (aB rfl ⟨rfl,rfl⟩) rfl ?_))
   refine aH (λc=>by cases c) (λ_=>bC ?_)
   refine aS (bV (mB (bI (d:=.non) (aB rfl ⟨rfl,rfl⟩) rfl ?_)))
   apply aH (λc=>by cases c) (λ_=> ?_)
   refine CA ?_
   refine aH (λ_=> ?_) (λc=>by cases c)
   refine eG (nM (cO (rQ (aB rfl ⟨_,rfl,rQ (aB rfl ⟨_,rfl,.bl true,rfl,true,rfl,?_⟩)⟩))))
   rw[Qhq rfl]
   symm
   refine⟨.bl true,rfl,?_⟩
   exact bU (λk z=>(nomatch z)) rfl q
 | n+1,.tup ds,S,Q,h,q=>by
   refine bF ?_
   unfold fj
   refine aS (bV (bI (d:=.tup ds) (aB rfl ⟨rfl,rfl⟩) rfl ?_))
   refine aH (λ_=> ?_) (λc=>by cases c)
   refine aS (bV (mB (CJ (bI (d:=.tup ds) (aB rfl ⟨rfl,rfl⟩) rfl ?_))))
   apply aH (λc=>by cases c) (λ_=> ?_)
   refine kF ?_
   rw[Qeq rfl]
   refine aH (λc=>by cases c) (λ_=>bC ?_)
   refine eG (JF (vE ?_))
   apply p_ (α:=D) (λe=>∃a b,e= [a,b]) (λd=>D.tup [d,d]) (λ_=>.bl true) (λ_=>true) ⟨none,none,rfl⟩ (Dq ?_)
   refine⟨⟨trivial,Qmq _⟩,ds,wD ds,⟨trivial,trivial⟩,h.1,λd g e f=> ?_,?_⟩
   · obtain⟨a,b,rfl⟩:=f
     refine eU rfl (ay (aY (ay (aY (bq ?_)))))
     apply⟨rfl,⟨_,_,rfl⟩,nU ⟨rfl,rfl,λ_=> ?_⟩⟩
     exact Au n d (h.2 d g) ⟨rfl,rfl⟩
   · refine⟨rfl,List.replicate ds.length true,?_,?_⟩
     · rw[←xS]
       congr 1
       rw[List.filter_eq_self.mpr (λ_ _=>rfl),List.map_const']
     · have:(List.replicate ds.length true).all id=true:=by simp
       rw[this]
       exact bU (λk z=>(nomatch z)) rfl q
end
end W28
namespace DL
open PySem PySem.Spec L2
def CF{S:aA}{k:Nat}{ds:List D}{Q:List D×Tag->Prop}(a:S[k]?=some (.frz ds))(q:Q (ds,.fz k)):Op (q0 S (.ref k)) Q:=⟨_,by simp only[q0,a],q⟩
def Jl{S:aA}{k:Nat}{ds:List D}{i:Int}{d:D}{Q:D->Prop}(a:S[k]?=some (.frz ds))(h:k0 ds i=some d)(q:Q d):Op (ki S (.ref k) (.int i)) Q:=⟨_,by simp only[ki,a];exact h,q⟩
def Jm{i:Int}{Q:D->Prop}(q:Q (.int (if i<0 then -i else i))):Op (Fe [.int i]) Q:=⟨_,rfl,q⟩
def g_{b:Bool}{Q:D->Prop}(q:Q (.int (if b then 1 else 0))):Op (intOfD [.bl b]) Q:=⟨_,rfl,q⟩
def mD{j:Nat}{n:Nat}{d:D}(h:(mC 0 (j:Int))[n]?=some d):d=.int n/\n<j:=by
 have a:n<j:=by
  have:=(gQs.mp h).1
  unfold mC at this
  simpa using this
 unfold mC at h
 rw[gQm,List.getElem?_range (by simpa using a)] at h
 cases h
 exact⟨by simp,a⟩
def xF{j:Nat}:(mC 0 (j:Int)).length=j:=by
 unfold mC
 simp
end DL
namespace W28
open PySem PySem.Spec L2 DL
section
variable{S:aA}{Q:Res->aA->Prop}
def GN{ns:List Int}{k:Nat}(h:S[0]?=some (.frz (ns.map D.int)))(q:∀a b:Int,Q (.l [.int a,.int b,.int 0]) S):Fn jZ [.ref 0,.int k] S Q:=by
 refine bF ?_
 unfold nT
 have e:∀g:Int,T (aC (a_ 3 (aR lE (aR pA (au 2) (aR lE (aR uG (cF (.int 10)) (cF (.int 60))) (aR uG (cF (.int 10)) (cF (.int 60))))) (vg intOfD (ar (aR Kn (au 2) (aR uG (cF (.int 10)) (cF (.int 18)))) av))))
   (EO (cN (ar (au 3) (ar (aR pA (aR bO (aR bO (au 2) (aR lE (cF (.int 104729)) (au 1))) (cF (.int 7))) (cF (.int 2305843009213693951))) (ar (cF (.int 0)) av))))))
   [some (.ref 0),some (.int k),some (.int g),none] S (λo=>match o with
   |.nx _ f=>Op (settle S .non f) λp=>Q p.1 p.2|.rt d f=>Op (settle S d f) λp=>Q p.1 p.2|.rl l f=>Op (de S l f) λp=>Q p.1 p.2|_=>False):=by
  intro g
  symm
  apply C8 ⟨by decide,by decide,by decide⟩ ?_
  apply C8 ⟨by decide,by decide,by decide⟩ ?_
  refine F3 (IntMulOk.of_bits (by decide +kernel) (by decide +kernel)) ?_
  refine qT (show(0:Int)<10^(60:Int).toNat*10^(60:Int).toNat by decide +kernel) ?_
  generalize g%(10^(60:Int).toNat*10^(60:Int).toNat)=c1
  symm
  refine C8 ⟨by decide,by decide,by decide⟩ ?_
  generalize (10:Int)^(18:Int).toNat=c2
  symm
  refine g_ ?_
  have i:EN c1 (if decide (c2<=g)=true then 1 else 0):=by
   right
   split <;>decide
  generalize (if decide (c2<=g)=true then(1:Int) else 0)=c3 at i⊢
  apply tV i ?_
  apply tV (.inl ⟨by decide,by decide⟩) ?_
  apply qT (by decide) ?_
  refine⟨by show 3<=_;decide,?_⟩
  exact Cz rfl (q _ _)
 symm
 apply CF h ?_
 rw[lQm]
 by_cases c:(k:Int)<ns.length
 ·rw[Qeq c,Qhq rfl]
  have j:k<ns.length:=by omega
  symm
  refine Jl h (aO (x:=.int ns[k]) (by rw[gQm,gQe j];rfl)) ?_
  symm
  refine Jm ?_
  exact e _
 ·rw[Qdq c,Quq (by decide)]
  refine bC ?_
  exact e 0
end
section
variable{S:aA}{Q:Res->aA->Prop}
def j7{n:Nat}{l:List Int}(h:l.length<=1000):Pl (n+2) (b9 l):=⟨by simpa using h,λd b=>by
 obtain⟨a,_,rfl⟩:=Qkq.mp b
 exact trivial⟩
def nE{α:Type}{n:Nat}{f:α->D}{l:List α}(h:l.length<=1000)(e:∀a∈l,Pl n (f a)):Pl (n+1) (.tup (l.map f)):=⟨by simpa using h,λd b=>by
 obtain⟨a,c,rfl⟩:=Qkq.mp b
 exact e a c⟩
def B7{w:c9}{n:Nat}{s:aW}(o:iZ w)(x:cR w n s)(L:n<=100):Pl 9 s.d:=by
 have z:=o.l1
 have I:=o.l2
 have A:=o.l3
 have J:=o.l4
 have N:=x.lr
 have C:=x.lp
 have B:=x.ls
 have K:=x.lh
 refine⟨by show 4<=1000;decide,λd a=> ?_⟩
 simp only[Qsq,QXq,or_false] at a
 rcases a with rfl|rfl|rfl|rfl
 ·refine nE (n:=7) (by omega) λr j=> ?_
  obtain⟨i,m,e⟩:=QbQ j
  have k:s.aj[i]?=some r:=by rw[gQe m,e]
  have g:w.aj[i]?=some (w.aj[i]'(by omega)):=gQe (by omega)
  have c:=x.rm i _ r g k
  have b:=o.rm _ (mQg g)
  have q:=b.l1
  have u:=b.l2
  have y:=c.lv
  have R:=c.lb
  have H:=c.br
  have P:=c.bl
  refine⟨by show 5<=1000;decide,λd a=> ?_⟩
  simp only[Qsq,QXq,or_false] at a
  rcases a with rfl|rfl|rfl|rfl|rfl
  ·exact j7 (by omega)
  ·exact trivial
  ·exact j7 (by omega)
  ·exact j7 (by omega)
  ·refine nE (n:=5) (by omega) λl v=> ?_
   have:=c.bb l v
   refine nE (n:=4) (by omega) λp h=> ?_
   refine⟨by show 2<=1000;decide,λd a=> ?_⟩
   simp only[Qsq,QXq,or_false] at a
   rcases a with rfl|rfl <;>exact trivial
 ·refine nE (n:=7) (by omega) λp h=> ?_
  have:=x.ps p h
  refine⟨by show 2<=1000;decide,λd a=> ?_⟩
  simp only[Qsq,QXq,or_false] at a
  rcases a with rfl|rfl
  ·exact trivial
  ·exact j7 (by omega)
 ·exact j7 (by omega)
 ·refine nE (n:=7) (by omega) λp h=> ?_
  obtain⟨i,m,e⟩:=QbQ h
  have k:s.af[i]?=some (p.1,p.2):=by rw[gQe m,e]
  obtain⟨M,F,g,t⟩:=x.whand k
  have q:=(o.hd _ (mQg g)).l1
  have u:=t.lv
  have y:=t.lf
  refine⟨by show 2<=1000;decide,λd a=> ?_⟩
  simp only[Qsq,QXq,or_false] at a
  rcases a with rfl|rfl
  ·exact j7 (by dsimp only at q;omega)
  ·refine nE (n:=5) (by omega) λf G=> ?_
   refine⟨by show 5<=1000;decide,λd a=> ?_⟩
   simp only[Qsq,QXq,or_false] at a
   rcases a with rfl|rfl|rfl|rfl|rfl <;>exact trivial
end
end W28
namespace DL
open PySem PySem.Spec L2
def rq{l:List (Key×D)}{a k:Key}{v:D}:dv (putD l a v) k=if a=k then some v else dv l k:=by
 unfold putD
 split
 ·rename_i h
  induction l with
  |nil=>simp at h
  | cons p l j=>
    unfold dv at j⊢
    rw[QDq,List.find?_cons,List.find?_cons]
    by_cases c:p.1=a
    · rw[Qhq c]
      by_cases d:a=k
      · rw[Qhq d]
        simp[c,d]
      · rw[Quq d]
        have n:¬p.1=k:=by rw[c];exact d
        simp only[n,decide_false]
        by_cases e:(l.any λb=>decide (b.1=a))=true
        · have:=j e
          rw[Quq d] at this
          exact this
        · have f:l.map (λb=>if b.1=a then(b.1,v) else b)=l:=by
            rw[List.map_congr_left (g:=id) (λq i=> ?_),List.map_id]
            have:¬q.1=a:=λz=>e (List.any_eq_true.mpr ⟨q,i,Qeq z⟩)
            rw[Quq this]
            rfl
          rw[f]
    · rw[Quq c]
      have o:(l.any λb=>decide (b.1=a))=true:=by simpa [c] using h
      by_cases d:p.1=k
      · simp only[d,decide_true]
        rw[Quq (λz=>c (d.trans z.symm))]
      · simp only[d,decide_false]
        exact j o
 ·rename_i h
  unfold dv
  rw[List.find?_append]
  cases m:l.find? λb=>decide (b.1=k) with
  | some q=>
    have i:=List.find?_some m
    have r:=List.mem_of_find?_eq_some m
    have n:¬a=k:=λz=>h (List.any_eq_true.mpr ⟨q,r,by rw[z];exact i⟩)
    rw[Quq n]
    rfl
  | none=>
    by_cases d:a=k
    · rw[Qhq d];simp[d]
    · rw[Quq d];simp[d]
theorem jF{k:Key}:∀{m l:List (Key×D)},k∉m.map Prod.fst->dv (aK l m) k=dv l k
 | [],l,_=>rfl
 | p::m,l,h=>by
   have a:aK l (p::m)=aK (putD l p.1 p.2) m:=rfl
   rw[a,jF (λz=>h (Qpq _ z)),rq,Quq (λz=>h (by rw[QDq,z];exact QBq ..))]
theorem uQ{k:Key}:∀{m l l':List (Key×D)},k∈m.map Prod.fst->dv (aK l m) k=dv (aK l' m) k
 | [],_,_,h=>by cases h
 | p::m,l,l',h=>by
   have a:∀l,aK l (p::m)=aK (putD l p.1 p.2) m:=λ_=>rfl
   rw[a,a]
   by_cases c:k∈m.map Prod.fst
   · exact uQ c
   · have e:p.1=k:=by
       rcases Qsq.mp h with z|z
       · exact z.symm
       · exact absurd z c
     rw[jF c,jF c,rq,rq,Qhq e,Qhq e]
def y9{l m:List (Key×D)}{k:Key}(h:k∈(aK l m).map Prod.fst):k∈l.map Prod.fst\/k∈m.map Prod.fst:=by
 obtain⟨p,a,e⟩:=Qkq.mp h
 rcases iO a with z|z
 ·exact .inl (Qkq.mpr ⟨p,z,e⟩)
 ·exact .inr (Qkq.mpr ⟨p,z,e⟩)
def AE{l:List (Key×D)}{a:Key}{v:D}(h:(l.map Prod.fst).Nodup):((putD l a v).map Prod.fst).Nodup:=by
 unfold putD
 split
 ·have e:(l.map λb=>if b.1=a then(b.1,v) else b).map Prod.fst=l.map Prod.fst:=by
   rw[QPq]
   refine List.map_congr_left λp _=> ?_
   show(if p.1=a then(p.1,v) else p).1=p.1
   split <;>rfl
  rw[e]
  exact h
 ·rename_i c
  rw[Qzq,List.nodup_append]
  refine⟨h,by simp,λx i y d e=> ?_⟩
  obtain⟨p,f,g⟩:=Qkq.mp i
  have d:y=a:=by simpa using d
  exact c (List.any_eq_true.mpr ⟨p,f,Qeq (by rw[g,e,d])⟩)
theorem oQ:∀{m l:List (Key×D)},(l.map Prod.fst).Nodup->((aK l m).map Prod.fst).Nodup
 | [],_,h=>h
 |p::m,l,h=>oQ (m:=m) (AE h)
theorem oD:∀{m l:List (Key×D)},((l++m).map Prod.fst).Nodup->aK l m=l++m
 | [],l,_=>by simp[aK]
 | p::m,l,h=>by
   have b:aK l (p::m)=aK (putD l p.1 p.2) m:=rfl
   have e:putD l p.1 p.2=l++ [p]:=by
     unfold putD
     rw[Quq]
     intro z
     obtain⟨q,a,e⟩:=List.any_eq_true.mp z
     rw[Qzq,List.nodup_append] at h
     exact h.2.2 q.1 (Qkq.mpr ⟨q,a,rfl⟩) p.1 (by simp) (QZq e)
   rw[b,e,oD (by simpa using h)]
   simp
def AU{l:List (Key×D)}{k:Key}:dv (aK [] (aK [] l)) k=dv (aK [] l) k:=by
 rw[oD (m:=aK [] l) (l:= []) (by simpa using oQ (m:=l) (l:= []) .nil)]
 rfl
def Bq{l m n:List (Key×D)}:aK l (m++n)=aK (aK l m) n:=List.foldl_append
def La{b:cz}{S:aA}{n k:Nat}{g:lU}{ds:List D}{Q:cz->aA->Prop}(d:S[k]?=some (.lst ds))(f:ds.length=n)(h:Iw g ds b S Q):Tg (JE (nG n g)) (.ref k) b S Q:=by
 obtain⟨a,c,e,q⟩:=h
 exact⟨a,c,by unfold JE;simp only[d];unfold nG;rw[Qhq f];exact e,q⟩
end DL
namespace W28
open PySem PySem.Spec L2 DL
def BO{w:c9}{s:aW}{ts:List (Str×Nat)}{vs:List Int}{x:Str}(ls:w.ak.length=s.ak.length)(f:ts.length=vs.length)(n:∀v∈s.ak,0<=v/\v<=9)(q:∀v∈vs,0<=v/\v<=9)(r:∀y∈ts.map (·.1),y∉w.ak.map (·.1))(j:x∈ts.map (·.1)++w.ak.map (·.1)):
  dv (aK [] ((((ts++w.ak).map (·.1)).map Sum.inr).zip ((vs++s.ak).map D.int))) (.inr x)=some (.int (numAt (qE w s ts vs) x)):=by
 have d:gN (qE w s ts vs):=gN.merge (di n) (di q)
 have l:(Sum.inr x:Key)∈(qE w s ts vs).map (·.1):=dE (by
  rcases mQa.mp j with h|h
  ·exact .inr (cV f h)
  ·exact .inl (cV ls h))
 rw[←(gZ d l).1]
 rw[Qzq,Qzq,Qzq,List.zip_append (by simpa using f),Bq]
 unfold qE
 have g:∀{a:List (Str×Nat)} {b:List Int},a.length=b.length->((((a.map (·.1)).map Sum.inr:List Key).zip (b.map D.int)).map (·.1))=(a.map (·.1)).map Sum.inr:=λh=>List.map_fst_zip (by simp[h])
 have i:∀{a:List (Str×Nat)} {y:Str},(Sum.inr y:Key)∈(a.map (·.1)).map Sum.inr↔y∈a.map (·.1):=λ{a y}=>by
  constructor
  ·intro h
   obtain⟨z,o,e⟩:=Qkq.mp h
   cases e
   exact o
  ·exact λh=>Qkq.mpr ⟨y,h,rfl⟩
 have k:∀{a:List (Str×Nat)} {b:List Int} {y:Str},a.length=b.length->((Sum.inr y:Key)∈(bQ a b).map (·.1)↔y∈a.map (·.1)):=λ{a b y} hl=>by
  constructor
  ·intro h
   have:=y9 h
   rcases this with h|h
   ·cases h
   ·rw[g hl] at h
    exact i.mp h
  ·exact cV hl
 by_cases c:x∈ts.map (·.1)
 ·rw[jF (by rw[g ls];exact λz=>r x c (i.mp z)),uQ (l':= []) ((k f).mpr c)]
  exact AU.symm
 ·have p:x∈w.ak.map (·.1):=(mQa.mp j).resolve_left c
  rw[jF (m:=bQ ts vs) (λz=>c ((k f).mp z))]
  exact uQ (by rw[g ls];exact i.mpr p)
def dS{c:cz}{S:aA}{i:Nat}{a b:Str}{l:List D}{Q:Bool->aA->Prop}(h:c[i]?=some (some (.tup (.str a::l))))(q:Q (decide (a=b)) S):E (aI (aR (dw false) (aR ki (au i) (cF (.int 0))) (cF (.str b)))) c S Q:=
 eA (cO (cO (aB h (gV (aw (d:=.str a) AX (gV (gq q)))))))
theorem sW{th:Str->Int}{ws:List Str}{i:Nat}{kvs:List (Key×D)}{S:aA}(hi:S[i]?=some (.dct kvs))(I:∀x∈ws,dv kvs (.inr x)=some (.int (th x)))(G:∀x∈ws,0<=th x/\th x<=9):
  ∀(n:Nat) (t:Tr) {Q:Res->aA->Prop},t.Ok ws []->t.dep<=n->Q (.d (.int (l8 th (λ_=>0) t))) S->Fn (bH n) [t.d,.ref i] S Q
 |0,t,Q,_,hd,_=>by cases t <;>simp[Tr.dep] at hd
 | n+1,t,Q,ho,hd,q=>by
   refine bF ?_
   unfold jI
   have g:∀(o:Str) (h:List Tr) (k:Nat) {R:List D->aA->Prop},h.length<=2->(∀u∈h,u.Ok ws []/\u.dep<=n)->R (h.map λu=>.int (l8 th (λ_=>0) u)) S→
       E (bW [none,some 1] (m7 (bM (pS (au 0) (pQ (cF (.int 1))) qc))) (bS 0) cM (ax (bH n) (ar (au 0) (ar (au 1) av)))) [some (.tup (.str o::h.map Tr.d)),some (.ref i),none,none,none] S R:=λo h k R P r q=>by
     refine lu (α:=Tr) (λs=>∃a,s= [a,some (.ref i)]) Tr.d (λu=>.int (l8 th (λ_=>0) u)) ⟨none,rfl⟩ ?_
     refine jn (iI (aB rfl (cf (gV ⟨1,rfl,cg ⟨_,rfl,?_⟩⟩))))
     rw[show hJ (D.str o::h.map Tr.d) (some 1) none=h.map Tr.d from gn (i:=1) (by simp)]
     refine dX ⟨h,rfl,trivial,by omega,λu j s C=> ?_,q⟩
     obtain⟨a,rfl⟩:=C
     apply aY ⟨rfl,⟨_,rfl⟩,?_⟩
     exact sW hi I G n u (r u j).1 (r u j).2 ⟨rfl,rfl⟩
   cases t with
   | num v=>
     refine aS (bV (bI (d:=.int v) (aB rfl ⟨rfl,rfl⟩) rfl ?_))
     apply aH (λ_=> ?_) (λc=>by cases c)
     exact cv q
   | word x=>
     refine aS (bV (bI (d:=.str x) (aB rfl ⟨rfl,rfl⟩) rfl ?_))
     refine aH (λc=>by cases c) (λ_=>bC ?_)
     refine aS (bV (bI (d:=.str x) (aB rfl ⟨rfl,rfl⟩) rfl ?_))
     refine aH (λ_=> ?_) (λc=>by cases c)
     apply eG (D9 ?_)
     refine⟨_,_,_,_,rfl,rfl,hi,I x ho,?_⟩
     exact cv q
   |waits b=>cases ho
   | no u=>
     refine aS (bV (bI (d:=.tup [.str "not",u.d]) (aB rfl ⟨rfl,rfl⟩) rfl ?_))
     refine aH (λc=>by cases c) (λ_=>bC ?_)
     refine aS (bV (bI (d:=.tup [.str "not",u.d]) (aB rfl ⟨rfl,rfl⟩) rfl ?_))
     refine aH (λc=>by cases c) (λ_=>bC ?_)
     refine aS (kq (tW (g "not" [u] 0 (by simp) (λN j=>by
       rw[Qfq.mp j]
       simp only[Tr.dep] at hd
       exact⟨ho,by omega⟩) ?_)))
     refine aS (bV (dS (a:="not") rfl ?_))
     refine aH (λ_=> ?_) (λc=>absurd (QaQ c) (by simp))
     refine eG (CH (aL (cO (cO (aB rfl (gV (dM bh (d:=.int (l8 th (λ_=>0) u)) rfl (gV (dJ (bT (g_ ?_)))))))))))
     simp only[l8] at q
     have e:(if decide (l8 th (λ_=>0) u=0)=true then(1:Int) else 0)=if l8 th (λ_=>0) u=0 then 1 else 0:=by by_cases c:l8 th (λ_=>0) u=0 <;>simp[c]
     rw[e]
     exact xC pT.refl.app (λk z=>(nomatch z)) rfl q
   | two o a b=>
     obtain⟨F,A,l⟩:=ho
     obtain⟨U,M⟩:=Ag F
     simp only[Tr.dep] at hd
     have K:=fo (wt:=λ_=>0) (ws:=ws) (bs:= []) G A
     have L:=fo (wt:=λ_=>0) (ws:=ws) (bs:= []) G l
     refine aS (bV (bI (d:=.tup [.str o,a.d,b.d]) (aB rfl ⟨rfl,rfl⟩) rfl ?_))
     refine aH (λc=>by cases c) (λ_=>bC ?_)
     refine aS (bV (bI (d:=.tup [.str o,a.d,b.d]) (aB rfl ⟨rfl,rfl⟩) rfl ?_))
     refine aH (λc=>by cases c) (λ_=>bC ?_)
     refine aS (kq (tW (g o [a,b] 0 (by simp) (λu j=>by
       simp only[Qsq,QXq,or_false] at j
       rcases j with rfl|rfl
       · exact⟨A,by omega⟩
       · exact⟨l,by omega⟩) ?_)))
     simp only[QDq,List.map_nil]
     refine aS (bV (dS (a:=o) rfl ?_))
     refine aH (λc=>absurd (QZq c) M) (λ_=>bC ?_)
     refine aS (GP (aB rfl (La bh rfl (ay (aY (ay (aY (bq ?_))))))))
     simp only[l8] at q
     generalize l8 th (λ_=>0) a=va at q K⊢
     generalize l8 th (λ_=>0) b=vb at q L⊢
     have f:∀{v:Int},v=Fq o va vb->Op (settle S (.int v) (S++ [.lst [.int va,.int vb]])) λp=>Q p.1 p.2:=λe=>by
       rw[e]
       exact xC pT.refl.app (λk z=>(nomatch z)) rfl q
     unfold Fq at f
     refine aS (bV (dS (a:=o) rfl ?_))
     refine aH (λc=> ?_) (λc=>bC ?_)
     · have c:=QZq c
       refine eG (CH (aL (gV (aL (cO (aB rfl (aB rfl (FD (bT (Aj (f ?_)))))))))))
       rw[Qhq c]
       repeat' split
       all_goals omega
     have m:=QaQ c
     refine aS (bV (dS (a:=o) rfl ?_))
     refine aH (λc=> ?_) (λc=>bC ?_)
     · have c:=QZq c
       refine eG (CH (aL (gV (aL (cO (aB rfl (aB rfl (oq (bT (CG (f ?_)))))))))))
       rw[Quq m,Qhq c]
       repeat' split
       all_goals omega
     have B:=QaQ c
     refine aS (bV (dS (a:=o) rfl ?_))
     refine aH (λc=> ?_) (λc=>bC ?_)
     · have c:=QZq c
       refine eG (CH (aL (cO (aB rfl (aB rfl (oq (bT (g_ (f ?_)))))))))
       rw[Quq m,Quq B,Qhq c]
       by_cases z:va<vb <;>simp[z]
     have H:=QaQ c
     refine eG (CH (aL (Jz (dS (a:=o) rfl ?_))))
     refine aH (λc=> ?_) (λc=> ?_)
     · have c:=QZq c
       refine cO (aB rfl (aB rfl (dJ (bT (g_ (f ?_))))))
       rw[Quq m,Quq B,Quq H,Qhq c]
       by_cases z:va=vb <;>simp[z]
     · have J:=QaQ c
       refine nM (cO (aB rfl (gV (oq ⟨_,rfl,?_⟩))))
       refine aH (λz=> ?_) (λz=> ?_)
       · have z:=QZq z
         refine cO (aB rfl (gV (oq (bT (g_ (f ?_))))))
         rw[Quq m,Quq B,Quq H,Quq J]
         by_cases y:0<vb
         · rw[Qeq y,Qhq rfl,Qhq ⟨by omega,by omega⟩]
         · rw[Qdq y,Quq (by decide),Quq (λw=>by omega)]
       · have z:=QaQ z
         refine bT (g_ (f ?_))
         rw[Quq m,Quq B,Quq H,Quq J,Quq (by decide),Quq (λw=>by omega)]
end W28
namespace DL
open PySem PySem.Spec L2
section
variable{Γ:cz}{S:aA}
def IC{f g:bc}{Q:D->aA->Prop}(h:E f Γ S λy S1=>E g Γ S1 λx S2=>∃k l z,x=.ref k/\y=.str z/\S2[k]?=some (.dct l)/\Q (.bl (dv l (.inr z)).isSome) S2):E (De f g) Γ S Q:=by
 obtain⟨y,S1,a,x,S2,b,k,l,z,rfl,rfl,h1,q⟩:=h
 exact⟨_,S2,by unfold De;rw[a];simp only[Qbq];rw[b];simp only[Qbq,h1,kh],q⟩
def FB{f:bc}{Q:List D->aA->Prop}(h:E f Γ S λx S1=>∃k l,x=.ref k/\S1[k]?=some (.dct l)/\Q (l.map JN) S1):E (Ci f) Γ S Q:=by
 obtain⟨x,S1,a,k,l,rfl,h1,q⟩:=h
 exact⟨_,S1,by unfold Ci;rw[a];simp only[Qbq,h1],q⟩
def I_{f:bc}{Q:D->aA->Prop}(h:E f Γ S λx S1=>∃ds l,x=.tup ds/\gQ ds=some l/\Q (.ref S1.length) (S1++ [.dct (aK [] l)])):E (H_ f) Γ S Q:=by
 obtain⟨x,S1,a,ds,l,rfl,h1,q⟩:=h
 exact⟨_,_,by unfold H_;rw[a];simp only[Qbq,h1],q⟩
def K3{f:dQ}{Q:D->aA->Prop}(h:E f Γ S λp S1=>p.2.isL=true/\∃l,gQ p.1=some l/\Q (.ref S1.length) (S1++ [.dct (aK [] l)])):E (J_ f) Γ S Q:=by
 obtain⟨p,S1,a,c,l,b,q⟩:=h
 exact⟨_,_,by unfold J_;rw[a];simp only[Qbq];rw[Qhq c,b];rfl,q⟩
theorem tX:∀l:List (Key×D),gQ (l.map JN)=some l
 | []=>rfl
 | (k,d)::l=>by
   show(kh (kD k)).bind _=_
   rw[show kh (kD k)=some k by cases k <;>rfl]
   simp only[Qbq]
   rw[tX l]
   rfl
end
end DL
namespace W28
open PySem PySem.Spec L2 DL
def du(ns:List Str)(vs:List Int):List (Key×D):=(ns.map (Sum.inr:Str->Key)).zip (vs.map D.int)
def nP{ns:List Str}{vs:List Int}(h:ns.length=vs.length):(du ns vs).map (·.1)=ns.map Sum.inr:=List.map_fst_zip (by simp[h])
def B8{ns:List Str}(nd:ns.Nodup):(ns.map (Sum.inr:Str->Key)).Nodup:=List.Pairwise.map _ (λa b h z=>h (Sum.inr.inj z)) nd
def i_{ns:List Str}{vs:List Int}{j:Nat}{x:Str}{v:Int}(b:ns[j]?=some x)(a:vs[j]?=some v):(du ns vs)[j]?=some (.inr x,.int v):=by
 unfold du
 rw[List.getElem?_zip_eq_some]
 exact⟨by rw[gQm,b];rfl,by rw[gQm,a];rfl⟩
theorem Ar:∀{l:List (Key×D)} {j:Nat} {k:Key} {v:D},(l.map (·.1)).Nodup->l[j]?=some (k,v)->dv l k=some v
 |p::l,0,k,v,_,e=>by cases e;simp[dv]
 | p::l,j+1,k,v,nd,e=>by
   have e:l[j]?=some (k,v):=by simpa using e
   simp only[QDq,List.nodup_cons] at nd
   have a:=Ar nd.2 e
   unfold dv at a⊢
   rw[List.find?_cons_of_neg (by
     intro z
     have:=QZq z
     exact nd.1 (this▸Qkq.mpr ⟨_,mQg e,rfl⟩))]
   exact a
def xa{ns:List Str}{vs:List Int}{j:Nat}{x:Str}{v:Int}(a:ns.length=vs.length)(nd:ns.Nodup)(c:ns[j]?=some x)(b:vs[j]?=some v):dv (du ns vs) (.inr x)=some (.int v):=
 Ar (by rw[nP a];exact B8 nd) (i_ c b)
def E9{ns:List Str}{vs:List Int}{x:Str}(c:ns.length=vs.length)(h:x∉ns):dv (du ns vs) (.inr x)=none:=by
 unfold dv
 rw[List.find?_eq_none.mpr]
 ·rfl
 intro p b z
 have a:p.1∈ns.map (Sum.inr:Str->Key):=by rw[←nP c];exact Qkq.mpr ⟨p,b,rfl⟩
 rw[QZq z] at a
 obtain⟨y,d,e⟩:=Qkq.mp a
 cases e
 exact h d
def CV{ns:List Str}{j:Nat}{x:Str}(nd:ns.Nodup)(h:ns[j]?=some x):cx ns x=j:=by
 have:=gu (mQg h)
 have a:=(gQs.mp h).1
 exact(List.getElem_inj (h₀:=this.1) (h₁:=a) nd).mp (by
  have b:=this.2
  rw[gQe this.1] at b
  rw[gQe a] at h
  exact(QdQ b).trans (QdQ h).symm)
def wK{ns:List Str}{vs:List Int}{x:Str}{v:Int}(o:ns.length=vs.length)(nd:ns.Nodup)(g:x∈ns):putD (du ns vs) (.inr x) (.int v)=du ns (bA ns vs x v):=by
 obtain⟨n,b⟩:=gu g
 have e:bA ns vs x v=vs.set (cx ns x) v:=rfl
 rw[e]
 unfold putD
 rw[Qhq (List.any_eq_true.mpr ⟨_,mQg (i_ b (gQe (by omega:cx ns x<vs.length))),Qeq rfl⟩)]
 apply List.ext_getElem?
 intro j
 rw[gQm]
 by_cases h:j<ns.length
 ·have a:=gQe h
  have f:=gQe (l:=vs) (i:=j) (by omega)
  rw[i_ a f]
  by_cases c:cx ns x=j
  ·have d:ns[j]=x:=by
    rw[c] at b
    rw[a] at b
    exact QdQ b
   rw[i_ (v:=v) a (by rw[c];exact Qyq (by omega))]
   rw[Option.map_some,Qhq (by rw[d])]
  ·rw[i_ a (by rw[QKq c];exact f)]
   rw[Option.map_some,Quq]
   intro z
   have z:ns[j]=x:=Sum.inr.inj z
   exact c (by rw[←z];exact CV nd a)
 ·have k:(du ns vs)[j]?=none:=List.getElem?_eq_none (by unfold du;simp;omega)
  have m:(du ns (vs.set (cx ns x) v))[j]?=none:=List.getElem?_eq_none (by unfold du;simp;omega)
  rw[k,m]
  rfl
abbrev fP(q:Nat):b_:=⟨-1,-1,q,0,0⟩
def mO(sh:List (Str×Nat))(hs:List (List (Str×Nat)×List Rw)):c9:=⟨[],[],sh,hs⟩
def kf(sv:List Int)(hv:List (List Int×Nat)):aW:=⟨[],[],sv,hv.map λp=>(p.1,[fP p.2])⟩
def kg(sh ts:List (Str×Nat))(sv vs:List Int)(t:Tr):Int:=l8 (numAt (aK (bQ sh sv) (bQ ts vs))) (λ_=>0) t
def m6(sh ts:List (Str×Nat))(sv:List Int)(hv:List (List Int×Nat))(h:Nat)(vs:List Int)(q:Nat):Rw->List Int×List (List Int×Nat)
 |.put x t=>if x∈sh.map (·.1) then(bA (sh.map (·.1)) sv x (kg sh ts sv vs t),hv.set h (vs,q+1)) else(sv,hv.set h (bA (ts.map (·.1)) vs x (kg sh ts sv vs t),q+1))
 |.unl t n=>(sv,hv.set h (vs,if kg sh ts sv vs t=0 then n else q+1))
 |.go n=>(sv,hv.set h (vs,n))
 |_=>(sv,hv.set h (vs,q+1))
def Le(sh ts:List (Str×Nat))(sv vs:List Int):Rw->Option Int
 |.say t=>some (kg sh ts sv vs t)
 |_=>none
def BM(ns:List Str)(m:Nat)(r:Rw):Prop:=r.Ok ⟨true,ns,ns,[],[],[]⟩ m
structure CS(sh:List (Str×Nat))(hs:List (List (Str×Nat)×List Rw)):Prop where
 l0:0<hs.length
 l4:hs.length<=4
 ls:sh.length<=6
 sv:∀p∈sh,p.2<=9
 sn:(sh.map (·.1)).Nodup
 so:∀x∈sh.map (·.1),x∈six.map (("o":Str)++·)
 h1:∀h∈hs,h.1.length<=6/\(∀p∈h.1,p.2<=9)/\(h.1.map (·.1)).Nodup/\∀x∈h.1.map (·.1),x∈six.map (("":Str)++·)
 h2:∀h∈hs,0<h.2.length/\h.2.length<=9/\∀r∈h.2,BM (h.1.map (·.1)++sh.map (·.1)) h.2.length r
section
variable{sh:List (Str×Nat)}{hs:List (List (Str×Nat)×List Rw)}{sv vs:List Int}{hv:List (List Int×Nat)}{h q:Nat}{ts:List (Str×Nat)}{pr:List Rw}{r:Rw}
def Hg:∀x∈six.map (("":Str)++·),x∉six.map (("o":Str)++·):=by decide +kernel
def CS.dj(a:CS sh hs)(c:(ts,pr)∈hs):∀y∈ts.map (·.1),y∉sh.map (·.1):=λy b d=>Hg y ((a.h1 _ c).2.2.2 y b) (a.so y d)
def CS.ok(a:CS sh hs):iZ (mO sh hs):=by
 refine⟨by show([]:List Str).Nodup;simp,Nat.zero_le _,Nat.zero_le _,a.ls,a.l4,a.l0,λp c=>(nomatch c),a.sv,λr f=>(nomatch f),λh b=> ?_⟩
 obtain⟨e,i,l,k⟩:=a.h1 h b
 obtain⟨j,d,g⟩:=a.h2 h b
 exact⟨i,e,d,j,g⟩
def tP(a:hv[h]?=some (vs,q)):(kf sv hv).af[h]?=some (vs,[fP q]):=by
 show(hv.map _)[h]?=_
 rw[gQm,a]
 rfl
def Fp(a:hs[h]?=some (ts,pr)):progOf (mO sh hs) h (fP q)=some pr:=by
 unfold progOf
 rw[Qhq (show(fP q).room= -1 from rfl)]
 show(hs[h]?).map _=_
 rw[a]
 rfl
def Dx{f:b_}{n:Nat}(b:hv[h]?=some (vs,q))(a:f=fP n):wQ (kf sv hv) h f=kf sv (hv.set h (vs,n)):=by
 subst a
 rw[jV (tP b)]
 unfold kf
 rw[List.map_set]
 rfl
def A2(a:hv[h]?=some (vs,q)):gX (kf sv hv) h=fP q:=jD (tP a) rfl
def Fw{t:Tr}(b:hs[h]?=some (ts,pr))(a:hv[h]?=some (vs,q)):dB (mO sh hs) (kf sv hv) h t=kg sh ts sv vs t:=by
 unfold dB
 rw[A2 a,Qhq (show(fP q).room= -1 from rfl),u_ (show(mO sh hs).af[h]?=_ from b),i9 (tP a)]
 rfl
def Jd(i:hs[h]?=some (ts,pr))(f:hv[h]?=some (vs,q))(l:pr[q]?=some r)(ok:BM (ts.map (·.1)++sh.map (·.1)) pr.length r):
  hX (mO sh hs) (kf sv hv) h=(kf (m6 sh ts sv hv h vs q r).1 (m6 sh ts sv hv h vs q r).2,Le sh ts sv vs r):=by
 have o:=(gQs.mp l).1
 have j:=(gQs.mp f).1
 have d:(hv.set h (vs,q+1))[h]?=some (vs,q+1):=Qyq j
 have m:xG (kf sv hv) h=kf sv (hv.set h (vs,q+1)):=by
  unfold xG
  rw[A2 f]
  exact Dx f rfl
 unfold hX
 rw[A2 f,Quq (λz=>z.1 rfl),Fp i]
 show(if ((q:Int)=(pr.length:Int)) then _ else match pr[((q:Int)).toNat]? with|none=>_|some r=>_)=_
 rw[Quq (by omega),show((q:Int)).toNat=q by omega,l,m]
 have k:∀t,dB (mO sh hs) (kf sv (hv.set h (vs,q+1))) h t=kg sh ts sv vs t:=λt=>Fw i d
 cases r with
 | put x t=>
   refine Prod.ext ?_ rfl
   show qg _ _ _ _ (dB _ _ _ _)=_
   rw[k]
   unfold qg
   rw[A2 d,Qhq (show(fP (q+1)).room= -1 from rfl),u_ (show(mO sh hs).af[h]?=_ from i),i9 (tP d)]
   unfold oE
   by_cases c:x∈sh.map (·.1)
   · have e:m6 sh ts sv hv h vs q (.put x t)=(bA (sh.map (·.1)) sv x (kg sh ts sv vs t),hv.set h (vs,q+1)):=Qhq c
     rw[e,Qhq (show x∈(mO sh hs).ak.map (·.1) from c)]
     rfl
   · have e:m6 sh ts sv hv h vs q (.put x t)=(sv,hv.set h (bA (ts.map (·.1)) vs x (kg sh ts sv vs t),q+1)):=Quq c
     rw[e,Quq (show¬x∈(mO sh hs).ak.map (·.1) from c)]
     unfold kf
     show(⟨[],[],sv,((hv.set h (vs,q+1)).map _).set h _⟩:aW)=⟨[],[],sv,(hv.set h _).map _⟩
     rw[List.map_set,List.map_set,List.set_set]
 | unl t n=>
   refine Prod.ext ?_ rfl
   show(if dB _ _ _ _=0 then _ else _)=_
   rw[k]
   by_cases c:kg sh ts sv vs t=0
   · have e:m6 sh ts sv hv h vs q (.unl t n)=(sv,hv.set h (vs,n)):=by simp only[m6,Qhq c]
     rw[e,Qhq c,A2 d,Dx (n:=n) d rfl,List.set_set]
   · have e:m6 sh ts sv hv h vs q (.unl t n)=(sv,hv.set h (vs,q+1)):=by simp only[m6,Quq c]
     rw[e,Quq c]
 | go n=>
   refine Prod.ext ?_ rfl
   show wQ _ _ _=_
   rw[A2 d,Dx (n:=n) d rfl,List.set_set]
   rfl
 | say t=>
   refine Prod.ext rfl ?_
   show some (dB _ _ _ _)=some _
   rw[Fw i f]
 |do_ g a b t=>exact absurd ok.2.1 (by simp)
 |wait b t=>exact absurd ok.2.1 (by simp)
 |call b=>exact absurd ok.2 (by simp)
 |all b=>exact absurd ok.2 (by simp)
 |tell t=>exact absurd ok.1 (by simp)
 |take x=>exact absurd ok.2 (by simp)
 |give x=>exact absurd ok.2 (by simp)
 |pass x y=>exact absurd ok.2.1 (by simp)
def qi(hs:List (List (Str×Nat)×List Rw))(hv:List (List Int×Nat)):List Nat:=(List.range hv.length).filter λh=>decide (((hv[h]?).getD ([],0)).2<((hs[h]?).getD ([],[])).2.length)
def Fh(k:hv.length=hs.length)(a:∀(h q:Nat) (ts:List (Str×Nat)) (pr:List Rw) (vs:List Int),hv[h]?=some (vs,q)->hs[h]?=some (ts,pr)->q<=pr.length):xE (mO sh hs) (kf sv hv)=qi hs hv:=by
 unfold xE qi
 rw[show(kf sv hv).af.length=hv.length by show(hv.map _).length=_;rw[lQm]]
 refine List.filter_congr λh f=> ?_
 have f:=List.mem_range.mp f
 have d:=gQe f
 have b:=gQe (l:=hs) (i:=h) (by omega)
 generalize hv[h]=p at d
 obtain⟨vs,q⟩:=p
 generalize hs[h]=p at b
 obtain⟨ts,pr⟩:=p
 have a:=a h _ _ _ _ d b
 have e:uk (mO sh hs) (kf sv hv) h=decide (q=pr.length):=by
  have g:wF (kf sv hv) h=some (fP q):=by unfold wF;rw[tP d];rfl
  unfold uk
  rw[g]
  show(decide ((fP q).room= -1)&&decide ((fP q).row=(((progOf (mO sh hs) h (fP q)).getD []).length:Int)))=_
  rw[Fp b]
  show(true&&decide ((q:Int)=(pr.length:Int)))=_
  rw[Bool.true_and]
  simp only[Int.natCast_inj]
 have j:held (kf sv hv)= []:=rfl
 rw[e,j,d,b]
 show(!decide ((h:Int)∈([]:List Int))&& !decide (q=pr.length))=decide (q<pr.length)
 by_cases c:q=pr.length
 ·simp[c]
 ·have:q<pr.length:=by omega
  simp[c,this]
end
def set_same{α:Type}{l:List α}{i:Nat}{a:α}(h:l[i]?=some a):l.set i a=l:=by
 obtain⟨b,e⟩:=gQs.mp h
 rw[←e,List.set_getElem_self]
structure eX(sh:List (Str×Nat))(hs:List (List (Str×Nat)×List Rw))(base:Nat)(sv:List Int)(hv:List (List Int×Nat))(S:aA):Prop where
 lh:hv.length=hs.length
 ls:sv.length=sh.length
 lt:∀(j:Nat) ts pr vs q,hs[j]?=some (ts,pr)->hv[j]?=some (vs,q)->ts.length=vs.length
 d:∀(j:Nat) ts pr vs q,hs[j]?=some (ts,pr)->hv[j]?=some (vs,q)->S[base+j]?=some (.dct (du (ts.map (·.1)) vs))
 o:S[base+hs.length]?=some (.dct (du (sh.map (·.1)) sv))
 v:S[base+hs.length+1]?=some (.lst ((List.range (hs.length+1)).map λj=>.ref (base+j)))
 s:S[base+hs.length+2]?=some (.lst (hv.map λp=>eB p.2))
structure Kp(base:Nat)(S S':aA):Prop where
 len:S'.length=S.length
 eq:∀k,k<base->S'[k]?=S[k]?
 cl:ku S S'
def Kp.trans{base:Nat}{S S1 S2:aA}(x:Kp base S S1)(y:Kp base S1 S2):Kp base S S2:=⟨y.len.trans x.len,λk a=>(y.eq k a).trans (x.eq k a),by have:=x.len;have:=y.len;omega,λk o a e=>by
 rcases y.cl.2 k o (by rw[x.len];exact a) e with h|h
 ·exact x.cl.2 k o a h
 ·exact .inr (by rw[x.len] at h;exact h)⟩
def Kp.set{base k:Nat}{S:aA}{o:O}(a:base<=k)(h:BJ S.length o=true):Kp base S (S.set k o):=⟨by simp,λj b=>QKq (by omega),nJ h⟩
def Kp.ex{base d:Nat}{S1 S f:aA}(x:Ex d S1 S)(y:Kp base S f)(h:S1.length<=base)(k:d<S1.length):Ex d S1 f:=by
 refine⟨by rw[y.len];exact x.len,λj o i e=> ?_,?_⟩
 ·have l:=(gQs.mp e).1
  rw[y.eq j (by omega)]
  exact x.keep j o i e
 ·obtain⟨a,b,c,g⟩:=x.pot
  exact⟨a,b,c,by rw[y.eq d (by omega)];exact g⟩
def uZ{base:Nat}{S a G:aA}{d:D}{Q:Res->aA->Prop}(x:Kp base S a)(hd:∀k,d≠.ref k)(c:bL 0 d=true)(q:Q (.d d) a):Op (settle S d (a++G)) λp=>Q p.1 p.2:=
 fe ⟨by rw[lQa,x.len];omega,λk o b e=>x.cl.2 k o b (by rw[QHq (by rw[x.len];exact b)] at e;exact e)⟩ (by rw[←x.len,List.take_left'];rfl) hd (eN c) q
def zJ{n:Nat}{ns:List Str}{vs:List Int}:BJ n (.dct (du ns vs))=true:=by
 show bz n ((du ns vs).map (·.2))=true
 refine qe λd a=> ?_
 obtain⟨p,b,rfl⟩:=Qkq.mp a
 have c:p.2∈vs.map D.int:=(QeQ (show(p.1,p.2)∈_ from b)).2
 obtain⟨v,_,e⟩:=Qkq.mp c
 rw[←e]
 rfl
section
variable{sh:List (Str×Nat)}{hs:List (List (Str×Nat)×List Rw)}{base h q:Nat}{sv vs:List Int}{hv:List (List Int×Nat)}{S:aA}{Q:Res->aA->Prop}{ts:List (Str×Nat)}{pr:List Rw}{r:Rw}
def eX.ltS(c:eX sh hs base sv hv S):base+hs.length+2<S.length:=(gQs.mp c.s).1
def eX.app{G:aA}(c:eX sh hs base sv hv S):eX sh hs base sv hv (S++G):=
 ⟨c.lh,c.ls,c.lt,λj ts pr vs q b a=>cb (c.d j ts pr vs q b a),cb c.o,cb c.v,cb c.s⟩
def eX.ex{b:Nat}{a:aA}(c:eX sh hs base sv hv S)(x:Ex b S a)(g:b<base):eX sh hs base sv hv a:=
 ⟨c.lh,c.ls,c.lt,λj ts pr vs q f e=>x.keep _ _ (by omega) (c.d j ts pr vs q f e),x.keep _ _ (by omega) c.o,x.keep _ _ (by omega) c.v,x.keep _ _ (by omega) c.s⟩
def eX.atH(c:eX sh hs base sv hv S){j:Nat}(a:j<hs.length):k0 ((List.range (hs.length+1)).map λj=>D.ref (base+j)) (j:Int)=some (.ref (base+j)):=
 aO (by rw[gQm,List.getElem?_range (by omega)];rfl)
def eX.atO(c:eX sh hs base sv hv S)(a:hs.length<=4):k0 ((List.range (hs.length+1)).map λj=>D.ref (base+j)) (-1)=some (.ref (base+hs.length)):=by
 have:∀n:Nat,n<=4->k0 ((List.range (n+1)).map λj=>D.ref (base+j)) (-1)=some (.ref (base+n)):=λn b=>by
  rcases n with _|_|_|_|_|n
  ·rfl
  ·rfl
  ·rfl
  ·rfl
  ·rfl
  ·omega
 exact this _ a
def eX.putS{p:List Int×Nat}(c:eX sh hs base sv hv S)(f:hv[h]?=some p)(n:Nat):eX sh hs base sv (hv.set h (p.1,n)) (S.set (base+hs.length+2) (.lst ((hv.set h (p.1,n)).map λp=>eB p.2))):=by
 have g:=c.ltS
 refine⟨by rw[List.length_set];exact c.lh,c.ls,λj ts pr vs q b a=> ?_,λj ts pr vs q b a=> ?_,?_,?_,Qyq g⟩
 ·rcases get_set a with⟨rfl,e⟩|⟨_,a⟩
  ·cases e
   exact c.lt _ ts pr _ p.2 b f
  ·exact c.lt _ ts pr _ _ b a
 ·have i:=(gQs.mp b).1
  rw[QKq (by omega)]
  rcases get_set a with⟨rfl,e⟩|⟨_,a⟩
  ·cases e
   exact c.d _ ts pr _ p.2 b f
  ·exact c.d _ ts pr _ _ b a
 ·rw[QKq (by omega)];exact c.o
 ·rw[QKq (by omega)];exact c.v
def eX.putO{sv':List Int}(c:eX sh hs base sv hv S)(b:sv'.length=sh.length):eX sh hs base sv' hv (S.set (base+hs.length) (.dct (du (sh.map (·.1)) sv'))):=by
 have g:=c.ltS
 refine⟨c.lh,b,c.lt,λj ts pr vs q a e=> ?_,Qyq (by omega),?_,?_⟩
 ·have f:=(gQs.mp a).1
  rw[QKq (by omega)]
  exact c.d _ ts pr _ _ a e
 ·rw[QKq (by omega)];exact c.v
 ·rw[QKq (by omega)];exact c.s
def eX.putH{vs':List Int}(c:eX sh hs base sv hv S)(i:hs[h]?=some (ts,pr))(m:hv[h]?=some (vs,q))(n:ts.length=vs'.length):eX sh hs base sv (hv.set h (vs',q)) (S.set (base+h) (.dct (du (ts.map (·.1)) vs'))):=by
 have w:=c.ltS
 have u:=(gQs.mp i).1
 refine⟨by rw[List.length_set];exact c.lh,c.ls,λj g a k t f b=> ?_,λj g a k t f b=> ?_,?_,?_,?_⟩
 ·rcases get_set b with⟨rfl,e⟩|⟨_,b⟩
  ·cases e
   rw[i] at f
   cases f
   exact n
  ·exact c.lt _ g a _ _ f b
 ·rcases get_set b with⟨rfl,e⟩|⟨hn,b⟩
  ·cases e
   rw[i] at f
   cases f
   exact Qyq (by omega)
  ·rw[QKq (by omega)]
   exact c.d _ g a _ _ f b
 ·rw[QKq (by omega)];exact c.o
 ·rw[QKq (by omega)];exact c.v
 ·rw[QKq (by omega)]
  have e:(hv.set h (vs',q)).map (λp=>eB p.2)=hv.map λp=>eB p.2:=by
   rw[List.map_set]
   have l:(hv.map λp=>eB p.2)[h]?=some (eB q):=by rw[gQm,m];rfl
   exact set_same l
  rw[e]
  exact c.s
end
theorem tj{α:Type}{f:α->D}:∀(l:List α) (n j:Nat) {d:D},(fB n (l.map f))[j]?=some d->∃a,l[j]?=some a/\d=.tup [.int (n+j:Nat),f a]
 | [],_,_,_,e=>by simp[fB] at e
 | a::l,n,0,_,e=>by
   simp[fB] at e
   exact⟨a,rfl,by rw[←e];rfl⟩
 | a::l,n,j+1,d,e=>by
   obtain⟨h,c,b⟩:=tj l (n+1) j (d:=d) (by simpa [fB] using e)
   exact⟨h,c,by rw[b,show n+1+j=n+(j+1) by omega]⟩
theorem tM:∀(l:List D) (n:Nat),(fB n l).length=l.length
 | [],_=>rfl
 |a::l,n=>by simp[fB,tM l (n+1)]
section
variable{sh:List (Str×Nat)}{hs:List (List (Str×Nat)×List Rw)}{base h q:Nat}{sv vs:List Int}{hv:List (List Int×Nat)}{S:aA}{Q:Res->aA->Prop}{ts:List (Str×Nat)}{pr:List Rw}{r:Rw}
def tE{u:cz}{js:List (Option Nat)}{f:dQ}{g:bc}{us:List (Str×Nat)}{ws:List Int}{k:Nat}{R:List D->aA->Prop}(P:cz->Prop)(W:P (lR js u))(o:∀c,P c->∀(x:Str) (v:Nat),∃m,Tg (jl (nG 2 (aJ (bS 0) (aJ (bS 1) dy)))) (nO (x,v)) c S λn S2=>S2=S/\n=m/\P m/\m[0]?=some (some (.str x)))
  (C:∀c,P c->E g c S λd S1=>d=.ref k/\S1=S) (X:S[k]?=some (.dct (du (us.map (·.1)) ws))) (J:us.length=ws.length) (nd:(us.map (·.1)).Nodup) (Z:us.length<=6) (H:E f u S λp S1=>p=(us.map nO,.tu)/\S1=S)
  (q:R (ws.map D.int) S):E (bW js (m7 f) (jl (nG 2 (aJ (bS 0) (aJ (bS 1) dy)))) cM (E1 g (au 0))) u S R:=by
 refine lu (α:=Str×Nat) P nO (λp=>.int ((ws[cx (us.map (·.1)) p.1]?).getD 0)) W (H.mono λp S1 s=> ?_)
 obtain⟨rfl,rfl⟩:=s
 refine⟨us,rfl,trivial,by omega,λp s c t=> ?_,?_⟩
 ·obtain⟨m,B⟩:=o c t p.1 p.2
  obtain⟨n,S2,A,N,G,z,Y⟩:=B
  refine⟨n,S2,A,?_⟩
  subst N G
  refine⟨rfl,z,?_⟩
  have L:p.1∈us.map (·.1):=Qkq.mpr ⟨p,s,rfl⟩
  obtain⟨I,F⟩:=gu L
  rw[lQm] at I
  refine D9 ((C _ z).mono λd S1 K=> ?_)
  obtain⟨a,b⟩:=K
  subst a b
  refine aB Y ⟨k,_,p.1,.int ((ws[cx (us.map (·.1)) p.1]?).getD 0),rfl,rfl,X,?_,rfl,rfl⟩
  refine xa (by rw[lQm];exact J) nd F ?_
  rw[gQe (by omega)]
  rfl
 ·have e:us.map (λp:Str×Nat=>D.int ((ws[cx (us.map (·.1)) p.1]?).getD 0))=ws.map D.int:=by
   apply List.ext_getElem?
   intro j
   rw[gQm,gQm]
   by_cases U:j<us.length
   ·have y:=gQe U
    have w:=gQe (l:=ws) (i:=j) (by omega)
    have M:(us.map (·.1))[j]?=some us[j].1:=by rw[gQm,y];rfl
    rw[y,w,Option.map_some,Option.map_some,CV nd M,w]
    rfl
   ·rw[List.getElem?_eq_none (by omega),List.getElem?_eq_none (l:=ws) (by omega)]
    rfl
  rw[e]
  exact q
def tJ(i:CS sh hs)(c:eX sh hs base sv hv S)(k:Q (.d (kf sv hv).d) S):Fn fL [(mO sh hs).d,.ref (base+hs.length+1),.ref (base+hs.length+2)] S Q:=by
 have I:=i.l4
 have M:=c.lh
 refine bF ?_
 unfold jH
 symm
 refine⟨by show 0<=_;decide,?_⟩
 apply aS (oU (Es ?_))
 apply aw rfl ?_
 refine⟨λj e A=>(∃u t y n,e= [some (mO sh hs).d,some (.ref (base+hs.length+1)),some (.ref (base+hs.length+2)),some (.ref S.length),u,t,y,n])/\A=S++ [O.lst ((hv.take j).map λp=>pz (p.1,[fP p.2]))],⟨⟨_,_,_,_,rfl⟩,rfl⟩,λ_ _ _ _=>trivial,?_,?_⟩
 ·rintro j d e A C ⟨⟨u,t,y,n,rfl⟩,rfl⟩
  obtain⟨⟨ts,pr⟩,m,rfl⟩:=tj hs 0 j C
  rw[Nat.zero_add]
  have J:=(gQs.mp m).1
  obtain⟨⟨vs,q⟩,l⟩:∃p,hv[j]?=some p:=⟨_,gQe (by omega)⟩
  obtain⟨F,K,H,L⟩:=i.h1 _ (mQg m)
  have g:=c.app (G:= [O.lst ((hv.take j).map λp=>pz (p.1,[fP p.2]))])
  refine eU rfl (ay (aY (ay (eU rfl (ay (aY (ay (aY (bq (bq ?_))))))))))
  refine aS (kq (qp (vE ?_)))
  refine tE (us:=ts) (ws:=vs) (k:=base+j) (λe=>∃a b,e= [a,b,some (.ref (base+hs.length+1)),some (.int (j:Nat))]) ⟨_,_,rfl⟩ (λe f x v=> ?_) (λe f=> ?_) (g.d j ts pr vs q m l) (c.lt j ts pr vs q m l) H F (jn (aB rfl (dX ⟨rfl,rfl⟩))) ?_
  ·obtain⟨a,b,rfl⟩:=f
   exact⟨_,eU rfl (ay (aY (ay (aY (bq ⟨rfl,rfl,⟨_,_,rfl⟩,rfl⟩)))))⟩
  ·obtain⟨a,b,rfl⟩:=f
   exact cO (aB rfl (aB rfl (dM g.v (c.atH J) ⟨rfl,rfl⟩)))
  apply sC (yW (aB rfl ⟨_,_,rfl,bh,?_⟩))
  apply gK (gV ⟨1,rfl,?_⟩)
  apply gK (gV ⟨1,rfl,?_⟩)
  refine dM g.s (d:=eB q) (aO (by rw[gQm,l];rfl)) ?_
  symm
  refine⟨by show 5<=_;decide,?_⟩
  symm
  refine⟨by show 1<=_;decide,?_⟩
  symm
  refine⟨by show 2<=_;decide,?_⟩
  symm
  refine⟨_,bh,yh (aV (by rw[lQm,Qxq];omega)) ?_⟩
  refine⟨⟨_,_,_,_,rfl⟩,?_⟩
  rw[List.set_append_right _ _ (Qmq _),QYq,l,Qzq]
  simp
  rfl
 ·rintro e A ⟨⟨u,t,y,n,rfl⟩,rfl⟩
  have w:(hv.take ((fB 0 (hs.map dD)).length)).map (λp=>pz (p.1,[fP p.2]))=hv.map λp=>pz (p.1,[fP p.2]):=by
   rw[tM,lQm,List.take_of_length_le (by omega)]
  have w:(S++ [O.lst ((hv.take ((fB 0 (hs.map dD)).length)).map λp=>pz (p.1,[fP p.2]))])=S++ [O.lst (hv.map λp=>pz (p.1,[fP p.2]))]:=by rw[w]
  show T _ _ (S++ [O.lst ((hv.take ((fB 0 (hs.map dD)).length)).map λp=>pz (p.1,[fP p.2]))]) _
  rw[w]
  have g:=c.app (G:= [O.lst (hv.map λp=>pz (p.1,[fP p.2]))])
  refine eG (g8 (aL (g8 (bT ⟨by show 0<=_;decide,aL (g8 (bT ⟨by show 0<=_;decide,aL (qp (vE ?_))⟩))⟩))))
  refine tE (us:=sh) (ws:=sv) (k:=base+hs.length) (λe=>∃a b,e= [a,b,some (.ref (base+hs.length+1))]) ⟨_,_,rfl⟩ (λe f x v=> ?_) (λe f=> ?_) g.o c.ls.symm i.sn i.ls (jn (cO (aB rfl (gV (aw rfl (dX ⟨rfl,rfl⟩)))))) ?_
  ·obtain⟨a,b,rfl⟩:=f
   exact⟨_,eU rfl (ay (aY (ay (aY (bq ⟨rfl,rfl,⟨_,_,rfl⟩,rfl⟩)))))⟩
  ·obtain⟨a,b,rfl⟩:=f
   exact cO (aB rfl (gK (gV ⟨1,rfl,dM g.v (c.atO I) ⟨rfl,rfl⟩⟩)))
  refine aL (qp (ue (jn (aB rfl (eP bh ⟨rfl,?_⟩)))))
  refine bT ⟨by show 4<=_;decide,?_⟩
  have B:(kf sv hv).d=.tup [.tup [],.tup [],.tup (sv.map D.int),.tup (hv.map λp=>pz (p.1,[fP p.2]))]:=by
   unfold kf aW.d
   show D.tup [.tup [],.tup [],b9 sv,.tup ((hv.map λp=>(p.1,[fP p.2])).map pz)]=_
   rw[QPq]
   rfl
  refine xC pT.refl.app (λk z=>(nomatch z)) ?_ ?_
  ·rw[←B];exact aW.low _
  ·rw[←B];exact k
end
section
variable{sh:List (Str×Nat)}{hs:List (List (Str×Nat)×List Rw)}{base h q:Nat}{sv vs:List Int}{hv:List (List Int×Nat)}{S:aA}{Q:Res->aA->Prop}{ts:List (Str×Nat)}{pr:List Rw}{r:Rw}
def EB(sh ts:List (Str×Nat))(sv vs:List Int):List (Key×D):=aK [] (du (ts.map (·.1)) vs++du (sh.map (·.1)) sv)
def zD(i:CS sh hs)(k:(ts,pr)∈hs)(c:sh.length=sv.length)(b:ts.length=vs.length)(f:∀v∈sv,0<=v/\v<=9)(d:∀v∈vs,0<=v/\v<=9){x:Str}(g:x∈ts.map (·.1)++sh.map (·.1)):
  dv (EB sh ts sv vs) (.inr x)=some (.int (numAt (aK (bQ sh sv) (bQ ts vs)) x))/\0<=numAt (aK (bQ sh sv) (bQ ts vs)) x/\numAt (aK (bQ sh sv) (bQ ts vs)) x<=9:=by
 have e:=BO (w:=mO sh hs) (s:=kf sv []) (ts:=ts) (vs:=vs) (x:=x) c b f d (i.dj k) g
 have a:gN (aK (bQ sh sv) (bQ ts vs)):=gN.merge (di f) (di d)
 have j:(Sum.inr x:Key)∈(aK (bQ sh sv) (bQ ts vs)).map (·.1):=dE (by
  rcases mQa.mp g with h|h
  ·exact .inr (cV b h)
  ·exact .inl (cV c h))
 refine⟨?_,(gZ a j).2⟩
 have l:EB sh ts sv vs=aK [] ((((ts++(mO sh hs).ak).map (·.1)).map Sum.inr).zip ((vs++(kf sv []).ak).map D.int)):=by
  show aK [] _=aK [] ((((ts++sh).map (·.1)).map Sum.inr).zip ((vs++sv).map D.int))
  rw[Qzq,Qzq,Qzq,List.zip_append (by simpa using b)]
  rfl
 rw[l]
 exact e
def mT{S1 G:aA}{i:Nat}{o:O}(h:i<S1.length):(S1++G).set i o=S1.set i o++G:=List.set_append_left _ _ h
def uW{hv:List (List Int×Nat)}{h n:Nat}{vs:List Int}:(hv.map λp=>eB p.2).set h (.int (n:Int))=(hv.set h (vs,n)).map λp=>eB p.2:=by rw[List.map_set];rfl
def uo{n i:Nat}(h:i<n)(a:n<1000):yP n (i:Int)=some i:=by unfold yP;rw[Qhq (by omega),Qhq (by omega)];simp
def AN(L:CS sh hs)(c:eX sh hs base sv hv S)(H:hs[h]?=some (ts,pr))(X:hv[h]?=some (vs,q))(hr:pr[q]?=some r)(v1:∀v∈sv,0<=v/\v<=9)(v2:∀v∈vs,0<=v/\v<=9)
  (k:∀j,eX sh hs base (m6 sh ts sv hv h vs q r).1 (m6 sh ts sv hv h vs q r).2 j->Kp base S j->Q (.d (JK h (Le sh ts sv vs r))) j):
  Fn gE [(mO sh hs).d,.ref (base+hs.length+1),.ref (base+hs.length+2),.int h] S Q:=by
 have l4:=L.l4
 have lh:=c.lh
 have a1:=c.ltS
 have Y:=mQg H
 have hj:=(gQs.mp H).1
 have U:=c.lt h ts pr vs q H X
 obtain⟨b1,b2,b3,b4⟩:=L.h1 _ Y
 have b1:ts.length<=6:=b1
 have ok:=(L.h2 _ Y).2.2 r (mQg hr)
 have P:(hv.map λp=>eB p.2).length<1000:=by rw[lQm];omega
 have tv:=λ{x} N=>zD L Y c.ls.symm U v1 v2 (x:=x) N
 refine bF ?_
 unfold jo
 symm
 apply aw rfl ?_
 refine aw (d:=dD (ts,pr)) (aO (by show(hs.map dD)[h]?=_;rw[gQm,H];rfl)) ?_
 symm
 apply aw (d:=.tup (pr.map Rw.d)) rfl ?_
 refine dM c.s (d:=eB q) (aO (by rw[gQm,X];rfl)) ?_
 refine aw (d:=r.d) (aO (by rw[gQm,hr];rfl)) ?_
 symm
 refine dM c.s (d:=.int q) (aO (by rw[gQm,X];rfl)) ?_
 symm
 refine⟨_,_,_,h,rfl,rfl,c.s,uo (by rw[lQm];omega) P,?_⟩
 rw[show(q:Int)+1=((q+1:Nat):Int) by omega,uW (vs:=vs)]
 have f:=c.putS (p:=(vs,q)) X (q+1)
 have A:Kp base S (S.set (base+hs.length+2) (.lst ((hv.set h (vs,q+1)).map λp=>eB p.2))):=Kp.set (by omega) (aQ λ_ _=>rfl)
 generalize (S.set (base+hs.length+2) (.lst ((hv.set h (vs,q+1)).map λp=>eB p.2)))=S1 at f A⊢
 have m:(hv.set h (vs,q+1))[h]?=some (vs,q+1):=Qyq (by omega)
 refine aS (kq (K3 (vE (CI (vE (FB (cO (aB rfl (aB rfl (dM f.v (f.atH hj) ⟨_,_,rfl,f.d h ts pr vs _ H m,?_⟩))))))))))
 refine vE (FB (cO (aB rfl (gK (gV ⟨1,rfl,dM f.v (f.atO l4) ⟨_,_,rfl,f.o,?_⟩⟩)))))
 have a3:=c.ls
 have a2:=L.ls
 refine⟨⟨rfl,rfl,trivial,nQl (aV (by unfold du;simp;omega))⟩,?_⟩
 refine⟨rfl,_,by rw[←Qzq];exact tX _,?_⟩
 show T _ _ (S1++ [O.dct (EB sh ts sv vs)]) _
 have a0:S1.length=S.length:=A.len
 have hT:∀{G:aA},(S1++ [O.dct (EB sh ts sv vs)]++G)[S1.length]?=some (.dct (EB sh ts sv vs)):=cb bh
 have C:∀{S2:aA} {t:Tr} {R:Res->aA->Prop},S2[S1.length]?=some (.dct (EB sh ts sv vs))->EF ⟨true,ts.map (·.1)++sh.map (·.1),ts.map (·.1)++sh.map (·.1),[],[],[]⟩ t->R (.d (.int (kg sh ts sv vs t))) S2->Fn (bH 5) [t.d,.ref S1.length] S2 R:=λh2 ht q=>
  sW (th:=numAt (aK (bQ sh sv) (bQ ts vs))) (ws:=ts.map (·.1)++sh.map (·.1)) h2 (λx N=>(tv N).1) (λx N=>(tv N).2) 5 _ ht.1 (by have:=ht.2;omega) q
 cases r with
 | put x t=>
   have N:x∈ts.map (·.1)++sh.map (·.1):=ok.1
   refine aS (bV (dS (a:="put") rfl ?_))
   rw[Qeq rfl]
   refine aH (λ_=> ?_) (λz=>by cases z)
   refine aS (kq (gK (gV ⟨1,rfl,?_⟩)))
   refine aS (bV (eA (IC (cO (aB rfl (gV (aw (d:=.str x) rfl (cO (aB rfl (aB rfl (dM (f.app.v) (f.atH hj) ⟨_,_,_,rfl,rfl,f.app.d h ts pr vs _ H m,?_⟩)))))))))))
   have Z:∀{u:aA} {sv':List Int} {i:List (List Int×Nat)},eX sh hs base sv' i u->Kp base S u->m6 sh ts sv hv h vs q (.put x t)=(sv',i)->Op (settle S .non (u++ [O.dct (EB sh ts sv vs)])) λp=>Q p.1 p.2:=λW M e=>by
     refine uZ M (λk z=>(nomatch z)) rfl (k _ ?_ M)
     rw[e]
     exact W
   have K:∀{u:aA} {a6:Option D} {sv':List Int} {i:List (List Int×Nat)},eX sh hs base sv' i u->Kp base S u->m6 sh ts sv hv h vs q (.put x t)=(sv',i)->T
       (aC (dW (DT (aI (aR (dw false) (aR ki (au 4) (cF (.int 0))) (cF (.str "go")))) (i4 (aI (aR (dw false) (aR ki (au 4) (cF (.int 0))) (cF (.str "unless")))) (aI (aR (dw false) (ax (bH 5) (ar (aR ki (au 4) (cF (.int 1))) (ar (au 5) av))) (cF (.int 0)))))) (pI (aR ki (au 4) (i8 (cF (.int 1)))) (E3 (au 2) (au 3))) eY)
         (aC (dW (aI (aR (dw false) (aR ki (au 4) (cF (.int 0))) (cF (.str "say")))) (bP (bg (ar (au 3) (ar (ax (bH 5) (ar (aR ki (au 4) (cF (.int 1))) (ar (au 5) av))) av)))) eY)
         (bP (cF .non))))
       [some (mO sh hs).d,some (.ref (base+hs.length+1)),some (.ref (base+hs.length+2)),some (.int h),some (Rw.put x t).d,some (.ref S1.length),a6] (u++ [O.dct (EB sh ts sv vs)]) λo=>match o with
         |.nx Γ j=>Op (settle S .non j) λp=>Q p.1 p.2|.rt d j=>Op (settle S d j) λp=>Q p.1 p.2|.rl l j=>Op (de S l j) λp=>Q p.1 p.2|_=>False:=λ{u a6 sv' i} W M e=>by
     refine aS (bV (mB (dS (a:="put") rfl ?_)))
     rw[Qdq (by decide +kernel)]
     refine aH (λz=>by cases z) (λ_=>lT (dS (a:="put") rfl ?_))
     rw[Qdq (by decide +kernel)]
     refine aH (λz=>by cases z) (λ_=> ?_)
     refine aH (λz=>by cases z) (λ_=>bC ?_)
     refine aS (bV (dS (a:="put") rfl ?_))
     rw[Qdq (by decide +kernel)]
     refine aH (λz=>by cases z) (λ_=>bC ?_)
     exact eG (gV (Z W M e))
   by_cases w:x∈ts.map (·.1)
   · have B:x∉sh.map (·.1):=L.dj Y x w
     obtain⟨p1,p2⟩:=gu w
     rw[lQm] at p1
     rw[xa (v:=vs[cx (ts.map (·.1)) x]'(by omega)) (by rw[lQm];exact U) b3 p2 (gQe (by omega))]
     refine aH (λ_=> ?_) (λz=>by cases z)
     refine kq (aB rfl ?_)
     refine G3 (gh (aL (cO (aB rfl (gV (aw (d:=t.d) rfl (aL (aB rfl (bT (C bh ok.2 ?_))))))))))
     refine cO (aB rfl (aB rfl (dM f.app.v (f.atH hj) (cO (aB rfl (gV (aw (d:=.str x) rfl ⟨_,_,_,rfl,rfl,f.app.d h ts pr vs _ H m,aV (by unfold du;simp;omega),?_⟩)))))))
     rw[wK (by rw[lQm];exact U) b3 w,mT (S1:=S1) (by omega)]
     have I:=f.putH (vs':=bA (ts.map (·.1)) vs x (kg sh ts sv vs t)) H m (by unfold bA;rw[List.length_set];exact U)
     have J:=A.trans (Kp.set (base:=base) (k:=base+h) (S:=S1) (o:=.dct (du (ts.map (·.1)) (bA (ts.map (·.1)) vs x (kg sh ts sv vs t)))) (by omega) zJ)
     rw[List.set_set] at I
     exact K (a6:=some (.int h)) I J (by simp only[m6,Quq B])
   · have B:x∈sh.map (·.1):=(mQa.mp N).resolve_left w
     rw[E9 (by rw[lQm];exact U) w]
     refine aH (λz=>by cases z) (λ_=>bC ?_)
     refine G3 (gh (aL (cO (aB rfl (gV (aw (d:=t.d) rfl (aL (aB rfl (bT (C bh ok.2 ?_))))))))))
     refine cO (aB rfl (aB rfl (dM f.app.v (f.atO l4) (cO (aB rfl (gV (aw (d:=.str x) rfl ⟨_,_,_,rfl,rfl,f.app.o,aV (by unfold du;simp;omega),?_⟩)))))))
     rw[wK (by rw[lQm];exact c.ls.symm) L.sn B,mT (S1:=S1) (by omega)]
     have I:=f.putO (sv':=bA (sh.map (·.1)) sv x (kg sh ts sv vs t)) (by unfold bA;rw[List.length_set];exact c.ls)
     have J:=A.trans (Kp.set (base:=base) (k:=base+hs.length) (S:=S1) (o:=.dct (du (sh.map (·.1)) (bA (sh.map (·.1)) sv x (kg sh ts sv vs t)))) (by omega) zJ)
     exact K (a6:=some (.int (-1))) I J (by simp only[m6,Qhq B])
 | unl t n=>
   refine aS (bV (dS (a:="unless") rfl ?_))
   rw[Qdq (by decide +kernel)]
   refine aH (λz=>by cases z) (λ_=>bC ?_)
   refine aS (bV (mB (dS (a:="unless") rfl ?_)))
   rw[Qdq (by decide +kernel)]
   refine aH (λz=>by cases z) (λ_=>lT (dS (a:="unless") rfl ?_))
   rw[Qeq rfl]
   refine aH (λ_=> ?_) (λz=>by cases z)
   refine eA (cO (gh (aL (cO (aB rfl (gV (aw (d:=t.d) rfl (aL (aB rfl (bT (C bh ok.1 ?_)))))))))))
   refine gV (dJ ?_)
   have F:∀{u:aA} {i:List (List Int×Nat)},eX sh hs base sv i u->Kp base S u->m6 sh ts sv hv h vs q (.unl t n)=(sv,i)->T
         (aC (dW (aI (aR (dw false) (aR ki (au 4) (cF (.int 0))) (cF (.str "say")))) (bP (bg (ar (au 3) (ar (ax (bH 5) (ar (aR ki (au 4) (cF (.int 1))) (ar (au 5) av))) av)))) eY)
         (bP (cF .non)))
       [some (mO sh hs).d,some (.ref (base+hs.length+1)),some (.ref (base+hs.length+2)),some (.int h),some (Rw.unl t n).d,some (.ref S1.length),none] (u++ [O.dct (EB sh ts sv vs)]) λo=>match o with
         |.nx Γ j=>Op (settle S .non j) λp=>Q p.1 p.2|.rt d j=>Op (settle S d j) λp=>Q p.1 p.2|.rl l j=>Op (de S l j) λp=>Q p.1 p.2|_=>False:=λ{u i} W M e=>by
     refine aS (bV (dS (a:="unless") rfl ?_))
     rw[Qdq (by decide +kernel)]
     refine aH (λz=>by cases z) (λ_=>bC ?_)
     refine eG (gV (uZ M (λk z=>(nomatch z)) rfl (k _ ?_ M)))
     rw[e]
     exact W
   refine aH (λz=> ?_) (λz=> ?_)
   · have z:=QZq z
     refine GP (cO (aB rfl (gK (gV ⟨1,rfl,aw (d:=.int n) rfl ?_⟩))))
     refine HL (aB rfl (aB rfl ⟨_,_,_,h,rfl,rfl,f.app.s,uo (by rw[lQm,List.length_set];omega) (by rw[lQm,List.length_set];omega),?_⟩))
     rw[uW (vs:=vs),mT (S1:=S1) (by omega)]
     have I:=f.putS (p:=(vs,q+1)) m n
     have J:=A.trans (Kp.set (base:=base) (k:=base+hs.length+2) (S:=S1) (o:=.lst (((hv.set h (vs,q+1)).set h (vs,n)).map λp=>eB p.2)) (by omega) (aQ λ_ _=>rfl))
     exact F I J (by simp only[m6,Qhq z,List.set_set])
   · have z:=QaQ z
     exact bC (F f A (by simp only[m6,Quq z]))
 | go n=>
   refine aS (bV (dS (a:="go") rfl ?_))
   rw[Qdq (by decide +kernel)]
   refine aH (λz=>by cases z) (λ_=>bC ?_)
   refine aS (bV (mB (dS (a:="go") rfl ?_)))
   rw[Qeq rfl]
   refine aH (λ_=> ?_) (λz=>by cases z)
   refine aH (λ_=> ?_) (λz=>by cases z)
   refine GP (cO (aB rfl (gK (gV ⟨1,rfl,aw (d:=.int n) rfl ?_⟩))))
   refine HL (aB rfl (aB rfl ⟨_,_,_,h,rfl,rfl,f.app.s,uo (by rw[lQm,List.length_set];omega) (by rw[lQm,List.length_set];omega),?_⟩))
   rw[uW (vs:=vs),mT (S1:=S1) (by omega)]
   have I:=f.putS (p:=(vs,q+1)) m n
   have J:=A.trans (Kp.set (base:=base) (k:=base+hs.length+2) (S:=S1) (o:=.lst (((hv.set h (vs,q+1)).set h (vs,n)).map λp=>eB p.2)) (by omega) (aQ λ_ _=>rfl))
   refine aS (bV (dS (a:="go") rfl ?_))
   rw[Qdq (by decide +kernel)]
   refine aH (λz=>by cases z) (λ_=>bC ?_)
   have ed:m6 sh ts sv hv h vs q (.go n)=(sv,(hv.set h (vs,q+1)).set h (vs,n)):=by simp only[m6,List.set_set]
   exact eG (gV (uZ J (λk z=>(nomatch z)) rfl (k _ (by rw[ed];exact I) J)))
 | say t=>
   refine aS (bV (dS (a:="say") rfl ?_))
   rw[Qdq (by decide +kernel)]
   refine aH (λz=>by cases z) (λ_=>bC ?_)
   refine aS (bV (mB (dS (a:="say") rfl ?_)))
   rw[Qdq (by decide +kernel)]
   refine aH (λz=>by cases z) (λ_=>lT (dS (a:="say") rfl ?_))
   rw[Qdq (by decide +kernel)]
   refine aH (λz=>by cases z) (λ_=> ?_)
   refine aH (λz=>by cases z) (λ_=>bC ?_)
   refine aS (bV (dS (a:="say") rfl ?_))
   rw[Qeq rfl]
   refine aH (λ_=> ?_) (λz=>by cases z)
   refine eG (g8 (aL (aB rfl (aL (gh (aL (cO (aB rfl (gV (aw (d:=t.d) rfl (aL (aB rfl (bT (C bh ok.2 ?_))))))))))))))
   refine bT ⟨by show 2<=_;decide,?_⟩
   exact uZ A (λk z=>(nomatch z)) rfl (k _ f A)
 |do_ g a b t=>exact absurd ok.2.1 (by simp)
 |wait b t=>exact absurd ok.2.1 (by simp)
 |call b=>exact absurd ok.2 (by simp)
 |all b=>exact absurd ok.2 (by simp)
 |tell t=>exact absurd ok.1 (by simp)
 |take x=>exact absurd ok.2 (by simp)
 |give x=>exact absurd ok.2 (by simp)
 |pass x y=>exact absurd ok.2.1 (by simp)
end
section
variable{S S0:aA}{Q:Res->aA->Prop}{k lp:Nat}{ns:List Str}
def xn(x:Ex k S0 S)(g:lp≠k)(hP:S[lp]?=some (.lst (ns.map D.str)))(hn:ns.length<=12)
  (h:∀(pr:List Rw) (s:aA),0<pr.length->pr.length<=9->(∀r∈pr,BM ns pr.length r)->Ex k S0 s->Ex k S s->s.length=S.length->Q (.d (.tup (pr.map Rw.d))) s):
  Fn fw [.ref k,.ref lp] S Q:=by
 have y:Ex k S S:=by obtain⟨a,b,c,Z⟩:=x.pot;exact Ex.refl Z
 have kl:=x.lt
 have b5:=(gQs.mp hP).1
 refine bF ?_
 unfold gS
 symm
 apply⟨by decide,?_⟩
 apply cQ (y.app (G:= [O.lst []])) (by decide) (by decide) λv S1 hv e1 a6 l1=> ?_
 rw[show(2:Int)+(v:Int)=((2+v:Nat):Int) by omega]
 apply oU (xN ?_)
 refine⟨((2+v:Nat):Int),rfl,by omega,?_⟩
 have b2:S1[S.length]?=some (.lst (([]:List Rw).map Rw.d)):=a6.keep _ _ (by omega) bh
 have b0:S1[lp]?=some (.lst (ns.map D.str)):=a6.keep _ _ g (cb hP)
 refine⟨λj A s=>(∃J I,A= [some (.ref k),some (.ref lp),some (.ref S.length),some (.int ((2+v:Nat):Int)),J,I])/\∃pr:List Rw,pr.length=j/\(∀r∈pr,BM ns (2+v) r)/\s[S.length]?=some (.lst (pr.map Rw.d))/\s[lp]?=some (.lst (ns.map D.str))/\Ex k S s,⟨⟨_,_,rfl⟩,[],rfl,λ_ h=>(nomatch h),b2,b0,e1⟩,λ_ _ _ _=>trivial,?_,?_⟩
 ·rintro j d A s hd ⟨⟨J,I,rfl⟩,pr,u,hrw,hR,hP',ex⟩
  obtain⟨rfl,hj⟩:=mD hd
  have W:∀{q:aA} {L:cz} {R:D->aA->Prop},L[0]?=some (some (.ref k))->L[1]?=some (some (.ref lp))->Ex k S q->q[lp]?=some (.lst (ns.map D.str))->(∀(t:Tr) (f:aA),EF ⟨true,ns,ns,[],[],[]⟩ t->Ex k S f->Ex k q f->R t.d f)→
    E (ax (bt 4) (ar (au 0) (ar (au 1) (ar (dH (cN av)) (ar (cF (.int 3)) av))))) L q R:=λ{q L R} g0 g1 F h5 hq=>by
   have y5:Ex k q q:=by obtain⟨a,b,c,Z⟩:=F.pot;exact Ex.refl Z
   have l5:=F.lt
   have n5:q.length≠k:=by omega
   apply gh (aL (aB g0 (aL (aB g1 (aL (tW ?_))))))
   refine⟨by show 0<=_;decide,?_⟩
   symm
   refine DP 4 (bs:= []) (deep:=3) (y5.app (G:= [O.lst []])) g n5 (cb h5) bh (by omega) (by show 0<1000;decide) (by decide) λt f o1 o2 w e l6=> ?_
   exact hq t f ⟨o1,o2⟩ (F.trans w) w
  have K:∀{f:aA} (r:Rw) (J I:Option D),BM ns (2+v) r->f[S.length]?=some (.lst (pr.map Rw.d))->f[lp]?=some (.lst (ns.map D.str))->Ex k S f->∃ds,f[S.length]?=some (.lst ds)/\Op (kc ds [r.d]) λp=>(∃b1 a7,[some (.ref k),some (.ref lp),some (.ref S.length),some (.int ((2+v:Nat):Int)),J,I]= [some (.ref k),some (.ref lp),some (.ref S.length),some (.int ((2+v:Nat):Int)),b1,a7])/\∃pr:List Rw,pr.length=j+1/\(∀r∈pr,BM ns (2+v) r)/\(f.set S.length (.lst p.1))[S.length]?=some (.lst (pr.map Rw.d))/\(f.set S.length (.lst p.1))[lp]?=some (.lst (ns.map D.str))/\Ex k S (f.set S.length (.lst p.1)):=λ{f} r J I hr h6 hp6 w=>by
   refine⟨_,h6,yh (aV (by rw[lQm];omega)) ?_⟩
   refine⟨⟨_,_,rfl⟩,pr++ [r],by simp[u],λr' C=> ?_,?_,Cn (by omega) hp6,w.put (Qmq _) kl⟩
   ·rcases mQa.mp C with C|C
    ·exact hrw r' C
    ·rw[Qfq.mp C];exact hr
   ·rw[qG h6];simp
  have N:S.length≠k:=by omega
  have tk:∀{q:aA} {L:cz} {R:D->aA->Prop},L[0]?=some (some (.ref k))->L[3]?=some (some (.int ((2+v:Nat):Int)))->Ex k S q->(∀(n:Nat) (f:aA),n<=2+v->Ex k S f->Ex k q f->R (.int n) f)->E (ax aG (ar (au 0) (ar (aR bO (au 3) (cF (.int 1))) av))) L q R:=λ{q L R} g0 g3 F hq=>by
   refine gh (aL (aB g0 (aL (cO (aB g3 (gV (FD (bT ?_))))))))
   rw[show((2+v:Nat):Int)+1=((2+v+1:Nat):Int) by omega]
   exact cQ F (by omega) (by omega) λn f hn w e l6=>hq n f (by omega) w e
  apply aY ?_
  refine cQ ex (by decide) (by decide) λa1 q b3 F a0 l5=> ?_
  have B:=a0.keep _ _ N hR
  have m:=a0.keep _ _ g hP'
  have a2:∀{o6:Option D},T (dW (aI (aR (dw false) (au 5) (cF (.int 2)))) (wV (xW kc (au 2) (ar (bg (ar (cF (.str "unless")) (ar (ax (bt 4) (ar (au 0) (ar (au 1) (ar (dH (cN av)) (ar (cF (.int 3)) av))))) (ar (ax aG (ar (au 0) (ar (aR bO (au 3) (cF (.int 1))) av))) av)))) av))) (dW (i4 (aI (aR (dw false) (au 5) (cF (.int 3)))) (aI (aR (dw false) (ax aG (ar (au 0) (ar (cF (.int 3)) av))) (cF (.int 0))))) (wV (xW kc (au 2) (ar (bg (ar (cF (.str "go")) (ar (ax aG (ar (au 0) (ar (aR bO (au 3) (cF (.int 1))) av))) av))) av))) (wV (xW kc (au 2) (ar (bg (ar (cF (.str "say")) (ar (ax (bt 4) (ar (au 0) (ar (au 1) (ar (dH (cN av)) (ar (cF (.int 3)) av))))) av))) av)))))
    [some (.ref k),some (.ref lp),some (.ref S.length),some (.int ((2+v:Nat):Int)),some (.int j),some (.int a1)] q λo=>match o with
     |.nx A s=>(∃J I,A= [some (.ref k),some (.ref lp),some (.ref S.length),some (.int ((2+v:Nat):Int)),J,I])/\∃pr:List Rw,pr.length=j+1/\(∀r∈pr,BM ns (2+v) r)/\s[S.length]?=some (.lst (pr.map Rw.d))/\s[lp]?=some (.lst (ns.map D.str))/\Ex k S s
     |_=>False:=by
   refine bV (eA (cO (aB rfl (gV (dJ ?_)))))
   refine aH (λ_=> ?_) (λ_=> ?_)
   ·refine sC (yW (aB rfl ⟨_,_,rfl,B,aL (g8 (aL (gV (aL (W rfl rfl F m λt f X w e=> ?_)))))⟩))
    refine aL (tk rfl rfl w λn S7 U P i=>bT ⟨by show 3<=_;decide,bT ?_⟩)
    exact K (.unl t n) _ _ ⟨X,U⟩ (i.keep _ _ N (e.keep _ _ N B)) (i.keep _ _ g (e.keep _ _ g m)) P
   ·refine bV (lT (eA (cO (aB rfl (gV (dJ ?_))))))
    have a3:∀{f:aA},Ex k S f->Ex k q f->T (wV (xW kc (au 2) (ar (bg (ar (cF (.str "say")) (ar (ax (bt 4) (ar (au 0) (ar (au 1) (ar (dH (cN av)) (ar (cF (.int 3)) av))))) av))) av)))
     [some (.ref k),some (.ref lp),some (.ref S.length),some (.int ((2+v:Nat):Int)),some (.int j),some (.int a1)] f λo=>match o with
     |.nx A s=>(∃J I,A= [some (.ref k),some (.ref lp),some (.ref S.length),some (.int ((2+v:Nat):Int)),J,I])/\∃pr:List Rw,pr.length=j+1/\(∀r∈pr,BM ns (2+v) r)/\s[S.length]?=some (.lst (pr.map Rw.d))/\s[lp]?=some (.lst (ns.map D.str))/\Ex k S s
     |_=>False:=λ{f} w e=>by
     have H:=e.keep _ _ N B
     have M:=e.keep _ _ g m
     refine sC (yW (aB rfl ⟨_,_,rfl,H,aL (g8 (aL (gV (aL (W rfl rfl w M λt S7 X P i=>bT ⟨by show 2<=_;decide,bT ?_⟩)))))⟩))
     exact K (.say t) _ _ ⟨rfl,X⟩ (i.keep _ _ N H) (i.keep _ _ g M) P
    have y5:Ex k q q:=by obtain⟨a,b,c,Z⟩:=F.pot;exact Ex.refl Z
    refine aH (λ_=> ?_) (λ_=> ?_)
    ·refine eA (cO (gh (aL (aB rfl (aL (gV (bT ?_)))))))
     refine cQ F (by decide) (by decide) λv3 f b6 w e l6=> ?_
     refine gV (dJ ?_)
     refine aH (λ_=> ?_) (λ_=> ?_)
     ·have H:=e.keep _ _ N B
      have M:=e.keep _ _ g m
      refine sC (yW (aB rfl ⟨_,_,rfl,H,aL (g8 (aL (gV (aL (tk rfl rfl w λn S7 U P i=>bT ⟨by show 2<=_;decide,bT ?_⟩)))))⟩))
      exact K (.go n) _ _ U (i.keep _ _ N H) (i.keep _ _ g M) P
     ·exact a3 w e
    ·refine aH (λz=>by cases z) (λ_=> ?_)
     exact a3 F y5
  refine bV (lT (eA (cO (aB rfl (gV (oq ?_))))))
  refine aH (λ_=> ?_) (λ_=> ?_)
  ·refine eA (zQ (jn (aB rfl (eP m ⟨⟨rfl,m⟩,?_⟩))))
   refine aH (λcn=> ?_) (λ_=>T.mono (a2 (o6:=none)) λo Y=>by cases o <;>first|exact Y|exact Y.elim)
   have a9:0<ns.length:=by
    cases ns with
    |nil=>cases cn
    |cons a l=>simp
   refine sC (yW (aB rfl ⟨_,_,rfl,B,aL (g8 (aL (gV (aL (gh (aL (aB rfl (aL (aB rfl (bT ?_))))))))))⟩))
   refine pX (xs:=ns.map D.str) F g m (by simpa using a9) (by simp;omega) lG rF λb4 f a8 w e l6=> ?_
   obtain⟨z,hz,rfl⟩:=Qkq.mp a8
   refine aL (W rfl rfl w (e.keep _ _ g m) λt S7 X P i=>bT ⟨by show 3<=_;decide,bT ?_⟩)
   exact K (.put z t) _ _ ⟨hz,X⟩ (i.keep _ _ N (e.keep _ _ N B)) (i.keep _ _ g (e.keep _ _ g m)) P
  ·refine aH (λz=>by cases z) (λ_=>T.mono (a2 (o6:=none)) λo Y=>by cases o <;>first|exact Y|exact Y.elim)
 ·rintro A s ⟨⟨J,I,rfl⟩,pr,u,hrw,hR,hP',ex⟩
  rw[xF] at u
  have u:pr.length=2+v:=by omega
  symm
  refine eP hR ⟨rfl,?_⟩
  refine t9 ex kl (λk z=>(nomatch z)) ?_ λa b c=> ?_
  ·simp only[bL];exact aQ λr _=>eN r.low
  ·exact h pr _ (by omega) (by omega) (by rw[u];exact hrw) x.set y.set (by simp)
end
section
variable{S S0:aA}{Q:Res->aA->Prop}{k:Nat}
def FY:(six.map (("o":Str)++·)).Nodup:=by decide +kernel
def FV:(six.map (("":Str)++·)).Nodup:=by decide +kernel
def z_{ws:List Str}{a:List Str}(b:∃l,(ws++l).Perm a)(nd:a.Nodup):ws.Nodup/\∀x∈ws,x∈a:=by
 obtain⟨l,b⟩:=b
 exact⟨(List.nodup_append.mp (b.symm.nodup nd)).1,λx c=>b.mem_iff.mp (List.mem_append_left _ c)⟩
def o_{r:cz}{v i:Nat}{ws:List Str}{S1:aA}{R:List D->aA->Prop}(u:Ex k S S1)(hi:i≠k)(x:S1[i]?=some (.lst (ws.map D.str)))(H:ws.length<=6)(A:r[0]?=some (some (.ref k)))(z:r[v]?=some (some (.ref i)))
  (h:∀(us:List (Str×Nat)) (f:aA),us.map (·.1)=ws->(∀p∈us,p.2<=9)->Ex k S f->Ex k S1 f->R (us.map nO) f):
  E (bW [none,some 0] (m7 (bM (au v))) (bS 0) cM (bg (ar (au 0) (ar (ax aG (ar (au 1) (ar (cF (.int 10)) av))) av)))) r S1 R:=by
 have y:Ex k S1 S1:=by obtain⟨a,b,c,B⟩:=u.pot;exact Ex.refl B
 refine jv (w5 (jn (aB z (eP x ?_))))
 refine⟨λm j f g=>(∃a,j= [a,some (.ref k)])/\∃us:List (Str×Nat),g=us.map nO/\us.map (·.1)=ws.take m/\(∀p∈us,p.2<=9)/\Ex k S f/\Ex k S1 f,⟨⟨none,by show [none,(r[0]?).getD none]=_;rw[A];rfl⟩,[],rfl,rfl,λ_ h=>(nomatch h),u,y⟩,λm j f g ⟨_,us,_,_,_,_,e⟩=>e.keep _ _ hi x,?_,?_⟩
 ·rintro m d j f g q ⟨⟨a,rfl⟩,us,rfl,l,hv,e2,e2'⟩
  have q:(ws.map D.str)[m]?=some d:=q
  rw[gQm] at q
  obtain⟨w,t,rfl⟩:=oQm.mp q
  have J:=(gQs.mp t).1
  refine aY ?_
  refine nU ?_
  rw[Qhq rfl]
  refine g8 (aL (aB rfl (aL (gh (aL (aB rfl (aL (gV (bT ?_)))))))))
  refine cQ e2 (by decide) (by decide) λn K I C s F=> ?_
  refine bT ⟨by show 2<=_;decide,?_⟩
  have G:us.length<=m:=by
   have:=congrArg List.length l
   rw[lQm,Qxq] at this
   omega
  refine⟨aV (by rw[lQm];omega),⟨_,rfl⟩,us++ [(w,n)],by simp[nO],?_,λp o=> ?_,C,e2'.trans s⟩
  ·rw[Qzq,l,QYq,t]
   rfl
  ·rcases mQa.mp o with o|o
   ·exact hv p o
   ·rw[Qfq.mp o];show n<=9;omega
 ·rintro j f g ⟨-,us,rfl,l,hv,e2,e2'⟩
  have l:us.map (·.1)=ws.take (ws.map D.str).length:=l
  rw[lQm,QEq] at l
  exact h us f l hv e2 e2'
def BB(x:Ex k S0 S)(h:∀(sh:List (Str×Nat)) (hs:List (List (Str×Nat)×List Rw)) (t:aA),CS sh hs->Ex k S0 t->Q (.d (mO sh hs).d) t):Fn fJ [.ref k] S Q:=by
 have y:Ex k S S:=by obtain⟨a,b,c,hh⟩:=x.pot;exact Ex.refl hh
 have kl:=x.lt
 refine bF ?_
 unfold jR
 symm
 apply cQ y (by decide) (by decide) λv S1 hv e1 c1 l1=> ?_
 refine wG e1 (by omega) (by omega) (by decide +kernel) λl C A b8 e2 a9 l2=> ?_
 obtain⟨a7,a2⟩:=z_ A FY
 have c0:l.length<=2:=by omega
 symm
 have e3:Ex k S (C++ [O.lst (l.map D.str)]):=e2.app
 have M:(C++ [O.lst (l.map D.str)])[S.length]?=some (.lst (l.map D.str)):=by rw[show S.length=C.length by omega];exact bh
 have l3:(C++ [O.lst (l.map D.str)]).length=S.length+1:=by rw[lQa];show C.length+1=_;omega
 rw[show C.length=S.length by omega]
 generalize (C++ [O.lst (l.map D.str)])=S3 at e3 M l3⊢
 refine⟨by show 0<=_;decide,?_⟩
 apply aS (oU (xN ?_))
 rw[l3]
 have L:(S3++ [O.lst []])[S.length+1]?=some (.lst (([]:List (List (Str×Nat)×List Rw)).map dD)):=by rw[←l3];exact bh
 have e4:=e3.app (G:= [O.lst []])
 have N:=cb (G:= [O.lst []]) M
 generalize (S3++ [O.lst []])=S4 at e4 N L⊢
 apply cQ e4 (by decide) (by decide) λY S5 b7 e5 R l5=> ?_
 rw[show(1:Int)+(Y:Int)=((1+Y:Nat):Int) by omega]
 refine⟨((1+Y:Nat):Int),rfl,by omega,?_⟩
 have I:S.length≠k:=by omega
 have g:S.length+1≠k:=by omega
 refine⟨λj F t=>(∃a3 a4 a5,F= [some (.ref k),some (.ref S.length),some (.ref (S.length+1)),a3,a4,a5])/\∃hs:List (List (Str×Nat)×List Rw),hs.length=j/\(∀h∈hs,h.1.length<=6/\(∀p∈h.1,p.2<=9)/\(h.1.map (·.1)).Nodup/\∀x∈h.1.map (·.1),x∈six.map (("":Str)++·))/\(∀h∈hs,0<h.2.length/\h.2.length<=9/\∀r∈h.2,BM (h.1.map (·.1)++l) h.2.length r)∧
  t[S.length+1]?=some (.lst (hs.map dD))/\t[S.length]?=some (.lst (l.map D.str))/\Ex k S t,⟨⟨_,_,_,rfl⟩,[],rfl,λ_ h=>(nomatch h),λ_ h=>(nomatch h),R.keep _ _ g L,R.keep _ _ I N,e5⟩,λ_ _ _ _=>trivial,?_,?_⟩
 ·rintro j d F t hd ⟨⟨a3,a4,a5,rfl⟩,hs,i,h1,h2,hR,hN,ex⟩
  obtain⟨rfl,hj⟩:=mD hd
  have b6:=(gQs.mp hR).1
  apply aY ?_
  apply cQ ex (by decide) (by decide) λv6 S6 b2 e6 U l6=> ?_
  refine wG e6 (by omega) (by omega) (by decide +kernel) λo J a0 b4 e7 W l7=> ?_
  obtain⟨a8,a1⟩:=z_ a0 FV
  have b3:o.length<=2:=by omega
  symm
  have b1:J.length=t.length:=by omega
  have e8:Ex k S (J++ [O.lst (o.map D.str)]):=e7.app
  have q:(J++ [O.lst (o.map D.str)])[J.length]?=some (.lst (o.map D.str)):=bh
  have B:=cb (G:= [O.lst (o.map D.str)]) (W.keep _ _ g (U.keep _ _ g hR))
  have H:=cb (G:= [O.lst (o.map D.str)]) (W.keep _ _ I (U.keep _ _ I hN))
  have s:J.length≠k:=by omega
  generalize (J++ [O.lst (o.map D.str)])=S8 at e8 q B H⊢
  generalize J.length=i7 at q s⊢
  refine o_ e8 s q (by omega) rfl rfl λn S9 e K X f=> ?_
  refine sC (yW (aB rfl ⟨_,_,rfl,f.keep _ _ g B,aL (g8 (aL (aB rfl (aL (gh (aL (aB rfl (aL (tW (CI (jn (aB rfl (eP (f.keep _ _ s q) ?_)))))))))))))⟩))
  refine jn (aB rfl (eP (f.keep _ _ I H) ?_))
  refine⟨⟨rfl,rfl,f.keep _ _ s q,nQl (aV (by simp;omega))⟩,?_⟩
  refine bT ?_
  have el:o.map D.str++l.map D.str=(o++l).map D.str:=by rw[Qzq]
  rw[el]
  have l9:=X.lt
  refine xn (X.app (G:= [O.lst ((o++l).map D.str)])) (by omega) bh (by simp;omega) λpr b5 p0 p9 Z a6 u b0=> ?_
  refine bT ⟨by show 2<=_;decide,bT ?_⟩
  have w:=u.keep _ _ g (cb (f.keep _ _ g B))
  have P:=u.keep _ _ I (cb (f.keep _ _ I H))
  refine⟨_,w,yh (aV (by rw[lQm];omega)) ?_⟩
  refine⟨⟨_,_,_,rfl⟩,hs++ [(n,pr)],by simp[i],λz m=> ?_,λz m=> ?_,?_,Cn (by omega) P,a6.put (by omega) kl⟩
  ·rcases mQa.mp m with m|m
   ·exact h1 z m
   ·rw[Qfq.mp m]
    have ul:n.length=o.length:=by rw[←e,lQm]
    exact⟨by show n.length<=6;omega,K,by show(n.map (·.1)).Nodup;rw[e];exact a8,by show∀x∈n.map (·.1),_;rw[e];exact a1⟩
  ·rcases mQa.mp m with m|m
   ·exact h2 z m
   ·rw[Qfq.mp m]
    exact⟨p0,p9,by show∀r∈pr,BM (n.map (·.1)++l) _ r;rw[e];exact Z⟩
  ·rw[qG w,Qzq]
   rfl
 ·rintro F t ⟨⟨a3,a4,a5,rfl⟩,hs,i,h1,h2,hR,hN,ex⟩
  rw[xF] at i
  have i:hs.length=1+Y:=by omega
  refine eG (g8 (aL (g8 (bT ⟨by show 0<=_;decide,aL (g8 (bT ⟨by show 0<=_;decide,aL (qp (vE ?_))⟩))⟩))))
  refine o_ ex I hN (by omega) rfl rfl λn S9 e K X f=> ?_
  refine aL (qp (ue (jn (aB rfl (eP (f.keep _ _ g hR) ⟨rfl,bT ⟨by show 4<=_;decide,?_⟩⟩)))))
  have ul:n.length=l.length:=by rw[←e,lQm]
  have wo:CS n hs:=⟨by omega,by omega,by omega,K,by rw[e];exact a7,by rw[e];exact a2,h1,by rw[e];exact h2⟩
  have ew:(mO n hs).d=.tup [.tup [],.tup [],.tup (n.map nO),.tup (hs.map dD)]:=rfl
  refine t9 X kl (λk z=>(nomatch z)) ?_ λa b c=> ?_
  ·rw[←ew];exact eN (c9.low _)
  ·rw[←ew];exact h _ _ _ wo x.set
end
def F0{w:c9}{n h:Nat}{s:aW}{e:Option Int}(o:iZ w)(x:cR w n s)(b:n<=100):Pl 10 (D0 s h e):=by
 refine⟨by show 2<=1000;decide,λd a=> ?_⟩
 simp only[Qsq,QXq,or_false] at a
 rcases a with rfl|rfl
 ·exact B7 o x b
 ·cases e with
  |none=>exact trivial
  | some v=>
    refine⟨by show 2<=1000;decide,λd a=> ?_⟩
    simp only[Qsq,QXq,or_false] at a
    rcases a with rfl|rfl <;>exact trivial
def yO(hs:List (List (Str×Nat)×List Rw)):List (List Int×Nat):=hs.map λp=>(p.1.map λq=>(q.2:Int),0)
def Dl{sh:List (Str×Nat)}{hs:List (List (Str×Nat)×List Rw)}:da (mO sh hs)=kf (sh.map λq=>(q.2:Int)) (yO hs):=by
 unfold da mO kf yO
 rw[QPq]
 rfl
theorem rK:∀ts:List (Str×Nat),gQ (ts.map nO)=some (du (ts.map (·.1)) (ts.map λq=>(q.2:Int)))
 | []=>rfl
 | (x,n)::ts=>by
   simp only[QDq,nO,gQ,kh,Qbq]
   rw[rK ts]
   rfl
def t5{ns:List Str}{vs:List Int}(a:ns.length=vs.length)(nd:ns.Nodup):aK [] (du ns vs)=du ns vs:=by
 rw[oD (by rw[List.nil_append,nP a];exact B8 nd),List.nil_append]
def V9(hv:List (List Int×Nat)):Prop:=∀p∈hv,∀v∈p.1,0<=v/\v<=9
def x_{sh ts:List (Str×Nat)}{hs:List (List (Str×Nat)×List Rw)}{pr:List Rw}{sv vs:List Int}{t:Tr}(a:CS sh hs)(d:(ts,pr)∈hs)(c:sh.length=sv.length)(e:ts.length=vs.length)(g:∀v∈sv,0<=v/\v<=9)(f:∀v∈vs,0<=v/\v<=9)(b:t.Ok (ts.map (·.1)++sh.map (·.1)) []):
  0<=kg sh ts sv vs t/\kg sh ts sv vs t<=9:=
 fo (ws:=ts.map (·.1)++sh.map (·.1)) (bs:= []) (λx h=>(zD a d c e g f h).2) b
def HH{ns:List Str}{vs:List Int}{x:Str}{v:Int}(h:∀v∈vs,0<=v/\v<=9)(hv:0<=v/\v<=9):∀u∈bA ns vs x v,0<=u/\u<=9:=λu a=>by
 rcases QTq a with a|rfl
 ·exact h u a
 ·exact hv
def V9.set{hv:List (List Int×Nat)}{h:Nat}{p:List Int×Nat}(a:V9 hv)(b:∀v∈p.1,0<=v/\v<=9):V9 (hv.set h p):=λq c=>by
 rcases QTq c with c|rfl
 ·exact a q c
 ·exact b
def KR{sh ts:List (Str×Nat)}{hs:List (List (Str×Nat)×List Rw)}{pr:List Rw}{sv vs:List Int}{hv:List (List Int×Nat)}{h q:Nat}{r:Rw}(d:CS sh hs)(e:(ts,pr)∈hs)(f:sh.length=sv.length)(g:ts.length=vs.length)(b:∀v∈sv,0<=v/\v<=9)(a:V9 hv)(c:∀v∈vs,0<=v/\v<=9)(ok:BM (ts.map (·.1)++sh.map (·.1)) pr.length r):
  (∀v∈(m6 sh ts sv hv h vs q r).1,0<=v/\v<=9)/\V9 (m6 sh ts sv hv h vs q r).2:=by
 cases r with
 | put x t=>
   have hv:=x_ d e f g b c ok.2.1
   simp only[m6]
   split
   · exact⟨HH b hv,a.set c⟩
   · exact⟨b,a.set (HH c hv)⟩
 |unl t n=>exact⟨b,a.set c⟩
 |go n=>exact⟨b,a.set c⟩
 |_=>exact⟨b,a.set c⟩
def B4{sh ts:List (Str×Nat)}{sv vs:List Int}{hv:List (List Int×Nat)}{h q m:Nat}{r:Rw}{ns:List Str}(ok:BM ns m r)(d:q<m){j:Nat}{p:List Int×Nat}(e:(m6 sh ts sv hv h vs q r).2[j]?=some p):(j=h/\p.2<=m)\/(j≠h/\hv[j]?=some p):=by
 have a:∀{b:List Int} {n:Nat},n<=m->(hv.set h (b,n))[j]?=some p->(j=h/\p.2<=m)\/(j≠h/\hv[j]?=some p):=λc e=>by
  rcases get_set e with⟨rfl,rfl⟩|z
  ·exact .inl ⟨rfl,c⟩
  ·exact .inr z
 cases r with
 | put x t=>
   simp only[m6] at e
   split at e
   · exact a (by omega) e
   · exact a (by omega) e
 | unl t n=>
   refine a ?_ e
   split
   · exact ok.2
   · omega
 |go n=>exact a ok e
 |_=>exact a (by omega) e
def HG{S:aA}{a:Bool}{x y:D}{p r:PyData}{Q:D->Prop}(c:m_ x=some p)(b:m_ y=some r)(d:p.depth<=60)(q:Q (.bl (if a then !PyData.eqv p r else PyData.eqv p r))):Op (GX a S x y) Q:=⟨_,by unfold GX;rw[c,b];simp only[Qbq];rw[Qhq d],q⟩
def pD(n:Nat)(d:D):Prop:=∃p,m_ d=some p/\p.depth<=n
def Hq{S:aA}{d:D}{n:Nat}{a:Bool}{Q:D->Prop}(h:pD n d)(c:n<=60)(q:Q (.bl (!a))):Op (GX a S d d) Q:=by
 obtain⟨p,h,b⟩:=h
 refine HG h h (by omega) ?_
 rw[SeqAt.eqv_refl p (mY h)]
 cases a <;>exact q
theorem Dd{n:Nat}:∀{ds:List D},(∀d∈ds,pD n d)->∃ps,oV ds=some ps/\PyData.depthAll ps<=n
 | [],_=>⟨[],rfl,Nat.zero_le _⟩
 | d::ds,h=>by
   obtain⟨p,a,f⟩:=h d (QBq ..)
   obtain⟨ps,b,e⟩:=Dd (ds:=ds) λx c=>h x (Qpq _ c)
   exact⟨p::ps,by simp only[oV];rw[a,b];rfl,by simp only[PyData.depthAll];omega⟩
def nW{n:Nat}{ds:List D}(h:∀d∈ds,pD n d):pD (n+1) (.tup ds):=by
 obtain⟨a,e,b⟩:=Dd h
 exact⟨.tuple a,by simp only[m_];rw[e];rfl,by simp only[PyData.depth];omega⟩
def j_{m n:Nat}{d:D}(h:pD m d)(l:m<=n):pD n d:=by
 obtain⟨p,e,a⟩:=h
 exact⟨p,e,QAq a l⟩
def yU{i:Int}{n:Nat}:pD n (.int i):=⟨.int i,rfl,by simp[PyData.depth]⟩
def x9{α:Type}{n:Nat}{l:List α}{f:α->D}(h:∀a,pD n (f a)):pD (n+1) (.tup (l.map f)):=nW λd b=>by
 obtain⟨a,_,rfl⟩:=Qkq.mp b
 exact h a
def BN{sv:List Int}{hv:List (List Int×Nat)}:pD 9 (kf sv hv).d:=by
 have c:(kf sv hv).d=.tup [.tup [],.tup [],.tup (sv.map D.int),.tup (hv.map λp=>pz (p.1,[fP p.2]))]:=by
  unfold kf aW.d
  show D.tup [.tup [],.tup [],b9 sv,.tup ((hv.map λp=>(p.1,[fP p.2])).map pz)]=_
  rw[QPq]
  rfl
 rw[c]
 have nil:pD 8 (.tup []):=j_ (nW (n:=0) λd h=>nomatch h) (by omega)
 refine nW (n:=8) λd b=> ?_
 simp only[Qsq,QXq,or_false] at b
 rcases b with rfl|rfl|rfl|rfl
 ·exact nil
 ·exact nil
 ·exact j_ (x9 (n:=0) λa=>yU) (by omega)
 ·refine j_ (x9 (n:=6) λp=> ?_) (by omega)
  show pD 6 (.tup [b9 p.1,.tup [(fP p.2).d]])
  refine nW (n:=5) λd b=> ?_
  simp only[Qsq,QXq,or_false] at b
  rcases b with rfl|rfl
  ·exact j_ (x9 (n:=0) λa=>yU) (by omega)
  ·refine j_ (nW (n:=2) λd b=> ?_) (by omega)
   rw[Qfq.mp b]
   refine j_ (nW (n:=0) λd b=> ?_) (by omega)
   simp only[Qsq,QXq,or_false] at b
   rcases b with rfl|rfl|rfl|rfl|rfl <;>exact yU
def Gm{a:cz}{S:aA}{f:dQ}{g:bc}{Q:List D->aA->Prop}(h:E f a S λp S1=>E g a S1 λr S2=>∃(n:Nat) (d:D),r=.int n/\p.1= [d]/\(p.2.isM=true/\p.2.stays S2 p.1/\n<=1000)/\Q (List.replicate n d) S2):E (Eb f g) a S Q:=by
 obtain⟨p,S1,b,r,S2,c,n,d,rfl,h0,⟨h1,h2,h3⟩,q⟩:=h
 refine⟨_,S2,?_,q⟩
 unfold Eb
 rw[b]
 simp only[Qbq]
 rw[c]
 simp only[Qbq]
 rw[Qhq ⟨h1,h2,by omega,by omega,by rw[h0];simp only[Qnq,QGq,Int.toNat_natCast];exact nQl (aV (by omega))⟩]
 rw[h0]
 simp
def E6(n:Nat):mC 0 (n:Int)=(List.range n).map eB:=by
 unfold mC
 rw[show((n:Int)-0).toNat=n by omega]
 exact List.map_congr_left λi _=>by show D.int (0+(i:Int))=D.int i;rw[Int.zero_add]
def Du:∀ns:List Int,ns.length<=63->∃B,Ef [.ref 0] [.frz (ns.map D.int)]=some (.d (.bl true),B):=by
 intro ns f2
 suffices h:Fn Ef [.ref 0] [.frz (ns.map D.int)] λr _=>r=.d (.bl true) by
  obtain⟨r,B,e,rfl⟩:=h
  exact⟨B,e⟩
 refine bF ?_
 unfold FP
 refine aS (oU ?_)
 apply xN ?_
 apply CF rfl ?_
 apply Aj ?_
 refine CG ?_
 obtain⟨m,hm,e5⟩:∃m:Nat,(if (if (6:Int)<((ns.map D.int).length:Nat) then(6:Int) else((ns.map D.int).length:Nat))>(1:Int) then(if (6:Int)<((ns.map D.int).length:Nat) then(6:Int) else((ns.map D.int).length:Nat)) else 1)=(m:Int)/\m<=8:=by
  refine⟨(if (if (6:Int)<((ns.map D.int).length:Nat) then(6:Int) else((ns.map D.int).length:Nat))>(1:Int) then(if (6:Int)<((ns.map D.int).length:Nat) then(6:Int) else((ns.map D.int).length:Nat)) else 1).toNat,?_,?_⟩ <;>(repeat' split) <;>omega
 refine⟨m,congrArg D.int hm,by omega,?_⟩
 refine⟨λn g B=>(∃a1 a2 a3 a4 a5 a6 a7 a8 a9 F I H J C,g= [some (.ref 0),a1,a2,a3,a4,a5,a6,a7,a8,a9,F,I,H,J,C])/\B[0]?=some (.frz (ns.map D.int)),⟨⟨_,_,_,_,_,_,_,_,_,_,_,_,_,_,rfl⟩,rfl⟩,λ_ _ _ _=>trivial,?_,?_⟩
 ·rintro n0 d g S X ⟨⟨a1,a2,a3,a4,a5,a6,a7,a8,a9,F,I,H,J,C,rfl⟩,hS⟩
  obtain⟨rfl,_⟩:=mD X
  apply aY ?_
  apply GN hS λpa pb=> ?_
  have K:Ex S.length (S++ [mi pa pb 0]) (S++ [mi pa pb 0]):=Ex.refl bh
  have c5:(S++ [mi pa pb 0])[0]?=some (.frz (ns.map D.int)):=cb hS
  have h0:0≠S.length:=by
   have:=(gQs.mp hS).1
   omega
  show Fn fJ [.ref S.length] (S++ [mi pa pb 0]) _
  generalize S.length=kp at K h0⊢
  generalize S++ [mi pa pb 0]=S1 at K c5⊢
  have d9:=K.lt
  refine BB K λsh hs A M e3=> ?_
  have ok:=M.ok
  have l4:=M.l4
  have l0:=M.l0
  have e1:=e3.lt
  have d7:=e3.len
  symm
  apply aw rfl ?_
  have b6:(hs.map dD).length=hs.length:=lQm ..
  refine CI (vE (jv (w5 (jn (cO (aB rfl (gV (aw rfl (dX ?_)))))))))
  refine⟨λj g B b0=>(∃a b,g= [a,b])/\b0=(List.range j).map (λi=>D.ref (A.length+i))/\B.length=A.length+j/\Ex kp S1 B/\∀i f t,hs[i]?=some (f,t)->i<j->B[A.length+i]?=some (.dct (du (f.map (·.1)) (f.map λq=>(q.2:Int)))),⟨⟨_,_,rfl⟩,rfl,rfl,e3,λi f t _ h=>by omega⟩,λ_ _ _ _ _=>trivial,?_,?_⟩
  ·rintro j d g B b0 X ⟨⟨a,b,rfl⟩,rfl,hl,ex,hc⟩
   have X:(hs.map dD)[j]?=some d:=X
   rw[gQm] at X
   obtain⟨⟨f,t⟩,w,rfl⟩:=oQm.mp X
   have hj:=(gQs.mp w).1
   obtain⟨b1,b2,b3,b4⟩:=M.h1 _ (mQg w)
   refine eU rfl (ay (aY (ay (aY (bq ?_)))))
   refine nU ?_
   rw[Qhq rfl]
   refine I_ (aB rfl ⟨_,_,rfl,rK f,?_⟩)
   rw[t5 (by simp) b3]
   refine⟨aV (by rw[lQm,QVq];omega),⟨_,_,rfl⟩,?_,by rw[lQa,hl];rfl,ex.app,λi Y Z hi e9=> ?_⟩
   ·rw[List.range_succ,Qzq,hl];rfl
   ·by_cases c:i<j
    ·exact cb (hc i Y Z hi c)
    ·have:i=j:=by omega
     subst this
     rw[w] at hi
     cases hi
     rw[←hl]
     exact bh
  rintro g P b0 ⟨-,rfl,x,e4,hc⟩
  have x:P.length=A.length+(hs.map dD).length:=x
  have hc:∀i f t,hs[i]?=some (f,t)->i<(hs.map dD).length->_:=hc
  show E _ _ P λr S2=>(_/\_/\_/\((List.range (hs.map dD).length).map (λi=>D.ref (A.length+i))).length+_<=_)/\_
  rw[b6] at x hc
  rw[b6]
  refine vE ?_
  dsimp only
  rw[show(List.map dD (mO sh hs).af).length=hs.length from b6]
  symm
  refine I_ (cO (aB rfl (gV (aw (d:=.tup (sh.map nO)) rfl ⟨_,_,rfl,rK sh,?_⟩))))
  rw[t5 (by simp) M.sn]
  symm
  refine⟨by show 1<=_;decide,⟨rfl,rfl,trivial,nQl (aV (by simp;omega))⟩,?_⟩
  apply aS (kq (tW (Gm ?_)))
  refine⟨by show 1<=_;decide,?_⟩
  symm
  apply⟨hs.length,.int 0,rfl,rfl,⟨rfl,trivial,by omega⟩,?_⟩
  refine Dv ok ?_
  dsimp only
  rw[Dl]
  have a0:(yO hs).length=hs.length:=lQm ..
  have er:List.replicate hs.length (D.int 0)=(yO hs).map λp=>eB p.2:=by
   unfold yO
   rw[QPq]
   exact(List.map_const' ..).symm
  rw[er]
  have b1:cR (mO sh hs) 1 (kf (sh.map λq=>(q.2:Int)) (yO hs)):=by rw[←Dl];exact BG ok
  have W:(List.range hs.length).map (λi=>D.ref (A.length+i))++ [D.ref P.length]=(List.range (hs.length+1)).map λi=>D.ref (A.length+i):=by rw[List.range_succ,Qzq,x];rfl
  rw[W]
  have u:∀{j:Nat} {f t y q},hs[j]?=some (f,t)->(yO hs)[j]?=some (y,q)->y=f.map (λq=>(q.2:Int))/\q=0:=λ{j f t y q} U R=>by
   unfold yO at R
   rw[gQm,U] at R
   cases R
   exact⟨rfl,rfl⟩
  generalize b8:(P++ [O.dct (du (sh.map (·.1)) (sh.map λq=>(q.2:Int)))]++ [O.lst ((List.range (hs.length+1)).map λi=>D.ref (A.length+i))]++ [O.lst ((yO hs).map λp=>eB p.2)])=S6
  have c6:eX sh hs A.length (sh.map λq=>(q.2:Int)) (yO hs) S6:=by
   rw[←b8]
   refine⟨a0,lQm ..,λj f t y q U R=> ?_,λj f t y q U R=> ?_,cb (cb ?_),cb ?_,?_⟩
   ·rw[(u U R).1,lQm]
   ·rw[(u U R).1]
    exact cb (cb (cb (hc j f t U (gQs.mp U).1)))
   ·rw[←x];exact bh
   ·have:=bh (S:=P++ [O.dct (du (sh.map (·.1)) (sh.map λq=>(q.2:Int)))]) (o:=O.lst ((List.range (hs.length+1)).map λi=>D.ref (A.length+i)))
    rw[show(P++ [O.dct (du (sh.map (·.1)) (sh.map λq=>(q.2:Int)))]).length=A.length+hs.length+1 by rw[lQa,x];rfl] at this
    exact this
   ·have:=bh (S:=P++ [O.dct (du (sh.map (·.1)) (sh.map λq=>(q.2:Int)))]++ [O.lst ((List.range (hs.length+1)).map λi=>D.ref (A.length+i))]) (o:=O.lst ((yO hs).map λp=>eB p.2))
    rw[show(P++ [O.dct (du (sh.map (·.1)) (sh.map λq=>(q.2:Int)))]++ [O.lst ((List.range (hs.length+1)).map λi=>D.ref (A.length+i))]).length=A.length+hs.length+2 by rw[lQa,lQa,x];rfl] at this
    exact this
  have e6:Ex kp S1 S6:=by rw[←b8];exact e4.app.app.app
  have r1:(P++ [O.dct (du (sh.map (·.1)) (sh.map λq=>(q.2:Int)))]).length=A.length+hs.length+1:=by rw[lQa,x];rfl
  have r2:(P++ [O.dct (du (sh.map (·.1)) (sh.map λq=>(q.2:Int)))]++ [O.lst ((List.range (hs.length+1)).map λi=>D.ref (A.length+i))]).length=A.length+hs.length+2:=by rw[lQa,lQa,x];rfl
  rw[r1,r2]
  clear b8 r1 r2 W hc x e4 er
  have c0:∀v∈sh.map (λq=>(q.2:Int)),0<=v/\v<=9:=λv hv=>by
   obtain⟨p,w,rfl⟩:=Qkq.mp hv
   have:=M.sv p w
   exact⟨by omega,by omega⟩
  have b5:V9 (yO hs):=λp w v hv=>by
   unfold yO at w
   obtain⟨⟨f,t⟩,Q,rfl⟩:=Qkq.mp w
   obtain⟨p,w,rfl⟩:=Qkq.mp hv
   have:=(M.h1 _ Q).2.1 p w
   exact⟨by omega,by omega⟩
  have c1:∀(h q:Nat) (f:List (Str×Nat)) (t:List Rw) (y:List Int),(yO hs)[h]?=some (y,q)->hs[h]?=some (f,t)->q<=t.length:=λh q f t y U R=>by
   rw[(u R U).2];omega
  clear u
  generalize A.length=base at d7 c6 e1⊢
  generalize (sh.map λq=>(q.2:Int))=sv0' at b1 c6 c0⊢
  generalize yO hs=hvs at b1 c6 b5 c1 a0⊢
  clear e3 hS a0
  symm
  refine gK (gV ⟨1,rfl,?_⟩)
  apply oU (xN ?_)
  refine⟨((60:Nat):Int),rfl,by omega,?_⟩
  refine⟨λj g B=>∃(sv:List Int) (hv:List (List Int×Nat)) (L:Int) (a9 F I H J C:Option D),g= [some (.ref 0),some (.int n0),some (.ref kp),some (mO sh hs).d,some (.int hs.length),some (.ref (base+hs.length+1)),some (.ref (base+hs.length+2)),some (kf sv hv).d,some (.int L),a9,F,I,H,J,C]/\eX sh hs base sv hv B/\(∀v∈sv,0<=v/\v<=9)/\V9 hv/\(∀(h q:Nat) (f:List (Str×Nat)) (t:List Rw) (y:List Int),hv[h]?=some (y,q)->hs[h]?=some (f,t)->q<=t.length)/\cR (mO sh hs) (1+j) (kf sv hv)/\Ex kp S1 B,⟨_,_,_,_,_,_,_,_,_,rfl,c6,c0,b5,c1,b1,e6⟩,λ_ _ _ _=>trivial,?_,?_⟩
  ·clear c6 c0 b5 c1 b1 e6
   rintro j d g B X ⟨sv,hv,L,a9,F,I,H,J,C,rfl,c,sv9,v9,hle,xs,ex⟩
   obtain⟨rfl,hj⟩:=mD X
   refine aY ?_
   have lh:=c.lh
   have d0:=Fh (sh:=sh) (sv:=sv) lh hle
   refine aS (kq (tW ?_))
   refine p_ (α:=Nat) (λg=>∃a,g= [a,some (mO sh hs).d,some (.ref (base+hs.length+2))]) eB eB (λh=>decide (((hv[h]?).getD ([],0)).2<((hs[h]?).getD ([],[])).2.length)) ⟨none,rfl⟩ (xN (aB rfl ⟨_,rfl,by omega,List.range hs.length,E6 _,trivial,by rw[QVq];omega,λh Q g e0=> ?_,?_⟩))
   ·obtain⟨a,rfl⟩:=e0
    have Q:=List.mem_range.mp Q
    have N:=gQe (l:=hv) (i:=h) (by omega)
    have w:=gQe Q
    generalize hv[h]=p at N
    obtain⟨y,q⟩:=p
    generalize hs[h]=p at w
    obtain⟨f,t⟩:=p
    refine aY ⟨rfl,⟨_,rfl⟩,?_⟩
    refine eA (cO (cO (aB rfl (aB rfl (dM c.s (d:=eB q) (aO (by rw[gQm,N];rfl)) ?_)))))
    symm
    apply aw rfl ?_
    refine aw (d:=dD (f,t)) (aO (by show(hs.map dD)[h]?=_;rw[gQm,w];rfl)) ?_
    symm
    apply aw (d:=.tup (t.map Rw.d)) rfl ?_
    rw[N,w]
    refine oq ⟨rfl,?_,λ_=> ?_⟩
    ·show decide ((q:Int)<((t.map Rw.d).length:Nat))=decide (q<t.length)
     rw[lQm]
     simp only[Int.ofNat_lt]
    ·exact aB rfl ⟨rfl,rfl⟩
   have eM:(List.range hs.length).filter (λh=>decide (((hv[h]?).getD ([],0)).2<((hs[h]?).getD ([],[])).2.length))=qi hs hv:=by unfold qi;rw[lh]
   rw[eM]
   refine bV (eA (zQ (jn (aB rfl (eP bh ⟨⟨rfl,bh⟩,?_⟩)))))
   refine aH (λcn=> ?_) (λcn=>bC ?_)
   ·have d5:0<(qi hs hv).length:=by
     cases e:qi hs hv with
     |nil=>rw[e] at cn;cases cn
     |cons a l=>simp
    have f1:(qi hs hv).length<=4:=by
     have:=List.length_filter_le (λh:Nat=>decide (((hv[h]?).getD ([],0)).2<((hs[h]?).getD ([],[])).2.length)) (List.range hv.length)
     rw[QVq] at this
     unfold qi
     omega
    have f0:=ex.lt
    symm
    refine Ew (ex.app (G:= [O.lst ((qi hs hv).map eB)])) (by omega) bh d5 (by omega) λh S7 Q e7 e2 l7=> ?_
    have c7:=(c.app (G:= [O.lst ((qi hs hv).map eB)])).ex e2 (by omega)
    have d2:h∈xE (mO sh hs) (kf sv hv):=by rw[d0];exact Q
    unfold qi at Q
    obtain⟨d6,d1⟩:=List.mem_filter.mp Q
    have d4:=List.mem_range.mp d6
    have N:=gQe d4
    have w:=gQe (l:=hs) (i:=h) (by omega)
    generalize hv[h]=p at N
    obtain⟨y,q⟩:=p
    generalize hs[h]=p at w
    obtain⟨f,t⟩:=p
    rw[N,w] at d1
    have d3:q<t.length:=QZq d1
    have hr:=gQe d3
    generalize t[q]=r at hr
    have c3:=mQg w
    have b7:=(M.h2 _ c3).2.2 r (mQg hr)
    have es:=Jd (sh:=sh) (hs:=hs) (sv:=sv) (hv:=hv) w N hr b7
    obtain⟨c4,x'⟩:=E5 ok xs (by omega) d2 (tP N) rfl
    rw[es] at c4 x'
    have c2:∀v∈y,0<=v/\v<=9:=v9 _ (mQg N)
    obtain⟨n1,n2⟩:=KR (hv:=hv) (h:=h) (q:=q) M c3 c.ls.symm (c.lt h f t y q w N) sv9 v9 c2 b7
    symm
    apply tJ M c7 ?_
    refine AN M c7 w N hr sv9 c2 λS8 c8 k8=> ?_
    have e8:=Kp.ex e7 k8 (by omega) d9
    symm
    apply zc (xs.mays ok (by omega)) d2 c4 ?_
    apply tJ M c8 ?_
    refine⟨by show 2<=_;decide,?_⟩
    refine aS (bV (mB (CJ (FJ (gh (aL (aB rfl (aL (aB rfl (bT ?_))))))))))
    refine Au 10 (D0 (kf (m6 sh f sv hv h y q r).1 (m6 sh f sv hv h y q r).2) h (Le sh f sv y r)) (F0 ok x' (by omega)) ?_
    refine yg ?_
    refine aH (λc=>by cases c) (λ_=> ?_)
    refine eA (cO (aB rfl (aB rfl (Hq BN (by omega) ?_))))
    refine aH (λc=>by cases c) (λ_=>bC ?_)
    refine kq (cO (aB rfl (gV (aw (d:=(kf (m6 sh f sv hv h y q r).1 (m6 sh f sv hv h y q r).2).d) rfl ?_))))
    refine⟨_,_,_,_,_,_,_,_,_,rfl,c8,n1,n2,λh' q' Y Z d8 g1 g2=> ?_,x',e8⟩
    rcases B4 b7 d3 g1 with⟨rfl,z⟩|⟨_,z⟩
    ·rw[w] at g2
     cases g2
     exact z
    ·exact hle h' q' Y Z d8 z g2
   ·exact⟨sv,hv,L,_,_,_,_,_,_,rfl,c.app,sv9,v9,hle,xs.mono (by omega),ex.app⟩
  ·rintro g B ⟨sv,hv,L,a9,F,I,H,J,C,rfl,c,sv9,v9,hle,xs,ex⟩
   exact⟨⟨_,_,_,_,_,_,_,_,_,_,_,_,_,_,rfl⟩,ex.keep _ _ h0 c5⟩
 ·rintro g B ⟨⟨a1,a2,a3,a4,a5,a6,a7,a8,a9,F,I,H,J,C,rfl⟩,hS⟩
  symm
  have hl:=(gQs.mp hS).1
  refine fe (S2:= [.frz (ns.map D.int)]) ⟨by show 1<=B.length;omega,λk o hk e=> ?_⟩ ?_ (λk z=>(nomatch z)) rfl rfl
  ·have hk:k<1:=hk
   have:k=0:=by omega
   subst this
   rw[hS] at e
   exact .inl e
  ·cases B with
   |nil=>simp at hl
   | cons a l=>
     simp at hS
     subst hS
     rfl
end W28
open PySem PySem.W PyProof.Rows L2 DL
theorem PySem.Challenge.cw_calledroom_k20_own_rows_holds : PySem.Challenge.rw_calledroom_k20_own_rows.Holds := by
  w_on; o_law; k_head; (case hw => w_witness2)
  k_fill
  refine DL.Jv (l := PySem.Challenge.rw_calledroom_k20_own_rows) (k := 14) rfl rfl ⟨rfl, by decide, by decide⟩ (λw h Y => PySem.W.kIn_of Y) (λw => ?nl) ?F
  case nl => rfl
  case F =>
    intro w mg fa h KX G hmg
    refine' W28.all_mk KX G hmg ?_ ?_ ?_ ?_ ?_ ?_ ?_ ?_ ?_ ?_ ?_ ?_ ?_ ?_ ?_ ?_ ?_ ?_ ?_ ?_ ?_ ?_ ?_ ?_ ?_ ?_ ?_ ?_ ?_ ?_ ?_ ?_ ?_ ?_ ?_ ?_ ?_ ?_ ?_ ?_ ?_ ?_ ?_ ?_ ?_ ?_ ?_ ?_ ?_ ?_ ?_ ?_ ?_ ?_ ?_ ?_ ?_ ?_ ?_ ?_ ?_ ?_ ?_ ?_ ?_ ?_ ?_ ?_ ?_ ?_ ?_ ?_ ?_ ?_ ?_ ?_ ?_ ?_ ?_ ?_ ?_ ?_ ?_ W28.Du
    any_goals first | exact DL.aZ.of (by k_is) (by k_is) (by k_is) (by k_is) | k_is
