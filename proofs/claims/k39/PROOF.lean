import PyProof.Rows.All
import Wide.FinOn
import KE.KEqDict
import KE.KSortTup
import KE.KUnpack
import KE.KDictOf
import KE.KFromBytes
import KE.KIsAll
import PySem.Challenge.RW_calledroom_k39_rooms_held
set_option Elab.async false
set_option linter.all false
set_option maxRecDepth 100000
set_option maxHeartbeats 8000000
namespace PySem.W.Fast
def tw4983376640409259859:True:=⟨⟩
def tw8831838259818808493:True:=⟨⟩
def tw4261050479900894894:True:=⟨⟩
def tw2112407093467019086:True:=⟨⟩
def tw6622302330306368990:True:=⟨⟩
def tw12888124757254552431:True:=⟨⟩
def tw5701119120385659673:True:=⟨⟩
def tw9482528710421005383:True:=⟨⟩
def tw6322361029165678144:True:=⟨⟩
def tw10862855342985127463:True:=⟨⟩
def tw1998482679173251731:True:=⟨⟩
def tw14283898323260722605:True:=⟨⟩
def tw5880325877004496975:True:=⟨⟩
def tw3505902119206029281:True:=⟨⟩
def tw5250638293216040554:True:=⟨⟩
def tw10169782037408842760:True:=⟨⟩
def tw9368048957683401125:True:=⟨⟩
def tw6131104615059292383:True:=⟨⟩
def tw13569430186328692956:True:=⟨⟩
def tw10014049563475859630:True:=⟨⟩
def tw1426720786200036617:True:=⟨⟩
def tw4844677158635791210:True:=⟨⟩
def tw6125905908817168617:True:=⟨⟩
def tw11418258449992145095:True:=⟨⟩
def tw1363522428141123984:True:=⟨⟩
def tw16725519974813726154:True:=⟨⟩
def tw2340855798265885329:True:=⟨⟩
def tw4420483925647632281:True:=⟨⟩
def tw9226260672095034419:True:=⟨⟩
def tw3039018415620005490:True:=⟨⟩
def tw5872022791260452167:True:=⟨⟩
def tw14742621935303305649:True:=⟨⟩
def tw3947641191136420341:True:=⟨⟩
def tw3470996698636013276:True:=⟨⟩
def tw15196982349246643065:True:=⟨⟩
def tw7075742328616773107:True:=⟨⟩
def tw4921512676875753072:True:=⟨⟩
def tw6489747024884055282:True:=⟨⟩
def tw14458438627995973957:True:=⟨⟩
def tw7405195939258028620:True:=⟨⟩
def tw3375562745343975409:True:=⟨⟩
def tw14303836984258268415:True:=⟨⟩
def tw16016096443716722158:True:=⟨⟩
def tw15884682676142346259:True:=⟨⟩
def tw9079060827325199365:True:=⟨⟩
def tw4319650327695992347:True:=⟨⟩
def tw13414398911580344039:True:=⟨⟩
def tw11857194649779012942:True:=⟨⟩
def tw2944129985012580781:True:=⟨⟩
def tw2180761655528998913:True:=⟨⟩
def tw4877970512978153040:True:=⟨⟩
def tw14476957821157307990:True:=⟨⟩
def tw9324057711063404564:True:=⟨⟩
def tw15147656249981420774:True:=⟨⟩
def tw17536683974178024709:True:=⟨⟩
def tw8844488235887356049:True:=⟨⟩
def tw5268848671454146110:True:=⟨⟩
def tw2959971130481833148:True:=⟨⟩
def tw9004864689350940043:True:=⟨⟩
def tw1038036654414453733:True:=⟨⟩
def tw12171443772685802439:True:=⟨⟩
def tw6323825713363371031:True:=⟨⟩
def tw4318837398243407979:True:=⟨⟩
def tw8332810694374687859:True:=⟨⟩
def tw16656043565413981135:True:=⟨⟩
def tw16591081766363684663:True:=⟨⟩
def tw7231781337150497749:True:=⟨⟩
def tw13280865550491428195:True:=⟨⟩
def tw11546586927748192502:True:=⟨⟩
def tw914184080641778909:True:=⟨⟩
def tw7190769736072173207:True:=⟨⟩
def tw16564281056426402668:True:=⟨⟩
def tw7291918513537866171:True:=⟨⟩
def tw14546755764235082276:True:=⟨⟩
def tw4684085238442452027:True:=⟨⟩
def tw15725541691140128208:True:=⟨⟩
def tw13411649009903418817:True:=⟨⟩
def tw9650650964861068120:True:=⟨⟩
def tw6659975721847533011:True:=⟨⟩
def tw9294369448879591801:True:=⟨⟩
def tw2986098613751698993:True:=⟨⟩
def tw15457477330244249568:True:=⟨⟩
def tw806315564309535924:True:=⟨⟩
def tw15112999279327973557:True:=⟨⟩
def tw6590894994228907671:True:=⟨⟩
def tw9097157787010483597:True:=⟨⟩
def tw3790985307998779902:True:=⟨⟩
def tw1028295853300148920:True:=⟨⟩
def tw8769037920560242347:True:=⟨⟩
def tw13064230140534163883:True:=⟨⟩
def tw6103000264040455135:True:=⟨⟩
def tw6564202174324046064:True:=⟨⟩
def tw13505095013162151883:True:=⟨⟩
def tw16206558275290105342:True:=⟨⟩
def tw8569244172463341747:True:=⟨⟩
def tw435072958701929380:True:=⟨⟩
def tw3978222814517412088:True:=⟨⟩
def tw15833291023586274036:True:=⟨⟩
def tw10719628000412146527:True:=⟨⟩
def tw3840490069638636298:True:=⟨⟩
def tw2867288894866887021:True:=⟨⟩
def tw17381683424787622813:True:=⟨⟩
def tw13968435297823864464:True:=⟨⟩
def tw13420405053680170563:True:=⟨⟩
def tw2640275889347452155:True:=⟨⟩
def tw16961285079280538987:True:=⟨⟩
def tw11736601959403249996:True:=⟨⟩
def tw13382533987579498678:True:=⟨⟩
def tw9073702450640399260:True:=⟨⟩
def tw647433212963693202:True:=⟨⟩
def tw16737831744784558253:True:=⟨⟩
def tw9780666329338695262:True:=⟨⟩
def tw4995403889191941425:True:=⟨⟩
def tw14896349242728193917:True:=⟨⟩
def tw6826405674518031550:True:=⟨⟩
def tw14775468491290343317:True:=⟨⟩
def tw16432401225584455307:True:=⟨⟩
def tw11101843175191148614:True:=⟨⟩
def tw11463609369472089110:True:=⟨⟩
def tw4606792201919911765:True:=⟨⟩
def tw9335656687423902237:True:=⟨⟩
def tw14079014365744376079:True:=⟨⟩
def tw15691654175883123718:True:=⟨⟩
def tw12288616983172426719:True:=⟨⟩
def tw16666782030421990175:True:=⟨⟩
def tw16798820232148835408:True:=⟨⟩
def tw12719625449822284245:True:=⟨⟩
def tw1177800646125197096:True:=⟨⟩
def tw1683345239820973278:True:=⟨⟩
def tw7065136841837656633:True:=⟨⟩
def tw17927563059272189280:True:=⟨⟩
def tw10884405110958870812:True:=⟨⟩
def tw5217514481695709095:True:=⟨⟩
def tw267637125454959079:True:=⟨⟩
def tw5570623085243197394:True:=⟨⟩
def tw449860239077636533:True:=⟨⟩
def tw4218961912204311901:True:=⟨⟩
def tw4681349359300377374:True:=⟨⟩
def tw8817930143164397941:True:=⟨⟩
def tw13153518502819056912:True:=⟨⟩
def tw14332744716195983243:True:=⟨⟩
def tw7157668892464046652:True:=⟨⟩
def tw22601710070826541:True:=⟨⟩
def tw4758282523605348023:True:=⟨⟩
def tw15457874866909663688:True:=⟨⟩
def tw7522150529482246070:True:=⟨⟩
def tw16946988846601267862:True:=⟨⟩
def tw16591107213993334058:True:=⟨⟩
def tw5649231390238545254:True:=⟨⟩
def tw7553822945035363177:True:=⟨⟩
def tw11097443176329414887:True:=⟨⟩
def tw1045954507397725373:True:=⟨⟩
def tw8291389272730039899:True:=⟨⟩
def tw14609262686209423416:True:=⟨⟩
def tw3406302184341539841:True:=⟨⟩
def tw7636310242604291782:True:=⟨⟩
def tw8379277996204385772:True:=⟨⟩
def tw12652060680422433028:True:=⟨⟩
def tw17187573123543496385:True:=⟨⟩
def tw18061181711934149458:True:=⟨⟩
def tw6908924366531110217:True:=⟨⟩
def tw16265220031402104082:True:=⟨⟩
def tw6103710279321542056:True:=⟨⟩
def tw11081756065423280478:True:=⟨⟩
def tw15159194971697734790:True:=⟨⟩
def tw8173387972554975310:True:=⟨⟩
def tw7778227157132051919:True:=⟨⟩
def tw12653600940411188240:True:=⟨⟩
def tw271449262979295683:True:=⟨⟩
def tw2837817177630617455:True:=⟨⟩
def tw4128685343851317443:True:=⟨⟩
def tw14343204412809681651:True:=⟨⟩
def tw10363770839977038787:True:=⟨⟩
def tw18149777252024918720:True:=⟨⟩
def tw5625931968597365506:True:=⟨⟩
def tw13048546898001022851:True:=⟨⟩
def tw2831714806192708244:True:=⟨⟩
def tw1704802070084810140:True:=⟨⟩
def tw17502419523783965388:True:=⟨⟩
def tw3634456735493220131:True:=⟨⟩
def tw499196637630446270:True:=⟨⟩
def tw3586257773626725350:True:=⟨⟩
def tw12689497135928459066:True:=⟨⟩
def tw13168955503466882894:True:=⟨⟩
def tw5549489690131214090:True:=⟨⟩
def tw3828285072982040620:True:=⟨⟩
def tw4210891283351238630:True:=⟨⟩
def tw13096649221309208977:True:=⟨⟩
def tw1635282837427183675:True:=⟨⟩
def tw9851444440088917723:True:=⟨⟩
def tw7802533981492022304:True:=⟨⟩
def tw17636176879010026325:True:=⟨⟩
def tw10634233058053272761:True:=⟨⟩
def tw1088714341783118862:True:=⟨⟩
def tw10442423700146114824:True:=⟨⟩
def tw12422931888977005095:True:=⟨⟩
def tw7975609983855060478:True:=⟨⟩
def tw4266813329544578063:True:=⟨⟩
def tw12658639424166368294:True:=⟨⟩
def tw2176632212740906864:True:=⟨⟩
def tw15053851471992435630:True:=⟨⟩
def tw1167292573685766149:True:=⟨⟩
def tw497164353910288734:True:=⟨⟩
def tw6283439382070908383:True:=⟨⟩
def tw13579733984067071094:True:=⟨⟩
def tw10868475266236706752:True:=⟨⟩
def tw11422432268076185403:True:=⟨⟩
def tw3109716218641939957:True:=⟨⟩
def tw1717579557622264053:True:=⟨⟩
def tw11653608984866156952:True:=⟨⟩
def tw346308806451480209:True:=⟨⟩
def tw1467189331670952087:True:=⟨⟩
def tw1209418433231276618:True:=⟨⟩
def tw1632672138245771311:True:=⟨⟩
def tw8520000787829228662:True:=⟨⟩
def tw6541764541789229665:True:=⟨⟩
def tw16219717936635124706:True:=⟨⟩
def tw6269339798701713339:True:=⟨⟩
def tw12413811257870379457:True:=⟨⟩
def tw4134137443999781624:True:=⟨⟩
def tw6185568141624792490:True:=⟨⟩
def tw5521561163793546313:True:=⟨⟩
def tw12084630541739144223:True:=⟨⟩
def tw5702143870585962956:True:=⟨⟩
def tw6069272195486274331:True:=⟨⟩
def tw11002822384033536600:True:=⟨⟩
def tw7734921888064900271:True:=⟨⟩
def tw17984164521824826796:True:=⟨⟩
def tw12676370437629084236:True:=⟨⟩
def tw15655622120562988604:True:=⟨⟩
def tw8382050915310277169:True:=⟨⟩
def tw6202265021638491481:True:=⟨⟩
def tw13496769468748484836:True:=⟨⟩
def tw1562490742058453174:True:=⟨⟩
def tw4326629911913815760:True:=⟨⟩
def tw17450327779362415812:True:=⟨⟩
def tw350469013748600959:True:=⟨⟩
def tw15319120130359348610:True:=⟨⟩
def tw17369751998924824726:True:=⟨⟩
def tw12120728439312606003:True:=⟨⟩
def tw6738053508361994195:True:=⟨⟩
def tw8151587747052258551:True:=⟨⟩
def tw10527433485608408933:True:=⟨⟩
def tw1572147980593440833:True:=⟨⟩
def tw4034680008156290615:True:=⟨⟩
def tw18221597960156768509:True:=⟨⟩
def tw702012008571466887:True:=⟨⟩
def tw6877264724186691221:True:=⟨⟩
def tw3893766170153945232:True:=⟨⟩
def tw926354297336870096:True:=⟨⟩
def tw17558569472950402376:True:=⟨⟩
def tw15362032497928015459:True:=⟨⟩
def tw5815935030955332885:True:=⟨⟩
end PySem.W.Fast
set_option bootstrap.genMatcherCode false
set_option compiler.extract_closed false
noncomputable section
local macro_rules|`(tactic|omega)=>`(tactic|lia)
abbrev gQm:=@List.getElem?_map
abbrev lQm:=@List.length_map
abbrev mQg:=@List.mem_of_getElem?
abbrev oQm:=@Option.map_eq_some_iff
abbrev gQe:=@List.getElem?_eq_getElem
abbrev gQs:=@List.getElem?_eq_some_iff
abbrev lQa:=@List.length_append
abbrev nQl:=@Nat.le_of_lt
abbrev mQa:=@List.mem_append
abbrev Qaq:=@PySem.wpAny_bind
abbrev Qbq:=@Option.bind_some
abbrev Qcq:=@PySem.Heap.get?_push_of_some
abbrev Qdq:=@decide_eq_false
abbrev Qeq:=@decide_eq_true
abbrev Qfq:=@List.mem_singleton
abbrev Qgq:=@PySem.wpAny_pure
abbrev Qhq:=@if_pos
abbrev Qiq:=@PySem.Heap.lt_size
abbrev Qjq:=@List.size_toArray
abbrev Qkq:=@List.mem_map
abbrev Qlq:=@List.getD_eq_getElem?_getD
abbrev Qmq:=@Nat.le_refl
abbrev Qnq:=@List.length_cons
abbrev Qoq:=@List.mem_append_right
abbrev Qpq:=@List.mem_cons_of_mem
abbrev Qqq:=@Nat.lt_of_lt_of_le
abbrev Qrq:=@PySem.Heap.get?_push_size
abbrev Qsq:=@List.mem_cons
abbrev Qtq:=@Bool.false_ne_true
abbrev Quq:=@if_neg
abbrev Qvq:=@List.append_assoc
abbrev Qwq:=@Nat.ne_of_lt
abbrev Qxq:=@List.length_take
abbrev Qyq:=@List.getElem?_set_self
abbrev Qzq:=@List.map_append
abbrev QAq:=@Nat.le_trans
abbrev QBq:=@List.mem_cons_self
abbrev QCq:=@Bool.and_eq_true
abbrev QDq:=@List.map_cons
abbrev QEq:=@List.take_length
abbrev QFq:=@PySem.W.mg_none_of
abbrev QGq:=@List.length_nil
abbrev QHq:=@List.getElem?_append_left
abbrev QIq:=@List.length_replicate
abbrev QJq:=@List.Perm.append_right
abbrev QKq:=@List.getElem?_set_ne
abbrev QLq:=@PySem.wpAny_holding
abbrev QMq:=@PySem.wpAny_field
abbrev QNq:=@List.replicate_succ
abbrev QOq:=@List.mem_flatMap
abbrev QPq:=@List.map_map
abbrev QQq:=@List.getElem?_append_right
abbrev QRq:=@PySem.wpAny_mono
abbrev QSq:=@List.flatMap_cons
abbrev QTq:=@List.mem_or_eq_of_mem_set
abbrev QUq:=@List.all_eq_true
abbrev QVq:=@List.length_range
abbrev QWq:=@List.drop_eq_getElem_cons
abbrev QXq:=@List.not_mem_nil
abbrev QYq:=@List.take_add_one
abbrev QZq:=@of_decide_eq_true
abbrev QaQ:=@of_decide_eq_false
abbrev QbQ:=@List.getElem_of_mem
abbrev QcQ:=@List.mem_of_getLast?
abbrev QdQ:=@Option.some.inj
abbrev QeQ:=@List.of_mem_zip
abbrev QfQ:=@List.getLast?_map
abbrev QgQ:=@PySem.wpAny_ite_false
abbrev QhQ:=@PySem.wpAny_newObj_type
abbrev QiQ:=@PySem.wpAny_callSpecial?_slot
abbrev QjQ:=@List.Sublist.refl
abbrev QkQ:=@List.eq_of_mem_replicate
abbrev QlQ:=@List.map_replicate
namespace L2
open PySem PySem.Spec PyProof.Rows
abbrev Key:=Sum Int Str
def pN:Key->Value->Bool
 |.inl k,v=>Value.isInt k v
 |.inr x,v=>Value.isStrOf x v
def Ky(w:World):Key->Int
 |.inl k=>hashInt k
 |.inr x=>hashStr w x
def dg:∀{k:Key} {v:Value},pN k v=true->(∃i t,k=Sum.inl i/\v=Value.int i t)\/(∃x t,k=Sum.inr x/\v=Value.str x t)
 | .inl i,v,h=>by
   obtain⟨t,e⟩:=Value.isInt_shape (k:=i) (v:=v) h
   exact .inl ⟨i,t,rfl,e⟩
 | .inr x,v,h=>by
   obtain⟨t,e⟩:=Value.isStrOf_shape (x:=x) (v:=v) h
   exact .inr ⟨x,t,rfl,e⟩
def A9(i:Int)(t:Tok):pN (.inl i) (.int i t)=true:=by simp[pN,Value.isInt]
def pz(x:Str)(t:Tok):pN (.inr x) (.str x t)=true:=by simp[pN,Value.isStrOf]
def Hz(a b:Int):decide ((Sum.inl a:Key)=Sum.inl b)=(a==b):=by
 by_cases e:a=b
 ·subst e;simp
 ·have h:¬(Sum.inl a:Key)=Sum.inl b:=λq=>e (Sum.inl.inj q)
  rw[Qdq h]
  exact(beq_eq_false_iff_ne.mpr e).symm
def Hr(a b:Str):decide ((Sum.inr a:Key)=Sum.inr b)=decide (a=b):=by
 by_cases e:a=b
 ·subst e;simp
 ·have h:¬(Sum.inr a:Key)=Sum.inr b:=λq=>e (Sum.inr.inj q)
  rw[Qdq h,Qdq e]
def HG(a:Int)(b:Str):decide ((Sum.inl a:Key)=Sum.inr b)=false:=Qdq (λq=>nomatch q)
def GY(a:Str)(b:Int):decide ((Sum.inr a:Key)=Sum.inl b)=false:=Qdq (λq=>nomatch q)
def bM(prog:Program)(w:World):PySem.KeyKind prog w Key where
 is:=pN
 hash:=Ky w
 inj:=λv a b g f=>by
  rcases dg g with⟨i,t,rfl,rfl⟩|⟨x,t,rfl,rfl⟩
  ·rcases dg f with⟨j,u,rfl,e⟩|⟨y,u,rfl,e⟩
   ·injection e with c _;rw[c]
   ·exact nomatch e
  ·rcases dg f with⟨j,u,rfl,e⟩|⟨y,u,rfl,e⟩
   ·exact nomatch e
   ·injection e with c _;rw[c]
 byValue:=λk v h=>by
  rcases dg h with⟨i,t,rfl,rfl⟩|⟨x,t,rfl,rfl⟩ <;>rfl
 pyHash:=λd h=>by
  rcases dg d with⟨i,t,rfl,rfl⟩|⟨x,t,rfl,rfl⟩
  ·exact wpAny_pyHash_int h
  ·exact wpAny_pyHash_str h
 eqBool:=λl d h=>by
  rcases dg l with⟨i,t,rfl,rfl⟩|⟨x,t,rfl,rfl⟩
  ·rcases dg d with⟨j,u,rfl,rfl⟩|⟨y,u,rfl,rfl⟩
   ·rw[Hz] at h;exact wpAny_eqBool_int h
   ·rw[HG] at h;exact SeqAt.EqAt.int_str i t y u _ _ _ _ h
  ·rcases dg d with⟨j,u,rfl,rfl⟩|⟨y,u,rfl,rfl⟩
   ·rw[GY] at h;exact SeqAt.EqAt.str_int x t j u _ _ _ _ h
   ·rw[Hr] at h;exact wpAny_eqBool_str h
 «strs»:=λk x t v h=>by
  rcases dg h with⟨i,u,rfl,e⟩|⟨y,u,rfl,e⟩
  ·exact nomatch e
  ·injection e with c _
   subst c
   cases v <;>rfl
def xm(prog:Program)(w:World)(i:Int)(t:Tok):(bM prog w).is (.inl i) (.int i t)=true:=A9 i t
def w5(prog:Program)(w:World)(x:Str)(t:Tok):(bM prog w).is (.inr x) (.str x t)=true:=pz x t
inductive V where
 |non|bl (b:Bool)|int (i:Int)|str (x:Str)|byt (b:Array UInt8)|flt (b:UInt64)|ref (a:Addr)|ty (n:String)
 deriving DecidableEq
def RelV:V->Value->Prop
 |.non,u=>u=Value.none
 |.bl b,u=>u=Value.bool b
 |.int i,u=>∃t,u=Value.int i t
 |.str x,u=>∃t,u=Value.str x t
 |.byt b,u=>∃t,u=Value.bytes b t
 |.flt b,u=>∃t,u=Value.float b t
 |.ref a,u=>u=Value.ref a
 |.ty n,u=>u=Value.type n
abbrev bI:List V->List Value->Prop:=Paired RelV
def bI.length{xs:List V}{a:List Value}(r:bI xs a):xs.length=a.length:=Paired.length r
theorem bI.get:∀{xs:List V} {a:List Value} {i:Nat} {x:V},bI xs a->xs[i]?=some x->∃u,a[i]?=some u/\RelV x u
 |_,_,_,_,.nil,e=>by simp at e
 |_,_,0,_,.cons r _,e=>by simp at e;subst e;exact⟨_,rfl,r⟩
 | _,_,i+1,x,.cons _ t,e=>by
   obtain⟨u,b,c⟩:=bI.get (i:=i) (x:=x) t (by simpa using e)
   exact⟨u,by simpa using b,c⟩
theorem bI.set{x:V}{u:Value}(r:RelV x u):∀{xs:List V} {a:List Value} (i:Nat),bI xs a->bI (xs.set i x) (a.set i u)
 |_,_,_,.nil=>.nil
 |_,_,0,.cons _ t=>.cons r t
 |_,_,i+1,.cons q t=>.cons q (bI.set r i t)
theorem bI.append:∀{xs ys:List V} {a ws:List Value},bI xs a->bI ys ws->bI (xs++ys) (a++ws)
 |_,_,_,_,.nil,s=>s
 |_,_,_,_,.cons r t,s=>.cons r (bI.append t s)
theorem bI.take:∀{xs:List V} {a:List Value} (n:Nat),bI xs a->bI (xs.take n) (a.take n)
 |_,_,0,_=>.nil
 |_,_,_+1,.nil=>.nil
 |_,_,n+1,.cons r t=>.cons r (bI.take n t)
theorem bI.drop:∀{xs:List V} {a:List Value} (n:Nat),bI xs a->bI (xs.drop n) (a.drop n)
 |_,_,0,r=>r
 |_,_,_+1,.nil=>.nil
 |_,_,n+1,.cons _ t=>bI.drop n t
def qL:Option V->Option Value->Prop
 |some v,some u=>RelV v u
 |none,none=>True
 |_,_=>False
def KV{a:Type}:List (a×V)->List (a×Value)->Prop:=Paired λ(p:a×V) (q:a×Value)=>p.1=q.1/\RelV p.2 q.2
def kV:Key->V
 |.inl i=>.int i
 |.inr x=>.str x
inductive HO where
 |lst (xs:List V)
 |tup (xs:List V)
 |dK (kvs:List (Key×V))|dT (kvs:List (List Key×V))
 |set (S:Int->Bool) (n:Nat)
 |ins (C dx:Addr) (fs:List (Str×V))
 |own (x:Addr)
 |xd (fs:List (Str×V))
 |met (f x:Addr)
 |rng (lo hi:Int)
 |frz (o:Obj) (u:HO)
 |tbl (ps:Array Value)
 |ext (φ:Heap->Prop)
abbrev Hp:=Addr->Option HO
def upd(H:Hp)(a:Addr)(o:HO):Hp:=λb=>if b=a then some o else H b
def bD{H:Hp}{a:Addr}{o:HO}:upd H a o a=some o:=by unfold upd;rw[Qhq rfl]
def bh{H:Hp}{a b:Addr}{o:HO}(h:b≠a):upd H a o b=H b:=by unfold upd;rw[Quq h]
def Dm{H:Hp}{a b:Addr}{o u:HO}(h:H a=some o)(h':H b=some u)(d:o≠u):a≠b:=by
 intro e;subst e;rw[h] at h';exact d (QdQ h')
def eY{H:Hp}{a b:Addr}{o:HO}(h:H a=some o)(h':H b=none):a≠b:=by
 intro e;subst e;rw[h] at h';cases h'
def sW(h:Heap)(a:Addr)(items:Array Value):Prop:=∃o,h.get? a=some o/\o.cls=.type "tuple" /\o.dict=none/\∃n,o.data=.seq items n
def sW.it{h:Heap}{a:Addr}{items:Array Value}(x:sW h a items):IsTup h a items:=by
 obtain⟨o,e,c,_,d⟩:=x
 exact⟨o,e,c,d⟩
def sW.new(h:Heap)(items:Array Value):sW (h.push {cls:=.type "tuple",data:=.seq items}) h.objs.size items:=⟨_,Qrq _ rfl,rfl,rfl,_,rfl⟩
section
variable(P:Program)(w:World)
def cC(H:Hp)(h:Heap)(a:Addr):HO->Prop
 |.lst d=>d.length<=sizeLine/\∃(b:List Value) (n:Nat),bI d b/\h.get? a=some {cls:=.type "list",data:=.seq b.toArray n}
 |.tup d=>d.length<=sizeLine/\∃b:List Value,bI d b/\sW h a b.toArray
 |.dK c=>c.length<=sizeLine/\(a==sysModules)=false/\∃m,KV c m/\h.DictOf (bM P w) a m
 |.dT c=>c.length<=sizeLine/\(a==sysModules)=false/\∃d:List (List Key×Addr×Value),
   Paired (λ(p:List Key×V) (q:List Key×Addr×Value)=>p.1=q.1/\H q.2.1=some (.tup (p.1.map kV))/\RelV p.2 q.2.2) c d∧
   ∃o l A,h.get? a=some o/\o.ExactDict/\o.data=.dict l A/\l.toList=d.map (entryOfKey (tupleKind (bM P w)))/\(d.map (·.1)).Nodup
 |.set S n=>h.SetOf (intKind P w) a S n
 |.ins C i g=>H i=some (.own a)/\g.length<=1000/\i≠a/\h.get? a=some (PySem.W.instObj C i)∧
   ∃e,h.Ns1 i e/\(∀f,qL (g.lookup f) (e f))/\PySem.Within e (g.map (·.1))
 |.own _=>∃o,h.get? a=some o
 |.xd g=>∃e,h.Ns1 a e/\∀f,qL (g.lookup f) (e f)
 |.rng z y=>∃t u v,h.get? a=some {cls:=.type "range",data:=.fields #[.int z t,.int y u,.int 1 v]}
 |.frz o u=>h.get? a=some o/\cC H h a u
 |.tbl s=>h.get? a=some {cls:=.none,data:=.fields s}
 |.met f x=>h.get? a=some (PySem.W.methodObj (.ref f) (.ref x))
 |.ext j=>j h/\(∃o,h.get? a=some o)/\∀k r:Heap,j k->(∀o,k.get? a=some o->r.get? a=some o)->j r
def m3(H:Hp)(h:Heap):Prop:=∀a o,H a=some o->cC P w H h a o
end
section
variable{P:Program}{w:World}{H H':Hp}{h h':Heap}{a:Addr}{o:HO}
theorem cC.lt(x:cC P w H h a o):a<h.objs.size:=by
 cases o with
 |lst c=>obtain⟨_,_,_,_,e⟩:=x;exact Qiq e
 |tup c=>obtain⟨_,_,_,p⟩:=x;exact p.it.lt
 |dK b=>obtain⟨_,_,_,_,o,_,_,e,_⟩:=x;exact Qiq e
 |dT b=>obtain⟨_,_,_,_,o,_,_,e,_⟩:=x;exact Qiq e
 |set S n=>obtain⟨o,_,_,_,e,_⟩:=x;exact Qiq e
 |ins C k d=>obtain⟨_,_,_,e,_⟩:=x;exact Qiq e
 |own y=>obtain⟨_,e⟩:=x;exact Qiq e
 |xd d=>obtain⟨_,⟨_,_,_,e,_⟩,_⟩:=x;exact Qiq e
 |rng m l=>obtain⟨_,_,_,e⟩:=x;exact Qiq e
 |frz i u=>obtain⟨e,_⟩:=x;exact Qiq e
 |tbl g=>exact Qiq (show h.get? a=some _ from x)
 |met f y=>exact Qiq (show h.get? a=some _ from x)
 |ext j=>obtain⟨_,⟨_,e⟩,_⟩:=x;exact Qiq e
theorem Paired.mapP{α c:Type}{F G:α->c->Prop}:∀{l₁:List α} {l₂:List c},Paired F l₁ l₂->(∀a b,F a b->G a b)->Paired G l₁ l₂
 |_,_,.nil,_=>.nil
 |_,_,.cons r t,f=>.cons (f _ _ r) (Paired.mapP t f)
def cC.stay(x:cC P w H h a o)(k:∀b u,(b=a\/H b=some (.own a))->h.get? b=some u->h'.get? b=some u)
  (L:∀b,H b=some (.own a)->H' b=some (.own a)) (ht:∀b xs,H b=some (.tup xs)->H' b=some (.tup xs)):cC P w H' h' a o:=by
 induction o with
 |lst xs=>obtain⟨z,l,n,r,e⟩:=x;exact⟨z,l,n,r,k _ _ (.inl rfl) e⟩
 |tup xs=>obtain⟨z,l,r,g,e,c⟩:=x;exact⟨z,l,r,g,k _ _ (.inl rfl) e,c⟩
 |dK A=>obtain⟨z,y,I,r,g,i,j,e,c⟩:=x;exact⟨z,y,I,r,g,i,j,k _ _ (.inl rfl) e,c⟩
 | dT A=>
   obtain⟨z,y,xs,r,g,i,j,e,c⟩:=x
   exact⟨z,y,xs,Paired.mapP r λp q z=>⟨z.1,ht _ _ z.2.1,z.2.2⟩,g,i,j,k _ _ (.inl rfl) e,c⟩
 |set S n=>obtain⟨g,i,j,t,e,c⟩:=x;exact⟨g,i,j,t,k _ _ (.inl rfl) e,c⟩
 | ins C Q J=>
   obtain⟨d,z,K,e,s,⟨m,i,j,M,c⟩,r⟩:=x
   exact⟨L _ d,z,K,k _ _ (.inl rfl) e,s,⟨m,i,j,k _ _ (.inr d) M,c⟩,r⟩
 |own y=>obtain⟨g,e⟩:=x;exact⟨g,k _ _ (.inl rfl) e⟩
 |xd J=>obtain⟨s,⟨m,i,j,e,c⟩,r⟩:=x;exact⟨s,⟨m,i,j,k _ _ (.inl rfl) e,c⟩,r⟩
 |rng U R=>obtain⟨t,u,v,e⟩:=x;exact⟨t,u,v,k _ _ (.inl rfl) e⟩
 |frz g u G=>obtain⟨e,q⟩:=x;exact⟨k _ _ (.inl rfl) e,G q⟩
 | tbl B=>
   have e:h.get? a=some {cls:=.none,data:=.fields B}:=x
   show h'.get? a=some {cls:=.none,data:=.fields B}
   exact k a _ (.inl rfl) e
 | met f y=>
   have e:h.get? a=some (PySem.W.methodObj (.ref f) (.ref y)):=x
   show h'.get? a=some (PySem.W.methodObj (.ref f) (.ref y))
   exact k a _ (.inl rfl) e
 |ext N=>obtain⟨p,⟨o,e⟩,F⟩:=x;exact⟨F _ _ p λo q=>k _ _ (.inl rfl) q,⟨o,k _ _ (.inl rfl) e⟩,F⟩
def m3.lt(x:m3 P w H h)(e:H a=some o):a<h.objs.size:=(x a o e).lt
def m3.fresh(x:m3 P w H h)(e:h.objs.size<=a):H a=none:=by
 cases q:H a with
 |none=>rfl
 |some u=>exact absurd (Qqq (x.lt q) e) (Nat.lt_irrefl _)
def m3.kept(x:m3 P w H h)(k:∀b u,h.get? b=some u->h'.get? b=some u):m3 P w H h':=λa o e=>
 (x a o e).stay (λb u _ q=>k b u q) (λ_ q=>q) λ_ _ q=>q
def m3.laid(x:m3 P w H h)(k:∀b u,h.get? b=some u->h'.get? b=some u)(g:h.objs.size<=a)(new:cC P w (upd H a o) h' a o):m3 P w (upd H a o) h':=λb u e=>by
 have f:=x.fresh g
 by_cases d:b=a
 ·subst d;rw[bD] at e;cases e;exact new
 ·rw[bh d] at e
  exact(x b u e).stay (λc v _ q=>k c v q) (λc q=>by rw[bh (eY q f)];exact q) λc i q=>by rw[bh (eY q f)];exact q
end
def Rd(H:Hp)(a:Addr)(u:HO):Prop:=H a=some u\/∃o,H a=some (.frz o u)
def Rd.ok{P:Program}{w:World}{H:Hp}{h:Heap}{a:Addr}{u:HO}(r:Rd H a u)(x:m3 P w H h):cC P w H h a u:=by
 rcases r with r|⟨o,r⟩
 ·exact x a u r
 ·obtain⟨_,q⟩:=x a _ r
  exact q
def Jj:Option HO->Prop
 |some (.lst _)=>True
 |some (.dK _)=>True
 |some (.dT _)=>True
 |some (.set _ _)=>True
 |some (.ins _ _ _)=>True
 |some (.ext _)=>True
 |_=>False
section
variable{P:Program}{w:World}{H:Hp}{h h':Heap}{x e:Addr}{o':HO}
def m3.write(ok:m3 P w H h)(j:Jj (H x))(he:e=x\/H e=some (.own x))(k:∀b u,b≠e->h.get? b=some u->h'.get? b=some u)(m:∃u,h'.get? e=some u)
  (new:cC P w (upd H x o') h' x o'):m3 P w (upd H x o') h':=λb u q=>by
 have d:∀c y,H c=some (.own y)->c≠x:=λc y r z=>by subst z;rw[r] at j;exact j
 have f:∀c i,H c=some (.tup i)->c≠x:=λc i r z=>by subst z;rw[r] at j;exact j
 by_cases l:b=x
 ·subst l;rw[bD] at q;cases q;exact new
 ·rw[bh l] at q
  by_cases a:b=e
  ·have n:H b=some (.own x):=by
    rcases he with z|z
    ·exact absurd (a.trans z) l
    ·rw[a];exact z
   rw[q] at n;cases n
   obtain⟨v,o⟩:=m
   exact⟨v,by rw[a];exact o⟩
  ·refine(ok b u q).stay (λc v g r=>k c v ?_ r) (λc r=>by rw[bh (d c b r)];exact r) λc i r=>by rw[bh (f c i r)];exact r
   rcases g with rfl|g
   ·exact a
   ·rintro rfl
    rcases he with z|z
    ·exact d c b g z
    ·rw[g] at z;cases z;exact l rfl
end
structure Un(fs ex:List Addr)(H H':Hp)(h h':Heap):Prop where
 keep:∀b o,h.get? b=some o->H b=none->b∉fs->b∉ex->h'.get? b=some o
 slot:∀b o,h.get? b=some o->H b=none->b∈fs->b∉ex->∃sl,h'.get? b=some {o with slots:=sl}
 free:∀b o,h.get? b=some o->H b=none->b∉ex->H' b=none
 there:∀b o,h.get? b=some o->b∉ex->∃o',h'.get? b=some o'
 tups:∀b xs,H b=some (.tup xs)->H' b=some (.tup xs)
 frzs:∀b o u,H b=some (.frz o u)->H' b=some (.frz o u)
 tbls:∀b ps,H b=some (.tbl ps)->∃more,H' b=some (.tbl (ps++more))
section
variable{fs fs' ex ex':List Addr}{H H1 H2:Hp}{h h1 h2 h':Heap}{a x e:Addr}{o:HO}
def Un.any(u:Un fs ex H H1 h h1){b:Addr}{c:Obj}(q:h.get? b=some c)(n:H b=none)(f:b∉ex):∃g,h1.get? b=some {c with slots:=g}:=by
 by_cases d:b∈fs
 ·exact u.slot b c q n d f
 ·exact⟨c.slots,u.keep b c q n d f⟩
def Un.kept(k:∀b u,h.get? b=some u->h'.get? b=some u):Un fs ex H H h h':=
 ⟨λb c q _ _ _=>k b c q,λb c q _ _ _=>⟨c.slots,k b c q⟩,λ_ _ _ n _=>n,λb c q _=>⟨c,k b c q⟩,λ_ _ q=>q,λ_ _ _ q=>q,λ_ d q=>⟨#[],by rw[q];simp⟩⟩
def Un.refl:Un fs ex H H h h:=Un.kept λ_ _ q=>q
def Un.laid(k:∀b u,h.get? b=some u->h'.get? b=some u)(f:h.objs.size<=a)(c:H a=none):Un fs ex H (upd H a o) h h' where
 keep:=λb u q _ _ _=>k b u q
 slot:=λb u q _ _ _=>⟨u.slots,k b u q⟩
 free:=λb u q n _=>by rw[bh (Qwq (Qqq (Qiq q) f))];exact n
 there:=λb u q _=>⟨u,k b u q⟩
 tups:=λb d q=>by rw[bh (eY q c)];exact q
 frzs:=λb u d q=>by rw[bh (eY q c)];exact q
 tbls:=λb g q=>⟨#[],by rw[bh (eY q c),q];simp⟩
def Un.write(d:Jj (H x))(he:e=x\/H e=some (.own x))(k:∀b u,b≠e->h.get? b=some u->h'.get? b=some u)(g:∃u,h'.get? e=some u):Un fs ex H (upd H x o) h h':=by
 have j:∀b,H b=none->b≠x:=λb n z=>by subst z;rw[n] at d;exact d
 have i:∀b,H b=none->b≠e:=λb n z=>by
  subst z
  rcases he with r|r
  ·exact j b n r
  ·rw[n] at r;cases r
 have f:∀b u,H b=some u->¬Jj (some u)->b≠x:=λb u q nm z=>by subst z;rw[q] at d;exact nm d
 refine⟨λb u q n _ _=>k b u (i b n) q,λb u q n _ _=>⟨u.slots,k b u (i b n) q⟩,λb u q n _=>by rw[bh (j b n)];exact n,λb u q _=> ?_,
  λb l q=>by rw[bh (f b _ q λz=>z)];exact q,λb u l q=>by rw[bh (f b _ q λz=>z)];exact q,λb m q=>⟨#[],by rw[bh (f b _ q λz=>z),q];simp⟩⟩
 by_cases c:b=e
 ·subst c;exact g
 ·exact⟨u,k b u c q⟩
end
def Kc(h:Heap)(H:Hp):List Addr:=(List.range h.objs.size).filter λa=>(H a).isSome
def wA(h:Heap)(H:Hp):Heap:=PySem.W.hideAll h (Kc h H)
def A1(h:Heap)(H:Hp):(wA h H).objs.size=h.objs.size:=PySem.W.hideAll_size _ _
def CQ{h:Heap}{H:Hp}{b:Addr}{o:Obj}(e:h.get? b=some o)(n:H b=none):(wA h H).get? b=some o:=
 PySem.W.hideAll_get _ e λa=>by
  have q:(H b).isSome=true:=(List.mem_filter.mp a).2
  rw[n] at q;simp at q
def Fo{h:Heap}{H:Hp}{b:Addr}{o:Obj}(e:(wA h H).get? b=some o):h.get? b=some o/\H b=none:=by
 have a:h.get? b=some o:=PySem.W.of_hideAll (Kc h H) e
 refine⟨a,?_⟩
 cases q:H b with
 |none=>rfl
 | some x=>
   have c:b∈Kc h H:=List.mem_filter.mpr ⟨List.mem_range.mpr (Qiq a),by simp[q]⟩
   have z:(wA h H).get? b=none:=PySem.W.hideAll_none (Kc h H) c
   rw[z] at e;cases e
structure Mod(K:PySem.W.Frag)(mg:Str->Option Value)(base:Heap):Prop where
 kin:K.In base
 glob:base.Ns mainGlobals mg
 blt:∃mb,base.Ns builtinsNs mb/\∀x:Str,x≠"__name__" ->mb x=bootBuiltins x
 nolimit:base.NoLimit
structure Cx where
 prog:Program
 w:World
 K:PySem.W.Frag
 mg:Str->Option Value
 base:Heap
 A:Around
 N:List Str
 s₀:Shared
 H₀:Hp
 env:Env
 outer:List Env
 stack:List Env
 ex:List Addr
 fn:Str->Bool
 calm:Bool
 pn:List (Addr×Obj)
 xe:Value->Shared->Prop
def Eb(l:List Env):List Addr:=l.filterMap (·.frame)
abbrev Cx.fs(X:Cx):List Addr:=Eb X.outer
def Gq(a:Scope)(x:Str):Prop:=a.names.lookup x=some .local\/a.names.lookup x=some .cell\/a.names.lookup x=some .free
def Loc(a:Scope)(x:Str):Prop:=a.names.lookup x=some .local\/a.names.lookup x=some .cell
def Look(env:Env)(h:Heap)(m:Str->Option Value)(x:Str)(u:Value):Prop:=
 (env.kindOf x=some .local/\m x=some u)\/((env.kindOf x=some .cell\/env.kindOf x=some .free)/\∃c,env.cells.lookup x=some c/\h.IsCell c (some u))
structure Cx.Ok(X:Cx):Prop where
 mod:Mod X.K X.mg X.base
 kind:X.env.scope.kind=.function
 glob:X.env.globals=mainGlobals
 blt:X.env.builtins=builtinsNs
 above:X.s₀.heap.objs.size<=X.env.locals
 inj:∀x y c,X.env.cells.lookup x=some c->X.env.cells.lookup y=some c->x=y
 has:∀x,(X.env.kindOf x=some .cell\/X.env.kindOf x=some .free)->∃c,X.env.cells.lookup x=some c
 cab:∀x c,X.fn x=true->X.env.cells.lookup x=some c->X.s₀.heap.objs.size<=c
 hd:X.calm=true->X.A.handled=none
 frames:X.A.frames=some X.stack
 stk:X.stack=X.outer\/(X.stack=X.env::X.outer/\X.env.frame=some X.env.locals)
 exf:∀b∈X.ex,b≠X.env.locals/\∀x c,X.env.cells.lookup x=some c->c≠b
 bs:∀b o,X.base.get? b=some o->X.s₀.heap.get? b=some o/\X.H₀ b=none
 bsz:X.base.objs.size<=X.s₀.heap.objs.size
 noex:∀b o,X.base.get? b=some o->b∉X.ex
 exfs:∀b∈X.ex,b∉X.fs
 funs:X.s₀.heap.FunFrames X.base X.outer
 frf:∀b∈X.fs,X.H₀ b=none
structure Inv(X:Cx)(pins:List (Addr×Obj))(σ:List (Option V))(H:Hp)(s:Shared):Prop where
 ok:X.Ok
 os:s.os=X.s₀.os
 bare:AllBare s.gens
 base:Un X.fs X.ex X.H₀ H X.s₀.heap s.heap
 loc:∃m,s.heap.Ns X.env.locals m/\∀(i:Nat) (x:Str) (v:V),X.N[i]?=some x->σ[i]?=some (some v)->Gq X.env.scope x->∃u,RelV v u/\Look X.env s.heap m x u
 cell:∀x c,X.env.cells.lookup x=some c->∃v,s.heap.IsCell c v
 free:H X.env.locals=none
 freeC:∀x c,X.env.cells.lookup x=some c->H c=none
 pin:∀p∈X.pn++pins,s.heap.get? p.1=some p.2/\H p.1=none/\p.1≠X.env.locals/\p.1∉X.fs/\∀v,p.2.data≠.cell v
 hok:m3 X.prog X.w H s.heap
 len:σ.length=X.N.length
section
variable{X:Cx}{pins:List (Addr×Obj)}{σ:List (Option V)}{H H':Hp}{s:Shared}{h':Heap}
def Cx.Ok.nofr(ok:X.Ok){b:Addr}{o:Obj}(e:X.base.get? b=some o):b∉X.fs:=λa=>by
 have:=(ok.funs.mem a).1
 rw[e] at this;cases this
def Inv.bs(I:Inv X pins σ H s):∀b o,X.base.get? b=some o->s.heap.get? b=some o/\H b=none:=λb o e=>
 ⟨I.base.keep b o (I.ok.bs b o e).1 (I.ok.bs b o e).2 (I.ok.nofr e) (I.ok.noex b o e),I.base.free b o (I.ok.bs b o e).1 (I.ok.bs b o e).2 (I.ok.noex b o e)⟩
def Inv.bk(I:Inv X pins σ H s):∀b o,X.base.get? b=some o->s.heap.get? b=some o:=λb o e=>(I.bs b o e).1
def Inv.mod(I:Inv X pins σ H s):Mod X.K X.mg X.base:=I.ok.mod
def Inv.kIn(I:Inv X pins σ H s):X.K.In s.heap:=I.ok.mod.kin.keeps I.bk
def Inv.lt(I:Inv X pins σ H s):X.env.locals<s.heap.objs.size:=let ⟨_,hn,_⟩:=I.loc;hn.lt
def Inv.sz(I:Inv X pins σ H s):X.s₀.heap.objs.size<=s.heap.objs.size:=QAq I.ok.above (nQl I.lt)
def Inv.nofs(I:Inv X pins σ H s){a:Addr}(h:s.heap.objs.size<=a):a∉X.fs:=λb=>by
 obtain⟨_,o,c,_⟩:=I.ok.funs.mem b
 exact absurd (Qqq (Qiq c) (QAq I.sz h)) (Nat.lt_irrefl _)
def Inv.cne(I:Inv X pins σ H s):∀x c,X.env.cells.lookup x=some c->c≠X.env.locals:=λx c e z=>by
 obtain⟨v,o,d,f⟩:=I.cell x c e
 obtain⟨m,⟨g,h,i,a,b,_⟩,_⟩:=I.loc
 rw[z,a] at d;cases d;rw[b] at f;cases f
theorem Inv.funs(I:Inv X pins σ H s):s.heap.FunFrames X.base X.outer:=by
 have d:∀(l:List Env),(∀b∈Eb l,b∈X.fs)->X.s₀.heap.FunFrames X.base l->s.heap.FunFrames X.base l:=by
  intro l
  induction l with
  |nil=>intro _ _;trivial
  | cons m r j=>
    intro g hl
    obtain⟨k,⟨L,o,c,n,p,h⟩,i⟩:=hl
    have a:L∈X.fs:=g L (by unfold Eb;rw[List.filterMap_cons,c];exact QBq)
    obtain⟨q,e⟩:=I.base.slot L o p (I.ok.frf L a) a λz=>I.ok.exfs L z a
    exact⟨k,⟨L,_,c,n,e,h⟩,j (λb f=>g b (by unfold Eb;rw[List.filterMap_cons,c];exact Qpq _ f)) i⟩
 exact d X.outer (λ_ f=>f) I.ok.funs
def Inv.stack(I:Inv X pins σ H s):s.heap.FunFrames X.base X.stack:=by
 rcases I.ok.stk with e|⟨e,a⟩
 ·rw[e];exact I.funs
 ·rw[e]
  obtain⟨m,b,_⟩:=I.loc
  refine .cons (by rw[I.ok.kind];decide) a b ?_ I.funs
  exact Heap.get?_none_of_le (QAq I.ok.bsz I.ok.above)
def Inv.stkSub(I:Inv X pins σ H s):∀b∈Eb X.stack,b∈X.env.locals::X.fs:=λb a=>by
 rcases I.ok.stk with e|⟨e,c⟩
 ·rw[e] at a;exact Qpq _ a
 ·rw[e] at a
  unfold Eb at a
  rw[List.filterMap_cons,c] at a
  exact a
def Inv.stkFree(I:Inv X pins σ H s):∀b∈Eb X.stack,H b=none:=λb a=>by
 rcases Qsq.mp (I.stkSub b a) with e|a
 ·rw[e];exact I.free
 ·obtain⟨_,o,c,_⟩:=I.ok.funs.mem a
  exact I.base.free b o c (I.ok.frf b a) λz=>I.ok.exfs b z a
def Inv.step{g':Array GenState}{t':Nat}{d':Drawn}{ch:List Addr}(I:Inv X pins σ H s)
  (h:∀b∈ch,(b∈X.ex\/X.s₀.heap.objs.size<=b)/\b≠X.env.locals/\(∀x c,X.env.cells.lookup x=some c->c≠b)/\∀p∈X.pn++pins,p.1≠b)
  (keep:∀b o,b≠X.env.locals->b∉X.fs->b∉ch->s.heap.get? b=some o->H b=none->h'.get? b=some o)
  (slot:∀b o,b≠X.env.locals->b∈X.fs->b∉ch->s.heap.get? b=some o->H b=none->∃G,h'.get? b=some {o with slots:=G}) (free:∀b o,b∉ch->s.heap.get? b=some o->H b=none->H' b=none)
  (there:∀b o,b∉ch->s.heap.get? b=some o->∃o',h'.get? b=some o')
  (tups:∀b xs,H b=some (.tup xs)->H' b=some (.tup xs)) (frzs:∀b o u,H b=some (.frz o u)->H' b=some (.frz o u)) (tbls:∀b ps,H b=some (.tbl ps)->∃more,H' b=some (.tbl (ps++more)))
  (ns:∀m,s.heap.Ns X.env.locals m->h'.Ns X.env.locals m) (J:m3 X.prog X.w H' h') (R:AllBare g'):
  Inv X pins σ H' {s with heap:=h',gens:=g',drawn:=d',toks:=t'}:=by
 have B:∀b o,X.s₀.heap.get? b=some o->b≠X.env.locals:=λb o e=>Qwq (Qqq (Qiq e) I.ok.above)
 have j:∀b o,X.s₀.heap.get? b=some o->b∉X.ex->b∉ch:=λb o e a y=>by
  rcases(h b y).1 with z|z
  ·exact a z
  ·exact absurd (Qqq (Qiq e) z) (Nat.lt_irrefl _)
 have f:∀x c,X.env.cells.lookup x=some c->∀v,s.heap.IsCell c v->h'.IsCell c v:=λx c e v Q=>by
  obtain⟨o,A,F⟩:=Q
  have g:c∉ch:=λz=>(h c z).2.2.1 x c e rfl
  by_cases L:c∈X.fs
  ·obtain⟨G,q⟩:=slot c o (I.cne x c e) L g A (I.freeC x c e)
   exact⟨_,q,F⟩
  ·exact⟨o,keep c o (I.cne x c e) L g A (I.freeC x c e),F⟩
 refine⟨I.ok,I.os,R,⟨λb o e n y a=> ?_,λb o e n y a=> ?_,λb o e n a=> ?_,λb o e a=> ?_,λb xs e=>tups b xs (I.base.tups b xs e),λb o xs e=>frzs b o xs (I.base.frzs b o xs e),λb ps e=> ?_⟩,?_,λx c e=> ?_,?_,λx c e=> ?_,λp N=> ?_,J,I.len⟩
 ·exact keep b o (B b o e) y (j b o e a) (I.base.keep b o e n y a) (I.base.free b o e n a)
 ·obtain⟨G,t⟩:=I.base.slot b o e n y a
  obtain⟨K,C⟩:=slot b _ (B b o e) y (j b o e a) t (I.base.free b o e n a)
  exact⟨K,C⟩
 ·obtain⟨o',t⟩:=I.base.there b o e a
  exact free b o' (j b o e a) t (I.base.free b o e n a)
 ·obtain⟨o',t⟩:=I.base.there b o e a
  exact there b o' (j b o e a) t
 ·obtain⟨S,t⟩:=I.base.tbls b ps e
  obtain⟨U,C⟩:=tbls b _ t
  exact⟨S++U,by rw[C,Array.append_assoc]⟩
 ·obtain⟨m,W,hl⟩:=I.loc
  refine⟨m,ns m W,λi x v t C Y=> ?_⟩
  obtain⟨u,r,l⟩:=hl i x v t C Y
  refine⟨u,r,?_⟩
  rcases l with l|⟨k,c,e,z⟩
  ·exact .inl l
  ·exact .inr ⟨k,c,e,f x c e _ z⟩
 ·obtain⟨v,z⟩:=I.cell x c e
  exact⟨v,f x c e v z⟩
 ·obtain⟨m,⟨o,_,_,A,_⟩,_⟩:=I.loc
  exact free _ o (λz=>(h _ z).2.1 rfl) A I.free
 ·obtain⟨v,o,A,F⟩:=I.cell x c e
  exact free c o (λz=>(h c z).2.2.1 x c e rfl) A (I.freeC x c e)
 ·obtain⟨e,n,P,M,d⟩:=I.pin p N
  have g:p.1∉ch:=λz=>(h p.1 z).2.2.2 p N rfl
  exact⟨keep p.1 p.2 P M g e n,free p.1 p.2 g e n,P,M,d⟩
def Inv.un{t':Nat}(I:Inv X pins σ H s)(u:Un X.fs [] H H' s.heap h')(c:m3 X.prog X.w H' h'):Inv X pins σ H' {s with heap:=h',toks:=t'}:=by
 obtain⟨m,⟨o,p,v,h,r⟩,_⟩:=id I.loc
 obtain⟨l,i⟩:=u.any h I.free (by simp)
 exact I.step (g':=s.gens) (d':=s.drawn) (ch:= []) (λ_ z=>nomatch z) (λb o _ g _ e n=>u.keep b o e n g (by simp)) (λb o _ g _ e n=>u.slot b o e n g (by simp)) (λb o _ e n=>u.free b o e n (by simp)) (λb o _ e=>u.there b o e (by simp)) u.tups u.frzs u.tbls (λt k=>by
  obtain⟨q,f,d,a,j⟩:=k
  rw[h] at a;cases a
  exact⟨_,f,d,i,j⟩) c I.bare
def Inv.call{g':Array GenState}{t':Nat}{d':Drawn}{ch:List Addr}(I:Inv X pins σ H s)(u:Un (Eb X.stack) ch H H' s.heap h')(h:m3 X.prog X.w H' h')(l:AllBare g')
  (f:∀b∈ch,(b∈X.ex\/X.s₀.heap.objs.size<=b)/\b≠X.env.locals/\(∀x c,X.env.cells.lookup x=some c->c≠b)/\∀p∈X.pn++pins,p.1≠b):
  Inv X pins σ H' {s with heap:=h',gens:=g',drawn:=d',toks:=t'}:=by
 obtain⟨m,⟨o,A,F,k,r⟩,_⟩:=id I.loc
 obtain⟨y,g⟩:=u.any k I.free λz=>(f _ z).2.1 rfl
 exact I.step (ch:=ch) f (λb o g t a e n=>u.keep b o e n (λz=>(Qsq.mp (I.stkSub b z)).elim g t) a) (λb o _ _ a e n=>u.any e n a) (λb o a e n=>u.free b o e n a) (λb o a e=>u.there b o e a) u.tups u.frzs u.tbls (λC v=>by
  obtain⟨B,j,i,d,q⟩:=v
  rw[k] at d;cases d
  exact⟨_,j,i,g,q⟩) h l
def Inv.turned{t':Nat}{it:Addr}(I:Inv X pins σ H s)(k:∀b o,b≠it->s.heap.get? b=some o->h'.get? b=some o)(l:H it=none)(f:it≠X.env.locals)
  (g:it∈X.ex\/X.s₀.heap.objs.size<=it) (i:∀x c,X.env.cells.lookup x=some c->c≠it) (j:∀p∈X.pn++pins,p.1≠it):Inv X pins σ H {s with heap:=h',toks:=t'}:=by
 have d:∀b u,H b=some u->b≠it:=λb u e z=>by rw[z,l] at e;cases e
 refine I.step (g':=s.gens) (d':=s.drawn) (ch:= [it]) (λb t=> ?_) (λb o _ _ a e _=>k b o (λz=>a (by simp[z])) e) (λb o _ _ a e _=>⟨o.slots,k b o (λz=>a (by simp[z])) e⟩) (λ_ _ _ _ n=>n)
  (λb o a e=>⟨o,k b o (λz=>a (by simp[z])) e⟩) (λ_ _ e=>e) (λ_ _ _ e=>e) (λb B e=>⟨#[],by rw[e];simp⟩) (λm y=> ?_) (λb u e=> ?_) I.bare
 ·have e:b=it:=by simpa using t
  subst e
  exact⟨g,f,i,j⟩
 ·obtain⟨o,h,A,w,r⟩:=y
  exact⟨o,h,A,k _ o (Ne.symm f) w,r⟩
 ·refine(I.hok b u e).stay (λc v a q=>k c v ?_ q) (λ_ q=>q) λ_ _ q=>q
  rcases a with z|z
  ·rw[z];exact d b u e
  ·exact d c _ z
def Inv.tok(I:Inv X pins σ H s)(t:Nat):Inv X pins σ H {s with toks:=t}:=I.un (h':=s.heap) (t':=t) Un.refl I.hok
def Inv.kept{t':Nat}(I:Inv X pins σ H s)(k:∀b u,s.heap.get? b=some u->h'.get? b=some u):Inv X pins σ H {s with heap:=h',toks:=t'}:=I.un (Un.kept k) (I.hok.kept k)
def Inv.laid{a:Addr}{o:HO}{t':Nat}(I:Inv X pins σ H s)(k:∀b u,s.heap.get? b=some u->h'.get? b=some u)(c:s.heap.objs.size<=a)(new:cC X.prog X.w (upd H a o) h' a o):
  Inv X pins σ (upd H a o) {s with heap:=h',toks:=t'}:=I.un (Un.laid k c (I.hok.fresh c)) (I.hok.laid k c new)
def Inv.write{x e:Addr}{o:HO}{t':Nat}(I:Inv X pins σ H s)(c:Jj (H x))(he:e=x\/H e=some (.own x))(k:∀b u,b≠e->s.heap.get? b=some u->h'.get? b=some u)(a:∃u,h'.get? e=some u)
  (new:cC X.prog X.w (upd H x o) h' x o):Inv X pins σ (upd H x o) {s with heap:=h',toks:=t'}:=I.un (Un.write c he k a) (I.hok.write c he k a new)
def Inv.pins_of{a:List (Addr×Obj)}(I:Inv X pins σ H s)(h:∀p∈a,s.heap.get? p.1=some p.2/\H p.1=none/\p.1≠X.env.locals/\p.1∉X.fs/\∀v,p.2.data≠.cell v):Inv X a σ H s:=
 ⟨I.ok,I.os,I.bare,I.base,I.loc,I.cell,I.free,I.freeC,λp b=>(mQa.mp b).elim (λz=>I.pin p (List.mem_append_left _ z)) (h p),I.hok,I.len⟩
def yg{N:List Str}(e:N.Nodup){i j:Nat}{x:Str}(a:N[i]?=some x)(b:N[j]?=some x):i=j:=by
 obtain⟨f,c⟩:=gQs.mp a
 obtain⟨g,d⟩:=gQs.mp b
 exact(List.getElem_inj e).mp (c.trans d.symm)
def BU{M:Model}{A:Around}{E:Value->Shared->Prop}{i:Nat}{x:Str}{v:V}{u:Value}{Q:Unit->Shared->Prop}(I:Inv X pins σ H s)(hN:X.N.Nodup)(hi:X.N[i]?=some x)(B:Loc X.env.scope x)(r:RelV v u)
  (h:∀s',Inv X pins (σ.set i (some v)) H s'->(∃a,Heap.SameBut a s.heap s'.heap/\(a=X.env.locals\/X.env.cells.lookup x=some a))->Q () s') (hf:X.fn x=true\/X.env.scope.names.lookup x=some .local:=by first|exact .inl rfl|exact .inr rfl|assumption):wpAny M A (storeName X.env x u) Q E s:=by
 obtain⟨m,hn,hl⟩:=id I.loc
 have W:(X.env.scope.kind==.class||(X.env.scope.kind==.module&&X.env.locals !=X.env.globals))=false:=by rw[I.ok.kind];rfl
 have G:i<σ.length:=by rw[I.len];exact(gQs.mp hi).1
 have R:=I.cne
 have g:∀{a:Addr} {h':Heap},(∃o,s.heap.get? a=some o/\H a=none)->Heap.SameBut a s.heap h'->m3 X.prog X.w H h':=λ{a h'} ha f b ob e=>by
  obtain⟨_,_,C⟩:=ha
  refine(I.hok b ob e).stay (λc w' t q=>(f.2 c ?_).trans q) (λ_ q=>q) λ_ _ q=>q
  rintro rfl
  rcases t with rfl|t
  ·rw[C] at e;cases e
  ·rw[C] at t;cases t
 rcases B with J|J
 ·refine wpAny_storeName_local J hn (λh' a2 f=> ?_) W
  obtain⟨oL,_,_,a1,_⟩:=id hn
  refine h _ ⟨I.ok,I.os,I.bare,⟨λb o e n P B=> ?_,λb o e n P B=> ?_,I.base.free,λb o e B=> ?_,I.base.tups,I.base.frzs,I.base.tbls⟩,⟨_,a2,λj y v' l F e3=> ?_⟩,λy c e=> ?_,I.free,I.freeC,λp hp=> ?_,g ⟨oL,a1,I.free⟩ f,by simpa using I.len⟩ ⟨_,f,.inl rfl⟩
  ·exact(f.2 b (Qwq (Qqq (Qiq e) I.ok.above))).trans (I.base.keep b o e n P B)
  ·obtain⟨sl,l⟩:=I.base.slot b o e n P B
   exact⟨sl,(f.2 b (Qwq (Qqq (Qiq e) I.ok.above))).trans l⟩
  ·obtain⟨o',l⟩:=I.base.there b o e B
   exact⟨o',(f.2 b (Qwq (Qqq (Qiq e) I.ok.above))).trans l⟩
  ·by_cases L:j=i
   ·subst L
    rw[hi] at l;cases l
    rw[Qyq G] at F
    cases F
    exact⟨u,r,.inl ⟨J,by simp⟩⟩
   ·rw[QKq (Ne.symm L)] at F
    obtain⟨u',r',q⟩:=hl j y v' l F e3
    refine⟨u',r',?_⟩
    rcases q with⟨k,e⟩|⟨k,c,e,z⟩
    ·refine .inl ⟨k,?_⟩
     have:y≠x:=λe=>L (yg hN l (e▸hi))
     simp[this,e]
    ·exact .inr ⟨k,c,e,z.sameBut f (R y c e)⟩
  ·obtain⟨w',z⟩:=I.cell y c e
   exact⟨w',z.sameBut f (R y c e)⟩
  ·obtain⟨e,n,ne,nf,d⟩:=I.pin p hp
   exact⟨(f.2 p.1 ne).trans e,n,ne,nf,d⟩
 ·have K:X.fn x=true:=by
   rcases hf with z|z
   ·exact z
   ·rw[z] at J;cases J
  obtain⟨c,t⟩:=I.ok.has x (.inl J)
  obtain⟨w',z⟩:=I.cell x c t
  refine wpAny_storeName_cell I.ok.kind J t z (λh' U f=> ?_)
  obtain⟨oc,Z,S⟩:=id z
  refine h {s with heap:=h'} ⟨I.ok,I.os,I.bare,⟨λb o e n P B=> ?_,λb o e n P B=> ?_,I.base.free,λb o e B=> ?_,I.base.tups,I.base.frzs,I.base.tbls⟩,⟨m,hn.sameBut f (Ne.symm (R x c t)),λj y v' l F e3=> ?_⟩,λy c' e=> ?_,I.free,I.freeC,λp hp=> ?_,g ⟨oc,Z,I.freeC x c t⟩ f,by simpa using I.len⟩ ⟨c,f,.inr t⟩
  ·exact(f.2 b (Qwq (Qqq (Qiq e) (I.ok.cab x c K t)))).trans (I.base.keep b o e n P B)
  ·obtain⟨sl,l⟩:=I.base.slot b o e n P B
   exact⟨sl,(f.2 b (Qwq (Qqq (Qiq e) (I.ok.cab x c K t)))).trans l⟩
  ·obtain⟨o',l⟩:=I.base.there b o e B
   exact⟨o',(f.2 b (Qwq (Qqq (Qiq e) (I.ok.cab x c K t)))).trans l⟩
  ·by_cases L:j=i
   ·subst L
    rw[hi] at l;cases l
    rw[Qyq G] at F
    cases F
    exact⟨u,r,.inr ⟨.inl J,c,t,U⟩⟩
   ·rw[QKq (Ne.symm L)] at F
    obtain⟨u',r',q⟩:=hl j y v' l F e3
    refine⟨u',r',?_⟩
    rcases q with q|⟨k,c',e,z'⟩
    ·exact .inl q
    ·refine .inr ⟨k,c',e,z'.sameBut f ?_⟩
     rintro rfl
     exact L (yg hN l (I.ok.inj _ _ _ e t▸hi))
  ·by_cases Y:c'=c
   ·subst Y;exact⟨_,U⟩
   ·obtain⟨w2,z2⟩:=I.cell y c' e
    exact⟨w2,z2.sameBut f Y⟩
  ·obtain⟨e,n,ne,nf,d⟩:=I.pin p hp
   refine⟨(f.2 p.1 ?_).trans e,n,ne,nf,d⟩
   intro q
   rw[q,Z] at e
   have q':oc=p.2:=QdQ e
   exact d w' (by rw[←q'];exact S)
def ng{M:Model}{A:Around}{E:Value->Shared->Prop}{i:Nat}{x:Str}{v:V}{u:Value}{Q:Unit->Shared->Prop}(I:Inv X pins σ H s)(d:X.N.Nodup)(hi:X.N[i]?=some x)(e:Loc X.env.scope x)(r:RelV v u)
  (h:∀a,Inv X pins (σ.set i (some v)) H a->Q () a) (c:X.fn x=true\/X.env.scope.names.lookup x=some .local:=by first|exact .inl rfl|exact .inr rfl|assumption):wpAny M A (storeName X.env x u) Q E s:=
 BU I d hi e r (λa b _=>h a b) c
def Inv.call'{a:Shared}{ch:List Addr}(I:Inv X pins σ H s)(g:a.os=s.os)(u:Un (Eb X.stack) ch H H' s.heap a.heap)(f:m3 X.prog X.w H' a.heap)(i:AllBare a.gens)
  (d:∀b∈ch,(b∈X.ex\/X.s₀.heap.objs.size<=b)/\b≠X.env.locals/\(∀x c,X.env.cells.lookup x=some c->c≠b)/\∀p∈X.pn++pins,p.1≠b):Inv X pins σ H' a:=by
 obtain⟨h',g',d',t',h⟩:=a
 have e:h=s.os:=g
 subst e
 exact I.call (g':=g') (t':=t') (d':=d') u f i d
end
abbrev XK:=Value->Option Addr->Hp->Prop
abbrev St:=List (Option V)
abbrev VK:=V->Hp->Prop
abbrev TE:=St->Hp->VK->Prop
abbrev TT:=St->Hp->(Bool->Hp->Prop)->Prop
abbrev TA:=St->Hp->(List V->Hp->Prop)->Prop
structure Ends where
 nx:St->Hp->Prop
 rt:VK
 bk:St->Hp->Prop:=λ_ _=>False
 ct:St->Hp->Prop:=λ_ _=>False
abbrev TS:=Ends->St->Hp->Prop
def EP(X:Cx)(a:List (Addr×Obj))(d:St)(Q:VK)(u:Value)(c:Shared):Prop:=∃v b,Inv X a d b c/\RelV v u/\Q v b
def TP(X:Cx)(a:List (Addr×Obj))(e:St)(Q:Bool->Hp->Prop)(b:Bool)(d:Shared):Prop:=∃c,Inv X a e c d/\Q b c
def AP(X:Cx)(a:List (Addr×Obj))(e:St)(Q:List V->Hp->Prop)(f:List Value)(d:Shared):Prop:=∃c b,Inv X a e b d/\bI c f/\Q c b
def SP(X:Cx)(b:List (Addr×Obj))(D:Ends)(f:Flow)(d:Shared):Prop:=
 match f with
 |.next=>∃a c,Inv X b a c d/\D.nx a c
 |.brk=>∃a c,Inv X b a c d/\D.bk a c
 |.cont=>∃a c,Inv X b a c d/\D.ct a c
 |.ret u=>∃v a c,Inv X b a c d/\RelV v u/\D.rt v c
def PE(X:Cx)(e:Expr)(t:TE):Prop:=
 ∀(a:List (Addr×Obj)) (s:Shared) (b:St) (H:Hp) (Q:VK),Inv X a b H s->t b H Q->wpAny (model X.prog X.w) X.A (eval e X.env) (EP X a b Q) X.xe s
def PT(X:Cx)(e:Expr)(t:TT):Prop:=
 ∀(a:List (Addr×Obj)) (s:Shared) (b:St) (H:Hp) (Q:Bool->Hp->Prop),Inv X a b H s->t b H Q->wpAny (model X.prog X.w) X.A (isTrue e X.env (eval e X.env)) (TP X a b Q) X.xe s
def PW(X:Cx)(e:Expr)(t:TT):Prop:=
 ∀(b:Sem Value) (a:List (Addr×Obj)) (s:Shared) (c:St) (H:Hp) (Q:Bool->Hp->Prop),Inv X a c H s->t c H Q->wpAny (model X.prog X.w) X.A (isTrue e X.env b) (TP X a c Q) X.xe s
def PW.pt{X:Cx}{e:Expr}{t:TT}(h:PW X e t):PT X e t:=h _
def PA(X:Cx)(d:List Expr)(t:TA):Prop:=
 ∀(c:Pos) (a:List (Addr×Obj)) (s:Shared) (b:St) (H:Hp) (Q:List V->Hp->Prop),Inv X a b H s->t b H Q->wpAny (model X.prog X.w) X.A (spliced (backTo c (starEach d X.env))) (AP X a b Q) X.xe s
def PS(X:Cx)(st:Stmt)(t:TS):Prop:=
 ∀(a:List (Addr×Obj)) (s:Shared) (b:St) (H:Hp) (D:Ends),Inv X a b H s->t D b H->wpAny (model X.prog X.w) X.A (exec st X.env) (SP X a D) X.xe s
def sQ(X:Cx)(st:List Stmt)(t:TS):Prop:=
 ∀(a:List (Addr×Obj)) (s:Shared) (b:St) (H:Hp) (D:Ends),Inv X a b H s->t D b H->wpAny (model X.prog X.w) X.A (execs st X.env) (SP X a D) X.xe s
def c8{α:Type}{t:Sem α}{Q b:α->Shared->Prop}{M:Model}{A:Around}{E:Value->Shared->Prop}{s:Shared}(h:wpAny M A t Q E s)(c:∀a s,Q a s->b a s):wpAny M A t b E s:=QRq h c λ_ _ x=>x
section
variable{X:Cx}
def Hb(i:Nat):TE:=λa H Q=>∃v,a[i]?=some (some v)/\Q v H
def tC(v:V):TE:=λ_ H Q=>Q v H
def Dq{i:Nat}{x:Str}{pos:Pos}(n:X.N[i]?=some x)(p:Gq X.env.scope x)(hd:(x==("__debug__":Str))=false:=by decide)(g:(x==("__classdict__":Str))=false:=by decide):PE X (.Name x pos) (Hb i):=by
 intro f s k H Q I h
 obtain⟨v,e,h⟩:=h
 obtain⟨m,o,hl⟩:=I.loc
 obtain⟨u,r,l⟩:=hl i x v n e p
 have b:EP X f k Q u s:=⟨v,H,I,r,h⟩
 rcases l with⟨d,q⟩|⟨d,c,j,a⟩
 ·exact wpAny_Name (wpAny_loadName_local I.ok.kind d o q b) hd
 ·rcases d with d|d
  ·exact wpAny_Name (wpAny_loadName_cell I.ok.kind d j a b) hd
  ·exact wpAny_Name (wpAny_loadName_free I.ok.kind d j a b g) hd
def G7{i j pos}:PE X (.Constant (.int i) j pos) (tC (.int i)):=λ_ _ _ H _ I h=>wpAny_Constant_int ⟨.int i,H,I.tok _,⟨_,rfl⟩,h⟩
def Jw{b j pos}:PE X (.Constant (.bool b) j pos) (tC (.bl b)):=λ_ _ _ H _ I h=>Constant_bool ⟨.bl b,H,I,rfl,h⟩
def Hq{j pos}:PE X (.Constant .none j pos) (tC .non):=λ_ _ _ H _ I h=>Constant_none ⟨.non,H,I,rfl,h⟩
def G6{x j pos}:PE X (.Constant (.str x) j pos) (tC (.str x)):=λ_ _ _ H _ I h=>Calls.Constant_str ⟨.str x,H,I.tok _,⟨_,rfl⟩,h⟩
def Gl(X:Cx)(x:Str):Prop:=X.env.kindOf x=some .globalImplicit
def vZ{E:Value->Shared->Prop}{a:List (Addr×Obj)}{s:Shared}{c:St}{H:Hp}{x:Str}{u:Value}{pos:Pos}{Q:Value->Shared->Prop}(I:Inv X a c H s)(b:Gl X x)(d:X.mg x=some u)(h:Q u s)
  (hd:(x==("__debug__":Str))=false:=by decide):wpAny (model X.prog X.w) X.A (eval (.Name x pos) X.env) Q E s:=
 Calls.Name_function_global I.ok.kind b (Calls.loadGlobal_global (by rw[I.ok.glob];exact I.mod.glob.keeps I.bk) d h) hd
def kY{E:Value->Shared->Prop}{a:List (Addr×Obj)}{s:Shared}{d:St}{H:Hp}{x:Str}{u:Value}{pos:Pos}{Q:Value->Shared->Prop}(I:Inv X a d H s)(b:Gl X x)(i:X.mg x=none)(g:bootBuiltins x=some u)(h:Q u s)
  (f:x≠"__name__":=by decide) (hd:(x==("__debug__":Str))=false:=by decide):wpAny (model X.prog X.w) X.A (eval (.Name x pos) X.env) Q E s:=by
 obtain⟨j,c,e⟩:=I.mod.blt
 exact Calls.Name_function_global I.ok.kind b (Calls.loadGlobal_builtin (by rw[I.ok.glob];exact I.mod.glob.keeps I.bk) i (by rw[I.ok.blt];exact c.keeps I.bk) ((e x f).trans g) h) hd
def wx{x:Str}{v:V}{u:Value}{pos:Pos}(a:Gl X x)(b:X.mg x=some u)(r:RelV v u)(hd:(x==("__debug__":Str))=false:=by decide):PE X (.Name x pos) (tC v):=
 λ_ _ _ H _ I h=>vZ I a b ⟨v,H,I,r,h⟩ hd
def Fi{x:Str}{v:V}{u:Value}{pos:Pos}(b:Gl X x)(c:X.mg x=none)(a:bootBuiltins x=some u)(r:RelV v u)(d:x≠"__name__":=by decide)(hd:(x==("__debug__":Str))=false:=by decide):PE X (.Name x pos) (tC v):=
 λ_ _ _ H _ I h=>kY I b c a ⟨v,H,I,r,h⟩ d hd
variable{a b:Expr}{ta tb:TE}{pos:Pos}
variable{tA tB':TT}{rest:List Expr}
def KD(t u:TT):TT:=λd H Q=>t d H λc H1=>if c=true then u d H1 Q else Q false H1
def L1(t u:TT):TT:=λd H Q=>t d H λc H1=>if c=true then Q true H1 else u d H1 Q
def K6(t:TT):TT:=λd H Q=>t d H λc H1=>Q (!c) H1
def E5(f:PT X a tA):PW X (.BoolOp .And [a] pos) tA:=by
 intro j d s g H Q I h
 refine isTrue_and (c8 (f d s g H Q I h) λc i e=> ?_)
 cases c with
 |true=>exact isTrue_and_nil e
 |false=>exact e
def Hl(f:PT X a tA):PW X (.BoolOp .Or [a] pos) tA:=by
 intro j d s g H Q I h
 refine isTrue_or (c8 (f d s g H Q I h) λc i e=> ?_)
 cases c with
 |false=>exact isTrue_or_nil e
 |true=>exact e
def HR(i:PT X a tA)(k:PW X (.BoolOp .And (b::rest) pos) tB'):PW X (.BoolOp .And (a::b::rest) pos) (KD tA tB'):=by
 intro m d s g H Q I h
 refine isTrue_and (c8 (i d s g H _ I h) λc l j=> ?_)
 obtain⟨H1,e,f⟩:=j
 cases c with
 |true=>exact k m d l g H1 Q e f
 |false=>exact⟨H1,e,f⟩
def JT(i:PT X a tA)(k:PW X (.BoolOp .Or (b::rest) pos) tB'):PW X (.BoolOp .Or (a::b::rest) pos) (L1 tA tB'):=by
 intro m d s g H Q I h
 refine isTrue_or (c8 (i d s g H _ I h) λc l j=> ?_)
 obtain⟨H1,e,f⟩:=j
 cases c with
 |true=>exact⟨H1,e,f⟩
 |false=>exact k m d l g H1 Q e f
def GC(e:PT X a tA):PT X (.UnaryOp .Not a pos) (K6 tA):=by
 intro d s f H Q I h
 exact isTrue_not (e d s f H (λc H1=>Q (!c) H1) I h)
def Iu(ta tb:TE):TE:=λd H Q=>ta d H λx H1=>∃c,x=.bl c/\if c=true then tb d H1 Q else Q (.bl false) H1
def Ih(ta:TE):TE:=λd H Q=>ta d H λx H1=>∃c,x=.bl c/\Q (.bl (!c)) H1
def G9{op}{t:TE}(h:PE X a t):PE X (.BoolOp op [a] pos) t:=λc s e H Q I d=>BoolOp_one (h c s e H Q I d)
def GO(j:PE X a ta)(m:PE X (.BoolOp .And (b::rest) pos) tb):PE X (.BoolOp .And (a::b::rest) pos) (Iu ta tb):=by
 intro d s f H Q I h
 refine BoolOp_and (c8 (j d s f H _ I h) λv k i=> ?_)
 obtain⟨x,H1,g,l,e⟩:=i
 obtain⟨c,rfl,e⟩:=e
 cases l
 refine wpAny_truthy_bool ?_
 cases c with
 |true=>exact m d k f H1 Q g e
 |false=>exact⟨.bl false,H1,g,rfl,e⟩
def GQ(f:PE X a ta):PE X (.UnaryOp .Not a pos) (Ih ta):=by
 intro d s k H Q I h
 refine UnaryOp_ (c8 (f d s k H _ I h) λv l j=> ?_)
 obtain⟨x,H1,i,g,e⟩:=j
 obtain⟨c,rfl,e⟩:=e
 cases g
 exact not_of (wpAny_truthy_bool ⟨.bl (!c),H1,i,rfl,e⟩)
def L4(t:TT)(ta tb:TE):TE:=λd H Q=>t d H λc H1=>if c=true then ta d H1 Q else tb d H1 Q
def DR{c:Expr}(n:PT X c tA)(k:PE X a ta)(m:PE X b tb):PE X (.IfExp c a b pos) (L4 tA ta tb):=by
 intro e s f H Q I h
 refine wpAny_IfExp (c8 (n e s f H _ I h) λd j l=> ?_)
 obtain⟨H1,g,i⟩:=l
 cases d with
 |true=>exact k e j f H1 Q g i
 |false=>exact m e j f H1 Q g i
end
def jg(K:PySem.W.Frag)(H:Hp)(a:Addr)(xs:List V):Prop:=
 Rd H a (.lst xs)∨
  ∃(o:Obj) (b:Array Value) (n:Nat),K.lookup a=some o/\o.cls=.type "list" /\o.dict=none/\o.data=.seq b n/\b.size<=sizeLine/\bI xs b.toList
def hG(K:PySem.W.Frag)(H:Hp)(a:Addr)(xs:List V):Prop:=
 Rd H a (.tup xs)∨
  ∃(o:Obj) (b:Array Value) (n:Nat),K.lookup a=some o/\o.cls=.type "tuple" /\o.data=.seq b n/\b.size<=sizeLine/\bI xs b.toList
def Km:Value->Option V
 |.none=>some .non
 |.bool b=>some (.bl b)
 |.int i _=>some (.int i)
 |.str x _=>some (.str x)
 |.bytes b _=>some (.byt b)
 |.float b _=>some (.flt b)
 |.ref a=>some (.ref a)
 |.type n=>some (.ty n)
 |_=>none
def RelV.abs{x:V}{u:Value}(r:RelV x u):Km u=some x:=by
 cases x with
 |non=>cases r;rfl
 |bl _=>cases r;rfl
 |int _=>obtain⟨t,rfl⟩:=r;rfl
 |str _=>obtain⟨t,rfl⟩:=r;rfl
 |byt _=>obtain⟨t,rfl⟩:=r;rfl
 |flt _=>obtain⟨t,rfl⟩:=r;rfl
 |ref _=>cases r;rfl
 |ty _=>cases r;rfl
def RelV.inj{x y:V}{u:Value}(r:RelV x u)(q:RelV y u):x=y:=QdQ (r.abs.symm.trans q.abs)
theorem bI.inj:∀{xs ys:List V} {a:List Value},bI xs a->bI ys a->xs=ys
 |_,_,_,.nil,.nil=>rfl
 |_,_,_,.cons r t,.cons r' t'=>by rw[r.inj r',bI.inj t t']
section
variable{X:Cx}{pins:List (Addr×Obj)}{σ:St}{H:Hp}{s:Shared}{a:Addr}{xs ys:List V}
def jg.of{K:PySem.W.Frag}(h:H a=some (.lst xs)):jg K H a xs:=.inl (.inl h)
def hG.of{K:PySem.W.Frag}(h:H a=some (.tup xs)):hG K H a xs:=.inl (.inl h)
def Inv.list(I:Inv X pins σ H s)(h:jg X.K H a xs):∃b:List Value,bI xs b/\PlainL s.heap a b.toArray/\xs.length<=sizeLine:=by
 rcases h with h|⟨o,b,n,c,g,f,d,i,r⟩
 ·obtain⟨z,b,n,r,e⟩:=h.ok I.hok
  exact⟨b,r,⟨_,n,e,rfl,rfl,rfl⟩,z⟩
 ·refine⟨b.toList,r,⟨o,n,I.kIn a o c,g,f,by simpa using d⟩,?_⟩
  have e:=r.length
  simp only[Array.length_toList] at e
  omega
def Inv.tuple(I:Inv X pins σ H s)(h:hG X.K H a xs):∃b:List Value,bI xs b/\IsTup s.heap a b.toArray/\xs.length<=sizeLine:=by
 rcases h with h|⟨o,b,n,c,f,d,g,r⟩
 ·obtain⟨z,b,r,p⟩:=h.ok I.hok
  exact⟨b,r,p.it,z⟩
 ·refine⟨b.toList,r,⟨o,I.kIn a o c,f,n,by simpa using d⟩,?_⟩
  have e:=r.length
  simp only[Array.length_toList] at e
  omega
def Inv.list_inj(I:Inv X pins σ H s)(h:jg X.K H a xs)(h':jg X.K H a ys):xs=ys:=by
 obtain⟨c,r,⟨o,n,e,_,_,d⟩,_⟩:=I.list h
 obtain⟨b,i,⟨k,l,f,_,_,g⟩,_⟩:=I.list h'
 rw[e] at f;cases f
 rw[d] at g
 injection g with j _
 have:c=b:=by simpa using congrArg Array.toList j
 subst this
 exact r.inj i
def Inv.tuple_inj(I:Inv X pins σ H s)(h:hG X.K H a xs)(h':hG X.K H a ys):xs=ys:=by
 obtain⟨c,r,⟨o,e,_,n,d⟩,_⟩:=I.tuple h
 obtain⟨b,i,⟨k,g,_,l,f⟩,_⟩:=I.tuple h'
 rw[e] at g;cases g
 rw[d] at f
 injection f with j _
 have:c=b:=by simpa using congrArg Array.toList j
 subst this
 exact r.inj i
end
abbrev Cx.wish(X:Cx)(E:Value->Shared->Prop):Cx:={X with xe:=E}
abbrev Cx.nox(X:Cx):Cx:=X.wish λ_ _=>False
def Cx.Ok.wish{X:Cx}(ok:X.Ok)(E:Value->Shared->Prop):(X.wish E).Ok:=
 ⟨ok.mod,ok.kind,ok.glob,ok.blt,ok.above,ok.inj,ok.has,ok.cab,ok.hd,ok.frames,ok.stk,ok.exf,ok.bs,ok.bsz,ok.noex,ok.exfs,ok.funs,ok.frf⟩
def Cx.Ok.unwish{X:Cx}{E:Value->Shared->Prop}(ok:(X.wish E).Ok):X.Ok:=
 ⟨ok.mod,ok.kind,ok.glob,ok.blt,ok.above,ok.inj,ok.has,ok.cab,ok.hd,ok.frames,ok.stk,ok.exf,ok.bs,ok.bsz,ok.noex,ok.exfs,ok.funs,ok.frf⟩
section
variable{X:Cx}{pins:List (Addr×Obj)}{σ:St}{H:Hp}{s:Shared}{E:Value->Shared->Prop}
def Inv.wish(I:Inv X pins σ H s)(E:Value->Shared->Prop):Inv (X.wish E) pins σ H s:=⟨I.ok.wish E,I.os,I.bare,I.base,I.loc,I.cell,I.free,I.freeC,I.pin,I.hok,I.len⟩
def Inv.unwish(I:Inv (X.wish E) pins σ H s):Inv X pins σ H s:=⟨I.ok.unwish,I.os,I.bare,I.base,I.loc,I.cell,I.free,I.freeC,I.pin,I.hok,I.len⟩
theorem SP.unwish{D:Ends}{f:Flow}{c:Shared}(h:SP (X.wish E) pins D f c):SP X pins D f c:=by
 cases f with
 |next=>obtain⟨a,b,I,q⟩:=h;exact⟨a,b,I.unwish,q⟩
 |brk=>obtain⟨a,b,I,q⟩:=h;exact⟨a,b,I.unwish,q⟩
 |cont=>obtain⟨a,b,I,q⟩:=h;exact⟨a,b,I.unwish,q⟩
 |ret u=>obtain⟨v,a,b,I,r,q⟩:=h;exact⟨v,a,b,I.unwish,r,q⟩
def sQ.nox{st:List Stmt}{t:TS}(h:sQ X.nox st t):sQ X st t:=λpins s σ H D I a=>
 QRq (h pins s σ H D (I.wish _) a) (λ_ _ q=>q.unwish) λ_ _ z=>False.elim z
end
section
variable{X:Cx}{st:Stmt}{rest:List Stmt}{t u:TS}{e:Expr}{te:TE}{pos:Pos}
def Jg:TS:=λD a H=>D.nx a H
def KA(t u:TS):TS:=λD a H=>t {D with nx:=u D} a H
def EA:sQ X [] Jg:=λ_ _ a H _ I h=>wpAny_execs_nil ⟨a,H,I,h⟩
def Ek(g:PS X st t)(i:sQ X rest u):sQ X (st::rest) (KA t u):=by
 intro a s j H D I h
 refine wpAny_execs_cons (c8 (g a s j H {D with nx:=u D} I h) λf k q=> ?_)
 cases f with
 | next=>
   obtain⟨b,c,d,q⟩:=q
   exact i a k b c D d q
 |ret v=>exact q
 |brk=>exact q
 |cont=>exact q
def E9(b:PS X st t):sQ X [st] t:=by
 intro a s c H D I h
 refine wpAny_execs_cons (c8 (b a s c H D I h) λf d q=> ?_)
 cases f with
 |next=>exact wpAny_execs_nil q
 |ret v=>exact q
 |brk=>exact q
 |cont=>exact q
def Inv.quiet{a:List (Addr×Obj)}{b:St}{H:Hp}{s:Shared}(I:Inv X a b H s):interactive X.env=false:=by simp[interactive,I.ok.kind]
def IV(te:TE):TS:=λD a H=>te a H λ_ H1=>D.nx a H1
def E8(he:PE X e te)(d:swapsWith e none pos.line X.env=pure false:=by rfl):PS X (.Expr e pos) (IV te):=by
 intro a s b H D I h
 exact wpAny_Expr_any (c8 (he a s b H _ I h) λv i ⟨x,H1,c,g,f⟩=>⟨b,H1,c,f⟩) I.quiet d
def Kk(te:TE):TS:=λD a H=>te a H D.rt
def Cb(he:PE X e te):PS X (.Return (some e) pos) (Kk te):=by
 intro a s b H D I h
 exact wpAny_Return_some (c8 (he a s b H _ I h) λv g ⟨x,H1,d,c,f⟩=>⟨x,b,H1,d,c,f⟩)
def Lf(c:TT)(t u:TS):TS:=λD a H=>c a H λb H1=>if b=true then t D a H1 else u D a H1
def Iw{c:Expr}{a b:List Stmt}{i:TT}(o:PT X c i)(n:sQ X a t)(p:sQ X b u):PS X (.If c a b pos) (Lf i t u):=by
 intro f s g H D I h
 refine wpAny_If (c8 (o f s g H _ I h) λd k m=> ?_)
 obtain⟨H1,l,j⟩:=m
 cases d with
 |true=>exact n f k g H1 D l j
 |false=>exact p f k g H1 D l j
def Hd:TS:=λ_ _ _=>False
def Eh:PS X st Hd:=λ_ _ _ _ _ _ h=>h.elim
end
abbrev TG:=V->St->Hp->(St->Hp->Prop)->Prop
abbrev EH:=List V->St->Hp->(St->Hp->Prop)->Prop
def PG(X:Cx)(a:Expr)(t:TG):Prop:=
 ∀ (b:List (Addr×Obj)) (s:Shared) (e:St) (H:Hp) (v:V) (u:Value) (Q:St->Hp->Prop),Inv X b e H s->RelV v u->t v e H Q→
   wpAny (model X.prog X.w) X.A (assign a X.env u) (λ_ f=>∃c d,Inv X b c d f/\Q c d) X.xe s
def Et(X:Cx)(ts:List Expr)(t:EH):Prop:=
 ∀ (a:List (Addr×Obj)) (s:Shared) (d:St) (H:Hp) (e:List V) (f:List Value) (Q:St->Hp->Prop),Inv X a d H s->bI e f->t e d H Q→
   wpAny (model X.prog X.w) X.A (assignInOrder ((assignEach ts X.env).map (·.2)) f) (λ_ g=>∃b c,Inv X a b c g/\Q b c) X.xe s
abbrev G1:=V->V->V->Hp->(Hp->Prop)->Prop
def JC(X:Cx)(t:G1):Prop:=
 ∀ (a:List (Addr×Obj)) (s:Shared) (d:St) (H:Hp) (o i v:V) (e b u:Value) (Q:Hp->Prop),Inv X a d H s->RelV o e->RelV i b->RelV v u->t o i v H Q→
   wpAny (model X.prog X.w) X.A (setItem e b u) (λ_ f=>∃c,Inv X a d c f/\Q c) X.xe s
section
variable{X:Cx}{pos:Pos}
def oh(i:Nat):TG:=λv a H Q=>Q (a.set i (some v)) H
def u9{i:Nat}{x:Str}(d:X.N.Nodup)(hi:X.N[i]?=some x)(e:Loc X.env.scope x)(c:X.fn x=true\/X.env.scope.names.lookup x=some .local:=by first|exact .inl rfl|exact .inr rfl|assumption):PG X (.Name x pos) (oh i):=by
 intro a s g H v u Q I r h
 exact wpAny_assign_Name (ng I d hi e r (λf b=>⟨_,H,b,h⟩) c)
def KP:EH:=λb a H Q=>b= []/\Q a H
def IE(t:TG)(u:EH):EH:=λd c H Q=>∃v r,d=v::r/\t v c H λa b=>u r a b Q
def FT:Et X [] KP:=by
 intro a s b H c d Q I r h
 obtain⟨e,h⟩:=h
 subst e
 cases r
 exact assignInOrder_nil ⟨b,H,I,h⟩
def DK{e:Expr}{b:List Expr}{t:TG}{u:EH}(g:PG X e t)(m:Et X b u)
  (l:(assignEach (e::b) X.env).map (·.2)=assign e X.env::(assignEach b X.env).map (·.2):=by rfl):Et X (e::b) (IE t u):=by
 intro a s i H w q Q I r h
 obtain⟨v,p,j,h⟩:=h
 subst j
 cases r with
 | cons r o=>
   rw[l]
   refine assignInOrder_cons (c8 (g a s i H _ _ _ I r h) λ_ k d=> ?_)
   obtain⟨c,H1,n,f⟩:=d
   exact m a k c H1 _ _ Q n o f
def KE(K:PySem.W.Frag)(n:Nat)(t:EH):TG:=λv c H Q=>∃a b,v=.ref a/\hG K H a b/\b.length=n/\t b c H Q
def Gz{d:List Expr}{k:Nat}{t:EH}{n:Nat}(q:X.calm=true)(h:Et X d t)
  (y:(assignEach d X.env).length=n:=by rfl) (f:(assignEach d X.env).findIdx? (·.1)=none:=by rfl):PG X (.Tuple d k pos) (KE X.K n t):=by
 intro c s i H v u Q I r g
 obtain⟨a,w,p,B,hl,g⟩:=g
 subst p
 cases r
 obtain⟨l,j,x,C⟩:=I.tuple B
 refine assign_Tuple_tuple (I.ok.hd q) x (by simp[y,←hl,j.length]) f λA m=> ?_
 have z:Inv X c i H {s with heap:=A}:=I.kept (t':=s.toks) λb o e=>m b o (Qwq (Qiq e)) e
 exact h c _ i H w _ Q z (by simpa using j) g
def JI(b c:TE)(t:G1):TG:=λv a H Q=>b a H λo H1=>c a H1 λi H2=>t o i v H2 λH3=>Q a H3
def Hg{o i:Expr}{g f:TE}{t:G1}(C:PE X o g)(hi:PE X i f)(p:JC X t)
  (m:∀v,assign (.Subscript o i pos) X.env v=(do
   let b←holding [v] (eval o X.env)
   let c←holding [v,b] (eval i X.env)
   standAt pos
   holding [v,b,c] (setItem b c v)
   release [v,b,c] []):=by intro _;rfl):PG X (.Subscript o i pos) (JI g f t):=by
 intro a s e H v u Q I r h
 rw[m]
 refine Qaq (QLq (c8 (C a s e H _ I h) λb n d=> ?_))
 obtain⟨x,H1,w,z,k⟩:=d
 refine Qaq (QLq (c8 (hi a n e H1 _ w k) λc j d=> ?_))
 obtain⟨y,H2,l,B,A⟩:=d
 refine Qaq (wpAny_standAt (Qaq (QLq (c8 (p a j e H2 x y v b c u _ l z B r A) λ_ G d=> ?_))))
 obtain⟨H3,q,F⟩:=d
 exact wpAny_release ⟨e,H3,q,F⟩
def Bz(b:TE)(g:TG):TS:=λD a H=>b a H λx H1=>g x a H1 D.nx
def G4{b e:Expr}{d:TE}{g:TG}(he:PE X e d)(i:PG X b g)(m:swapsWithSole [b] e pos.line X.env=pure false:=by rfl)(l:swappedStores [b] e X.env=pure none:=by rfl)
  (j:(assignEach [b] X.env).map (·.2)= [assign b X.env]:=by rfl):PS X (.Assign [b] e pos) (Bz d g):=by
 intro a s c H D I h
 refine wpAny_Assign_stores (c8 (he a s c H _ I h) λv k ⟨x,H1,n,o,f⟩=> ?_) m l
 rw[j]
 exact c8 (i a k c H1 x v _ n o f) λ_ p q=>q
def Gw{i:Nat}{x:Str}{e:Expr}{c:TE}{a:Pos}(m:X.N.Nodup)(hi:X.N[i]?=some x)(g:Loc X.env.scope x)(he:PE X e c)(l:swapsWith e (some (.Name x a)) pos.line X.env=pure false:=by rfl)(k:X.fn x=true\/X.env.scope.names.lookup x=some .local:=by first|exact .inl rfl|exact .inr rfl|assumption):
  PS X (.Assign [.Name x a] e pos) (Bz c (oh i)):=by
 intro b s f H D I h
 refine wpAny_Assign_Name (c8 (he b s f H _ I h) λv q ⟨y,H1,n,o,d⟩=> ?_) l
 exact ng n m hi g o (λp j=>⟨_,H1,j,d⟩) k
def Iv(i j:Nat)(b:TA):TS:=λD a H=>b a H λc H1=>∃v w,c= [v,w]/\D.nx ((a.set i (some v)).set j (some w)) H1
def yx{i j:Nat}{x y:Str}{a b:Expr}{B:TA}{n l t:Pos}{kt k2 pt2}(R:X.calm=true)(G:X.N.Nodup)(hi:X.N[i]?=some x)(hj:X.N[j]?=some y)(m:i≠j)
  (z:X.env.scope.names.lookup x=some .local) (F:X.env.scope.names.lookup y=some .local) (M:PA X [a,b] B)
  (S:swappedStores [.Tuple [.Name x n,.Name y l] kt t] (.Tuple [a,b] k2 pt2) X.env=pure (some [x,y]))
  (U:swapsWithSole [.Tuple [.Name x n,.Name y l] kt t] (.Tuple [a,b] k2 pt2) pos.line X.env=pure false:=by rfl):
  PS X (.Assign [.Tuple [.Name x n,.Name y l] kt t] (.Tuple [a,b] k2 pt2) pos) (Iv i j B):=by
 intro c s u H D I h
 rw[exec_Assign_arm]
 refine Qaq (wpAny_standAt ?_)
 rw[U]
 refine Qaq (Qgq ?_)
 rw[Quq (by decide)]
 refine Qaq (Tuple_ (c8 (M _ c s u H _ I h) λK f J=> ?_))
 obtain⟨vs,H1,I1,r1,k⟩:=J
 obtain⟨v,w,Q,k⟩:=k
 subst Q
 obtain⟨d,g,rfl,rv,rw'⟩:∃d g,K= [d,g]/\RelV v d/\RelV w g:=by
  cases r1 with
  | cons p q=>
    cases q with
    | cons Y W=>
      cases W
      exact⟨_,_,rfl,p,Y⟩
 refine QhQ ?_ (by show 2<=_;decide)
 have L:Inv X c u H1 {f with heap:=f.heap.push {cls:=.type "tuple",data:=.seq [d,g].toArray}}:=I1.kept (t':=f.toks) λb o e=>Qcq _ e
 rw[S]
 refine Qaq (Qgq ?_)
 show wpAny (model X.prog X.w) X.A (do rule "assign.swapped-stores";let items←unpackItems (.ref f.heap.objs.size) 2 none;assignInOrder [λv=>bindName X.env y v,λv=>bindName X.env x v] items.reverse;pure Flow.next) _ _ _
 refine Qaq (wpAny_rule (Qaq (unpackItems_tuple (items:= #[d,g]) (I.ok.hd R) (IsTup.new f.heap _) λh' r=> ?_)))
 have Z:=L.kept (h':=h') (t':=f.toks) λb o e=>r b o (Qwq (Qiq e)) e
 show wpAny _ _ (assignInOrder [λv=>bindName X.env y v,λv=>bindName X.env x v] [g,d] >>= λ_=>pure Flow.next) _ _ _
 refine Qaq (assignInOrder_cons (wpAny_bindName (ng Z G hj (.inl F) rw' (λs2 P=> ?_) (.inr F))))
 refine assignInOrder_cons (wpAny_bindName (ng P G hi (.inl z) rv (λs3 C=>assignInOrder_nil (Qgq ?_)) (.inr z)))
 rw[List.set_comm _ _ (Ne.symm m)] at C
 exact⟨_,H1,C,k⟩
end
structure It where
 go:Nat->Hp->Prop
 yld:Nat->Hp->V->Hp->Prop
 stop:Nat->Hp->Prop
def oV(X:Cx)(a:List (Addr×Obj))(H:Hp)(b:Addr):Prop:=
 H b=none/\b≠X.env.locals/\b∉X.fs/\(b∈X.ex\/X.s₀.heap.objs.size<=b)/\(∀x c,X.env.cells.lookup x=some c->c≠b)/\∀p∈X.pn++a,p.1≠b
def Inv.fpOk{X:Cx}{a:List (Addr×Obj)}{h:St}{H f:Hp}{s:Shared}{b:Addr}(I:Inv X a h H s)(d:s.heap.objs.size<=b)(i:f b=none):oV X a f b:=by
 refine⟨i,Nat.ne_of_gt (Qqq I.lt d),I.nofs d,.inr (QAq I.sz d),λx c e z=> ?_,λp g z=> ?_⟩
 ·obtain⟨v,q⟩:=I.cell x c e
  exact absurd (Qqq q.lt (by rw[z];exact d)) (Nat.lt_irrefl _)
 ·exact absurd (Qqq (Qiq (I.pin p g).1) (by rw[z];exact d)) (Nat.lt_irrefl _)
structure Turn(P:Program)(w:World)(K:PySem.W.Frag)(tg:Expr)(J:It)(fp:List Addr)(it:Addr)(tn:Nat->Heap->Prop):Prop where
 mem:it∈fp
 obj:∀i h,tn i h->∀b∈fp,∃o,h.get? b=some o/\∀v,o.data≠.cell v
 keep:∀i h h',tn i h->(∀b∈fp,∀o,h.get? b=some o->h'.get? b=some o)->tn i h'
 item:∀(X:Cx),X.prog=P->X.w=w->X.K=K->X.calm=true->∀(i:Nat) (pins:List (Addr×Obj)) (s:Shared) (σ:St) (H:Hp) (E:Value->Shared->Prop),Inv X pins σ H s->(∀b∈fp,oV X pins H b)->tn i s.heap->J.go i H→
  wpAny (model P w) X.A (pyNext (.ref it)) (λr s1=>∃u,r=some u∧
   wpAny (model P w) X.A (letOwnedTupleGo tg (.ref it) u) (λ_ s2=>∃x H',Inv X pins σ H' s2/\RelV x u/\J.yld i H x H'/\tn (i+1) s2.heap/\∀b∈fp,H' b=none) E s1) E s
 done:∀(X:Cx),X.prog=P->X.w=w->X.K=K->X.calm=true->∀(i:Nat) (pins:List (Addr×Obj)) (s:Shared) (σ:St) (H:Hp) (E:Value->Shared->Prop),Inv X pins σ H s->(∀b∈fp,oV X pins H b)->tn i s.heap->J.stop i H→
  wpAny (model P w) X.A (pyNext (.ref it)) (λr s1=>r=none/\Inv X pins σ H s1) E s
 self:∀(A:Around) (i:Nat) (s:Shared) (Q:Value->Shared->Prop) (E:Value->Shared->Prop),tn i s.heap->Q (.ref it) s->wpAny (model P w) A (pyIter (.ref it)) Q E s
abbrev TI:=St->Hp->(It->Hp->Prop)->Prop
def Lu(X:Cx)(a:List (Addr×Obj))(j:St)(i:Expr)(R:It->Hp->Prop)(d:Value)(e:Shared):Prop:=
 ∃(g:Addr) (h:List Addr) (f:Nat->Heap->Prop) (J:It) (c:Hp),d=.ref g/\Inv X a j c e/\Turn X.prog X.w X.K i J h g f/\f 0 e.heap/\(∀b∈h,oV X a c b)/\R J c
def PI(X:Cx)(d b:Expr)(e:TI):Prop:=
 ∀ (a:List (Addr×Obj)) (s:Shared) (c:St) (H:Hp) (R:It->Hp->Prop),Inv X a c H s->e c H R→
   wpAny (model X.prog X.w) X.A (eval b X.env) (λv f=>wpAny (model X.prog X.w) X.A (pyIter v) (Lu X a c d R) X.xe f) X.xe s
def Cm{M:Model}{A:Around}{E:Value->Shared->Prop}{s:Shared}{b:Expr}{it:Addr}{u:Value}{o:Obj}{n:String}{vs:Array Value}{Q:Unit->Shared->Prop}(c:s.heap.get? it=some o)(d:o.cls=.type n)(hd:o.data=.fields vs)
    (e: ["enumerate","zip","dict_itemiterator","dict_reverseitemiterator","odict_iterator","itertools.zip_longest","itertools.pairwise"].contains n=false) (a:Q () s):wpAny M A (letOwnedTupleGo b (.ref it) u) Q E s:=by
  unfold letOwnedTupleGo
  cases b <;>first
    |exact Qgq a
    |(cases u <;>first
        |exact Qgq a
        |(refine Qaq (wpAny_load c ?_)
          rw[d,hd]
          show wpAny M A (if (["enumerate","zip","dict_itemiterator","dict_reverseitemiterator","odict_iterator","itertools.zip_longest","itertools.pairwise"].contains n&&vs[0]? ==some (rawInt _))=true then _ else _) Q E s
          rw[Quq (by intro h;rw[e,Bool.false_and] at h;cases h)]
          exact Qgq a))
def LK(K:PySem.W.Frag)(a:Addr):It:=
 ⟨λi H=>∃b x,jg K H a b/\b[i]?=some x,λi H x c=>c=H/\∀b,jg K H a b->b[i]?=some x,λi H=>∃b,jg K H a b/\b.length<=i⟩
def LJ(K:PySem.W.Frag)(a:Addr):It:=
 ⟨λi H=>∃b x,hG K H a b/\b[i]?=some x,λi H x c=>c=H/\∀b,hG K H a b->b[i]?=some x,λi H=>∃b,hG K H a b/\b.length<=i⟩
def IQ(lo:Int)(n:Nat):It:=⟨λi _=>i<n,λi H x a=>a=H/\x=.int (lo+i),λi _=>n<=i⟩
def Bq{P:Program}{w:World}{K:PySem.W.Frag}{tg:Expr}(a it:Addr):Turn P w K tg (LK K a) [it] it (λi h=>h.IsListIter it a i) where
 mem:=by simp
 obj:=λi h f b j=>by
  have e:b=it:=by simpa using j
  subst e
  obtain⟨o,e,c,d⟩:=f
  exact⟨o,e,λv z=>by rw[d] at z;cases z⟩
 keep:=λi h n f k=>f.at λo e=>k it (by simp) o e
 item:=by
  intro X J G L R i g s Q H E I m f y
  subst J G L
  obtain⟨Z,x,q,F⟩:=y
  obtain⟨C,B,p,hz⟩:=I.list q
  obtain⟨u,hu,Y⟩:=B.get F
  obtain⟨r,N,U,t,M,A⟩:=m it (by simp)
  refine wpAny_pyNext_list_item f p.isList (x:=u) (by simpa using hu) λn l sb=> ?_
  have I1:Inv X g Q H {s with heap:=n}:=I.turned (t':=s.toks) (λb o j e=>(sb.2 b j).trans e) r N t M A
  obtain⟨o,e,c,d⟩:=id l
  exact⟨u,rfl,Cm (s:={s with heap:=n}) e c d (by decide) ⟨x,H,I1,Y,⟨rfl,λys hy=>by rw[I.list_inj hy q];exact F⟩,l,λb j=>(m b j).1⟩⟩
 done:=by
  intro X J G L R i g s Q H E I m f y
  subst J G L
  obtain⟨Z,q,F⟩:=y
  obtain⟨C,B,p,hz⟩:=I.list q
  obtain⟨r,N,U,t,M,A⟩:=m it (by simp)
  have hl:=B.length
  exact wpAny_pyNext_list_end (I.ok.hd R) f p.isList (by simp;omega) λn S=>⟨rfl,I.turned (t':=s.toks) (λb o j e=>S b o j e) r N t M A⟩
 self:=λ_ _ _ _ _ f h=>wpAny_pyIter_listiter f h
def y6{P:Program}{w:World}{K:PySem.W.Frag}{tg:Expr}(a it:Addr):Turn P w K tg (LJ K a) [it] it (λi h=>h.IsTupleIter it a i) where
 mem:=by simp
 obj:=λi h f b l=>by
  have e:b=it:=by simpa using l
  subst e
  obtain⟨o,e,c,d⟩:=f
  exact⟨o,e,λv z=>by rw[d] at z;cases z⟩
 keep:=λi h q f k=>f.at λo e=>k it (by simp) o e
 item:=by
  intro X J G L R i g s Q H E I n f A
  subst J G L
  obtain⟨Z,x,r,F⟩:=A
  obtain⟨j,C,p,hz⟩:=I.tuple r
  obtain⟨u,hu,Y⟩:=C.get F
  obtain⟨t,N,U,y,M,B⟩:=n it (by simp)
  refine wpAny_pyNext_tuple_item f (show s.heap.IsTuple a j.toArray from p) (x:=u) (by simpa using hu) λq m sb=> ?_
  have I1:Inv X g Q H {s with heap:=q}:=I.turned (t':=s.toks) (λb o l e=>(sb.2 b l).trans e) t N y M B
  obtain⟨o,e,c,d⟩:=id m
  exact⟨u,rfl,Cm (s:={s with heap:=q}) e c d (by decide) ⟨x,H,I1,Y,⟨rfl,λys hy=>by rw[I.tuple_inj hy r];exact F⟩,m,λb l=>(n b l).1⟩⟩
 done:=by
  intro X J G L R i g s Q H E I n f A
  subst J G L
  obtain⟨Z,r,F⟩:=A
  obtain⟨j,C,p,hz⟩:=I.tuple r
  obtain⟨t,N,U,y,M,B⟩:=n it (by simp)
  have hl:=C.length
  exact wpAny_pyNext_tuple_end (I.ok.hd R) f (show s.heap.IsTuple a j.toArray from p) (by simp;omega) λq S=>⟨rfl,I.turned (t':=s.toks) (λb o l e=>S b o l e) t N y M B⟩
 self:=λ_ _ _ _ _ f h=>wpAny_pyIter_tupleiter f h
def zw{P:Program}{w:World}{K:PySem.W.Frag}{R:Expr}(it:Addr)(lo:Int)(n:Nat):Turn P w K R (IQ lo n) [it] it (λi h=>IsRangeIter h it (lo+(i:Nat)*1) ((n:Int)-(i:Nat)) 1) where
 mem:=by simp
 obj:=λi h a b d=>by
  have e:b=it:=by simpa using d
  subst e
  exact⟨_,a,λv z=>by
   have N:Data.fields _=Data.cell v:=z
   cases N⟩
 keep:=λi h j a k=>k it (by simp) _ a
 item:=by
  intro X x u y r i c s C H E I g a p
  subst x u y
  obtain⟨l,B,J,m,A,q⟩:=g it (by simp)
  have W:=Walks.range (prog:=X.prog) (w:=X.w) (I.ok.hd r) it lo 1 n
  refine W.item i s _ _ p a λv j F Q f L=> ?_
  obtain⟨t,rfl⟩:=Q
  have M:Inv X c C H {s with heap:=j,toks:=F}:=I.turned (λb o d e=>L b o (by simpa using d) e) l B m A q
  refine⟨_,rfl,Cm (s:={s with heap:=j,toks:=F}) (n:="range_iterator") f rfl rfl (by decide) ⟨.int (lo+i),H,M,⟨t,?_⟩,⟨rfl,rfl⟩,f,λb d=>(g b d).1⟩⟩
  rw[Int.mul_one]
 done:=by
  intro X x u y r i c s C H E I g a p
  subst x u y
  obtain⟨l,B,J,m,A,q⟩:=g it (by simp)
  exact wpAny_pyNext_range_end (I.ok.hd r) a (by have:n<=i:=p;omega) λj G=>⟨rfl,I.turned (t':=s.toks) (λb o d e=>G b o d e) l B m A q⟩
 self:=λ_ _ _ _ _ a h=>wpAny_pyIter_rangeiter a h
section
variable{X:Cx}{tg:Expr}
def wR{a:List (Addr×Obj)}{c:St}{H:Hp}{s:Shared}{R:It->Hp->Prop}{E:Value->Shared->Prop}{lo hi:Int}{t u v:Tok}{f:Nat}(I:Inv X a c H s)(g: -(2^62)<=lo)(j:lo<2^62)(k: -(2^62)<=hi)(h:hi<2^62)
  (q:R (IQ lo (hi-lo).toNat) H):wpAny (model X.prog X.w) X.A (pyIter (.ref s.heap.objs.size)) (Lu X a c tg R) E {s with heap:=s.heap.push {cls:=.type "range",data:=.fields #[.int lo t,.int hi u,.int 1 v]},toks:=f}:=by
 refine wpAny_pyIter_range (IsRange.new ..) (small_one g j k h) ?_
 have d:Inv X a c H {s with heap:=s.heap.push {cls:=.type "range",data:=.fields #[.int lo t,.int hi u,.int 1 v]},toks:=f}:=I.kept λb o e=>Qcq _ e
 refine⟨(s.heap.push {cls:=.type "range",data:=.fields #[.int lo t,.int hi u,.int 1 v]}).objs.size,[(s.heap.push {cls:=.type "range",data:=.fields #[.int lo t,.int hi u,.int 1 v]}).objs.size],_,_,H,rfl,
  d.kept (t':=f) λb o e=>Qcq _ e,zw _ lo (hi-lo).toNat,?_,λb l=> ?_,q⟩
 ·have i:lo+((0:Nat):Int)*1=lo:=by simp
  have m:(((hi-lo).toNat:Nat):Int)-((0:Nat):Int)=Builtin.Range.rangeSize lo hi 1:=by rw[rangeSize_one];split <;>omega
  show IsRangeIter _ _ (lo+((0:Nat):Int)*1) ((((hi-lo).toNat:Nat):Int)-((0:Nat):Int)) 1
  rw[i,m]
  exact Qrq _ rfl
 ·have e:b=(s.heap.push {cls:=.type "range",data:=.fields #[.int lo t,.int hi u,.int 1 v]}).objs.size:=by simpa using l
  subst e
  exact d.fpOk (Qmq _) (d.hok.fresh (Qmq _))
def JD(a:TA):TI:=λb H R=>a b H λc H1=>∃j:Int,c= [.int j]/\ -(2^62)<=j/\j<2^62/\R (IQ 0 j.toNat) H1
def Jo(a:TA):TI:=λb H R=>a b H λc H1=>∃i j:Int,c= [.int i,.int j]/\(-(2^62)<=i/\i<2^62/\ -(2^62)<=j/\j<2^62)/\R (IQ i (j-i).toNat) H1
def A8{a:Expr}{d:TA}{p pos:Pos}(f:Gl X "range")(u:X.mg "range"=none)(i:PA X [a] d)(k:starEach [a] X.env= [(false,eval a X.env)]:=by rfl):PI X tg (.Call (.Name "range" p) [a] [] pos) (JD d):=by
 intro b s g H R I h
 refine Call_ (kY I f u boot_range (PyProof.Rows.callWith_type1 (c8 (i pos b s g H _ I h) λv w ⟨x,H1,l,m,c⟩=> ?_) k rfl))
 obtain⟨j,e,c,n,q⟩:=c
 subst e
 cases m with
 | cons r o=>
   cases o
   obtain⟨t,rfl⟩:=r
   exact call_range_1 (wR l (by omega) (by omega) c n (by simpa using q))
def BR{a b:Expr}{k:TA}{p pos:Pos}(l:Gl X "range")(z:X.mg "range"=none)(n:PA X [a,b] k)(o:starEach [a,b] X.env= [(false,eval a X.env),(false,eval b X.env)]:=by rfl)(d:starEach [b] X.env= [(false,eval b X.env)]:=by rfl):
  PI X tg (.Call (.Name "range" p) [a,b] [] pos) (Jo k):=by
 intro c s m H R I h
 refine Call_ (kY I l z boot_range (PyProof.Rows.callWith_type1 (c8 (n pos c s m H _ I h) λC F ⟨G,H1,u,v,f⟩=> ?_) (by rw[o,d]) (by rw[d];rfl)))
 obtain⟨i,j,e,⟨f,w,y,A⟩,q⟩:=f
 subst e
 cases v with
 | cons r g=>
   cases g with
   | cons x g=>
     cases g
     obtain⟨t,rfl⟩:=r
     obtain⟨B,rfl⟩:=x
     exact call_range_2 (wR u f w y A q)
def Ku(f:TI)(g:TG)(h:TS):TS:=λD a H=>f a H λJ H1=>∃W:Nat->Nat->St->Hp->Prop,(∃m,W 0 m a H1)/\∀i m a H,W i m a H→
 (J.stop i H/\D.nx a H)\/(J.go i H/\∃N:St->Hp->Prop,(∀b c,N b c->∃e,e<m/\W (i+1) e b c)/\∀x c,J.yld i H x c->g x a c λd H2=>h {D with nx:=N,ct:=N,bk:=D.nx} d H2)
def my(fp:List Addr)(h:Heap):List (Addr×Obj):=fp.filterMap λb=>(h.get? b).map λo=>(b,o)
def dm{fp:List Addr}{h:Heap}{b:Addr}{o:Obj}(a:b∈fp)(e:h.get? b=some o):(b,o)∈my fp h:=List.mem_filterMap.mpr ⟨b,a,by rw[e];rfl⟩
def BB{fp:List Addr}{h:Heap}{p:Addr×Obj}(c:p∈my fp h):p.1∈fp/\h.get? p.1=some p.2:=by
 obtain⟨b,a,e⟩:=List.mem_filterMap.mp c
 cases q:h.get? b with
 |none=>rw[q] at e;cases e
 | some o=>
   rw[q] at e
   have d:(b,o)=p:=QdQ e
   subst d
   exact⟨a,q⟩
def Inv.pinned{a:List (Addr×Obj)}{c:St}{H:Hp}{s:Shared}{fp:List Addr}(I:Inv X a c H s)(i:∀b∈fp,oV X a H b)(l:∀b∈fp,∃o,s.heap.get? b=some o/\∀v,o.data≠.cell v):Inv X (a++my fp s.heap) c H s:=
 I.pins_of λp k=>(mQa.mp k).elim (λz=>I.pin p (Qoq _ z)) λz=>by
  obtain⟨g,e⟩:=BB z
  obtain⟨h,m,j,_⟩:=i p.1 g
  obtain⟨o,f,d⟩:=l p.1 g
  rw[e] at f;cases f
  exact⟨e,h,m,j,d⟩
def Inv.unpinned{a c:List (Addr×Obj)}{b:St}{H:Hp}{s:Shared}(I:Inv X (a++c) b H s):Inv X a b H s:=I.pins_of λp d=>I.pin p (Qoq _ (List.mem_append_left _ d))
def GH{p:Expr}{B:List Stmt}{wi:TI}{g:TG}{tb:TS}{pos:Pos}(S:PassesOwn (model X.prog X.w) X.A X.env X.xe)(hc:X.calm=true)(hi:PI X tg p wi)(hg:PG X tg g)(q:sQ X B tb)
  (hs:∀x,foldedSetIterable p X.env x=pure x:=by intro _;rfl):PS X (.For tg p B [] pos) (Ku wi g tb):=by
 intro a s σ H D I h
 refine wpAny_For (c8 (hi a s σ H _ I h) λv s1 h1=>c8 h1 λa3 s2 h2=> ?_) hs
 obtain⟨it,M,tn,J,H2,e,I2,T,a1,f2,W,⟨m0,w0⟩,R⟩:=h2
 subst e
 have k:∀{z:Hp},(∀b∈M,z b=none)->∀b∈M,oV X a z b:=λhn b q=>⟨hn b q,(f2 b q).2⟩
 refine codeAny_forLoop_any (λn s'=>∃i j z,Inv X a j z s'/\tn i s'.heap/\(∀b∈M,z b=none)/\W i n j z) ?_ m0 ⟨0,σ,H2,I2,a1,λb q=>(f2 b q).1,w0⟩
 rintro n s3 ⟨i,l,H3,I3,P,Q,w3⟩
 rcases R i n l H3 w3 with⟨stop,qn⟩|⟨go,N,hN,K⟩
 ·refine wpAny_passesOwn S (c8 (T.done X rfl rfl rfl hc i a s3 l H3 X.xe I3 (k Q) P stop) λr s4 F=> ?_)
  obtain⟨U,I4⟩:=F
  subst U
  exact wpAny_execs_nil ⟨l,H3,I4,qn⟩
 ·refine wpAny_passesOwn S (c8 (T.item X rfl rfl rfl hc i a s3 l H3 X.xe I3 (k Q) P go) λr s4 F=> ?_)
  obtain⟨u,U,h4⟩:=F
  subst U
  refine wpAny_passesOwn S (c8 h4 λ_ s5 F=> ?_)
  obtain⟨x,H5,I5,r5,y5,G,a2⟩:=F
  have Y:=I5.pinned (k a2) (T.obj _ _ G)
  refine wpAny_passesOwn S (c8 (hg _ s5 l H5 x u _ Y r5 (K x H5 y5)) λ_ s6 F=> ?_)
  obtain⟨Z,H6,I6,q6⟩:=F
  refine wpAny_passesOwn S (c8 (q _ s6 Z H6 _ I6 q6) λf s7 C=> ?_)
  have again:∀{c:St} {t:Hp},Inv X (a++my M s5.heap) c t s7->N c t->∃m,m<n/\∃i j z,Inv X a j z s7/\tn i s7.heap/\(∀b∈M,z b=none)/\W i m j z:=λ{c t} y L=>by
   obtain⟨m',hm,w7⟩:=hN c t L
   refine⟨m',hm,i+1,c,t,y.unpinned,T.keep _ _ _ G λb q o e=>(y.pin (b,o) (Qoq _ (Qoq _ (dm q e)))).1,λb q=> ?_,w7⟩
   obtain⟨o,e,d⟩:=T.obj _ _ G b q
   exact(y.pin (b,o) (Qoq _ (Qoq _ (dm q e)))).2.1
  cases f with
  |next=>obtain⟨c,t,y,L⟩:=C;exact again y L
  |cont=>obtain⟨c,t,y,L⟩:=C;exact again y L
  |brk=>obtain⟨c,t,y,C⟩:=C;exact⟨c,t,y.unpinned,C⟩
  |ret v=>obtain⟨x7,c,t,y,r7,C⟩:=C;exact⟨x7,c,t,y.unpinned,r7,C⟩
end
abbrev R2:=V->V->Hp->VK->Prop
def jO(X:Cx)(f:Value->Value->Sem Value)(r:R2):Prop:=
 ∀ (a:List (Addr×Obj)) (s:Shared) (b:St) (H:Hp) (x y:V) (v u:Value) (Q:VK),Inv X a b H s->RelV x v->RelV y u->r x y H Q→
   wpAny (model X.prog X.w) X.A (f v u) (EP X a b Q) X.xe s
def KM(X:Cx)(f:Value->Sem Value)(r:V->Hp->VK->Prop):Prop:=
 ∀ (a:List (Addr×Obj)) (s:Shared) (b:St) (H:Hp) (x:V) (v:Value) (Q:VK),Inv X a b H s->RelV x v->r x H Q→
   wpAny (model X.prog X.w) X.A (f v) (EP X a b Q) X.xe s
def j_(X:Cx)(f:Value)(r:List V->Hp->VK->Prop):Prop:=
 ∀ (a:List (Addr×Obj)) (s:Shared) (c:St) (H:Hp) (b:List V) (d:List Value) (Q:VK),Inv X a c H s->bI b d->r b H Q→
   wpAny (model X.prog X.w) X.A (call f d) (EP X a c Q) X.xe s
def K8(X:Cx)(r:V->Hp->(Bool->Hp->Prop)->Prop):Prop:=
 ∀ (a:List (Addr×Obj)) (s:Shared) (b:St) (H:Hp) (x:V) (v:Value) (Q:Bool->Hp->Prop),Inv X a b H s->RelV x v->r x H Q→
   wpAny (model X.prog X.w) X.A (truthy v) (TP X a b Q) X.xe s
def Fy(r:R2)(c b:TE):TE:=λa H Q=>c a H λx H1=>b a H1 λy H2=>r x y H2 Q
def L9(r:V->Hp->VK->Prop)(a:TE):TE:=λb H Q=>a b H λx H1=>r x H1 Q
def rI(C:Int->Int->Prop)(g:Int->Int->V):R2:=λx y H Q=>∃i j,x=.int i/\y=.int j/\C i j/\Q (g i j) H
def BP(g:Int->Int->V):R2:=λx y H Q=>∃i j,x=.int i/\y=.int j/\Q (g i j) H
def rU(g:Int->V):V->Hp->VK->Prop:=λx H Q=>∃i,x=.int i/\Q (g i) H
section
variable{X:Cx}{a b c:Expr}{ta tb tc:TE}{pos:Pos}
def GK(n:PE X a ta)(B:PE X b tb){d:List (Addr×Obj)}{s:Shared}{e:St}{H:Hp}{R:V->V->Hp->Prop}(I:Inv X d e H s)
  (h:ta e H λx H1=>tb e H1 λy H2=>R x y H2) {Q:Value->Shared->Prop} {f:Value->Value->Sem Value}
  (o:∀v u j x y H2,Inv X d e H2 j->RelV x v->RelV y u->R x y H2->wpAny (model X.prog X.w) X.A (f v u) Q X.xe j):
  wpAny (model X.prog X.w) X.A (eval a X.env) (λv g=>wpAny (model X.prog X.w) X.A (eval b X.env) (λu i=>wpAny (model X.prog X.w) X.A (f v u) Q X.xe i) X.xe g) X.xe s:=by
 refine c8 (n d s e H _ I h) λv p k=> ?_
 obtain⟨x,H1,q,r,l⟩:=k
 refine c8 (B d p e H1 _ q l) λu j k=> ?_
 obtain⟨y,H2,m,z,t⟩:=k
 exact o v u j x y H2 m r z t
def m5{e:Operator}{r:R2}(l:jO X (binaryOp e) r)(j:PE X a ta)(m:PE X b tb):PE X (.BinOp a e b pos) (Fy r ta tb):=by
 intro d s g H Q I h
 exact wpAny_BinOp (GK j m I h λv u f x y H2 i n k q=>l d f g H2 x y v u Q i n k q)
def Jn{e:UnaryOp}{r:V->Hp->VK->Prop}(k:KM X (unaryOp e) r)(g:PE X a ta):PE X (.UnaryOp e a pos) (L9 r ta):=by
 intro d s f H Q I h
 exact UnaryOp_ (c8 (g d s f H _ I h) λv m ⟨x,H1,j,i,l⟩=>k d m f H1 x v Q j i l)
def J8{f:Value->Value->Sem Value}{C:Int->Int->Prop}{g:Int->Int->Int}
  (d:∀(i j:Int) (t u:Tok) (s:Shared) (Q:Value->Shared->Prop) (E:Value->Shared->Prop),C i j->Q (.int (g i j) s.toks) {s with toks:=s.toks+1}->wpAny (model X.prog X.w) X.A (f (.int i t) (.int j u)) Q E s):
  jO X f (rI C λi j=>.int (g i j)):=by
 intro e s n H x y v u Q I m l h
 obtain⟨i,j,rfl,rfl,hc,q⟩:=h
 obtain⟨t,rfl⟩:=m
 obtain⟨k,rfl⟩:=l
 exact d i j t k s _ _ hc ⟨.int (g i j),H,I.tok _,⟨_,rfl⟩,q⟩
def I0{f:Value->Value->Sem Value}{g:Int->Int->Int}
  (d:∀(i j:Int) (t u:Tok) (s:Shared) (Q:Value->Shared->Prop) (E:Value->Shared->Prop),Q (.int (g i j) s.toks) {s with toks:=s.toks+1}->wpAny (model X.prog X.w) X.A (f (.int i t) (.int j u)) Q E s):
  jO X f (BP λi j=>.int (g i j)):=by
 intro e s n H x y v u Q I m l h
 obtain⟨i,j,rfl,rfl,q⟩:=h
 obtain⟨t,rfl⟩:=m
 obtain⟨k,rfl⟩:=l
 exact d i j t k s _ _ ⟨.int (g i j),H,I.tok _,⟨_,rfl⟩,q⟩
def EY{f:Value->Value->Sem Value}{g:Int->Int->Bool}
  (d:∀(i j:Int) (t u:Tok) (s:Shared) (Q:Value->Shared->Prop) (E:Value->Shared->Prop),Q (.bool (g i j)) s->wpAny (model X.prog X.w) X.A (f (.int i t) (.int j u)) Q E s):
  jO X f (BP λi j=>.bl (g i j)):=by
 intro e s n H x y v u Q I m l h
 obtain⟨i,j,rfl,rfl,q⟩:=h
 obtain⟨t,rfl⟩:=m
 obtain⟨k,rfl⟩:=l
 exact d i j t k s _ _ ⟨.bl (g i j),H,I,rfl,q⟩
def CS(i j:Int):Prop:=0<j/\j<1073741824
def C1(i j:Int):Prop:=0<=j/\j<=1000000/\i.natAbs<2^64
def Fu(i j:Int):Prop:=(-(2^64)<i/\i<2^64)\/(-(2^64)<j/\j<2^64)
def Fu.ok{i j:Int}(h:Fu i j):IntMulOk i j:=by
 rcases h with⟨d,e⟩|⟨d,e⟩
 ·exact .of_left (intBits_le_64 d e)
 ·exact .of_right (intBits_le_64 d e)
def Hh:jO X (binaryOp .Add) (BP λi j=>.int (i+j)):=I0 λ_ _ _ _ _ _ _ q=>add_int q
def GB:jO X (binaryOp .Sub) (BP λi j=>.int (i-j)):=I0 λ_ _ _ _ _ _ _ q=>sub_int q
def ET:jO X (binaryOp .FloorDiv) (rI CS λi j=>.int (i/j)):=J8 λi j _ _ _ _ _ d q=>by
 have e:(0:Int)<j:=d.1
 have f:j<1073741824:=d.2
 exact floordiv_int (by omega) (by rw[Int.fdiv_eq_ediv_of_nonneg i (by omega)];exact q) (.inl (PyProof.noPylong_small (by omega)))
def Hv:jO X (binaryOp .Mod) (rI (λ_ j=>0<j) λi j=>.int (i%j)):=J8 λi j _ _ _ _ _ d q=>by
 have e:(0:Int)<j:=d
 exact mod_int' (by omega) (by rw[Int.fmod_eq_emod_of_nonneg i (by omega)];exact q)
def HB:jO X (binaryOp .Pow) (rI C1 λi j=>.int (i^j.toNat)):=J8 λ_ _ _ _ _ _ _ d q=>pow_int_small d.1 d.2.1 d.2.2 q
def L0{f:Value->Sem Value}{g:Int->Int}
  (d:∀(i:Int) (t:Tok) (s:Shared) (Q:Value->Shared->Prop) (E:Value->Shared->Prop),Q (.int (g i) s.toks) {s with toks:=s.toks+1}->wpAny (model X.prog X.w) X.A (f (.int i t)) Q E s):
  KM X f (rU λi=>.int (g i)):=by
 intro e s k H x v Q I j h
 obtain⟨i,rfl,q⟩:=h
 obtain⟨t,rfl⟩:=j
 exact d i t s _ _ ⟨.int (g i),H,I.tok _,⟨_,rfl⟩,q⟩
def HD:KM X (unaryOp .USub) (rU λi=>.int (-i)):=L0 λ_ _ _ _ _ q=>neg_int q
end
def yu:V->V->Bool
 |.non,.non=>true|.non,.int _=>true|.int _,.non=>true|.non,.bl _=>true|.bl _,.non=>true|.non,.str _=>true|.str _,.non=>true
 |.int _,.int _=>true|.bl _,.bl _=>true|.str _,.str _=>true|.byt _,.byt _=>true
 |.int _,.str _=>true|.str _,.int _=>true|.bl _,.str _=>true|.str _,.bl _=>true
 |_,_=>false
def Lz:R2:=λx y H Q=>yu x y=true/\Q (.bl (decide (x=y))) H
def Ls:R2:=λx y H Q=>yu x y=true/\Q (.bl (!decide (x=y))) H
def AW{i j:Int}:decide (V.int i=V.int j)=(i==j):=by
 rw[Bool.eq_iff_iff]
 simp
def CV{i j:Bool}:decide (V.bl i=V.bl j)=(i==j):=by
 rw[Bool.eq_iff_iff]
 simp
def Ad{i j:Str}:decide (V.str i=V.str j)=(i==j):=by
 rw[Bool.eq_iff_iff]
 simp
def zY{i j:Array UInt8}:decide (V.byt i=V.byt j)=(i.toList==j.toList):=by
 rw[Bool.eq_iff_iff]
 cases i
 cases j
 simp
section
variable{X:Cx}{a b c:Expr}{ta tb tc:TE}{pos:Pos}
def bP{d:List (Addr×Obj)}{g:St}{H:Hp}{s:Shared}{Q:VK}{k f:Bool}(I:Inv X d g H s)(q:Q (.bl k) H)(e:k=f):EP X d g Q (.bool f) s:=by
 subst e
 exact⟨.bl k,H,I,rfl,q⟩
def uC:jO X (compareOp .Eq) Lz:=by
 intro k s l H x y v u Q I g d h
 obtain⟨f,q⟩:=h
 cases x with
 | non=>
   cases g
   cases y with
   |non=>cases d;exact PySem.EqNone.eq_none_none (bP I q (by simp))
   |bl j=>cases d;exact PySem.EqNone.eq_none_bool (bP I q (by simp))
   |int j=>obtain⟨e,rfl⟩:=d;exact PySem.EqNone.eq_none_int (bP I q (by simp))
   |str j=>obtain⟨e,rfl⟩:=d;exact PySem.EqNone.eq_none_str (bP I q (by simp))
   |_=>exact absurd (show false=true from f) Qtq
 | bl i=>
   cases g
   cases y with
   |non=>cases d;exact PySem.EqNone.eq_bool_none (bP I q (by simp))
   |bl j=>cases d;exact eq_bool (bP I q CV)
   |str j=>obtain⟨e,rfl⟩:=d;exact PySem.EqMixed.eq_bool_str (bP I q (by simp))
   |_=>exact absurd (show false=true from f) Qtq
 | int i=>
   obtain⟨t,rfl⟩:=g
   cases y with
   |non=>cases d;exact PySem.EqNone.eq_int_none (bP I q (by simp))
   |int j=>obtain⟨e,rfl⟩:=d;exact eq_int (bP I q AW)
   |str j=>obtain⟨e,rfl⟩:=d;exact PySem.EqMixed.eq_int_str (bP I q (by simp))
   |_=>exact absurd (show false=true from f) Qtq
 | str i=>
   obtain⟨t,rfl⟩:=g
   cases y with
   |non=>cases d;exact PySem.EqNone.eq_str_none (bP I q (by simp))
   |bl j=>cases d;exact PySem.EqMixed.eq_str_bool (bP I q (by simp))
   |int j=>obtain⟨e,rfl⟩:=d;exact PySem.EqMixed.eq_str_int (bP I q (by simp))
   |str j=>obtain⟨e,rfl⟩:=d;exact eq_str (bP I q Ad)
   |_=>exact absurd (show false=true from f) Qtq
 | byt i=>
   obtain⟨t,rfl⟩:=g
   cases y with
   |byt j=>obtain⟨e,rfl⟩:=d;exact PySem.W.eq_bytes (bP I q zY)
   |_=>exact absurd (show false=true from f) Qtq
 |_=>cases y <;>exact absurd (show false=true from f) Qtq
def LA:jO X (compareOp .NotEq) Ls:=by
 intro k s l H x y v u Q I g d h
 obtain⟨f,q⟩:=h
 cases x with
 | non=>
   cases g
   cases y with
   |non=>cases d;exact PySem.EqNone.ne_none_none (bP I q (by simp))
   |bl j=>cases d;exact PySem.EqNone.ne_none_bool (bP I q (by simp))
   |int j=>obtain⟨e,rfl⟩:=d;exact PySem.EqNone.ne_none_int (bP I q (by simp))
   |str j=>obtain⟨e,rfl⟩:=d;exact PySem.EqNone.ne_none_str (bP I q (by simp))
   |_=>exact absurd (show false=true from f) Qtq
 | bl i=>
   cases g
   cases y with
   |non=>cases d;exact PySem.EqNone.ne_bool_none (bP I q (by simp))
   |bl j=>cases d;exact ne_bool (bP I q (congrArg not CV))
   |str j=>obtain⟨e,rfl⟩:=d;exact PySem.EqMixed.ne_bool_str (bP I q (by simp))
   |_=>exact absurd (show false=true from f) Qtq
 | int i=>
   obtain⟨t,rfl⟩:=g
   cases y with
   |non=>cases d;exact PySem.EqNone.ne_int_none (bP I q (by simp))
   |int j=>obtain⟨e,rfl⟩:=d;exact ne_int (bP I q (congrArg not AW))
   |str j=>obtain⟨e,rfl⟩:=d;exact PySem.EqMixed.ne_int_str (bP I q (by simp))
   |_=>exact absurd (show false=true from f) Qtq
 | str i=>
   obtain⟨t,rfl⟩:=g
   cases y with
   |non=>cases d;exact PySem.EqNone.ne_str_none (bP I q (by simp))
   |bl j=>cases d;exact PySem.EqMixed.ne_str_bool (bP I q (by simp))
   |int j=>obtain⟨e,rfl⟩:=d;exact PySem.EqMixed.ne_str_int (bP I q (by simp))
   |str j=>obtain⟨e,rfl⟩:=d;exact ne_str (bP I q (congrArg not Ad))
   |_=>exact absurd (show false=true from f) Qtq
 | byt i=>
   obtain⟨t,rfl⟩:=g
   cases y with
   |byt j=>obtain⟨e,rfl⟩:=d;exact PySem.W.ne_bytes (bP I q (congrArg not zY))
   |_=>exact absurd (show false=true from f) Qtq
 |_=>cases y <;>exact absurd (show false=true from f) Qtq
def Gd:jO X (compareOp .Lt) (BP λi j=>.bl (decide (i<j))):=EY λ_ _ _ _ _ _ _ q=>lt_int q
def LX:jO X (compareOp .LtE) (BP λi j=>.bl (decide (i<=j))):=EY λ_ _ _ _ _ _ _ q=>le_int q
def LI:jO X (compareOp .Gt) (BP λi j=>.bl (decide (j<i))):=EY λ_ _ _ _ _ _ _ q=>gt_int q
def LD:jO X (compareOp .GtE) (BP λi j=>.bl (decide (j<=i))):=EY λ_ _ _ _ _ _ _ q=>ge_int q
def KB:jO X (compareOp .Is) (λx y H Q=>y=.non/\Q (.bl (decide (x=.non))) H):=by
 intro d s g H x y v u Q I e f h
 obtain⟨rfl,q⟩:=h
 cases f
 refine is_none_gen (bP I q ?_)
 cases x <;>first
  |(cases e;rfl)
  |(obtain⟨t,rfl⟩:=e;rfl)
def JY:jO X (compareOp .IsNot) (λx y H Q=>y=.non/\Q (.bl (!decide (x=.non))) H):=by
 intro d s g H x y v u Q I e f h
 obtain⟨rfl,q⟩:=h
 cases f
 refine isnot_none_gen (bP I q ?_)
 cases x <;>first
  |(cases e;rfl)
  |(obtain⟨t,rfl⟩:=e;rfl)
def jO.or{f:Value->Value->Sem Value}{r e:R2}(h:jO X f r)(h':jO X f e):jO X f (λx y H Q=>r x y H Q\/e x y H Q):=by
 intro d s i H x y v u Q I g j q
 rcases q with q|q
 ·exact h d s i H x y v u Q I g j q
 ·exact h' d s i H x y v u Q I g j q
def ik(b:Expr){d:CmpOp}(h:d≠.In:=by decide)(g:d≠.NotIn:=by decide):behindInMarks d b=false:=by
 have e:(d==CmpOp.In)=false:=by cases d <;>first|rfl|exact absurd rfl h
 have f:(d==CmpOp.NotIn)=false:=by cases d <;>first|rfl|exact absurd rfl g
 cases b <;>simp[behindInMarks,e,f]
def E1{e:CmpOp}{r:R2}(l:jO X (compareOp e) r)(j:PE X a ta)(m:PE X b tb)(o:behindInMarks e b=false):PE X (.Compare a [e] [b] pos) (Fy r ta tb):=by
 intro d s g H Q I h
 exact wpAny_Compare1 (GK j m I h λv u f x y H2 i n k q=>l d f g H2 x y v u Q i n k q) o
def Dy(t:TE):TT:=λe H Q=>t e H λx d=>∃k,x=.bl k/\Q k d
def kZ{g:CmpOp}{r:R2}(B:jO X (compareOp g) r)(n:PE X a ta)(C:PE X b tb)(G:behindInMarks g b=false):PT X (.Compare a [g] [b] pos) (Dy (Fy r ta tb)):=by
 intro d s f H Q I h
 refine wpAny_isTrue_Compare1 (c8 (n d s f H _ I h) λv o ⟨x,H1,q,t,j⟩=>c8 (C d o f H1 _ q j) λu i ⟨y,H2,m,A,w⟩=>
  c8 (B d i f H2 x y v u _ m t A w) λc J ⟨z,H3,p,l,k,e,F⟩=> ?_) G
 subst e
 cases l
 exact wpAny_truthy_bool ⟨H3,p,F⟩
def GI(K:PySem.W.Frag)(x:V)(H:Hp)(k:Bool):Prop:=
 match x with
 |.non=>k=false
 |.bl b=>k=b
 |.int i=>k=(i !=0)
 |.str y=>y.length<=sizeLine/\k=((y.length:Int) !=0)
 |.byt y=>y.size<=sizeLine/\k=((y.size:Int) !=0)
 |.ref p=>(∃d,jg K H p d/\k= !d.isEmpty)\/(∃d,hG K H p d/\k= !d.isEmpty)\/∃e,H p=some (.dK e)/\k= !e.isEmpty
 |_=>False
def zp{e:Type}{d:List (e×V)}{vs:List (e×Value)}(r:KV d vs):(!vs.isEmpty)= !d.isEmpty:=by
 cases r <;>rfl
def rJ{xs:List V}{d:List Value}(r:bI xs d):(!d.toArray.isEmpty)= !xs.isEmpty:=by
 cases r <;>simp
def mG:(sizeLine:Nat)<2^63:=by rw[sizeLine_eq];decide
def He:K8 X (λx H Q=>∃k,GI X.K x H k/\Q k H):=by
 intro A s G H x v Q I l h
 obtain⟨k,e,q⟩:=h
 have hl:=mG
 have J:sizeLine=16777216:=sizeLine_eq
 cases x with
 | non=>
   cases l
   have d:k=false:=e
   subst d
   exact truthy_none ⟨H,I,q⟩
 | bl b=>
   cases l
   have d:k=b:=e
   subst d
   exact wpAny_truthy_bool ⟨H,I,q⟩
 | int i=>
   obtain⟨t,rfl⟩:=l
   have d:k=(i !=0):=e
   subst d
   exact PySem.P.truthy_int ⟨H,I,q⟩
 | str y=>
   obtain⟨t,rfl⟩:=l
   obtain⟨F,d⟩:y.length<=sizeLine/\k=((y.length:Int) !=0):=e
   subst d
   exact PySem.P.truthy_str (by omega) ⟨H,I.tok _,q⟩
 | byt y=>
   obtain⟨t,rfl⟩:=l
   obtain⟨F,d⟩:y.size<=sizeLine/\k=((y.size:Int) !=0):=e
   subst d
   exact PySem.W.truthy_bytes (by omega) ⟨H,I.tok _,q⟩
 | ref p=>
   cases l
   have d:(∃j,jg X.K H p j/\k= !j.isEmpty)\/(∃j,hG X.K H p j/\k= !j.isEmpty)\/∃f,H p=some (.dK f)/\k= !f.isEmpty:=e
   rcases d with⟨j,n,d⟩|⟨j,n,d⟩|⟨f,n,d⟩
   · subst d
     obtain⟨u,r,z,B⟩:=I.list n
     have g:=r.length
     exact wpAny_truthy_list z.isList (by simp only[Qjq];omega) ⟨H,I.tok _,by rw[rJ r];exact q⟩
   · subst d
     obtain⟨u,r,z,B⟩:=I.tuple n
     have g:=r.length
     exact truthy_tuple z (by simp only[Qjq];omega) ⟨H,I.tok _,by rw[rJ r];exact q⟩
   · subst d
     obtain⟨B,C,o,r,m⟩:f.length<=sizeLine/\(p==sysModules)=false/\∃o,KV f o/\s.heap.DictOf (bM X.prog X.w) p o:=I.hok p _ n
     have g:f.length=o.length:=Paired.length r
     exact wpAny_truthy_dict C m (by omega) ⟨H,I.tok _,by rw[zp r];exact q⟩
 |_=>exact(show False from e).elim
def D0(j:PE X a ta)(he:∀d,isTrue a X.env d=(do let v←d;standAt a.pos;holding [v] (truthy v))):
  PT X a (λf H Q=>ta f H λx g=>∃k,GI X.K x g k/\Q k g):=by
 intro e s f H Q I h
 exact isTrue_plain (c8 (j e s f H _ I h) λv l ⟨x,H1,m,n,i⟩=>He e l f H1 x v Q m n i) (he _)
def y7:jO X (binaryOp .Add) (λx y H Q=>∃i j,x=.str i/\y=.str j/\i.length+j.length<=sizeLine/\Q (.str (i++j)) H):=by
 intro d s l H x y v u Q I e f h
 obtain⟨i,j,rfl,rfl,hz,q⟩:=h
 obtain⟨t,rfl⟩:=e
 obtain⟨g,rfl⟩:=f
 exact add_str (λg k=>⟨.str (i++j),H,I.tok _,⟨_,rfl⟩,q⟩) hz
def vals1{x:V}{d:List Value}(r:bI [x] d):∃u,d= [u]/\RelV x u:=by
 cases r with
 |cons f e=>cases e;exact⟨_,rfl,f⟩
def vals2{x y:V}{e:List Value}(r:bI [x,y] e):∃u d,e= [u,d]/\RelV x u/\RelV y d:=by
 cases r with
 | cons i f=>
   cases f with
   |cons h g=>cases g;exact⟨_,_,rfl,i,h⟩
def JK:j_ X (.builtin "abs") (λxs H Q=>∃i,xs= [.int i]/\Q (.int (if i<0 then -i else i)) H):=by
 intro d s f H xs g Q I r h
 obtain⟨i,rfl,q⟩:=h
 obtain⟨u,rfl,t,rfl⟩:=vals1 r
 exact call_abs_int λu e=>⟨.int (if i<0 then -i else i),H,I.tok _,⟨_,rfl⟩,q⟩
def HZ(f:X.calm=true):j_ X (.builtin "max") (λxs H Q=>∃i j,xs= [.int i,.int j]/\Q (.int (if j>i then j else i)) H):=by
 intro e s g H xs l Q I r h
 obtain⟨i,j,rfl,q⟩:=h
 obtain⟨u,m,rfl,⟨t,rfl⟩,⟨t',rfl⟩⟩:=vals2 r
 refine max_two_ints (I.ok.hd f) λo n k=>⟨_,H,I.kept k,?_,q⟩
 by_cases d:j>i
 ·rw[Qhq d,Qhq d];exact⟨_,rfl⟩
 ·rw[Quq d,Quq d];exact⟨_,rfl⟩
def Ic(f:X.calm=true):j_ X (.builtin "min") (λxs H Q=>∃i j,xs= [.int i,.int j]/\Q (.int (if j<i then j else i)) H):=by
 intro e s g H xs l Q I r h
 obtain⟨i,j,rfl,q⟩:=h
 obtain⟨u,m,rfl,⟨t,rfl⟩,⟨t',rfl⟩⟩:=vals2 r
 refine min_two_ints (I.ok.hd f) λo n k=>⟨_,H,I.kept k,?_,q⟩
 by_cases d:j<i
 ·rw[Qhq d,Qhq d];exact⟨_,rfl⟩
 ·rw[Quq d,Quq d];exact⟨_,rfl⟩
def BF:j_ X (.type "int") (λxs H Q=>(∃i,xs= [.int i]/\Q (.int i) H)\/∃k,xs= [.bl k]/\Q (.int (if k then 1 else 0)) H):=by
 intro d s e H xs f Q I r h
 rcases h with⟨i,rfl,q⟩|⟨k,rfl,q⟩
 ·obtain⟨u,rfl,t,rfl⟩:=vals1 r
  exact call_int_int ⟨.int i,H,I,⟨_,rfl⟩,q⟩
 ·obtain⟨u,rfl,r1⟩:=vals1 r
  cases r1
  exact call_int_bool ⟨.int (if k then 1 else 0),H,I.tok _,⟨_,rfl⟩,q⟩
end
structure G8(h:Heap)(x dx C:Addr)(mA:Str->Option Value):Prop where
 obj:h.get? x=some (PySem.W.instObj C dx)
 ns:h.Ns1 dx mA
 ne:dx≠x
def BI{h:Heap}{d:Addr}{g:Str->Option Value}(n:h.Ns1 d g):∃c,h.get? d=some c/\∀name,PySem.W.lookIn name c=some (g name):=by
 obtain⟨o,f,r,l,i,j,_,p⟩:=n
 refine⟨o,l,λname=> ?_⟩
 have e:=p name
 unfold nsFind findBy at e
 rw[←Array.find?_toList] at e
 unfold PySem.W.lookIn
 rw[i]
 dsimp only
 split
 ·rename_i y q
  rw[q] at e
  exact congrArg some e
 ·rename_i q
  rw[q] at e
  have a:f.toList.any (·.refKey)=false:=by
   rw[List.any_eq_false]
   intro y k
   obtain⟨z,t,b⟩:=j y (Array.mem_toList_iff.mp k)
   simp[DictEntry.refKey,b]
  have m:¬f.toList.any (·.refKey)=true:=by rw[a];exact Qtq
  rw[Quq m]
  exact congrArg some e
def G8.look{h:Heap}{x c C:Addr}{b:Str->Option Value}(I:G8 h x c C b):∃a,PySem.W.InstAt h x (PySem.W.instObj C c) C (some a)/\∀name,PySem.W.lookIn name a=some (b name):=
 let ⟨a,ho,hl⟩:=BI I.ns
 ⟨a,⟨I.obj,rfl,rfl,ho⟩,hl⟩
def qL.some_of{v:V}{o:Option Value}(r:qL (some v) o):∃u,o=some u/\RelV v u:=by
 cases o with
 |none=>exact(show False from r).elim
 |some u=>exact⟨u,rfl,r⟩
section
variable{P:Program}{w:World}{H H':Hp}{h h':Heap}{a C dx:Addr}{fs fs':List (Str×V)}
def EW(c:m3 P w H h)(e:H a=some (.ins C dx fs)):∃b,G8 h a dx C b/\(∀f,qL (fs.lookup f) (b f))/\PySem.Within b (fs.map (·.1))/\fs.length<=1000/\H dx=some (.own a):=by
 obtain⟨d,z,g,i,b,n,r,q⟩:=(show cC P w H h a (.ins C dx fs) from c a _ e)
 exact⟨b,⟨i,n,g⟩,r,q,z,d⟩
end
structure KG(K:PySem.W.Frag)(C:Addr):Prop where
 pg:PySem.W.plainGet K C Str.empty=true
 hd:PySem.W.hasDictIn K C=true
 po:PySem.W.plainOver K C=true
 sa:PySem.W.findIn K (.ref C) "__setattr__"=some (some (.builtin "object.__setattr__"))
def KG.get{K:PySem.W.Frag}{C:Addr}(c:KG K C)(f:Str):PySem.W.plainGet K C f=true:=c.pg
section
variable{X:Cx}{pins:List (Addr×Obj)}{σ:St}{H:Hp}{s:Shared}{A:Around}{E:Value->Shared->Prop}{Q:Value->Shared->Prop}{c:Value}{b:Bool}
inductive oN(K:PySem.W.Frag)(H:Hp):V->Value->Prop where
 |non:oN K H .non (.type "NoneType")
 |bl (x:Bool):oN K H (.bl x) (.type "bool")
 |int (i:Int):oN K H (.int i) (.type "int")
 |str (x:Str):oN K H (.str x) (.type "str")
 |flt (x:UInt64):oN K H (.flt x) (.type "float")
 |lst {a:Addr} {xs:List V} (e:H a=some (.lst xs)):oN K H (.ref a) (.type "list")
 |frz {a:Addr} {o:Obj} {xs:List V} (e:H a=some (.frz o (.lst xs))):oN K H (.ref a) (.type "list")
 |tup {a:Addr} {xs:List V} (e:H a=some (.tup xs)):oN K H (.ref a) (.type "tuple")
 |dK {a:Addr} {kvs:List (Key×V)} (e:H a=some (.dK kvs)):oN K H (.ref a) (.type "dict")
 |dT {a:Addr} {kvs:List (List Key×V)} (e:H a=some (.dT kvs)):oN K H (.ref a) (.type "dict")
 |ins {a C dx:Addr} {fs:List (Str×V)} (e:H a=some (.ins C dx fs)) (cl:KG K C) (ha:PySem.W.findIn K (.ref C) "__class__"=some (some (.builtin "object.__class__")))
   (hn:PySem.W.specialIn K (.builtin "object.__class__") "__get__"=some (some (.builtin "getset_descriptor.__get__"))) (htk:PySem.W.takesIn K (.builtin "object.__class__")=some true)
   (hm:PySem.W.mroIn K C (.type "object")=some true):oN K H (.ref a) (.ref C)
def A6{x:V}{u t:Value}(I:Inv X pins σ H s)(d:RelV x u)(l:oN X.K H x t)(e:PySem.W.kitOne X.K t c=some b)(h:∀m,Q (.bool b) {s with toks:=m}):
  wpAny (model X.prog X.w) A (call (.builtin "isinstance") [u,c]) Q E s:=by
 cases l with
 |non=>cases (show u=Value.none from d);exact PySem.W.kia_one PySem.W.kitx_none I.kIn True.intro e (λz=>nomatch z) h
 |bl y=>cases (show u=Value.bool y from d);exact PySem.W.kia_one PySem.W.kitx_bool I.kIn True.intro e (λz=>nomatch z) h
 |int i=>obtain⟨t,q⟩:=(show∃t,u=Value.int i t from d);cases q;exact PySem.W.kia_one PySem.W.kitx_int I.kIn True.intro e (λz=>nomatch z) h
 |str y=>obtain⟨t,q⟩:=(show∃t,u=Value.str y t from d);cases q;exact PySem.W.kia_one PySem.W.kitx_str I.kIn True.intro e (λz=>nomatch z) h
 |flt y=>obtain⟨t,q⟩:=(show∃t,u=Value.float y t from d);cases q;exact PySem.W.kia_one PySem.W.kitx_float I.kIn True.intro e (λz=>nomatch z) h
 | @lst a g ea=>
   cases (show u=Value.ref a from d)
   obtain⟨_,_,n,_,f⟩:=(show cC X.prog X.w H s.heap a (.lst g) from I.hok a _ ea)
   exact PySem.W.kia_one PySem.W.kitx_list I.kIn ⟨_,f,rfl⟩ e (λz=>nomatch z) h
 | @frz a ob g ea=>
   cases (show u=Value.ref a from d)
   obtain⟨_,_,_,n,_,f⟩:=(show cC X.prog X.w H s.heap a (.frz ob (.lst g)) from I.hok a _ ea)
   exact PySem.W.kia_one PySem.W.kitx_list I.kIn ⟨_,f,rfl⟩ e (λz=>nomatch z) h
 | @tup a g ea=>
   cases (show u=Value.ref a from d)
   obtain⟨_,_,_,p⟩:=(show cC X.prog X.w H s.heap a (.tup g) from I.hok a _ ea)
   obtain⟨o,f,j,_⟩:=p
   exact PySem.W.kia_one PySem.W.kitx_tuple I.kIn ⟨o,f,j⟩ e (λz=>nomatch z) h
 | @dK a kvs ea=>
   cases (show u=Value.ref a from d)
   obtain⟨_,_,B,_,p⟩:=(show cC X.prog X.w H s.heap a (.dK kvs) from I.hok a _ ea)
   obtain⟨o,k,r,f,j,_⟩:=p
   exact PySem.W.kia_one PySem.W.kitx_dict I.kIn ⟨o,f,j.1⟩ e (λz=>nomatch z) h
 | @dT a kvs ea=>
   cases (show u=Value.ref a from d)
   obtain⟨_,_,g,_,o,k,r,f,j,_⟩:=(show cC X.prog X.w H s.heap a (.dT kvs) from I.hok a _ ea)
   exact PySem.W.kia_one PySem.W.kitx_dict I.kIn ⟨o,f,j.1⟩ e (λz=>nomatch z) h
 | @ins a C dx fs ea cl ha hn htk hm=>
   cases (show u=Value.ref a from d)
   obtain⟨F,O,_⟩:=EW I.hok ea
   obtain⟨v,J,_⟩:=O.look
   exact PySem.W.kia_one (PySem.W.kitx_own (cl.get _) cl.hd ha hn htk hm) I.kIn J e (λz=>nomatch z) h
end
structure fH(k:Nat)(A:Around):Prop where
 hd:A.handled=none
 dp:A.depth+3*k+5<recursionLimit
 un:A.units+16*k+200<cLine
def fH.mono{j k:Nat}{A:Around}(r:fH k A)(h:j<=k):fH j A:=⟨r.hd,by have:=r.dp;omega,by have:=r.un;omega⟩
def fH.deeper{k:Nat}{A:Around}(r:fH (k+1) A)(env:Env):fH k (A.deeper env):=
 ⟨r.hd,by have:=r.dp;show A.depth+1+3*k+5<_;omega,by have:=r.un;show A.units+3+16*k+200<_;omega⟩
def fH.depth{k:Nat}{A:Around}(r:fH k A):A.depth<recursionLimit:=by have:=r.dp;omega
def fH.units{k:Nat}{A:Around}(r:fH k A):A.units+64<cLine:=by have:=r.un;omega
def fH.units0{k:Nat}{A:Around}(r:fH k A):A.units<cLine:=by have:=r.un;omega
def GP:TA:=λ_ H Q=>Q [] H
def D2(c:TE)(d:TA):TA:=λa H Q=>c a H λx H1=>d a H1 λb H2=>Q (x::b) H2
section
variable{X:Cx}{e:Expr}{es:List Expr}{te:TE}{t:TA}{pos:Pos}
def gy:PA X [] GP:=λ_ _ _ _ H Q I h=>Calls.spliced_nil ⟨[],H,I,.nil,h⟩
def c_(i:PE X e te)(f:PA X es t)(l:starEach (e::es) X.env=(false,eval e X.env)::starEach es X.env:=by rfl):PA X (e::es) (D2 te t):=by
 intro pos a s b H Q I h
 rw[l]
 show wpAny _ _ (spliced ((false,eval e X.env)::backTo pos (starEach es X.env))) _ _ s
 refine Calls.spliced_cons (c8 (i a s b H _ I h) λu j c=> ?_)
 obtain⟨x,H1,m,n,d⟩:=c
 exact c8 (f pos a j b H1 _ m d) λr q ⟨k,H2,g,p,o⟩=>⟨x::k,H2,g,.cons n p,o⟩
def La(t:TA):TE:=λb H Q=>t b H λa H1=>a.length<=sizeLine/\∀p,H1 p=none->Q (.ref p) (upd H1 p (.tup a))
def KR(t:TA):TE:=λb H Q=>t b H λa H1=>a.length<=sizeLine/\∀p,H1 p=none->Q (.ref p) (upd H1 p (.lst a))
def Cp{x1}(h:PA X es t):PE X (.Tuple es x1 pos) (La t):=by
 intro a s f H Q I k
 refine wpAny_Tuple_spliced (c8 (h pos a s f H _ I k) λg c ⟨j,H1,d,r,z,q⟩=>⟨by rw[←r.length];exact z,?_⟩)
 have i:H1 c.heap.objs.size=none:=d.hok.fresh (Qmq _)
 refine⟨.ref c.heap.objs.size,upd H1 c.heap.objs.size (.tup j),d.laid (t':=c.toks) (λb u e=>Qcq _ e) (Qmq _) ?_,rfl,q _ i⟩
 exact⟨z,g,r,⟨_,Qrq _ rfl,rfl,rfl,_,rfl⟩⟩
def HM(h:PA X es t):PE X (.List es pos) (KR t):=by
 intro a s f H Q I k
 refine wpAny_List_spliced (c8 (h pos a s f H _ I k) λg c ⟨j,H1,d,r,z,q⟩=>⟨by rw[←r.length];exact z,?_⟩)
 have i:H1 c.heap.objs.size=none:=d.hok.fresh (Qmq _)
 refine⟨.ref c.heap.objs.size,upd H1 c.heap.objs.size (.lst j),d.laid (t':=c.toks) (λb u e=>Qcq _ e) (Qmq _) ?_,rfl,q _ i⟩
 exact⟨z,g,0,r,Qrq _ rfl⟩
end
abbrev Sp:=List V->Hp->VK->XK->Prop
abbrev Ca:=List Env->Hp->Shared->XK->Value->Shared->Prop
structure FC(P:Program)(w:World)(K:PySem.W.Frag)(mg:Str->Option Value)(base:Heap)(A:Around)(outer:List Env)(s:Shared)(H:Hp):Prop where
 frames:A.frames=some outer
 mod:Mod K mg base
 bs:∀b o,base.get? b=some o->s.heap.get? b=some o/\H b=none
 bsz:base.objs.size<=s.heap.objs.size
 funs:s.heap.FunFrames base outer
 frf:∀b∈Eb outer,H b=none
 hok:m3 P w H s.heap
 bare:AllBare s.gens
def CE(outer:List Env)(P:Program)(w:World)(H:Hp)(s:Shared)(Q:VK)(u:Value)(a:Shared):Prop:=
 ∃v b,a.os=s.os/\AllBare a.gens/\Un (Eb outer) [] H b s.heap a.heap/\m3 P w b a.heap/\RelV v u/\Q v b
def CR(CX:Ca)(outer:List Env)(P:Program)(w:World)(H:Hp)(s:Shared)(Q:VK)(E:XK)(r:Result)(a:Shared):Prop:=
 match r with
 |.ok (.ret u)=>CE outer P w H s Q u a
 |.ok _=>False
 |.error e=>CX outer H s E e a
structure bA(P:Program)(w:World)(K:PySem.W.Frag)(mg:Str->Option Value)(base:Heap)(CX:Ca)(k:Nat)(f:Addr)(fd:FuncData)(ps:List Str)(sp:Sp):Prop where
 len:∀vs H Q E,sp vs H Q E->vs.length=ps.length
 run:∀(A:Around) (outer:List Env) (s:Shared) (H:Hp) (args:Args) (us:List Value) (vs:List V) (Q:VK) (E:XK),fH k A->FC P w K mg base A outer s H->BindsTo s fd args (ps.zip us)->bI vs us->sp vs H Q E→
  codeAny (model P w) A (.call (.ref f) args) (CR CX outer P w H s Q E) s
def bA.mono{P:Program}{w:World}{K:PySem.W.Frag}{mg:Str->Option Value}{base:Heap}{CX:Ca}{j k:Nat}{f:Addr}{c:FuncData}{ps:List Str}{sp:Sp}(F:bA P w K mg base CX j f c ps sp)(h:j<=k):
  bA P w K mg base CX k f c ps sp:=⟨F.len,λA a s H b e g Q E d=>F.run A a s H b e g Q E (d.mono h)⟩
def bA.imp{P:Program}{w:World}{K:PySem.W.Frag}{mg:Str->Option Value}{base:Heap}{CX:Ca}{k:Nat}{f:Addr}{d:FuncData}{ps:List Str}{sp b:Sp}(F:bA P w K mg base CX k f d ps sp)
  (h:∀vs H Q E,b vs H Q E->sp vs H Q E):bA P w K mg base CX k f d ps b:=
 ⟨λvs H Q E q=>F.len vs H Q E (h _ _ _ _ q),λA a s H c g vs Q E e i m l j=>F.run A a s H c g vs Q E e i m l (h _ _ _ _ j)⟩
section
variable{X:Cx}{pins:List (Addr×Obj)}{σ:St}{H:Hp}{s s':Shared}
def Inv.env0(I:Inv X pins σ H s):FC X.prog X.w X.K X.mg X.base X.A X.stack s H:=
 ⟨I.ok.frames,I.ok.mod,I.bs,QAq I.ok.bsz I.sz,I.stack,I.stkFree,I.hok,I.bare⟩
def Inv.after{Q:VK}{u:Value}(I:Inv X pins σ H s)(h:CE X.stack X.prog X.w H s Q u s'):EP X pins σ Q u s':=by
 obtain⟨v,j,k,a,i,c,r,q⟩:=h
 obtain⟨f,g,d,t,e⟩:=s'
 obtain rfl:e=s.os:=k
 exact⟨v,j,I.call (h':=f) (g':=g) (d':=d) (t':=t) (ch:= []) i c a (λb z=>absurd z (by simp)),r,q⟩
end
def Ci(sp:Sp)(a:List V)(E:XK)(t:TA):TE:=λb H Q=>t b H λc H1=>sp (c++a) H1 Q E
def Binds(K:PySem.W.Frag)(b:FuncData)(ps:List Str)(ds:List Value):Prop:=
 ∀(s:Shared) (a:List Value),K.In s.heap->(a++ds).length=ps.length->BindsTo s b ⟨a,[]⟩ (ps.zip (a++ds))
def Binds.all{K:PySem.W.Frag}{b:FuncData}{ps:List Str}(h:∀a:List Value,a.length=ps.length->bindArgs b ⟨a,[]⟩=pure (ps.zip a)):Binds K b ps []:=λs a _ hl=>by
 rw[List.append_nil] at hl⊢
 exact .of_eq (h a hl)
def y1(CX:Ca)(X:Cx)(E:XK):Prop:=∀(a:List (Addr×Obj)) (c:St) (H:Hp) (s:Shared) (e:Value) (b:Shared),Inv X a c H s->CX X.stack H s E e b->X.xe e b
section
variable{X:Cx}{CX:Ca}{k:Nat}{f C:Addr}{fd:FuncData}{ps:List Str}{sp:Sp}{dvs:List V}{ds:List Value}{E:XK}{x m:Str}{p pos apos:Pos}{e o:Expr}{es:List Expr}{ta:TE}{t:TA}
def DG{a:List (Addr×Obj)}{d:St}{H:Hp}{s:Shared}{Q:VK}{b:List Value}{vs:List V}(F:bA X.prog X.w X.K X.mg X.base CX k f fd ps sp)(i:fH k X.A)(q:Binds X.K fd ps ds)(hd:bI dvs ds)(j:y1 CX X E)
  (I:Inv X a d H s) (r:bI vs b) (h:sp (vs++dvs) H Q E):wpAny (model X.prog X.w) X.A (call (.ref f) b) (EP X a d Q) X.xe s:=by
 have g:bI (vs++dvs) (b++ds):=r.append hd
 have hl:(b++ds).length=ps.length:=by rw[←g.length];exact F.len _ _ _ _ h
 refine wpAny_call (codeAny_mono (F.run X.A X.stack s H ⟨b,[]⟩ (b++ds) (vs++dvs) Q E i I.env0 (q s b I.kIn hl) g h) λr n c=> ?_)
 cases r with
 |error e=>exact j a d H s e n I c
 | ok l=>
   cases l with
   |ret u=>exact I.after c
   |next=>exact False.elim c
   |brk=>exact False.elim c
   |cont=>exact False.elim c
def AO(F:bA X.prog X.w X.K X.mg X.base CX k f fd ps sp)(d:fH k X.A)(g:Gl X x)(v:X.mg x=some (.ref f))(n:PySem.W.keepIn X.K (.ref f)=true)(u:Binds X.K fd ps ds)(hd:bI dvs ds)(j:y1 CX X E)
  (l:PA X (e::es) t) (b:(x==("__debug__":Str))=false:=by decide) (he:starEach (e::es) X.env=(false,eval e X.env)::starEach es X.env:=by rfl) (hpl:(backTo pos (starEach es X.env)).any (·.1)=false:=by rfl):
  PE X (.Call (.Name x p) (e::es) [] pos) (Ci sp dvs E t):=by
 intro a s i H Q I h
 refine wpAny_Call_Name_kw (vZ I g v ?_ b)
 refine PySem.W.callWith_K (h₀:=X.base) I.ok.mod.kin n (c8 (l pos a s i H _ I h) λy z ⟨B,H1,c,r,q⟩=>⟨c.kIn,?_⟩) he hpl
 exact DG F d u hd j c r q
end
structure aJ(N P:List Str)(sc:Scope):Prop where
 kind:sc.kind=.function
 co:sc.isCoroutine=false
 gen:sc.isGenerator=false
 nd:N.Nodup
 pre:N.take P.length=P
 par:∀x∈P,sc.names.lookup x=some .local\/sc.names.lookup x=some .cell
 nofree:∀y∈sc.names,y.2≠.free
theorem uv{b:Str->Option NameKind}{x:Str}:∀{a:List (Str×Value)} {m:Str->Option Value},(∀v,(x,v)∉a)->bindL b a m x=m x
 | [],_,_=>rfl
 | (n,v)::r,m,h=>by
   unfold bindL
   rw[uv λw c=>h w (Qpq _ c)]
   split
   · have:x≠n:=by rintro rfl;exact h v QBq
     simp[this]
   · rfl
theorem t4{b:Str->Option NameKind}{x:Str}:∀{a:List (Str×Value)} {m:Str->Option Value},(∀v,(x,v)∉a)->bindC b a m x=m x
 | [],_,_=>rfl
 | (n,v)::r,m,h=>by
   unfold bindC
   rw[t4 λw c=>h w (Qpq _ c)]
   split
   · rfl
   · have:x≠n:=by rintro rfl;exact h v QBq
     simp[this]
theorem uk{a:Str->Option NameKind}{x:Str}{v:Value}:∀{P:List Str} {vs:List Value} {i:Nat} {m:Str->Option Value},P.Nodup->P[i]?=some x->vs[i]?=some v->a x=some .local→
  bindL a (P.zip vs) m x=some v
 | [],_,_,_,_,h,_,_=>by simp at h
 |_::_,[],_,_,_,_,h,_=>by simp at h
 | p::P,w::vs,0,m,nd,h1,h2,hk=>by
   simp at h1 h2;subst h1;subst h2
   show bindL a ((p,w)::P.zip vs) m p=_
   unfold bindL
   rw[uv λv b=>(List.nodup_cons.mp nd).1 (QeQ b).1,Qhq hk]
   simp
 | p::P,w::vs,i+1,m,nd,h1,h2,hk=>by
   show bindL a ((p,w)::P.zip vs) m x=_
   unfold bindL
   exact uk (i:=i) (List.nodup_cons.mp nd).2 (by simpa using h1) (by simpa using h2) hk
theorem uH{a:Str->Option NameKind}{x:Str}{v:Value}:∀{P:List Str} {vs:List Value} {i:Nat} {m:Str->Option Value},P.Nodup->P[i]?=some x->vs[i]?=some v->a x≠some .local→
  bindC a (P.zip vs) m x=some v
 | [],_,_,_,_,h,_,_=>by simp at h
 |_::_,[],_,_,_,_,h,_=>by simp at h
 | p::P,w::vs,0,m,nd,h1,h2,hk=>by
   simp at h1 h2;subst h1;subst h2
   show bindC a ((p,w)::P.zip vs) m p=_
   unfold bindC
   rw[t4 λv b=>(List.nodup_cons.mp nd).1 (QeQ b).1,Quq hk]
   simp
 | p::P,w::vs,i+1,m,nd,h1,h2,hk=>by
   show bindC a ((p,w)::P.zip vs) m x=_
   unfold bindC
   exact uH (i:=i) (List.nodup_cons.mp nd).2 (by simpa using h1) (by simpa using h2) hk
def start(N:List Str)(vs:List V):St:=vs.map some++List.replicate (N.length-vs.length) none
def yT(CX:Ca)(P:Program)(w:World)(K:PySem.W.Frag)(mg:Str->Option Value)(base:Heap)(N:List Str)(b:Str)(a:Scope)(f:Addr)(d:Value)(A:Around)(outer:List Env)(s:Shared)(H:Hp)(E:XK):Cx where
 prog:=P
 w:=w
 K:=K
 mg:=mg
 base:=base
 A:=A.deeper (envOfC b a s.heap.objs.size f d)
 N:=N
 s₀:=s
 H₀:=H
 env:=envOfC b a s.heap.objs.size f d
 outer:=outer
 stack:=envOfC b a s.heap.objs.size f d::outer
 ex:= []
 calm:=true
 fn:=λ_=>true
 pn:= []
 xe:=λe h=>wpAny (model P w) (A.deeper (envOfC b a s.heap.objs.size f d)) (leaving (envOfC b a s.heap.objs.size f d) e) (λ_ c=>CX outer H s E e c) (λg c=>CX outer H s E g c) h
def xg{a:Scope}{n:Nat}{x:Str}(h:a.names.lookup x=some .cell):∃c,(cellsFrom n a.names []).lookup x=some c:=by
 have q:=PySem.W.cellsFrom_some a.names n [] (.inl h)
 exact Option.isSome_iff_exists.mp q
def Bw{CX:Ca}{P:Program}{w:World}{K:PySem.W.Frag}{mg:Str->Option Value}{base:Heap}{N ps:List Str}{g:Str}{d:Scope}{f:Addr}{F:Value}{A:Around}{outer:List Env}{s J:Shared}{H:Hp}{E:XK}{I:List Value}{vs:List V}
  (S:aJ N ps d) (hd:A.handled=none) (l:FC P w K mg base A outer s H) (hl:vs.length=ps.length) (r:bI vs I)
  (x:InCallC s s.heap.objs.size (bindL (envOfC g d s.heap.objs.size f F).kindOf (ps.zip I) λ_=>none) (cellsFrom (s.heap.objs.size+1) d.names []) (bindC (envOfC g d s.heap.objs.size f F).kindOf (ps.zip I) λ_=>none) J):
  Inv (yT CX P w K mg base N g d f F A outer s H E) [] (start N vs) H J:=by
 have R:ps.length<=N.length:=by have:=congrArg List.length S.pre;rw[Qxq] at this;omega
 obtain⟨C,X,rfl,hk⟩:=x.done
 have m:∀b:Addr,b∉(yT CX P w K mg base N g d f F A outer s H E).ex:=λb z=>absurd (show b∈([]:List Addr) from z) (by simp)
 refine⟨⟨l.mod,S.kind,rfl,rfl,Qmq _,λy z c C j=> ?_,λy o=> ?_,λy c _ h=> ?_,λ_=>hd,Around.frames_deeper l.frames,.inr ⟨rfl,rfl⟩,λb z=>absurd z (m b),l.bs,l.bsz,λb _ _=>m b,λb z=>absurd z (m b),l.funs,l.frf⟩,
  rfl,l.bare,Un.kept hk,⟨_,x.toInCall.ns,λi y v C j U=> ?_⟩,λy c h=>⟨_,x.cell y c h⟩,l.hok.fresh (Qmq _),λy c h=> ?_,λp t=>absurd (show p∈([]:List (Addr×Obj)) from t) (by simp),l.hok.kept hk,?_⟩
 ·exact name_of_addr x.apart (PySem.mem_of_lookup C) (PySem.mem_of_lookup j)
 ·have o:d.names.lookup y=some .cell\/d.names.lookup y=some .free:=o
  rcases o with o|o
  ·exact xg o
  ·exact absurd rfl (S.nofree _ (PySem.mem_of_lookup o))
 ·exact nQl (x.above y c (PySem.mem_of_lookup h))
 ·have G:i<vs.length:=by
   unfold start at j
   by_cases G:i<vs.length
   ·exact G
   ·rw[QQq (by simpa using G)] at j
    rw[List.getElem?_replicate] at j
    split at j <;>cases j
  have Q:vs[i]?=some v:=by
   unfold start at j
   rw[QHq (by simpa using G),gQm] at j
   cases e:vs[i]? with
   |none=>rw[e] at j;cases j
   |some a=>rw[e] at j;cases j;rfl
  obtain⟨u,L,M⟩:=r.get Q
  have t:ps[i]?=some y:=by
   rw[←S.pre,List.getElem?_take_of_lt (by omega)];exact C
  have B:ps.Nodup:=by rw[←S.pre];exact S.nd.sublist (List.take_sublist _ _)
  refine⟨u,M,?_⟩
  rcases S.par y (mQg t) with k|k
  ·exact .inl ⟨k,uk B t L k⟩
  ·obtain⟨c,e⟩:=xg (n:=s.heap.objs.size+1) k
   refine .inr ⟨.inl k,c,e,?_⟩
   have q:=x.cell y c e
   rw[uH B t L (by show d.names.lookup y≠_;rw[k];decide)] at q
   exact q
 ·exact l.hok.fresh (nQl (x.above y c (PySem.mem_of_lookup h)))
 ·unfold start
  show _=N.length
  rw[lQa,lQm,QIq]
  omega
def Jf{CX:Ca}{P:Program}{w:World}{K:PySem.W.Frag}{mg:Str->Option Value}{base:Heap}{k:Nat}{f:Addr}{name c:Str}{g:Arguments}{h:List Stmt}{a:Scope}{Y kV B pm d ct oc:Value}{an od:Option Addr}
  {M:Array (Option Value)} {N ps:List Str} {sp:Sp} (lk:K.lookup f=some ⟨oc,od,.func (PySem.W.fnOf name c g h a Y kV B pm an d ct),M⟩) (R:PySem.W.codeIn K d c=true) (S:aJ N ps a)
  (len:∀vs H Q E,sp vs H Q E->vs.length=ps.length)
  (m:∀(A:Around) (outer:List Env) (s:Shared) (H:Hp) (vs:List V) (Q:VK) (E:XK),fH k (A.deeper (envOfC c a s.heap.objs.size f d))->sp vs H Q E→
   ∃t,sQ (yT CX P w K mg base N c a f d A outer s H E) h t/\t {nx:=λ_ j=>Q .non j,rt:=Q} (start N vs) H):
  bA P w K mg base CX (k+1) f (PySem.W.fnOf name c g h a Y kV B pm an d ct) ps sp:=by
 refine⟨len,λA outer s H Z us vs Q E G z hb r C=> ?_⟩
 have hl:=len _ _ _ _ C
 have KX:K.In s.heap:=z.mod.kin.keeps λb o e=>(z.bs b o e).1
 have L:s.heap.NoLimit:=z.mod.nolimit.keeps λb o e=>(z.bs b o e).1
 have l:∀y∈ps.zip us,a.names.lookup y.1=some .local\/(a.names.lookup y.1=some .cell/\((cellsFrom (s.heap.objs.size+1) a.names []).lookup y.1).isSome=true):=λ⟨n,v⟩ hy=>by
  rcases S.par n (QeQ hy).1 with q|q
  ·exact .inl q
  ·exact .inr ⟨q,PySem.W.cellsFrom_some _ _ _ (.inl q)⟩
 refine codeAny_call_function G.depth (KX _ _ lk) rfl S.co S.gen rfl (PySem.W.codeRec_of KX R) (hb _ _ _ _ ?_)
 refine wpAny_newFunctionEnv_cells S.kind l λa1 he s1 x=> ?_
 subst he
 refine⟨L.keeps x.toInCall.keep,codeAny_func ?_⟩
 obtain⟨t,ht,hq⟩:=m A outer s H vs Q E (G.deeper _) C
 have I:Inv (yT CX P w K mg base N c a f d A outer s H E) [] (start N vs) H s1:=Bw S G.hd z hl r x
 refine QRq (ht [] s1 (start N vs) H _ I hq) (λfl X p=> ?_) λe X p=>p
 have F:∀{i:St} {j:Hp} {v:V} {u:Value},Inv (yT CX P w K mg base N c a f d A outer s H E) [] i j X->RelV v u->Q v j->CE outer P w H s Q u X:=
  λ{i j v u} J U q=>⟨v,j,J.os,J.bare,J.base,J.hok,U,q⟩
 cases fl with
 | ret u=>
   obtain⟨v,i,j,J,U,q⟩:=p
   exact F J U q
 | next=>
   obtain⟨i,j,J,q⟩:=p
   exact F (v:=V.non) (u:=Value.none) J rfl q
 | brk=>
   obtain⟨_,_,_,q⟩:=p
   exact False.elim q
 | cont=>
   obtain⟨_,_,_,q⟩:=p
   exact False.elim q
section
variable{X:Cx}{x:Str}{p pos:Pos}{e:Expr}{es:List Expr}{t:TA}{id T:String}{r:List V->Hp->VK->Prop}
def Kd(r:List V->Hp->VK->Prop)(t:TA):TE:=λa H Q=>t a H λb H1=>r b H1 Q
def ku(k:j_ X (.builtin id) r)(f:Gl X x)(u:X.mg x=none)(q:bootBuiltins x=some (.builtin id))(i:PA X (e::es) t)(m:x≠"__name__":=by decide)(b:(x==("__debug__":Str))=false:=by decide)
  (he:starEach (e::es) X.env=(false,eval e X.env)::starEach es X.env:=by rfl) (hpl:(backTo pos (starEach es X.env)).any (·.1)=false:=by rfl):PE X (.Call (.Name x p) (e::es) [] pos) (Kd r t):=by
 intro a s c H Q I h
 refine wpAny_Call_Name_kw (kY I f u q ?_ m b)
 exact PyProof.Rows.callWith_builtin1 (c8 (i pos a s c H _ I h) λg j ⟨l,H1,n,o,d⟩=>k a j c H1 l g Q n o d) he hpl
def uO(k:j_ X (.type T) r)(f:Gl X x)(u:X.mg x=none)(q:bootBuiltins x=some (.type T))(i:PA X (e::es) t)(m:x≠"__name__":=by decide)(b:(x==("__debug__":Str))=false:=by decide)
  (he:starEach (e::es) X.env=(false,eval e X.env)::starEach es X.env:=by rfl) (hpl:(backTo pos (starEach es X.env)).any (·.1)=false:=by rfl):PE X (.Call (.Name x p) (e::es) [] pos) (Kd r t):=by
 intro a s c H Q I h
 refine wpAny_Call_Name_kw (kY I f u q ?_ m b)
 exact PyProof.Rows.callWith_type1 (c8 (i pos a s c H _ I h) λg j ⟨l,H1,n,o,d⟩=>k a j c H1 l g Q n o d) he hpl
end
section
variable{κ:Type}[DecidableEq κ]
def pB(a:List (κ×V))(k:κ):Option V:=(a.find? λb=>decide (b.1=k)).map (·.2)
def putK(a:List (κ×V))(k:κ)(v:V):List (κ×V):=
 if (a.any λb=>decide (b.1=k))=true then a.map (λb=>if b.1=k then(b.1,v) else b) else a++ [(k,v)]
def rA{p:κ×V}{r:List (κ×V)}{k:κ}(e:p.1=k):pB (p::r) k=some p.2:=by simp[pB,List.find?_cons,e]
def qG{p:κ×V}{r:List (κ×V)}{k:κ}(e:¬p.1=k):pB (p::r) k=pB r k:=by simp[pB,List.find?_cons,e]
theorem wO(k:κ):∀a:List (κ×V),(a.any λkv=>decide (kv.1=k))=(pB a k).isSome
 | []=>rfl
 | p::r=>by
   rw[List.any_cons]
   by_cases e:p.1=k
   · simp only[rA e,Qeq e,Bool.true_or,Option.isSome_some]
   · rw[qG e,Qdq e,Bool.false_or];exact wO k r
def iz(a:List (κ×V))(k:κ)(v:V):(putK a k v).length<=a.length+1:=by
 unfold putK
 split
 ·rw[lQm];omega
 ·rw[lQa,Qnq,QGq];omega
def qL.isSome_eq{o:Option V}{u:Option Value}(r:qL o u):o.isSome=u.isSome:=by
 cases o with
 | none=>cases u with
   |none=>rfl
   |some _=>exact(show False from r).elim
 | some _=>cases u with
   |none=>exact(show False from r).elim
   |some _=>rfl
def KV.val{a:List (κ×V)}{vs:List (κ×Value)}(r:KV a vs)(k:κ):qL (pB a k) (valueAt vs k):=by
 unfold KV at r
 induction r with
 |nil=>exact True.intro
 | @cons p q ps qs h t ih=>
   obtain⟨d,f⟩:=h
   by_cases e:p.1=k
   · have c:q.1=k:=d.symm.trans e
     have b:valueAt (q::qs) k=some q.2:=by simp[valueAt,List.find?_cons,c]
     rw[rA e,b];exact f
   · have c:¬q.1=k:=λz=>e (d.trans z)
     have b:valueAt (q::qs) k=valueAt qs k:=by simp[valueAt,List.find?_cons,c]
     rw[qG e,b];exact ih
theorem KV.any{a:List (κ×V)}{vs:List (κ×Value)}(r:KV a vs)(k:κ):(a.any λkv=>decide (kv.1=k))=vs.any λkv=>decide (kv.1=k):=by
 unfold KV at r
 induction r with
 |nil=>rfl
 |cons h t b=>rw[List.any_cons,List.any_cons,b,h.1]
def KV.repl{a:List (κ×V)}{vs:List (κ×Value)}(r:KV a vs)(k:κ){y:V}{u:Value}(d:RelV y u):
  KV (a.map λkv=>if kv.1=k then(kv.1,y) else kv) (vs.map λkv=>if kv.1=k then(kv.1,u) else kv):=by
 unfold KV at r⊢
 induction r with
 |nil=>exact .nil
 | @cons p q ps qs h t ih=>
   rw[QDq,QDq]
   refine .cons ?_ ih
   obtain⟨b,c⟩:=h
   by_cases e:p.1=k
   · rw[Qhq e,Qhq (b.symm.trans e)];exact⟨b,d⟩
   · rw[Quq e,Quq (λz=>e (b.trans z))];exact⟨b,c⟩
def KV.put{a:List (κ×V)}{vs:List (κ×Value)}(r:KV a vs)(k:κ){y:V}{u:Value}(b:RelV y u):KV (putK a k y) (stored vs k u):=by
 unfold putK stored
 rw[r.any k]
 by_cases e:(vs.any λc=>decide (c.1=k))=true
 ·rw[Qhq e,Qhq e];exact r.repl k b
 ·rw[Quq e,Quq e];exact Paired.snoc r ⟨rfl,b⟩
def KV.length{a:List (κ×V)}{vs:List (κ×Value)}(r:KV a vs):a.length=vs.length:=Paired.length r
end
def xw{P:Program}{w:World}{k:Key}{u:Value}(r:RelV (kV k) u):(bM P w).is k u=true:=by
 cases k with
 |inl i=>obtain⟨t,e⟩:=(show∃t,u=Value.int i t from r);subst e;exact xm P w i t
 |inr x=>obtain⟨t,e⟩:=(show∃t,u=Value.str x t from r);subst e;exact w5 P w x t
theorem uE{P:Program}{w:World}:∀{a:List Key} {b:List Value},bI (a.map kV) b->ItemsAre (bM P w) a b
 | [],_,r=>by rw[List.map_nil] at r;cases r;exact .nil
 | k::a,_,r=>by
   rw[QDq] at r
   cases r with
   |cons h t=>exact .cons (xw h) (uE t)
abbrev KT(H:Hp):List (List Key×V)->List (List Key×Addr×Value)->Prop:=Paired λp q=>p.1=q.1/\H q.2.1=some (.tup (p.1.map kV))/\RelV p.2 q.2.2
def KT.val{H:Hp}{a:List (List Key×V)}{xs:List (List Key×Addr×Value)}(r:KT H a xs)(k:List Key):qL (pB a k) ((atKey xs k).map (·.2)):=by
 induction r with
 |nil=>exact True.intro
 | @cons p q ps qs h t ih=>
   obtain⟨d,_,f⟩:=h
   by_cases e:p.1=k
   · have c:q.1=k:=d.symm.trans e
     have b:atKey (q::qs) k=some q.2:=by simp[atKey,List.find?_cons,c]
     rw[rA e,b];exact f
   · have c:¬q.1=k:=λz=>e (d.trans z)
     have b:atKey (q::qs) k=atKey qs k:=by simp[atKey,List.find?_cons,c]
     rw[qG e,b];exact ih
def KT.repl{H:Hp}{a:List (List Key×V)}{xs:List (List Key×Addr×Value)}(r:KT H a xs)(k:List Key){y:V}{u:Value}(d:RelV y u):
  KT H (a.map λkv=>if kv.1=k then(kv.1,y) else kv) (xs.map (putAt k u)):=by
 induction r with
 |nil=>exact .nil
 | @cons p q ps qs h t ih=>
   rw[QDq,QDq]
   refine .cons ?_ ih
   obtain⟨b,c,f⟩:=h
   unfold putAt
   by_cases e:p.1=k
   · rw[Qhq e,Qhq (b.symm.trans e)];exact⟨b,c,d⟩
   · rw[Quq e,Quq (λz=>e (b.trans z))];exact⟨b,c,f⟩
def KT.put{H:Hp}{a:List (List Key×V)}{xs:List (List Key×Addr×Value)}(r:KT H a xs)(k:List Key){b:Addr}{y:V}{u:Value}(d:H b=some (.tup (k.map kV)))(c:RelV y u):
  KT H (putK a k y) (storedH xs k b u):=by
 have e:(a.any λf=>decide (f.1=k))=(atKey xs k).isSome:=by
  rw[wO,(r.val k).isSome_eq,Option.isSome_map]
 unfold putK storedH
 rw[e]
 by_cases q:(atKey xs k).isSome=true
 ·rw[Qhq q,Qhq q];exact r.repl k c
 ·rw[Quq q,Quq q];exact Paired.snoc r ⟨rfl,d,c⟩
def KT.keeps{H c:Hp}{a:List (List Key×V)}{xs:List (List Key×Addr×Value)}(r:KT H a xs)(ht:∀b ys,H b=some (.tup ys)->c b=some (.tup ys)):KT c a xs:=
 Paired.mapP r λ_ _ z=>⟨z.1,ht _ _ z.2.1,z.2.2⟩
section
variable{P:Program}{w:World}{H:Hp}{h:Heap}{a:Addr}
def F6{u:HO}(ok:m3 P w H h)(e:Rd H a u):cC P w H h a u:=e.ok ok
def CD{b:List (Key×V)}(ok:m3 P w H h)(e:Rd H a (.dK b)):b.length<=sizeLine/\(a==sysModules)=false/\∃vs,KV b vs/\h.DictOf (bM P w) a vs:=
 show cC P w H h a (.dK b) from F6 ok e
def Am{b:List (Key×V)}(ok:m3 P w H h)(e:H a=some (.dK b)):b.length<=sizeLine/\(a==sysModules)=false/\∃vs,KV b vs/\h.DictOf (bM P w) a vs:=CD ok (.inl e)
def yC{b:List Key}(ok:m3 P w H h)(e:H a=some (.tup (b.map kV))):(tupleKind (bM P w)).is h b a:=by
 obtain⟨_,c,r,o,d,f,_,n,g⟩:=(show cC P w H h a (.tup (b.map kV)) from ok a _ e)
 exact⟨o,c.toArray,n,d,f,g,by simpa using uE r⟩
def Ec{b:List (List Key×V)}(ok:m3 P w H h)(e:Rd H a (.dT b)):b.length<=sizeLine/\(a==sysModules)=false∧
  ∃xs,KT H b xs/\h.DictOfH (tupleKind (bM P w)) a xs:=by
 obtain⟨z,y,xs,r,o,i,s,f,j,k,g,n⟩:=(show cC P w H h a (.dT b) from F6 ok e)
 refine⟨z,y,xs,r,o,i,s,f,j,k,g,λx c=> ?_,n⟩
 have d:∀{l:List (List Key×V)} {m:List (List Key×Addr×Value)},KT H l m->∀x∈m,(tupleKind (bM P w)).is h x.1 x.2.1:=by
  intro l m q
  induction q with
  |nil=>intro x c;exact nomatch c
  | @cons p q ps qs hq t ih=>
    intro x c
    rcases Qsq.mp c with e|c
    · subst e
      exact yC ok (by rw[←hq.1];exact hq.2.1)
    · exact ih x c
 exact d r x c
def JB{b:List (List Key×V)}(ok:m3 P w H h)(e:H a=some (.dT b)):b.length<=sizeLine/\(a==sysModules)=false∧
  ∃xs,KT H b xs/\h.DictOfH (tupleKind (bM P w)) a xs:=Ec ok (.inl e)
end
def Bn(H:Hp)(a:Addr)(y:V)(r:Option V):Prop:=
 (∃c k,Rd H a (.dK c)/\y=kV k/\r=pB c k)\/∃c k b,Rd H a (.dT c)/\y=.ref b/\H b=some (.tup (k.map kV))/\r=pB c k
def Ck(H:Hp)(a:Addr)(y v:V)(d:Hp):Prop:=
 (∃c k,H a=some (.dK c)/\y=kV k/\c.length<sizeLine/\d=upd H a (.dK (putK c k v)))∨
 ∃c k b,H a=some (.dT c)/\y=.ref b/\H b=some (.tup (k.map kV))/\c.length<sizeLine/\d=upd H a (.dT (putK c k v))
def Bn.k{H:Hp}{a:Addr}{b:List (Key×V)}{k:Key}(e:H a=some (.dK b)):Bn H a (kV k) (pB b k):=.inl ⟨b,k,.inl e,rfl,rfl⟩
def Ck.k{H:Hp}{a:Addr}{b:List (Key×V)}{k:Key}{v:V}(e:H a=some (.dK b))(hl:b.length<sizeLine):Ck H a (kV k) v (upd H a (.dK (putK b k v))):=.inl ⟨b,k,e,rfl,hl,rfl⟩
section
variable{X:Cx}{pins:List (Addr×Obj)}{σ:St}{H:Hp}{s:Shared}{a:Addr}{y v:V}{u r:Value}{o:Option V}{A:Around}{E:Value->Shared->Prop}
def Inv.big(I:Inv X pins σ H s):sysModules<s.heap.objs.size:=by
 have h:mainGlobals<s.heap.objs.size:=(I.mod.glob.keeps I.bk).lt
 exact Nat.lt_trans (by decide) h
def A_{Q:Value->Shared->Prop}(K:A.units+1<cLine)(I:Inv X pins σ H s)(g:Bn H a y (some v))(t:RelV y u)(h:∀f x,Inv X pins σ H x->RelV v f->Q f x):
  wpAny (model X.prog X.w) A (getItem (.ref a) u) Q E s:=by
 rcases g with⟨q,k,e,m,l⟩|⟨q,k,b,e,m,C,l⟩
 ·subst m
  obtain⟨z,B,F,c,j⟩:=CD I.hok e
  obtain⟨f,n,d⟩:=qL.some_of (v:=v) (o:=valueAt F k) (by rw[l];exact c.val k)
  exact wpAny_getItem_of (xw t) j.mapOf n (h f _ (I.tok _) d)
 ·subst m
  cases (show u=Value.ref b from t)
  obtain⟨z,B,G,c,j⟩:=Ec I.hok e
  obtain⟨f,n,d⟩:=qL.some_of (v:=v) (o:=(atKey G k).map (·.2)) (by rw[l];exact c.val k)
  obtain⟨p,J,i⟩:=oQm.mp n
  refine wpAny_getItem_heap (tupleKind_room_in1 K) (yC I.hok C) j J ?_
  rw[i]
  exact h f _ (I.tok _) d
def qB{h':Heap}{t':Nat}{c:HO}(I:Inv X pins σ H s)(d:Jj (H a))(f:Heap.SameBut a s.heap h')(he:∃q,h'.get? a=some q)(new:cC X.prog X.w (upd H a c) h' a c):
  Inv X pins σ (upd H a c) {s with heap:=h',toks:=t'}:=
 I.write (x:=a) (e:=a) d (.inl rfl) (λb q g z=>(f.2 b g).trans z) he new
def sA{P:Program}{w:World}{e:Hp}{h':Heap}{b:List (Key×V)}{vs:List (Key×Value)}(z:b.length<=sizeLine)(hd:(a==sysModules)=false)(c:KV b vs)(d:h'.DictOf (bM P w) a vs):
  cC P w e h' a (.dK b):=⟨z,hd,vs,c,d⟩
def Br{G:Hp}{Q:Unit->Shared->Prop}(Z:A.units+1<cLine)(I:Inv X pins σ H s)(g:Ck H a y v G)(J:RelV y u)(F:RelV v r)(h:∀K,Inv X pins σ G K->Q () K):
  wpAny (model X.prog X.w) A (setItem (.ref a) u r) Q E s:=by
 rcases g with⟨d,k,e,p,l,B⟩|⟨d,k,b,e,p,C,l,B⟩
 ·subst p B
  obtain⟨z,m,S,f,n⟩:=Am I.hok e
  have x:S.length<=sizeLine:=by rw[←f.length];exact z
  have hl:(putK d k v).length<=sizeLine:=by have:=iz d k v;omega
  refine wpAny_setItem_pairs (hsz:=x) (xw J) n λM i t=>h _ ?_
  have P:∃q,M.get? a=some q:=let ⟨q,_,_,j,_⟩:=i;⟨q,j⟩
  exact qB I (by rw[e];exact True.intro) t P (sA hl m (f.put k F) i)
 ·subst p B
  cases (show u=Value.ref b from J)
  obtain⟨z,m,U,f,n⟩:=JB I.hok e
  have x:U.length<=sizeLine:=by rw[←Paired.length f];exact z
  have hl:(putK d k v).length<=sizeLine:=by have:=iz d k v;omega
  refine wpAny_setItem_heap (hsz:=x) (tupleKind_room_in1 Z) (yC I.hok C) n λM i t=>h _ ?_
  obtain⟨q,R,ep,j,W,Y,N,_,h5⟩:=i
  refine qB I (by rw[e];exact True.intro) t ⟨q,j⟩ ⟨hl,m,_,(f.put k C F).keeps λc ys L=> ?_,q,R,ep,j,W,Y,N,h5⟩
  rw[bh (Dm L e (λz=>nomatch z))]
  exact L
end
def FQ(i:Expr):Prop:=∀b a,subscripted i false b a=operate [b,a] (getItem b a)
def Ag{prog:Program}{w:World}{A:Around}{E:Value->Shared->Prop}{s:Shared}{env:Env}{b a:Expr}{pos:Pos}{T id:String}{Q:Value->Shared->Prop}
  (hl:typeLookup (.type T) "__getitem__"=pure (some (.builtin id))) (m:FQ a)
  (h:wpAny (model prog w) A (eval b env) (λo e=>wpAny (model prog w) A (eval a env) (λi c=>c.TypeIs o T/\wpAny (model prog w) A (getItem o i) Q E c) E e) E s):
  wpAny (model prog w) A (eval (.Subscript b a pos) env) Q E s:=by
 refine Subscript_ (QRq h (λo e k=>QRq k (λi c d=> ?_) λ_ _ x=>x) λ_ _ x=>x)
 obtain⟨l,d⟩:=d
 unfold subscriptTail
 refine Qaq ?_
 rw[getitemInPython_of_ne l.not_modules]
 refine Qaq (wpAny_specialOf l hl ?_)
 have g:wpAny (model prog w) A (subscripted a false o i) (λr f=>wpAny (model prog w) A (letTemporaryGo b o r >>= λ_=>pure r) Q E f) E c:=by
  rw[m o i]
  exact wpAny_operating (QRq d (λr f j=>Qaq (wpAny_letTemporaryGo (Qgq j))) λ_ _ x=>x)
 first
  |exact Qgq (Qaq g)
  |exact Qaq (Qgq (Qaq g))
  |exact Qaq g
def x8{X:Cx}{c:List (Addr×Obj)}{h:St}{H:Hp}{s:Shared}{a:Addr}{y:V}{o:Option V}(I:Inv X c h H s)(g:Bn H a y o):s.TypeIs (.ref a) "dict":=by
 rcases g with⟨f,k,e,_,_⟩|⟨f,k,b,e,_,_,_⟩
 ·obtain⟨_,_,j,_,d⟩:=CD I.hok e
  exact d.typeIs
 ·obtain⟨_,_,i,_,d⟩:=Ec I.hok e
  exact d.typeIs
def Jd(d c:TE):TE:=λb H Q=>d b H λx H1=>c b H1 λy H2=>∃a v,x=.ref a/\Bn H2 a y (some v)/\Q v H2
def Jh(e d c:TE):TS:=λD b H=>c b H λv H1=>e b H1 λx H2=>d b H2 λy H3=>∃a H4,x=.ref a/\Ck H3 a y v H4/\D.nx b H4
section
variable{X:Cx}{o i e value:Expr}{pos pos' tpos:Pos}{td ty tv:TE}
def FR(q:X.A.units+1<cLine)(z:PE X o td)(hi:PE X i ty)(n:FQ i):PE X (.Subscript o i pos) (Jd td ty):=by
 intro b s d H Q I h
 refine Ag PySem.F.slot_dict_getitem.lookup n (c8 (z b s d H _ I h) λu l ⟨x,H1,t,B,k⟩=>c8 (hi b l d H1 _ t k) λC G j=> ?_)
 obtain⟨y,H2,f,p,a,v,m,g,w⟩:=j
 subst m
 obtain rfl:u=Value.ref a:=B
 exact⟨x8 f g,A_ q f g p λK J r c=>⟨v,H2,r,c,w⟩⟩
def Fl(t:X.A.units+1<cLine)(F:PE X o td)(hi:PE X i ty)(C:PE X value tv)(p:swapsWith value (some (.Subscript o i pos')) pos.line X.env=pure false):
  PS X (.Assign [.Subscript o i pos'] value pos) (Jh td ty tv):=by
 intro b s c H D I h
 refine wpAny_Assign_Subscript (c8 (C b s c H _ I h) λr m ⟨v,H1,z,j,f⟩=>c8 (F b m c H1 _ z f) λu d ⟨x,H2,k,G,B⟩=>c8 (hi b d c H2 _ k B) λK M ⟨y,H3,w,q,a,H4,n,g,J⟩=> ?_) p
 subst n
 obtain rfl:u=Value.ref a:=G
 exact Br t w g q j λL l=>⟨c,H4,l,J⟩
end
def Cv{P:Program}{w:World}{H:Hp}(h:Heap)(a:sysModules<h.objs.size):cC P w H (h.push {cls:=.type "dict",data:=.dict #[]}) h.objs.size (.dK []):=
 ⟨Nat.zero_le _,beq_eq_false_iff_ne.mpr (Ne.symm (Qwq a)),[],.nil,Heap.DictOf.new h⟩
def Ho:TE:=λ_ H Q=>∀p,H p=none->Q (.ref p) (upd H p (.dK []))
section
variable{X:Cx}{pos:Pos}
def Cw:PE X (.Dict [] [] pos) Ho:=λb s c H Q I h=>
 wpAny_Dict_empty ⟨.ref s.heap.objs.size,_,I.laid (a:=s.heap.objs.size) (o:=.dK []) (t':=s.toks) (λ_ _ q=>Qcq _ q) (Qmq _) (Cv s.heap I.big),rfl,h _ (I.hok.fresh (Qmq _))⟩
end
def jU(b more:List (Key×V)):List (Key×V):=more.foldl (λa c=>putK a c.1 c.2) b
def KV.merge:∀{more:List (Key×V)} {rs:List (Key×Value)} {a:List (Key×V)} {vs:List (Key×Value)},KV more rs->KV a vs->KV (jU a more) (merged vs rs):=by
 intro more rs a vs r
 unfold KV at r
 induction r generalizing a vs with
 |nil=>intro q;exact q
 | @cons p q ps qs h t ih=>
   intro b
   have e:KV (putK a p.1 p.2) (stored vs q.1 q.2):=by
     have:=b.put p.1 h.2
     rw[←h.1];exact this
   exact ih e
theorem iW:∀(more a:List (Key×V)),(jU a more).length<=a.length+more.length
 | [],a=>by show a.length<=a.length+0;omega
 | p::r,a=>by
   have b:=iW r (putK a p.1 p.2)
   have c:=iz a p.1 p.2
   show(jU (putK a p.1 p.2) r).length<=_
   rw[Qnq];omega
end L2
namespace HT
open PySem PyProof.Rows
section
open PySem.SeqAt
open PySem.AutoSeq1 (wpAny_loadPart')
open PySem.MeetsSeq PySem.MeetsSeq2 PySem.MeetsSeq3
end
section
variable{prog:Program}{w:World}{A:Around}{E:Value->Shared->Prop}{s:Shared}
def FU{t b:Addr}{vs ws:List Value}{Q:Value->Shared->Prop}(ht:IsTup s.heap t vs.toArray)(x:IsTup s.heap b ws.toArray)(r:vs≠[])
  (u:ws= []->Q (.ref t) s) (v:ws≠[]->Q (.ref s.heap.objs.size) {s with heap:=s.heap.push {cls:=.type "tuple",data:=.seq (vs++ws).toArray}})
  (hsz:vs.length+ws.length<=sizeLine):wpAny (model prog w) A (binaryOp .Add (.ref t) (.ref b)) Q E s:=by
 obtain⟨⟨cls,p,data,m⟩,i,q,n,l⟩:=id ht
 obtain⟨⟨k,f,j,d⟩,a,c,o,g⟩:=id x
 simp only at q l c g
 subst q l c g
 have e:vs.toArray++ws.toArray=(vs++ws).toArray:=by simp
 by_cases h:ws= []
 ·exact concat_meets ⟨_,i,rfl⟩ ⟨_,a,rfl⟩ noFill_tuple_add seq_tuple_add PySem.F.slot_tuple_add PySem.F.entry_tuple_add (PySem.F.args_tuple_add_2 _ _)
   (tuple_addW1 t b vs.toArray ws.toArray n o p f m d (by simpa using r) (by simp[h])) ⟨i,a,u h⟩
 ·refine concat_meets ⟨_,i,rfl⟩ ⟨_,a,rfl⟩ noFill_tuple_add seq_tuple_add PySem.F.slot_tuple_add PySem.F.entry_tuple_add (PySem.F.args_tuple_add_2 _ _)
   (tuple_addW2 t b vs.toArray ws.toArray n o p f m d (by simpa using r) (by simpa using h) (by rw[Qjq,Qjq];exact hsz)) ⟨i,a,?_⟩
  rw[e]
  exact v h
def dF(n d:Nat):Option Int->Nat
 |none=>d
 |some v=>if v<0 then(v+(n:Int)).toNat else min v.toNat n
def qT(n d:Nat):dF n d none=d:=rfl
def qk(n d k:Nat):dF n d (some (k:Int))=min k n:=by
 show(if (k:Int)<0 then((k:Int)+(n:Int)).toNat else min (k:Int).toNat n)=min k n
 rw[Quq (by omega),Int.toNat_natCast]
def HQ(n d:Nat)(hd:d<=n)(o:Option Int):dF n d o<=n:=by
 cases o with
 |none=>exact hd
 | some v=>
   show(if v<0 then(v+(n:Int)).toNat else min v.toNat n)<=n
   by_cases a:v<0
   · rw[Qhq a];omega
   · rw[Quq a];exact Nat.min_le_right _ _
def AE(v:Int)(n d:Nat):(if v<0 then max (v+(n:Int)) 0 else min v (n:Int))=((dF n d (some v):Nat):Int):=by
 show(if v<0 then max (v+(n:Int)) 0 else min v (n:Int))=(((if v<0 then(v+(n:Int)).toNat else min v.toNat n):Nat):Int)
 by_cases a:v<0
 ·simp only[Qhq a];omega
 ·simp only[Quq a];omega
def zh(lo hi:Option Int)(n:Nat):Builtin.Slice.sliceAdjust lo hi 1 (n:Int)=(((dF n 0 lo:Nat):Int),((dF n n hi:Nat):Int)):=by
 have a:¬((1:Int)<0):=by omega
 unfold Builtin.Slice.sliceAdjust
 simp only[a,if_false]
 refine Prod.ext ?_ ?_
 ·cases lo with
  |none=>rfl
  |some v=>exact AE v n 0
 ·cases hi with
  |none=>rfl
  |some v=>exact AE v n n
def zc(i j:Nat):Builtin.Slice.slicePlaces (i:Int) (j:Int) 1=j-i:=by
 unfold Builtin.Slice.slicePlaces
 have a:(1:Int)>0:=by omega
 simp only[a,if_true,Int.ediv_one]
 split <;>omega
def qI{v:Value}{o:Option Int}{Q:Option Int->Shared->Prop}(p:IsPart v o)(h:Q o s):wpAny (model prog w) A (Builtin.Slice.slicePartIndex v) Q E s:=by
 cases p with
 |none=>exact slicePart_none h
 |int i t=>exact slicePart_int h
def jn{e:Addr}{c d:Value}{lo hi:Option Int}{n:Nat}{Q:Int×Int×Nat->Shared->Prop}(g:s.heap.IsSliceOf e c d .none)(f:IsPart c lo)(j:IsPart d hi)
  (h:Q (((dF n 0 lo:Nat):Int),1,dF n n hi-dF n 0 lo) s):wpAny (model prog w) A (Builtin.Slice.sliceApplied (.ref e) (pure (n:Int))) Q E s:=by
 obtain⟨k,b,i,a⟩:=id g
 unfold Builtin.Slice.sliceApplied Builtin.Slice.sliceFields
 refine Qaq (Qaq (QMq b a (x:=c) rfl (Qaq (QMq b a (x:=d) rfl (Qaq (QMq b a (x:=.none) rfl (Qgq ?_)))))))
 refine Qaq (slicePart_none ?_)
 show wpAny _ _ (if ((1:Int)==0)=true then _ else _) _ _ s
 rw[Quq (by decide)]
 refine Qaq (qI f (Qaq (qI j (Qaq (Qgq ?_)))))
 show wpAny _ _ (match Builtin.Slice.sliceAdjust lo hi 1 (n:Int) with|(lo,hi)=>pure (lo,(1:Int),Builtin.Slice.slicePlaces lo hi 1)) _ _ s
 rw[zh lo hi n]
 show wpAny _ _ (pure (((dF n 0 lo:Nat):Int),(1:Int),Builtin.Slice.slicePlaces ((dF n 0 lo:Nat):Int) ((dF n n hi:Nat):Int) 1)) _ _ s
 rw[zc]
 exact Qgq h
def Cu(xs:Array Value)(i k:Nat):((List.range k).filterMap λ(m:Nat)=>xs[((i:Int)+(m:Int)*1).toNat]?).toArray=((xs.toList.drop i).take k).toArray:=by
 have e:(λ(m:Nat)=>xs[((i:Int)+(m:Int)*1).toNat]?)=λm=>xs[i+m]? :=by
  funext m
  have:((i:Int)+(m:Int)*1).toNat=i+m:=by omega
  rw[this]
 rw[e]
 have:=pick_run xs i k
 rw[List.filterMap_map] at this
 have a:((λx=>xs[x]?)∘λx=>i+x)=λm=>xs[i+m]? :=rfl
 rw[a] at this
 rw[this]
def nL{t b:Addr}{items:Array Value}{i g:Value}{lo hi:Option Int}{Q:Value->Shared->Prop}(ht:IsTup s.heap t items)(j:s.heap.IsSliceOf b i g .none)(p:IsPart i lo)(n:IsPart g hi)
  (l:¬(dF items.size 0 lo=0/\dF items.size items.size hi=items.size))
  (h:Q (.ref s.heap.objs.size) {s with heap:=s.heap.push {cls:=.type "tuple",data:=.seq ((items.toList.drop (dF items.size 0 lo)).take (dF items.size items.size hi-dF items.size 0 lo)).toArray}})
  (hsz:items.size<=sizeLine):wpAny (model prog w) A (getItem (.ref t) (.ref b)) Q E s:=by
 have a:sizeOk (.seq ((items.toList.drop (dF items.size 0 lo)).take (dF items.size items.size hi-dF items.size 0 lo)).toArray):=by
  show((items.toList.drop (dF items.size 0 lo)).take (dF items.size items.size hi-dF items.size 0 lo)).toArray.size<=sizeLine
  rw[Qjq,Qxq,List.length_drop,Array.length_toList]
  omega
 have v:dF items.size items.size hi<=items.size:=HQ _ _ (Qmq _) hi
 obtain⟨o,c,e,k⟩:=id j
 have d:s.TypeIs (.ref b) "slice":=⟨o,c,e⟩
 unfold getItem
 try with_reducible refine QLq ?_
 first|refine Qaq (Qgq ?_)|skip
 refine Qaq (wpAny_sequenceKey ht.typeIs (by decide) ?_)
 refine Qaq (QiQ (name:=Str.ofString "__getitem__") ht.typeIs PyProof.Rows.slot_tuple_getitem
  (wpAny_call_entry PyProof.Rows.slot_tuple_getitem ht.typeIs entry_tuple_getitem ?_ (args_tuple_getitem _ _)))
 show wpAny _ _ (Builtin.Tuple.tupleItemsOf (.ref t) >>= _) _ _ s
 refine Qaq (tupleItemsOf_ ht ?_)
 refine Qaq (wpAny_typeOf d ?_)
 rw[Qhq (by decide)]
 refine Qaq (jn j p n ?_)
 have f:¬((((dF items.size 0 lo:Nat):Int)==0&&(1:Int)==1&&(dF items.size items.size hi-dF items.size 0 lo)==items.size)=true):=by
  intro q
  rw[QCq,QCq] at q
  have r:((dF items.size 0 lo:Nat):Int)=0:=eq_of_beq q.1.1
  have u:dF items.size items.size hi-dF items.size 0 lo=items.size:=eq_of_beq q.2
  exact l ⟨by omega,by omega⟩
 show wpAny _ _ (if (((dF items.size 0 lo:Nat):Int)==0&&(1:Int)==1&&(dF items.size items.size hi-dF items.size 0 lo)==items.size)=true then _ else _) _ _ s
 rw[Quq f,Cu]
 first
  |exact Qaq (m:=Builtin.Tuple.tupleExact _) (QhQ (Qgq ⟨_,rfl,Qgq h⟩) a)
  |exact Qaq (m:=Builtin.Tuple.tupleExact _) (QhQ (Qaq (Qgq (Qgq ⟨_,rfl,Qgq h⟩))) a)
  |exact Qaq (Qaq (m:=Builtin.Tuple.tupleExact _) (QhQ (Qgq (Qgq ⟨_,rfl,Qgq h⟩)) a))
  |exact Qaq (Qaq (m:=Builtin.Tuple.tupleExact _) (QhQ (Qgq ⟨_,rfl,Qgq h⟩) a))
end
end HT
namespace L2
open PySem PySem.Spec PyProof.Rows
abbrev TO:=St->Hp->(Option Int->Hp->Prop)->Prop
def PO(X:Cx)(e:Option Expr)(t:TO):Prop:=
 ∀ (a:List (Addr×Obj)) (s:Shared) (b:St) (H:Hp) (Q:Option Int->Hp->Prop),Inv X a b H s->t b H Q→
   wpAny (model X.prog X.w) X.A (evalPart e X.env) (λu d=>∃o c,Inv X a b c d/\IsPart u o/\Q o c) X.xe s
def FX:TO:=λ_ H Q=>Q none H
def IW(t:TE):TO:=λa H Q=>t a H λx H1=>∃i,x=.int i/\Q (some i) H1
section
variable{X:Cx}{e:Expr}{te:TE}{lo hi:Option Expr}{tl th:TO}{pos p2:Pos}
def Fm:PO X none FX:=by
 intro a s b H Q I h
 rw[evalPart_none]
 exact Qgq ⟨none,H,I,.none,h⟩
def FE(h:PE X e te):PO X (some e) (IW te):=by
 intro a s j H Q I b
 rw[evalPart_some]
 refine c8 (h a s j H _ I b) λu k f=> ?_
 obtain⟨x,H1,d,c,g⟩:=f
 obtain⟨i,rfl,q⟩:=g
 obtain⟨t,rfl⟩:=c
 exact⟨some i,H1,d,.int i t,q⟩
def J5(X:Cx)(r:V->Option Int->Option Int->Hp->VK->Prop):Prop:=
 ∀ (a:List (Addr×Obj)) (s:Shared) (c:St) (H:Hp) (x:V) (v b f:Value) (lo hi:Option Int) (d:Addr) (Q:VK),Inv X a c H s->RelV x v->s.heap.IsSliceOf d b f .none->IsPart b lo->IsPart f hi->r x lo hi H Q→
   ∃T id,typeLookup (.type T) "__getitem__"=pure (some (.builtin id))/\s.TypeIs v T/\wpAny (model X.prog X.w) X.A (getItem v (.ref d)) (EP X a c Q) X.xe s
def L6(r:V->Option Int->Option Int->Hp->VK->Prop)(te:TE)(tl th:TO):TE:=λa H Q=>te a H λx H1=>tl a H1 λl H2=>th a H2 λu H3=>r x l u H3 Q
def wZ{r:V->Option Int->Option Int->Hp->VK->Prop}(m:J5 X r)(he:PE X e te)(hl:PO X lo tl)(t:PO X hi th):PE X (.Subscript e (.Slice lo hi none p2) pos) (L6 r te tl th):=by
 intro a s d H Q I h
 refine Subscript_ (c8 (he a s d H _ I h) λv p i=> ?_)
 obtain⟨x,H1,B,C,k⟩:=i
 refine wpAny_Slice (c8 (hl a p d H1 _ B k) λg j ⟨l,H2,n,G,F⟩=>c8 (t a j d H2 _ n F) λf c i=> ?_)
 obtain⟨u,H3,z,y,J⟩:=i
 rw[evalPart_none]
 refine Qgq ?_
 have o:Inv X a d H3 {c with heap:=c.heap.push {cls:=.type "slice",data:=.fields #[g,f,.none]}}:=z.kept (t':=c.toks) λb K q=>Qcq _ q
 obtain⟨T,id,hT,ht,hg⟩:=m a {c with heap:=c.heap.push {cls:=.type "slice",data:=.fields #[g,f,.none]}} d H3 x v g f l u c.heap.objs.size Q o C (Heap.IsSliceOf.new ..) G y J
 show wpAny (model X.prog X.w) X.A (subscriptTail e (.Slice lo hi none p2) v (.ref c.heap.objs.size)) (EP X a d Q) X.xe {c with heap:=c.heap.push {cls:=.type "slice",data:=.fields #[g,f,.none]}}
 exact tail_any (ops:= [.ref c.heap.objs.size,v]) ht hT hg (by with_unfolding_all rfl)
def va(xs:List V)(lo hi:Option Int):List V:=(xs.drop (HT.dF xs.length 0 lo)).take (HT.dF xs.length xs.length hi-HT.dF xs.length 0 lo)
def pV(xs:List V)(lo hi:Option Int):(va xs lo hi).length<=xs.length:=by
 unfold va
 rw[Qxq,List.length_drop]
 omega
def K1(K:PySem.W.Frag):V->Option Int->Option Int->Hp->VK->Prop:=λx lo hi H Q=>∃a b,x=.ref a/\hG K H a b∧
 ¬(HT.dF b.length 0 lo=0/\HT.dF b.length b.length hi=b.length)/\∀p,H p=none->Q (.ref p) (upd H p (.tup (va b lo hi)))
def GM:J5 X (K1 X.K):=by
 intro g s p H x v y w lo hi u Q I n k m l h
 obtain⟨a,d,rfl,hx,hw,q⟩:=h
 cases n
 obtain⟨f,r,i,j⟩:=I.tuple hx
 have c:f.toArray.size=d.length:=by rw[Qjq];exact r.length.symm
 refine⟨"tuple",_,PyProof.Rows.slot_tuple_getitem.lookup,i.typeIs,?_⟩
 refine HT.nL i k m l (by rw[c];exact hw) ?_ (by rw[c];exact j)
 rw[c]
 refine⟨.ref s.heap.objs.size,_,I.laid (t':=s.toks) (o:=.tup (va d lo hi)) (λb t q=>Qcq _ q) (Qmq _) ?_,rfl,q _ (I.hok.fresh (Qmq _))⟩
 exact⟨QAq (pV d lo hi) j,_,(r.drop (HT.dF d.length 0 lo)).take (HT.dF d.length d.length hi-HT.dF d.length 0 lo),sW.new _ _⟩
def F9(K:PySem.W.Frag):R2:=λx y H Q=>∃a b d c,x=.ref a/\y=.ref b/\hG K H a d/\hG K H b c/\d≠[]/\d.length+c.length<=sizeLine∧
 (c= []->Q (.ref a) H)/\(c≠[]->∀p,H p=none->Q (.ref p) (upd H p (.tup (d++c))))
def bI.nil_iff{xs:List V}{a:List Value}(r:bI xs a):a= []↔xs= []:=by
 cases r with
 |nil=>simp
 |cons _ _=>simp
def FW:jO X (binaryOp .Add) (F9 X.K):=by
 intro f s p H x y v u Q I n l h
 obtain⟨a,b,k,i,rfl,rfl,ha,hb,hx,hz,q1,q2⟩:=h
 cases n
 cases l
 obtain⟨j,d,m,_⟩:=I.tuple ha
 obtain⟨g,c,p2,_⟩:=I.tuple hb
 refine HT.FU m p2 (λz=>hx (d.nil_iff.mp z)) (λz=>⟨.ref a,H,I,rfl,q1 (c.nil_iff.mp z)⟩) (λz=> ?_) (by rw[←d.length,←c.length];exact hz)
 refine⟨.ref s.heap.objs.size,_,I.laid (t':=s.toks) (o:=.tup (k++i)) (λb r q=>Qcq _ q) (Qmq _) ?_,rfl,q2 (λw=>z (c.nil_iff.mpr w)) _ (I.hok.fresh (Qmq _))⟩
 exact⟨by rw[lQa];exact hz,_,d.append c,sW.new _ _⟩
end
def Ep(n:Nat)(i:Int):Option Nat:=if 0<=i then(if i<n then some i.toNat else none) else if -(n:Int)<=i then some (i+n).toNat else none
def kh{α:Type}(xs:List α)(i:Int):Option α:=(Ep xs.length i).bind λj=>xs[j]?
def AN{n:Nat}{i:Int}{j:Nat}(h:Ep n i=some j):seqIndex? i n=some j/\j<n/\ -(n:Int)<=i/\i<n:=by
 unfold Ep at h
 by_cases b:0<=i
 ·rw[Qhq b] at h
  by_cases a:i<n
  ·rw[Qhq a] at h
   have e:i.toNat=j:=QdQ h
   exact⟨by rw[seqIndex_of b a,e],by omega,by omega,a⟩
  ·rw[Quq a] at h;cases h
 ·rw[Quq b] at h
  by_cases a: -(n:Int)<=i
  ·rw[Qhq a] at h
   have e:(i+n).toNat=j:=QdQ h
   exact⟨by rw[seqIndex_neg (by omega) a,e],by omega,a,by omega⟩
  ·rw[Quq a] at h;cases h
def u5{α:Type}{xs:List α}{i:Int}{v:α}(h:kh xs i=some v):∃j,seqIndex? i xs.length=some j/\xs[j]?=some v/\j<xs.length/\ -(xs.length:Int)<=i/\i<xs.length:=by
 unfold kh at h
 cases e:Ep xs.length i with
 |none=>rw[e] at h;cases h
 | some j=>
   rw[e] at h
   obtain⟨a,b,d,c⟩:=AN e
   exact⟨j,a,h,b,d,c⟩
def AD(b:Expr):Prop:=∀o i,subscripted b false o i=operate [o,i] (getItem o i)
def E6(X:Cx)(r:R2):Prop:=
 ∀ (c a:Expr) (b:List (Addr×Obj)) (s:Shared) (d:St) (H:Hp) (x y:V) (v u:Value) (Q:VK),Inv X b d H s->RelV x v->RelV y u->r x y H Q→
   subscripted a false v u=operate [v,u] (getItem v u)->wpAny (model X.prog X.w) X.A (subscriptTail c a v u) (EP X b d Q) X.xe s
def KU(X:Cx)(id:String)(r:V->List V->Hp->VK->Prop):Prop:=
 ∀ (a:List (Addr×Obj)) (s:Shared) (c:St) (H:Hp) (x:V) (b:List V) (v:Value) (d:List Value) (Q:VK),Inv X a c H s->RelV x v->bI b d->r x b H Q→
   wpAny (model X.prog X.w) X.A (call (.builtin id) (v::d)) (EP X a c Q) X.xe s
section
variable{X:Cx}{a b:Expr}{ta tb:TE}{pos:Pos}
def E6.or{r j:R2}(h:E6 X r)(h':E6 X j):E6 X (λx y H Q=>r x y H Q\/j x y H Q):=by
 intro d c e s f H x y v u Q I k i q g
 rcases q with q|q
 ·exact h d c e s f H x y v u Q I k i q g
 ·exact h' d c e s f H x y v u Q I k i q g
def JV{r:R2}(e:E6 X r)(i:PE X a ta)(l:PE X b tb)(j:AD b):PE X (.Subscript a b pos) (Fy r ta tb):=by
 intro c s f H Q I h
 exact Subscript_ (GK i l I h λv u d x y H2 g m k q=>e a b c d f H2 x y v u Q g m k q (j _ _))
def JA(K:PySem.W.Frag):R2:=λx y H Q=>∃p c i v,x=.ref p/\y=.int i/\jg K H p c/\kh c i=some v/\Q v H
def Ip(K:PySem.W.Frag):R2:=λx y H Q=>∃p c i v,x=.ref p/\y=.int i/\hG K H p c/\kh c i=some v/\Q v H
def IS:R2:=λx y H Q=>∃z i c,x=.str z/\y=.int i/\z.length<=sizeLine/\kh z.cps.toList i=some c/\Q (.str ⟨#[c]⟩) H
def EE:E6 X (JA X.K):=by
 intro k g c s o H x y v u Q I N J h B
 obtain⟨p,P,i,z,rfl,rfl,hq,he,q⟩:=h
 cases N
 obtain⟨t,rfl⟩:=J
 obtain⟨f,r,l,R⟩:=I.list hq
 obtain⟨j,e,G,S,F,L⟩:=u5 he
 obtain⟨w,A,n⟩:=r.get G
 have hl:=r.length
 have U:=mG
 have d:EP X c o Q w s:=⟨z,H,I,n,q⟩
 by_cases C:0<=i
 ·have m:i.toNat=j:=by
   rw[seqIndex_of C L] at e
   exact QdQ e
  exact item_listR l.isList C (by omega) (by rw[m];simpa using A) d B
 ·have m:(i+(f.toArray.size:Int)).toNat=j:=by
   rw[seqIndex_neg (by omega) F] at e
   rw[Qjq,←hl]
   exact QdQ e
  exact subscriptTail_builtinR (x:=w) l.isList.typeIs slot_list_getitem.lookup
   (wpAny_getItem_list_neg (Q:=λr M=>r=w/\EP X c o Q r M) l.isList (by omega) (by rw[Qjq] <;>omega) (by omega) (by rw[m];simpa using A) ⟨rfl,d⟩) B
def Gr:E6 X (Ip X.K):=by
 intro e d c s k H x y v u Q I G C h A
 obtain⟨p,L,i,z,rfl,rfl,hq,he,q⟩:=h
 cases G
 obtain⟨t,rfl⟩:=C
 obtain⟨o,r,l,M⟩:=I.tuple hq
 obtain⟨j,m,B,N,J,R⟩:=u5 he
 obtain⟨w,n,f⟩:=r.get B
 have hl:=r.length
 have P:=mG
 have g:EP X c k Q w s:=⟨z,H,I,f,q⟩
 exact subscriptTail_builtinR (x:=w) l.typeIs slot_tuple_getitem.lookup
  (getItem_tuple (j:=j) (Q:=λr F=>r=w/\EP X c k Q r F) l (by omega) (by omega) (by rw[Qjq,←hl];exact m) (by simpa using n) ⟨rfl,g⟩) A
def HC:E6 X IS:=by
 intro e d f s B H x y v u Q I w o h m
 obtain⟨z,i,c,rfl,rfl,hz,he,q⟩:=h
 obtain⟨t,rfl⟩:=w
 obtain⟨A,rfl⟩:=o
 obtain⟨j,g,n,C,k,p⟩:=u5 he
 have hl:z.cps.toList.length=z.length:=by simp[Str.length]
 rw[hl] at g k p
 have F:=mG
 exact tail_any (typeIs_str s z t) slot_str_getitem.lookup (getItem_str (c:=c) (by
  have l:decide (i< -(2^63:Int))=false:=Qdq (by omega)
  have r:decide (i>=2^63)=false:=Qdq (by omega)
  rw[l,r,Bool.or_false]) (by rw[g];simpa using n) ⟨.str ⟨#[c]⟩,H,I.tok _,⟨_,rfl⟩,q⟩) m
def Lh(K:PySem.W.Frag):R2:=λx y H Q=>JA K x y H Q\/Ip K x y H Q\/IS x y H Q
def HS:E6 X (Lh X.K):=EE.or (Gr.or HC)
def yY(c:List Value)(n j:Nat)(u:Value):Obj.mapSeq (·.setIfInBounds j u) {cls:=.type "list",data:=.seq c.toArray n}={cls:=.type "list",data:=.seq (c.set j u).toArray n}:=by
 simp[Obj.mapSeq]
def Inv.lst{d:List (Addr×Obj)}{f:St}{H:Hp}{s:Shared}{p:Addr}{xs:List V}(I:Inv X d f H s)(h:H p=some (.lst xs)):
  ∃(c:List Value) (n:Nat),bI xs c/\s.heap.get? p=some {cls:=.type "list",data:=.seq c.toArray n}/\xs.length<=sizeLine:=by
 obtain⟨z,c,n,r,e⟩:=I.hok p _ h
 exact⟨c,n,r,e,z⟩
def Inv.lstUpd{c:List (Addr×Obj)}{i:St}{H:Hp}{s:Shared}{p:Addr}{xs ys:List V}{d its':List Value}{n g:Nat}{f:Obj->Obj}(I:Inv X c i H s)(h:H p=some (.lst xs))
  (k:s.heap.get? p=some {cls:=.type "list",data:=.seq d.toArray n}) (j:f {cls:=.type "list",data:=.seq d.toArray n}={cls:=.type "list",data:=.seq its'.toArray g}) (r:bI ys its') (hz:ys.length<=sizeLine) (t:Nat):
  Inv X c i (upd H p (.lst ys)) {s with heap:=s.heap.update p f,toks:=t}:=by
 have e:(s.heap.update p f).get? p=some {cls:=.type "list",data:=.seq its'.toArray g}:=by
  rw[Heap.get?_update_self f k (by rw[j] <;>rfl),j]
 refine I.write (x:=p) (e:=p) (by rw[h];trivial) (.inl rfl) (λb u l q=>(Heap.get?_update_other _ _ (Ne.symm l)).trans q) ⟨_,e⟩ ?_
 exact⟨hz,its',g,r,e⟩
def F1:V->V->V->Hp->(Hp->Prop)->Prop:=λo i v H Q=>∃p c k j,o=.ref p/\i=.int k/\H p=some (.lst c)/\Ep c.length k=some j/\Q (upd H p (.lst (c.set j v)))
def set_list:JC X F1:=by
 intro c s y H o i v K G u Q I A F z h
 obtain⟨p,B,k,j,rfl,rfl,hp,hj,q⟩:=h
 cases A
 obtain⟨t,rfl⟩:=F
 obtain⟨d,n,r,g,C⟩:=I.lst hp
 obtain⟨e,J,m,l⟩:=AN hj
 have hl:=r.length
 have L:=mG
 have w:Inv X c y (upd H p (.lst (B.set j v))) {s with heap:=s.heap.update p (Obj.mapSeq (·.setIfInBounds j u))}:=
  I.lstUpd hp g (yY d n j u) (r.set z j) (by rw[List.length_set];exact C) s.toks
 by_cases x:0<=k
 ·have f:k.toNat=j:=by
   rw[seqIndex_of x l] at e
   exact QdQ e
  exact PySem.W.ki_setAt g x (by omega) (by rw[Qjq,←hl];exact l) (by rw[f];exact⟨_,w,q⟩)
 ·have f:(k+(d.toArray.size:Int)).toNat=j:=by
   rw[seqIndex_neg (by omega) m] at e
   rw[Qjq,←hl]
   exact QdQ e
  exact PySem.W.ki_setBack g (by omega) (by rw[Qjq,←hl];exact m) (by omega) (by rw[f];exact⟨_,w,q⟩)
def uT(lo hi:Option Int)(n:Nat):(sliceBounds lo hi none n).1=((HT.dF n 0 lo:Nat):Int)/\(sliceBounds lo hi none n).2.1=((HT.dF n n hi:Nat):Int)/\(sliceBounds lo hi none n).2.2=1:=by
 refine⟨?_,?_,rfl⟩
 ·cases lo with
  |none=>simp[sliceBounds,HT.dF]
  | some i=>
    simp only[sliceBounds,HT.dF,Option.getD_none,show(1:Int)>0 by decide,if_true]
    by_cases h:i<0
    · simp only[h,if_true] <;>omega
    · simp only[h,if_false] <;>omega
 ·cases hi with
  |none=>simp[sliceBounds,HT.dF]
  | some i=>
    simp only[sliceBounds,HT.dF,Option.getD_none,show(1:Int)>0 by decide,if_true]
    by_cases h:i<0
    · simp only[h,if_true] <;>omega
    · simp only[h,if_false] <;>omega
def tH(c:List Value)(lo hi:Option Int):slicePick c.toArray lo hi none=((c.drop (HT.dF c.length 0 lo)).take (HT.dF c.length c.length hi-HT.dF c.length 0 lo)).toArray:=by
 obtain⟨d,e,f⟩:=uT lo hi c.toArray.size
 unfold slicePick
 rw[d,e,f]
 simp only[sliceRange_one,pick_run,Qjq] <;>rfl
def KZ(K:PySem.W.Frag):V->Option Int->Option Int->Hp->VK->Prop:=λx d e H Q=>∃a c,x=.ref a/\jg K H a c/\∀p,H p=none->Q (.ref p) (upd H p (.lst (va c d e)))
def Ez:J5 X (KZ X.K):=by
 intro g s t H x v z y e f w Q I p k n m h
 obtain⟨a,c,rfl,hx,q⟩:=h
 cases p
 obtain⟨j,r,i,l⟩:=I.list hx
 have d:=r.length
 refine⟨"list",_,slot_list_getitem.lookup,i.isList.typeIs,?_⟩
 refine wpAny_getItem_list_slice i.isList k n m .none (by simp) ?_ (by rw[Qjq] <;>omega)
 rw[tH,←d]
 refine⟨.ref s.heap.objs.size,_,I.laid (t':=s.toks) (o:=.lst (va c e f)) (λb u q=>Qcq _ q) (Qmq _) ?_,rfl,q _ (I.hok.fresh (Qmq _))⟩
 exact⟨QAq (pV c e f) l,_,0,(r.drop (HT.dF c.length 0 e)).take (HT.dF c.length c.length f-HT.dF c.length 0 e),Qrq _ rfl⟩
def gH:V->Bool
 |.non=>true
 |.bl _=>true
 |.int _=>true
 |.str _=>true
 |_=>false
def lJ:V->V->Bool
 |.non,.non=>true
 |.bl a,.bl b=>a==b
 |.bl a,.int b=>(if a then 1 else 0)==b
 |.int a,.bl b=>a==(if b then 1 else 0)
 |.int a,.int b=>a==b
 |.str a,.str b=>a==b
 |_,_=>false
def D4{A:Around}{s:Shared}{y x:V}{u v:Value}(f:RelV y u)(c:RelV x v)(g:gH y=true)(e:gH x=true):SeqAt.EqAt A s u v (lJ y x):=by
 cases y with
 | non=>
   cases f
   cases x with
   |non=>cases c;exact SeqAt.EqAt.same _
   |bl b=>cases c;exact SeqAt.EqAt.none_bool b
   |int b=>obtain⟨t,rfl⟩:=c;exact SeqAt.EqAt.none_int b t
   |str b=>obtain⟨t,rfl⟩:=c;exact SeqAt.EqAt.none_str b t
   |_=>exact absurd (show false=true from e) Qtq
 | bl a=>
   cases f
   cases x with
   |non=>cases c;exact SeqAt.EqAt.bool_none a
   |bl b=>cases c;exact SeqAt.EqAt.bool_bool a b
   |int b=>obtain⟨t,rfl⟩:=c;exact SeqAt.EqAt.bool_int a b t
   |str b=>obtain⟨t,rfl⟩:=c;exact SeqAt.EqAt.bool_str a b t
   |_=>exact absurd (show false=true from e) Qtq
 | int a=>
   obtain⟨d,rfl⟩:=f
   cases x with
   |non=>cases c;exact SeqAt.EqAt.int_none a d
   |bl b=>cases c;exact SeqAt.EqAt.int_bool a d b
   |int b=>obtain⟨t,rfl⟩:=c;exact SeqAt.EqAt.int_int a d b t
   |str b=>obtain⟨t,rfl⟩:=c;exact SeqAt.EqAt.int_str a d b t
   |_=>exact absurd (show false=true from e) Qtq
 | str a=>
   obtain⟨d,rfl⟩:=f
   cases x with
   |non=>cases c;exact SeqAt.EqAt.str_none a d
   |bl b=>cases c;exact SeqAt.EqAt.str_bool a d b
   |int b=>obtain⟨t,rfl⟩:=c;exact SeqAt.EqAt.str_int a d b t
   |str b=>obtain⟨t,rfl⟩:=c;exact SeqAt.EqAt.str_str a d b t
   |_=>exact absurd (show false=true from e) Qtq
 |_=>exact absurd (show false=true from g) Qtq
def yq(x:V)(u:Value):Bool:=match u with
 |.none=>lJ .non x
 |.bool b=>lJ (.bl b) x
 |.int i _=>lJ (.int i) x
 |.str z _=>lJ (.str z) x
 |_=>false
def uR{x y:V}{u:Value}(r:RelV y u)(f:gH y=true):yq x u=lJ y x:=by
 cases y with
 |non=>cases r;rfl
 |bl b=>cases r;rfl
 |int i=>obtain⟨t,rfl⟩:=r;rfl
 |str z=>obtain⟨t,rfl⟩:=r;rfl
 |_=>exact absurd (show false=true from f) Qtq
theorem nT{x:V}:∀{xs:List V} {c:List Value},bI xs c->xs.all gH=true->c.any (yq x)=xs.any λy=>lJ y x
 |_,_,.nil,_=>rfl
 | y::xs,u::c,.cons r t,f=>by
   rw[List.all_cons,QCq] at f
   rw[List.any_cons,List.any_cons,uR r f.1,nT t f.2]
theorem i0{A:Around}{s:Shared}{x:V}{v:Value}(g:RelV x v)(e:gH x=true):∀{xs:List V} {d:List Value},bI xs d->xs.all gH=true->∀u∈d,SeqAt.EqAt A s u v (yq x u)
 |_,_,.nil,_=>λu c=>by cases c
 | y::xs,u::d,.cons r t,f=>λh c=>by
   rw[List.all_cons,QCq] at f
   rcases Qsq.mp c with rfl|c
   · rw[uR r f.1];exact D4 r g f.1 e
   · exact i0 g e t f.2 h c
def Ee(x:V)(xs:List V):Bool:=xs.any λy=>lJ y x
def KJ(K:PySem.W.Frag)(d:Bool):R2:=λx y H Q=>∃p c,y=.ref p/\(jg K H p c\/hG K H p c)/\gH x=true/\c.all gH=true/\Q (.bl (if d then !Ee x c else Ee x c)) H
def A7:jO X (compareOp .In) (KJ X.K false):=by
 intro g s l H x y v u Q I i k h
 obtain⟨p,m,rfl,d,fx,fs,q⟩:=h
 cases k
 rcases d with d|d
 ·obtain⟨c,r,f,j⟩:=I.list d
  refine SeqAt.in_listAt (yq x) f.isList (λw e=>i0 i fx r fs w (by simpa using e)) ⟨.bl _,H,I,rfl,?_⟩
  rw[show c.toArray.any (yq x)=c.any (yq x) by simp,nT r fs]
  exact q
 ·obtain⟨c,r,f,j⟩:=I.tuple d
  refine SeqAt.in_tupleAt (yq x) f (λw e=>i0 i fx r fs w (by simpa using e)) ⟨.bl _,H,I,rfl,?_⟩
  rw[show c.toArray.any (yq x)=c.any (yq x) by simp,nT r fs]
  exact q
def vB:jO X (compareOp .NotIn) (KJ X.K true):=by
 intro g s l H x y v u Q I i k h
 obtain⟨p,m,rfl,d,fx,fs,q⟩:=h
 cases k
 rcases d with d|d
 ·obtain⟨c,r,f,j⟩:=I.list d
  refine SeqAt.notIn_listAt (yq x) f.isList (λw e=>i0 i fx r fs w (by simpa using e)) ⟨.bl _,H,I,rfl,?_⟩
  rw[show c.toArray.any (yq x)=c.any (yq x) by simp,nT r fs]
  exact q
 ·obtain⟨c,r,f,j⟩:=I.tuple d
  refine SeqAt.notIn_tupleAt (yq x) f (λw e=>i0 i fx r fs w (by simpa using e)) ⟨.bl _,H,I,rfl,?_⟩
  rw[show c.toArray.any (yq x)=c.any (yq x) by simp,nT r fs]
  exact q
def wy:j_ X (.builtin "len") (λxs H Q=>∃p ys,xs= [.ref p]/\(jg X.K H p ys\/hG X.K H p ys)/\Q (.int ys.length) H):=by
 intro i s k H xs l Q I r h
 obtain⟨p,ys,rfl,d,q⟩:=h
 obtain⟨u,rfl,rx⟩:=vals1 r
 cases rx
 have m:=mG
 rcases d with d|d
 ·obtain⟨e,g,f,j⟩:=I.list d
  have c:=g.length
  exact Calls.call_len_list f.isList (by simp only[Qjq] <;>omega) ⟨.int ys.length,H,I.tok _,⟨s.toks+1,by rw[Qjq,c]⟩,q⟩
 ·obtain⟨e,g,f,j⟩:=I.tuple d
  have c:=g.length
  exact len_tuple f (by simp only[Qjq] <;>omega) ⟨.int ys.length,H,I.tok _,⟨s.toks+1,by rw[Qjq,c]⟩,q⟩
def sY:j_ X (.type "tuple") (λxs H Q=>∃p ys,xs= [.ref p]/\((jg X.K H p ys/\∀l,H l=none->Q (.ref l) (upd H l (.tup ys)))\/(hG X.K H p ys/\Q (.ref p) H))):=by
 intro c s k H xs y Q I r h
 obtain⟨p,ys,rfl,h⟩:=h
 obtain⟨u,rfl,rx⟩:=vals1 r
 cases rx
 rcases h with⟨j,q⟩|⟨j,q⟩
 ·obtain⟨d,i,g,n⟩:=I.list j
  have m:=i.length
  refine call_tuple_list g.isList (λf v=> ?_) (by simp only[Qjq] <;>omega)
  have t:Inv X c k H {s with heap:=f}:=I.kept (t':=s.toks) v
  have x:Inv X c k (upd H f.objs.size (.tup ys)) {s with heap:=f.push {cls:=.type "tuple",data:=.seq d.toArray}}:=
   t.laid (t':=s.toks) (λb o e=>Qcq _ e) (Qmq _) (show cC X.prog X.w _ _ _ (.tup ys) from⟨n,d,i,sW.new _ _⟩)
  exact⟨.ref f.objs.size,_,x,rfl,q _ (t.hok.fresh (Qmq _))⟩
 ·obtain⟨d,i,g,n⟩:=I.tuple j
  exact call_tuple_same g ⟨.ref p,H,I,rfl,q⟩
def Lk(K:PySem.W.Frag)(T:String)(x:V)(H:Hp):Prop:=match x with
 |.str _=>T="str"
 |.int _=>T="int"
 |.ref p=>(T="list" /\∃d,jg K H p d)\/(T="tuple" /\∃o,K.lookup p=some o/\o.cls=.type "tuple" /\o.dict=none)∨
   (T="dict" /\((∃c,H p=some (.dK c))\/∃c,H p=some (.dT c)))\/(T="set" /\∃S n,H p=some (.set S n))
 |_=>False
def G_{g:List (Addr×Obj)}{u:St}{H:Hp}{s:Shared}{T:String}{x:V}{v:Value}(I:Inv X g u H s)(r:RelV x v)(h:Lk X.K T x H):
  s.TypeIs v T/\∀a,v=.ref a->∃m,s.heap.get? a=some m/\m.dict=none:=by
 cases x with
 | str z=>
   obtain⟨t,rfl⟩:=r
   cases (show T="str" from h)
   exact⟨typeIs_str s z t,λ_ e=>nomatch e⟩
 | int i=>
   obtain⟨t,rfl⟩:=r
   cases (show T="int" from h)
   exact⟨typeIs_int s i t,λ_ e=>nomatch e⟩
 | ref p=>
   cases r
   rcases h with⟨rfl,xs,hq⟩|⟨rfl,o,d,hc,j⟩|⟨rfl,d⟩|⟨rfl,S,n,d⟩
   · obtain⟨w,_,q,_⟩:=I.list hq
     refine⟨q.isList.typeIs,λa e=> ?_⟩
     cases e
     obtain⟨o,n,e,c,j,_⟩:=q
     exact⟨o,e,j⟩
   · refine⟨⟨o,I.kIn p o d,hc⟩,λa e=> ?_⟩
     cases e
     exact⟨o,I.kIn _ o d,j⟩
   · have z:∃o,s.heap.get? p=some o/\o.ExactDict:=by
       rcases d with⟨k,d⟩|⟨k,d⟩
       · obtain⟨_,_,_,_,o,_,_,e,f,_⟩:=I.hok p _ d
         exact⟨o,e,f⟩
       · obtain⟨_,_,_,_,o,_,_,e,f,_⟩:=I.hok p _ d
         exact⟨o,e,f⟩
     obtain⟨o,e,f⟩:=z
     refine⟨⟨o,e,f.1⟩,λa l=> ?_⟩
     cases l
     exact⟨o,e,f.2.1⟩
   · obtain⟨o,_,_,_,e,f,_⟩:=I.hok p _ d
     refine⟨⟨o,e,f.1⟩,λa l=> ?_⟩
     cases l
     exact⟨o,e,f.2.1⟩
 |_=>exact False.elim h
def Ke(K:PySem.W.Frag)(T:String)(r:V->List V->Hp->VK->Prop)(e:TE)(t:TA):TE:=λc H Q=>e c H λx H1=>Lk K T x H1/\t c H1 λd H2=>r x d H2 Q
variable{o e:Expr}{es:List Expr}{to:TE}{t:TA}{name:Str}{apos cpos:Pos}{T id:String}{r:V->List V->Hp->VK->Prop}
def wL(L:PlainAttrs T)(slot:Slot T name id)(j:typeOf (.builtin id)=pure (.type "method_descriptor"))(R:KU X id r)(P:PE X o to)(A:PA X (e::es) t)
  (g:attributeBase o name X.env (eval o X.env)=eval o X.env:=by rfl)
  (i:((backTo cpos (starEach (e::es) X.env)).all (λx=> !x.1)&&(backToKw cpos (keywordEach [] X.env)).all (λx=>x.1.isSome)
   &&decide ((e::es).length+([]:List Keyword).length+(if ([]:List Keyword).isEmpty then 0 else 1)<30))=true:=by rfl)
  (f:(apos.endLine==cpos.line)=true:=by rfl) (F:starEach (e::es) X.env=(false,eval e X.env)::starEach es X.env:=by rfl) (d:(backTo cpos (starEach es X.env)).any (·.1)=false:=by rfl):
  PE X (.Call (.Attribute o name apos) (e::es) [] cpos) (Ke X.K T r to t):=by
 intro c s k H Q I h
 refine wpAny_Call_method_late g i f rfl (c8 (P c s k H _ I h) λv B q=> ?_)
 obtain⟨x,H1,m,n,J,u⟩:=q
 obtain⟨w,G⟩:=G_ m n J
 refine⟨T,id,L,slot,j,w,G,?_⟩
 have l:=A cpos c B k H1 _ m u
 rw[F] at l⊢
 refine Calls.callWith_builtin (by show(false||(backTo cpos (starEach es X.env)).any (·.1))=false;rw[d] <;>rfl) (Calls.evalArgs_plain ?_)
 exact c8 l λy p ⟨C,H2,z,N,M⟩=>R c p k H2 x C v y Q z n N M
end
def KN(X:Cx)(id:String)(r:V->List V->Hp->VK->Prop):Prop:=
 ∀ (a:List (Addr×Obj)) (s:Shared) (c:St) (H:Hp) (x:V) (b:List V) (v:Value) (d:List Value) (Q:VK),Inv X a c H s->RelV x v->bI b d->r x b H Q→
   wpAny (model X.prog X.w) X.A (call (.builtin id) (v::d)) (EP X a c Q) X.xe s
def bI.one:∀{x:V} {a:List Value},bI [x] a->∃u,a= [u]/\RelV x u
 |_,_,.cons r .nil=>⟨_,rfl,r⟩
theorem bI.rep{xs:List V}{a:List Value}(h:bI xs a):∀k:Nat,bI (List.replicate k xs).flatten (List.replicate k a).flatten
 |0=>.nil
 | k+1=>by
   rw[QNq,QNq,List.flatten_cons,List.flatten_cons]
   exact bI.append h (bI.rep h k)
theorem foldl_rep(b:List Value):∀(k:Nat) (a:List Value),
  List.foldl (λc f=>c++f) a.toArray (List.replicate k b.toArray)=(a++(List.replicate k b).flatten).toArray
 |0,a=>by simp
 | k+1,a=>by
   have e:a.toArray++b.toArray=(a++b).toArray:=by simp
   have d:(a++b)++(List.replicate k b).flatten=a++(List.replicate (k+1) b).flatten:=by
     rw[QNq,List.flatten_cons,Qvq]
   rw[←d,←foldl_rep b k (a++b),←e,QNq,List.foldl_cons]
section
variable{X:Cx}{pins:List (Addr×Obj)}{σ:St}{H:Hp}{s:Shared}{l b:Addr}{xs ys zs:List V}
def Inv.lset{a its':List Value}{n:Nat}{f:Array Value->Array Value}{t':Nat}(I:Inv X pins σ H s)(i:H l=some (.lst xs))
  (e:s.heap.get? l=some {cls:=.type "list",data:=.seq a.toArray n}) (h:f a.toArray=its'.toArray) (c:bI ys its') (hz:ys.length<=sizeLine):
  Inv X pins σ (upd H l (.lst ys)) {s with heap:=s.heap.update l (Obj.mapSeq f),toks:=t'}:=by
 have q:=PySem.IsL.update e f
 rw[h] at q
 refine I.write (x:=l) (e:=l) (by rw[i];exact trivial) (.inl rfl) (λj u d g=>(Heap.get?_update_other s.heap (Obj.mapSeq f) (Ne.symm d)).trans g) ⟨_,q⟩ ?_
 exact⟨hz,its',_,c,q⟩
def Inv.lnew{a:List Value}{t':Nat}(I:Inv X pins σ H s)(c:bI ys a)(hz:ys.length<=sizeLine):
  Inv X pins σ (upd H s.heap.objs.size (.lst ys)) {s with heap:=s.heap.push {cls:=.type "list",data:=.seq a.toArray},toks:=t'}:=
 I.laid (λ_ _ q=>Qcq _ q) (Qmq _) ⟨hz,a,0,c,Qrq _ rfl⟩
def Inv.fresh(I:Inv X pins σ H s):H s.heap.objs.size=none:=I.hok.fresh (Qmq _)
def Inv.lstM(I:Inv X pins σ H s)(c:H l=some (.lst xs)):xs.length<=sizeLine/\∃(a:List Value) (n:Nat),bI xs a/\xs.length=a.length/\s.heap.get? l=some {cls:=.type "list",data:=.seq a.toArray n}:=by
 obtain⟨z,a,n,r,e⟩:=I.hok l _ c
 exact⟨z,a,n,r,r.length,e⟩
def sM{n:Nat}(h:n<=sizeLine):Builtin.List.listTooLong n=false:=by
 unfold Builtin.List.listTooLong
 exact Qdq (by omega)
end
section
variable{X:Cx}
def As:V->List V->Hp->VK->Prop:=λx b H Q=>∃l a y,x=.ref l/\b= [y]/\H l=some (.lst a)/\a.length<sizeLine/\Q .non (upd H l (.lst (a++ [y])))
def pq:KN X "list.append" As:=by
 intro b s f H x i v g Q I d c h
 obtain⟨l,j,y,rfl,rfl,hH,hz,q⟩:=h
 cases d
 obtain⟨u,rfl,ru⟩:=c.one
 obtain⟨z,a,n,r,hl,e⟩:=I.lstM hH
 refine call_meets F.slot_list_append ⟨_,e,rfl⟩ F.entry_list_append (F.args_list_append_2 _ _) (PySem.list_append l a.toArray n u (by rw[Qjq];omega)) ⟨e,?_⟩
 refine⟨.non,_,I.lset (its':=a++ [u]) hH e (by simp) (r.append (.cons ru .nil)) ?_,rfl,q⟩
 rw[lQa,List.length_singleton]
 omega
def Ab:V->List V->Hp->VK->Prop:=λx d H Q=>∃l b a c,x=.ref l/\d= [.ref b]/\H l=some (.lst a)/\H b=some (.lst c)/\a.length+c.length<=sizeLine/\Q .non (upd H l (.lst (a++c)))
def Bf:KN X "list.extend" Ab:=by
 intro g s w H x A v y Q I o i h
 obtain⟨l,b,C,t,rfl,rfl,hH,hB,hz,q⟩:=h
 cases o
 obtain⟨u,rfl,ru⟩:=i.one
 cases ru
 obtain⟨z,c,n,r,hl,e⟩:=I.lstM hH
 obtain⟨B,a,j,k,p,m⟩:=I.lstM hB
 have f:c.toArray.size+a.toArray.size<=sizeLine:=by rw[Qjq,Qjq];omega
 have d:¬(!c.toArray.isEmpty&&Builtin.List.listTooLong (c.toArray.size+a.toArray.size))=true:=by
  rw[sM f,Bool.and_false]
  exact Qtq
 refine call_meets F.slot_list_extend ⟨_,e,rfl⟩ F.entry_list_extend (F.args_list_extend_2 _ _)
  (AutoSeq1.list_extend_list_list_0 l c.toArray n b a.toArray j d (by rw[Qjq];omega) (by omega)) ⟨e,m,?_⟩
 refine⟨.non,_,I.lset (its':=c++a) hH e (by simp) (r.append k) ?_,rfl,q⟩
 rw[lQa]
 omega
def Kn:R2:=λx y H Q=>∃l b a c,x=.ref l/\y=.ref b/\H l=some (.lst a)/\H b=some (.lst c)/\a.length+c.length<=sizeLine/\∀p,H p=none->Q (.ref p) (upd H p (.lst (a++c)))
def GT:jO X (binaryOp .Add) Kn:=by
 intro d s p H x y v u Q I k g h
 obtain⟨l,b,A,o,rfl,rfl,hH,hB,hz,q⟩:=h
 cases k
 cases g
 obtain⟨z,c,n,r,hl,e⟩:=I.lstM hH
 obtain⟨w,a,t,i,m,j⟩:=I.lstM hB
 refine PySem.P.add_list e j ?_ (by rw[Qjq,Qjq];omega)
 have f:c.toArray++a.toArray=(c++a).toArray:=by simp
 rw[f]
 exact⟨.ref _,_,I.lnew (t':=s.toks) (r.append i) (by rw[lQa];omega),rfl,q _ I.fresh⟩
def Lb:R2:=λx y H Q=>∃l k a,x=.ref l/\y=.int k/\H l=some (.lst a)/\ -(2^63)<=k/\k<2^63/\a.length*k.toNat<=sizeLine∧
 ∀p,H p=none->Q (.ref p) (upd H p (.lst (List.replicate k.toNat a).flatten))
def len_rep{α:Type}(xs:List α)(k:Nat):(List.replicate k xs).flatten.length=k*xs.length:=by
 induction k with
 |zero=>simp
 |succ k a=>rw[QNq,List.flatten_cons,lQa,a,Nat.succ_mul,Nat.add_comm]
def GX:jO X (binaryOp .Mult) Lb:=by
 intro p s G H x y v u Q I C A h
 obtain⟨l,k,J,rfl,rfl,hH,h1,h2,hz,q⟩:=h
 cases C
 obtain⟨t,rfl⟩:=A
 obtain⟨z,b,n,r,hl,e⟩:=I.lstM hH
 have f:b.toArray.size*k.toNat<=sizeLine:=by rw[Qjq,←hl];exact hz
 have g:¬b.toArray.size*k.toNat>(2^63-1)/8:=by
  have:(sizeLine:Nat)<=(2^63-1)/8:=by decide
  omega
 have i:¬(!Builtin.List.listFitsIndex k)=true:=by
  rw[fitsIndex_both h1 h2]
  exact Qtq
 have c:¬Builtin.List.listTooLong (b.toArray.size*k.toNat)=true:=by
  rw[sM f]
  exact Qtq
 have d:List.foldl (λj o=>j++o) #[] (List.replicate (if b.toArray.isEmpty=true then 0 else k.toNat) b.toArray)=(List.replicate k.toNat b).flatten.toArray:=by
  have w:∀m:Nat,List.foldl (λj o=>j++o) #[] (List.replicate m b.toArray)=(List.replicate m b).flatten.toArray:=λm=>by
   have:=foldl_rep b m []
   rw[List.nil_append] at this
   exact this
  rw[w]
  cases b with
  |nil=>simp
  |cons a K=>rw[Quq (by simp)]
 refine wpAny_binaryOp_repeat_ref (T:="list") (U:="int") (by decide) ⟨_,e,rfl⟩ (λB=>typeIs_int B k t) noFill_list_mul F.fills_int_mul F.slot_int_rmul repeat_list F.slot_int_index.lookup
  (call_meets F.slot_int_rmul (typeIs_int s k t) F.entry_int_rmul (F.args_int_rmul_2 _ _) (int___rmul___int_list k t l b.toArray n)
   ⟨e,rfl,⟨_,e,rfl⟩,call_meets F.slot_list_mul ⟨_,e,rfl⟩ F.entry_list_mul (F.args_list_mul_2 _ _) (AutoListH.list___mul___list_int_3 l b.toArray n k t i g c) ⟨e,?_⟩⟩)
 rw[d]
 exact⟨.ref _,_,I.lnew (t':=s.toks) (r.rep k.toNat) (by rw[len_rep,Nat.mul_comm];exact hz),rfl,q _ I.fresh⟩
end
end L2
namespace Att
open PySem PySem.W PySem.Calls PyProof.Rows
def qi{P:Params}{h:Heap}:∀(ns:List Int) (vs:List Value),WellAll P h vs (ns.map WData.int)->IntsAre vs ns:=by
 intro ns
 induction ns with
 | nil=>
   intro vs w
   rw[List.map_nil] at w
   cases w
   exact .nil
 | cons n ns c=>
   intro vs w
   rw[QDq] at w
   cases w with
   | cons a b=>
     cases a
     exact .cons _ _ (c _ b)
def A4{l:OpenLaw}{n:Nat}(p:l.most=some n){P:Params}{h:Heap}{args:List WData}{vals:List Value}
  (b:l.row.toRowW.claim.pre args=true) (i:WellAll P h vals args):
  ∃a vs ns,vals= [Value.ref a]/\args= [WData.list (ns.map WData.int)]/\h.get? a=some {cls:=.type "list",data:=.seq vs.toArray}/\IntsAre vs ns/\ns.length<=n:=by
 have j:WShape.hasAll [] args [.list .int]=true:=(pre_splitW b).1
 have k:l.pre.holds [] {args:=args}=true:=(pre_splitW b).2
 obtain⟨d,r,rfl,h1,h2⟩:=hasAllW_cons j
 obtain rfl:=hasAllW_nil h2
 obtain⟨u,rfl,h3⟩:=hasW_list h1
 obtain⟨ns,rfl⟩:=items_int h3
 have c:ns.length<=n:=by
  unfold OpenLaw.pre at k
  have f:(WTm.not (.lt (.lit (.int (n:Int))) (.len (.arg 0)))).holds [] {args:= [.list (ns.map .int)]}=true:=by
   have f:=(holds_andW k).1
   rw[p] at f
   exact f
  have g:=condW_of f (w_not (w_lt w_lit (w_len_list (w_arg rfl))))
  rw[lQm] at g
  refine Nat.le_of_not_lt λq=> ?_
  have o:(n:Int)<((ns.length:Nat):Int):=by omega
  first
   |(rw[Qeq o] at g;exact absurd g (by decide))
   |(simp at g;omega)
 cases i with
 | cons m s=>
   cases s
   cases m with
   |list t e=>exact⟨_,_,ns,rfl,rfl,t,qi ns _ e,c⟩
def BO(l:OpenLaw)(args:List WData):l.row.toRowW.claim.post args (.bool true) args=true:=
 postW_of (r:=l.row.toRowW) (X:=(true==true))
  (show WShape.has [] (.bool true) .bool=true by first|rfl|decide|simp[WShape.has,WShape.arms,WShape.armsAll])
  (show(WTm.eq .res (.lit (.bool true))).value [] {args:=args,res:=some (.bool true),after:=args}=some (.bool (true==true)) from w_eq_bool (w_res rfl) w_lit) rfl
def wW{l:OpenLaw}{n:Nat}{q:Program}{c:List Str}{B:(Str->Option Value)->Heap->Prop}{A:World->Heap->Prop}{d:DefRec}
  (L:l.most=some n) (p:d.params.defaults= [])
  (h:∀(w:World) (s₀ b:Shared) (mg v:Str->Option Value) (i:Addr) (o:Obj) (u j e:Value) (a:Addr) (vs:List Value) (ns:List Int),
   Ground q c [] B w s₀ mg v b.heap->A w b.heap→
   b.heap.get? i=some o->o.data=.func (docDef d.name d.params d.body d.scope u j e)->b.heap.CodeRec j d.name->mg d.name=some (.ref i)→
   b.heap.get? a=some {cls:=.type "list",data:=.seq vs.toArray}->IntsAre vs ns->ns.length<=n->b.gens= #[]→
   codeAny (model l.prog w) callerA (.call (.ref i) ⟨[.ref a],[]⟩) (λr k=>r=.ok (.ret (.bool true))/\OldK b.heap k.heap/\k.os=b.os/\AllBare k.gens) b):
  WalkO q c B A l.row.toRowW d [] (λf vs=>PySem.call f vs):=by
 intro w s₀ b mg v G Y i o u j e F kV M H m C s I x z Q g y K t J
 obtain rfl:F=.none:=Dflts.none C p
 obtain rfl:kV=.none:=Dflts.noKw C
 obtain⟨a,vs,ns,rfl,rfl,hobj,hints,hlen⟩:=A4 L g t
 refine enter_call (codeAny_mono (h w s₀ b mg v i o u j e a vs ns G Y M (fd_plain H) m s hobj hints hlen I) λr k P=> ?_)
 obtain⟨rfl,h2,h3,h4⟩:=P
 exact⟨.inl ⟨.bool true,.bool true,[],rfl,λ_=>rfl,.bool true,BO l _,λ_=>⟨List.Pairwise.nil,λ_ N=>(nomatch N)⟩⟩,h2,h3,h4⟩
end Att
namespace L2
open PySem PySem.Spec PyProof.Rows
theorem tX:∀{vs:List Value} {ns:List Int},IntsAre vs ns->bI (ns.map V.int) vs
 |_,_,.nil=>.nil
 |_,_,.cons n t h=>.cons ⟨t,rfl⟩ (tX h)
def FO(H:Hp):Prop:=∀b,H b=none\/∃o a,H b=some (.frz o (.lst a))
def Ed{P:Program}{w:World}{K:PySem.W.Frag}{mg Z:Str->Option Value}{CX:Ca}{k:Nat}{fa a:Addr}{fd:FuncData}{x:Str}{sp:Sp}{c:Shared}{vs:List Value}{ns:List Int}
  (KX:K.In c.heap) (C:c.heap.Ns mainGlobals mg) (g:c.heap.Ns builtinsNs Z) (Q:∀x:Str,x≠"__name__" ->Z x=bootBuiltins x) (t:c.heap.NoLimit) (hg:c.gens= #[])
  (N:c.heap.get? a=some {cls:=.type "list",data:=.seq vs.toArray}) (hi:IntsAre vs ns) (hl:ns.length<=sizeLine) (hr:fH k callerA)
  (F:∀base:Heap,K.In base->base.Ns mainGlobals mg->bA P w K mg base CX k fa fd [x] sp) (p:∀(s:Shared) (u:Value),BindsTo s fd ⟨[u],[]⟩ [(x,u)])
  (Y:∀H:Hp,FO H->jg K H a (ns.map V.int)->sp [.ref a] H (λv _=>v=.bl true) λ_ _ _=>False)
  (R:∀H e i,CX [] H c (λ_ _ _=>False) e i->False):
  codeAny (model P w) callerA (.call (.ref fa) ⟨[.ref a],[]⟩) (λr i=>r=.ok (.ret (.bool true))/\OldK c.heap i.heap/\i.os=c.os/\AllBare i.gens) c:=by
 have rv:=tX hi
 have A:=hi.length
 have l:∀H:Hp,FO H->jg K H a (ns.map V.int)->m3 P w H c.heap->(∀b,H b≠none->b=a)->(H a≠none->K.lookup a=none)→
   codeAny (model P w) callerA (.call (.ref fa) ⟨[.ref a],[]⟩) (λr i=>r=.ok (.ret (.bool true))/\OldK c.heap i.heap/\i.os=c.os/\AllBare i.gens) c:=by
  intro H hO hS L hA hK
  have f:∀{b:Addr} {o:Obj},c.heap.get? b=some o->H b=none->(wA c.heap H).get? b=some o:=λe n=>CQ e n
  have S:∀{b:Addr} {o:Obj} {M:Array DictEntry} {J:Nat},c.heap.get? b=some o->o.data=.dict M J->H b=none:=λ{b o M J} e d=>by
   cases q:H b with
   |none=>rfl
   | some u=>
     have U:b=a:=hA b (by rw[q];simp)
     subst U
     rw[N] at e;cases e
     have d':Data.seq vs.toArray _=Data.dict M J:=d
     cases d'
  have j:∀{b:Addr} {m:Str->Option Value},c.heap.Ns b m->(wA c.heap H).Ns b m:=λ{b m} ⟨o,M,J,e,d,r⟩=>⟨o,M,J,f e (S e d),d,r⟩
  have B:K.In (wA c.heap H):=λb o e=>f (KX b o e) (by
   cases q:H b with
   |none=>rfl
   | some u=>
     have U:b=a:=hA b (by rw[q];simp)
     subst U
     rw[hK (by rw[q];simp)] at e;cases e)
  have hM:Mod K mg (wA c.heap H):=⟨B,j C,⟨Z,j g,Q⟩,let ⟨mc,h1,h2⟩:=t;⟨mc,j h1,h2⟩⟩
  have e0:FC P w K mg (wA c.heap H) callerA [] c H:=⟨rfl,hM,λb o e=>Fo e,Nat.le_of_eq (A1 _ _),trivial,λb g=>absurd (show b∈([]:List Addr) from g) (by simp),L,.of_eq hg⟩
  refine codeAny_mono ((F _ B (j C)).run callerA [] c H ⟨[.ref a],[]⟩ [.ref a] [.ref a] _ _ hr e0 (p c (.ref a)) (.cons rfl .nil) (Y H hO hS)) λr i h=> ?_
  cases r with
  |error e=>exact(R H e i h).elim
  | ok fl=>
    cases fl with
    |next=>exact False.elim h
    |brk=>exact False.elim h
    |cont=>exact False.elim h
    | ret u=>
      obtain⟨v,H',os,G,un,y,r',q⟩:=h
      have q':v=.bl true:=q
      subst q'
      obtain rfl:u=Value.bool true:=r'
      refine⟨rfl,OldK.of_keep λb o e=> ?_,os,G⟩
      cases q:H b with
      |none=>exact un.keep b o e q (by intro z;exact absurd (show b∈([]:List Addr) from z) (by simp)) (by simp)
      | some u=>
        rcases hO b with z|⟨ob,xs,z⟩
        · rw[q] at z;cases z
        · have z2:=un.frzs b ob _ z
          obtain⟨e1,_⟩:=L b _ z
          obtain⟨e2,_⟩:=y b _ z2
          rw[e] at e1;cases e1
          exact e2
 cases X:K.lookup a with
 | some o=>
   have e:=KX a o X
   rw[N] at e
   cases e
   refine l (λ_=>none) (λ_=>.inl rfl) (.inr ⟨_,vs.toArray,_,X,rfl,rfl,rfl,by rw[Qjq,A];exact hl,by simpa using rv⟩) (λb u z=>by have I:(none:Option HO)=some u:=z;cases I) (λb z=>absurd rfl z) λz=>absurd rfl z
 | none=>
   refine l (λb=>if b=a then some (.frz {cls:=.type "list",data:=.seq vs.toArray} (.lst (ns.map V.int))) else none) (λb=> ?_) (.inl (.inr ⟨{cls:=.type "list",data:=.seq vs.toArray},Qhq rfl⟩)) (λb u z=> ?_) (λb z=> ?_) λ_=>X
   · by_cases g:b=a
     · exact .inr ⟨_,_,Qhq g⟩
     · exact .inl (Quq g)
   · by_cases g:b=a
     · have I:=(Qhq g).symm.trans z
       cases I
       subst g
       exact⟨N,by rw[lQm];exact hl,vs,_,rv,N⟩
     · have I:=(Quq g).symm.trans z
       cases I
   · by_cases g:b=a
     · exact g
     · exact absurd (Quq g) z
def Fq{l:PySem.W.OpenLaw}{n k:Nat}{q:Program}{i:List Str}{Z:(Str->Option Value)->Heap->Prop}{L:World->Heap->Prop}{d:DefRec}{K:Params->PySem.W.Frag}{CX:World->Ca}{sp:World->Sp}{x:Str}
  (X:l.most=some n) (I:n<=sizeLine) (z:d.params.defaults= []) (N:fH k callerA)
  (Q:∀(w:World) (h:Heap),L w h->(K w.params).In h)
  (F:∀(w:World) (mg:Str->Option Value) (r:Addr) (h:Heap),(K w.params).In h->h.Ns mainGlobals mg->mg d.name=some (.ref r)→
   ∃ y:FuncData,(∀(s:Shared) (u:Value),BindsTo s y ⟨[u],[]⟩ [(x,u)])∧
     ∀base:Heap,(K w.params).In base->base.Ns mainGlobals mg->bA l.prog w (K w.params) mg base (CX w) k r y [x] (sp w))
  (A:∀(w:World) (H:Hp) (a:Addr) (ns:List Int),ns.length<=n->FO H->jg (K w.params) H a (ns.map V.int)->sp w [.ref a] H (λv _=>v=.bl true) λ_ _ _=>False)
  (t:∀(w:World) (H:Hp) (s:Shared) (e:Value) (C:Shared),CX w [] H s (λ_ _ _=>False) e C->False):
  PySem.W.WalkO q i Z L l.row.toRowW d [] (λf vs=>PySem.call f vs):=by
 refine Att.wW X z λw J p mg mb r o pm cd R a vs ns G Y ho hd U B m j c P=> ?_
 have M:=Q w _ Y
 obtain⟨y,hb,hF⟩:=F w mg r _ M G.T.g B
 exact Ed M G.T.g G.T.b G.T.builtins G.T.nolimit P m j (QAq c I) N hF hb (λH hO S=>A w H a ns c hO S) λH e C=>t w H p e C
def gL(s:Stmt):Arguments:=match s with
 |.FunctionDef _ a _ _ _ _ _ _ _ _=>a
 |_=>{posonlyargs:= [],args:= [],vararg:=none,kwonlyargs:= [],kw_defaults:= [],kwarg:=none,defaults:= []}
def fI(s:Stmt):List Stmt:=match s with
 |.FunctionDef _ _ b _ _ _ _ _ _ _=>b
 |_=> []
def aD(s:Stmt):Scope:=match s with
 |.FunctionDef _ _ _ _ _ _ a _ _ _=>a
 |_=>{kind:=.function,names:= [],isGenerator:=false,isCoroutine:=false}
abbrev dY:Ca:=λ_ _ _ _ _ _=>False
abbrev E0:XK:=λ_ _ _=>False
def D3{X:Cx}:y1 dY X E0:=λ_ _ _ _ _ _ _ h=>h.elim
structure eL(K:PySem.W.Frag)(x qual:Str)(st:Stmt)(f:Addr)(fd:FuncData):Prop where
 ex:∃(oc:Value) (od:Option Addr) (kV doc pm:Value) (an:Option Addr) (cdv ct:Value) (osl:Array (Option Value)),
  fd=PySem.W.fnOf x qual (gL st) (fI st) (aD st) .none kV doc pm an cdv ct/\K.lookup f=some ⟨oc,od,.func fd,osl⟩/\PySem.W.codeIn K cdv qual=true
 kp:PySem.W.keepIn K (.ref f)=true
section
variable{P:Program}{w:World}{K:PySem.W.Frag}{mg:Str->Option Value}{base:Heap}
def eL.ok{x a:Str}{st:Stmt}{f:Addr}{e:FuncData}{N ps:List Str}{k:Nat}{sp:Sp}(F:eL K x a st f e)(S:aJ N ps (aD st))(len:∀vs H Q E,sp vs H Q E->vs.length=ps.length)
  (c:∀(b:Value) (A:Around) (outer:List Env) (s:Shared) (H:Hp) (vs:List V) (Q:VK) (E:XK),fH k (A.deeper (envOfC a (aD st) s.heap.objs.size f b))->sp vs H Q E→
   ∃t,sQ (yT dY P w K mg base N a (aD st) f b A outer s H E).nox (fI st) t/\t {nx:=λ_ l=>Q .non l,rt:=Q} (start N vs) H):bA P w K mg base dY (k+1) f e ps sp:=by
 obtain⟨r,m,kV,i,p,n,b,o,j,rfl,lk,hcd⟩:=F.ex
 refine Jf lk hcd S len λA outer s H vs Q E g d=> ?_
 obtain⟨t,h,q⟩:=c b A outer s H vs Q E g d
 exact⟨t,h.nox,q⟩
def eL.binds{x a:Str}{st:Stmt}{f:Addr}{i:FuncData}{ps:List Str}(F:eL K x a st f i)
  (h:∀(kV b d:Value) (g:Option Addr) (c ct:Value) (e:List Value),e.length=ps.length->bindArgs (PySem.W.fnOf x a (gL st) (fI st) (aD st) .none kV b d g c ct) ⟨e,[]⟩=pure (ps.zip e)):Binds K i ps []:=by
 obtain⟨k,l,kV,b,d,g,c,ct,j,rfl,lk,hcd⟩:=F.ex
 exact .all (h kV b d g c ct)
def yL{x a:Str}{st:Stmt}{f:Addr}{i:Value}{j h:Option Addr}{e:Array (Option Value)}{kV d g b ct:Value}(l:K.lookup f=some ⟨i,j,.func (PySem.W.fnOf x a (gL st) (fI st) (aD st) .none kV d g h b ct),e⟩)
  (c:PySem.W.codeIn K b a=true) (k:PySem.W.keepIn K (.ref f)=true):eL K x a st f (PySem.W.fnOf x a (gL st) (fI st) (aD st) .none kV d g h b ct):=⟨⟨i,j,kV,d,g,h,b,ct,e,rfl,l,c⟩,k⟩
end
def F8{A:Around}{k:Nat}(a:fH k A):A.units+1<cLine:=Nat.lt_of_le_of_lt (Nat.add_le_add_left (by decide:1<=64) _) a.units
def aQ{n:Nat}(h:n<=1000):n<sizeLine:=Nat.lt_of_le_of_lt h (by decide)
section
variable{X:Cx}
def pv(i:Nat){x:Str}{pos:Pos}(c:X.N[i]?=some x:=by rfl)(b:Gq X.env.scope x:=by first|exact Or.inl rfl|exact Or.inr (Or.inl rfl)|exact Or.inr (Or.inr rfl))(hd:(x==("__debug__":Str))=false:=by decide)
  (a:(x==("__classdict__":Str))=false:=by decide):PE X (.Name x pos) (Hb i):=Dq c b hd a
end
section
variable{prog:Program}{w:World}{A:Around}{s:Shared}
def nU{o a i:Expr}{q:List Expr}{b:Scope}{pos:Pos}{it p:Value}{env:Env}{R:Result->Shared->Prop}(I:Nat->Shared->Prop)
  (y:∀n s,I n s->wpAny (model prog w) A (pyNext it) (λr d=>match r with
   |none=>R (.ok .next) d
   |some v=>wpAny (model prog w) A (letOwnedTupleGo a it v) (λ_ e=>wpAny (model prog w) A (assign a env v) (λ_ l=>
     wpAny (model prog w) A (forIn q true λc r=>if r=true then do let ok←isTrue c env (eval c env);pure (ForInStep.yield ok) else pure (ForInStep.yield r)) (λok s₃=>
      if ok=true then wpAny (model prog w) A (eval o env) (λx j=>
       wpAny (model prog w) A (call (.builtin "list.append") [p,x]) (λ_ g=>∃m,m<n/\I m g) (λ_ _=>False) j) (λ_ _=>False) s₃
      else∃m,m<n/\I m s₃) (λ_ _=>False) l) (λ_ _=>False) e) (λ_ _=>False) d) (λ_ _=>False) s)
  (n:Nat) (h:I n s):codeAny (model prog w) A (.compLoop (.ListComp o [⟨a,i,q,0⟩] b pos) 0 it p env) R s:=by
 refine codeAny_loop rfl I (λn s C=> ?_) n h
 show wpAny _ A ((compTurn (.ListComp o [⟨a,i,q,0⟩] b pos) 0 it p env).onRaise (λx=>do noteFrame x env;theTreesLotGoes x)) _ _ s
 refine wpAny_noted ?_
 rw[compTurn_list]
 refine Qaq (wpAny_standAt (Qaq (QRq (y n s C) (λr d k=> ?_) λ_ _ f=>f.elim)))
 cases r with
 |none=>exact Qgq k
 | some v=>
   refine Qaq (QRq k (λ_ e t=> ?_) λ_ _ f=>f.elim)
   refine Qaq (QRq t (λ_ l B=>Qaq (QRq B (λok s₃ h₃=> ?_) λ_ _ f=>f.elim)) λ_ _ f=>f.elim)
   cases ok with
   |false=>exact Qgq ⟨rfl,h₃⟩
   | true=>
     exact Qaq (Qaq (QRq h₃ (λx j z=>Qaq (QRq z (λ_ g u=>Qgq (Qgq ⟨rfl,u⟩)) λ_ _ f=>f.elim)) λ_ _ f=>f.elim))
end
def aN(X:Cx)(N:List Str)(a:Scope)(b:List (Str×Addr))(C:Addr)(s:Shared)(H:Hp)(fp:List Addr):Cx where
 prog:=X.prog
 w:=X.w
 K:=X.K
 mg:=X.mg
 base:=X.base
 A:=X.A
 N:=N
 s₀:=s
 H₀:=H
 env:=compEnvC a b C X.env
 outer:=X.stack
 stack:=X.stack
 ex:=fp
 fn:=λ_=>false
 calm:=X.calm
 pn:= []
 xe:=λ_ _=>False
def jQ(js:List (Option Nat))(a:St):St:=js.map λo=>o.bind λj=>a.getD j none
structure aU(X:Cx)(N:List Str)(js:List (Option Nat))(scope:Scope)(cl:List (Str×Addr)):Prop where
 kind:scope.kind=.function
 nocell:∀y∈scope.names,y.2≠.cell
 names:∀y∈scope.names,y.2=.local->scope.names.lookup y.1=some .local
 clos:closureFor scope X.env=pure cl
 sub:∀x c,cl.lookup x=some c->X.env.cells.lookup x=some c
 has:∀x,((relabel scope X.env).names.lookup x=some .cell\/(relabel scope X.env).names.lookup x=some .free)->∃c,cl.lookup x=some c
 cap:∀(k j:Nat) (x:Str),js[k]?=some (some j)->N[k]?=some x->X.N[j]?=some x/\(X.env.kindOf x=some .cell\/X.env.kindOf x=some .free)/\((relabel scope X.env).names.lookup x=some .cell\/(relabel scope X.env).names.lookup x=some .free)
 len:js.length=N.length
def mK(X:Cx)(d:List Expr)(t:TT):Prop:=
 ∀ (a:List (Addr×Obj)) (s:Shared) (b:St) (H:Hp) (Q:Bool->Hp->Prop),Inv X a b H s->t b H Q→
   wpAny (model X.prog X.w) X.A (forIn d true λc r=>if r=true then do let ok←isTrue c X.env (eval c X.env);pure (ForInStep.yield ok) else pure (ForInStep.yield r)) (TP X a b Q) X.xe s
def GG{X:Cx}:mK X [] (λ_ H Q=>Q true H):=λ_ _ _ H _ I h=>wpAny_tests_nil ⟨H,I,h⟩
def HU{X:Cx}{c:Expr}{t:TT}(d:PT X c t):mK X [c] t:=λa s b H Q I h=>
 wpAny_tests_one (c8 (d a s b H Q I h) λok s' h'=>h')
def IL(J:It)(g:TG)(n:TT)(l:TE)(Q:VK)(D:Addr)(k:St)(H:Hp):Prop:=
 ∃ W:Nat->Nat->St->Hp->Prop,(∃m,W 0 m k H)/\∀i m d e,W i m d e→
   (J.stop i e/\Q (.ref D) e)\/(J.go i e/\∃f:St->Hp->Prop,(∀b c,f b c->∃j,j<m/\W (i+1) j b c)∧
     ∀ x H2,J.yld i e x H2->g x d H2 λa H3=>n a H3 λok H4=>
       if ok=true then l a H4 λy H5=>∃h,H5 D=some (.lst h)/\h.length<sizeLine/\f a (upd H5 D (.lst (h++ [y]))) else f a H4)
def CP(js:List (Option Nat))(b:TI)(g:TG)(d:TT)(c:TE):TE:=λa H Q=>b a H λJ H1=>∀D,H1 D=none->IL J g d c Q D (jQ js a) (upd H1 D (.lst []))
def FG{X:Cx}{N:List Str}{js:List (Option Nat)}{a:Scope}{R:List (Str×Addr)}{tg P b1:Expr}{b3:List Expr}{pos:Pos}{wi:TI}{g:TG}{tt:TT}{te:TE}
  (S:aU X N js a R) (hc:X.calm=true) (hi:PI X tg P wi)
  (hg:∀C s H fp,PG (aN X N a R C s H fp) tg g) (ht:∀C s H fp,mK (aN X N a R C s H fp) b3 tt) (he:∀C s H fp,PE (aN X N a R C s H fp) b1 te)
  (hs:∀x,foldedSetIterable P X.env x=pure x:=by intro _;rfl):PE X (.ListComp b1 [⟨tg,P,b3,0⟩] a pos) (CP js wi g tt te):=by
 intro a6 s σ H Q I h
 rw[eval_ListComp]
 refine wpAny_comprehension_free (use:=none) rfl hs S.clos S.kind S.names (c8 (hi a6 s σ H _ I h) λv s1 h1=>c8 h1 λd5 f h2=> ?_)
 obtain⟨it,fp,tn,J,H2,e,B,T,b4,f2,hD⟩:=h2
 subst e
 refine QhQ (wpAny_newFunctionEnv S.nocell (by intro y hy;simp at hy) (λL G t=> ?_) S.kind)
 dsimp only at G t⊢
 generalize b2:f.heap.push {cls:=.type "list",dict:=none,data:=.seq ([]:List Value).toArray}=P2 at G t⊢
 have hC:P2.objs.size=f.heap.objs.size+1:=by rw[←b2,Heap.size_push]
 have c5:f.heap.objs.size≠P2.objs.size:=by rw[hC];exact Qwq (Nat.lt_succ_self _)
 have a9:f.heap.objs.size<=P2.objs.size:=by rw[hC];exact Nat.le_succ _
 have F:∀b,b<f.heap.objs.size->b≠P2.objs.size:=λb k=>by rw[hC];exact Qwq (Nat.lt_succ_of_lt k)
 have U:∀b o,f.heap.get? b=some o->L.get? b=some o:=λb o e=>t.extBut b o (F b (Qiq e)) (Qcq _ (b2▸Qcq _ e))
 have d1:L.get? f.heap.objs.size=some {cls:=.type "list",dict:=none,data:=.seq ([]:List Value).toArray}:=t.extBut _ _ c5 (Qcq _ (b2▸Qrq _ rfl))
 have nD:H2 f.heap.objs.size=none:=B.fresh
 have nC:H2 P2.objs.size=none:=B.hok.fresh a9
 have b0:∀b∈fp,b<f.heap.objs.size:=λb k=>by
  obtain⟨o,e,_⟩:=T.obj _ _ b4 b k
  exact Qiq e
 obtain⟨W,⟨m0,w0⟩,c6⟩:=hD f.heap.objs.size nD
 have c4:(aN X N a R P2.objs.size f H2 fp).Ok:=by
  refine⟨B.ok.mod,S.kind,B.ok.glob,B.ok.blt,a9,λx y c h1 h2=>B.ok.inj x y c (S.sub x c h1) (S.sub y c h2),S.has,(λx c h=>by cases h),B.ok.hd,B.ok.frames,.inl rfl,
   λb k=>⟨F b (b0 b k),λx c h=>(f2 b k).2.2.2.2.1 x c (S.sub x c h)⟩,B.bs,QAq B.ok.bsz B.sz,λb o e k=> ?_,λb k z=> ?_,B.stack,B.stkFree⟩
  ·rcases(f2 b k).2.2.2.1 with z|z
   ·exact B.ok.noex b o e z
   ·exact absurd (Qqq (Qqq (Qiq e) B.ok.bsz) z) (Nat.lt_irrefl _)
  ·rcases Qsq.mp (B.stkSub b z) with q|q
   ·exact(f2 b k).2.1 q
   ·exact(f2 b k).2.2.1 q
 have b9:cC X.prog X.w (upd H2 f.heap.objs.size (.lst [])) L f.heap.objs.size (.lst []):=⟨Nat.zero_le _,[],0,.nil,d1⟩
 have I4:Inv (aN X N a R P2.objs.size f H2 fp) [] (jQ js σ) (upd H2 f.heap.objs.size (.lst [])) {f with heap:=L,toks:=f.toks+([]:List (Str×Value)).length}:=by
  refine⟨c4,rfl,B.bare,Un.laid U (Qmq _) nD,⟨_,G,λi x v h1 h2 h3=> ?_⟩,λx c h=> ?_,by show upd H2 _ _ P2.objs.size=none;rw[bh c5.symm];exact nC,λx c h=> ?_,λp hp=>absurd (show p∈([]:List (Addr×Obj)) from hp) (by simp),B.hok.laid U (Qmq _) b9,by show(jQ js σ).length=N.length;unfold jQ;rw[lQm];exact S.len⟩
  ·unfold jQ at h2
   rw[gQm] at h2
   cases e:js[i]? with
   |none=>rw[e] at h2;cases h2
   | some o=>
     rw[e] at h2
     cases o with
     |none=>cases h2
     | some j=>
       have a1:σ.getD j none=some v:=QdQ h2
       have hj:σ[j]?=some (some v):=by
         rw[Qlq] at a1
         cases q:σ[j]? with
         |none=>rw[q] at a1;cases a1
         |some y=>rw[q] at a1;exact congrArg some a1
       obtain⟨c1,c2,c3⟩:=S.cap i j x e h1
       obtain⟨m,hn,hl⟩:=B.loc
       have d2:Gq X.env.scope x:=by
         rcases c2 with z|z
         · exact .inr (.inl z)
         · exact .inr (.inr z)
       obtain⟨u,r,l⟩:=hl j x v c1 hj d2
       refine⟨u,r,.inr ⟨c3,?_⟩⟩
       obtain⟨c,b7⟩:=S.has x c3
       refine⟨c,b7,?_⟩
       rcases l with⟨z,_⟩|⟨_,c',e',z⟩
       · rcases c2 with y|y <;>rw[y] at z <;>cases z
       · rw[S.sub x c b7] at e'
         cases e'
         obtain⟨o,ho,hd⟩:=z
         exact⟨o,U _ _ ho,hd⟩
  ·obtain⟨v,o,ho,hd⟩:=B.cell x c (S.sub x c h)
   exact⟨v,o,U _ _ ho,hd⟩
  ·obtain⟨v,o,ho,hd⟩:=B.cell x c (S.sub x c h)
   rw[bh (Qwq (Qiq ho))]
   exact B.freeC x c (S.sub x c h)
 have a3:∀{M:List (Addr×Obj)} {Z:Hp},M= []->(∀b∈fp,Z b=none)->∀b∈fp,oV (aN X N a R P2.objs.size f H2 fp) M Z b:=λ{M Z} ep hn b k=>by
  subst ep
  refine⟨hn b k,F b (b0 b k),λz=>c4.exfs b k z,.inl k,λx c h=>(f2 b k).2.2.2.2.1 x c (S.sub x c h),λp hp=>absurd (show p∈([]:List (Addr×Obj)) from hp) (by simp)⟩
 have a7:codeAny (model X.prog X.w) X.A (.compLoop (.ListComp b1 [⟨tg,P,b3,0⟩] a pos) 0 (.ref it) (.ref f.heap.objs.size) (compEnvC a R P2.objs.size X.env))
   (compPost (model X.prog X.w) X.A X.xe none (EP X a6 σ Q) (.ref f.heap.objs.size) P2.objs.size) {f with heap:=L,toks:=f.toks+([]:List (Str×Value)).length}:=by
  refine nU (λn s'=>∃i a2 Z,Inv (aN X N a R P2.objs.size f H2 fp) [] a2 Z s'/\tn i s'.heap/\(∀b∈fp,Z b=none)/\W i n a2 Z) ?_ m0
   ⟨0,_,_,I4,T.keep _ _ _ b4 λb _ o e=>U b o e,λb k=>by rw[bh (Qwq (b0 b k))];exact(f2 b k).1,w0⟩
  rintro n s3 ⟨i,a4,H3,I3,b8,c0,w3⟩
  rcases c6 i n a4 H3 w3 with⟨stop,q⟩|⟨go,Nx,hN,b6⟩
  ·refine c8 (T.done (aN X N a R P2.objs.size f H2 fp) rfl rfl rfl hc i [] s3 a4 H3 _ I3 (a3 rfl c0) b8 stop) λr s4 Y=> ?_
   obtain⟨hr,I5⟩:=Y
   subst hr
   obtain⟨m,hn,_⟩:=id I5.loc
   refine⟨m,hn,λh' a5=>⟨.ref f.heap.objs.size,H3,?_,rfl,q⟩⟩
   have u:=I5.base
   have ne:∀b o,f.heap.get? b=some o->b≠P2.objs.size:=λb o e=>F b (Qiq e)
   refine B.call' (ch:=fp) I5.os ⟨λb o e n k hx=>(a5.2 b (ne b o e)).trans (u.keep b o e n k hx),λb o e n k hx=> ?_,u.free,λb o e hx=> ?_,u.tups,u.frzs,u.tbls⟩ (λb ob e=> ?_) I5.bare λb k=>⟨(f2 b k).2.2.2.1,(f2 b k).2.1,(f2 b k).2.2.2.2.1,(f2 b k).2.2.2.2.2⟩
   ·obtain⟨sl,e1⟩:=u.slot b o e n k hx
    exact⟨sl,(a5.2 b (ne b o e)).trans e1⟩
   ·obtain⟨o',e1⟩:=u.there b o e hx
    exact⟨o',(a5.2 b (ne b o e)).trans e1⟩
   ·refine(I5.hok b ob e).stay (λc w' hc q=>(a5.2 c ?_).trans q) (λ_ q=>q) λ_ _ q=>q
    have fC:H3 P2.objs.size=none:=I5.free
    rintro rfl
    rcases hc with z|z
    ·rw[←z,fC] at e;cases e
    ·rw[fC] at z;cases z
  ·refine c8 (T.item (aN X N a R P2.objs.size f H2 fp) rfl rfl rfl hc i [] s3 a4 H3 _ I3 (a3 rfl c0) b8 go) λr s4 Y=> ?_
   obtain⟨u,hr,h4⟩:=Y
   subst hr
   refine c8 h4 λ_ s5 Y=> ?_
   obtain⟨x,H5,I5,r5,y5,b5,d4⟩:=Y
   have d3:=I5.pinned (a3 rfl d4) (T.obj _ _ b5)
   refine c8 (hg P2.objs.size f H2 fp _ s5 a4 H5 x u _ d3 r5 (b6 x H5 y5)) λ_ s6 Y=> ?_
   obtain⟨K,H6,I6,q6⟩:=Y
   refine c8 (ht P2.objs.size f H2 fp _ s6 K H6 _ I6 q6) λok s7 Y=> ?_
   obtain⟨H7,I7,q7⟩:=Y
   have again:∀{s8:Shared} {H8:Hp},Inv (aN X N a R P2.objs.size f H2 fp) ([]++my fp s5.heap) K H8 s8->Nx K H8->∃m,m<n/\∃i a2 Z,Inv (aN X N a R P2.objs.size f H2 fp) [] a2 Z s8/\tn i s8.heap/\(∀b∈fp,Z b=none)/\W i m a2 Z:=λ{s8 H8} I8 n8=>by
    obtain⟨m',hm,w8⟩:=hN K H8 n8
    refine⟨m',hm,i+1,K,H8,I8.unpinned,T.keep _ _ _ b5 λb k o e=>(I8.pin (b,o) (Qoq _ (Qoq _ (dm k e)))).1,λb k=> ?_,w8⟩
    obtain⟨o,e,d⟩:=T.obj _ _ b5 b k
    exact(I8.pin (b,o) (Qoq _ (Qoq _ (dm k e)))).2.1
   cases ok with
   |false=>exact again I7 q7
   | true=>
     refine c8 (he P2.objs.size f H2 fp _ s7 K H7 _ I7 q7) λyv s8 Y=> ?_
     obtain⟨y,H8,I8,ry,xs,hx,hl,n8⟩:=Y
     refine c8 (pq (X:=aN X N a R P2.objs.size f H2 fp) _ s8 K H8 (.ref f.heap.objs.size) [y] (.ref f.heap.objs.size) [yv] (λ_ Z=>Nx K Z) I8 rfl (.cons ry .nil) ⟨_,xs,y,rfl,rfl,hx,hl,n8⟩) λ_ s9 Y=> ?_
     obtain⟨z,H9,I9,_,q9⟩:=Y
     exact again I9 q9
 exact codeAny_compStart_list a7 (T.self _ 0 _ _ _ (T.keep _ _ _ b4 λb _ o e=>U b o e) a7)
section
variable{X:Cx}
def C4:j_ X (.builtin "isinstance") (λxs H Q=>∃x T t b,xs= [x,.ty T]/\oN X.K H x t/\PySem.W.kitOne X.K t (.type T)=some b/\Q (.bl b) H):=by
 intro a s f H xs g Q I r h
 obtain⟨x,T,t,b,rfl,ty,e,q⟩:=h
 obtain⟨u,c,rfl,rx,rt⟩:=vals2 r
 cases (show c=Value.type T from rt)
 exact A6 I rx ty e λd=>⟨.bl b,H,I.tok d,rfl,q⟩
def An:List V->List V->Bool
 | [],[]=>true
 |x::xs,y::ys=>lJ x y&&An xs ys
 |_,_=>false
theorem uQ:∀{xs ys:List V},xs.length≠ys.length->An xs ys=false
 | [],[],h=>absurd rfl h
 | [],_::_,_=>rfl
 |_::_,[],_=>rfl
 | x::xs,y::ys,h=>by
   have:=uQ (xs:=xs) (ys:=ys) λe=>h (by simp[e])
   show(lJ x y&&An xs ys)=false
   rw[this,Bool.and_false]
theorem wD:∀{xs ys:List V},xs.length=ys.length->(List.range xs.length).all (λj=>lJ (xs.getD j .non) (ys.getD j .non))=An xs ys
 | [],[],_=>rfl
 | [],_::_,h=>by cases h
 |_::_,[],h=>by cases h
 | x::xs,y::ys,h=>by
   have a:=wD (xs:=xs) (ys:=ys) (Nat.succ.inj h)
   rw[Qnq,List.range_succ_eq_map,List.all_cons,List.all_map]
   show(lJ x y&&_)=(lJ x y&&An xs ys)
   rw[←a]
   rfl
def DA{A:Around}{s:Shared}{xs ys:List V}{a vs:List Value}(r:bI xs a)(d:bI ys vs)(f:xs.all gH=true)(f':ys.all gH=true)(j:Nat)(h:j<a.toArray.size)(o:j<vs.toArray.size):
  SeqAt.EqAt A s a.toArray[j] vs.toArray[j] (lJ (xs.getD j .non) (ys.getD j .non)):=by
 have q:=r.length
 have n:=d.length
 have b:j<xs.length:=by rw[q];simpa using h
 have c:j<ys.length:=by rw[n];simpa using o
 obtain⟨u,k,e⟩:=r.get (gQe b)
 obtain⟨v,t,p⟩:=d.get (gQe c)
 have g:xs.getD j .non=xs[j]:=by rw[Qlq,gQe b];rfl
 have m:ys.getD j .non=ys[j]:=by rw[Qlq,gQe c];rfl
 have l:a.toArray[j]=u:=by
  have:=(gQs.mp k).2
  simpa using this
 have i:vs.toArray[j]=v:=by
  have:=(gQs.mp t).2
  simpa using this
 rw[l,i,g,m]
 exact D4 e p (QUq.mp f _ (List.getElem_mem b)) (QUq.mp f' _ (List.getElem_mem c))
def GD(K:PySem.W.Frag)(e:Bool):R2:=λx y H Q=>∃a b c d,x=.ref a/\y=.ref b/\jg K H a c/\jg K H b d/\c.all gH=true/\d.all gH=true/\Q (.bl (if e then !An c d else An c d)) H
def HP(n:X.A.units<cLine):jO X (compareOp .Eq) (GD X.K false):=by
 intro m s C H x y v u Q I B z h
 obtain⟨a,b,i,l,rfl,rfl,ha,hb,fa,fb,q⟩:=h
 cases B
 cases z
 obtain⟨c,r,o,F⟩:=I.list ha
 obtain⟨g,k,d,t⟩:=I.list hb
 by_cases hl:i.length=l.length
 ·have f:c.toArray.size=g.toArray.size:=by simp[←r.length,←k.length,hl]
  refine SeqAt.eq_listAt (e:=λj=>lJ (i.getD j .non) (l.getD j .non)) o.isList d.isList f n (λj p w=>DA r k fa fb j p w) ⟨.bl _,H,I,rfl,?_⟩
  rw[show c.toArray.size=i.length by simp[r.length],wD hl]
  exact q
 ·refine SeqAt.eq_list_lengthsAt o.isList d.isList (by simpa [←r.length,←k.length] using hl) n ⟨.bl _,H,I,rfl,?_⟩
  rw[←uQ hl]
  exact q
def Dj(o:X.A.units<cLine):jO X (compareOp .NotEq) (GD X.K true):=by
 intro m s F H x y v u Q I C B h
 obtain⟨a,b,f,g,rfl,rfl,ha,hb,fa,fb,q⟩:=h
 cases C
 cases B
 obtain⟨c,r,p,G⟩:=I.list ha
 obtain⟨k,l,d,w⟩:=I.list hb
 by_cases hl:f.length=g.length
 ·have i:c.toArray.size=k.toArray.size:=by simp[←r.length,←l.length,hl]
  refine SeqAt.RcNeAt.lists (e:=λj=>lJ (f.getD j .non) (g.getD j .non)) p.isList d.isList i o (λj t z=>DA r l fa fb j t z) _ _ _ _ ⟨.bl _,H,I,rfl,?_⟩
  rw[show c.toArray.size=f.length by simp[r.length],wD hl]
  exact q
 ·refine SeqAt.RcNeAt.lists_lengths p.isList d.isList (by simpa [←r.length,←l.length] using hl) o _ _ _ _ ⟨.bl _,H,I,rfl,?_⟩
  have n:Q (.bl (!An f g)) H:=q
  rw[uQ hl] at n
  exact n
end
section
variable{X:Cx}
def Cc{bs:List Bool}{a:List Value}(r:bI (bs.map V.bl) a){i:Nat}{v:Value}(h:a.toArray[i]?=some v):v=.bool (bs.getD i false):=by
 have f:i<a.length:=by
  have:=(Array.getElem?_eq_some_iff.mp h).1
  simpa using this
 have l:=r.length
 rw[lQm] at l
 have b:i<bs.length:=by omega
 obtain⟨u,e,q⟩:=r.get (i:=i) (x:=V.bl bs[i]) (by rw[gQm,gQe b];rfl)
 have c:a[i]?=some v:=by simpa using h
 rw[e] at c
 cases c
 have d:bs.getD i false=bs[i]:=by rw[Qlq,gQe b];rfl
 rw[d]
 exact q
theorem yp:∀bs:List Bool,(List.range bs.length).all (λi=>bs.getD i false)=bs.all id
 | []=>rfl
 | b::bs=>by
   rw[Qnq,List.range_succ_eq_map,List.all_cons,List.all_map,List.all_cons,←yp bs]
   rfl
def Ji(K:PySem.W.Frag)(f:List Bool->Bool):List V->Hp->VK->Prop:=λc H Q=>∃a b,c= [.ref a]/\jg K H a (b.map V.bl)/\Q (.bl (f b)) H
def Bx(l:X.calm=true):j_ X (.builtin "all") (Ji X.K λbs=>bs.all id):=by
 intro g s p H x t Q I r h
 obtain⟨a,bs,rfl,ha,q⟩:=h
 obtain⟨u,rfl,rx⟩:=vals1 r
 cases (show u=Value.ref a from rx)
 obtain⟨c,j,f,y⟩:=I.list ha
 have hl:c.toArray.size=bs.length:=by have:=j.length;simp at this;simp[this]
 have d:a<s.heap.objs.size:=by obtain⟨o,e,_⟩:=f.isList;exact Qiq e
 refine call_all_walk (wpAny_pyIter_list f.isList ⟨s.heap.objs.size,_,_,_,_,_,λi=>bs.getD i false,rfl,Walks.list (A:=X.A.in1) (show X.A.in1.handled=none from I.ok.hd l) s.heap.objs.size a (Qwq d) c.toArray,⟨⟨_,Qrq _ rfl,rfl,rfl⟩,f.isList.at λo e=>Qcq _ e⟩,?_,λh' z k=> ?_⟩)
 ·intro i v B w C m n
  rw[Cc j m]
  exact wpAny_truthy_bool n
 ·rw[hl,yp]
  refine⟨.bl _,H,I.kept (h':=h') λb o e=>k b o ?_ (Qcq _ e),rfl,q⟩
  have:=Qiq e
  simp
  exact Qwq this
end
end L2
namespace Dk
open PySem
def rX:mroOf (Value.type "dict")=pure [Value.type "dict",Value.type "object"]:=by
 rw[mroOf_type]
 rfl
def p6:typeLookup (Value.type "dict") (Str.ofString "__new__")=pure (some (Value.builtin "dict.__new__")):=by
 rw[typeLookup_type,builtinLookup_eq_fast]
 rfl
def w6:isSubtype (Value.type "dict") (Value.type "dict")=pure true:=by
 rw[isSubtype_type]
 rfl
def g8:plainId "dict.__new__"=true:=by decide +kernel
def df:TypeCalled "dict" "dict.__new__" "dict.__init__" where
 notType:=by decide +kernel
 canCreate:=by decide +kernel
 mro:=⟨_,_,rX⟩
 made:=madeBy_type rX p6 (by decide +kernel)
 plain:=g8
 sub:=w6
 init:=F.slot_dict_init
def qg(a:Value):checkTypeCall "dict" {pos:= [a]}=pure ():=by rfl
def sC(a:Value):checkBuiltinCall "dict.__new__" {pos:= [Value.type "dict",a]}=pure ():=by with_unfolding_all rfl
def qX:entryFor table "dict.__new__"=some Builtin.«dict.__new__»:=by rfl
def p0{prog:Program}{w:World}{A:Around}{E:Value->Shared->Prop}{s:Shared}(a:Value){Q₁:Value->Shared->Prop}
  (h:Q₁ (.ref s.heap.objs.size) {s with heap:=s.heap.push {cls:=.type "dict",data:=.dict #[]}}):
  codeAny (model prog w) A (.call (.builtin "dict.__new__") {pos:= [.type "dict",a]}) (wants Q₁ E) s:=by
 refine codeAny_of_tree ?_
 show wpAny _ _ (do checkBuiltinCall "dict.__new__" _;_) _ _ _
 refine Qaq (wpAny_of_eq (sC a) (Qgq ⟨plainId_quiet g8 _,codeAny_builtin qX ?_⟩))
 rw[Around.under_plainId g8]
 refine Qaq (Qgq (QgQ rfl (Qaq (wpAny_of_eq w6 (QgQ rfl (Qaq (wpAny_of_eq rX (QgQ ?_ ?_))))))))
 ·rfl
 ·refine Qaq ?_
  have e:newObj (.type "dict") (.dict #[])=newObjAsIs (.type "dict") (.dict #[]):=by
   unfold newObj
   simp
  rw[e]
  exact Qaq (wpAny_alloc (Qgq (Qgq h)))
def xo{prog:Program}{w:World}{A:Around}{E:Value->Shared->Prop}{s:Shared}{a:Value}{Q:Value->Shared->Prop}
  (h:wpAny (model prog w) A.in1.in1 (Builtin.«dict.__init__» {pos:= [.ref s.heap.objs.size,a]})
   (λu l=>match u with|.done f=>wants (λr b=>r=.none/\Q (.ref s.heap.objs.size) b) E (.ok f) l|.again x=>x.quiet=true/\codeAny (model prog w) A.in1 x (wants (λr b=>r=.none/\Q (.ref s.heap.objs.size) b) E) l)
   (λe l=>wants (λr b=>r=.none/\Q (.ref s.heap.objs.size) b) E (.error e) l) {s with heap:=s.heap.push {cls:=.type "dict",data:=.dict #[]}}):
  wpAny (model prog w) A (call (.type "dict") [a]) Q E s:=by
 obtain⟨c,G,k⟩:=df.mro
 have i:=df.made
 have j:=df.sub
 refine wpAny_call (codeAny_of_tree ?_)
 refine Qgq ⟨Code.quiet_builtin _ (by decide +kernel),codeAny_builtin F.entry_type_call ?_⟩
 rw[Around.under_plain (weight_type_call_type "dict" [a] []) rfl]
 have C:=df.notType
 have B:=df.canCreate
 have m:=qg a
 unfold Builtin.«type.__call__»
 dsimp only
 refine QgQ rfl ?_
 refine QgQ (by rw[B];rfl) ?_
 refine Qaq (wpAny_of_eq m (Qaq (wpAny_of_eq k (QgQ rfl (Qaq (wpAny_of_eq i (Qaq (Qgq (Qaq (QLq (wpAny_call (codeAny_mono (p0 (E:=E) (Q₁:=λv d=>v=.ref s.heap.objs.size/\d={s with heap:=s.heap.push {cls:=.type "dict",data:=.dict #[]}}) a ⟨rfl,rfl⟩) λr d g=> ?_))))))))))))
 cases r with
 |error e=>exact g
 | ok p=>
   cases p with
   | ret y=>
     obtain⟨rfl,rfl⟩:=g
     have z:=Qrq s.heap (o:={cls:=.type "dict",data:=.dict #[]}) rfl
     have q:Shared.TypeIs {s with heap:=s.heap.push {cls:=.type "dict",data:=.dict #[]}} (.ref s.heap.objs.size) "dict":=⟨_,z,rfl⟩
     have t:=df.init.lookup
     have n:=df.init.bind (.ref s.heap.objs.size)
     refine Qaq (wpAny_isInstance q j (QgQ rfl (Qaq (QLq ?_))))
     unfold callSpecial?
     refine Qaq (wpAny_specialOf q t (QLq (Qaq (wpAny_of_eq n (Qaq (wpAny_call (codeAny_mono (codeAny_call_builtin df.init.plain F.entry_dict_init (df.init.check _ _ _ _ _ [a] [] _ q (F.args_dict_init_2 _ _) h)) λr b g=> ?_)))))))
     cases r with
     |error e=>exact g
     | ok p=>
       cases p with
       | ret v=>
         obtain⟨rfl,hq⟩:=g
         exact Qgq (QgQ rfl (Qgq hq))
       |_=>exact g.elim
   |_=>exact g.elim
def j9:entryFor table "dict.update.loop"=some Builtin.«dict.update.loop»:=by rfl
def gC:plainId "dict.update.loop"=true:=by decide +kernel
section
variable{prog:Program}{w:World}{K:Type}[DecidableEq K]{knd:KeyKind prog w K}
def zv(a:List (K×Value))(k:K)(v:Value):(stored a k v).length<=a.length+1:=by
 unfold stored
 split
 ·rw[lQm];omega
 ·rw[lQa];simp
def GJ(b:Nat->K)(a:Nat->Value):Nat->List (K×Value)
 |0=> []
 |i+1=>stored (GJ b a i) (b i) (a i)
theorem Aq(b:Nat->K)(a:Nat->Value):∀i,(GJ b a i).length<=i
 |0=>Qmq _
 |i+1=>QAq (zv _ _ _) (Nat.succ_le_succ (Aq b a i))
end
end Dk
namespace L2
open PySem PySem.Spec PyProof.Rows
section
variable{X:Cx}
def key_is{k:Key}{u:Value}(r:RelV (kV k) u)(P:Program)(w:World):(bM P w).is k u=true:=by
 cases k with
 |inl i=>obtain⟨t,rfl⟩:=(show∃t,u=Value.int i t from r);simp[bM,pN,Value.isInt]
 |inr x=>obtain⟨t,rfl⟩:=(show∃t,u=Value.str x t from r);simp[bM,pN,Value.isStrOf]
end
end L2
namespace Dk
open PySem
end Dk
namespace L2
open PySem PySem.Spec PyProof.Rows
def Fw{X:Cx}{N:List Str}{js:List (Option Nat)}{a:Scope}{Y:List (Str×Addr)}{tg M a7 L:Expr}{a9:List Expr}{pos b2:Pos}{wi:TI}{g gt:TG}{tt:TT}{te:TE}
  (S:aU X N js a Y) (hc:X.calm=true) (hi:PI X tg M wi)
  (hg:∀C s H fp,PG (aN X N a Y C s H fp) tg g) (ht:∀C s H fp,mK (aN X N a Y C s H fp) a9 tt) (he:∀C s H fp,PE (aN X N a Y C s H fp) a7 te) (d6:PG X L gt)
  (hs:∀x,foldedSetIterable M X.env x=pure x:=by intro _;rfl) (d8:swapsWithSole [L] (.ListComp a7 [⟨tg,M,a9,0⟩] a pos) b2.line X.env=pure true:=by rfl)
  (h1:(assignEach [L] X.env).map (·.2)= [assign L X.env]:=by rfl):PS X (.Assign [L] (.ListComp a7 [⟨tg,M,a9,0⟩] a pos) b2) (Bz (CP js wi g tt te) gt):=by
 intro U s σ H Dn I h
 rw[exec_Assign_arm]
 refine Qaq (wpAny_standAt (Qaq (wpAny_of_eq d8 (wpAny_ite_true rfl (Qaq ?_)))))
 rw[h1]
 show wpAny _ _ (do let _←comprehension _ _ _ _ _ _ _ (some λv=>assignAll v [assign L X.env]);pure ()) _ _ _
 refine Qaq ?_
 refine wpAny_comprehension_free (use:=some λv=>assignAll v [assign L X.env]) rfl hs S.clos S.kind S.names (c8 (hi U s σ H _ I h) λv s1 h1=>c8 h1 λe4 k h2=> ?_)
 obtain⟨it,fp,tn,J,H2,e,t,T,b5,f2,hD⟩:=h2
 subst e
 refine QhQ (wpAny_newFunctionEnv S.nocell (by intro y hy;simp at hy) (λP K B=> ?_) S.kind)
 dsimp only at K B⊢
 generalize b4:k.heap.push {cls:=.type "list",dict:=none,data:=.seq ([]:List Value).toArray}=P2 at K B⊢
 have hC:P2.objs.size=k.heap.objs.size+1:=by rw[←b4,Heap.size_push]
 have d1:k.heap.objs.size≠P2.objs.size:=by rw[hC];exact Qwq (Nat.lt_succ_self _)
 have a5:k.heap.objs.size<=P2.objs.size:=by rw[hC];exact Nat.le_succ _
 have G:∀b,b<k.heap.objs.size->b≠P2.objs.size:=λb f=>by rw[hC];exact Qwq (Nat.lt_succ_of_lt f)
 have Z:∀b o,k.heap.get? b=some o->P.get? b=some o:=λb o e=>B.extBut b o (G b (Qiq e)) (Qcq _ (b4▸Qcq _ e))
 have d3:P.get? k.heap.objs.size=some {cls:=.type "list",dict:=none,data:=.seq ([]:List Value).toArray}:=B.extBut _ _ d1 (Qcq _ (b4▸Qrq _ rfl))
 have nD:H2 k.heap.objs.size=none:=t.fresh
 have nC:H2 P2.objs.size=none:=t.hok.fresh a5
 have b3:∀b∈fp,b<k.heap.objs.size:=λb f=>by
  obtain⟨o,e,_⟩:=T.obj _ _ b5 b f
  exact Qiq e
 obtain⟨W,⟨m0,w0⟩,d2⟩:=hD k.heap.objs.size nD
 have c6:(aN X N a Y P2.objs.size k H2 fp).Ok:=by
  refine⟨t.ok.mod,S.kind,t.ok.glob,t.ok.blt,a5,λx y c h1 h2=>t.ok.inj x y c (S.sub x c h1) (S.sub y c h2),S.has,(λx c h=>by cases h),t.ok.hd,t.ok.frames,.inl rfl,
   λb f=>⟨G b (b3 b f),λx c h=>(f2 b f).2.2.2.2.1 x c (S.sub x c h)⟩,t.bs,QAq t.ok.bsz t.sz,λb o e f=> ?_,λb f z=> ?_,t.stack,t.stkFree⟩
  ·rcases(f2 b f).2.2.2.1 with z|z
   ·exact t.ok.noex b o e z
   ·exact absurd (Qqq (Qqq (Qiq e) t.ok.bsz) z) (Nat.lt_irrefl _)
  ·rcases Qsq.mp (t.stkSub b z) with q|q
   ·exact(f2 b f).2.1 q
   ·exact(f2 b f).2.2.1 q
 have c4:cC X.prog X.w (upd H2 k.heap.objs.size (.lst [])) P k.heap.objs.size (.lst []):=⟨Nat.zero_le _,[],0,.nil,d3⟩
 have I4:Inv (aN X N a Y P2.objs.size k H2 fp) [] (jQ js σ) (upd H2 k.heap.objs.size (.lst [])) {k with heap:=P,toks:=k.toks+([]:List (Str×Value)).length}:=by
  refine⟨c6,rfl,t.bare,Un.laid Z (Qmq _) nD,⟨_,K,λi x v h1 h2 h3=> ?_⟩,λx c h=> ?_,by show upd H2 _ _ P2.objs.size=none;rw[bh d1.symm];exact nC,λx c h=> ?_,λp hp=>absurd (show p∈([]:List (Addr×Obj)) from hp) (by simp),t.hok.laid Z (Qmq _) c4,by show(jQ js σ).length=N.length;unfold jQ;rw[lQm];exact S.len⟩
  ·unfold jQ at h2
   rw[gQm] at h2
   cases e:js[i]? with
   |none=>rw[e] at h2;cases h2
   | some o=>
     rw[e] at h2
     cases o with
     |none=>cases h2
     | some j=>
       have a2:σ.getD j none=some v:=QdQ h2
       have hj:σ[j]?=some (some v):=by
         rw[Qlq] at a2
         cases q:σ[j]? with
         |none=>rw[q] at a2;cases a2
         |some y=>rw[q] at a2;exact congrArg some a2
       obtain⟨c1,c2,c3⟩:=S.cap i j x e h1
       obtain⟨m,hn,hl⟩:=t.loc
       have d5:Gq X.env.scope x:=by
         rcases c2 with z|z
         · exact .inr (.inl z)
         · exact .inr (.inr z)
       obtain⟨u,r,l⟩:=hl j x v c1 hj d5
       refine⟨u,r,.inr ⟨c3,?_⟩⟩
       obtain⟨c,b8⟩:=S.has x c3
       refine⟨c,b8,?_⟩
       rcases l with⟨z,_⟩|⟨_,c',e',z⟩
       · rcases c2 with y|y <;>rw[y] at z <;>cases z
       · rw[S.sub x c b8] at e'
         cases e'
         obtain⟨o,ho,hd⟩:=z
         exact⟨o,Z _ _ ho,hd⟩
  ·obtain⟨v,o,ho,hd⟩:=t.cell x c (S.sub x c h)
   exact⟨v,o,Z _ _ ho,hd⟩
  ·obtain⟨v,o,ho,hd⟩:=t.cell x c (S.sub x c h)
   rw[bh (Qwq (Qiq ho))]
   exact t.freeC x c (S.sub x c h)
 have a4:∀{R:List (Addr×Obj)} {H':Hp},R= []->(∀b∈fp,H' b=none)->∀b∈fp,oV (aN X N a Y P2.objs.size k H2 fp) R H' b:=λ{R H'} ep hn b f=>by
  subst ep
  refine⟨hn b f,G b (b3 b f),λz=>c6.exfs b f z,.inl f,λx c h=>(f2 b f).2.2.2.2.1 x c (S.sub x c h),λp hp=>absurd (show p∈([]:List (Addr×Obj)) from hp) (by simp)⟩
 have b1:codeAny (model X.prog X.w) X.A (.compLoop (.ListComp a7 [⟨tg,M,a9,0⟩] a pos) 0 (.ref it) (.ref k.heap.objs.size) (compEnvC a Y P2.objs.size X.env))
   (compPost (model X.prog X.w) X.A X.xe (some λv=>assignAll v [assign L X.env]) (λ_ s9=>wpAny (model X.prog X.w) X.A (pure ()) (λ_ e0=>wpAny (model X.prog X.w) X.A (pure Flow.next) (SP X U Dn) X.xe e0) X.xe s9) (.ref k.heap.objs.size) P2.objs.size) {k with heap:=P,toks:=k.toks+([]:List (Str×Value)).length}:=by
  refine nU (λn s'=>∃i a3 H',Inv (aN X N a Y P2.objs.size k H2 fp) [] a3 H' s'/\tn i s'.heap/\(∀b∈fp,H' b=none)/\W i n a3 H') ?_ m0
   ⟨0,_,_,I4,T.keep _ _ _ b5 λb _ o e=>Z b o e,λb f=>by rw[bh (Qwq (b3 b f))];exact(f2 b f).1,w0⟩
  rintro n s3 ⟨i,a6,H3,I3,c0,c5,w3⟩
  rcases d2 i n a6 H3 w3 with⟨stop,q⟩|⟨go,Nx,hN,b7⟩
  ·refine c8 (T.done (aN X N a Y P2.objs.size k H2 fp) rfl rfl rfl hc i [] s3 a6 H3 _ I3 (a4 rfl c5) c0 stop) λr s4 Q=> ?_
   obtain⟨hr,I5⟩:=Q
   subst hr
   obtain⟨m,hn,_⟩:=id I5.loc
   have e3:∀h',Heap.SameBut P2.objs.size s4.heap h'->Inv X U σ H3 {s4 with heap:=h'}:=by
    intro h' a1
    have u:=I5.base
    have ne:∀b o,k.heap.get? b=some o->b≠P2.objs.size:=λb o e=>G b (Qiq e)
    refine t.call' (ch:=fp) I5.os ⟨λb o e n f hx=>(a1.2 b (ne b o e)).trans (u.keep b o e n f hx),λb o e n f hx=> ?_,u.free,λb o e hx=> ?_,u.tups,u.frzs,u.tbls⟩ (λb ob e=> ?_) I5.bare λb f=>⟨(f2 b f).2.2.2.1,(f2 b f).2.1,(f2 b f).2.2.2.2.1,(f2 b f).2.2.2.2.2⟩
    ·obtain⟨sl,e1⟩:=u.slot b o e n f hx
     exact⟨sl,(a1.2 b (ne b o e)).trans e1⟩
    ·obtain⟨o',e1⟩:=u.there b o e hx
     exact⟨o',(a1.2 b (ne b o e)).trans e1⟩
    ·refine(I5.hok b ob e).stay (λc w' hc q=>(a1.2 c ?_).trans q) (λ_ q=>q) λ_ _ q=>q
     have fC:H3 P2.objs.size=none:=I5.free
     rintro rfl
     rcases hc with z|z
     ·rw[←z,fC] at e;cases e
     ·rw[fC] at z;cases z
   have IX:=e3 s4.heap ⟨rfl,λ_ _=>rfl⟩
   have b0:oV X U H3 P2.objs.size:=t.fpOk a5 I5.free
   obtain⟨oC,es,ep,b9,d4,d9⟩:=hn
   have IP:=IX.pinned (fp:= [P2.objs.size]) (λb f=>by rw[Qfq] at f;rw[f];exact b0) (λb f=>by rw[Qfq] at f;rw[f];exact⟨oC,b9,λv=>by rw[d4];simp⟩)
   show wpAny _ _ (assignAll (.ref k.heap.objs.size) [assign L X.env]) _ _ _
   rw[assignAll.eq_2]
   refine c8 (d6 _ s4 σ H3 (.ref k.heap.objs.size) (.ref k.heap.objs.size) _ IP rfl q) λ_ s6 Q=> ?_
   obtain⟨F,H6,I6,q6⟩:=Q
   have pC:=I6.pin (P2.objs.size,oC) (Qoq _ (Qoq _ (dm (Qfq.mpr rfl) b9)))
   refine⟨m,⟨oC,es,ep,pC.1,d4,d9⟩,λh' a1=>Qgq (Qgq ⟨F,H6,?_,q6⟩)⟩
   exact I6.unpinned.turned (it:=P2.objs.size) (t':=s6.toks) (λb o' f e=>(a1.2 b f).trans e) pC.2.1 pC.2.2.1 b0.2.2.2.1 b0.2.2.2.2.1 b0.2.2.2.2.2
  ·refine c8 (T.item (aN X N a Y P2.objs.size k H2 fp) rfl rfl rfl hc i [] s3 a6 H3 _ I3 (a4 rfl c5) c0 go) λr s4 Q=> ?_
   obtain⟨u,hr,h4⟩:=Q
   subst hr
   refine c8 h4 λ_ s5 Q=> ?_
   obtain⟨x,H5,I5,r5,y5,b6,e2⟩:=Q
   have d7:=I5.pinned (a4 rfl e2) (T.obj _ _ b6)
   refine c8 (hg P2.objs.size k H2 fp _ s5 a6 H5 x u _ d7 r5 (b7 x H5 y5)) λ_ s6 Q=> ?_
   obtain⟨F,H6,I6,q6⟩:=Q
   refine c8 (ht P2.objs.size k H2 fp _ s6 F H6 _ I6 q6) λok s7 Q=> ?_
   obtain⟨H7,I7,q7⟩:=Q
   have again:∀{s8:Shared} {H8:Hp},Inv (aN X N a Y P2.objs.size k H2 fp) ([]++my fp s5.heap) F H8 s8->Nx F H8->∃m,m<n/\∃i a3 H',Inv (aN X N a Y P2.objs.size k H2 fp) [] a3 H' s8/\tn i s8.heap/\(∀b∈fp,H' b=none)/\W i m a3 H':=λ{s8 H8} I8 n8=>by
    obtain⟨m',hm,w8⟩:=hN F H8 n8
    refine⟨m',hm,i+1,F,H8,I8.unpinned,T.keep _ _ _ b6 λb f o e=>(I8.pin (b,o) (Qoq _ (Qoq _ (dm f e)))).1,λb f=> ?_,w8⟩
    obtain⟨o,e,d⟩:=T.obj _ _ b6 b f
    exact(I8.pin (b,o) (Qoq _ (Qoq _ (dm f e)))).2.1
   cases ok with
   |false=>exact again I7 q7
   | true=>
     refine c8 (he P2.objs.size k H2 fp _ s7 F H7 _ I7 q7) λyv s8 Q=> ?_
     obtain⟨y,H8,I8,ry,xs,hx,hl,n8⟩:=Q
     refine c8 (pq (X:=aN X N a Y P2.objs.size k H2 fp) _ s8 F H8 (.ref k.heap.objs.size) [y] (.ref k.heap.objs.size) [yv] (λ_ H'=>Nx F H') I8 rfl (.cons ry .nil) ⟨_,xs,y,rfl,rfl,hx,hl,n8⟩) λ_ s9 Q=> ?_
     obtain⟨z,H9,I9,_,q9⟩:=Q
     exact again I9 q9
 exact codeAny_compStart_list b1 (T.self _ 0 _ _ _ (T.keep _ _ _ b5 λb _ o e=>Z b o e) b1)
end L2
namespace Dk
open PySem
end Dk
namespace L2
open PySem PySem.Spec PyProof.Rows
section
variable{X:Cx}
def FS(K:PySem.W.Frag):List V->Hp->VK->Prop:=λd H Q=>∃(a:Addr) (c:List Str),d= [.ref a]/\jg K H a (c.map V.str)/\c.length<64/\∀(l:Addr) (b:List Str),H l=none->sortedS b=true->b.Perm c->Q (.ref l) (upd H l (.lst (b.map V.str)))
theorem uM:∀{ys:List Str} {a:List Value},bI (ys.map V.str) a->StrsAre a ys
 | [],_,r=>by cases r;exact .nil
 | y::ys,_,r=>by
   cases r with
   | cons h t=>
     obtain⟨b,rfl⟩:=h
     exact .cons y b (uM t)
def v7{a:List Str}{vs:List Value}(h:StrsAre vs a):bI (a.map V.str) vs:=by
 induction h with
 |nil=>exact .nil
 |cons y t _ b=>exact .cons ⟨t,rfl⟩ b
def vK:j_ X (.builtin "sorted") (FS X.K):=by
 intro j s y H A z Q I r h
 obtain⟨a,l,rfl,ha,h64,q⟩:=h
 obtain⟨u,rfl,rx⟩:=vals1 r
 cases (show u=Value.ref a from rx)
 obtain⟨c,k,w,B⟩:=I.list ha
 have v:c.length=l.length:=by have:=k.length;simpa using this.symm
 have i:s.heap.objs.size<=s.heap.objs.size+1:=Nat.le_succ _
 refine sorted_strs w.isList (uM k) (by omega) λd f n m t=> ?_
 obtain⟨e,p⟩:=sortedAll_at s.heap c d
 have g:f.length=l.length:=m.length_eq
 refine⟨.ref (s.heap.objs.size+1),_,I.laid (a:=s.heap.objs.size+1) (o:=.lst (f.map V.str)) (h':=sortedAll s.heap c d) (t':=s.toks) (λb o x=> ?_) i ⟨?_,d.toList,e,v7 n,?_⟩,rfl,q _ f (I.hok.fresh i) t m⟩
 ·exact sortedAll_old x
 ·rw[lQm,g]
  exact QAq (nQl h64) (by decide)
 ·simpa using p
end
end L2
namespace Zp
open PySem
section
variable{prog:Program}{w:World}{A:Around}{E:Value->Shared->Prop}{s:Shared}
def JP{i t:Addr}{k:Nat}{vs:Array Value}{v:Value}{Q:Value->Shared->Prop}(c:s.heap.IsTupleIter i t k)(g:s.heap.IsTuple t vs)(f:vs[k]?=some v)
  (q:∀h',h'.IsTupleIter i t (k+1)->Heap.SameBut i s.heap h'->Q v {s with heap:=h'}):wpAny (model prog w) A (Builtin.SmallTypes.nextOf (.ref i)) Q E s:=by
 obtain⟨l,b,e,a⟩:=id c
 obtain⟨m,d,_,j,h⟩:=g
 unfold Builtin.SmallTypes.nextOf
 refine Qaq (QiQ (name:=Str.ofString "__next__") c.typeIs F.slot_tuple_iterator_next (wpAny_call_entry F.slot_tuple_iterator_next c.typeIs F.entry_tuple_iterator_next ?_ (F.args_tuple_iterator_next_1 _)))
 refine(?_:wpAny _ _ (field (.ref i) 0 >>= _) _ _ s)
 refine Qaq (QMq b a (x:=.ref t) rfl ?_)
 refine(?_:wpAny _ _ (if (Value.ref t==Value.none)=true then _ else _) _ _ s)
 rw[Quq (λz=>by cases (show false=true from z))]
 refine(?_:wpAny _ _ (field (.ref i) 1 >>= _) _ _ s)
 refine Qaq (QMq b a (x:=.int k 0) rfl ?_)
 refine(?_:wpAny _ _ (seqItems? (.ref t) >>= _) _ _ s)
 refine Qaq (wpAny_seqItems d h ?_)
 simp only[Int.toNat_natCast,f]
 refine Qaq (wpAny_setField b a (by simp) (Qgq ⟨v,rfl,Qgq (q _ ⟨_,Heap.get?_update_self _ b (Obj.isFreed_of_fields (Obj.data_mapFields a _)),(Obj.cls_mapFields ..).trans e,?_⟩ (Heap.SameBut.update ..))⟩))
 rw[Obj.data_mapFields a]
 simp[rawInt]
def JS{i t:Addr}{k:Nat}{vs:Array Value}{Q:Value->Shared->Prop}(f:A.handled=none)(c:s.heap.IsTupleIter i t k)(j:s.heap.IsTuple t vs)(h:vs[k]?=none)
  (q:∀h' e,Heap.ExtBut i s.heap h'->(∃o,h'.get? e=some o/\o.cls=.type "StopIteration")->E (.ref e) {s with heap:=h'}):wpAny (model prog w) A (Builtin.SmallTypes.nextOf (.ref i)) Q E s:=by
 obtain⟨p,d,r,b⟩:=id c
 obtain⟨u,g,_,n,l⟩:=j
 unfold Builtin.SmallTypes.nextOf
 refine Qaq (QiQ (name:=Str.ofString "__next__") c.typeIs F.slot_tuple_iterator_next (wpAny_call_entry F.slot_tuple_iterator_next c.typeIs F.entry_tuple_iterator_next ?_ (F.args_tuple_iterator_next_1 _)))
 refine(?_:wpAny _ _ (field (.ref i) 0 >>= _) _ _ s)
 refine Qaq (QMq d b (x:=.ref t) rfl ?_)
 refine(?_:wpAny _ _ (if (Value.ref t==Value.none)=true then _ else _) _ _ s)
 rw[Quq (λz=>by cases (show false=true from z))]
 refine(?_:wpAny _ _ (field (.ref i) 1 >>= _) _ _ s)
 refine Qaq (QMq d b (x:=.int k 0) rfl ?_)
 refine(?_:wpAny _ _ (seqItems? (.ref t) >>= _) _ _ s)
 refine Qaq (wpAny_seqItems g l ?_)
 simp only[Int.toNat_natCast,h]
 refine Qaq (wpAny_rule (Qaq (wpAny_setField d b (by simp) ?_)))
 refine(?_:wpAny _ _ (newExc (.type "StopIteration") [] >>= _) _ _ _)
 refine Qaq ?_
 simp only[newExc,newTuple]
 refine Qaq (QhQ ?_ (by size_fits))
 refine Qaq (m:=firstArgMember _ _) (wpAny_of_eq (a:=Value.none) (by first|rfl|(simp only[firstArgMember];rfl)) (QhQ ?_ (by size_fits)))
 simp only[raiseNew]
 refine Qaq (wpAny_handled ?_)
 first|rw[show A.in1.handled=none from f]|rw[f]
 exact Qaq (Qgq (wpAny_throw (q _ _ (((Heap.SameBut.update ..).extBut.push _).push _) ⟨_,Qrq _ rfl,rfl⟩)))
end
def Rest(z O i j:Addr)(h h':Heap):Prop:=∀c o,c≠z->c≠O->c≠i->c≠j->h.get? c=some o->h'.get? c=some o
end Zp
namespace L2
open PySem PySem.Spec PyProof.Rows
section
variable{X:Cx}{pins:List (Addr×Obj)}{σ:St}{H:Hp}{s:Shared}{h':Heap}
def Inv.turnedL{t':Nat}{fp:List Addr}(I:Inv X pins σ H s)(d:∀b∈fp,oV X pins H b)(k:∀b o,b∉fp->s.heap.get? b=some o->h'.get? b=some o):Inv X pins σ H {s with heap:=h',toks:=t'}:=by
 have f:∀b u,H b=some u->b∉fp:=λb u e z=>by rw[(d b z).1] at e;cases e
 refine I.step (g':=s.gens) (d':=s.drawn) (ch:=fp) (λb g=>⟨(d b g).2.2.2.1,(d b g).2.1,(d b g).2.2.2.2.1,(d b g).2.2.2.2.2⟩) (λb o _ _ a e _=>k b o a e) (λb o _ _ a e _=>⟨o.slots,k b o a e⟩) (λ_ _ _ _ n=>n)
  (λb o a e=>⟨o,k b o a e⟩) (λ_ _ e=>e) (λ_ _ _ e=>e) (λb p e=>⟨#[],by rw[e];simp⟩) (λm j=> ?_) (λb u e=> ?_) I.bare
 ·obtain⟨o,h,l,i,r⟩:=j
  exact⟨o,h,l,k _ o (λz=>(d _ z).2.1 rfl) i,r⟩
 ·refine(I.hok b u e).stay (λc v a q=>k c v ?_ q) (λ_ q=>q) λ_ _ q=>q
  rcases a with z|z
  ·rw[z];exact f b u e
  ·exact f c _ z
def Inv.turnedNew{t':Nat}{fp:List Addr}{p:Addr}{o:HO}(I:Inv X pins σ H s)(f:∀b∈fp,oV X pins H b)(k:∀b u,b∉fp->s.heap.get? b=some u->h'.get? b=some u)(i:s.heap.objs.size<=p)
  (new:cC X.prog X.w (upd H p o) h' p o):Inv X pins σ (upd H p o) {s with heap:=h',toks:=t'}:=by
 have l:=I.hok.fresh i
 have g:∀b u,H b=some u->b∉fp:=λb u e z=>by rw[(f b z).1] at e;cases e
 have h:∀b u,H b=some u->upd H p o b=some u:=λb u e=>by rw[bh (eY e l)];exact e
 refine I.step (g':=s.gens) (d':=s.drawn) (ch:=fp) (λb d=>⟨(f b d).2.2.2.1,(f b d).2.1,(f b d).2.2.2.2.1,(f b d).2.2.2.2.2⟩) (λb o _ _ a e _=>k b o a e) (λb o _ _ a e _=>⟨o.slots,k b o a e⟩)
  (λb u _ e n=>by rw[bh (λz=>Nat.lt_irrefl _ (Qqq (Qiq e) (by rw[z];exact i)))];exact n)
  (λb o a e=>⟨o,k b o a e⟩) (λb B e=>h b _ e) (λb u v e=>h b _ e) (λb A e=>⟨#[],by rw[h b _ e];simp⟩) (λm x=> ?_) (λb u e=> ?_) I.bare
 ·obtain⟨o,j,y,t,r⟩:=x
  exact⟨o,j,y,k _ o (λz=>(f _ z).2.1 rfl) t,r⟩
 ·by_cases d:b=p
  ·subst d
   rw[bD] at e
   cases e
   exact new
  ·rw[bh d] at e
   refine(I.hok b u e).stay (λc v a q=>k c v ?_ q) (λc q=>h c _ q) λc _ q=>h c _ q
   rcases a with z|z
   ·rw[z];exact g b u e
   ·exact g c _ z
end
end L2
namespace Zp
open PySem PySem.W PyProof.Rows
end Zp
namespace L2
open PySem PySem.Spec PyProof.Rows
section
variable{X:Cx}
def EI:jO X (binaryOp .Mult) (rI IntMulOk λi j=>.int (i*j)):=J8 λ_ _ _ _ _ _ _ a q=>mul_int q a
end
section
variable{X:Cx}
def CU(K:PySem.W.Frag):R2:=λx y H Q=>∃a b c,x=.ref a/\y=.ref b/\jg K H a c/\jg K H b []/\Q (.bl (!c.isEmpty)) H
def C6(f:X.A.units<cLine):jO X (compareOp .NotEq) (CU X.K):=by
 intro c s i H x y v u Q I g e h
 obtain⟨a,b,m,rfl,rfl,ha,hb,q⟩:=h
 cases m with
 |nil=>exact Dj f c s i H _ _ v u Q I g e ⟨a,b,[],[],rfl,rfl,ha,hb,rfl,rfl,q⟩
 | cons z w=>
   cases g
   cases e
   obtain⟨k,r,o,B⟩:=I.list ha
   obtain⟨l,p,d,j⟩:=I.list hb
   have t:=r.length
   have n:=p.length
   exact SeqAt.RcNeAt.lists_lengths o.isList d.isList (by simp[←t,←n]) f _ _ _ _ ⟨.bl true,H,I,rfl,q⟩
end
end L2
namespace HT
open PySem PySem.Spec PyProof.Rows
section
variable{prog:Program}{w:World}{A:Around}{E:Value->Shared->Prop}{s:Shared}
def lI{t b:Addr}{items:Array Value}{i f:Value}{lo hi:Option Int}{Q:Value->Shared->Prop}(ht:IsTup s.heap t items)(j:s.heap.IsSliceOf b i f .none)(p:IsPart i lo)(n:IsPart f hi)
  (g:dF items.size 0 lo=0/\dF items.size items.size hi=items.size) (h:Q (.ref t) s):wpAny (model prog w) A (getItem (.ref t) (.ref b)) Q E s:=by
 obtain⟨o,c,e,l⟩:=id j
 have d:s.TypeIs (.ref b) "slice":=⟨o,c,e⟩
 unfold getItem
 try with_reducible refine QLq ?_
 first|refine Qaq (Qgq ?_)|skip
 refine Qaq (wpAny_sequenceKey ht.typeIs (by decide) ?_)
 refine Qaq (QiQ (name:=Str.ofString "__getitem__") ht.typeIs PyProof.Rows.slot_tuple_getitem
  (wpAny_call_entry PyProof.Rows.slot_tuple_getitem ht.typeIs entry_tuple_getitem ?_ (args_tuple_getitem _ _)))
 show wpAny _ _ (Builtin.Tuple.tupleItemsOf (.ref t) >>= _) _ _ s
 refine Qaq (tupleItemsOf_ ht ?_)
 refine Qaq (wpAny_typeOf d ?_)
 rw[Qhq (by decide)]
 refine Qaq (jn j p n ?_)
 have a:(((dF items.size 0 lo:Nat):Int)==0&&(1:Int)==1&&(dF items.size items.size hi-dF items.size 0 lo)==items.size)=true:=by
  rw[g.1,g.2]
  simp
 show wpAny _ _ (if (((dF items.size 0 lo:Nat):Int)==0&&(1:Int)==1&&(dF items.size items.size hi-dF items.size 0 lo)==items.size)=true then _ else _) _ _ s
 rw[Qhq a]
 have k:∀{A:Around} {E:Value->Shared->Prop} {R:Bool->Shared->Prop},R true s->wpAny (model prog w) A (Builtin.Tuple.tupleIsExact (.ref t)) R E s:=λ{A E R} h=>by
  unfold Builtin.Tuple.tupleIsExact
  exact Qaq (wpAny_typeOf ht.typeIs (Qgq h))
 refine Qaq (m:=Builtin.Tuple.tupleIsExact _) (k ?_)
 rw[Qhq rfl]
 refine Qaq (wpAny_rule ?_)
 exact Qgq ⟨_,rfl,Qgq h⟩
end
end HT
namespace L2
open PySem PySem.Spec PyProof.Rows
def Ko(K:PySem.W.Frag):V->Option Int->Option Int->Hp->VK->Prop:=λx c d H Q=>∃a b,x=.ref a/\hG K H a b∧
 (HT.dF b.length 0 c=0/\HT.dF b.length b.length d=b.length->Q (.ref a) H)/\(¬(HT.dF b.length 0 c=0/\HT.dF b.length b.length d=b.length)->∀p,H p=none->Q (.ref p) (upd H p (.tup (va b c d))))
def FH{X:Cx}:J5 X (Ko X.K):=by
 intro c s o H x v t q m g p Q I n i l k h
 obtain⟨a,b,rfl,hx,q1,q2⟩:=h
 by_cases e:HT.dF b.length 0 m=0/\HT.dF b.length b.length g=b.length
 ·cases n
  obtain⟨f,r,j,u⟩:=I.tuple hx
  have d:f.toArray.size=b.length:=by rw[Qjq];exact r.length.symm
  refine⟨"tuple",_,PyProof.Rows.slot_tuple_getitem.lookup,j.typeIs,?_⟩
  exact HT.lI j i l k (by rw[d];exact e) ⟨.ref a,H,I,rfl,q1 e⟩
 ·exact GM c s o H _ v t q m g p Q I n i l k ⟨a,b,rfl,hx,e,q2 e⟩
end L2
namespace DL
open PySem PySem.Spec PyProof.Rows L2
inductive D where
 |non|bl (b:Bool)|int (i:Int)|str (x:Str)|tup (xs:List D)|ref (k:Nat)|fn (x:Str)
inductive O where
 |lst (xs:List D)|frz (xs:List D)|dct (kvs:List (Key×D))
abbrev aG:=List O
abbrev cD:=List (Option D)
structure Md where
 K:PySem.W.Frag
 mg:Str->Option Value
mutual
inductive Rel(M:Md)(ρ:List Addr)(H:Hp):D->V->Prop
 |non:Rel M ρ H .non .non
 |bl (b:Bool):Rel M ρ H (.bl b) (.bl b)
 |int (i:Int):Rel M ρ H (.int i) (.int i)
 |str (x:Str):Rel M ρ H (.str x) (.str x)
 |tup {a:Addr} {vs:List V} {ds:List D}:H a=some (.tup vs)->bj M ρ H ds vs->Rel M ρ H (.tup ds) (.ref a)
 |ref {k:Nat} {a:Addr}:ρ[k]?=some a->Rel M ρ H (.ref k) (.ref a)
 |fn {x:Str} {a:Addr}:M.mg x=some (.ref a)->Rel M ρ H (.fn x) (.ref a)
inductive bj(M:Md)(ρ:List Addr)(H:Hp):List D->List V->Prop
 |nil:bj M ρ H [] []
 |cons {d:D} {v:V} {ds:List D} {vs:List V}:Rel M ρ H d v->bj M ρ H ds vs->bj M ρ H (d::ds) (v::vs)
end
section
variable{M:Md}{ρ ρ':List Addr}{H H':Hp}
def Ly:HO->Prop
 |.tup _=>True
 |.frz _ _=>True
 |_=>False
structure bU(ρ:List Addr)(H:Hp)(ρ':List Addr)(H':Hp):Prop where
 pre:ρ <+: ρ'
 new:∀a∈ρ',a∈ρ\/H a=none
 keep:∀a o,H a=some o->a∉ρ\/Ly o->H' a=some o
 grow:∀a,H' a=none->H a=none
def bU.refl:bU ρ H ρ H:=⟨List.prefix_refl _,λ_ h=>.inl h,λ_ _ h _=>h,λ_ h=>h⟩
def bU.trans{b d:List Addr}{H1 H2:Hp}(e:bU ρ H b H1)(f:bU b H1 d H2):bU ρ H d H2 where
 pre:=e.pre.trans f.pre
 new:=λa h=>(f.new a h).elim (λh=>e.new a h) λh=>.inr (e.grow a h)
 keep:=λa o h c=>f.keep a o (e.keep a o h c) (c.imp (λn m=>(e.new a m).elim n λz=>by rw[z] at h;cases h) id)
 grow:=λa h=>e.grow a (f.grow a h)
def bU.laid{a:Addr}{o:HO}(h:H a=none):bU ρ H ρ (upd H a o) where
 pre:=List.prefix_refl _
 new:=λ_ h=>.inl h
 keep:=λb c e _=>by rw[bh];exact e;intro z;subst z;rw[h] at e;cases e
 grow:=λb e=>by
  by_cases z:b=a
  ·subst z;exact h
  ·rw[bh z] at e;exact e
theorem iZ{α:Type}:∀{l:List α},l.Nodup->∀{i j:Nat} {a:α},l[i]?=some a->l[j]?=some a->i=j
 | [],_,_,_,_,h,_=>by simp at h
 |x::l,n,0,0,_,_,_=>rfl
 | x::l,n,0,j+1,a,h1,h2=>by
   rw[List.nodup_cons] at n
   simp at h1 h2
   subst h1
   exact absurd (mQg h2) n.1
 | x::l,n,i+1,0,a,h1,h2=>by
   rw[List.nodup_cons] at n
   simp at h1 h2
   subst h2
   exact absurd (mQg h1) n.1
 | x::l,n,i+1,j+1,a,h1,h2=>by
   rw[List.nodup_cons] at n
   simp at h1 h2
   exact congrArg (·+1) (iZ n.2 h1 h2)
def cy{α e:Type}{a c:α}{b d:e}(h:some (a,b)=some (c,d)):a=c/\b=d:=by cases h;exact⟨rfl,rfl⟩
def dq{α:Type}{l b:List α}(h:l <+: b){k:Nat}{a:α}(e:l[k]?=some a):b[k]?=some a:=by
 obtain⟨t,rfl⟩:=h
 rw[QHq (gQs.mp e).1]
 exact e
mutual
theorem Rel.ext(e:bU ρ H ρ' H'):∀{d:D} {v:V},Rel M ρ H d v->Rel M ρ' H' d v
 |_,_,.non=>.non
 |_,_,.bl b=>.bl b
 |_,_,.int i=>.int i
 |_,_,.str x=>.str x
 |_,_,.tup h hs=>.tup (e.keep _ _ h (.inr trivial)) (bj.ext e hs)
 |_,_,.ref h=>.ref (dq e.pre h)
 |_,_,.fn h=>.fn h
theorem bj.ext(e:bU ρ H ρ' H'):∀{ds:List D} {vs:List V},bj M ρ H ds vs->bj M ρ' H' ds vs
 |_,_,.nil=>.nil
 |_,_,.cons h hs=>.cons (Rel.ext e h) (bj.ext e hs)
end
mutual
theorem Rel.pre(e:ρ <+: ρ'):∀{d:D} {v:V},Rel M ρ H d v->Rel M ρ' H d v
 |_,_,.non=>.non
 |_,_,.bl b=>.bl b
 |_,_,.int i=>.int i
 |_,_,.str x=>.str x
 |_,_,.tup h hs=>.tup h (bj.pre e hs)
 |_,_,.ref h=>.ref (dq e h)
 |_,_,.fn h=>.fn h
theorem bj.pre(e:ρ <+: ρ'):∀{ds:List D} {vs:List V},bj M ρ H ds vs->bj M ρ' H ds vs
 |_,_,.nil=>.nil
 |_,_,.cons h hs=>.cons (Rel.pre e h) (bj.pre e hs)
end
theorem bj.length:∀{ds:List D} {vs:List V},bj M ρ H ds vs->ds.length=vs.length
 |_,_,.nil=>rfl
 |_,_,.cons _ h=>congrArg (·+1) h.length
theorem bj.append:∀{ds a:List D} {vs ws:List V},bj M ρ H ds vs->bj M ρ H a ws->bj M ρ H (ds++a) (vs++ws)
 |_,_,_,_,.nil,h=>h
 |_,_,_,_,.cons h hs,h'=>.cons h (hs.append h')
theorem bj.get:∀{ds:List D} {vs:List V} {i:Nat} {d:D},bj M ρ H ds vs->ds[i]?=some d->∃v,vs[i]?=some v/\Rel M ρ H d v
 |_,_,0,_,.cons h _,e=>by cases e;exact⟨_,rfl,h⟩
 |_,_,i+1,_,.cons _ hs,e=>hs.get (i:=i) (by simpa using e)
 |_,_,_,_,.nil,e=>by simp at e
theorem bj.set{d:D}{v:V}(h:Rel M ρ H d v):∀{ds:List D} {vs:List V} (i:Nat),bj M ρ H ds vs->bj M ρ H (ds.set i d) (vs.set i v)
 |_,_,_,.nil=>.nil
 |_,_,0,.cons _ t=>.cons h t
 |_,_,i+1,.cons q t=>.cons q (bj.set h i t)
theorem bj.take:∀{ds:List D} {vs:List V} (n:Nat),bj M ρ H ds vs->bj M ρ H (ds.take n) (vs.take n)
 |_,_,0,_=>.nil
 |_,_,_+1,.nil=>.nil
 |_,_,n+1,.cons h hs=>.cons h (hs.take n)
theorem bj.drop:∀{ds:List D} {vs:List V} (n:Nat),bj M ρ H ds vs->bj M ρ H (ds.drop n) (vs.drop n)
 |_,_,0,h=>h
 |_,_,_+1,.nil=>.nil
 |_,_,n+1,.cons _ hs=>hs.drop n
theorem bj.rep{ds:List D}{vs:List V}(h:bj M ρ H ds vs):∀k:Nat,bj M ρ H (List.replicate k ds).flatten (List.replicate k vs).flatten
 |0=>.nil
 |k+1=>by rw[QNq,QNq,List.flatten_cons,List.flatten_cons];exact h.append (h.rep k)
def cg(M:Md)(ρ:List Addr)(H:Hp):List (Key×D)->List (Key×V)->Prop
 | [],kv=>kv= []
 |(k,d)::r,kv=>∃v t,kv=(k,v)::t/\Rel M ρ H d v/\cg M ρ H r t
theorem cg.imp{ρ':List Addr}{H':Hp}(f:∀d v,Rel M ρ H d v->Rel M ρ' H' d v):∀{l:List (Key×D)} {kv:List (Key×V)},cg M ρ H l kv->cg M ρ' H' l kv
 | [],_,h=>h
 |(_,_)::_,_,⟨v,t,e,h,hs⟩=>⟨v,t,e,f _ _ h,cg.imp f hs⟩
theorem cg.length:∀{l:List (Key×D)} {kv:List (Key×V)},cg M ρ H l kv->l.length=kv.length
 | [],_,h=>by cases h;rfl
 |(_,_)::_,_,⟨v,t,e,h,hs⟩=>by subst e;exact congrArg (·+1) hs.length
def ny(M:Md)(ρ:List Addr)(H:Hp)(a:Addr):O->Prop
 |.lst d=>∃b,H a=some (.lst b)/\bj M ρ H d b
 |.frz d=>∃b o,H a=some (.frz o (.lst b))/\bj M ρ H d b
 |.dct c=>∃e,H a=some (.dK e)/\cg M ρ H c e
structure fL(M:Md)(ρ:List Addr)(S:aG)(H:Hp):Prop where
 len:ρ.length=S.length
 nd:ρ.Nodup
 obj:∀(k:Nat) (a:Addr) (o:O),ρ[k]?=some a->S[k]?=some o->ny M ρ H a o
def ny.lay{a b:Addr}{o:O}{u:HO}(h:ny M ρ H a o)(i:H b=none):ny M ρ (upd H b u) a o:=by
 have e:bU ρ H ρ (upd H b u):=bU.laid i
 have f:∀{x},H a=some x->upd H b u a=some x:=λ{x} h=>by rw[bh];exact h;intro z;subst z;rw[i] at h;cases h
 cases o with
 |lst l=>obtain⟨g,c,d⟩:=h;exact⟨g,f c,d.ext e⟩
 |frz l=>obtain⟨g,o,c,d⟩:=h;exact⟨g,o,f c,d.ext e⟩
 |dct j=>obtain⟨k,c,d⟩:=h;exact⟨k,f c,d.imp λ_ _ r=>r.ext e⟩
def fL.lay{S:aG}{b:Addr}{u:HO}(h:fL M ρ S H)(c:H b=none):fL M ρ S (upd H b u):=⟨h.len,h.nd,λk a o d e=>(h.obj k a o d e).lay c⟩
theorem ny.pre{a:Addr}{o:O}(e:ρ <+: ρ')(h:ny M ρ H a o):ny M ρ' H a o:=by
 cases o with
 |lst i=>obtain⟨d,b,c⟩:=h;exact⟨d,b,c.pre e⟩
 |frz i=>obtain⟨d,o,b,c⟩:=h;exact⟨d,o,b,c.pre e⟩
 |dct f=>obtain⟨g,b,c⟩:=h;exact⟨g,b,c.imp λ_ _ r=>r.pre e⟩
def fL.box{S:aG}{a:Addr}{o:O}(h:fL M ρ S H)(j:a∉ρ)(g:ny M (ρ++ [a]) H a o):fL M (ρ++ [a]) (S++ [o]) H where
 len:=by rw[lQa,lQa,h.len];rfl
 nd:=by rw[List.nodup_append];exact⟨h.nd,by simp,λx l y f=>by rw[Qfq] at f;subst f;exact λz=>j (z▸l)⟩
 obj:=λk b u d e=>by
  by_cases c:k<ρ.length
  ·rw[QHq c] at d
   rw[QHq (h.len▸c)] at e
   exact(h.obj k b u d e).pre (List.prefix_append _ _)
  ·have c:ρ.length<=k:=Nat.le_of_not_lt c
   rw[QQq c] at d
   rw[QQq (h.len▸c)] at e
   have z:k-ρ.length=0:=by
    have:=(gQs.mp d).1
    simp at this
    omega
   have i:k-S.length=0:=by rw[←h.len];exact z
   rw[z] at d
   rw[i] at e
   cases d
   cases e
   exact g
def fL.put{S:aG}{k:Nat}{a:Addr}{o o':O}{u:HO}(h:fL M ρ S H)(i:ρ[k]?=some a)(K:S[k]?=some o)(G:ny M ρ (upd H a u) a o')(F:∀x,H a=some x->¬Ly x):fL M ρ (S.set k o') (upd H a u)/\bU ρ H ρ (upd H a u):=by
 have B:a∈ρ:=mQg i
 have e:bU ρ H ρ (upd H a u):=by
  refine⟨List.prefix_refl _,λ_ h=>.inl h,λb x v c=> ?_,λb m=> ?_⟩
  ·rw[bh]
   ·exact v
   ·intro z
    subst z
    exact c.elim (λn=>n B) λJ=>F _ v J
  ·by_cases z:b=a
   ·subst z;rw[bD] at m;cases m
   ·rw[bh z] at m;exact m
 refine⟨⟨by rw[List.length_set];exact h.len,h.nd,λj b p f l=> ?_⟩,e⟩
 by_cases c:j=k
 ·subst c
  rw[i] at f
  cases f
  rw[Qyq (gQs.mp K).1] at l
  cases l
  exact G
 ·rw[QKq (Ne.symm c)] at l
  have t:b≠a:=by
   intro z
   subst z
   have y:=(gQs.mp f)
   have w:=(gQs.mp i)
   obtain⟨y,L⟩:=y
   obtain⟨w,N⟩:=w
   exact c (iZ h.nd f i)
  have q:=h.obj j b p f l
  cases p with
  |lst I=>obtain⟨s,d,g⟩:=q;exact⟨s,by rw[bh t];exact d,g.ext e⟩
  |frz I=>obtain⟨s,o,d,g⟩:=q;exact⟨s,o,by rw[bh t];exact d,g.ext e⟩
  |dct C=>obtain⟨A,d,g⟩:=q;exact⟨A,by rw[bh t];exact d,g.imp λ_ _ r=>r.ext e⟩
end
structure En(M:Md)(ρ:List Addr)(H:Hp)(Γ:cD)(σ:L2.St):Prop where
 len:σ.length=Γ.length
 get:∀(i:Nat) (d:D),Γ[i]?=some (some d)->∃v,σ[i]?=some (some v)/\Rel M ρ H d v
def En.ext{M:Md}{ρ a:List Addr}{H c:Hp}{b:cD}{f:L2.St}(h:En M ρ H b f)(e:bU ρ H a c):En M a c b f:=⟨h.len,λi d q=>by obtain⟨v,g,j⟩:=h.get i d q;exact⟨v,g,j.ext e⟩⟩
def En.set{M:Md}{ρ:List Addr}{H:Hp}{a:cD}{b:L2.St}{i:Nat}{d:D}{v:V}(h:En M ρ H a b)(r:Rel M ρ H d v):En M ρ H (a.set i (some d)) (b.set i (some v)) where
 len:=by rw[List.length_set,List.length_set];exact h.len
 get:=λj e q=>by
  by_cases c:i=j
  ·subst c
   have l:i<a.length:=by
    have:=(gQs.mp q).1
    rwa [List.length_set] at this
   rw[Qyq l] at q
   cases q
   exact⟨v,Qyq (h.len▸l),r⟩
  ·rw[QKq c] at q⊢
   exact h.get j e q
structure Ok(M:Md)(ρ:List Addr)(Γ:cD)(S:aG)(σ:L2.St)(H:Hp):Prop where
 en:En M ρ H Γ σ
 st:fL M ρ S H
def Ok.to{M:Md}{ρ a:List Addr}{c:cD}{S d:aG}{f:L2.St}{H b:Hp}(h:Ok M ρ c S f H)(e:bU ρ H a b)(s:fL M a d b):Ok M a c d f b:=⟨h.en.ext e,s⟩
abbrev bx:=cD->aG->Option (D×aG)
abbrev fU:=cD->aG->Option (List D×aG)
abbrev iY:=cD->aG->Option (Bool×aG)
def tD(M:Md)(f:bx):TE:=λh H Q=>∃c e S d g,Ok M c e S h H/\f e S=some (d,g)/\∀a v b,bU c H a b->fL M a g b->Rel M a b d v->Q v b
def tL(M:Md)(f:fU):TE:=λj H Q=>∃d e S i g,Ok M d e S j H/\f e S=some (i,g)∧
 ∀b a h c,bU d H b c->fL M b g c->H a=none->a∉b->c a=some (.lst h)->bj M b c i h->Q (.ref a) c
def xk(M:Md)(f:fU):TA:=λi H Q=>∃c d S h e,Ok M c d S i H/\f d S=some (h,e)/\∀a g b,bU c H a b->fL M a e b->bj M a b h g->Q g b
def tB(M:Md)(f:iY):TT:=λh H Q=>∃d e S b g,Ok M d e S h H/\f e S=some (b,g)/\∀a c,bU d H a c->fL M a g c->Q b c
section
variable{X:Cx}
abbrev md(X:Cx):Md:=⟨X.K,X.mg⟩
def kD{e:Expr}{t t':TE}(h:PE X e t)(w:∀b H Q,t' b H Q->t b H Q):PE X e t':=λa s b H Q I q=>h a s b H Q I (w _ _ _ q)
def JZ{e:Expr}{t t':TT}(h:PT X e t)(w:∀b H Q,t' b H Q->t b H Q):PT X e t':=λa s b H Q I q=>h a s b H Q I (w _ _ _ q)
def Ln{e:Expr}{t t':TT}(h:PW X e t)(w:∀b H Q,t' b H Q->t b H Q):PW X e t':=λc a s b H Q I q=>h c a s b H Q I (w _ _ _ q)
def LL{d:List Expr}{t t':TA}(h:PA X d t)(w:∀b H Q,t' b H Q->t b H Q):PA X d t':=λc a s b H Q I q=>h c a s b H Q I (w _ _ _ q)
def B_{e:Stmt}{t t':TS}(h:PS X e t)(w:∀D b H,t' D b H->t D b H):PS X e t':=λa s b H D I q=>h a s b H D I (w _ _ _ q)
def JF{e:List Stmt}{t t':TS}(h:sQ X e t)(w:∀D b H,t' D b H->t D b H):sQ X e t':=λa s b H D I q=>h a s b H D I (w _ _ _ q)
noncomputable def au(i:Nat):bx:=λa S=>match a[i]? with
 |some (some d)=>some (d,S)
 |_=>none
def AZ{i:Nat}{a:cD}{S:aG}{d:D}{b:aG}(h:au i a S=some (d,b)):a[i]?=some (some d)/\b=S:=by
 unfold au at h
 split at h
 ·cases h;exact⟨by assumption,rfl⟩
 ·cases h
def Jq{e:Expr}{i:Nat}(h:PE X e (Hb i)):PE X e (tD (md X) (au i)):=kD h λl H Q b=>by
 obtain⟨a,j,S,d,k,ok,e,q⟩:=b
 obtain⟨c,rfl⟩:=AZ e
 obtain⟨v,f,g⟩:=ok.en.get i d c
 exact⟨v,f,q a v H bU.refl ok.st g⟩
noncomputable def cF(d:D):bx:=λ_ S=>some (d,S)
def jA{e:Expr}{v:V}{d:D}(h:PE X e (tC v))(r:∀ρ H,Rel (md X) ρ H d v):PE X e (tD (md X) (cF d)):=kD h λg H Q a=>by
 obtain⟨ρ,b,S,f,c,ok,e,q⟩:=a
 cases e
 exact q ρ v H bU.refl ok.st (r _ _)
def bz{i:Int}{j pos}:PE X (.Constant (.int i) j pos) (tD (md X) (cF (.int i))):=jA G7 λ_ _=>.int i
def L8{b:Bool}{j pos}:PE X (.Constant (.bool b) j pos) (tD (md X) (cF (.bl b))):=jA Jw λ_ _=>.bl b
def C0{j pos}:PE X (.Constant .none j pos) (tD (md X) (cF .non)):=jA Hq λ_ _=>.non
def iB{x:Str}{j pos}:PE X (.Constant (.str x) j pos) (tD (md X) (cF (.str x))):=jA G6 λ_ _=>.str x
def bB(f:fU):bx:=λb S=>(f b S).bind λ(c,a)=>some (.ref a.length,a++ [.lst c])
def hV{e:Expr}{f:fU}(h:PE X e (tL (md X) f)):PE X e (tD (md X) (bB f)):=kD h λz H Q m=>by
 obtain⟨t,k,S,d,A,ok,e,q⟩:=m
 unfold bB at e
 cases j:f k S with
 |none=>rw[j] at e;cases e
 | some p=>
   obtain⟨y,w⟩:=p
   rw[j] at e
   obtain⟨rfl,rfl⟩:=cy e
   refine⟨t,k,S,y,w,ok,j,λg a o v x l s r n u=> ?_⟩
   have i:=u.pre (List.prefix_append g [a])
   refine q (g++ [a]) (.ref a) v ⟨x.pre.trans (List.prefix_append _ _),λb c=> ?_,x.keep,x.grow⟩ (l.box r ⟨o,n,i⟩) (.ref ?_)
   · rcases mQa.mp c with c|c
     · exact x.new b c
     · rw[Qfq] at c;subst c;exact .inr s
   · rw[←l.len,QQq (Qmq _)]
     simp
noncomputable def av:fU:=λ_ S=>some ([],S)
noncomputable def aq(f:bx)(g:fU):fU:=λa S=>(f a S).bind λ(d,c)=>(g a c).bind λ(e,b)=>some (d::e,b)
def ar{α c:Type}{o:Option α}{f:α->Option c}{b:c}(h:o.bind f=some b):∃a,o=some a/\f a=some b:=by
 cases o with
 |none=>cases h
 |some a=>exact⟨a,rfl,h⟩
def aV:PA X [] (xk (md X) av):=LL gy λg H Q b=>by
 obtain⟨a,c,S,d,f,ok,e,q⟩:=b
 cases e
 exact q a [] H bU.refl ok.st .nil
def az{e:Expr}{a:List Expr}{f:bx}{g:fU}(p:PE X e (tD (md X) f))(o:PA X a (xk (md X) g))(y:starEach (e::a) X.env=(false,eval e X.env)::starEach a X.env:=by rfl):PA X (e::a) (xk (md X) (aq f g)):=
 LL (c_ p o y) λC H Q n=>by
  obtain⟨w,j,S,d,F,ok,e,q⟩:=n
  obtain⟨⟨x,m⟩,r,e⟩:=ar e
  obtain⟨⟨u,s⟩,B,e⟩:=ar e
  obtain⟨rfl,rfl⟩:=cy e
  refine⟨w,j,S,x,m,ok,r,λh v H1 k c z=>⟨h,j,m,u,s,ok.to k c,B,λi t H2 l b A=> ?_⟩⟩
  exact q i (v::t) H2 (k.trans l) b (.cons (z.ext l) A)
def aR(f:fU):bx:=λb S=>(f b S).bind λ(a,c)=>if a.length<=sizeLine then some (.tup a,c) else none
def dy{i:List Expr}{f:fU}{k pos}(h:PA X i (xk (md X) f)):PE X (.Tuple i k pos) (tD (md X) (aR f)):=kD (Cp h) λu H Q m=>by
 obtain⟨r,l,S,d,w,ok,e,q⟩:=m
 obtain⟨⟨t,s⟩,n,e⟩:=ar e
 dsimp only at e
 split at e
 ·rename_i c
  obtain⟨rfl,rfl⟩:=cy e
  refine⟨r,l,S,t,s,ok,n,λb v H1 o a j=>⟨j.length▸c,λp g=> ?_⟩⟩
  exact q b (.ref p) _ (o.trans (bU.laid g)) (a.lay g) (.tup bD (j.ext (bU.laid g)))
 ·cases e
def bp(f:fU):fU:=λb S=>(f b S).bind λ(a,c)=>if a.length<=sizeLine then some (a,c) else none
def dC{M:Md}{ρ a:List Addr}{S:aG}{H b:Hp}{p:Addr}(x:bU ρ H a b)(st:fL M a S b)(c:b p=none):p∉a:=λm=>by
 obtain⟨k,d⟩:=List.getElem?_of_mem m
 have l:k<S.length:=st.len▸(gQs.mp d).1
 have:=st.obj k p _ d (gQe l)
 cases e:S[k] with
 |lst g=>rw[e] at this;obtain⟨f,h,_⟩:=this;rw[c] at h;cases h
 |frz g=>rw[e] at this;obtain⟨f,o,h,_⟩:=this;rw[c] at h;cases h
 |dct g=>rw[e] at this;obtain⟨f,h,_⟩:=this;rw[c] at h;cases h
def gG{j:List Expr}{f:fU}{pos}(h:PA X j (xk (md X) f)):PE X (.List j pos) (tL (md X) (bp f)):=kD (HM h) λu H Q m=>by
 obtain⟨r,l,S,d,v,ok,e,q⟩:=m
 obtain⟨⟨t,s⟩,n,e⟩:=ar e
 dsimp only at e
 split at e
 ·rename_i c
  obtain⟨rfl,rfl⟩:=cy e
  refine⟨r,l,S,t,s,ok,n,λg o H1 i a k=>⟨k.length▸c,λp b=> ?_⟩⟩
  exact q g p o _ (i.trans (bU.laid b)) (a.lay b) (i.grow p b) (dC i a b) bD (k.ext (bU.laid b))
 ·cases e
end
section
variable{X:Cx}{a b c e:Expr}{pos:Pos}
def Dl:jO X (binaryOp .Add) (λx y H Q=>∃a b ys,x=.ref a/\y=.ref b/\hG X.K H a []/\hG X.K H b ys/\Q (.ref b) H):=by
 intro r s R H x y v u Q I N L h
 obtain⟨a,b,ys,rfl,rfl,ha,l,q⟩:=h
 cases N
 cases L
 obtain⟨B,M,J,_⟩:=I.tuple ha
 obtain⟨d,S,l,_⟩:=I.tuple l
 cases M
 obtain⟨⟨P,G,w,A⟩,z,t,n,p⟩:=id J
 obtain⟨⟨o,m,k,j⟩,f,g,C,i⟩:=id l
 simp only at t p g i
 subst t p g i
 exact concat_meets ⟨_,z,rfl⟩ ⟨_,f,rfl⟩ noFill_tuple_add seq_tuple_add PySem.F.slot_tuple_add PySem.F.entry_tuple_add (PySem.F.args_tuple_add_2 _ _)
   (tuple_addW0 a b _ d.toArray n C G m A j (by simp)) ⟨z,f,.ref b,H,I,rfl,q⟩
abbrev sS:=aG->D->D->Option D
def kH(M:Md)(r:R2)(o:sS):Prop:=∀{f:List Addr} {S:aG} {H:Hp} {x y d:D} {u v:V} {Q:VK},fL M f S H->Rel M f H x u->Rel M f H y v->o S x y=some d->(∀w g,bU f H f g->fL M f S g->Rel M f g d w->Q w g)->r u v H Q
noncomputable def a0(o:sS)(f g:bx):bx:=λh S=>(f h S).bind λ(x,j)=>(g h j).bind λ(y,i)=>(o i x y).bind λd=>some (d,i)
def ou{r:R2}{o:sS}{f g:bx}(K:kH (md X) r o)(h:PE X e (Fy r (tD (md X) f) (tD (md X) g))):PE X e (tD (md X) (a0 o f g)):=kD h λN H Q u=>by
 obtain⟨F,n,S,d,R,ok,e,q⟩:=u
 obtain⟨⟨x,t⟩,A,e⟩:=ar e
 obtain⟨⟨y,B⟩,L,e⟩:=ar e
 obtain⟨P,M,e⟩:=ar e
 obtain⟨rfl,rfl⟩:=cy e
 refine⟨F,n,S,x,t,ok,A,λk v H1 p j I=>⟨k,n,t,y,B,ok.to p j,L,λl w H2 s i J=> ?_⟩⟩
 exact K i (I.ext s) J M λC H3 G m z=>q l C H3 ((p.trans s).trans G) m z
def bL:sS:=λ_ x y=>match x,y with
 |.int i,.int j=>some (.int (i+j))
 |.str i,.str j=>if i.length+j.length<=sizeLine then some (.str (i++j)) else none
 |.tup i,.tup j=>if i.length+j.length<=sizeLine then some (.tup (i++j)) else none
 |_,_=>none
abbrev Jz(K:PySem.W.Frag):R2:=λx y H Q=>(∃i j,x=.int i/\y=.int j/\Q (.int (i+j)) H)\/(∃i j,x=.str i/\y=.str j/\i.length+j.length<=sizeLine/\Q (.str (i++j)) H)∨
 (∃a b d,x=.ref a/\y=.ref b/\hG K H a []/\hG K H b d/\Q (.ref b) H)\/F9 K x y H Q
def FP:jO X (binaryOp .Add) (Jz X.K):=Hh.or (y7.or (Dl.or FW))
def Hj{M:Md}:kH M (Jz M.K) bL:=by
 intro t S H x y d u v Q g r n e q
 cases r with
 |int i=>cases n <;>simp only[bL,reduceCtorEq] at e;cases e;exact .inl ⟨_,_,rfl,rfl,q _ _ bU.refl g (.int _)⟩
 | str i=>
   cases n <;>simp only[bL,reduceCtorEq] at e
   split at e <;>cases e
   exact .inr (.inl ⟨_,_,rfl,rfl,by assumption,q _ _ bU.refl g (.str _)⟩)
 | tup k h=>
   cases n with
   | tup m j=>
     simp only[bL] at e
     split at e <;>cases e
     rename_i hl
     have s:=h.length
     have o:=j.length
     cases h with
     |nil=>exact .inr (.inr (.inl ⟨_,_,_,rfl,rfl,hG.of k,hG.of m,q _ _ bU.refl g (.tup m j)⟩))
     | cons h f=>
       refine .inr (.inr (.inr ⟨_,_,_,_,rfl,rfl,hG.of k,hG.of m,by simp,by rw[←s,←o];exact hl,λz=> ?_,λz p l=> ?_⟩))
       · subst z
         cases j
         rw[List.append_nil] at q
         exact q _ _ bU.refl g (.tup k (.cons h f))
       · exact q _ _ (bU.laid l) (g.lay l) (.tup bD ((bj.append (.cons h f) j).ext (bU.laid l)))
   |_=>simp only[bL,reduceCtorEq] at e
 |_=>simp only[bL,reduceCtorEq] at e
def pW{f g:bx}(h:PE X a (tD (md X) f))(d:PE X b (tD (md X) g)):PE X (.BinOp a .Add b pos) (tD (md X) (a0 bL f g)):=ou Hj (m5 FP h d)
def intD(C:Int->Int->Prop)[∀i j,Decidable (C i j)](k:Int->Int->D):sS:=λ_ x y=>match x,y with
 |.int i,.int j=>if C i j then some (k i j) else none
 |_,_=>none
def uU{M:Md}{C:Int->Int->Prop}[∀i j,Decidable (C i j)]{k:Int->Int->D}{g:Int->Int->V}(f:∀i j ρ H,Rel M ρ H (k i j) (g i j)):kH M (rI C g) (intD C k):=by
 intro ρ S H x y d u v Q h l m e q
 cases l <;>cases m <;>simp only[intD,reduceCtorEq] at e
 split at e <;>cases e
 exact⟨_,_,rfl,rfl,by assumption,q _ _ bU.refl h (f _ _ _ _)⟩
def nK{M:Md}{k:Int->Int->D}{g:Int->Int->V}(f:∀i j ρ H,Rel M ρ H (k i j) (g i j)):kH M (BP g) (intD (λ_ _=>True) k):=by
 intro ρ S H x y d u v Q h l m e q
 cases l <;>cases m <;>simp only[intD,reduceCtorEq] at e
 rw[Qhq trivial] at e
 cases e
 exact⟨_,_,rfl,rfl,q _ _ bU.refl h (f _ _ _ _)⟩
instance{i j:Int}:Decidable (CS i j):=by unfold CS;infer_instance
instance{i j:Int}:Decidable (C1 i j):=by unfold C1;infer_instance
open Classical in
noncomputable instance{i j:Int}:Decidable (IntMulOk i j):=Classical.propDecidable _
abbrev xv:sS:=intD (λ_ _=>True) λi j=>.int (i-j)
noncomputable abbrev qH:sS:=intD IntMulOk λi j=>.int (i*j)
abbrev ni:sS:=intD (λ_ j=>0<j) λi j=>.int (i%j)
abbrev xK:sS:=intD CS λi j=>.int (i/j)
abbrev EN:sS:=intD C1 λi j=>.int (i^j.toNat)
def Jt{f g:bx}(d:PE X a (tD (md X) f))(h:PE X b (tD (md X) g)):PE X (.BinOp a .Sub b pos) (tD (md X) (a0 xv f g)):=ou (nK λi j _ _=>.int _) (m5 GB d h)
def Lx{f g:bx}(d:PE X a (tD (md X) f))(h:PE X b (tD (md X) g)):PE X (.BinOp a .Mult b pos) (tD (md X) (a0 qH f g)):=ou (uU λi j _ _=>.int _) (m5 EI d h)
def Gg{f g:bx}(d:PE X a (tD (md X) f))(h:PE X b (tD (md X) g)):PE X (.BinOp a .Mod b pos) (tD (md X) (a0 ni f g)):=ou (uU λi j _ _=>.int _) (m5 Hv d h)
def KY{f g:bx}(d:PE X a (tD (md X) f))(h:PE X b (tD (md X) g)):PE X (.BinOp a .FloorDiv b pos) (tD (md X) (a0 xK f g)):=ou (uU λi j _ _=>.int _) (m5 ET d h)
def LO{f g:bx}(d:PE X a (tD (md X) f))(h:PE X b (tD (md X) g)):PE X (.BinOp a .Pow b pos) (tD (md X) (a0 EN f g)):=ou (uU λi j _ _=>.int _) (m5 HB d h)
def vf(f:bx):bx:=λg S=>(f g S).bind λ(d,h)=>match d with
 |.int i=>some (.int (-i),h)
 |_=>none
def Lw{f:bx}(j:PE X a (tD (md X) f)):PE X (.UnaryOp .USub a pos) (tD (md X) (vf f)):=kD (Jn HD j) λr H Q i=>by
 obtain⟨n,h,S,d,s,ok,e,q⟩:=i
 obtain⟨⟨x,o⟩,l,e⟩:=ar e
 dsimp only at e
 split at e
 ·obtain⟨rfl,rfl⟩:=cy e
  refine⟨n,h,S,_,o,ok,l,λk v H1 m g p=> ?_⟩
  cases p
  exact⟨_,rfl,q _ _ _ m g (.int _)⟩
 ·cases e
def vG:D->Option V
 |.non=>some .non
 |.bl b=>some (.bl b)
 |.int i=>some (.int i)
 |.str x=>some (.str x)
 |_=>none
def mi{M:Md}{ρ:List Addr}{H:Hp}{d:D}{u v:V}(r:Rel M ρ H d u)(e:vG d=some v):u=v:=by
 cases r <;>simp[vG] at e <;>exact e
def eP(d:Bool):sS:=λ_ x y=>match vG x,vG y with
 |some u,some v=>if yu u v=true then some (.bl (if d then !decide (u=v) else decide (u=v))) else none
 |_,_=>none
def xZ{f:Bool}{S:aG}{x y d:D}(e:eP f S x y=some d):∃u v,vG x=some u/\vG y=some v/\yu u v=true/\d=.bl (if f then !decide (u=v) else decide (u=v)):=by
 unfold eP at e
 split at e
 ·split at e <;>cases e
  exact⟨_,_,by assumption,by assumption,by assumption,rfl⟩
 ·cases e
def ue{M:Md}:kH M Lz (eP false):=by
 intro m S H x y d u v Q g j k e q
 obtain⟨l,n,f,h,i,rfl⟩:=xZ e
 cases mi j f
 cases mi k h
 exact⟨i,q _ _ bU.refl g (.bl _)⟩
def Lo{M:Md}:kH M Ls (eP true):=by
 intro m S H x y d u v Q g j k e q
 obtain⟨l,n,f,h,i,rfl⟩:=xZ e
 cases mi j f
 cases mi k h
 exact⟨i,q _ _ bU.refl g (.bl _)⟩
abbrev Er:sS:=intD (λ_ _=>True) λi j=>.bl (decide (i<j))
abbrev KF:sS:=intD (λ_ _=>True) λi j=>.bl (decide (i<=j))
abbrev Kf:sS:=intD (λ_ _=>True) λi j=>.bl (decide (j<i))
abbrev LG:sS:=intD (λ_ _=>True) λi j=>.bl (decide (j<=i))
def Gm{M:Md}:kH M (BP λi j=>.bl (decide (i<j))) Er:=nK λi j _ _=>.bl _
def LF{M:Md}:kH M (BP λi j=>.bl (decide (i<=j))) KF:=nK λi j _ _=>.bl _
def Lg{M:Md}:kH M (BP λi j=>.bl (decide (j<i))) Kf:=nK λi j _ _=>.bl _
def LV{M:Md}:kH M (BP λi j=>.bl (decide (j<=i))) LG:=nK λi j _ _=>.bl _
def isNone:D->Bool
 |.non=>true
 |_=>false
def wo(d:Bool):sS:=λ_ x y=>match y with
 |.non=>some (.bl (if d then !isNone x else isNone x))
 |_=>none
def ur{M:Md}{ρ:List Addr}{H:Hp}{d:D}{u:V}(r:Rel M ρ H d u):decide (u=V.non)=isNone d:=by
 cases r <;>simp[isNone]
def Le{M:Md}:kH M (λx y H Q=>y=.non/\Q (.bl (decide (x=.non))) H) (wo false):=by
 intro i S H x y d u v Q h f g e q
 cases g <;>simp only[wo,reduceCtorEq] at e
 cases e
 rw[ur f]
 exact⟨rfl,q _ _ bU.refl h (.bl _)⟩
def J0{M:Md}:kH M (λx y H Q=>y=.non/\Q (.bl (!decide (x=.non))) H) (wo true):=by
 intro i S H x y d u v Q h f g e q
 cases g <;>simp only[wo,reduceCtorEq] at e
 cases e
 rw[ur f]
 exact⟨rfl,q _ _ bU.refl h (.bl _)⟩
def JE{d:CmpOp}{r:R2}{o:sS}{f g:bx}(j:jO X (compareOp d) r)(i:kH (md X) r o)(h:PE X a (tD (md X) f))(k:PE X b (tD (md X) g))(l:behindInMarks d b=false):PE X (.Compare a [d] [b] pos) (tD (md X) (a0 o f g)):=ou i (E1 j h k l)
noncomputable def aL(f:bx):iY:=λg S=>(f g S).bind λ(d,h)=>match d with
 |.bl k=>some (k,h)
 |_=>none
def sg{f:bx}{g:cD}{S h:aG}{k:Bool}(e:aL f g S=some (k,h)):f g S=some (.bl k,h):=by
 obtain⟨⟨d,j⟩,i,e⟩:=ar e
 dsimp only at e
 split at e
 ·cases e;exact i
 ·cases e
def IU{r:R2}{o:sS}{f g:bx}(J:kH (md X) r o)(h:PT X e (Dy (Fy r (tD (md X) f) (tD (md X) g)))):PT X e (tB (md X) (aL (a0 o f g))):=JZ h λM H Q u=>by
 obtain⟨C,n,S,d,R,ok,e,q⟩:=u
 have e:=sg e
 obtain⟨⟨x,t⟩,A,e⟩:=ar e
 obtain⟨⟨y,B⟩,K,e⟩:=ar e
 obtain⟨P,L,e⟩:=ar e
 obtain⟨rfl,rfl⟩:=cy e
 refine⟨C,n,S,x,t,ok,A,λk v H1 p j G=>⟨k,n,t,y,B,ok.to p j,K,λl w H2 s i I=> ?_⟩⟩
 exact J i (G.ext s) I L λN H3 F m z=>by cases z;exact⟨_,rfl,q l H3 ((p.trans s).trans F) m⟩
def rg{d:CmpOp}{r:R2}{o:sS}{f g:bx}(j:jO X (compareOp d) r)(i:kH (md X) r o)(h:PE X a (tD (md X) f))(k:PE X b (tD (md X) g))(l:behindInMarks d b=false):PT X (.Compare a [d] [b] pos) (tB (md X) (aL (a0 o f g))):=IU i (kZ j h k l)
def zf(S:aG):D->Option Bool
 |.non=>some false
 |.bl b=>some b
 |.int i=>some (i !=0)
 |.str y=>if y.length<=sizeLine then some ((y.length:Int) !=0) else none
 |.tup d=>some (!d.isEmpty)
 | .ref k=>match S[k]? with
   |some (.lst d)=>some (!d.isEmpty)
   |some (.dct d)=>some (!d.isEmpty)
   |_=>none
 |.fn _=>none
def bj.isEmpty{M:Md}{ρ:List Addr}{H:Hp}{ds:List D}{vs:List V}(h:bj M ρ H ds vs):ds.isEmpty=vs.isEmpty:=by cases h <;>rfl
theorem cg.isEmpty{M:Md}{ρ:List Addr}{H:Hp}{ds:List (Key×D)}{vs:List (Key×V)}(h:cg M ρ H ds vs):ds.isEmpty=vs.isEmpty:=by
 cases ds with
 |nil=>cases h;rfl
 |cons p r=>obtain⟨v,t,e,_⟩:=h;subst e;rfl
def FV{M:Md}{ρ:List Addr}{S:aG}{H:Hp}{d:D}{u:V}{k:Bool}(st:fL M ρ S H)(r:Rel M ρ H d u)(e:zf S d=some k):GI M.K u H k:=by
 cases r with
 |non=>cases e;rfl
 |bl=>cases e;rfl
 |int=>cases e;rfl
 |str=>simp only[zf] at e;split at e <;>cases e;exact⟨by assumption,rfl⟩
 |tup h j=>cases e;exact .inr (.inl ⟨_,hG.of h,by rw[j.isEmpty]⟩)
 |fn=>cases e
 | ref h=>
   simp only[zf] at e
   split at e
   · cases e
     obtain⟨i,f,g⟩:=st.obj _ _ _ h (by assumption)
     exact .inl ⟨i,jg.of f,by rw[g.isEmpty]⟩
   · cases e
     obtain⟨i,f,g⟩:=st.obj _ _ _ h (by assumption)
     exact .inr (.inr ⟨i,f,by rw[g.isEmpty]⟩)
   · cases e
def lK(f:bx):iY:=λh S=>(f h S).bind λ(d,g)=>(zf g d).bind λk=>some (k,g)
def LM{f:bx}(j:PE X a (tD (md X) f))(he:∀d,isTrue a X.env d=(do let v←d;standAt a.pos;holding [v] (truthy v)):=by intro _;rfl):PT X a (tB (md X) (lK f)):=JZ (D0 j he) λu H Q i=>by
 obtain⟨o,h,S,k,w,ok,e,q⟩:=i
 obtain⟨⟨x,r⟩,m,e⟩:=ar e
 obtain⟨p,t,e⟩:=ar e
 obtain⟨rfl,rfl⟩:=cy e
 exact⟨o,h,S,x,r,ok,m,λl v H1 n g s=>⟨p,FV g s t,q _ _ n g⟩⟩
def yZ(f:iY):iY:=λd S=>(f d S).bind λ(k,g)=>some (!k,g)
def LY{f:iY}(i:PT X a (tB (md X) f)):PT X (.UnaryOp .Not a pos) (tB (md X) (yZ f)):=JZ (GC i) λr H Q h=>by
 obtain⟨n,g,S,k,s,ok,e,q⟩:=h
 obtain⟨⟨o,p⟩,l,e⟩:=ar e
 obtain⟨rfl,rfl⟩:=cy e
 exact⟨n,g,S,o,p,ok,l,λj H1 m d=>q _ _ m d⟩
def iT(f g:iY):iY:=λd S=>(f d S).bind λ(k,h)=>if k=true then g d h else some (false,h)
def Eu(f g:iY):iY:=λd S=>(f d S).bind λ(k,h)=>if k=true then some (true,h) else g d h
def DY{f:iY}(d:PT X a (tB (md X) f)):PW X (.BoolOp .And [a] pos) (tB (md X) f):=E5 d
def Im{f:iY}(d:PT X a (tB (md X) f)):PW X (.BoolOp .Or [a] pos) (tB (md X) f):=Hl d
def w_and{d:List Expr}{f g:iY}(p:PT X a (tB (md X) f))(w:PW X (.BoolOp .And (b::d) pos) (tB (md X) g)):PW X (.BoolOp .And (a::b::d) pos) (tB (md X) (iT f g)):=Ln (HR p w) λy H Q o=>by
 obtain⟨t,m,S,k,v,ok,e,q⟩:=o
 obtain⟨⟨u,n⟩,r,e⟩:=ar e
 refine⟨t,m,S,u,n,ok,r,λj H1 l h=> ?_⟩
 dsimp only at e
 split at e
 ·rename_i c
  rw[Qhq c]
  exact⟨j,m,n,k,v,ok.to l h,e,λx H2 s i=>q _ _ (l.trans s) i⟩
 ·rename_i c
  rw[Quq c]
  obtain⟨rfl,rfl⟩:=cy e
  exact q _ _ l h
def w_or{d:List Expr}{f g:iY}(p:PT X a (tB (md X) f))(w:PW X (.BoolOp .Or (b::d) pos) (tB (md X) g)):PW X (.BoolOp .Or (a::b::d) pos) (tB (md X) (Eu f g)):=Ln (JT p w) λy H Q o=>by
 obtain⟨t,m,S,k,v,ok,e,q⟩:=o
 obtain⟨⟨u,n⟩,r,e⟩:=ar e
 refine⟨t,m,S,u,n,ok,r,λj H1 l h=> ?_⟩
 dsimp only at e
 split at e
 ·rename_i c
  rw[Qhq c]
  obtain⟨rfl,rfl⟩:=cy e
  exact q _ _ l h
 ·rename_i c
  rw[Quq c]
  exact⟨j,m,n,k,v,ok.to l h,e,λx H2 s i=>q _ _ (l.trans s) i⟩
def vc(f g:bx):bx:=λh S=>(f h S).bind λ(d,i)=>match d with
 |.bl true=>g h i
 |.bl false=>some (.bl false,i)
 |_=>none
def EO(f:bx):bx:=λg S=>(f g S).bind λ(d,h)=>match d with
 |.bl k=>some (.bl (!k),h)
 |_=>none
def Lm{op}{f:bx}(h:PE X a (tD (md X) f)):PE X (.BoolOp op [a] pos) (tD (md X) f):=G9 h
def LB{h:List Expr}{f g:bx}(r:PE X a (tD (md X) f))(A:PE X (.BoolOp .And (b::h) pos) (tD (md X) g)):PE X (.BoolOp .And (a::b::h) pos) (tD (md X) (vc f g)):=kD (GO r A) λC H Q p=>by
 obtain⟨u,m,S,d,y,ok,e,q⟩:=p
 obtain⟨⟨x,n⟩,s,e⟩:=ar e
 refine⟨u,m,S,x,n,ok,s,λk v H1 l i o=> ?_⟩
 dsimp only at e
 split at e
 ·cases o
  refine⟨_,rfl,?_⟩
  rw[Qhq rfl]
  exact⟨k,m,n,d,y,ok.to l i,e,λB w H2 t j z=>q _ _ _ (l.trans t) j z⟩
 ·cases o
  refine⟨_,rfl,?_⟩
  rw[Quq Qtq]
  obtain⟨rfl,rfl⟩:=cy e
  exact q _ _ _ l i (.bl _)
 ·cases e
def Lr{f:bx}(j:PE X a (tD (md X) f)):PE X (.UnaryOp .Not a pos) (tD (md X) (EO f)):=kD (GQ j) λr H Q i=>by
 obtain⟨n,h,S,d,s,ok,e,q⟩:=i
 obtain⟨⟨x,o⟩,l,e⟩:=ar e
 refine⟨n,h,S,x,o,ok,l,λk v H1 m g p=> ?_⟩
 dsimp only at e
 split at e
 ·cases p
  obtain⟨rfl,rfl⟩:=cy e
  exact⟨_,rfl,q _ _ _ m g (.bl _)⟩
 ·cases e
def qN(c:iY)(f g:bx):bx:=λd S=>(c d S).bind λ(k,h)=>if k=true then f d h else g d h
def Lv{h:iY}{f g:bx}(x:PT X c (tB (md X) h))(u:PE X a (tD (md X) f))(A:PE X b (tD (md X) g)):PE X (.IfExp c a b pos) (tD (md X) (qN h f g)):=kD (DR x u A) λB H Q t=>by
 obtain⟨y,m,S,d,s,ok,e,q⟩:=t
 obtain⟨⟨z,o⟩,v,e⟩:=ar e
 refine⟨y,m,S,z,o,ok,v,λk H1 l j=> ?_⟩
 dsimp only at e
 split at e
 ·rename_i c
  rw[Qhq c]
  exact⟨k,m,o,d,s,ok.to l j,e,λr w H2 n i p=>q _ _ _ (l.trans n) i p⟩
 ·rename_i c
  rw[Quq c]
  exact⟨k,m,o,d,s,ok.to l j,e,λr w H2 n i p=>q _ _ _ (l.trans n) i p⟩
def iQ:sS:=λS x y=>match x,y with
 |.tup xs,.int i=>kh xs i
 |.str z,.int i=>if z.length<=sizeLine then(kh z.cps.toList i).map λc=>.str ⟨#[c]⟩ else none
 | .ref k,.int i=>match S[k]? with
   |some (.lst xs)=>kh xs i
   |some (.frz xs)=>kh xs i
   |_=>none
 |_,_=>none
def Ey{α d:Type}{xs:List α}{ys:List d}{i:Int}{x:α}(h:kh xs i=some x)(l:xs.length=ys.length):∃j:Nat,xs[j]?=some x/\∀y,ys[j]?=some y->kh ys i=some y:=by
 unfold kh at h
 obtain⟨j,e,h⟩:=ar h
 exact⟨j,h,λy f=>by unfold kh;rw[←l,e];exact f⟩
def bj.atI{M:Md}{ρ:List Addr}{H:Hp}{ds:List D}{vs:List V}{i:Int}{d:D}(h:bj M ρ H ds vs)(e:L2.kh ds i=some d):∃v,L2.kh vs i=some v/\Rel M ρ H d v:=by
 obtain⟨j,f,g⟩:=Ey e h.length
 obtain⟨v,l,k⟩:=h.get f
 exact⟨v,g v l,k⟩
def I_{M:Md}:kH M (Lh M.K) iQ:=by
 intro r S H x y d u v Q i n p e q
 cases p <;>cases n <;>simp only[iQ,reduceCtorEq] at e
 ·split at e
  ·obtain⟨c,f,g⟩:=oQm.mp e
   subst g
   exact .inr (.inr ⟨_,_,c,rfl,rfl,by assumption,f,q _ _ bU.refl i (.str _)⟩)
  ·cases e
 ·rename_i h m
  obtain⟨v,f,g⟩:=m.atI e
  exact .inr (.inl ⟨_,_,_,v,rfl,rfl,hG.of h,f,q _ _ bU.refl i g⟩)
 ·rename_i h
  split at e
  ·obtain⟨l,j,k⟩:=i.obj _ _ _ h (by assumption)
   obtain⟨v,f,g⟩:=k.atI e
   exact .inl ⟨_,_,_,v,rfl,rfl,jg.of j,f,q _ _ bU.refl i g⟩
  ·obtain⟨l,o,j,k⟩:=i.obj _ _ _ h (by assumption)
   obtain⟨v,f,g⟩:=k.atI e
   exact .inl ⟨_,_,_,v,rfl,rfl,.inl (.inr ⟨o,j⟩),f,q _ _ bU.refl i g⟩
  ·cases e
def et{f g:bx}(d:PE X a (tD (md X) f))(h:PE X b (tD (md X) g))(i:AD b:=by intro _ _;rfl):PE X (.Subscript a b pos) (tD (md X) (a0 iQ f g)):=ou I_ (JV HS d h i)
end
inductive Tag where
 |tu|fr|st (k:Nat)|fz (k:Nat)
def yU(M:Md)(ρ:List Addr)(H:Hp)(a:Addr)(vs:List V):Tag->Prop
 |.tu=>hG M.K H a vs
 |.fr=>H a=some (.lst vs)/\a∉ρ
 |.st k=>ρ[k]?=some a/\H a=some (.lst vs)
 |.fz k=>ρ[k]?=some a/\∃o,H a=some (.frz o (.lst vs))
abbrev eN:=cD->aG->Option ((List D×Tag)×aG)
def tQ(M:Md)(f:eN):TE:=λj H Q=>∃d e S i t g,Ok M d e S j H/\f e S=some ((i,t),g)∧
 ∀b a h c,bU d H b c->fL M b g c->yU M b c a h t->bj M b c i h->Q (.ref a) c
def yU.sq{M:Md}{ρ:List Addr}{H:Hp}{a:Addr}{vs:List V}{t:Tag}(h:yU M ρ H a vs t):jg M.K H a vs\/hG M.K H a vs:=by
 cases t with
 |tu=>exact .inr h
 |fr=>exact .inl (jg.of h.1)
 |st k=>exact .inl (jg.of h.2)
 |fz k=>obtain⟨_,o,h⟩:=h;exact .inl (.inl (.inr ⟨o,h⟩))
def Tag.isL:Tag->Bool
 |.tu=>false
 |_=>true
def Tag.isM:Tag->Bool
 |.fr=>true
 |.st _=>true
 |_=>false
def yU.sqL{M:Md}{ρ:List Addr}{H:Hp}{a:Addr}{vs:List V}{t:Tag}(h:yU M ρ H a vs t)(c:t.isL=true):jg M.K H a vs:=by
 cases t with
 |tu=>cases c
 |fr=>exact jg.of h.1
 |st k=>exact jg.of h.2
 |fz k=>obtain⟨_,o,h⟩:=h;exact .inl (.inr ⟨o,h⟩)
def yU.sqM{M:Md}{ρ:List Addr}{H:Hp}{a:Addr}{vs:List V}{t:Tag}(h:yU M ρ H a vs t)(c:t.isM=true):H a=some (.lst vs):=by
 cases t with
 |tu=>cases c
 |fr=>exact h.1
 |st k=>exact h.2
 |fz k=>cases c
def yU.sqT{M:Md}{ρ:List Addr}{H:Hp}{a:Addr}{vs:List V}{t:Tag}(h:yU M ρ H a vs t)(c:t.isL=false):hG M.K H a vs:=by
 cases t with
 |tu=>exact h
 |fr=>cases c
 |st k=>cases c
 |fz k=>cases c
def Tag.stays(S:aG)(ds:List D):Tag->Prop
 |.st k=>S[k]?=some (.lst ds)
 |.fz k=>S[k]?=some (.frz ds)
 |_=>True
def hG.ext{K:PySem.W.Frag}{ρ b:List Addr}{H c:Hp}{a:Addr}{vs:List V}(e:bU ρ H b c)(h:hG K H a vs):hG K c a vs:=by
 rcases h with(h|⟨o,h⟩)|h
 ·exact .inl (.inl (e.keep _ _ h (.inr trivial)))
 ·exact .inl (.inr ⟨o,e.keep _ _ h (.inr trivial)⟩)
 ·exact .inr h
def yU.to{M:Md}{ρ d:List Addr}{S:aG}{H i:Hp}{a:Addr}{vs:List V}{ds:List D}{t:Tag}(h:yU M ρ H a vs t)(r:bj M ρ H ds vs)(e:bU ρ H d i)(st:fL M d S i)(c:t.stays S ds):∃b,yU M d i a b t/\bj M d i ds b:=by
 cases t with
 |tu=>exact⟨vs,hG.ext e h,r.ext e⟩
 |fr=>exact⟨vs,⟨e.keep _ _ h.1 (.inl h.2),λm=>(e.new a m).elim h.2 λz=>by have f:=h.1;rw[z] at f;cases f⟩,r.ext e⟩
 | st k=>
   have g:=dq e.pre h.1
   obtain⟨b,f,j⟩:=st.obj k a _ g c
   exact⟨b,⟨g,f⟩,j⟩
 | fz k=>
   have g:=dq e.pre h.1
   obtain⟨b,o,f,j⟩:=st.obj k a _ g c
   exact⟨b,⟨g,o,f⟩,j⟩
section
variable{X:Cx}{a b c e:Expr}{pos:Pos}
def fM(f:fU):eN:=λd S=>(f d S).bind λ(h,g)=>some ((h,.fr),g)
def LS{f:fU}(h:PE X e (tL (md X) f)):PE X e (tQ (md X) (fM f)):=kD h λu H Q i=>by
 obtain⟨m,g,S,z,t,A,ok,e,q⟩:=i
 obtain⟨⟨d,p⟩,k,e⟩:=ar e
 obtain⟨r,rfl⟩:=cy e
 obtain⟨rfl,rfl⟩:=Prod.mk.inj r
 exact⟨m,g,S,d,p,ok,k,λs a v y x o w l j n=>q _ _ _ _ x o ⟨j,l⟩ n⟩
def sN(S:aG):D->Option (List D×Tag)
 |.tup d=>some (d,.tu)
 | .ref k=>match S[k]? with
   |some (.lst d)=>some (d,.st k)
   |some (.frz d)=>some (d,.fz k)
   |_=>none
 |_=>none
def aS(f:bx):eN:=λh S=>(f h S).bind λ(d,g)=>(sN g d).bind λp=>some (p,g)
def Fd{M:Md}{ρ:List Addr}{S:aG}{H:Hp}{d:D}{v:V}{ds:List D}{t:Tag}(st:fL M ρ S H)(r:Rel M ρ H d v)(e:sN S d=some (ds,t)):∃a vs,v=.ref a/\yU M ρ H a vs t/\bj M ρ H ds vs:=by
 cases r with
 |tup h i=>simp only[sN] at e;cases e;exact⟨_,_,rfl,hG.of h,i⟩
 | ref h=>
   simp only[sN] at e
   split at e
   · rename_i q
     cases e
     obtain⟨vs,f,g⟩:=st.obj _ _ _ h q
     exact⟨_,vs,rfl,⟨h,f⟩,g⟩
   · rename_i q
     cases e
     obtain⟨vs,o,f,g⟩:=st.obj _ _ _ h q
     exact⟨_,vs,rfl,⟨h,o,f⟩,g⟩
   · cases e
 |_=>simp only[sN,reduceCtorEq] at e
def Cs{f:bx}(h:PE X e (tD (md X) f)):PE X e (tQ (md X) (aS f)):=kD h λw H Q j=>by
 obtain⟨n,i,S,A,t,B,ok,e,q⟩:=j
 obtain⟨⟨d,o⟩,m,e⟩:=ar e
 obtain⟨⟨k,u⟩,p,e⟩:=ar e
 obtain⟨s,rfl⟩:=cy e
 obtain⟨rfl,rfl⟩:=Prod.mk.inj s
 refine⟨n,i,S,d,o,ok,m,λl v z x g r=> ?_⟩
 obtain⟨a,y,rfl,h1,h2⟩:=Fd g r p
 exact q _ _ _ _ x g h1 h2
def tZ{f:eN}{p:Pos}(m:Gl X "len")(w:X.mg "len"=none)(n:PE X a (tQ (md X) f))(k:starEach [a] X.env= [(false,eval a X.env)]:=by rfl):
  PE X (.Call (.Name "len" p) [a] [] pos) (tD (md X) λg S=>(f g S).bind λ(p,i)=>some (.int p.1.length,i)):=
 kD (ku wy m w PySem.boot_len (c_ n gy k) (he:=k)) λz H Q l=>by
  obtain⟨s,g,S,d,B,ok,e,q⟩:=l
  obtain⟨⟨⟨v,t⟩,i⟩,o,e⟩:=ar e
  obtain⟨rfl,rfl⟩:=cy e
  refine⟨s,g,S,v,t,i,ok,o,λy a j A x u h r=>⟨a,j,rfl,h.sq,?_⟩⟩
  have:=q _ (.int j.length) _ x u (by rw[←r.length];exact .int _)
  exact this
def eM(f:eN):bx:=λd S=>(f d S).bind λ(p,g)=>some (.int p.1.length,g)
def tupQ(f:eN):bx:=λd S=>(f d S).bind λ(p,g)=>some (.tup p.1,g)
def AL{f:eN}{p:Pos}(n:Gl X "tuple")(y:X.mg "tuple"=none)(o:PE X a (tQ (md X) f))(j:starEach [a] X.env= [(false,eval a X.env)]:=by rfl)(ht:∀g S ds t k,f g S=some ((ds,t),k)->t.isL=true):
  PE X (.Call (.Name "tuple" p) [a] [] pos) (tD (md X) (tupQ f)):=
 kD (uO sY n y (by rfl) (c_ o gy j) (he:=j)) λA H Q m=>by
  obtain⟨u,g,S,d,k,ok,e,q⟩:=m
  obtain⟨⟨⟨ds,t⟩,w⟩,i,e⟩:=ar e
  obtain⟨rfl,rfl⟩:=cy e
  refine⟨u,g,S,ds,t,w,ok,i,λz a s B x v h r=>⟨a,s,rfl,.inl ⟨h.sqL (ht _ _ _ _ _ i),λl hl=> ?_⟩⟩⟩
  exact q _ _ _ (x.trans (bU.laid hl)) (v.lay hl) (.tup bD (r.ext (bU.laid hl)))
def Kj{f:fU}:∀d S ds t g,fM f d S=some ((ds,t),g)->t.isL=true:=λd S ds t g e=>by
 obtain⟨⟨h,j⟩,i,e⟩:=ar e
 cases e
 rfl
def dJ(f:eN):eN:=λd S=>(f d S).bind λ(p,g)=>if p.2.isL=true then some (p,g) else none
def pO{f:eN}:∀d S ds t g,dJ f d S=some ((ds,t),g)->t.isL=true:=λd S ds t g e=>by
 obtain⟨⟨⟨h,j⟩,k⟩,i,e⟩:=ar e
 dsimp only at e
 split at e <;>cases e
 assumption
def Gj{f:eN}(h:PE X e (tQ (md X) f)):PE X e (tQ (md X) (dJ f)):=kD h λp H Q k=>by
 obtain⟨g,i,S,r,t,o,ok,e,q⟩:=k
 obtain⟨⟨⟨d,m⟩,j⟩,l,e⟩:=ar e
 dsimp only at e
 split at e
 ·obtain⟨n,rfl⟩:=cy e
  obtain⟨rfl,rfl⟩:=Prod.mk.inj n
  exact⟨g,i,S,d,m,j,ok,l,q⟩
 ·cases e
def kI:List D->Option (List Bool)
 | []=>some []
 |.bl b::r=>(kI r).bind λd=>some (b::d)
 |_::_=>none
theorem De{M:Md}{ρ:List Addr}{H:Hp}:∀{ds:List D} {vs:List V} {bs:List Bool},bj M ρ H ds vs->kI ds=some bs->vs=bs.map V.bl
 | [],_,_,h,e=>by cases h;cases e;rfl
 | d::ds,_,_,h,e=>by
   cases d with
   | bl b=>
     simp only[kI] at e
     obtain⟨i,g,e⟩:=ar e
     cases e
     cases h with
     | cons h f=>
       cases h
       rw[De f g]
       rfl
   |_=>cases e
def ES(f:eN):bx:=λd S=>(f d S).bind λ(p,h)=>if p.2.isL=true then(kI p.1).bind λg=>some (.bl (g.all id),h) else none
def LN{f:eN}{p:Pos}(n:X.calm=true)(k:Gl X "all")(z:X.mg "all"=none)(l:PE X a (tQ (md X) f))(g:starEach [a] X.env= [(false,eval a X.env)]:=by rfl):
  PE X (.Call (.Name "all" p) [a] [] pos) (tD (md X) (ES f)):=
 kD (ku (Bx n) k z (by rfl) (c_ l gy g) (he:=g)) λB H Q j=>by
  obtain⟨o,i,S,d,G,ok,e,q⟩:=j
  obtain⟨⟨⟨w,t⟩,v⟩,m,e⟩:=ar e
  dsimp only at e
  split at e
  ·rename_i c
   obtain⟨s,y,e⟩:=ar e
   obtain⟨rfl,rfl⟩:=cy e
   refine⟨o,i,S,w,t,v,ok,m,λA a C F x u h r=>⟨a,s,rfl,?_,q _ _ _ x u (.bl _)⟩⟩
   rw[←De r y]
   exact h.sqL c
  ·cases e
def rF(S:aG)(T:String):D->Option Bool
 |.non=>some (T=="NoneType")
 |.bl _=>some (T=="bool" ||T=="int")
 |.int _=>some (T=="int")
 |.str _=>some (T=="str")
 |.tup _=>some (T=="tuple")
 | .ref k=>match S[k]? with
   |some (.lst _)=>some (T=="list")
   |some (.frz _)=>some (T=="list")
   |some (.dct _)=>some (T=="dict")
   |_=>none
 |.fn _=>none
def Dv(K:PySem.W.Frag)(T:String):Prop:=(PySem.W.kitOne K (.type "NoneType") (.type T)=some (T=="NoneType"))/\(PySem.W.kitOne K (.type "bool") (.type T)=some (T=="bool" ||T=="int"))/\(PySem.W.kitOne K (.type "int") (.type T)=some (T=="int"))/\(PySem.W.kitOne K (.type "str") (.type T)=some (T=="str"))∧
 (PySem.W.kitOne K (.type "tuple") (.type T)=some (T=="tuple"))/\(PySem.W.kitOne K (.type "list") (.type T)=some (T=="list"))/\(PySem.W.kitOne K (.type "dict") (.type T)=some (T=="dict"))
def nu(T:String)(f:bx):bx:=λh S=>(f h S).bind λ(d,g)=>(rF g T d).bind λk=>some (.bl k,g)
def LC{T:String}{l:Expr}{f:bx}{p:Pos}(I:Dv X.K T)(B:Gl X "isinstance")(W:X.mg "isinstance"=none)(G:PE X a (tD (md X) f))(ht:PE X l (tC (.ty T)))(t:starEach [a,l] X.env= [(false,eval a X.env),(false,eval l X.env)]:=by rfl)(j:starEach [l] X.env= [(false,eval l X.env)]:=by rfl):
  PE X (.Call (.Name "isinstance" p) [a,l] [] pos) (tD (md X) (nu T f)):=
 kD (ku C4 B W boot_isinstance (c_ G (c_ ht gy j) (by rw[t,j])) (he:=by rw[t,j]) (hpl:=by rw[j];rfl)) λZ H Q A=>by
  obtain⟨M,y,S,d,S',ok,e,q⟩:=A
  obtain⟨⟨R,U⟩,L,e⟩:=ar e
  obtain⟨k,i,e⟩:=ar e
  obtain⟨rfl,rfl⟩:=cy e
  obtain⟨P,F,z,N,J,w,C⟩:=I
  refine⟨M,y,S,R,U,ok,L,λY v H' x s r=> ?_⟩
  have g:=q _ _ _ x s (.bl _)
  cases r with
  |non=>cases i;exact⟨_,_,_,_,rfl,.non,P,g⟩
  |bl=>cases i;exact⟨_,_,_,_,rfl,.bl _,F,g⟩
  |int=>cases i;exact⟨_,_,_,_,rfl,.int _,z,g⟩
  |str=>cases i;exact⟨_,_,_,_,rfl,.str _,N,g⟩
  |tup h t=>cases i;exact⟨_,_,_,_,rfl,.tup h,J,g⟩
  |fn=>cases i
  | ref h=>
    simp only[rF] at i
    split at i
    · rename_i n;cases i;obtain⟨u,m,_⟩:=s.obj _ _ _ h n;exact⟨_,_,_,_,rfl,.lst m,w,g⟩
    · rename_i n;cases i;obtain⟨u,o,m,_⟩:=s.obj _ _ _ h n;exact⟨_,_,_,_,rfl,.frz m,w,g⟩
    · rename_i n;cases i;obtain⟨u,m,_⟩:=s.obj _ _ _ h n;exact⟨_,_,_,_,rfl,.dK m,C,g⟩
    · cases i
abbrev Gc:=List D->Option D
def Cg(M:Md)(r:List V->Hp->VK->Prop)(o:Gc):Prop:=∀{f:List Addr} {S:aG} {H:Hp} {g:List D} {d:D} {h:List V} {Q:VK},fL M f S H->bj M f H g h->o g=some d->(∀w,Rel M f H d w->Q w H)->r h H Q
def zX(o:Gc)(f:fU):bx:=λh S=>(f h S).bind λ(g,i)=>(o g).bind λd=>some (d,i)
def Iz{r:List V->Hp->VK->Prop}{o:Gc}{f:fU}(v:Cg (md X) r o)(h:PE X e (Kd r (xk (md X) f))):PE X e (tD (md X) (zX o f)):=kD h λy H Q k=>by
 obtain⟨s,j,S,d,B,ok,e,q⟩:=k
 obtain⟨⟨p,t⟩,m,e⟩:=ar e
 obtain⟨A,x,e⟩:=ar e
 obtain⟨rfl,rfl⟩:=cy e
 exact⟨s,j,S,p,t,ok,m,λi z H1 n g u=>v g u x λw l=>q i w H1 n g l⟩
def Cd:Gc
 | [.int i]=>some (.int (if i<0 then -i else i))
 |_=>none
def maxD:Gc
 | [.int i,.int j]=>some (.int (if j>i then j else i))
 |_=>none
def minD:Gc
 | [.int i,.int j]=>some (.int (if j<i then j else i))
 |_=>none
def intOfD:Gc
 | [.int i]=>some (.int i)
 | [.bl k]=>some (.int (if k then 1 else 0))
 |_=>none
def K4{M:Md}:Cg M (λxs H Q=>∃i,xs= [.int i]/\Q (.int (if i<0 then -i else i)) H) Cd:=by
 intro g S H xs d j Q h r e q
 unfold Cd at e
 split at e <;>cases e
 cases r with|cons r f=>cases f;cases r;exact⟨_,rfl,q _ (.int _)⟩
def K9{M:Md}:Cg M (λxs H Q=>∃i j,xs= [.int i,.int j]/\Q (.int (if j>i then j else i)) H) maxD:=by
 intro h S H xs d l Q k r e q
 unfold maxD at e
 split at e <;>cases e
 cases r with|cons r f=>cases f with|cons g f=>cases f;cases r;cases g;exact⟨_,_,rfl,q _ (.int _)⟩
def KO{M:Md}:Cg M (λxs H Q=>∃i j,xs= [.int i,.int j]/\Q (.int (if j<i then j else i)) H) minD:=by
 intro h S H xs d l Q k r e q
 unfold minD at e
 split at e <;>cases e
 cases r with|cons r f=>cases f with|cons g f=>cases f;cases r;cases g;exact⟨_,_,rfl,q _ (.int _)⟩
def DP{M:Md}:Cg M (λxs H Q=>(∃i,xs= [.int i]/\Q (.int i) H)\/∃k,xs= [.bl k]/\Q (.int (if k then 1 else 0)) H) intOfD:=by
 intro g S H xs d j Q h r e q
 unfold intOfD at e
 split at e <;>cases e
 ·cases r with|cons r f=>cases f;cases r;exact .inl ⟨_,rfl,q _ (.int _)⟩
 ·cases r with|cons r f=>cases f;cases r;exact .inr ⟨_,rfl,q _ (.int _)⟩
def ip:List D->Option (List V)
 | []=>some []
 |d::r=>(vG d).bind λv=>(ip r).bind λf=>some (v::f)
def qV{d:D}{v:V}(e:vG d=some v):gH v=true:=by
 cases d <;>simp[vG] at e <;>subst e <;>rfl
theorem kR{M:Md}{ρ:List Addr}{H:Hp}:∀{ds:List D} {f vs:List V},bj M ρ H ds f->ip ds=some vs->f=vs/\vs.all gH=true
 |_,_,_,.nil,e=>by cases e;exact⟨rfl,rfl⟩
 | _,_,_,.cons h hs,e=>by
   obtain⟨v,d,e⟩:=ar e
   obtain⟨vs,g,e⟩:=ar e
   cases e
   obtain⟨i,j⟩:=kR hs g
   rw[mi h d,i]
   exact⟨rfl,by rw[List.all_cons,qV d,j];rfl⟩
def vP(d:Bool)(f:bx)(g:eN):bx:=λh S=>(f h S).bind λ(x,k)=>(g h k).bind λ(p,j)=>(vG x).bind λv=>(ip p.1).bind λi=>some (.bl (if d then !Ee v i else Ee v i),j)
def qZ{f:bx}{t:TE}(j:∀d H Q,tD (md X) f d H Q->t d H Q)(h:PT X e (Dy t)):PT X e (tB (md X) (aL f)):=JZ h λd H Q ⟨g,i,S,k,l,ok,e,q⟩=>
 j _ _ _ ⟨g,i,S,.bl k,l,ok,sg e,λn v o x m r=>by cases r;exact⟨k,rfl,q _ _ x m⟩⟩
def Ge{h:Bool}{f:bx}{g:eN}:∀k H Q,tD (md X) (vP h f g) k H Q->Fy (KJ X.K h) (tD (md X) f) (tQ (md X) g) k H Q:=λk H Q r=>by
 obtain⟨B,m,S,d,R,ok,e,q⟩:=r
 obtain⟨⟨x,o⟩,y,e⟩:=ar e
 obtain⟨⟨⟨I,t⟩,z⟩,M,e⟩:=ar e
 obtain⟨v,p,e⟩:=ar e
 obtain⟨P,C,e⟩:=ar e
 obtain⟨rfl,rfl⟩:=cy e
 refine⟨B,m,S,x,o,ok,y,λl u H1 n j J=>⟨l,m,o,I,t,z,ok.to n j,M,λN a w H2 A i F L=> ?_⟩⟩
 cases mi J p
 obtain⟨G,s⟩:=kR L C
 subst G
 exact⟨a,w,rfl,F.sq,qV p,s,q _ _ _ (n.trans A) i (.bl _)⟩
def LZ{f:bx}{g:eN}(d:PE X a (tD (md X) f))(h:PE X b (tQ (md X) g))(i:behindInMarks .In b=false:=by rfl):PT X (.Compare a [.In] [b] pos) (tB (md X) (aL (vP false f g))):=qZ Ge (kZ A7 d h i)
def J9{f:bx}{g:eN}(d:PE X a (tD (md X) f))(h:PE X b (tQ (md X) g))(i:behindInMarks .NotIn b=false:=by rfl):PT X (.Compare a [.NotIn] [b] pos) (tB (md X) (aL (vP true f g))):=qZ Ge (kZ vB d h i)
end
inductive Out where
 |nx (Γ:cD) (S:aG)|bk (Γ:cD) (S:aG)|ct (Γ:cD) (S:aG)|rt (d:D) (S:aG)|rl (ds:List D) (S:aG)
abbrev cY:=cD->aG->Option Out
def vd(M:Md)(ρ:List Addr)(H:Hp)(D:Ends):Out->Prop
 |.nx f g=>∀b e c,bU ρ H b c->Ok M b f g e c->D.nx e c
 |.bk f g=>∀b e c,bU ρ H b c->Ok M b f g e c->D.bk e c
 |.ct f g=>∀b e c,bU ρ H b c->Ok M b f g e c->D.ct e c
 |.rt d g=>∀b v c,bU ρ H b c->fL M b g c->Rel M b c d v->D.rt v c
 |.rl i g=>∀b a h c,bU ρ H b c->fL M b g c->H a=none->a∉b->c a=some (.lst h)->bj M b c i h->D.rt (.ref a) c
def vd.to{M:Md}{ρ c:List Addr}{H H1:Hp}{D:Ends}{o:Out}(h:vd M ρ H D o)(e:bU ρ H c H1):vd M c H1 D o:=by
 cases o with
 |nx=>exact λb d f x ok=>h _ _ _ (e.trans x) ok
 |bk=>exact λb d f x ok=>h _ _ _ (e.trans x) ok
 |ct=>exact λb d f x ok=>h _ _ _ (e.trans x) ok
 |rt=>exact λb v f x g r=>h _ _ _ (e.trans x) g r
 |rl=>exact λb a l f x g k j i r=>h _ _ _ _ (e.trans x) g (e.grow _ k) j i r
def tS(M:Md)(g:cY):TS:=λD c H=>∃a b S o,Ok M a b S c H/\g b S=some o/\vd M a H D o
section
variable{X:Cx}{a b c e:Expr}{pos:Pos}{st:Stmt}{rest body other:List Stmt}
def eT:cY:=λd S=>some (.nx d S)
def sL:sQ X [] (tS (md X) eT):=JF EA λD g H ⟨d,f,S,o,ok,e,q⟩=>by cases e;exact q _ _ _ bU.refl ok
noncomputable def aE(f g:cY):cY:=λh S=>(f h S).bind λo=>match o with
 |.nx d i=>g d i
 |o=>some o
def cO{f g:cY}(m:PS X st (tS (md X) f))(s:sQ X rest (tS (md X) g)):sQ X (st::rest) (tS (md X) (aE f g)):=JF (Ek m s) λD v H l=>by
 obtain⟨r,k,S,o,ok,e,q⟩:=l
 obtain⟨j,n,e⟩:=ar e
 refine⟨r,k,S,j,ok,n,?_⟩
 cases j with
 |nx i t=>exact λd u H1 p h=>⟨d,i,t,o,h,e,q.to p⟩
 |bk=>cases e;exact q
 |ct=>cases e;exact q
 |rt=>cases e;exact q
 |rl=>cases e;exact q
def jd{f:cY}(d:PS X st (tS (md X) f)):sQ X [st] (tS (md X) f):=E9 d
def never:cY:=λ_ _=>none
def Kh:PS X st (tS (md X) never):=B_ Eh λD g H ⟨d,f,S,o,ok,e,q⟩=>by cases e
def uw(f:bx):cY:=λd S=>(f d S).bind λ(_,g)=>some (.nx d g)
def DT{f:bx}(h:PE X e (tD (md X) f))(l:swapsWith e none pos.line X.env=pure false:=by rfl):PS X (.Expr e pos) (tS (md X) (uw f)):=B_ (E8 h l) λD p H i=>by
 obtain⟨k,g,S,o,ok,e,q⟩:=i
 obtain⟨⟨d,m⟩,j,e⟩:=ar e
 cases e
 exact⟨k,g,S,d,m,ok,j,λn v s x st r=>q _ _ _ x (ok.to x st)⟩
noncomputable def cu(f:bx):cY:=λg S=>(f g S).bind λ(d,h)=>some (.rt d h)
def lL{f:bx}(h:PE X e (tD (md X) f)):PS X (.Return (some e) pos) (tS (md X) (cu f)):=B_ (Cb h) λD m H k=>by
 obtain⟨g,i,S,o,ok,e,q⟩:=k
 obtain⟨⟨d,j⟩,l,e⟩:=ar e
 cases e
 exact⟨g,i,S,d,j,ok,l,q⟩
noncomputable def Gh(f:fU):cY:=λd S=>(f d S).bind λ(h,g)=>some (.rl h g)
def Ks{f:fU}(h:PE X e (tL (md X) f)):PS X (.Return (some e) pos) (tS (md X) (Gh f)):=B_ (Cb h) λD m H k=>by
 obtain⟨g,i,S,o,ok,e,q⟩:=k
 obtain⟨⟨d,j⟩,l,e⟩:=ar e
 cases e
 exact⟨g,i,S,d,j,ok,l,q⟩
def eO(c:iY)(f g:cY):cY:=λd S=>(c d S).bind λ(k,h)=>if k=true then f d h else g d h
def yM{h:iY}{f g:cY}(s:PT X c (tB (md X) h))(p:sQ X body (tS (md X) f))(u:sQ X other (tS (md X) g)):PS X (.If c body other pos) (tS (md X) (eO h f g)):=B_ (Iw s p u) λD v H n=>by
 obtain⟨t,l,S,o,ok,e,q⟩:=n
 obtain⟨⟨k,m⟩,r,e⟩:=ar e
 refine⟨t,l,S,k,m,ok,r,λi H1 j d=> ?_⟩
 dsimp only at e
 split at e
 ·rename_i c
  rw[Qhq c]
  exact⟨i,l,m,o,ok.to j d,e,q.to j⟩
 ·rename_i c
  rw[Quq c]
  exact⟨i,l,m,o,ok.to j d,e,q.to j⟩
abbrev lB:=D->cD->aG->Option (cD×aG)
abbrev qe:=List D->cD->aG->Option (cD×aG)
def tG(M:Md)(g:lB):TG:=λv n H Q=>∃j l S d i m,Ok M j l S n H/\Rel M j H d v/\g d l S=some (i,m)/\∀h f k,bU j H h k->Ok M h i m f k->Q f k
def Ki(M:Md)(g:qe):EH:=λo n H Q=>∃i k S m h l,Ok M i k S n H/\bj M i H m o/\g m k S=some (h,l)/\∀f d j,bU i H f j->Ok M f h l d j->Q d j
def Kt{t t':TG}(h:PG X e t)(w:∀v f H Q,t' v f H Q->t v f H Q):PG X e t':=λd s f H v u Q I r q=>h d s f H v u Q I r (w _ _ _ _ q)
def Jp{g:List Expr}{t t':EH}(h:Et X g t)(w:∀v f H Q,t' v f H Q->t v f H Q):Et X g t':=λd s f H v u Q I r q=>h d s f H v u Q I r (w _ _ _ _ q)
def bG(i:Nat):lB:=λd f S=>some (f.set i (some d),S)
def Cr{i:Nat}(h:PG X e (oh i)):PG X e (tG (md X) (bG i)):=Kt h λv m H Q f=>by
 obtain⟨j,k,S,d,g,l,ok,r,e,q⟩:=f
 cases e
 exact q _ _ _ bU.refl ⟨ok.en.set r,ok.st⟩
def cW:qe:=λf d S=>match f with
 | []=>some (d,S)
 |_=>none
def aI(f:lB)(g:qe):qe:=λk i S=>match k with
 |d::r=>(f d i S).bind λ(h,j)=>g r h j
 | []=>none
def GE:Et X [] (Ki (md X) cW):=Jp FT λk j H Q d=>by
 obtain⟨g,h,S,l,f,i,ok,r,e,q⟩:=d
 cases r with
 |nil=>cases e;exact⟨rfl,q _ _ _ bU.refl ok⟩
 |cons=>cases e
def Aj{h:List Expr}{f:lB}{g:qe}(s:PG X e (tG (md X) f))(z:Et X h (Ki (md X) g))(y:(assignEach (e::h) X.env).map (·.2)=assign e X.env::(assignEach h X.env).map (·.2):=by rfl):Et X (e::h) (Ki (md X) (aI f g)):=
 Jp (DK s z y) λG F H Q p=>by
  obtain⟨w,o,S,I,k,A,ok,r,e,q⟩:=p
  cases r with
  |nil=>cases e
  | cons r x=>
    obtain⟨⟨d,n⟩,u,e⟩:=ar e
    refine⟨_,_,rfl,w,o,S,_,d,n,ok,r,u,λi C H1 m j=>⟨i,d,n,_,k,A,j,x.ext m,e,λB t H2 v l=>q _ _ _ (m.trans v) l⟩⟩
def gW(g:qe):lB:=λd f S=>match d with
 |.tup h=>g h f S
 |_=>none
def nG(n:Nat)(g:qe):qe:=λd f S=>if d.length=n then g d f S else none
def ID{f:List Expr}{k:Nat}{g:qe}{n:Nat}(o:X.calm=true)(h:Et X f (Ki (md X) g))(s:(assignEach f X.env).length=n:=by rfl)(i:(assignEach f X.env).findIdx? (·.1)=none:=by rfl):
  PG X (.Tuple f k pos) (tG (md X) (gW (nG n g))):=Kt (Gz o h s i) λv u H Q ⟨p,m,S,d,j,t,ok,r,e,q⟩=>by
 cases r with
 | tup h l=>
   simp only[gW,nG] at e
   split at e
   · rename_i c
     exact⟨_,_,rfl,hG.of h,by rw[←l.length];exact c,p,m,S,_,j,t,ok,l,e,q⟩
   · cases e
 |_=>cases e
def nV(f:bx)(g:lB):cY:=λi S=>(f i S).bind λ(d,k)=>(g d i k).bind λ(h,j)=>some (.nx h j)
def Ii{f:bx}{g:lB}:∀D j H,tS (md X) (nV f g) D j H->Bz (tD (md X) f) (tG (md X) g) D j H:=λD j H r=>by
 obtain⟨x,m,S,o,ok,e,q⟩:=r
 obtain⟨⟨d,p⟩,t,e⟩:=ar e
 obtain⟨⟨i,u⟩,z,e⟩:=ar e
 cases e
 exact⟨x,m,S,d,p,ok,t,λk v H1 n h y=>⟨k,m,p,d,i,u,ok.to n h,y,z,λA s H2 w l=>q _ _ _ (n.trans w) l⟩⟩
def Ir{d:Expr}{f:bx}{g:lB}(he:PE X e (tD (md X) f))(j:PG X d (tG (md X) g))(i:swapsWithSole [d] e pos.line X.env=pure false:=by rfl)(h:swappedStores [d] e X.env=pure none:=by rfl)
  (k:(assignEach [d] X.env).map (·.2)= [assign d X.env]:=by rfl):PS X (.Assign [d] e pos) (tS (md X) (nV f g)):=B_ (G4 he j i h k) Ii
noncomputable def aX(i:Nat)(f:bx):cY:=λg S=>(f g S).bind λ(d,h)=>some (.nx (g.set i (some d)) h)
def II{i:Nat}{f:bx}(h:PS X st (Bz (tD (md X) f) (oh i))):PS X st (tS (md X) (aX i f)):=B_ h λD t H l=>by
 obtain⟨p,k,S,o,ok,e,q⟩:=l
 obtain⟨⟨d,r⟩,n,e⟩:=ar e
 cases e
 exact⟨p,k,S,d,r,ok,n,λm v H1 j g s=>q _ _ _ j ⟨(ok.en.ext j).set s,g⟩⟩
abbrev sR:=cD->aG->Option ((List D×(aG->Prop))×aG)
def Walks(M:Md)(J:It)(ρ:List Addr)(H:Hp)(ds:List D)(W:aG->Prop):Prop:=∀(i:Nat) (f:List Addr) (j:aG) (h:Hp),bU ρ H f h->fL M f j h->W j→
 (∀d,ds[i]?=some d->J.go i h/\∀x g,J.yld i h x g->bU f h f g/\fL M f j g/\Rel M f g d x)/\(i=ds.length->J.stop i h)
def tI(M:Md)(f:sR):TI:=λl H R=>∃h i S k W j,Ok M h i S l H/\f i S=some ((k,W),j)/\∀d J g,bU h H d g->fL M d j g->Walks M J d g k W->R J g
def Kb{g:Expr}{t t':TI}(h:PI X g e t)(w:∀f H R,t' f H R->t f H R):PI X g e t':=λd s f H R I q=>h d s f H R I (w _ _ _ q)
def GZ{z l:Expr}{r:TE}(hl:PE X l r):PI X z l (λk H R=>r k H λx H1=>∃a,x=.ref a/\((∃xs,jg X.K H1 a xs)/\R (LK X.K a) H1\/(∃xs,hG X.K H1 a xs)/\R (LJ X.K a) H1)):=by
 intro g s k H R I h
 refine c8 (hl g s k H _ I h) λv d t=> ?_
 obtain⟨x,H1,f,y,j⟩:=t
 obtain⟨a,e,j⟩:=j
 subst e
 cases y
 rcases j with⟨⟨xs,n⟩,q⟩|⟨⟨xs,n⟩,q⟩
 ·obtain⟨i,u,p,w⟩:=f.list n
  refine wpAny_pyIter_list p.isList ?_
  refine⟨d.heap.objs.size,[d.heap.objs.size],_,_,H1,rfl,f.kept (t':=d.toks) λb o e=>Qcq _ e,Bq a _,⟨_,Qrq _ rfl,rfl,rfl⟩,λb m=> ?_,q⟩
  have e:b=d.heap.objs.size:=by simpa using m
  subst e
  exact f.fpOk (Qmq _) (f.hok.fresh (Qmq _))
 ·obtain⟨i,u,p,w⟩:=f.tuple n
  refine wpAny_pyIter_tuple (show d.heap.IsTuple a i.toArray from p) ?_
  refine⟨d.heap.objs.size,[d.heap.objs.size],_,_,H1,rfl,f.kept (t':=d.toks) λb o e=>Qcq _ e,y6 a _,⟨_,Qrq _ rfl,rfl,rfl⟩,λb m=> ?_,q⟩
  have e:b=d.heap.objs.size:=by simpa using m
  subst e
  exact f.fpOk (Qmq _) (f.hok.fresh (Qmq _))
def kc(f:eN):sR:=λd S=>(f d S).bind λ(p,h)=>some ((p.1,λg=>p.2.stays g p.1),h)
def Lp{M l:Expr}{f:eN}(hl:PE X l (tQ (md X) f)):PI X M l (tI (md X) (kc f)):=Kb (GZ hl) λQ H R G=>by
 obtain⟨K,F,S,Y,W,Z,ok,e,q⟩:=G
 obtain⟨⟨⟨u,t⟩,L⟩,I,e⟩:=ar e
 obtain⟨N,rfl⟩:=cy e
 obtain⟨rfl,rfl⟩:=Prod.mk.inj N
 refine⟨K,F,S,u,t,L,ok,I,λP a C U x st h r=>⟨a,rfl,?_⟩⟩
 cases c:t.isL with
 | true=>
   refine .inl ⟨⟨C,h.sqL c⟩,q _ _ _ x st λi A J H2 y j w=> ?_⟩
   obtain⟨g,B,o⟩:=h.to r y j w
   have m:=B.sqL c
   refine⟨λd p=> ?_,λz=>⟨g,m,by rw[z,o.length];exact Qmq _⟩⟩
   obtain⟨v,n,s⟩:=o.get p
   refine⟨⟨g,v,m,n⟩,λx H3 k=> ?_⟩
   obtain⟨rfl,k⟩:=k
   have:=k g m
   rw[n] at this
   cases this
   exact⟨bU.refl,j,s⟩
 | false=>
   refine .inr ⟨⟨C,h.sqT c⟩,q _ _ _ x st λi A J H2 y j w=> ?_⟩
   obtain⟨g,B,o⟩:=h.to r y j w
   have m:=B.sqT c
   refine⟨λd p=> ?_,λz=>⟨g,m,by rw[z,o.length];exact Qmq _⟩⟩
   obtain⟨v,n,s⟩:=o.get p
   refine⟨⟨g,v,m,n⟩,λx H3 k=> ?_⟩
   obtain⟨rfl,k⟩:=k
   have:=k g m
   rw[n] at this
   cases this
   exact⟨bU.refl,j,s⟩
def jo(lo hi:Int):List D:=(List.range (hi-lo).toNat).map λ(i:Nat)=>D.int (lo+(i:Int))
def i4(f:bx):sR:=λg S=>(f g S).bind λ(d,h)=>match d with
 |.int j=>if -(2^62)<=j/\j<2^62 then some ((jo 0 j,λ_=>True),h) else none
 |_=>none
def t5{M:Md}{ρ:List Addr}{H:Hp}{lo hi:Int}:Walks M (IQ lo (hi-lo).toNat) ρ H (jo lo hi) (λ_=>True):=λi m n H2 o f w=>by
 unfold jo
 refine⟨λd g=> ?_,λhi=>by rw[lQm,QVq] at hi;exact Nat.le_of_eq hi.symm⟩
 rw[gQm] at g
 obtain⟨k,j,rfl⟩:=oQm.mp g
 have hl:=(gQs.mp j)
 obtain⟨hl,h⟩:=hl
 rw[List.getElem_range] at h
 subst h
 rw[QVq] at hl
 refine⟨hl,λx H3 l=> ?_⟩
 obtain⟨rfl,rfl⟩:=l
 exact⟨bU.refl,f,.int _⟩
def CT{v a:Expr}{f:bx}{p:Pos}(m:Gl X "range")(y:X.mg "range"=none)(n:PE X a (tD (md X) f))(h:starEach [a] X.env= [(false,eval a X.env)]:=by rfl):PI X v (.Call (.Name "range" p) [a] [] pos) (tI (md X) (i4 f)):=
 Kb (A8 m y (az n aV h) h) λz H R l=>by
  obtain⟨ρ,k,S,B,W,C,ok,e,q⟩:=l
  obtain⟨⟨d,t⟩,o,e⟩:=ar e
  dsimp only at e
  split at e
  ·rename_i j
   split at e
   ·rename_i i
    obtain⟨w,rfl⟩:=cy e
    obtain⟨rfl,rfl⟩:=Prod.mk.inj w
    refine⟨ρ,k,S,[.int j],t,ok,by unfold aq av;rw[o];rfl,λg A s x st r=> ?_⟩
    cases r with
    | cons r u=>
      cases u
      cases r
      refine⟨j,rfl,i.1,i.2,q _ _ _ x st ?_⟩
      have:=t5 (M:=md X) (ρ:=g) (H:=s) (lo:=0) (hi:=j)
      rw[Int.sub_zero] at this
      exact this
   ·cases e
  ·cases e
def Fx(f g:bx):sR:=λh S=>(f h S).bind λ(d,m)=>(g h m).bind λ(k,l)=>match d,k with
 |.int i,.int j=>if -(2^62)<=i/\i<2^62/\ -(2^62)<=j/\j<2^62 then some ((jo i j,λ_=>True),l) else none
 |_,_=>none
def Ld{C a b:Expr}{f g:bx}{p:Pos}(o:Gl X "range")(G:X.mg "range"=none)(s:PE X a (tD (md X) f))(B:PE X b (tD (md X) g))(l:starEach [a,b] X.env= [(false,eval a X.env),(false,eval b X.env)]:=by rfl)(h:starEach [b] X.env= [(false,eval b X.env)]:=by rfl):PI X C (.Call (.Name "range" p) [a,b] [] pos) (tI (md X) (Fx f g)):=
 Kb (BR o G (az s (az B aV h) (by rw[l,h])) l h) λJ H R n=>by
  obtain⟨y,m,S,N,W,P,ok,e,q⟩:=n
  obtain⟨⟨d,M⟩,u,e⟩:=ar e
  obtain⟨⟨v,w⟩,F,e⟩:=ar e
  cases d with
  | int i=>
    cases v with
    | int j=>
      dsimp only at e
      split at e
      · rename_i A
        obtain⟨I,rfl⟩:=cy e
        obtain⟨rfl,rfl⟩:=Prod.mk.inj I
        refine⟨y,m,S,[.int i,.int j],w,ok,by simp only[aq,av,u,Qbq,F],λt K L x st r=> ?_⟩
        cases r with
        | cons r k=>
          cases k with
          | cons z k=>
            cases k
            cases r
            cases z
            exact⟨i,j,rfl,A,q _ _ _ x st t5⟩
      · cases e
    |_=>cases e
  |_=>cases e
open Classical in
def forL(g:lB)(b:cY)(W:aG->Prop):List D->cD->aG->Option Out
 | [],Γ,S=>if W S then some (.nx Γ S) else none
 |d ::ds,Γ,S=>if W S then(g d Γ S).bind λ(i,j)=>(b i j).bind λo=>match o with
    |.nx f h=>forL g b W ds f h
    |.ct f h=>forL g b W ds f h
    |.bk f h=>some (.nx f h)
    |.rt x h=>some (.rt x h)
    |.rl x h=>some (.rl x h)
  else none
def iX(i:sR)(g:lB)(b:cY):cY:=λd S=>(i d S).bind λ(p,f)=>forL g b p.2 p.1 d f
def Gb{Z j:Expr}{i:sR}{g:lB}{f:cY}(hp:PassesOwn (model X.prog X.w) X.A X.env X.xe)(hc:X.calm=true)(hi:PI X Z j (tI (md X) i))(hg:PG X Z (tG (md X) g))(hb:sQ X body (tS (md X) f))
  (hs:∀x,foldedSetIterable j X.env x=pure x:=by intro _;rfl):PS X (.For Z j body [] pos) (tS (md X) (iX i g f)):=B_ (GH hp hc hi hg hb hs) λD σ H ⟨ρ,Γ,S,o,ok,e,q⟩=>by
 obtain⟨⟨⟨h,W⟩,S1⟩,e1,e⟩:=ar e
 refine⟨ρ,Γ,S,h,W,S1,ok,e1,λv J H1 x1 P wk=> ?_⟩
 have L:=q.to x1
 have Q:=ok.to x1 P
 refine⟨λi m n z=>m=h.length-i/\i<=h.length/\∃d l y,bU v H1 d z/\Ok (md X) d l y n z/\forL g f W (h.drop i) l y=some o,⟨h.length,by simp,Nat.zero_le _,v,Γ,S1,bU.refl,Q,e⟩,?_⟩
 rintro i m a2 H2 ⟨rfl,hi,d,l,y,x2,ok2,e2⟩
 by_cases u:i<h.length
 ·have hd:h[i]?=some h[i]:=gQe u
  rw[QWq u] at e2
  unfold forL at e2
  split at e2
  ·rename_i w
   obtain⟨w1,w2⟩:=wk i d y H2 x2 ok2.st w
   obtain⟨go,R⟩:=w1 _ hd
   refine .inr ⟨go,λn z=>∃r t M,bU v H1 r z/\Ok (md X) r t M n z/\forL g f W (h.drop (i+1)) t M=some o,λn z ⟨r,t,M,h1,h2,h3⟩=>⟨h.length-(i+1),by omega,rfl,u,r,t,M,h1,h2,h3⟩,λx H3 hy=> ?_⟩
   obtain⟨x3,N,r3⟩:=R x H3 hy
   obtain⟨⟨I,S4⟩,e4,e5⟩:=ar e2
   refine⟨d,l,y,_,I,S4,ok2.to x3 N,r3,e4,λY a1 H4 x4 U=> ?_⟩
   obtain⟨o5,e6,K⟩:=ar e5
   have G:=(x2.trans x3).trans x4
   refine⟨Y,I,S4,o5,U,e6,?_⟩
   cases o5 with
   |nx p B=>exact λs F H6 C k=>⟨s,p,B,G.trans C,k,K⟩
   |ct p B=>exact λs F H6 C k=>⟨s,p,B,G.trans C,k,K⟩
   |bk p B=>cases K;exact λs F H6 C k=>L _ _ _ (G.trans C) k
   |rt d6 B=>cases K;exact L.to G
   |rl d6 B=>cases K;exact L.to G
  ·cases e2
 ·have e3:i=h.length:=by omega
  subst e3
  rw[List.drop_length] at e2
  unfold forL at e2
  split at e2
  ·rename_i w
   cases e2
   obtain⟨w1,w2⟩:=wk h.length d y H2 x2 ok2.st w
   exact .inl ⟨w2 rfl,L _ _ _ x2 ok2⟩
  ·cases e2
end
section
variable{M:Md}{ρ:List Addr}{H:Hp}{b:Addr}{us ws:List V}
mutual
theorem Rel.off(a:H b=some (.lst us)):∀{d:D} {v:V},Rel M ρ H d v->Rel M ρ (upd H b (.lst ws)) d v
 |_,_,.non=>.non
 |_,_,.bl x=>.bl x
 |_,_,.int i=>.int i
 |_,_,.str x=>.str x
 |_,_,.tup h hs=>.tup (by rw[bh (Dm h a (by intro z;cases z))];exact h) (bj.off a hs)
 |_,_,.ref h=>.ref h
 |_,_,.fn h=>.fn h
theorem bj.off(a:H b=some (.lst us)):∀{ds:List D} {vs:List V},bj M ρ H ds vs->bj M ρ (upd H b (.lst ws)) ds vs
 |_,_,.nil=>.nil
 |_,_,.cons h hs=>.cons (Rel.off a h) (bj.off a hs)
end
theorem fL.off{S:aG}(st:fL M ρ S H)(g:H b=some (.lst us))(n:b∉ρ):fL M ρ S (upd H b (.lst ws)):=⟨st.len,st.nd,λk a o h l=>by
 have q:=st.obj k a o h l
 have e:a≠b:=λz=>n (z▸mQg h)
 cases o with
 |lst m=>obtain⟨f,c,d⟩:=q;exact⟨f,by rw[bh e];exact c,d.off g⟩
 |frz m=>obtain⟨f,o,c,d⟩:=q;exact⟨f,o,by rw[bh e];exact c,d.off g⟩
 |dct j=>obtain⟨i,c,d⟩:=q;exact⟨i,by rw[bh e];exact c,d.imp λ_ _ r=>r.off g⟩⟩
def En.off{a:cD}{c:L2.St}(h:En M ρ H a c)(e:H b=some (.lst us)):En M ρ (upd H b (.lst ws)) a c:=⟨h.len,λi d q=>by obtain⟨v,f,g⟩:=h.get i d q;exact⟨v,f,g.off e⟩⟩
def bU.off{d:List Addr}{f:Hp}(e:bU d f ρ H)(g:f b=none)(u:HO):bU d f ρ (upd H b u):=⟨e.pre,e.new,λa o h c=>by rw[bh (eY h g)];exact e.keep a o h c,λa h=>by
 by_cases z:a=b
 ·subst z;exact g
 ·rw[bh z] at h;exact e.grow a h⟩
end
def mh(js:List (Option Nat))(a:cD):cD:=js.map λo=>o.bind λj=>a.getD j none
def En.sig{M:Md}{ρ:List Addr}{H:Hp}{a:cD}{c:L2.St}(js:List (Option Nat))(h:En M ρ H a c):En M ρ H (mh js a) (jQ js c) where
 len:=by unfold mh jQ;rw[lQm,lQm]
 get:=λi d q=>by
  unfold mh at q
  unfold jQ
  rw[gQm] at q⊢
  cases e:js[i]? with
  |none=>rw[e] at q;cases q
  | some o=>
    rw[e] at q
    cases o with
    |none=>cases q
    | some j=>
      have b:a.getD j none=some d:=QdQ q
      have k:a[j]?=some (some d):=by
        rw[Qlq] at b
        cases z:a[j]? with
        |none=>rw[z] at b;cases b
        |some y=>rw[z] at b;exact congrArg some b
      obtain⟨v,f,g⟩:=h.get j d k
      refine⟨v,?_,g⟩
      show some (c.getD j none)=some (some v)
      rw[Qlq,f]
      rfl
open Classical in
def lU(g:lB)(t:iY)(f:bx)(W:aG->Prop):List D->cD->aG->List D->Option (List D×aG)
 | [],Γ,S,acc=>if W S then some (acc,S) else none
 |d ::ds,Γ,S,acc=>if W S then(g d Γ S).bind λ(a,e)=>(t a e).bind λ(k,b)=>
    if k=true then(f a b).bind λ(y,c)=>if acc.length<sizeLine then lU g t f W ds a c (acc++ [y]) else none
    else lU g t f W ds a b acc
  else none
def bH(js:List (Option Nat))(i:sR)(g:lB)(t:iY)(f:bx):fU:=λa S=>(i a S).bind λ(p,b)=>lU g t f p.2 p.1 (mh js a) b []
section
variable{M:Md}
def Dh{js:List (Option Nat)}{i:sR}{g:lB}{t:iY}{f:bx}:∀X H Q,tL M (bH js i g t f) X H Q->CP js (tI M i) (tG M g) (tB M t) (tD M f) X H Q:=λX H Q qq=>by
 obtain⟨ρ,Γ,S,rs,S',ok,e,q⟩:=qq
 obtain⟨⟨⟨j,W⟩,S1⟩,e1,e⟩:=ar e
 refine⟨ρ,Γ,S,j,W,S1,ok,e1,λl J H1 Z P wk D L=> ?_⟩
 have n1:D∉l:=dC Z P L
 have a4:Ok M l (mh js Γ) S1 (jQ js X) (upd H1 D (.lst [])):=⟨((ok.en.ext Z).ext (bU.laid L)).sig js,P.lay L⟩
 refine⟨λi m p d=>m=j.length-i/\i<=j.length/\∃b o K a h,bU l H1 b d/\Ok M b o K p d/\D∉b/\d D=some (.lst h)/\bj M b d a h/\lU g t f W (j.drop i) o K a=some (rs,S'),
  ⟨j.length,by simp,Nat.zero_le _,l,_,S1,[],[],bU.laid L,a4,n1,bD,.nil,e⟩,?_⟩
 rintro i m b0 H2 ⟨rfl,hi,b,o,K,a,h,x2,ok2,n2,hD2,racc,e2⟩
 by_cases G:i<j.length
 ·have hd:j[i]?=some j[i]:=gQe G
  rw[QWq G] at e2
  unfold lU at e2
  split at e2
  ·rename_i w
   obtain⟨w1,w2⟩:=wk i b K H2 x2 ok2.st w
   obtain⟨go,a5⟩:=w1 _ hd
   refine .inr ⟨go,λp d=>∃c A r a h,bU l H1 c d/\Ok M c A r p d/\D∉c/\d D=some (.lst h)/\bj M c d a h/\lU g t f W (j.drop (i+1)) A r a=some (rs,S'),
    λp d ⟨c,A,r,a,h,h1,h2,h3,h4,h5,h6⟩=>⟨j.length-(i+1),by omega,rfl,G,c,A,r,a,h,h1,h2,h3,h4,h5,h6⟩,λx H3 hy=> ?_⟩
   obtain⟨x3,a2,r3⟩:=a5 x H3 hy
   obtain⟨⟨n,S4⟩,e4,e5⟩:=ar e2
   refine⟨b,o,K,_,n,S4,ok2.to x3 a2,r3,e4,λa7 a9 H4 x4 B=> ?_⟩
   obtain⟨⟨k,S5⟩,e6,e7⟩:=ar e5
   refine⟨a7,n,S4,k,S5,B,e6,λN H5 U R=> ?_⟩
   have u:=(x3.trans x4).trans U
   have C:∀{c d},bU b H2 c d->d D=some (.lst h)/\D∉c:=λ{c d} x=>⟨x.keep _ _ hD2 (.inl n2),λm=>(x.new _ m).elim n2 λz=>by rw[z] at hD2;cases hD2⟩
   dsimp only at e7⊢
   split at e7
   ·rename_i ck
    rw[Qhq ck]
    obtain⟨⟨y,S6⟩,e8,Y⟩:=ar e7
    refine⟨N,n,S5,y,S6,B.to U R,e8,λa3 v H6 x6 a1 r6=> ?_⟩
    have F:=u.trans x6
    obtain⟨s,n6⟩:=C F
    have I:=racc.ext F
    dsimp only at Y
    split at Y
    ·rename_i cl
     refine⟨h,s,by rw[←racc.length];exact cl,a3,n,S6,a++ [y],h++ [v],(x2.trans F).off L _,⟨((B.en.ext U).ext x6).off s,a1.off s n6⟩,n6,bD,(I.append (.cons r6 .nil)).off s,Y⟩
    ·cases Y
   ·rename_i ck
    rw[Quq ck]
    obtain⟨a6,n5⟩:=C u
    exact⟨N,n,S5,a,h,x2.trans u,B.to U R,n5,a6,racc.ext u,e7⟩
  ·cases e2
 ·have e3:i=j.length:=by omega
  subst e3
  rw[List.drop_length] at e2
  unfold lU at e2
  split at e2
  ·rename_i w
   obtain⟨rfl,rfl⟩:=cy e2
   obtain⟨w1,w2⟩:=wk j.length b K H2 x2 ok2.st w
   exact .inl ⟨w2 rfl,q b D h H2 (Z.trans x2) ok2.st (Z.grow _ L) n2 hD2 racc⟩
  ·cases e2
end
section
variable{X:Cx}{a b c e:Expr}{pos:Pos}{st:Stmt}{rest body other:List Stmt}
def bQ:iY:=λ_ S=>some (true,S)
def IM{f:List Expr}{t t':TT}(h:mK X f t)(w:∀g H Q,t' g H Q->t g H Q):mK X f t':=λd s g H Q I q=>h d s g H Q I (w _ _ _ q)
def Lq:mK X [] (tB (md X) bQ):=IM GG λh H Q ⟨d,f,S,k,g,ok,e,q⟩=>by cases e;exact q _ _ bU.refl ok.st
def LQ{f:iY}(d:PT X c (tB (md X) f)):mK X [c] (tB (md X) f):=HU d
def Hm{N:List Str}{js:List (Option Nat)}{d:Scope}{l:List (Str×Addr)}{m h j:Expr}{k:List Expr}{i:sR}{g:lB}{t:iY}{f:bx}
  (S:aU X N js d l) (o:X.calm=true) (hi:PI X m h (tI (md X) i))
  (n:∀C s H fp,PG (aN X N d l C s H fp) m (tG (md X) g)) (ht:∀C s H fp,mK (aN X N d l C s H fp) k (tB (md X) t)) (he:∀C s H fp,PE (aN X N d l C s H fp) j (tD (md X) f))
  (p:∀x,foldedSetIterable h X.env x=pure x:=by intro _;rfl):PE X (.ListComp j [⟨m,h,k,0⟩] d pos) (tL (md X) (bH js i g t f)):=kD (FG S o hi n ht he p) Dh
def Ht{N:List Str}{js:List (Option Nat)}{h:Scope}{v:List (Str×Addr)}{w j m k:Expr}{r:List Expr}{i:sR}{g:lB}{t:iY}{f:bx}{n:Nat}{l:Pos}
  (S:aU X N js h v) (W:X.calm=true) (hi:PI X w j (tI (md X) i))
  (M:∀C s H fp,PG (aN X N h v C s H fp) w (tG (md X) g)) (ht:∀C s H fp,mK (aN X N h v C s H fp) r (tB (md X) t)) (he:∀C s H fp,PE (aN X N h v C s H fp) m (tD (md X) f)) (B:PG X k (oh n))
  (hs:∀x,foldedSetIterable j X.env x=pure x:=by intro _;rfl) (A:swapsWithSole [k] (.ListComp m [⟨w,j,r,0⟩] h pos) l.line X.env=pure true:=by rfl)
  (P:(assignEach [k] X.env).map (·.2)= [assign k X.env]:=by rfl):PS X (.Assign [k] (.ListComp m [⟨w,j,r,0⟩] h pos) l) (tS (md X) (aX n (bB (bH js i g t f)))):=
 B_ (Fw S W hi M ht he B hs A P) λD Q H L=>by
  obtain⟨G,K,S,o,ok,e,q⟩:=L
  obtain⟨⟨d,S1⟩,U,e⟩:=ar e
  cases e
  obtain⟨⟨J,Y⟩,e2,e3⟩:=ar U
  obtain⟨rfl,rfl⟩:=cy e3
  refine Dh Q H _ ⟨G,K,S,J,Y,ok,e2,λp a Z I x st fr nr R rs=> ?_⟩
  have y:=rs.pre (List.prefix_append p [a])
  have z:=st.box (o:=.lst J) nr ⟨Z,R,y⟩
  have F:bU G H (p++ [a]) I:=⟨x.pre.trans (List.prefix_append _ _),λb u=>by
   rcases mQa.mp u with u|u
   ·exact x.new b u
   ·rw[Qfq] at u;subst u;exact .inr fr,x.keep,x.grow⟩
  refine q (p++ [a]) _ I F ⟨((ok.en.ext F).set (.ref ?_)),z⟩
  rw[←st.len,QQq (Qmq _)]
  simp
end
inductive Res where
 |d (x:D)|l (ds:List D)
abbrev dA:=List D->aG->Option (Res×aG)
def Gy(M:Md)(ρ:List Addr)(H b:Hp)(v:V):Res->Prop
 |.d x=>Rel M ρ b x v
 |.l e=>∃a c,v=.ref a/\H a=none/\a∉ρ/\b a=some (.lst c)/\bj M ρ b e c
def eK(M:Md)(n:Nat)(F:dA):Sp:=λf H Q _=>∃c S d r e,d.length=n/\bj M c H d f/\fL M c S H/\F d S=some (r,e)/\∀a v b,bU c H a b->fL M a e b->Gy M a H b v r->Q v b
mutual
def b_(m:Nat):D->Bool
 |.ref k=>decide (k<m)
 |.tup a=>bJ m a
 |_=>true
def bJ(m:Nat):List D->Bool
 | []=>true
 |d::ds=>b_ m d&&bJ m ds
end
def FI(m:Nat):O->Bool
 |.lst a=>bJ m a
 |.frz a=>bJ m a
 |.dct b=>bJ m (b.map (·.2))
section
variable{M:Md}{ρ ρ':List Addr}{H:Hp}
mutual
theorem Rel.cut(e:ρ <+: ρ'):∀{d:D} {v:V},Rel M ρ' H d v->b_ ρ.length d=true->Rel M ρ H d v
 |_,_,.non,_=>.non
 |_,_,.bl x,_=>.bl x
 |_,_,.int i,_=>.int i
 |_,_,.str x,_=>.str x
 |_,_,.tup h hs,b=>.tup h (bj.cut e hs (by simpa [b_] using b))
 | _,_,.ref (k:=k) (a:=a) h,b=>.ref (by
   obtain⟨t,rfl⟩:=e
   have c:k<ρ.length:=by simpa [b_] using b
   rwa [QHq c] at h)
 |_,_,.fn h,_=>.fn h
theorem bj.cut(e:ρ <+: ρ'):∀{ds:List D} {vs:List V},bj M ρ' H ds vs->bJ ρ.length ds=true->bj M ρ H ds vs
 |_,_,.nil,_=>.nil
 | _,_,.cons h hs,b=>by
   have a:=b
   simp only[bJ,QDq,QCq] at a
   exact .cons (Rel.cut e h a.1) (bj.cut e hs a.2)
end
theorem cg.cut(e:ρ <+: ρ'):∀{l:List (Key×D)} {kv:List (Key×V)},cg M ρ' H l kv->bJ ρ.length (l.map (·.2))=true->cg M ρ H l kv
 | [],_,h,_=>h
 | (_,_)::_,_,⟨v,t,q,h,hs⟩,b=>by
   have a:=b
   simp only[bJ,QDq,QCq] at a
   exact⟨v,t,q,h.cut e a.1,cg.cut e hs a.2⟩
theorem ny.cut{a:Addr}{o:O}(e:ρ <+: ρ')(h:ny M ρ' H a o)(b:FI ρ.length o=true):ny M ρ H a o:=by
 cases o with
 |lst j=>obtain⟨f,c,d⟩:=h;exact⟨f,c,d.cut e b⟩
 |frz j=>obtain⟨f,o,c,d⟩:=h;exact⟨f,o,c,d.cut e b⟩
 |dct g=>obtain⟨i,c,d⟩:=h;exact⟨i,c,d.cut e b⟩
mutual
theorem Rel.low:∀{d:D} {v:V},Rel M ρ H d v->b_ ρ.length d=true
 |_,_,.non=>rfl
 |_,_,.bl x=>rfl
 |_,_,.int i=>rfl
 |_,_,.str x=>rfl
 |_,_,.tup h hs=>by simp only[b_];exact bj.low hs
 |_,_,.ref h=>by simp only[b_];exact Qeq (gQs.mp h).1
 |_,_,.fn h=>rfl
theorem bj.low:∀{ds:List D} {vs:List V},bj M ρ H ds vs->bJ ρ.length ds=true
 |_,_,.nil=>rfl
 |_,_,.cons h hs=>by simp only[bJ];rw[Rel.low h,bj.low hs];rfl
end
theorem cg.low:∀{l:List (Key×D)} {kv:List (Key×V)},cg M ρ H l kv->bJ ρ.length (l.map (·.2))=true
 | [],_,_=>rfl
 |(_,_)::_,_,⟨v,t,q,h,hs⟩=>by simp only[QDq,bJ];rw[h.low,cg.low hs];rfl
theorem ny.low{a:Addr}{o:O}(h:ny M ρ H a o):FI ρ.length o=true:=by
 cases o with
 |lst f=>obtain⟨e,c,b⟩:=h;exact b.low
 |frz f=>obtain⟨e,o,c,b⟩:=h;exact b.low
 |dct d=>obtain⟨g,c,b⟩:=h;exact b.low
end
def nE(S a:aG):Prop:=S.length<=a.length/\∀k o,k<S.length->a[k]?=some o->S[k]?=some o\/FI S.length o=true
open Classical in
def settle(S:aG)(d:D)(a:aG):Option (Res×aG):=if nE S a then match d with
  | .ref k=>if k<S.length then some (.d (.ref k),a.take S.length) else match a[k]? with
    |some (.lst ds)=>if bJ S.length ds=true then some (.l ds,a.take S.length) else none
    |_=>none
  |d=>if b_ S.length d=true then some (.d d,a.take S.length) else none
 else none
open Classical in
def fm(S:aG)(ds:List D)(a:aG):Option (Res×aG):=if nE S a/\bJ S.length ds=true then some (.l ds,a.take S.length) else none
noncomputable def eV(n:Nat)(b:cY):dA:=λc S=>(b (c.map some++List.replicate (n-c.length) none) S).bind λo=>match o with
 |.nx _ a=>settle S .non a
 |.rt d a=>settle S d a
 |.rl l a=>fm S l a
 |_=>none
def fL.clean{M:Md}{ρ d:List Addr}{S j:aG}{H e:Hp}(st:fL M ρ S H)(x:bU ρ H d e)(g:fL M d j e)(c:nE S j):fL M ρ (j.take S.length) e/\bU ρ H ρ e:=by
 refine⟨⟨?_,st.nd,λk a o f i=> ?_⟩,List.prefix_refl _,λ_ h=>.inl h,x.keep,x.grow⟩
 ·rw[Qxq,st.len]
  have:=c.1
  omega
 ·have l:k<ρ.length:=(gQs.mp f).1
  have b:k<S.length:=st.len▸l
  rw[List.getElem?_take_of_lt b] at i
  refine(g.obj k a o (dq x.pre f) i).cut x.pre ?_
  rcases c.2 k o b i with z|z
  ·exact(st.obj k a o f z).low
  ·rw[st.len];exact z
def t_{M:Md}{ρ f:List Addr}{S t h:aG}{H g:Hp}{d:D}{v:V}{r:Res}(st:fL M ρ S H)(x:bU ρ H f g)(b:fL M f t g)(i:Rel M f g d v)(e:settle S d t=some (r,h)):
  bU ρ H ρ g/\fL M ρ h g/\Gy M ρ H g v r:=by
 unfold settle at e
 split at e
 ·rename_i c
  obtain⟨p,o⟩:=st.clean x b c
  cases d with
  | ref k=>
    dsimp only at e
    split at e
    · rename_i n
      obtain⟨rfl,rfl⟩:=cy e
      exact⟨o,p,i.cut x.pre (by simp only[b_];rw[st.len];exact Qeq n)⟩
    · rename_i n
      split at e
      · rename_i B z
        split at e
        · rename_i q
          obtain⟨rfl,rfl⟩:=cy e
          cases i with
          | ref l=>
            rename_i a
            obtain⟨y,w,A⟩:=b.obj k a _ l z
            have s:a∉ρ:=λm=>by
              obtain⟨j,u⟩:=List.getElem?_of_mem m
              have:=iZ b.nd (dq x.pre u) l
              subst this
              exact n (st.len▸(gQs.mp u).1)
            refine⟨o,p,a,y,rfl,(x.new a (mQg l)).resolve_left s,s,w,A.cut x.pre (by rw[st.len];exact q)⟩
        · cases e
      · cases e
  | _=>
    dsimp only at e
    split at e
    · rename_i q
      obtain⟨rfl,rfl⟩:=cy e
      exact⟨o,p,i.cut x.pre (by rw[st.len];exact q)⟩
    · cases e
 ·cases e
def yK{M:Md}{ρ b:List Addr}{S h f:aG}{H d:Hp}{ds:List D}{a:Addr}{vs:List V}{r:Res}(st:fL M ρ S H)(x:bU ρ H b d)(g:fL M b h d)(fr:H a=none)(i:a∉b)(k:d a=some (.lst vs))(j:bj M b d ds vs)(e:fm S ds h=some (r,f)):
  bU ρ H ρ d/\fL M ρ f d/\Gy M ρ H d (.ref a) r:=by
 unfold fm at e
 split at e
 ·rename_i c
  obtain⟨n,l⟩:=st.clean x g c.1
  obtain⟨rfl,rfl⟩:=cy e
  exact⟨l,n,a,vs,rfl,fr,λm=>i (x.pre.subset m),k,j.cut x.pre (by rw[st.len];exact c.2)⟩
 ·cases e
def Em{M:Md}{ρ:List Addr}{H:Hp}{ds:List D}{vs:List V}{N:List Str}(r:bj M ρ H ds vs):En M ρ H (ds.map some++List.replicate (N.length-ds.length) none) (L2.start N vs) where
 len:=by unfold L2.start;simp[r.length]
 get:=λi d q=>by
  unfold L2.start
  by_cases c:i<ds.length
  ·rw[QHq (by rw[lQm];exact c),gQm] at q
   obtain⟨g,a,b⟩:=oQm.mp q
   cases b
   obtain⟨v,f,e⟩:=r.get a
   exact⟨v,by rw[QHq (by rw[lQm,←r.length];exact c),gQm,f];rfl,e⟩
  ·rw[QQq (by rw[lQm];omega)] at q
   have:=mQg q
   rw[List.mem_replicate] at this
   cases this.2
section
variable{P:Program}{w:World}{K:PySem.W.Frag}{mg:Str->Option Value}{base:Heap}
def bo{x c:Str}{st:Stmt}{f:Addr}{I:FuncData}{N ps:List Str}{k:Nat}{b:cY}(F:eL K x c st f I)(S:aJ N ps (aD st))
  (i:∀(g:Value) (A:Around) (outer:List Env) (s:Shared) (H:Hp) (E:XK),fH k (A.deeper (envOfC c (aD st) s.heap.objs.size f g))→
   sQ (yT dY P w K mg base N c (aD st) f g A outer s H E).nox (fI st) (tS ⟨K,mg⟩ b)):bA P w K mg base dY (k+1) f I ps (eK ⟨K,mg⟩ ps.length (eV N.length b)):=by
 refine F.ok S (λC H Q E ⟨G,S,ds,r,S',B,y,_⟩=>by rw[←y.length];exact B) λg A outer s H C Q E M ⟨G,S,ds,r,S',B,y,t,U,q⟩=>⟨_,i g A outer s H E M,?_⟩
 obtain⟨o,X,e⟩:=ar U
 refine⟨G,_,S,o,⟨Em y,t⟩,X,?_⟩
 cases o with
 |nx a1 L=>exact λl Y J m u=>by obtain⟨n,j,p⟩:=t_ t m u.st .non e;exact q _ _ _ n j p
 |rt d L=>exact λl v J m h z=>by obtain⟨n,j,p⟩:=t_ t m h z e;exact q _ _ _ n j p
 |rl d L=>exact λl a C J m h Z R W z=>by obtain⟨n,j,p⟩:=yK t m h Z R W z e;exact q _ _ _ n j p
 |bk=>cases e
 |ct=>cases e
end
section
variable{X:Cx}{x:Str}{k n:Nat}{f:Addr}{fd:FuncData}{ps:List Str}{F:dA}{e:Expr}{es:List Expr}{g:fU}{p pos:Pos}
noncomputable def aA(F:dA)(g:fU):bx:=λa S=>(g a S).bind λ(h,c)=>(F h c).bind λ(r,b)=>match r with
 |.d x=>some (x,b)
 |.l _=>none
def eJ(F:dA)(g:fU):fU:=λb S=>(g b S).bind λ(a,h)=>(F a h).bind λ(r,c)=>match r with
 |.d _=>none
 |.l a=>some (a,c)
def nA(n:Nat)(g:fU):Prop:=∀b S a c,g b S=some (a,c)->a.length=n
def y0:nA 0 av:=λ_ _ _ _ e=>by cases e;rfl
def lE{n:Nat}{f:bx}{g:fU}(h:nA n g):nA (n+1) (aq f g):=λi S o j e=>by
 obtain⟨⟨d,c⟩,l,e⟩:=ar e
 obtain⟨⟨a,m⟩,b,e⟩:=ar e
 cases e
 rw[Qnq,h _ _ _ _ b]
def Ac{M:Md}(z:nA n g):∀c H Q,tD M (aA F g) c H Q->Ci (eK M n F) [] E0 (xk M g) c H Q:=λc H Q s=>by
 obtain⟨y,o,S,d,J,ok,e,q⟩:=s
 obtain⟨⟨i,m⟩,j,e⟩:=ar e
 obtain⟨⟨r,u⟩,C,e⟩:=ar e
 refine⟨y,o,S,i,m,ok,j,λh I H1 t b A=>⟨h,m,i,r,u,z _ _ _ _ j,by rw[List.append_nil];exact A,b,C,λG v H2 w a B=> ?_⟩⟩
 cases r with
 |d x=>obtain⟨rfl,rfl⟩:=cy e;exact q _ _ _ (t.trans w) a B
 |l i=>cases e
def EV{M:Md}(B:nA n g):∀h H Q,tL M (eJ F g) h H Q->Ci (eK M n F) [] E0 (xk M g) h H Q:=λh H Q u=>by
 obtain⟨A,t,S,d,K,ok,e,q⟩:=u
 obtain⟨⟨j,s⟩,m,e⟩:=ar e
 obtain⟨⟨r,w⟩,I,e⟩:=ar e
 refine⟨A,t,S,j,s,ok,m,λi y H1 o c C=>⟨i,s,j,r,w,B _ _ _ _ m,by rw[List.append_nil];exact C,c,I,λJ v H2 z b G=> ?_⟩⟩
 cases r with
 |d x=>cases e
 | l j=>
   obtain⟨rfl,rfl⟩:=cy e
   obtain⟨a,y,rfl,fr,na,ha,rr⟩:=G
   exact q _ _ _ _ (o.trans z) b (o.grow _ fr) na ha rr
def GA(G:bA X.prog X.w X.K X.mg X.base dY k f fd ps (eK (md X) n F))(h:fH k X.A)(i:Gl X x)(j:X.mg x=some (.ref f))(c:PySem.W.keepIn X.K (.ref f)=true)(d:Binds X.K fd ps [])(b:PA X (e::es) (xk (md X) g))(l:nA n g)
  (a:(x==("__debug__":Str))=false:=by decide) (he:starEach (e::es) X.env=(false,eval e X.env)::starEach es X.env:=by rfl) (hpl:(backTo pos (starEach es X.env)).any (·.1)=false:=by rfl):
  PE X (.Call (.Name x p) (e::es) [] pos) (tD (md X) (aA F g)):=kD (AO G h i j c d .nil D3 b a he hpl) (Ac l)
def Hc(G:bA X.prog X.w X.K X.mg X.base dY k f fd ps (eK (md X) n F))(h:fH k X.A)(i:Gl X x)(j:X.mg x=some (.ref f))(c:PySem.W.keepIn X.K (.ref f)=true)(d:Binds X.K fd ps [])(b:PA X (e::es) (xk (md X) g))(l:nA n g)
  (a:(x==("__debug__":Str))=false:=by decide) (he:starEach (e::es) X.env=(false,eval e X.env)::starEach es X.env:=by rfl) (hpl:(backTo pos (starEach es X.env)).any (·.1)=false:=by rfl):
  PE X (.Call (.Name x p) (e::es) [] pos) (tL (md X) (eJ F g)):=kD (AO G h i j c d .nil D3 b a he hpl) (EV l)
end
def fV{α:Type}(xs:List α)(lo hi:Option Int):List α:=(xs.drop (HT.dF xs.length 0 lo)).take (HT.dF xs.length xs.length hi-HT.dF xs.length 0 lo)
def bj.cut3{M:Md}{ρ:List Addr}{H:Hp}{ds:List D}{vs:List V}{lo hi:Option Int}(h:bj M ρ H ds vs):bj M ρ H (fV ds lo hi) (va vs lo hi):=by
 unfold fV va
 rw[h.length]
 exact(h.drop _).take _
def FL{α:Type}{xs:List α}{lo hi:Option Int}(a:HT.dF xs.length 0 lo=0)(b:HT.dF xs.length xs.length hi=xs.length):fV xs lo hi=xs:=by
 unfold fV
 rw[a,b]
 simp
abbrev EF:=cD->aG->Option (Option Int×aG)
def Ie(M:Md)(f:EF):TO:=λg H Q=>∃c d S o e,Ok M c d S g H/\f d S=some (o,e)/\∀a b,bU c H a b->fL M a e b->Q o b
section
variable{X:Cx}{a b c e:Expr}{pos:Pos}{st:Stmt}
def jz:EF:=λ_ S=>some (none,S)
def jj(f:bx):EF:=λg S=>(f g S).bind λ(d,h)=>match d with
 |.int i=>some (some i,h)
 |_=>none
def LR{o:Option Expr}{t t':TO}(h:PO X o t)(w:∀f H Q,t' f H Q->t f H Q):PO X o t':=λd s f H Q I q=>h d s f H Q I (w _ _ _ q)
def Kp:PO X none (Ie (md X) jz):=LR Fm λh H Q ⟨d,f,S,o,g,ok,e,q⟩=>by cases e;exact q _ _ bU.refl ok.st
def Kw{f:bx}(h:PE X e (tD (md X) f)):PO X (some e) (Ie (md X) (jj f)):=LR (FE h) λn H Q i=>by
 obtain⟨k,g,S,o,s,ok,e,q⟩:=i
 obtain⟨⟨d,l⟩,j,e⟩:=ar e
 dsimp only at e
 split at e
 ·obtain⟨rfl,rfl⟩:=cy e
  refine⟨k,g,S,_,l,ok,j,λm v p x st r=> ?_⟩
  cases r
  exact⟨_,rfl,q _ _ x st⟩
 ·cases e
def rZ(f:bx)(lo hi:EF):bx:=λg S=>(f g S).bind λ(d,k)=>(lo g k).bind λ(l,i)=>(hi g i).bind λ(h,j)=>match d with
 |.tup m=>some (.tup (fV m l h),j)
 |_=>none
def Kg{lo hi:Option Expr}{R:Pos}{f:bx}{l h:EF}(he:PE X e (tD (md X) f))(hl:PO X lo (Ie (md X) l))(K:PO X hi (Ie (md X) h)):PE X (.Subscript e (.Slice lo hi none R) pos) (tD (md X) (rZ f l h)):=
 kD (wZ FH he hl K) λY H Q G=>by
  obtain⟨M,m,S,d,Z,ok,e,q⟩:=G
  obtain⟨⟨x,B⟩,L,e⟩:=ar e
  obtain⟨⟨w,z⟩,U,e⟩:=ar e
  obtain⟨⟨F,J⟩,W,e⟩:=ar e
  cases x with
  | tup C=>
    dsimp only at e
    obtain⟨rfl,rfl⟩:=cy e
    refine⟨M,m,S,_,B,ok,L,λo v H1 r i P=>⟨o,m,B,w,z,ok.to r i,U,λu H2 s n=>⟨u,m,z,F,J,(ok.to r i).to s n,W,λN H3 A j=> ?_⟩⟩⟩
    have g:=(r.trans s).trans A
    have I:=P.ext (s.trans A)
    cases I with
    | tup y k=>
      refine⟨_,_,rfl,hG.of y,λc=> ?_,λc p t=> ?_⟩
      · have:fV C w F=C:=FL (by rw[k.length];exact c.1) (by rw[k.length];exact c.2)
        rw[this] at q
        exact q _ _ _ g j (.tup y k)
      · exact q _ _ _ (g.trans (bU.laid t)) (j.lay t) (.tup bD (k.cut3.ext (bU.laid t)))
  |_=>cases e
open Classical in
def tP(f:eN)(lo hi:EF):fU:=λd S=>(f d S).bind λ(p,j)=>(lo d j).bind λ(l,i)=>(hi d i).bind λ(h,g)=>if p.2.isL=true/\p.2.stays g p.1 then some (fV p.1 l h,g) else none
def J3{lo hi:Option Expr}{P:Pos}{f:eN}{l h:EF}(he:PE X e (tQ (md X) f))(hl:PO X lo (Ie (md X) l))(G:PO X hi (Ie (md X) h)):PE X (.Subscript e (.Slice lo hi none P) pos) (tL (md X) (tP f l h)):=
 kD (wZ Ez he hl G) λY H Q z=>by
  obtain⟨J,m,S,d,S',ok,e,q⟩:=z
  obtain⟨⟨⟨M,t⟩,y⟩,I,e⟩:=ar e
  obtain⟨⟨F,w⟩,R,e⟩:=ar e
  obtain⟨⟨U,C⟩,W,e⟩:=ar e
  dsimp only at e
  split at e
  ·rename_i c
   obtain⟨rfl,rfl⟩:=cy e
   refine⟨J,m,S,M,t,y,ok,I,λr a Z H1 s j A N=>⟨r,m,y,F,w,ok.to s j,R,λv H2 u n=>⟨v,m,w,U,C,(ok.to s j).to u n,W,λK H3 x i=> ?_⟩⟩⟩
   have g:=(s.trans u).trans x
   obtain⟨o,L,B⟩:=A.to N (u.trans x) i c.2
   refine⟨_,o,rfl,L.sqL c.1,λp k=> ?_⟩
   exact q _ _ _ _ (g.trans (bU.laid k)) (i.lay k) (g.grow _ k) (dC g i k) bD (B.cut3.ext (bU.laid k))
  ·cases e
open Classical in
def vy(f g:eN):fU:=λd S=>(f d S).bind λ(p,i)=>(g d i).bind λ(r,h)=>if p.2.isM=true/\r.2.isM=true/\p.2.stays h p.1/\p.1.length+r.1.length<=sizeLine then some (p.1++r.1,h) else none
def JN{f g:eN}(y:PE X a (tQ (md X) f))(L:PE X b (tQ (md X) g)):PE X (.BinOp a .Add b pos) (tL (md X) (vy f g)):=kD (m5 GT y L) λR H Q w=>by
 obtain⟨F,n,S,d,W,ok,e,q⟩:=w
 obtain⟨⟨⟨J,t⟩,u⟩,A,e⟩:=ar e
 obtain⟨⟨⟨B,P⟩,C⟩,M,e⟩:=ar e
 dsimp only at e
 split at e
 ·rename_i c
  obtain⟨rfl,rfl⟩:=cy e
  refine⟨F,n,S,J,t,u,ok,A,λm a U H1 r l x K=>⟨m,n,u,B,P,C,ok.to r l,M,λN b z H2 s h G v=> ?_⟩⟩
  obtain⟨k,I,o⟩:=x.to K s h c.2.2.1
  have i:=r.trans s
  refine⟨_,_,k,z,rfl,rfl,I.sqM c.1,G.sqM c.2.1,by rw[←o.length,←v.length];exact c.2.2.2,λp j=> ?_⟩
  exact q _ _ _ _ (i.trans (bU.laid j)) (h.lay j) (i.grow _ j) (dC i h j) bD ((o.append v).ext (bU.laid j))
 ·cases e
open Classical in
def CG(f:eN)(g:bx):fU:=λd S=>(f d S).bind λ(p,i)=>(g d i).bind λ(r,h)=>match r with
 |.int k=>if p.2.isM=true/\p.2.stays h p.1/\ -(2^63)<=k/\k<2^63/\p.1.length*k.toNat<=sizeLine then some ((List.replicate k.toNat p.1).flatten,h) else none
 |_=>none
def Lj{f:eN}{g:bx}(A:PE X a (tQ (md X) f))(L:PE X b (tD (md X) g)):PE X (.BinOp a .Mult b pos) (tL (md X) (CG f g)):=kD (m5 GX A L) λP H Q y=>by
 obtain⟨F,o,S,d,U,ok,e,q⟩:=y
 obtain⟨⟨⟨I,t⟩,x⟩,B,e⟩:=ar e
 obtain⟨⟨r,C⟩,M,e⟩:=ar e
 cases r with
 | int k=>
   dsimp only at e
   split at e
   · rename_i c
     obtain⟨rfl,rfl⟩:=cy e
     refine⟨F,o,S,I,t,x,ok,B,λn a R H1 u m z J=>⟨n,o,x,_,C,ok.to u m,M,λN w H2 v h K=> ?_⟩⟩
     obtain⟨l,G,s⟩:=z.to J v h c.2.1
     have i:=u.trans v
     cases K
     refine⟨_,k,l,rfl,rfl,G.sqM c.1,c.2.2.1,c.2.2.2.1,by rw[←s.length];exact c.2.2.2.2,λp j=> ?_⟩
     exact q _ _ _ _ (i.trans (bU.laid j)) (h.lay j) (i.grow _ j) (dC i h j) bD ((s.rep _).ext (bU.laid j))
   · cases e
 |_=>cases e
open Classical in
def eqQ(d:Bool)(f g:eN):bx:=λh S=>(f h S).bind λ(p,l)=>(g h l).bind λ(r,j)=>if p.2.isL=true/\r.2.isL=true/\p.2.stays j p.1 then(ip p.1).bind λi=>(ip r.1).bind λk=>some (.bl (if d then !An i k else An i k),j) else none
def Gf{i:Bool}{f g:eN}:∀l H Q,tD (md X) (eqQ i f g) l H Q->Fy (GD X.K i) (tQ (md X) f) (tQ (md X) g) l H Q:=λl H Q s=>by
 obtain⟨z,n,S,d,Y,ok,e,q⟩:=s
 obtain⟨⟨⟨G,t⟩,r⟩,w,e⟩:=ar e
 obtain⟨⟨⟨x,N⟩,y⟩,L,e⟩:=ar e
 dsimp only at e
 split at e
 ·rename_i c
  obtain⟨R,P,e⟩:=ar e
  obtain⟨U,B,e⟩:=ar e
  obtain⟨rfl,rfl⟩:=cy e
  refine⟨z,n,S,G,t,r,ok,w,λm a W H1 o j u I=>⟨m,n,r,x,N,y,ok.to o j,L,λM b A H2 p h C J=> ?_⟩⟩
  obtain⟨k,F,v⟩:=u.to I p h c.2.2
  obtain⟨rfl,f1⟩:=kR v P
  obtain⟨rfl,f2⟩:=kR J B
  exact⟨a,b,k,A,rfl,rfl,F.sqL c.1,C.sqL c.2.1,f1,f2,q _ _ _ (o.trans p) h (.bl _)⟩
 ·cases e
def IK{f g:eN}(i:X.A.units<cLine)(d:PE X a (tQ (md X) f))(h:PE X b (tQ (md X) g)):PT X (.Compare a [.Eq] [b] pos) (tB (md X) (aL (eqQ false f g))):=qZ Gf (kZ (HP i) d h (ik _))
def LP{f g:eN}(i:X.A.units<cLine)(d:PE X a (tQ (md X) f))(h:PE X b (tQ (md X) g)):PT X (.Compare a [.NotEq] [b] pos) (tB (md X) (aL (eqQ true f g))):=qZ Gf (kZ (Dj i) d h (ik _))
open Classical in
def fw(f:eN):bx:=λg S=>(f g S).bind λ(p,d)=>if p.2.isL=true/\p.2.stays d p.1 then some (.bl (!p.1.isEmpty),d) else none
def ER{f:eN}:∀j H Q,tD (md X) (fw f) j H Q->Fy (CU X.K) (tQ (md X) f) (tL (md X) (bp av)) j H Q:=λj H Q p=>by
 obtain⟨v,m,S,d,J,ok,e,q⟩:=p
 obtain⟨⟨⟨x,t⟩,l⟩,u,e⟩:=ar e
 dsimp only at e
 split at e
 ·rename_i c
  obtain⟨rfl,rfl⟩:=cy e
  refine⟨v,m,S,x,t,l,ok,u,λk a I H1 n h r y=>⟨k,m,l,[],l,ok.to n h,rfl,λB b G H2 o g F C A z=> ?_⟩⟩
  obtain⟨i,w,s⟩:=r.to y o g c.2
  cases z
  refine⟨a,b,i,rfl,rfl,w.sqL c.1,jg.of A,?_⟩
  rw[←s.isEmpty]
  exact q _ _ _ (n.trans o) g (.bl _)
 ·cases e
def IG:PE X (.List [] pos) (tL (md X) (bp av)):=gG aV
def zU{f:eN}{p:Pos}(d:X.A.units<cLine)(g:PE X a (tQ (md X) f)):PT X (.Compare a [.NotEq] [.List [] p] pos) (tB (md X) (aL (fw f))):=qZ ER (kZ (C6 d) g IG (ik _))
def fL.putL{M:Md}{ρ:List Addr}{S:aG}{H:Hp}{k:Nat}{a:Addr}{ds f:List D}{ws:List V}(st:fL M ρ S H)(d:ρ[k]?=some a)(h:S[k]?=some (.lst ds))(r:bj M ρ H f ws):fL M ρ (S.set k (.lst f)) (upd H a (.lst ws))/\bU ρ H ρ (upd H a (.lst ws)):=by
 obtain⟨l,g,j⟩:=st.obj k a _ d h
 exact st.put d h ⟨ws,bD,r.off g⟩ λx i=>by rw[g] at i;cases i;exact id
def AR(m:List D->List D->Option (List D×D))(f:bx)(g:fU):bx:=λh S=>(f h S).bind λ(x,j)=>match x with
 | .ref k=>(g h j).bind λ(l,i)=>match j[k]?,i[k]? with
   |some (.lst _),some (.lst ds)=>(m ds l).bind λ(n,d)=>some (d,i.set k (.lst n))
   |_,_=>none
 |_=>none
def JG(M:Md)(r:V->List V->Hp->VK->Prop)(m:List D->List D->Option (List D×D)):Prop:=∀{f:List Addr} {H:Hp} {a:Addr} {l g i:List D} {d:D} {j k:List V} {Q:VK},H a=some (.lst j)->bj M f H l j->bj M f H g k->m l g=some (i,d)→
 (∀h w,bj M f H i h->Rel M f H d w->Q w (upd H a (.lst h)))->r (.ref a) k H Q
def K0{m:List D->List D->Option (List D×D)}{r:V->List V->Hp->VK->Prop}{f:bx}{g:fU}(Y:JG (md X) r m):∀n H Q,tD (md X) (AR m f g) n H Q->Ke X.K "list" r (tD (md X) f) (xk (md X) g) n H Q:=λn H Q F=>by
 obtain⟨N,u,S,d,S',ok,e,q⟩:=F
 obtain⟨⟨x,C⟩,L,e⟩:=ar e
 cases x with
 | ref k=>
   dsimp only at e
   obtain⟨⟨G,M⟩,Z,e⟩:=ar e
   dsimp only at e
   split at e
   · rename_i I ds p l
     obtain⟨⟨es,d'⟩,e3,e⟩:=ar e
     obtain⟨rfl,rfl⟩:=cy e
     refine⟨N,u,S,_,C,ok,L,λo v H1 z i U=> ?_⟩
     cases U with
     | ref y=>
       rename_i a
       obtain⟨s,P,_⟩:=i.obj k a _ y p
       refine⟨.inl ⟨rfl,s,jg.of P⟩,o,u,C,G,M,ok.to z i,Z,λa1 us H2 A h W=> ?_⟩
       have j:=dq A.pre y
       obtain⟨vs,J,R⟩:=h.obj k a _ j l
       refine Y J R W e3 λws w rw rd=> ?_
       obtain⟨t,B⟩:=h.putL j l rw
       exact q _ _ _ ((z.trans A).trans B) t (rd.ext B)
   · cases e
 |_=>cases e
def mX:List D->List D->Option (List D×D):=λd f=>match f with
 | [y]=>if d.length<sizeLine then some (d++ [y],.non) else none
 |_=>none
def HF{M:Md}:JG M As mX:=by
 intro k H a o l m d j n Q h g f e q
 unfold mX at e
 split at e
 ·split at e
  ·rename_i hl
   obtain⟨rfl,rfl⟩:=cy e
   cases f with
   | cons f i=>
     cases i
     exact⟨a,j,_,rfl,rfl,h,by rw[←g.length];exact hl,q _ _ (g.append (.cons f .nil)) .non⟩
  ·cases e
 ·cases e
def w9{f:bx}{g:bx}{o:Expr}{h d:Pos}(n:PE X o (tD (md X) f))(m:PE X e (tD (md X) g))(j:attributeBase o "append" X.env (eval o X.env)=eval o X.env:=by rfl) (k:((backTo d (starEach [e] X.env)).all (λx=> !x.1)&&(backToKw d (keywordEach [] X.env)).all (λx=>x.1.isSome)
   &&decide ([e].length+([]:List Keyword).length+(if ([]:List Keyword).isEmpty then 0 else 1)<30))=true:=by rfl)
  (i:(h.endLine==d.line)=true:=by rfl) (l:starEach [e] X.env= [(false,eval e X.env)]:=by rfl):PE X (.Call (.Attribute o "append" h) [e] [] d) (tD (md X) (AR mX f (aq g av))):=
 kD (wL PySem.F.plainAttrs_list PySem.F.slot_list_append PySem.F.type_list_append pq n (az m aV l) j k i l) (K0 HF)
end
section
variable{X:Cx}{a b c e:Expr}{pos:Pos}{st:Stmt}
def xM(f:bx)(g:eN):bx:=λd S=>(f d S).bind λ(x,i)=>match x with
 | .ref k=>(g d i).bind λ(p,h)=>match i[k]?,h[k]? with
   |some (.lst _),some (.lst ds)=>if p.2.isM=true/\ds.length+p.1.length<=sizeLine then some (.non,h.set k (.lst (ds++p.1))) else none
   |_,_=>none
 |_=>none
def Ik{f:bx}{g:eN}:∀m H Q,tD (md X) (xM f g) m H Q->Ke X.K "list" Ab (tD (md X) f) (D2 (tQ (md X) g) GP) m H Q:=λm H Q C=>by
 obtain⟨N,s,S,d,S',ok,e,q⟩:=C
 obtain⟨⟨x,A⟩,J,e⟩:=ar e
 cases x with
 | ref k=>
   dsimp only at e
   obtain⟨⟨⟨F,t⟩,L⟩,Z,e⟩:=ar e
   dsimp only at e
   split at e
   · rename_i G ds o l
     split at e
     · rename_i c
       obtain⟨rfl,rfl⟩:=cy e
       refine⟨N,s,S,_,A,ok,J,λn v H1 y i Y=> ?_⟩
       cases Y with
       | ref w=>
         rename_i a
         obtain⟨p,P,_⟩:=i.obj k a _ w o
         refine⟨.inl ⟨rfl,p,jg.of P⟩,n,s,A,F,t,L,ok.to y i,Z,λa1 b I H2 z h U B=> ?_⟩
         have j:=dq z.pre w
         obtain⟨M,W,u⟩:=h.obj k a _ j l
         refine⟨a,b,M,I,rfl,rfl,W,U.sqM c.1,by rw[←u.length,←B.length];exact c.2,?_⟩
         obtain⟨r,R⟩:=h.putL j l (u.append B)
         exact q _ _ _ ((y.trans z).trans R) r .non
     · cases e
   · cases e
 |_=>cases e
def JL{f:bx}{g:eN}{o:Expr}{h d:Pos}(n:PE X o (tD (md X) f))(m:PE X e (tQ (md X) g))(j:attributeBase o "extend" X.env (eval o X.env)=eval o X.env:=by rfl) (k:((backTo d (starEach [e] X.env)).all (λx=> !x.1)&&(backToKw d (keywordEach [] X.env)).all (λx=>x.1.isSome)
   &&decide ([e].length+([]:List Keyword).length+(if ([]:List Keyword).isEmpty then 0 else 1)<30))=true:=by rfl)
  (i:(h.endLine==d.line)=true:=by rfl) (l:starEach [e] X.env= [(false,eval e X.env)]:=by rfl):PE X (.Call (.Attribute o "extend" h) [e] [] d) (tD (md X) (xM f g)):=
 kD (wL PySem.F.plainAttrs_list PySem.F.slot_list_extend PySem.F.type_list_extend Bf n (c_ m gy l) j k i l) Ik
def G0(f g:bx):lB:=λd h S=>(f h S).bind λ(x,m)=>(g h m).bind λ(y,l)=>match x,y with
 | .ref k,.int i=>match l[k]? with
   |some (.lst ds)=>(Ep ds.length i).bind λj=>some (h,l.set k (.lst (ds.set j d)))
   |_=>none
 |_,_=>none
def KS{f g:bx}:∀v n H Q,tG (md X) (G0 f g) v n H Q->JI (tD (md X) f) (tD (md X) g) F1 v n H Q:=λv n H Q G=>by
 obtain⟨L,t,S,d,N,S',ok,r,e,q⟩:=G
 obtain⟨⟨x,F⟩,I,e⟩:=ar e
 obtain⟨⟨y,J⟩,R,e⟩:=ar e
 cases x with
 | ref k=>
   cases y with
   | int i=>
     dsimp only at e
     split at e
     · rename_i Z C
       obtain⟨j,W,e⟩:=ar e
       obtain⟨rfl,rfl⟩:=cy e
       refine⟨L,t,S,_,F,ok,I,λo Y H1 z m p=>⟨o,t,F,_,J,ok.to z m,R,λU v2 H2 A h P=> ?_⟩⟩
       cases P
       have p:=p.ext A
       cases p with
       | ref w=>
         obtain⟨K,M,u⟩:=h.obj k _ _ w C
         have l:=z.trans A
         obtain⟨s,B⟩:=h.putL w C (bj.set (r.ext l) j u)
         exact⟨_,K,i,j,rfl,rfl,M,by rw[←u.length];exact W,q _ _ _ (l.trans B) ((ok.to l h).to B s)⟩
     · cases e
   |_=>cases e
 |_=>cases e
def LW{o i:Expr}{f g:bx}(h:PE X o (tD (md X) f))(hi:PE X i (tD (md X) g))
  (d:∀v,assign (.Subscript o i pos) X.env v=(do
   let ov←holding [v] (eval o X.env)
   let iv←holding [v,ov] (eval i X.env)
   standAt pos
   holding [v,ov,iv] (setItem ov iv v)
   release [v,ov,iv] []):=by intro _;rfl):PG X (.Subscript o i pos) (tG (md X) (G0 f g)):=Kt (Hg h hi set_list d) KS
def w_(i j:Nat)(f:fU):cY:=λd S=>(f d S).bind λ(h,g)=>match h with
 | [v,w]=>some (.nx ((d.set i (some v)).set j (some w)) g)
 |_=>none
def D6{i j:Nat}{f:fU}(h:PS X st (Iv i j (xk (md X) f))):PS X st (tS (md X) (w_ i j f)):=B_ h λD t H k=>by
 obtain⟨m,g,S,o,ok,e,q⟩:=k
 obtain⟨⟨w,n⟩,l,e⟩:=ar e
 dsimp only at e
 split at e
 ·cases e
  refine⟨m,g,S,_,n,ok,l,λs u v x st r=> ?_⟩
  cases r with
  | cons r d=>
    cases d with
    | cons p d=>
      cases d
      exact⟨_,_,rfl,q _ _ _ x ⟨((ok.en.ext x).set r).set p,st⟩⟩
 ·cases e
end
def dR(cells:List (Str×Addr)):List (Str×NameKind)->List (Str×Addr)->List (Str×Addr)
 | [],acc=>acc
 |(n,k)::r,acc=>if (k==.free)=true then dR cells r ((n,(cells.lookup n).getD 0)::acc) else dR cells r acc
theorem pe{env:Env}:∀(names:List (Str×NameKind)) (b:List (Str×Addr)),(∀y∈names,y.2=.free->(env.cells.lookup y.1).isSome=true)→
  (forIn names b λ(x:Str×NameKind) (f:List (Str×Addr))=>(do
   if (x.2==NameKind.free)=true then do
    let c←cellOf env x.1
    pure (ForInStep.yield ((x.1,c)::f))
   else pure (ForInStep.yield f):Sem (ForInStep (List (Str×Addr)))))=(pure (dR env.cells names b):Sem _)
 | [],b,_=>rfl
 | (n,k)::r,b,h=>by
   rw[List.forIn_cons]
   unfold dR
   by_cases c:(k==NameKind.free)=true
   · obtain⟨a,e⟩:=Option.isSome_iff_exists.mp (h (n,k) QBq (by simpa using c))
     simp only[c,if_true]
     have g:cellOf env n=pure a:=by
       unfold cellOf
       rw[e]
     rw[g,pure_bind,pure_bind,e]
     exact pe r _ λy d=>h y (Qpq _ d)
   · simp only[c,Bool.false_eq_true,if_false]
     rw[pure_bind]
     exact pe r _ λy d=>h y (Qpq _ d)
def CK{a:Scope}{env:Env}(h:∀y∈a.names,y.2=.free->(env.cells.lookup y.1).isSome=true):closureFor a env=pure (dR env.cells a.names []):=by
 unfold closureFor
 have:=pe a.names [] h
 rw[bind_pure]
 exact this
theorem su{cells:List (Str×Addr)}:∀(names:List (Str×NameKind)) (a:List (Str×Addr)) (p:Str×Addr),p∈dR cells names a->p∈a\/∃n,(n,NameKind.free)∈names/\p=(n,(cells.lookup n).getD 0)
 | [],a,p,h=>.inl h
 | (n,k)::r,a,p,h=>by
   unfold dR at h
   split at h
   · rename_i c
     rcases su r _ p h with h|⟨m,b,d⟩
     · rcases Qsq.mp h with h|h
       · exact .inr ⟨n,by rw[show k=NameKind.free by simpa using c];exact QBq,h⟩
       · exact .inl h
     · exact .inr ⟨m,Qpq _ b,d⟩
   · rcases su r _ p h with h|⟨m,b,d⟩
     · exact .inl h
     · exact .inr ⟨m,Qpq _ b,d⟩
theorem rV{cells:List (Str×Addr)}{x:Str}:∀(names:List (Str×NameKind)) (a:List (Str×Addr)),((x,NameKind.free)∈names\/∃c,(x,c)∈a)->∃c,(x,c)∈dR cells names a
 | [],a,h=>by
   rcases h with h|h
   · cases h
   · exact h
 | (n,k)::r,a,h=>by
   unfold dR
   split
   · rename_i c
     refine rV r _ ?_
     rcases h with h|⟨c,h⟩
     · rcases Qsq.mp h with h|h
       · cases h;exact .inr ⟨_,QBq⟩
       · exact .inl h
     · exact .inr ⟨c,Qpq _ h⟩
   · rename_i c
     refine rV r _ ?_
     rcases h with h|h
     · rcases Qsq.mp h with h|h
       · cases h;exact absurd rfl c
       · exact .inl h
     · exact .inr h
theorem lT{x:Str}{c:Addr}:∀{l:List (Str×Addr)},(x,c)∈l->∃a,l.lookup x=some a
 | [],h=>by cases h
 | (n,d)::r,h=>by
   unfold List.lookup
   by_cases e:(x==n)=true
   · rw[e];exact⟨d,rfl⟩
   · have b:(x==n)=false:=by simpa using e
     rw[b]
     rcases Qsq.mp h with h|h
     · cases h;simp at e
     · exact lT h
def sh(b:List Str)(a:Str->Option NameKind)(names:List (Str×NameKind)):List (Option Nat)->List Str->Bool
 |some j::js,x::N=>(b[j]? ==some x)&&(a x==some .cell||a x==some .free)&&(names.lookup x==some .free)&&sh b a names js N
 |none::js,_::N=>sh b a names js N
 |_,_=>true
theorem qM{b:List Str}{a:Str->Option NameKind}{names:List (Str×NameKind)}:∀{js:List (Option Nat)} {N:List Str} {k j:Nat} {x:Str},sh b a names js N=true->js[k]?=some (some j)->N[k]?=some x->b[j]?=some x/\(a x=some .cell\/a x=some .free)/\names.lookup x=some .free
 | some i::js,y::N,0,j,x,h,h1,h2=>by
   cases h1
   cases h2
   simp only[sh,QCq,Bool.or_eq_true,beq_iff_eq] at h
   exact⟨h.1.1.1,h.1.1.2,h.1.2⟩
 | some i::js,y::N,k+1,j,x,h,h1,h2=>by
   simp only[sh,QCq] at h
   exact qM h.2 (by simpa using h1) (by simpa using h2)
 |none::js,y::N,0,j,x,h,h1,h2=>by cases h1
 |none::js,y::N,k+1,j,x,h,h1,h2=>qM (k:=k) (by simpa [sh] using h) (by simpa using h1) (by simpa using h2)
 | [],N,k,j,x,h,h1,h2=>by simp at h1
 |some i::js,[],k,j,x,h,h1,h2=>by simp at h2
 |none::js,[],k,j,x,h,h1,h2=>by simp at h2
theorem nW{env:Env}{x:Str}:∀{names:List (Str×NameKind)},names.lookup x=some .free->(names.map λ(n,k)=>if (k==NameKind.free&&env.scope.kind==.function&&env.kindOf n==some .cell) then(n,NameKind.cell) else(n,k)).lookup x=some .cell∨
  (names.map λ(n,k)=>if (k==NameKind.free&&env.scope.kind==.function&&env.kindOf n==some .cell) then(n,NameKind.cell) else(n,k)).lookup x=some .free
 | [],h=>by cases h
 | (n,k)::r,h=>by
   unfold List.lookup at h
   rw[QDq]
   by_cases e:(x==n)=true
   · rw[e] at h
     cases h
     dsimp only
     split
     · left;unfold List.lookup;rw[e]
     · right;unfold List.lookup;rw[e]
   · have a:(x==n)=false:=by simpa using e
     rw[a] at h
     have b:=nW (env:=env) h
     dsimp only
     split <;>(unfold List.lookup;rw[a];exact b)
def aU.gen{X:Cx}{N:List Str}{js:List (Option Nat)}{d:Scope}(k:d.kind=.function)(o:d.names.all (λy=>y.2 !=.cell)=true)(u:d.names.all (λy=>y.2 !=.local||d.names.lookup y.1==some .local)=true)
  (p:d.names.all (λy=>y.2 !=.free||(X.env.cells.lookup y.1).isSome)=true) (r:sh X.N X.env.kindOf d.names js N=true) (w:js.length=N.length):aU X N js d (dR X.env.cells d.names []) where
 kind:=k
 nocell:=λy f=>by
  have:=QUq.mp o y f
  simpa using this
 names:=λy f e=>by
  have:=QUq.mp u y f
  rw[e] at this
  simpa using this
 clos:=CK λy f e=>by
  have:=QUq.mp p y f
  rw[e] at this
  simpa using this
 sub:=λx c h=>by
  rcases su _ _ _ (PySem.mem_of_lookup h) with h|⟨n,m,e⟩
  ·cases h
  ·cases e
   have:=QUq.mp p _ m
   have t:(X.env.cells.lookup x).isSome=true:=by simpa using this
   obtain⟨c,g⟩:=Option.isSome_iff_exists.mp t
   rw[g]
   rfl
 has:=λx h=>by
  have l:(x,NameKind.free)∈d.names:=by
   have:∃k,(relabel d X.env).names.lookup x=some k/\(k=.cell\/k=.free):=by
    rcases h with h|h
    ·exact⟨_,h,.inl rfl⟩
    ·exact⟨_,h,.inr rfl⟩
   obtain⟨B,s,g⟩:=this
   have q:=PySem.mem_of_lookup s
   unfold relabel at q
   obtain⟨⟨n,v⟩,f,i⟩:=Qkq.mp q
   dsimp only at i
   split at i
   ·rename_i c
    cases i
    simp only[QCq] at c
    have:v=NameKind.free:=by simpa using c.1.1
    rw[←this]
    exact f
   ·cases i
    rcases g with z|z
    ·have:=QUq.mp o _ f
     rw[z] at this
     simp at this
    ·rw[←z];exact f
  obtain⟨c,g⟩:=rV (cells:=X.env.cells) d.names [] (.inl l)
  exact lT g
 cap:=λk j x A m=>by
  obtain⟨a,b,c⟩:=qM r A m
  refine⟨a,b,?_⟩
  unfold relabel
  exact nW c
 len:=w
structure fg(P:Program)(w:World)(K:PySem.W.Frag)(mg:Str->Option Value)(base:Heap)(k:Nat)(x:Str)(ps:List Str)(F:dA):Prop where
 ex:∃f fd,bA P w K mg base dY k f fd ps (eK ⟨K,mg⟩ ps.length F)/\Binds K fd ps []/\PySem.W.keepIn K (.ref f)=true/\mg x=some (.ref f)
section
variable{X:Cx}{x:Str}{k n:Nat}{ps:List Str}{F:dA}{e:Expr}{es:List Expr}{g:fU}{p pos:Pos}
def IR(C:fg X.prog X.w X.K X.mg X.base k x ps F)(h:fH k X.A)(i:Gl X x)(c:PA X (e::es) (xk (md X) g))(j:nA ps.length g)
  (a:(x==("__debug__":Str))=false:=by decide) (he:starEach (e::es) X.env=(false,eval e X.env)::starEach es X.env:=by rfl) (hpl:(backTo pos (starEach es X.env)).any (·.1)=false:=by rfl):
  PE X (.Call (.Name x p) (e::es) [] pos) (tD (md X) (aA F g)):=by
 obtain⟨f,l,G,b,d,m⟩:=C.ex
 exact GA G h i m d b c j a he hpl
def IJ(C:fg X.prog X.w X.K X.mg X.base k x ps F)(h:fH k X.A)(i:Gl X x)(c:PA X (e::es) (xk (md X) g))(j:nA ps.length g)
  (a:(x==("__debug__":Str))=false:=by decide) (he:starEach (e::es) X.env=(false,eval e X.env)::starEach es X.env:=by rfl) (hpl:(backTo pos (starEach es X.env)).any (·.1)=false:=by rfl):
  PE X (.Call (.Name x p) (e::es) [] pos) (tL (md X) (eJ F g)):=by
 obtain⟨f,l,G,b,d,m⟩:=C.ex
 exact Hc G h i m d b c j a he hpl
end
def fg.mono{P:Program}{w:World}{K:PySem.W.Frag}{mg:Str->Option Value}{base:Heap}{j k:Nat}{x:Str}{ps:List Str}{F:dA}(C:fg P w K mg base j x ps F)(h:j<=k):fg P w K mg base k x ps F:=by
 obtain⟨f,a,G,b,c,m⟩:=C.ex
 exact⟨f,a,G.mono h,b,c,m⟩
structure Bl(mg:Str->Option Value):Prop where
 len:mg "len"=none
 tuple:mg "tuple"=none
 list:mg "list"=none
 dict:mg "dict"=none
 set:mg "set"=none
 int:mg "int"=none
 str:mg "str"=none
 bool:mg "bool"=none
 all:mg "all"=none
 any:mg "any"=none
 range:mg "range"=none
 zip:mg "zip"=none
 sorted:mg "sorted"=none
 isi:mg "isinstance"=none
 min:mg "min"=none
 max:mg "max"=none
 abs:mg "abs"=none
 enum:mg "enumerate"=none
open AutoSeq1 in
def mF(l:Addr)(items:Array Value)(n:Nat)(b:Addr)(a:Array Value)(m:Nat)(o:Option Addr)(k:Array (Option Value))(j:¬(!items.isEmpty&&Builtin.List.listTooLong (items.size+a.size))=true)(e:items.size<=sizeLine)(f:items.size+a.size<=sizeLine+1):
  Meets (Builtin.«list.extend» ⟨[.ref l,.ref b],[]⟩) (λ_ R s=>s.heap.get? l=some {cls:=.type "list",dict:=none,data:=.seq items n,slots:= #[]}/\s.heap.get? b=some {cls:=.type "tuple",dict:=o,data:=.seq a m,slots:=k}/\R (.ok (.ret Value.none)) {s with heap:=s.heap.update l (Obj.mapSeq λx=>x++a),toks:=s.toks}):=
 .of_wp λi w A R s h=>by
  obtain⟨u,g,d,y,v⟩:=s;obtain⟨hl,p,h⟩:=h;have B:=idx_int;have t:=AutoSeq1.sub_tuple_tuple;have q:=AutoSeq1.sub_list_list;have z:=AutoSeq1.sub_tuple_list;have r:=AutoSeq1.sub_list_tuple;
  have c:(items++a).size<=sizeLine+1:=by rw[Array.size_append];exact f
  wp_walk using (wpAny_updateSeq hl rfl (hz:=e) (_hz':=c)),AutoSeq1.wpAny_loadPart' hl,AutoSeq1.wpAny_loadPart' p;exact⟨_,rfl,h⟩
section
variable{X:Cx}{a b c e:Expr}{pos:Pos}{st:Stmt}
def Fp:KN X "list.extend" (λx vs H Q=>∃l b xs i,x=.ref l/\vs= [.ref b]/\H l=some (.lst xs)/\hG X.K H b i/\xs.length+i.length<=sizeLine/\Q .non (upd H l (.lst (xs++i)))):=by
 intro k s N H x vs v P Q I J t h
 obtain⟨l,b,xs,i,rfl,rfl,hH,hB,hz,q⟩:=h
 cases J
 obtain⟨u,rfl,ru⟩:=t.one
 cases ru
 obtain⟨z,f,n,r,hl,e⟩:=I.lstM hH
 obtain⟨d,p,⟨⟨L,B,A,w⟩,G,o,y,m⟩,C⟩:=I.tuple hB
 have M:=p.length
 simp only at o m
 subst o m
 have j:f.toArray.size+d.toArray.size<=sizeLine:=by rw[Qjq,Qjq];omega
 have g:¬(!f.toArray.isEmpty&&Builtin.List.listTooLong (f.toArray.size+d.toArray.size))=true:=by
  rw[sM j,Bool.and_false]
  exact Qtq
 refine call_meets F.slot_list_extend ⟨_,e,rfl⟩ F.entry_list_extend (F.args_list_extend_2 _ _)
  (mF l f.toArray n b d.toArray y B w g (by rw[Qjq];omega) (by omega)) ⟨e,G,?_⟩
 refine⟨.non,_,I.lset (its':=f++d) hH e (by simp) (r.append p) ?_,rfl,q⟩
 rw[lQa]
 omega
def tY(f:bx)(g:eN):bx:=λd S=>(f d S).bind λ(x,i)=>match x with
 | .ref k=>(g d i).bind λ(p,h)=>match i[k]?,h[k]? with
   |some (.lst _),some (.lst ds)=>if p.2.isL=false/\ds.length+p.1.length<=sizeLine then some (.non,h.set k (.lst (ds++p.1))) else none
   |_,_=>none
 |_=>none
def Gu{f:bx}{g:eN}:∀o H Q,tD (md X) (tY f g) o H Q->Ke X.K "list" (λx vs H Q=>∃l b xs n,x=.ref l/\vs= [.ref b]/\H l=some (.lst xs)/\hG X.K H b n/\xs.length+n.length<=sizeLine/\Q .non (upd H l (.lst (xs++n)))) (tD (md X) f) (D2 (tQ (md X) g) GP) o H Q:=λo H Q G=>by
 obtain⟨P,w,S,d,S',ok,e,q⟩:=G
 obtain⟨⟨x,C⟩,M,e⟩:=ar e
 cases x with
 | ref k=>
   dsimp only at e
   obtain⟨⟨⟨I,t⟩,N⟩,e2,e⟩:=ar e
   dsimp only at e
   split at e
   · rename_i J ds r m
     split at e
     · rename_i c
       obtain⟨rfl,rfl⟩:=cy e
       refine⟨P,w,S,_,C,ok,M,λp v H1 A h Z=> ?_⟩
       cases Z with
       | ref z=>
         rename_i a
         obtain⟨s,R,_⟩:=h.obj k a _ z r
         refine⟨.inl ⟨rfl,s,jg.of R⟩,p,w,C,I,t,N,ok.to A h,e2,λa1 b L H2 B i W F=> ?_⟩
         have j:=dq B.pre z
         obtain⟨vs,Y,y⟩:=i.obj k a _ j m
         refine⟨a,b,vs,L,rfl,rfl,Y,W.sqT c.1,by rw[←y.length,←F.length];exact c.2,?_⟩
         obtain⟨u,U⟩:=i.putL j m (y.append F)
         exact q _ _ _ ((A.trans B).trans U) u .non
     · cases e
   · cases e
 |_=>cases e
def Ib{f:bx}{g:eN}{o:Expr}{h d:Pos}(n:PE X o (tD (md X) f))(m:PE X e (tQ (md X) g))(j:attributeBase o "extend" X.env (eval o X.env)=eval o X.env:=by rfl) (k:((backTo d (starEach [e] X.env)).all (λx=> !x.1)&&(backToKw d (keywordEach [] X.env)).all (λx=>x.1.isSome)
   &&decide ([e].length+([]:List Keyword).length+(if ([]:List Keyword).isEmpty then 0 else 1)<30))=true:=by rfl)
  (i:(h.endLine==d.line)=true:=by rfl) (l:starEach [e] X.env= [(false,eval e X.env)]:=by rfl):PE X (.Call (.Attribute o "extend" h) [e] [] d) (tD (md X) (tY f g)):=
 kD (wL PySem.F.plainAttrs_list PySem.F.slot_list_extend PySem.F.type_list_extend Fp n (c_ m gy l) j k i l) Gu
def ox(x:V):List V->Option Nat
 | []=>none
 |y::r=>if lJ y x=true then some 0 else(ox x r).map (·+1)
theorem Aa{x:V}:∀{xs:List V} {j:Nat},ox x xs=some j->(∃y,xs[j]?=some y/\lJ y x=true)/\∀m y,m<j->xs[m]?=some y->lJ y x=false
 | [],_,h=>by cases h
 | y::r,j,h=>by
   unfold ox at h
   split at h
   · rename_i c
     cases h
     exact⟨⟨y,rfl,c⟩,λm _ f=>absurd f (Nat.not_lt_zero _)⟩
   · rename_i c
     obtain⟨i,n,rfl⟩:=oQm.mp h
     obtain⟨⟨z,g,k⟩,l⟩:=Aa n
     refine⟨⟨z,by simpa using g,k⟩,λm w f d=> ?_⟩
     cases m with
     |zero=>cases d;simpa using c
     |succ m=>exact l m w (by omega) (by simpa using d)
def CH:KU X "list.index" (λx vs H Q=>∃a xs y j,x=.ref a/\vs= [y]/\jg X.K H a xs/\gH y=true/\xs.all gH=true/\ox y xs=some j/\Q (.int (j:Nat)) H):=by
 intro C s σ H x vs v us Q I Z M h
 obtain⟨a,xs,y,j,rfl,rfl,hq,fy,fs,hj,q⟩:=h
 cases Z
 obtain⟨u,rfl,ru⟩:=M.one
 obtain⟨d,r,U,hz⟩:=I.list hq
 obtain⟨⟨a1,dd,P,N⟩,n,e,G,g,B⟩:=U
 simp only at G g B
 subst G g B
 obtain⟨⟨z,i,R⟩,S⟩:=Aa hj
 have hl:=r.length
 have L:j<xs.length:=(gQs.mp i).1
 obtain⟨w,l,t⟩:=r.get i
 have k:d.toArray[j]'(by rw[Qjq];omega)=w:=by
  have:=(gQs.mp l).2
  simpa using this
 have J:=mG
 refine call_meets PySem.F.slot_list_index ⟨_,e,rfl⟩ PySem.F.entry_list_index (PySem.F.args_list_index_2 _ _)
  (SeqAt.list_indexAt a d.toArray n none N u (yq y) j (by rw[Qjq];omega) (by omega) (by rw[k,uR t (QUq.mp fs z (mQg i))];exact R) λm hm o=> ?_)
  ⟨e,λw l=>i0 ru fy r fs w (by simpa using l),⟨.int j,H,I.tok _,⟨_,rfl⟩,q⟩⟩
 have f:m<xs.length:=by rw[Qjq] at hm;omega
 obtain⟨W,p,A⟩:=r.get (gQe f)
 have Y:d.toArray[m]=W:=by
  have:=(gQs.mp p).2
  simpa using this
 rw[Y,uR A (QUq.mp fs _ (List.getElem_mem f))]
 exact S m _ o (gQe f)
end
end DL
namespace Zq
open PySem
def It(t:Bool)(h:Heap)(i a:Addr)(k:Nat):Prop:=if t=true then h.IsTupleIter i a k else h.IsListIter i a k
def Sq(t:Bool)(h:Heap)(a:Addr)(xs:Array Value):Prop:=if t=true then h.IsTuple a xs else h.IsList a xs
section
variable{t t2:Bool}{h h':Heap}{i j a b z O T:Addr}{k:Nat}{xs ys:Array Value}
theorem It.at(g:It t h i a k)(f:∀o,h.get? i=some o->h'.get? i=some o):It t h' i a k:=by
 cases t with
 |true=>exact(show h.IsTupleIter i a k from g).at f
 |false=>exact(show h.IsListIter i a k from g).at f
def It.ext{c:Addr}(g:It t h i a k)(f:Heap.ExtBut c h h')(n:i≠c):It t h' i a k:=g.at λo e=>f i o n e
def Sq.at(g:Sq t h a xs)(f:∀o,h.get? a=some o->h'.get? a=some o):Sq t h' a xs:=by
 cases t with
 |true=>obtain⟨o,e,r⟩:=(show h.IsTuple a xs from g);exact(show h'.IsTuple a xs from⟨o,f o e,r⟩)
 |false=>obtain⟨o,e,r⟩:=(show h.IsList a xs from g);exact(show h'.IsList a xs from⟨o,f o e,r⟩)
def Sq.ext{c:Addr}(g:Sq t h a xs)(f:Heap.ExtBut c h h')(n:a≠c):Sq t h' a xs:=g.at λo e=>f a o n e
def It.obj(g:It t h i a k):∃o,h.get? i=some o/\∀v,o.data≠.cell v:=by
 cases t with
 |true=>obtain⟨o,e,_,d⟩:=(show h.IsTupleIter i a k from g);exact⟨o,e,λv n=>by rw[d] at n;cases n⟩
 |false=>obtain⟨o,e,_,d⟩:=(show h.IsListIter i a k from g);exact⟨o,e,λv n=>by rw[d] at n;cases n⟩
end
section
variable{prog:Program}{w:World}{A:Around}{E:Value->Shared->Prop}{s:Shared}{t t2:Bool}{z T O i j a b:Addr}{k:Nat}{xs ys:Array Value}{x y u v:Value}
def draw{Q:Value->Shared->Prop}(e:It t s.heap i a k)(c:Sq t s.heap a xs)(d:xs[k]?=some v)
  (q:∀h',It t h' i a (k+1)->Heap.SameBut i s.heap h'->Q v {s with heap:=h'}):wpAny (model prog w) A (Builtin.SmallTypes.nextOf (.ref i)) Q E s:=by
 cases t with
 |true=>exact Zp.JP e c d q
 |false=>exact wpAny_nextOf_list_item e c d q
def F2{Q:Value->Shared->Prop}(g:A.handled=none)(f:It t s.heap i a k)(c:Sq t s.heap a xs)(d:xs[k]?=none)
  (q:∀h' e,Heap.ExtBut i s.heap h'->(∃o,h'.get? e=some o/\o.cls=.type "StopIteration")->E (.ref e) {s with heap:=h'}):wpAny (model prog w) A (Builtin.SmallTypes.nextOf (.ref i)) Q E s:=by
 cases t with
 |true=>exact Zp.JS g f c d q
 |false=>exact wpAny_nextOf_list_end g f c d q
abbrev sT(h:Heap)(z T O:Addr)(c d:Value):Prop:=
 h.get? z=some {cls:=.type "zip",dict:=none,data:=.fields #[c,d,.bool false,.ref T,.ref O],slots:= #[]}
def item(D:ZipApart z T O i j a b){Q:Value->Shared->Prop}(n:sT s.heap z T O .none (.bool false))(gT:IsPair s.heap T (.ref i) (.ref j))(gO:IsPair s.heap O u v)(gi:It t s.heap i a k)(gj:It t2 s.heap j b k)
  (ga:Sq t s.heap a xs) (gb:Sq t2 s.heap b ys) (ex:xs[k]?=some x) (ey:ys[k]?=some y)
  (q:∀h',sT h' z T O (rawInt s.heap.objs.size) (.bool false)->IsPair h' O x y->It t h' i a (k+1)->It t2 h' j b (k+1)->IsPair h' s.heap.objs.size x y->Zp.Rest z O i j s.heap h'->Q (.ref s.heap.objs.size) {s with heap:=h'}):
  wpAny (model prog w) A (Builtin.«zip.__next__» ⟨[.ref z],[]⟩) (λN s'=>∃r,N=.done (.ret r)/\Q r s') E s:=by
 refine(?_:wpAny _ _ (field (.ref z) 2 >>= _) _ _ _)
 refine Qaq (QMq n rfl (x:=.bool false) rfl ?_)
 refine(?_:wpAny _ _ (field (.ref z) 3 >>= _) _ _ _)
 refine Qaq (QMq n rfl (x:=.ref T) rfl (Qaq (wpAny_seqItems gT rfl ?_)))
 refine(?_:wpAny _ _ (Builtin.SmallTypes.ownedTupleIsFree (.ref z) >>= _) _ _ _)
 refine Qaq ?_
 unfold Builtin.SmallTypes.ownedTupleIsFree
 refine Qaq (QMq n rfl (x:=.none) rfl (Qgq ?_))
 simp only[if_true]
 refine Qaq (wpAny_rule (Qaq (QMq n rfl (x:=.ref O) rfl (Qaq (wpAny_setField_rec n (by simp) λh1 L g=> ?_)))))
 replace L:sT h1 z T O .ellipsis (.bool false):=L
 refine Qaq ?_
 simp only[List.zipIdx_cons,List.zipIdx_nil,List.forIn_nil,List.forIn_cons]
 refine Qaq (Qaq (wpAny_onRaise ?_))
 refine(?_:wpAny _ _ (Builtin.SmallTypes.nextOf (.ref i) >>= _) _ _ _)
 refine Qaq (draw (gi.ext g.extBut D.i1z) (ga.ext g.extBut D.l1z) ex λh2 i2 h=>Qgq ?_)
 have U:IsPair h2 O u v:=h.extBut _ _ D.TOi1 (g.extBut _ _ D.TOz gO)
 refine Qaq (wpAny_seqItems U rfl (Qaq (wpAny_updateSeq_pair U λh3 K l=>Qaq (wpAny_letGo (Qgq ?_)))))
 replace K:IsPair h3 O x v:=K
 refine Qaq (Qaq (wpAny_onRaise ?_))
 refine(?_:wpAny _ _ (Builtin.SmallTypes.nextOf (.ref j) >>= _) _ _ _)
 refine Qaq (draw (((gj.ext g.extBut D.i2z).ext h.extBut D.i12.symm).ext l.extBut D.TOi2.symm) (((gb.ext g.extBut D.l2z).ext h.extBut D.l2i1).ext l.extBut D.l2TO) ey λh4 j4 m=>Qgq ?_)
 have W:IsPair h4 O x v:=m.extBut _ _ D.TOi2 K
 refine Qaq (wpAny_seqItems W rfl (Qaq (wpAny_updateSeq_pair W λd B p=>Qaq (wpAny_letGo (Qgq (Qgq ?_))))))
 replace B:IsPair d O x y:=B
 refine Qaq (wpAny_seqItems B rfl (Qaq (wpAny_newTuple ?_)))
 have P:d.objs.size=s.heap.objs.size:=by rw[p.1,m.1,l.1,h.1,g.1]
 have Y:sT d z T O .ellipsis (.bool false):=p.extBut _ _ D.TOz.symm (m.extBut _ _ D.i2z.symm (l.extBut _ _ D.TOz.symm (h.extBut _ _ D.i1z.symm L)))
 have r5:Zp.Rest z O i j s.heap d:=λc o f C M I e=>p.extBut _ _ C (m.extBut _ _ I (l.extBut _ _ C (h.extBut _ _ M (g.extBut _ _ f e))))
 have i5:It t d i a (k+1):=((i2.ext l.extBut D.TOi1.symm).ext m.extBut D.i12).ext p.extBut D.TOi1.symm
 have j5:It t2 d j b (k+1):=j4.ext p.extBut D.TOi2.symm
 have R:z<d.objs.size:=Qiq Y
 refine(?_:wpAny _ _ (Builtin.SmallTypes.ownedTupleHandOut (.ref z) (.ref d.objs.size) >>= _) _ _ _)
 refine Qaq ?_
 unfold Builtin.SmallTypes.ownedTupleHandOut
 have z6:sT (d.push {cls:=.type "tuple",data:=.seq #[x,y]}) z T O .ellipsis (.bool false):=Qcq _ Y
 refine Qaq (wpAny_setField_rec z6 (by simp) λh7 J Z=> ?_)
 replace J:sT h7 z T O (rawInt d.objs.size) (.bool false):=J
 refine wpAny_setField_rec J (by simp) λH G S=> ?_
 replace G:sT H z T O (rawInt d.objs.size) (.bool false):=G
 have F:∀c o,c≠z->d.get? c=some o->H.get? c=some o:=λc o f e=>S.extBut _ _ f (Z.extBut _ _ f (Qcq _ e))
 have X:IsPair H d.objs.size x y:=S.extBut _ _ (Nat.ne_of_gt R) (Z.extBut _ _ (Nat.ne_of_gt R) (Qrq _ rfl))
 rw[P] at G X
 refine Qgq ⟨_,rfl,?_⟩
 refine(?_:Q (.ref d.objs.size) _)
 rw[P]
 exact q H G (F _ _ D.TOz B) (i5.at λo e=>F _ o D.i1z e) (j5.at λo e=>F _ o D.i2z e) X λc o f C M I e=>F c o f (r5 c o f C M I e)
def alive{α:Addr}{Q:Option Obj->Shared->Prop}(h:Q (s.heap.get? α) s):wpAny (model prog w) A (loadIfAlive α) Q E s:=λ_ _ _=>h
def again(D:ZipApart z T O i j a b){p:Addr}{Z:Obj}{n:Value}{Q:Value->Shared->Prop}(l:sT s.heap z T O (rawInt p) n)(gp:s.heap.get? p=some Z)(N:IsPair s.heap T (.ref i) (.ref j))(X:It t s.heap i a k)(gj:It t2 s.heap j b k)
  (P:Sq t s.heap a xs) (R:Sq t2 s.heap b ys) (ex:xs[k]?=some x) (U:ys[k]?=some y)
  (q:∀h',sT h' z T O (rawInt p) (.bool true)->It t h' i a (k+1)->It t2 h' j b (k+1)->IsPair h' s.heap.objs.size x y->Zp.Rest z O i j s.heap h'->Q (.ref s.heap.objs.size) {s with heap:=h'}):
  wpAny (model prog w) A (Builtin.«zip.__next__» ⟨[.ref z],[]⟩) (λJ F=>∃r,J=.done (.ret r)/\Q r F) E s:=by
 refine(?_:wpAny _ _ (field (.ref z) 2 >>= _) _ _ _)
 refine Qaq (QMq l rfl (x:=.bool false) rfl ?_)
 refine(?_:wpAny _ _ (field (.ref z) 3 >>= _) _ _ _)
 refine Qaq (QMq l rfl (x:=.ref T) rfl (Qaq (wpAny_seqItems N rfl ?_)))
 refine(?_:wpAny _ _ (Builtin.SmallTypes.ownedTupleIsFree (.ref z) >>= _) _ _ _)
 refine Qaq ?_
 unfold Builtin.SmallTypes.ownedTupleIsFree
 refine Qaq (QMq l rfl (x:=rawInt p) rfl ?_)
 refine(?_:wpAny _ _ (loadIfAlive ((p:Int).toNat) >>= _) _ _ _)
 refine Qaq ?_
 rw[Int.toNat_natCast]
 refine alive ?_
 rw[gp]
 refine(?_:wpAny _ _ (field (.ref z) 1 >>= _) _ _ _)
 refine Qaq (QMq l rfl (x:=n) rfl ?_)
 have G:wpAny (model prog w) A (if (n !=Value.bool true)=true then(do let _←setField (.ref z) 1 (.bool true);pure false) else pure false)
   (λr F=>r=false/\∃g,F={s with heap:=g}/\sT g z T O (rawInt p) (.bool true)/\Heap.SameBut z s.heap g) E s:=by
  by_cases c:(n !=Value.bool true)=true
  ·rw[Qhq c]
   exact Qaq (wpAny_setField_rec l (by simp) λg I d=>Qgq ⟨rfl,g,rfl,I,d⟩)
  ·rw[Quq c]
   have e:n=Value.bool true:=by simpa using c
   subst e
   exact Qgq ⟨rfl,s.heap,rfl,l,Heap.SameBut.refl _ _⟩
 refine QRq G (λr F H=> ?_) λ_ _ h=>h
 obtain⟨rfl,g,rfl,I,d⟩:=H
 simp only[Bool.false_eq_true,if_false]
 refine Qaq ?_
 simp only[List.forIn_toArray,List.forIn_cons,List.forIn_nil]
 refine Qaq (Qaq (QLq ?_))
 refine(?_:wpAny _ _ (Builtin.SmallTypes.nextOf (.ref i) >>= _) _ _ _)
 refine Qaq (draw (X.ext d.extBut D.i1z) (P.ext d.extBut D.l1z) ex λh2 i2 m=>Qgq (Qgq ?_))
 refine Qaq (Qaq (QLq ?_))
 refine(?_:wpAny _ _ (Builtin.SmallTypes.nextOf (.ref j) >>= _) _ _ _)
 refine Qaq (draw ((gj.ext d.extBut D.i2z).ext m.extBut D.i12.symm) ((R.ext d.extBut D.l2z).ext m.extBut D.l2i1) U λf S B=>Qgq (Qgq (Qgq ?_)))
 refine Qaq (wpAny_newTuple ?_ (by show 2<=_;decide))
 have M:f.objs.size=s.heap.objs.size:=by rw[B.1,m.1,d.1]
 have C:∀c o,f.get? c=some o->(f.push {cls:=.type "tuple",data:=.seq #[x,y]}).get? c=some o:=λc o e=>Qcq _ e
 have K:IsPair (f.push {cls:=.type "tuple",data:=.seq #[x,y]}) f.objs.size x y:=Qrq _ rfl
 have z8:sT (f.push {cls:=.type "tuple",data:=.seq #[x,y]}) z T O (rawInt p) (.bool true):=C _ _ (B.extBut _ _ D.i2z.symm (m.extBut _ _ D.i1z.symm I))
 refine Qgq ⟨_,rfl,?_⟩
 refine(?_:Q (.ref f.objs.size) _)
 rw[M] at K⊢
 exact q _ z8 ((i2.ext B.extBut D.i12).at λo e=>C _ o e) (S.at λo e=>C _ o e) K λc o W c2 Y L e=>C c o (B.extBut _ _ L (m.extBut _ _ Y (d.extBut _ _ W e)))
def stop(D:ZipApart z T O i j a b){Q:Fin->Shared->Prop}(C:A.handled=none)(d:sT s.heap z T O .none (.bool false))(H:IsPair s.heap T (.ref i) (.ref j))(K:It t s.heap i a k)(I:Sq t s.heap a xs)(ex:xs[k]?=none)
  (q:∀h' e,Zp.Rest z O i j s.heap h'->(∃o,h'.get? e=some o/\o.cls=.type "StopIteration")->E (.ref e) {s with heap:=h'}):
  wpAny (model prog w) A (Builtin.«zip.__next__» ⟨[.ref z],[]⟩) Q E s:=by
 refine(?_:wpAny _ _ (field (.ref z) 2 >>= _) _ _ _)
 refine Qaq (QMq d rfl (x:=.bool false) rfl ?_)
 refine(?_:wpAny _ _ (field (.ref z) 3 >>= _) _ _ _)
 refine Qaq (QMq d rfl (x:=.ref T) rfl (Qaq (wpAny_seqItems H rfl ?_)))
 refine(?_:wpAny _ _ (Builtin.SmallTypes.ownedTupleIsFree (.ref z) >>= _) _ _ _)
 refine Qaq ?_
 unfold Builtin.SmallTypes.ownedTupleIsFree
 refine Qaq (QMq d rfl (x:=.none) rfl (Qgq ?_))
 simp only[if_true]
 refine Qaq (wpAny_rule (Qaq (QMq d rfl (x:=.ref O) rfl (Qaq (wpAny_setField_rec d (by simp) λG g h=> ?_)))))
 replace g:sT G z T O .ellipsis (.bool false):=g
 refine Qaq ?_
 simp only[List.zipIdx_cons,List.zipIdx_nil,List.forIn_nil,List.forIn_cons]
 refine Qaq (Qaq (wpAny_onRaise ?_))
 refine(?_:wpAny _ _ (Builtin.SmallTypes.nextOf (.ref i) >>= _) _ _ _)
 refine Qaq (F2 C (K.ext h.extBut D.i1z) (I.ext h.extBut D.l1z) ex λM e p F=> ?_)
 obtain⟨J,f,B⟩:=F
 have m:sT M z T O .ellipsis (.bool false):=p _ _ D.i1z.symm g
 have N:e≠z:=λn=>by rw[n,m] at f;cases f;simp at B
 exact wpAny_setField_rec m (by simp) λP _ r=>q P e (λc o l _ L _ n=>r.extBut _ _ l (p _ _ L (h.extBut _ _ l n))) ⟨J,r.extBut _ _ N f,B⟩
def JQ(D:ZipApart z T O i j a b){p:Addr}{R:Obj}{l:Value}{Q:Fin->Shared->Prop}(G:A.handled=none)(f:sT s.heap z T O (rawInt p) l)(S:s.heap.get? p=some R)(H:IsPair s.heap T (.ref i) (.ref j))(M:It t s.heap i a k)(I:Sq t s.heap a xs)(ex:xs[k]?=none)
  (q:∀h' e,Zp.Rest z O i j s.heap h'->(∃o,h'.get? e=some o/\o.cls=.type "StopIteration")->E (.ref e) {s with heap:=h'}):
  wpAny (model prog w) A (Builtin.«zip.__next__» ⟨[.ref z],[]⟩) Q E s:=by
 refine(?_:wpAny _ _ (field (.ref z) 2 >>= _) _ _ _)
 refine Qaq (QMq f rfl (x:=.bool false) rfl ?_)
 refine(?_:wpAny _ _ (field (.ref z) 3 >>= _) _ _ _)
 refine Qaq (QMq f rfl (x:=.ref T) rfl (Qaq (wpAny_seqItems H rfl ?_)))
 refine(?_:wpAny _ _ (Builtin.SmallTypes.ownedTupleIsFree (.ref z) >>= _) _ _ _)
 refine Qaq ?_
 unfold Builtin.SmallTypes.ownedTupleIsFree
 refine Qaq (QMq f rfl (x:=rawInt p) rfl ?_)
 refine(?_:wpAny _ _ (loadIfAlive ((p:Int).toNat) >>= _) _ _ _)
 refine Qaq ?_
 rw[Int.toNat_natCast]
 refine alive ?_
 rw[S]
 refine(?_:wpAny _ _ (field (.ref z) 1 >>= _) _ _ _)
 refine Qaq (QMq f rfl (x:=l) rfl ?_)
 have m:wpAny (model prog w) A (if (l !=Value.bool true)=true then(do let _←setField (.ref z) 1 (.bool true);pure false) else pure false)
   (λr C=>r=false/\∃d,C={s with heap:=d}/\sT d z T O (rawInt p) (.bool true)/\Heap.SameBut z s.heap d) E s:=by
  by_cases c:(l !=Value.bool true)=true
  ·rw[Qhq c]
   exact Qaq (wpAny_setField_rec f (by simp) λd F g=>Qgq ⟨rfl,d,rfl,F,g⟩)
  ·rw[Quq c]
   have e:l=Value.bool true:=by simpa using c
   subst e
   exact Qgq ⟨rfl,s.heap,rfl,f,Heap.SameBut.refl _ _⟩
 refine QRq m (λr C B=> ?_) λ_ _ h=>h
 obtain⟨rfl,d,rfl,F,g⟩:=B
 simp only[Bool.false_eq_true,if_false]
 refine Qaq ?_
 simp only[List.forIn_toArray,List.forIn_cons,List.forIn_nil]
 refine Qaq (Qaq (QLq ?_))
 refine(?_:wpAny _ _ (Builtin.SmallTypes.nextOf (.ref i) >>= _) _ _ _)
 refine Qaq (F2 G (M.ext g.extBut D.i1z) (I.ext g.extBut D.l1z) ex λP e L J=> ?_)
 exact q P e (λc o K _ N _ n=>L _ _ N (g.extBut _ _ K n)) J
def Zs(h:Heap)(z T O i j:Addr):Prop:=sT h z T O .none (.bool false)/\(∃u v,IsPair h O u v)\/∃(p:Addr) (c:Obj) (d:Value),sT h z T O (rawInt (p:Nat)) d/\h.get? p=some c/\p≠z/\p≠O/\p≠i/\p≠j
def Zs.but{h h':Heap}{S:Addr}(g:Zs h z T O i j)(f:∀c o,c≠S->h.get? c=some o->h'.get? c=some o)(e:z≠S)(m:O≠S)(r:∃o,h'.get? S=some o):Zs h' z T O i j:=by
 rcases g with⟨d,u,v,F⟩|⟨p,B,l,d,q,n⟩
 ·exact .inl ⟨f _ _ e d,u,v,f _ _ m F⟩
 ·by_cases c:p=S
  ·subst c
   obtain⟨o,C⟩:=r
   exact .inr ⟨p,o,l,f _ _ e d,C,n⟩
  ·exact .inr ⟨p,B,l,f _ _ e d,f _ _ c q,n⟩
def CJ(D:ZipApart z T O i j a b){Q:Option Value->Shared->Prop}(d:Zs s.heap z T O i j)(G:IsPair s.heap T (.ref i) (.ref j))(r:It t s.heap i a k)(B:It t2 s.heap j b k)
  (H:Sq t s.heap a xs) (I:Sq t2 s.heap b ys) (ex:xs[k]?=some x) (J:ys[k]?=some y)
  (q:∀h',Zs h' z T O i j->It t h' i a (k+1)->It t2 h' j b (k+1)->IsPair h' s.heap.objs.size x y->Zp.Rest z O i j s.heap h'->Q (some (.ref s.heap.objs.size)) {s with heap:=h'}):
  wpAny (model prog w) A (pyNext (.ref z)) Q E s:=by
 unfold pyNext
 have g:∀{c o},s.heap.get? c=some o->s.heap.objs.size≠c:=λe=>Nat.ne_of_gt (Qiq e)
 obtain⟨Z,U,_⟩:=r.obj
 obtain⟨Y,S,_⟩:=B.obj
 rcases d with⟨d,u,v,R⟩|⟨p,W,f1,d,K,M,N,L,P⟩
 ·have f:s.TypeIs (.ref z) "zip":=⟨_,d,rfl⟩
  exact Qaq (wpAny_attempt (QiQ (name:=Str.ofString "__next__") f F.slot_zip_next (wpAny_call_entry F.slot_zip_next f F.entry_zip_next
   (item D d G R r B H I ex J λh' m X n C l h=>Qgq (q h' (.inr ⟨_,_,_,m,l,g d,g R,g U,g S⟩) n C l h)) (F.args_zip_next_1 _))))
 ·have f:s.TypeIs (.ref z) "zip":=⟨_,d,rfl⟩
  exact Qaq (wpAny_attempt (QiQ (name:=Str.ofString "__next__") f F.slot_zip_next (wpAny_call_entry F.slot_zip_next f F.entry_zip_next
   (again D d K G r B H I ex J λh' m n C l h=>Qgq (q h' (.inr ⟨p,W,_,m,h _ _ M N L P K,M,N,L,P⟩) n C l h)) (F.args_zip_next_1 _))))
def xD(D:ZipApart z T O i j a b){Q:Option Value->Shared->Prop}(h:A.handled=none)(c:Zs s.heap z T O i j)(l:IsPair s.heap T (.ref i) (.ref j))(n:It t s.heap i a k)(m:Sq t s.heap a xs)(ex:xs[k]?=none)
  (q:∀h',Zp.Rest z O i j s.heap h'->Q none {s with heap:=h'}):wpAny (model prog w) A (pyNext (.ref z)) Q E s:=by
 unfold pyNext
 rcases c with⟨c,u,v,H⟩|⟨p,C,G,c,B,_⟩
 ·have d:s.TypeIs (.ref z) "zip":=⟨_,c,rfl⟩
  exact Qaq (wpAny_attempt (QiQ (name:=Str.ofString "__next__") d F.slot_zip_next (wpAny_call_entry F.slot_zip_next d F.entry_zip_next
   (stop D h c l n m ex λh' e r ⟨o,g,f⟩=>Qaq (wpAny_isInstance (T:="StopIteration") (b:=true) ⟨o,g,f⟩ isSubtype_stop (Qgq (q _ r)))) (F.args_zip_next_1 _))))
 ·have d:s.TypeIs (.ref z) "zip":=⟨_,c,rfl⟩
  exact Qaq (wpAny_attempt (QiQ (name:=Str.ofString "__next__") d F.slot_zip_next (wpAny_call_entry F.slot_zip_next d F.entry_zip_next
   (JQ D h c B l n m ex λh' e r ⟨o,g,f⟩=>Qaq (wpAny_isInstance (T:="StopIteration") (b:=true) ⟨o,g,f⟩ isSubtype_stop (Qgq (q _ r)))) (F.args_zip_next_1 _))))
end
def K7(t:Bool):String:=if t=true then "tuple_iterator" else "list_iterator"
abbrev H1(t:Bool)(h:Heap)(a:Addr):Heap:=h.push {cls:=.type (K7 t),data:=.fields #[.ref a,.int 0 0]}
abbrev H2(t t2:Bool)(h:Heap)(a b:Addr):Heap:=(H1 t h a).push {cls:=.type (K7 t2),data:=.fields #[.ref b,.int 0 0]}
abbrev H3(t t2:Bool)(h:Heap)(a b:Addr):Heap:=(H2 t t2 h a b).push {cls:=.type "tuple",data:=.seq #[.ref h.objs.size,.ref (H1 t h a).objs.size]}
abbrev H4(t t2:Bool)(h:Heap)(a b:Addr):Heap:=(H3 t t2 h a b).push {cls:=.type "tuple",data:=.seq #[.none,.none]}
abbrev H5(t t2:Bool)(h:Heap)(a b:Addr):Heap:=(H4 t t2 h a b).push {cls:=.type "zip",data:=.fields #[.none,.bool false,.bool false,.ref (H2 t t2 h a b).objs.size,.ref (H3 t t2 h a b).objs.size]}
def Sq.push{t:Bool}{h:Heap}{a:Addr}{xs:Array Value}(g:Sq t h a xs)(o:Obj):Sq t (h.push o) a xs:=g.at λ_ e=>Qcq _ e
def BA(t t2:Bool)(a b:Addr)(xs ys:Array Value):Meets (Builtin.«zip.__new__» ⟨[.type "zip",.ref a,.ref b],[]⟩) (λ_ R s=>Sq t s.heap a xs/\Sq t2 s.heap b ys/\R (.ok (.ret (.ref (H4 t t2 s.heap a b).objs.size))) {s with heap:=H5 t t2 s.heap a b}):=
 .of_wp λm w A R s h=>by
  obtain⟨e,g,d,i,f⟩:=s
  obtain⟨l,n,h⟩:=h
  have o:=sub_zip
  have c:=n.push {cls:=.type (K7 t),data:=.fields #[.ref a,.int 0 0]}
  cases t <;>cases t2
  ·have j:Heap.IsList (Shared.heap ⟨e,g,d,i,f⟩) a xs:=l
   have k:Heap.IsList (Shared.heap ⟨e.push {cls:=.type "list_iterator",data:=.fields #[.ref a,.int 0 0]},g,d,i,f⟩) b ys:=c
   wp_walk using wpAny_pyIter_list j,wpAny_pyIter_list k
   exact⟨_,rfl,h⟩
  ·have j:Heap.IsList (Shared.heap ⟨e,g,d,i,f⟩) a xs:=l
   have k:Heap.IsTuple (Shared.heap ⟨e.push {cls:=.type "list_iterator",data:=.fields #[.ref a,.int 0 0]},g,d,i,f⟩) b ys:=c
   wp_walk using wpAny_pyIter_list j,wpAny_pyIter_tuple k
   exact⟨_,rfl,h⟩
  ·have j:Heap.IsTuple (Shared.heap ⟨e,g,d,i,f⟩) a xs:=l
   have k:Heap.IsList (Shared.heap ⟨e.push {cls:=.type "tuple_iterator",data:=.fields #[.ref a,.int 0 0]},g,d,i,f⟩) b ys:=c
   wp_walk using wpAny_pyIter_tuple j,wpAny_pyIter_list k
   exact⟨_,rfl,h⟩
  ·have j:Heap.IsTuple (Shared.heap ⟨e,g,d,i,f⟩) a xs:=l
   have k:Heap.IsTuple (Shared.heap ⟨e.push {cls:=.type "tuple_iterator",data:=.fields #[.ref a,.int 0 0]},g,d,i,f⟩) b ys:=c
   wp_walk using wpAny_pyIter_tuple j,wpAny_pyIter_tuple k
   exact⟨_,rfl,h⟩
section
variable{prog:Program}{w:World}{A:Around}{E:Value->Shared->Prop}{s:Shared}
def Gn{t t2:Bool}{a b:Addr}{xs ys:Array Value}{Q:Value->Shared->Prop}(m:Sq t s.heap a xs)(p:Sq t2 s.heap b ys)
  (q:∀h',sT h' (s.heap.objs.size+4) (s.heap.objs.size+2) (s.heap.objs.size+3) .none (.bool false)->IsPair h' (s.heap.objs.size+2) (.ref s.heap.objs.size) (.ref (s.heap.objs.size+1))->IsPair h' (s.heap.objs.size+3) .none .none→
   It t h' s.heap.objs.size a 0->It t2 h' (s.heap.objs.size+1) b 0->(∀c o,s.heap.get? c=some o->h'.get? c=some o)->Q (.ref (s.heap.objs.size+4)) {s with heap:=h'}):
  wpAny (model prog w) A (call (.type "zip") [.ref a,.ref b]) Q E s:=by
 refine callType_new F.called_zip (by decide) (F.typeCall_zip_2 _ _) (F.newCall_zip_2 _ _) (λf=>F.args_object_init_3 f _ _) F.entry_zip_new (BA t t2 a b xs ys) ⟨m,p,?_⟩
 have e:(H1 t s.heap a).objs.size=s.heap.objs.size+1:=Heap.size_push ..
 have g:(H2 t t2 s.heap a b).objs.size=s.heap.objs.size+2:=by rw[Heap.size_push,e]
 have h:(H3 t t2 s.heap a b).objs.size=s.heap.objs.size+3:=by rw[Heap.size_push,g]
 have l:(H4 t t2 s.heap a b).objs.size=s.heap.objs.size+4:=by rw[Heap.size_push,h]
 have d:(H5 t t2 s.heap a b).get? (H4 t t2 s.heap a b).objs.size=some _:=Qrq _ rfl
 have k:(H5 t t2 s.heap a b).get? (H3 t t2 s.heap a b).objs.size=some _:=Qcq _ (Qrq _ rfl)
 have i:(H5 t t2 s.heap a b).get? (H2 t t2 s.heap a b).objs.size=some _:=Qcq _ (Qcq _ (Qrq _ rfl))
 have j:(H5 t t2 s.heap a b).get? (H1 t s.heap a).objs.size=some _:=Qcq _ (Qcq _ (Qcq _ (Qrq _ rfl)))
 have r:(H5 t t2 s.heap a b).get? s.heap.objs.size=some _:=Qcq _ (Qcq _ (Qcq _ (Qcq _ (Qrq _ rfl))))
 refine(?_:_/\_)
 rw[g,h,l] at d
 rw[e,g] at i
 rw[h] at k
 rw[e] at j
 rw[l]
 refine⟨⟨_,d,rfl⟩,q _ d i k ?_ ?_ λc o n=>Qcq _ (Qcq _ (Qcq _ (Qcq _ (Qcq _ n))))⟩
 ·cases t <;>exact⟨_,r,rfl,rfl⟩
 ·cases t2 <;>exact⟨_,j,rfl,rfl⟩
end
def oz:typeLookup (.type "zip") "__getattr__"=pure none:=by rw[typeLookup_type,builtinLookup_eq_fast];kernel_rfl
def jD:entryFor table "zip.__getattribute__"=some Builtin.«object.__getattribute__»:=
 entryFor_alias (id':="object.__getattribute__") (by kernel_rfl) (by decide +kernel) (by decide +kernel) (by kernel_rfl)
def p5:typeLookup (Value.type "zip") (Str.ofString "keys")=pure none:=by
 rw[typeLookup_type,builtinLookup_eq_fast]
 rfl
def sJ(a:Addr)(fs:Array Value)(name:Str)(u:Tok)(e:typeLookup (.type "zip") name=pure none)(b:(["__module__","__name__","__qualname__","__doc__","__annotations__"]:List Str).contains name=false)(hsz:name.length+100<=sizeLine:=by size_fits):
  Meets (Builtin.«object.__getattribute__» ⟨[.ref a,.str name u],[]⟩) (λA R s=>s.heap.get? a=some {cls:=.type "zip",dict:=none,data:=.fields fs,slots:= #[]}/\raisesAttr (.ref a) name A R s):=
 Meets.of_wp λf w A R s c=>by
  obtain⟨i,g,d,k,j⟩:=s
  obtain⟨h,c⟩:=c
  have l:(⟨i,g,d,k,j⟩:Shared).TypeIs (.ref a) "zip":=⟨_,h,rfl⟩
  unfold Builtin.«object.__getattribute__»
  repeat (any_goals (first|assumption|wp_step))
  simp only[b,Bool.false_eq_true,if_false]
  repeat (any_goals (first|assumption|wp_step))
  exact wpAny_raiseAttrError c.1 c.2 (attrMsg_fits (by decide +kernel) hsz)
def Bu{prog:Program}{w:World}{A:Around}{E:Value->Shared->Prop}{s:Shared}{a:Addr}{fs:Array Value}{Q:Option Value->Shared->Prop}
  (j:s.heap.get? a=some {cls:=.type "zip",dict:=none,data:=.fields fs,slots:= #[]}) (n:A.handled=none)
  (h:∀(h':Heap) (i:Nat),(∀b o,s.heap.get? b=some o->h'.get? b=some o)->Q none {s with heap:=h',toks:=i}):
  wpAny (model prog w) A (getAttr? (.ref a) (Str.ofString "keys")) Q E s:=by
 obtain⟨u,g,d,i,k⟩:=s
 have t:∀x,Shared.TypeIs ⟨u,g,d,x,k⟩ (.ref a) "zip":=λx=>⟨_,j,rfl⟩
 have m:=sub_AttributeError
 have p:=F.slot_zip_getattribute.lookup
 have v:=F.slot_zip_getattribute.bind (Value.ref a)
 have q:=oz
 unfold getAttr? mkText getAttrBy? getAttrBy
 refine Qaq (Qaq (wpAny_fresh' (Qgq (Qaq (wpAny_attempt (QLq ?_))))))
 unfold typeOf
 refine Qaq (Qaq (wpAny_loadPart' j (Qgq (Qaq (wpAny_of_eq p (QgQ rfl ?_))))))
 unfold getAttrByItsOwn hookBefore
 refine Qaq (QgQ rfl (Qgq (Qaq (wpAny_attempt (QLq ?_)))))
 unfold callGetattribute
 refine QgQ rfl ?_
 unfold boundAndCalled
 refine Qaq (wpAny_of_eq v ?_)
 refine call_meets F.slot_zip_getattribute (t (i+1)) jD (F.args_zip_getattribute_2 (Value.ref a) _) (sJ a fs (Str.ofString "keys") i p5 (by decide +kernel) (by decide +kernel)) ⟨j,n,λh' c e f=> ?_⟩
 obtain⟨y,z,r⟩:=f.there
 have l:Shared.TypeIs ⟨h',g,d,c,k⟩ (.ref e) "AttributeError":=⟨_,r,rfl⟩
 show wpAny _ _ (getattributeRaised _ _ _ _ _ _ _) _ _ _
 unfold getattributeRaised
 refine Qaq (wpAny_isInstance l m (wpAny_ite_true rfl ?_))
 unfold hookBehind hookOrError
 refine Qaq (QgQ rfl (wpAny_of_eq q ?_))
 show wpAny _ _ (attributeErrorLeaves _ _ _ _ _) _ _ _
 unfold attributeErrorLeaves
 refine wpAny_ite_true rfl (wpAny_throw ?_)
 exact Qaq (wpAny_isInstance l m (wpAny_ite_true rfl (Qgq (h h' c f.keeps))))
def tK{prog:Program}{w:World}{A:Around}{E:Value->Shared->Prop}{s:Shared}{z:Addr}{fs:Array Value}{Q:Value->Shared->Prop}
  (j:s.heap.get? z=some {cls:=.type "zip",dict:=none,data:=.fields fs,slots:= #[]}) (g:A.handled=none)
  (h:∀(h':Heap) (d:Nat),(∀b o,(s.heap.push {cls:=.type "dict",data:=.dict #[]}).get? b=some o->h'.get? b=some o)→
   wpAny (model prog w) A.in1.in1 (pyIter (.ref z)) (λit f=>codeAny (model prog w) A.in1 (.builtin "dict.update.loop" {pos:= [.ref s.heap.objs.size,it,rawInt 0,.none]}) (wants (λr a=>r=.none/\Q (.ref s.heap.objs.size) a) E) f) E {s with heap:=h',toks:=d}):
  wpAny (model prog w) A (call (.type "dict") [.ref z]) Q E s:=by
 refine Dk.xo ?_
 have l:=Qrq s.heap (o:={cls:=.type "dict",data:=.dict #[]}) rfl
 have m:Shared.TypeIs {s with heap:=s.heap.push {cls:=.type "dict",data:=.dict #[]}} (.ref s.heap.objs.size) "dict":=⟨_,l,rfl⟩
 have c:=Qcq {cls:=.type "dict",data:=.dict #[]} j
 have i:Shared.TypeIs {s with heap:=s.heap.push {cls:=.type "dict",data:=.dict #[]}} (.ref z) "zip":=⟨_,c,rfl⟩
 unfold Builtin.«dict.__init__» Builtin.Dict.selfAndRest
 refine Qaq (Qaq (wpAny_notOrdered_dict m ?_))
 refine Qaq (Qgq (Qgq ?_))
 show wpAny _ _ (Builtin.Dict.updateFrom _ _ _ _ _) _ _ _
 unfold Builtin.Dict.updateFrom
 refine Qaq (wpAny_typeOf i (wpAny_ite_true (by decide +kernel) (Qaq (Bu c (by simpa using g) λh' d k=> ?_))))
 refine wpAny_ite_true rfl ?_
 refine Qaq (wpAny_rule (Qaq (QRq (h h' d k) (λit f q=> ?_) λe f q=>q)))
 exact Qgq ⟨plainId_quiet (by decide +kernel) _,q⟩
end Zq
namespace Zq
open PySem Dk
section
variable{prog:Program}{w:World}{K:Type}[DecidableEq K]{knd:KeyKind prog w K}{z T O i j a b S:Addr}{t t2:Bool}{xs ys:Array Value}
def yF{A:Around}{R:Result->Shared->Prop}(hA:A.in1.handled=none)(D:ZipApart z T O i j a b)(nS:S≠z/\S≠T/\S≠O/\S≠i/\S≠j/\S≠a/\S≠b)(a4:a≠T/\b≠T)(f:Nat->K)(q:∀(n:Nat) v,xs[n]?=some v->knd.is (f n) v=true)(a5:xs.size<=ys.size)(hn:xs.size<=sizeLine):
  ∀ (m n:Nat) (c:Int) (s:Shared),xs.size-n=m->n<=xs.size->Zs s.heap z T O i j->IsPair s.heap T (.ref i) (.ref j)->It t s.heap i a n->It t2 s.heap j b n->Sq t s.heap a xs->Sq t2 s.heap b ys->Heap.DictOf knd s.heap S (GJ f (λn=>ys.getD n .none) n)→
    (∀h' tk,Heap.DictOf knd h' S (GJ f (λn=>ys.getD n .none) xs.size)->(∀c o,c≠z->c≠O->c≠i->c≠j->c≠S->s.heap.get? c=some o->h'.get? c=some o)->R (.ok (.ret .none)) {s with heap:=h',toks:=tk})→
    codeAny (model prog w) A (.builtin "dict.update.loop" {pos:= [.ref S,.ref z,rawInt c,.none]}) R s:=by
 obtain⟨L,n2,n3,n4,J,n6,n7⟩:=nS
 intro m
 induction m with
 | zero=>
   intro n c s hm N U y Y gj B M H h
   have e:n=xs.size:=by omega
   subst e
   refine codeAny_builtin j9 ?_
   rw[Around.under_plainId gC]
   show wpAny _ _ (do let __x←pyNext (.ref z);_) _ _ _
   refine Qaq (xD D hA U y Y B (by simp) λh' r=> ?_)
   refine Qaq (Qgq (Qgq (h h' s.toks ?_ λc o l k p g _ e=>r c o l k p g e)))
   obtain⟨o,P,ep,I,h2⟩:=H
   exact⟨o,P,ep,r _ _ L n3 n4 J I,h2⟩
 | succ m ih=>
   intro n c s hm N U y Y gj B M H h
   have u:n<xs.size:=by omega
   have ex:xs[n]?=some xs[n]:=by simp[u]
   have ey:ys[n]?=some ys[n]:=by simp[show n<ys.size by omega]
   refine codeAny_builtin j9 ?_
   rw[Around.under_plainId gC]
   show wpAny _ _ (do let __x←pyNext (.ref z);_) _ _ _
   refine Qaq (CJ D U y Y gj B M ex ey λhp Z a3 G gp r=> ?_)
   have a2:Heap.DictOf knd hp S (GJ f (λn=>ys.getD n .none) n):=by
     obtain⟨o,P,ep,I,h2⟩:=H
     exact⟨o,P,ep,r _ _ L n3 n4 J I,h2⟩
   refine Qaq (QLq (Qaq (wpAny_tryCatch ?_)))
   unfold Builtin.Dict.pairItems
   refine Qaq (wpAny_typeOf (T:="tuple") ⟨_,gp,rfl⟩ (wpAny_ite_true rfl (Qaq ?_)))
   unfold seqItems?
   refine Qaq (wpAny_load' gp (Qgq (Qgq (QLq (wpAny_dictSet_pairs (q n _ ex) a2 (λh' x hs=> ?_) (QAq (Aq f _ n) (by omega)))))))
   have ev:ys.getD n .none=ys[n]:=by simp[Array.getD,show n<ys.size by omega]
   have F:∀c o,c≠S->hp.get? c=some o->h'.get? c=some o:=λc o hc e=>by rw[hs.2 c hc];exact e
   have d:∀c o,c≠z->c≠O->c≠i->c≠j->c≠S->s.heap.get? c=some o->h'.get? c=some o:=λc o l k p g C e=>F c o C (r c o l k p g e)
   have X:∃o,h'.get? S=some o:=by obtain⟨o,_,_,e,_⟩:=x;exact⟨o,e⟩
   have Q:Heap.DictOf knd h' S (GJ f (λn=>ys.getD n .none) (n+1)):=by
     show Heap.DictOf knd h' S (stored _ (f n) (ys.getD n .none))
     rw[ev]
     exact x
   refine Qgq ⟨plainId_quiet gC _,ih (n+1) (c+1) _ (by omega) u (Z.but F L.symm n3.symm X) ?_ (a3.at λo e=>F _ o n4.symm e) (G.at λo e=>F _ o J.symm e) ?_ ?_ Q λW tk a1 k4=>h W tk a1 λc o l k p g C e=>k4 c o l k p g C (d c o l k p g C e)⟩
   · exact d _ _ D.TIz D.TITO D.TIi1 D.TIi2 n2.symm y
   · exact B.at λo e=>d _ o D.l1z D.l1TO D.l1i1 D.l1i2 n6.symm e
   · exact M.at λo e=>d _ o D.l2z D.l2TO D.l2i1 D.l2i2 n7.symm e
end
end Zq
namespace L2
open PySem PySem.Spec PyProof.Rows Zq
section
variable{X:Cx}
def AY(K:PySem.W.Frag)(t:Bool)(H:Hp)(a:Addr)(xs:List V):Prop:=if t=true then hG K H a xs else jg K H a xs
def Inv.sq{c:List (Addr×Obj)}{d:St}{H:Hp}{s:Shared}{t:Bool}{a:Addr}{xs:List V}(I:Inv X c d H s)(h:AY X.K t H a xs):∃b:List Value,bI xs b/\Sq t s.heap a b.toArray/\xs.length<=sizeLine:=by
 cases t with
 | true=>
   obtain⟨b,r,p,z⟩:=I.tuple h
   exact⟨b,r,(show s.heap.IsTuple a b.toArray from p),z⟩
 | false=>
   obtain⟨b,r,p,z⟩:=I.list h
   exact⟨b,r,(show s.heap.IsList a b.toArray from p.isList),z⟩
def Sq.lt{t:Bool}{h:Heap}{a:Addr}{xs:Array Value}(g:Sq t h a xs):a<h.objs.size:=by
 cases t with
 |true=>obtain⟨o,e,_⟩:=(show h.IsTuple a xs from g);exact Qiq e
 |false=>obtain⟨o,e,_⟩:=(show h.IsList a xs from g);exact Qiq e
def GU(K:PySem.W.Frag):List V->Hp->VK->Prop:=λf H Q=>∃(t e:Bool) (a b:Addr) (c:List Key) (d:List V),f= [.ref a,.ref b]/\AY K t H a (c.map kV)/\AY K e H b d/\c.length=d.length/\∀p,H p=none->Q (.ref p) (upd H p (.dK (jU [] (c.zip d))))
def yG{x y:Expr}{ta:TA}{p1 S c1 L:Pos}(C:X.calm=true)(a2:Gl X "dict")(a5:X.mg "dict"=none)(hg:Gl X "zip")(hm:X.mg "zip"=none)(ha:PA X [x,y] ta)(hs:starEach [x,y] X.env= [(false,eval x X.env),(false,eval y X.env)]:=by rfl)(N:starEach [y] X.env= [(false,eval y X.env)]:=by rfl)
  (he:starEach [Expr.Call (.Name "zip" S) [x,y] [] L] X.env= [(false,eval (Expr.Call (.Name "zip" S) [x,y] [] L) X.env)]:=by rfl):
  PE X (.Call (.Name "dict" p1) [.Call (.Name "zip" S) [x,y] [] L] [] c1) (Kd (GU X.K) ta):=by
 intro B s σ H Q I h
 refine wpAny_Call_Name_kw (kY I a2 a5 (by rfl) ?_)
 refine PyProof.Rows.callWith_type1 ?_ he rfl
 rw[he]
 show wpAny _ _ (spliced ((false,eval (Expr.Call (.Name "zip" S) [x,y] [] L) X.env)::backTo c1 (starEach [] X.env))) _ _ s
 refine Calls.spliced_cons ?_
 refine wpAny_Call_Name_kw (kY I hg hm (by rfl) ?_)
 refine PyProof.Rows.callWith_type1 (c8 (ha L B s σ H _ I h) λus j ⟨vs,H1,F,r1,q1⟩=> ?_) (by rw[hs,N]) (by rw[N];rfl)
 obtain⟨t,t2,a,b,d,ys,e,qa,qb,hl,q⟩:=q1
 subst e
 cases r1 with
 | cons r rr=>
   cases rr with
   | cons r' rr=>
     cases rr
     cases r
     cases r'
     obtain⟨m,ra,pa,za⟩:=F.sq qa
     obtain⟨p,rb,pb,zb⟩:=F.sq qb
     have lx:=Sq.lt pa
     have ly:=Sq.lt pb
     have la:=ra.length
     have lb:=rb.length
     rw[lQm] at la
     refine Zq.Gn pa pb λg R gT gO gi gj U=>Calls.spliced_nil ?_
     have I2:Inv X B σ H1 {j with heap:=g}:=F.kept (t':=j.toks) U
     refine Zq.tK R (F.ok.hd C) λY tk Z=> ?_
     have z:∀c o,g.get? c=some o->Y.get? c=some o:=λc o e=>Z c o (Qcq _ e)
     have a6:Y.get? g.objs.size=some {cls:=.type "dict",data:=.dict #[]}:=Z _ _ (Qrq g rfl)
     refine wpAny_pyIter_zip (z _ _ R) ?_
     have DD:=PyProof.Rows.zipApart_new lx ly
     have f:j.heap.objs.size+4<g.objs.size:=Qiq R
     have J:∀(n:Nat) k,d[n]?=some k->d.getD n (.inl 0)=k:=λn k e=>by rw[Qlq,e];rfl
     have G:∀c,c<j.heap.objs.size->c≠j.heap.objs.size+4/\c≠j.heap.objs.size+3/\c≠j.heap.objs.size/\c≠j.heap.objs.size+1/\c≠g.objs.size:=λc C=>
       ⟨Qwq (Qqq C (Nat.le_add_right _ _)),Qwq (Qqq C (Nat.le_add_right _ _)),Qwq C,Qwq (Qqq C (Nat.le_add_right _ _)),Qwq (Nat.lt_trans (Qqq C (Nat.le_add_right _ 4)) f)⟩
     refine Zq.yF (knd:=bM X.prog X.w) (t:=t) (t2:=t2) (xs:=m.toArray) (ys:=p.toArray) (show X.A.in1.in1.handled=none from F.ok.hd C) DD ?_ ?_ (λn=>d.getD n (.inl 0)) ?_ (by simp;omega) (by simp;omega) m.toArray.size 0 0 _ rfl (Nat.zero_le _)
       (.inl ⟨z _ _ R,_,_,z _ _ gO⟩) (z _ _ gT) (gi.at λo e=>z _ o e) (gj.at λo e=>z _ o e) (pa.at λo e=>z _ o (U _ o e)) (pb.at λo e=>z _ o (U _ o e)) ?_ ?_
     · refine⟨Nat.ne_of_gt f,Nat.ne_of_gt (Nat.lt_trans ?_ f),Nat.ne_of_gt (Nat.lt_trans ?_ f),Nat.ne_of_gt (Nat.lt_trans ?_ f),Nat.ne_of_gt (Nat.lt_trans ?_ f),(G _ lx).2.2.2.2.symm,(G _ ly).2.2.2.2.symm⟩ <;>(show _<j.heap.objs.size+4) <;>omega
     · exact⟨Qwq (Qqq lx (Nat.le_add_right _ _)),Qwq (Qqq ly (Nat.le_add_right _ _))⟩
     · intro n v hv
       have P:m[n]?=some v:=by simpa using hv
       have hn:n<d.length:=by
         have:=(gQs.mp P).1
         omega
       have M:=gQe hn
       obtain⟨u,W,ru⟩:=ra.get (i:=n) (x:=kV d[n]) (by rw[gQm,M];rfl)
       rw[P] at W
       cases W
       show(bM X.prog X.w).is (d.getD n (.inl 0)) v=true
       rw[J n _ M]
       exact key_is ru _ _
     · obtain⟨o,es,ep,e1,e2⟩:=Heap.DictOf.new (knd:=bM X.prog X.w) g
       exact⟨o,es,ep,Z _ _ e1,e2⟩
     · intro h3 a3 dd k3
       have a1:g.objs.size≠sysModules:=by
         have:=I2.big
         exact Nat.ne_of_gt this
       have le:j.heap.objs.size<=g.objs.size:=nQl (Nat.lt_of_le_of_lt (Nat.le_add_right _ 4) f)
       refine⟨rfl,.ref g.objs.size,_,F.laid (a:=g.objs.size) (o:=.dK (jU [] (d.zip ys))) (t':=a3) (h':=h3) (λc o e=> ?_) le (sA ?_ (beq_eq_false_iff_ne.mpr a1) ?_ dd),rfl,q _ (F.hok.fresh le)⟩
       · obtain⟨o1,o2,o3,o4,o5⟩:=G c (Qiq e)
         exact k3 c o o1 o2 o3 o4 o5 (z c o (U c o e))
       · have:=iW (d.zip ys) []
         rw[QGq,List.length_zip] at this
         omega
       · have a4:∀n,n<=d.length->KV (jU [] ((d.zip ys).take n)) (Dk.GJ (λn=>d.getD n (.inl 0)) (λn=>p.toArray.getD n .none) n):=by
           intro n
           induction n with
           |zero=>intro _;exact .nil
           | succ n ih=>
             intro hn
             have M:=gQe (l:=d) (i:=n) (by omega)
             have hy:=gQe (l:=ys) (i:=n) (by omega)
             obtain⟨u,W,ru⟩:=rb.get hy
             have ez:(d.zip ys)[n]?=some (d[n],ys[n]):=by rw[List.getElem?_zip_eq_some];exact⟨M,hy⟩
             have e3:(d.zip ys).take (n+1)=(d.zip ys).take n++ [(d[n],ys[n])]:=by rw[QYq,ez];rfl
             have eu:p.toArray.getD n .none=u:=by
               have:=(gQs.mp W)
               obtain⟨g,Y⟩:=this
               simp[Array.getD,g,Y]
             rw[e3]
             show KV (List.foldl _ [] ((d.zip ys).take n++ [(d[n],ys[n])])) (stored _ (d.getD n (.inl 0)) (p.toArray.getD n .none))
             rw[List.foldl_append,J n _ M,eu]
             exact(ih (by omega)).put d[n] ru
         have:=a4 d.length (Qmq _)
         have e4:(d.zip ys).take d.length=d.zip ys:=by
           have:(d.zip ys).length=d.length:=by rw[List.length_zip];omega
           rw[←this,QEq]
         rw[e4] at this
         have e5:m.toArray.size=d.length:=by simp;omega
         rw[e5]
         exact this
end
end L2
namespace Zq
open PySem
section
variable{prog:Program}{w:World}{A:Around}{E:Value->Shared->Prop}{s:Shared}{t t2:Bool}{z T O i j a b:Addr}{k:Nat}{xs ys:Array Value}{x y u v:Value}
def BW(D:ZipApart z T O i j a b){Q:Option Value->Shared->Prop}(c:sT s.heap z T O .none (.bool false))(e:IsPair s.heap T (.ref i) (.ref j))(G:IsPair s.heap O u v)(r:It t s.heap i a k)(B:It t2 s.heap j b k)
  (h:Sq t s.heap a xs) (m:Sq t2 s.heap b ys) (ex:xs[k]?=some x) (n:ys[k]?=some y)
  (q:∀h',sT h' z T O (rawInt s.heap.objs.size) (.bool false)->IsPair h' O x y->It t h' i a (k+1)->It t2 h' j b (k+1)->IsPair h' s.heap.objs.size x y->Zp.Rest z O i j s.heap h'->Q (some (.ref s.heap.objs.size)) {s with heap:=h'}):
  wpAny (model prog w) A (pyNext (.ref z)) Q E s:=by
 have d:s.TypeIs (.ref z) "zip":=⟨_,c,rfl⟩
 unfold pyNext
 exact Qaq (wpAny_attempt (QiQ (name:=Str.ofString "__next__") d F.slot_zip_next (wpAny_call_entry F.slot_zip_next d F.entry_zip_next
  (item D c e G r B h m ex n λh' o f p C l g=>Qgq (q h' o f p C l g)) (F.args_zip_next_1 _))))
end
end Zq
namespace L2
open PySem PySem.Spec PyProof.Rows Zq
def Inv.sq_inj{X:Cx}{b:List (Addr×Obj)}{c:St}{H:Hp}{s:Shared}{t:Bool}{a:Addr}{xs ys:List V}(I:Inv X b c H s)(h:AY X.K t H a xs)(h':AY X.K t H a ys):xs=ys:=by
 cases t with
 |true=>exact I.tuple_inj h h'
 |false=>exact I.list_inj h h'
def Li(K:PySem.W.Frag)(t t2:Bool)(a b:Addr):It:=
  ⟨λi H=>∃c d x y,AY K t H a c/\AY K t2 H b d/\c[i]?=some x/\d[i]?=some y,
   λi H v e=>∃p,v=.ref p/\H p=none/\∀c d x y,AY K t H a c->AY K t2 H b d->c[i]?=some x->d[i]?=some y->e=upd H p (.tup [x,y]),
   λi H=>∃c,AY K t H a c/\c.length<=i⟩
def BS{P:Program}{w:World}{K:PySem.W.Frag}{B:List Expr}{x1:Nat}{tp:Pos}{t t2:Bool}{z T O i j a b:Addr}(D:ZipApart z T O i j a b):
  Turn P w K (.Tuple B x1 tp) (Li K t t2 a b) [z,T,O,i,j] z (λn h=>sT h z T O .none (.bool false)/\IsPair h T (.ref i) (.ref j)/\(∃u v,IsPair h O u v)/\Zq.It t h i a n/\Zq.It t2 h j b n) where
 mem:=by simp
 obj:=λn h ⟨f,g,⟨u,v,p⟩,m,q⟩ c d=>by
  simp at d
  rcases d with rfl|rfl|rfl|rfl|rfl
  ·exact⟨_,f,λv n=>by cases n⟩
  ·exact⟨_,g,λv n=>by cases n⟩
  ·exact⟨_,p,λv n=>by cases n⟩
  ·exact m.obj
  ·exact q.obj
 keep:=λn h h' ⟨f,g,⟨u,v,p⟩,m,q⟩ k=>⟨k z (by simp) _ f,k T (by simp) _ g,⟨u,v,k O (by simp) _ p⟩,m.at λo e=>k i (by simp) o e,q.at λo e=>k j (by simp) o e⟩
 item:=by
  rintro X N S U d n l s σ H E I F ⟨f,g,⟨u,v,p⟩,m,q⟩ R
  subst N S U
  obtain⟨xs,ys,x,y,J,qb,L,hy⟩:=R
  obtain⟨Q,ra,M,_⟩:=I.sq J
  obtain⟨a2,rb,pb,_⟩:=I.sq qb
  obtain⟨ux,ex,rx⟩:=ra.get L
  obtain⟨uy,ey,ry⟩:=rb.get hy
  have A:∀{c o},s.heap.get? c=some o->c≠s.heap.objs.size:=λe=>Qwq (Qiq e)
  have C:∀c∈[z,T,O,i,j],c≠s.heap.objs.size:=λc d=>by
   obtain⟨oi,e1,_⟩:=m.obj
   obtain⟨oj,e2,_⟩:=q.obj
   simp at d
   rcases d with rfl|rfl|rfl|rfl|rfl
   ·exact A f
   ·exact A g
   ·exact A p
   ·exact A e1
   ·exact A e2
  refine Zq.BW D f g p m q M pb (x:=ux) (y:=uy) (by simpa using ex) (by simpa using ey) λh1 z1 O1 i1 j1 n1 G=>⟨_,rfl,?_⟩
  have T1:=G _ _ D.TIz D.TITO D.TIi1 D.TIi2 g
  refine wpAny_letOwnedTupleGo_zip z1 λh2 z2 r=> ?_
  have I2:Inv X l σ (upd H s.heap.objs.size (.tup [x,y])) {s with heap:=h2}:=I.turnedNew (t':=s.toks) (fp:= [z,T,O,i,j]) F (λc o d e=> ?_) (Qmq _) ?_
  ·refine⟨.ref s.heap.objs.size,_,I2,rfl,⟨s.heap.objs.size,rfl,I.hok.fresh (Qmq _),λa1 a3 x' y' q1 q2 Y Z=> ?_⟩,⟨z2,r.extBut _ _ D.TIz T1,⟨_,_,r.extBut _ _ D.TOz O1⟩,i1.ext r.extBut D.i1z,j1.ext r.extBut D.i2z⟩,λc d=> ?_⟩
   ·rw[I.sq_inj q1 J] at Y
    rw[I.sq_inj q2 qb] at Z
    rw[L] at Y
    rw[hy] at Z
    cases Y
    cases Z
    rfl
   ·rw[bh (C c d)]
    exact(F c d).1
  ·simp at d
   exact r.extBut _ _ d.1 (G c o d.1 d.2.2.1 d.2.2.2.1 d.2.2.2.2 e)
  ·exact⟨by show 2<=_;decide,[ux,uy],.cons rx (.cons ry .nil),_,r.extBut _ _ (λe=>C z (by simp) e.symm) n1,rfl,rfl,0,rfl⟩
 done:=by
  rintro X N S U d n l s σ H E I F ⟨f,g,⟨u,v,p⟩,m,q⟩ R
  subst N S U
  obtain⟨xs,J,L⟩:=R
  obtain⟨Q,ra,M,_⟩:=I.sq J
  have hl:=ra.length
  refine Zq.xD D (I.ok.hd d) (.inl ⟨f,u,v,p⟩) g m M (by simp;omega) λh1 G=>⟨rfl,I.turnedL (t':=s.toks) (fp:= [z,T,O,i,j]) F λc o d e=> ?_⟩
  simp at d
  exact G c o d.1 d.2.2.1 d.2.2.2.1 d.2.2.2.2 e
 self:=λ_ _ _ _ _ ⟨f,_⟩ h=>wpAny_pyIter_zip f h
section
variable{X:Cx}
def L_(K:PySem.W.Frag)(e:TA):TI:=λg H R=>e g H λh H1=>∃(t c:Bool) (a b:Addr) (d f:List V),h= [.ref a,.ref b]/\AY K t H1 a d/\AY K c H1 b f/\R (Li K t c a b) H1
def EM{f:List Expr}{N:Nat}{J:Pos}{a b:Expr}{l:TA}{p pos:Pos}(A:Gl X "zip")(hm:X.mg "zip"=none)(M:PA X [a,b] l)(Q:starEach [a,b] X.env= [(false,eval a X.env),(false,eval b X.env)]:=by rfl)(i:starEach [b] X.env= [(false,eval b X.env)]:=by rfl):
  PI X (.Tuple f N J) (.Call (.Name "zip" p) [a,b] [] pos) (L_ X.K l):=by
 intro d s F H R I h
 refine Call_ (kY I A hm (by rfl) (PyProof.Rows.callWith_type1 (c8 (M pos d s F H _ I h) λus m ⟨vs,H1,g,S,z⟩=> ?_) (by rw[Q,i]) (by rw[i];rfl)))
 obtain⟨t,t2,x,y,xs,ys,e,qa,Z,q⟩:=z
 subst e
 cases S with
 | cons r j=>
   cases j with
   | cons U j=>
     cases j
     cases r
     cases U
     obtain⟨G,ra,v,_⟩:=g.sq qa
     obtain⟨L,rb,n,_⟩:=g.sq Z
     have C:=Sq.lt v
     have Y:=Sq.lt n
     refine Zq.Gn v n λh' u B gO P W k=> ?_
     refine wpAny_pyIter_zip u ⟨_,_,_,_,H1,rfl,g.kept (t':=m.toks) k,BS (PyProof.Rows.zipApart_new C Y),⟨u,B,⟨_,_,gO⟩,P,W⟩,λc o=> ?_,q⟩
     have w:m.heap.objs.size<=c:=by
       simp only[Qsq,QXq,or_false] at o
       rcases o with e|e|e|e|e <;>(rw[e];first|exact Qmq _|exact Nat.le_add_right _ _)
     exact g.fpOk w (g.hok.fresh w)
end
end L2
namespace DL
open PySem PySem.Spec PyProof.Rows L2
def yU.sqB{M:Md}{ρ:List Addr}{H:Hp}{a:Addr}{vs:List V}{t:Tag}(h:yU M ρ H a vs t):L2.AY M.K (!t.isL) H a vs:=by
 cases c:t.isL with
 |true=>exact h.sqL c
 |false=>exact h.sqT c
def tF(xs ys:List D):List D:=List.zipWith (λx y=>D.tup [x,y]) xs ys
open Classical in
def tj(f g:eN):sR:=λa S=>(f a S).bind λ(p,c)=>(g a c).bind λ(r,b)=>if p.2.stays b p.1/\p.1.length<=r.1.length then some ((tF p.1 r.1,λS=>p.2.stays S p.1/\r.2.stays S r.1),b) else none
section
variable{X:Cx}{a b c e:Expr}{pos:Pos}{st:Stmt}
def LH{m:List Expr}{s:Nat}{tp p:Pos}{f g:eN}(hg:Gl X "zip")(hm:X.mg "zip"=none)(ha:PE X a (tQ (md X) f))(hb:PE X b (tQ (md X) g))(N:starEach [a,b] X.env= [(false,eval a X.env),(false,eval b X.env)]:=by rfl)(k:starEach [b] X.env= [(false,eval b X.env)]:=by rfl):
  PI X (.Tuple m s tp) (.Call (.Name "zip" p) [a,b] [] pos) (tI (md X) (tj f g)):=Kb (EM hg hm (c_ ha (c_ hb gy k) (by rw[N,k])) N k) λσ H R ⟨ρ,Y,S,ds,W,S',ok,e,q⟩=>by
 obtain⟨⟨⟨l,t1⟩,U⟩,e1,e⟩:=ar e
 obtain⟨⟨⟨o,t2⟩,S2⟩,e2,e⟩:=ar e
 dsimp only at e
 split at e
 ·rename_i c
  obtain⟨e3,rfl⟩:=cy e
  obtain⟨rfl,rfl⟩:=Prod.mk.inj e3
  refine⟨ρ,Y,S,l,t1,U,ok,e1,λG a1 a4 H1 s F h1 r1=>⟨G,Y,U,o,t2,S2,ok.to s F,e2,λa3 b1 ws H2 Z n h2 r2=> ?_⟩⟩
  obtain⟨C,I,r3⟩:=h1.to r1 Z n c.1
  refine⟨_,_,a1,b1,C,ws,rfl,I.sqB,h2.sqB,q _ _ _ (s.trans Z) n λi a2 S3 H3 M j w=> ?_⟩
  obtain⟨t,B,Q⟩:=I.to r3 M j w.1
  obtain⟨J,L,g4⟩:=h2.to r2 M j w.2
  refine⟨λd h=> ?_,λhi=>⟨t,B.sqB,?_⟩⟩
  ·unfold tF at h
   rw[List.getElem?_zipWith] at h
   cases r:l[i]? with
   |none=>rw[r] at h;cases h
   | some x=>
     cases A:o[i]? with
     |none=>rw[r,A] at h;cases h
     | some y=>
       rw[r,A] at h
       cases h
       obtain⟨u,K,ru⟩:=Q.get r
       obtain⟨z,P,rz⟩:=g4.get A
       refine⟨⟨t,J,u,z,B.sqB,L.sqB,K,P⟩,λv H4 hv=> ?_⟩
       obtain⟨p,rfl,hp,hq⟩:=hv
       have:=hq t J u z B.sqB L.sqB K P
       subst this
       exact⟨bU.laid hp,j.lay hp,.tup bD ((bj.cons ru (.cons rz .nil)).ext (bU.laid hp))⟩
  ·rw[hi]
   unfold tF
   rw[List.length_zipWith,Q.length.symm]
   have:=c.2
   omega
 ·cases e
end
def tm:D->Option Key
 |.int i=>some (.inl i)
 |.str x=>some (.inr x)
 |_=>none
def qv{M:Md}{ρ:List Addr}{H:Hp}{d:D}{v:V}{k:Key}(r:Rel M ρ H d v)(e:tm d=some k):v=kV k:=by
 cases r <;>simp[tm] at e <;>subst e <;>rfl
def xJ:List D->Option (List Key)
 | []=>some []
 |d::r=>(tm d).bind λk=>(xJ r).bind λa=>some (k::a)
theorem xp{M:Md}{ρ:List Addr}{H:Hp}:∀{ds:List D} {vs:List V} {a:List Key},bj M ρ H ds vs->xJ ds=some a->vs=a.map kV
 |_,_,_,.nil,e=>by cases e;rfl
 | _,_,_,.cons h hs,e=>by
   obtain⟨k,b,e⟩:=ar e
   obtain⟨a,c,e⟩:=ar e
   cases e
   rw[qv h b,xp hs c]
   rfl
def rE(a:List (Key×D))(k:Key):Option D:=(a.find? λb=>decide (b.1=k)).map (·.2)
def putD(a:List (Key×D))(k:Key)(v:D):List (Key×D):=
 if (a.any λb=>decide (b.1=k))=true then a.map (λb=>if b.1=k then(b.1,v) else b) else a++ [(k,v)]
def cV(b more:List (Key×D)):List (Key×D):=more.foldl (λa c=>putD a c.1 c.2) b
section
variable{M:Md}{ρ:List Addr}{H:Hp}
theorem cg.append:∀{l m:List (Key×D)} {kv kw:List (Key×V)},cg M ρ H l kv->cg M ρ H m kw->cg M ρ H (l++m) (kv++kw)
 | [],_,_,_,h,h'=>by cases h;exact h'
 |(_,_)::_,_,_,_,⟨v,t,e,h,hs⟩,h'=>by subst e;exact⟨v,_,rfl,h,cg.append hs h'⟩
theorem cg.any:∀{l:List (Key×D)} {kv:List (Key×V)} (k:Key),cg M ρ H l kv->(l.any λp=>decide (p.1=k))=kv.any λp=>decide (p.1=k)
 | [],_,_,h=>by cases h;rfl
 |(_,_)::_,_,k,⟨v,t,e,h,hs⟩=>by subst e;simp only[List.any_cons,cg.any k hs]
theorem cg.mapP{d:D}{v:V}{k:Key}(r:Rel M ρ H d v):∀{l:List (Key×D)} {kv:List (Key×V)},cg M ρ H l kv->cg M ρ H (l.map λp=>if p.1=k then(p.1,d) else p) (kv.map λp=>if p.1=k then(p.1,v) else p)
 | [],_,h=>by cases h;rfl
 | (k',_)::_,_,⟨u,t,e,h,hs⟩=>by
   subst e
   simp only[QDq]
   by_cases c:k'=k
   · simp only[c,if_true];exact⟨v,_,rfl,r,cg.mapP r hs⟩
   · simp only[c,if_false];exact⟨u,_,rfl,h,cg.mapP r hs⟩
def cg.put{l:List (Key×D)}{kv:List (Key×V)}{k:Key}{d:D}{v:V}(h:cg M ρ H l kv)(r:Rel M ρ H d v):cg M ρ H (putD l k d) (putK kv k v):=by
 unfold putD putK
 rw[h.any k]
 split
 ·exact h.mapP r
 ·exact h.append ⟨v,[],rfl,r,rfl⟩
theorem cg.merge:∀{m:List (Key×D)} {kw:List (Key×V)} {l:List (Key×D)} {kv:List (Key×V)},cg M ρ H m kw->cg M ρ H l kv->cg M ρ H (cV l m) (jU kv kw)
 | [],_,_,_,h,h'=>by cases h;exact h'
 | (k,d)::m,_,_,_,⟨v,t,e,h,hs⟩,h'=>by
   subst e
   unfold cV jU
   rw[List.foldl_cons,List.foldl_cons]
   exact cg.merge (m:=m) (kw:=t) hs (h'.put h)
theorem cg.zip:∀{a:List Key} {ds:List D} {vs:List V},bj M ρ H ds vs->cg M ρ H (a.zip ds) (a.zip vs)
 | [],_,_,_=>rfl
 |_::_,_,_,.nil=>rfl
 |k::a,_,_,.cons h hs=>⟨_,_,rfl,h,cg.zip hs⟩
theorem cg.val:∀{l:List (Key×D)} {kv:List (Key×V)} {k:Key} {d:D},cg M ρ H l kv->rE l k=some d->∃v,pB kv k=some v/\Rel M ρ H d v
 | [],_,_,_,_,e=>by cases e
 | (k',d')::_,_,k,d,⟨v,t,e,h,hs⟩,e'=>by
   subst e
   unfold rE at e'
   unfold pB
   rw[List.find?_cons] at e'⊢
   by_cases c:k'=k
   · simp only[c,decide_true] at e'⊢
     cases e'
     exact⟨v,rfl,h⟩
   · simp only[c,decide_false] at e'⊢
     exact cg.val hs e'
def cg.ext'{a:List Addr}{b:Hp}{l:List (Key×D)}{kv:List (Key×V)}(h:cg M ρ H l kv)(e:bU ρ H a b):cg M a b l kv:=h.imp λ_ _ r=>r.ext e
def cg.pre'{a:List Addr}{l:List (Key×D)}{kv:List (Key×V)}(h:cg M ρ H l kv)(e:ρ <+: a):cg M a H l kv:=h.imp λ_ _ r=>r.pre e
end
section
variable{X:Cx}{a b c e:Expr}{pos:Pos}{st:Stmt}
def JM{M:Md}{ρ d:List Addr}{H h:Hp}{n:aG}{l:List (Key×D)}{kv:List (Key×V)}{p:Addr}{Q:VK}(x:bU ρ H d h)(st:fL M d n h)(j:h p=none)(r:cg M d h l kv)
  (q:∀f v g,bU ρ H f g->fL M f (n++ [.dct l]) g->Rel M f g (.ref n.length) v->Q v g):Q (.ref p) (upd h p (.dK kv)):=by
 have s:p∉d:=dC x st j
 have m:bU d h d (upd h p (.dK kv)):=bU.laid j
 have k:=(st.lay (u:=.dK kv) j).box (o:=.dct l) s ⟨kv,bD,(r.ext' m).pre' (List.prefix_append _ _)⟩
 refine q (d++ [p]) (.ref p) _ ⟨x.pre.trans (List.prefix_append _ _),λc i=> ?_,(x.trans m).keep,(x.trans m).grow⟩ k (.ref ?_)
 ·rcases mQa.mp i with i|i
  ·exact x.new c i
  ·rw[Qfq] at i;subst i;exact .inr (x.grow _ j)
 ·rw[←st.len,QQq (Qmq _)]
  simp
open Classical in
def HY(f g:eN):bx:=λh S=>(f h S).bind λ(p,j)=>(g h j).bind λ(r,d)=>if p.2.stays d p.1/\p.1.length=r.1.length then(xJ p.1).bind λi=>some (.ref d.length,d++ [.dct (cV [] (i.zip r.1))]) else none
def Ig{p1 t M k:Pos}{f g:eN}(P:X.calm=true)(r:Gl X "dict")(s:X.mg "dict"=none)(F:Gl X "zip")(hm:X.mg "zip"=none)(J:PE X a (tQ (md X) f))(hb:PE X b (tQ (md X) g))(y:starEach [a,b] X.env= [(false,eval a X.env),(false,eval b X.env)]:=by rfl)(h:starEach [b] X.env= [(false,eval b X.env)]:=by rfl)
  (he:starEach [Expr.Call (.Name "zip" t) [a,b] [] k] X.env= [(false,eval (Expr.Call (.Name "zip" t) [a,b] [] k) X.env)]:=by rfl):
  PE X (.Call (.Name "dict" p1) [.Call (.Name "zip" t) [a,b] [] k] [] M) (tD (md X) (HY f g)):=kD (yG P r s F hm (c_ J (c_ hb gy h) (by rw[y,h])) y h he) λσ H Q ⟨W,u,S,d,S',ok,e,q⟩=>by
 obtain⟨⟨⟨o,U⟩,z⟩,L,e⟩:=ar e
 obtain⟨⟨⟨m,t2⟩,R⟩,e2,e⟩:=ar e
 dsimp only at e
 split at e
 ·rename_i c
  obtain⟨B,e3,e⟩:=ar e
  obtain⟨rfl,rfl⟩:=cy e
  refine⟨W,u,S,o,U,z,ok,L,λn N a2 H1 w j G r1=>⟨n,u,z,m,t2,R,ok.to w j,e2,λa3 Z K H2 x i h2 A=> ?_⟩⟩
  obtain⟨C,h3,v⟩:=G.to r1 x i c.1
  have I:=xp v e3
  subst I
  have hl:=v.length
  rw[lQm] at hl
  refine⟨_,_,N,Z,B,K,rfl,h3.sqB,h2.sqB,by rw[←hl,←A.length];exact c.2,λp Y=> ?_⟩
  exact JM (w.trans x) i Y (cg.merge (l:= []) (cg.zip A) rfl) q
 ·cases e
def K2:bx:=λ_ S=>some (.ref S.length,S++ [.dct []])
def Kv:PE X (.Dict [] [] pos) (tD (md X) K2):=kD Cw λk H Q f=>by
 obtain⟨h,i,S,d,j,ok,e,q⟩:=f
 obtain⟨rfl,rfl⟩:=cy e
 exact λp g=>JM bU.refl ok.st g (l:= []) (kv:= []) rfl q
def Je(f g:bx):bx:=λh S=>(f h S).bind λ(x,m)=>(g h m).bind λ(y,i)=>match x with
 | .ref k=>match i[k]? with
   |some (.dct l)=>(tm y).bind λj=>(rE l j).bind λd=>some (d,i)
   |_=>none
 |_=>none
def Kl{f g:bx}(K:X.A.units+1<cLine)(j:PE X a (tD (md X) f))(M:PE X b (tD (md X) g))(n:FQ b):PE X (.Subscript a b pos) (tD (md X) (Je f g)):=kD (FR K j M n) λU H Q u=>by
 obtain⟨F,p,S,d,S',ok,e,q⟩:=u
 obtain⟨⟨x,t⟩,B,e⟩:=ar e
 obtain⟨⟨y,C⟩,N,e⟩:=ar e
 cases x with
 | ref k=>
   dsimp only at e
   split at e
   · rename_i l n
     obtain⟨Y,R,e⟩:=ar e
     obtain⟨d',G,e⟩:=ar e
     obtain⟨rfl,rfl⟩:=cy e
     refine⟨F,p,S,_,t,ok,B,λm Z H1 r i o=>⟨m,p,t,y,C,ok.to r i,N,λP v2 H2 s h L=> ?_⟩⟩
     cases qv L R
     have o:=o.ext s
     cases o with
     | ref j=>
       obtain⟨W,w,I⟩:=h.obj k _ _ j n
       obtain⟨v,J,z⟩:=I.val G
       exact⟨_,v,rfl,by rw[←J];exact Bn.k w,q _ _ _ (r.trans s) h z⟩
   · cases e
 |_=>cases e
def Ka(f g h:bx):cY:=λi S=>(h i S).bind λ(d,m)=>(f i m).bind λ(x,o)=>(g i o).bind λ(y,j)=>match x with
 | .ref k=>match j[k]? with
   |some (.dct l)=>(tm y).bind λn=>if l.length<sizeLine then some (.nx i (j.set k (.dct (putD l n d)))) else none
   |_=>none
 |_=>none
mutual
theorem Rel.offK{M:Md}{ρ:List Addr}{H:Hp}{b:Addr}{g:List (Key×V)}{o:HO}(f:H b=some (.dK g)):∀{d:D} {v:V},Rel M ρ H d v->Rel M ρ (upd H b o) d v
 |_,_,.non=>.non
 |_,_,.bl x=>.bl x
 |_,_,.int i=>.int i
 |_,_,.str x=>.str x
 |_,_,.tup h hs=>.tup (by rw[bh (Dm h f (by intro z;cases z))];exact h) (bj.offK f hs)
 |_,_,.ref h=>.ref h
 |_,_,.fn h=>.fn h
theorem bj.offK{M:Md}{ρ:List Addr}{H:Hp}{b:Addr}{f:List (Key×V)}{o:HO}(d:H b=some (.dK f)):∀{ds:List D} {vs:List V},bj M ρ H ds vs->bj M ρ (upd H b o) ds vs
 |_,_,.nil=>.nil
 |_,_,.cons h hs=>.cons (Rel.offK d h) (bj.offK d hs)
end
def fL.putKd{M:Md}{ρ:List Addr}{S:aG}{H:Hp}{k:Nat}{a:Addr}{l g:List (Key×D)}{kw:List (Key×V)}(st:fL M ρ S H)(h:ρ[k]?=some a)(i:S[k]?=some (.dct l))(r:cg M ρ H g kw):fL M ρ (S.set k (.dct g)) (upd H a (.dK kw))/\bU ρ H ρ (upd H a (.dK kw)):=by
 obtain⟨j,d,m⟩:=st.obj k a _ h i
 exact st.put h i ⟨kw,bD,r.imp λ_ _ q=>q.offK d⟩ λx f=>by rw[d] at f;cases f;exact id
def KL{f g h:bx}{i:Pos}{v:Expr}(hu:X.A.units+1<cLine)(p:PE X a (tD (md X) f))(hb:PE X b (tD (md X) g))(hv:PE X v (tD (md X) h))(r:swapsWith v (some (.Subscript a b i)) pos.line X.env=pure false:=by rfl):PS X (.Assign [.Subscript a b i] v pos) (tS (md X) (Ka f g h)):=
 B_ (Fl hu p hb hv r) λD σ H N=>by
  obtain⟨Y,s,S,o,ok,e,q⟩:=N
  obtain⟨⟨d,M⟩,W,e⟩:=ar e
  obtain⟨⟨x,K⟩,e2,e⟩:=ar e
  obtain⟨⟨y,R⟩,e3,e⟩:=ar e
  cases x with
  | ref k=>
    dsimp only at e
    split at e
    · rename_i l r
      obtain⟨U,Z,e⟩:=ar e
      split at e
      · rename_i hl
        cases e
        refine⟨Y,s,S,d,M,ok,W,λu v1 H1 w n F=>⟨u,s,M,_,K,ok.to w n,e2,λI v2 H2 z t G=>⟨I,s,K,y,R,(ok.to w n).to z t,e3,λa1 v3 H3 B j Q=> ?_⟩⟩⟩
        cases qv Q Z
        have G:=G.ext B
        have F:=F.ext (z.trans B)
        have m:=(w.trans z).trans B
        cases G with
        | ref p=>
          obtain⟨kv,P,L⟩:=j.obj k _ _ p r
          obtain⟨C,J⟩:=j.putKd p r (L.put (k:=U) F)
          exact⟨_,_,rfl,Ck.k P (by rw[←L.length];exact hl),q _ _ _ (m.trans J) ((ok.to m j).to J C)⟩
      · cases e
    · cases e
  |_=>cases e
open Classical in
def HX(f:eN)(g:bx):bx:=λd S=>(f d S).bind λ(p,k)=>if p.2.isL=true then(g d k).bind λ(y,h)=>if p.2.stays h p.1 then(vG y).bind λv=>(ip p.1).bind λi=>(ox v i).bind λj=>some (.int (j:Nat),h) else none else none
def J2{f:eN}{g:bx}{o:Expr}{i h:Pos}(ho:PE X o (tQ (md X) f))(P:PE X e (tD (md X) g))(l:attributeBase o "index" X.env (eval o X.env)=eval o X.env:=by rfl) (n:((backTo h (starEach [e] X.env)).all (λx=> !x.1)&&(backToKw h (keywordEach [] X.env)).all (λx=>x.1.isSome)
   &&decide ([e].length+([]:List Keyword).length+(if ([]:List Keyword).isEmpty then 0 else 1)<30))=true:=by rfl)
  (k:(i.endLine==h.line)=true:=by rfl) (G:starEach [e] X.env= [(false,eval e X.env)]:=by rfl):PE X (.Call (.Attribute o "index" i) [e] [] h) (tD (md X) (HX f g)):=
 kD (wL PySem.F.plainAttrs_list PySem.F.slot_list_index PySem.F.type_list_index CH ho (az P aV G) l n k G) λσ H Q K=>by
  obtain⟨W,w,S,d,S',ok,e,q⟩:=K
  obtain⟨⟨⟨ds,t⟩,I⟩,R,e⟩:=ar e
  dsimp only at e
  split at e
  ·rename_i C
   obtain⟨⟨y,U⟩,e2,e⟩:=ar e
   dsimp only at e
   split at e
   ·rename_i L
    obtain⟨v,J,e⟩:=ar e
    obtain⟨vs,Y,e⟩:=ar e
    obtain⟨j,e5,e⟩:=ar e
    obtain⟨rfl,rfl⟩:=cy e
    refine⟨W,w,S,ds,t,I,ok,R,λr a N H1 A p z r1=>⟨.inl ⟨rfl,N,z.sqL C⟩,r,w,I,[y],U,ok.to A p,by simp only[aq,av,e2,Qbq],λa1 ws H2 B m s=> ?_⟩⟩
    obtain⟨u,Z,M⟩:=z.to r1 B m L
    cases s with
    | cons s rr=>
      cases rr
      cases mi s J
      obtain⟨rfl,f1⟩:=kR M Y
      exact⟨a,u,_,j,rfl,rfl,Z.sqL C,qV J,f1,e5,q _ _ _ (A.trans B) m (.int _)⟩
   ·cases e
  ·cases e
end
section
variable{X:Cx}{a b c e:Expr}{pos:Pos}{st:Stmt}
def KI:V->List V->Hp->VK->Prop:=λx g H Q=>∃a b f d,x=.ref a/\g= [.ref b]/\a≠b/\H a=some (.dK f)/\H b=some (.dK d)/\f.length+d.length<=sizeLine/\Q .non (upd H a (.dK (jU f d)))
def BG:KU X "dict.update" KI:=by
 intro m s G H x K v J Q I B r h
 obtain⟨a,b,j,f,rfl,rfl,ab,ha,hb,hz,q⟩:=h
 cases B
 obtain⟨u,rfl,ru⟩:=r.one
 cases ru
 obtain⟨z,p,o,i,n⟩:=Am I.hok ha
 obtain⟨L,l,y,d,k⟩:=Am I.hok hb
 refine call_meetsIn PySem.F.slot_dict_update n.typeIs PySem.F.entry_dict_update (PySem.F.args_dict_update_2 _ _) (meets_dict_update (bM X.prog X.w) a b ab l) ⟨o,y,n,k,by rw[←i.length,←d.length];exact hz,λC g _ A=> ?_⟩
 have t:∃q,C.get? a=some q:=let ⟨q,_,_,hq,_⟩:=g;⟨q,hq⟩
 have hl:=iW f j
 exact⟨.non,_,qB I (by rw[ha];exact True.intro) A t (sA (by omega) p (KV.merge d i) g),rfl,q⟩
def Fe(f g:bx):bx:=λh S=>(f h S).bind λ(x,i)=>(g h i).bind λ(y,d)=>match x,y with
 | .ref k,.ref j=>if k≠j then match i[k]?,d[k]?,d[j]? with
   |some (.dct _),some (.dct l),some (.dct m)=>if l.length+m.length<=sizeLine then some (.non,d.set k (.dct (cV l m))) else none
   |_,_,_=>none
   else none
 |_,_=>none
def JX{f g:bx}{o:Expr}{n h:Pos}(ho:PE X o (tD (md X) f))(w:PE X e (tD (md X) g))(s:attributeBase o "update" X.env (eval o X.env)=eval o X.env:=by rfl) (u:((backTo h (starEach [e] X.env)).all (λx=> !x.1)&&(backToKw h (keywordEach [] X.env)).all (λx=>x.1.isSome)
   &&decide ([e].length+([]:List Keyword).length+(if ([]:List Keyword).isEmpty then 0 else 1)<30))=true:=by rfl)
  (p:(n.endLine==h.line)=true:=by rfl) (W:starEach [e] X.env= [(false,eval e X.env)]:=by rfl):PE X (.Call (.Attribute o "update" n) [e] [] h) (tD (md X) (Fe f g)):=
 kD (wL PySem.F.plainAttrs_dict PySem.F.slot_dict_update PySem.F.type_dict_update BG ho (az w aV W) s u p W) λσ H Q qq=>by
  obtain⟨ρ,N,S,d,S',ok,e,q⟩:=qq
  obtain⟨⟨x,K⟩,e1,e⟩:=ar e
  obtain⟨⟨y,G⟩,e2,e⟩:=ar e
  cases x with
  | ref k=>
    cases y with
    | ref j=>
      dsimp only at e
      split at e
      · rename_i ne
        cases B:K[k]? with
        |none=>rw[B] at e;cases e
        | some o1=>
          rw[B] at e
          cases o1 with
          | dct l0=>
            cases A:G[k]? with
            |none=>rw[A] at e;cases e
            | some o2=>
              rw[A] at e
              cases o2 with
              | dct l=>
                cases J:G[j]? with
                |none=>rw[J] at e;cases e
                | some o3=>
                  rw[J] at e
                  cases o3 with
                  | dct m=>
                    dsimp only at e
                    split at e
                    · rename_i hl
                      obtain⟨rfl,rfl⟩:=cy e
                      refine⟨ρ,N,S,_,K,ok,e1,λC v H1 R t r1=> ?_⟩
                      cases r1 with
                      | ref w=>
                        rename_i a
                        obtain⟨I,g0,_⟩:=t.obj k a _ w B
                        refine⟨.inr (.inr (.inl ⟨rfl,.inl ⟨I,g0⟩⟩)),C,N,K,[.ref j],G,ok.to R t,by simp only[aq,av,e2,Qbq],λa1 ws H2 U i L=> ?_⟩
                        cases L with
                        | cons L rr=>
                          cases rr
                          cases L with
                          | ref Z=>
                            rename_i b
                            have r:=dq U.pre w
                            obtain⟨kv,g1,Y⟩:=i.obj k a _ r A
                            obtain⟨kw,g3,P⟩:=i.obj j b _ Z J
                            have ab:a≠b:=λz=>by subst z;exact ne (iZ i.nd r Z)
                            obtain⟨M,x3⟩:=i.putKd r A (cg.merge P Y)
                            exact⟨a,b,kv,kw,rfl,rfl,ab,g1,g3,by rw[←Y.length,←P.length];exact hl,q _ _ _ ((R.trans U).trans x3) M .non⟩
                    · cases e
                  |_=>cases e
              |_=>cases e
          |_=>cases e
      · cases e
    |_=>cases e
  |_=>cases e
end
end DL
namespace L2
open PySem PySem.Spec PyProof.Rows
section
variable{prog:Program}{w:World}{A:Around}{s:Shared}
def tJ{F G a i:Expr}{p:List Expr}{d:Scope}{pos:Pos}{it:Value}{D:Addr}{env:Env}{R:Result->Shared->Prop}(I:Nat->Shared->Prop)
  (u:∀n s,I n s->wpAny (model prog w) A (pyNext it) (λr e=>match r with
   |none=>R (.ok .next) e
   |some v=>wpAny (model prog w) A (letOwnedTupleGo a it v) (λ_ f=>wpAny (model prog w) A (assign a env v) (λ_ o=>
     wpAny (model prog w) A (forIn p true λc r=>if r=true then do let ok←isTrue c env (eval c env);pure (ForInStep.yield ok) else pure (ForInStep.yield r)) (λok s₃=>
      if ok=true then wpAny (model prog w) A (eval F env) (λx j=>wpAny (model prog w) A (eval G env) (λy g=>
       wpAny (model prog w) A (dictSet D x y) (λ_ l=>∃m,m<n/\I m l) (λ_ _=>False) g) (λ_ _=>False) j) (λ_ _=>False) s₃
      else∃m,m<n/\I m s₃) (λ_ _=>False) o) (λ_ _=>False) f) (λ_ _=>False) e) (λ_ _=>False) s)
  (n:Nat) (h:I n s):codeAny (model prog w) A (.compLoop (.DictComp F G [⟨a,i,p,0⟩] d pos) 0 it (.ref D) env) R s:=by
 refine codeAny_loop rfl I (λn s H=> ?_) n h
 show wpAny _ A ((compTurn (.DictComp F G [⟨a,i,p,0⟩] d pos) 0 it (.ref D) env).onRaise (λx=>do noteFrame x env;theTreesLotGoes x)) _ _ s
 refine wpAny_noted ?_
 rw[compTurn_dict]
 refine Qaq (wpAny_standAt (Qaq (QRq (u n s H) (λr e k=> ?_) λ_ _ b=>b.elim)))
 cases r with
 |none=>exact Qgq k
 | some v=>
   refine Qaq (QRq k (λ_ f q=> ?_) λ_ _ b=>b.elim)
   refine Qaq (QRq q (λ_ o C=>Qaq (QRq C (λok s₃ h₃=> ?_) λ_ _ b=>b.elim)) λ_ _ b=>b.elim)
   cases ok with
   |false=>exact Qgq ⟨rfl,h₃⟩
   | true=>
     exact Qaq (Qaq (QRq h₃ (λx j z=>Qaq (QLq (QRq z (λy g t=>Qaq (wpAny_standAt (QLq (QRq t (λ_ l B=>Qgq ⟨rfl,B⟩) λ_ _ b=>b.elim)))) λ_ _ b=>b.elim))) λ_ _ b=>b.elim))
end
def Hs(J:It)(g:TG)(r:TT)(q p:TE)(Q:VK)(D:Addr)(o:St)(H:Hp):Prop:=
 ∃ W:Nat->Nat->St->Hp->Prop,(∃m,W 0 m o H)/\∀i m e f,W i m e f→
   (J.stop i f/\Q (.ref D) f)\/(J.go i f/\∃h:St->Hp->Prop,(∀b d,h b d->∃l,l<m/\W (i+1) l b d)∧
     ∀ x H2,J.yld i f x H2->g x e H2 λa H3=>r a H3 λok H4=>
       if ok=true then q a H4 λk H5=>p a H5 λy n=>∃c j,k=kV j/\n D=some (.dK c)/\c.length<sizeLine/\h a (upd n D (.dK (putK c j y))) else h a H4)
def CW(js:List (Option Nat))(d:TI)(g:TG)(e:TT)(c b:TE):TE:=λa H Q=>d a H λJ H1=>∀D,H1 D=none->Hs J g e c b Q D (jQ js a) (upd H1 D (.dK []))
def DC{X:Cx}{N:List Str}{js:List (Option Nat)}{a:Scope}{cl:List (Str×Addr)}{tg P kx vx M:Expr}{a9:List Expr}{pos b2:Pos}{wi:TI}{g gt:TG}{tt:TT}{tk tv:TE}
  (S:aU X N js a cl) (hc:X.calm=true) (hi:PI X tg P wi)
  (hg:∀C s H fp,PG (aN X N a cl C s H fp) tg g) (ht:∀C s H fp,mK (aN X N a cl C s H fp) a9 tt) (hk:∀C s H fp,PE (aN X N a cl C s H fp) kx tk) (hv:∀C s H fp,PE (aN X N a cl C s H fp) vx tv) (d6:PG X M gt)
  (hs:∀x,foldedSetIterable P X.env x=pure x:=by intro _;rfl) (d9:swapsWithSole [M] (.DictComp kx vx [⟨tg,P,a9,0⟩] a pos) b2.line X.env=pure true:=by rfl)
  (h1:(assignEach [M] X.env).map (·.2)= [assign M X.env]:=by rfl):PS X (.Assign [M] (.DictComp kx vx [⟨tg,P,a9,0⟩] a pos) b2) (Bz (CW js wi g tt tk tv) gt):=by
 intro Z s σ H Dn I h
 rw[exec_Assign_arm]
 refine Qaq (wpAny_standAt (Qaq (wpAny_of_eq d9 (wpAny_ite_true rfl (Qaq ?_)))))
 rw[h1]
 show wpAny _ _ (do let _←comprehension _ _ _ _ _ _ _ (some λv=>assignAll v [assign M X.env]);pure ()) _ _ _
 refine Qaq ?_
 refine wpAny_comprehension_free (use:=some λv=>assignAll v [assign M X.env]) rfl hs S.clos S.kind S.names (c8 (hi Z s σ H _ I h) λv s1 h1=>c8 h1 λe8 t h2=> ?_)
 obtain⟨it,fp,tn,J,H2,e,F,T,b5,f2,hD⟩:=h2
 subst e
 refine QhQ (wpAny_newFunctionEnv S.nocell (by intro y hy;simp at hy) (λR K B=> ?_) S.kind)
 dsimp only at K B⊢
 generalize a7:t.heap.push {cls:=.type "dict",data:=.dict #[]}=P2 at K B⊢
 have hC:P2.objs.size=t.heap.objs.size+1:=by rw[←a7,Heap.size_push]
 have b4:t.heap.objs.size≠P2.objs.size:=by rw[hC];exact Qwq (Nat.lt_succ_self _)
 have a5:t.heap.objs.size<=P2.objs.size:=by rw[hC];exact Nat.le_succ _
 have G:∀b,b<t.heap.objs.size->b≠P2.objs.size:=λb f=>by rw[hC];exact Qwq (Nat.lt_succ_of_lt f)
 have a1:∀b o,t.heap.get? b=some o->R.get? b=some o:=λb o e=>B.extBut b o (G b (Qiq e)) (Qcq _ (a7▸Qcq _ e))
 have e6:R.get? t.heap.objs.size=some {cls:=.type "dict",data:=.dict #[]}:=B.extBut _ _ b4 (Qcq _ (a7▸Qrq _ rfl))
 have nD:H2 t.heap.objs.size=none:=F.fresh
 have nC:H2 P2.objs.size=none:=F.hok.fresh a5
 have b3:∀b∈fp,b<t.heap.objs.size:=λb f=>by
  obtain⟨o,e,_⟩:=T.obj _ _ b5 b f
  exact Qiq e
 obtain⟨W,⟨m0,w0⟩,d2⟩:=hD t.heap.objs.size nD
 have d1:(aN X N a cl P2.objs.size t H2 fp).Ok:=by
  refine⟨F.ok.mod,S.kind,F.ok.glob,F.ok.blt,a5,λx y c h1 h2=>F.ok.inj x y c (S.sub x c h1) (S.sub y c h2),S.has,(λx c h=>by cases h),F.ok.hd,F.ok.frames,.inl rfl,
   λb f=>⟨G b (b3 b f),λx c h=>(f2 b f).2.2.2.2.1 x c (S.sub x c h)⟩,F.bs,QAq F.ok.bsz F.sz,λb o e f=> ?_,λb f z=> ?_,F.stack,F.stkFree⟩
  ·rcases(f2 b f).2.2.2.1 with z|z
   ·exact F.ok.noex b o e z
   ·exact absurd (Qqq (Qqq (Qiq e) F.ok.bsz) z) (Nat.lt_irrefl _)
  ·rcases Qsq.mp (F.stkSub b z) with q|q
   ·exact(f2 b f).2.1 q
   ·exact(f2 b f).2.2.1 q
 have c5:cC X.prog X.w (upd H2 t.heap.objs.size (.dK [])) R t.heap.objs.size (.dK []):=by
  obtain⟨o,es,ep,e1,e2⟩:=Heap.DictOf.new (knd:=bM X.prog X.w) t.heap
  exact sA (Nat.zero_le _) (beq_eq_false_iff_ne.mpr (Ne.symm (Qwq F.big))) .nil ⟨o,es,ep,B.extBut _ _ b4 (Qcq _ (a7▸e1)),e2⟩
 have I4:Inv (aN X N a cl P2.objs.size t H2 fp) [] (jQ js σ) (upd H2 t.heap.objs.size (.dK [])) {t with heap:=R,toks:=t.toks+([]:List (Str×Value)).length}:=by
  refine⟨d1,rfl,F.bare,Un.laid a1 (Qmq _) nD,⟨_,K,λi x v h1 h2 h3=> ?_⟩,λx c h=> ?_,by show upd H2 _ _ P2.objs.size=none;rw[bh b4.symm];exact nC,λx c h=> ?_,λp hp=>absurd (show p∈([]:List (Addr×Obj)) from hp) (by simp),F.hok.laid a1 (Qmq _) c5,by show(jQ js σ).length=N.length;unfold jQ;rw[lQm];exact S.len⟩
  ·unfold jQ at h2
   rw[gQm] at h2
   cases e:js[i]? with
   |none=>rw[e] at h2;cases h2
   | some o=>
     rw[e] at h2
     cases o with
     |none=>cases h2
     | some j=>
       have a2:σ.getD j none=some v:=QdQ h2
       have hj:σ[j]?=some (some v):=by
         rw[Qlq] at a2
         cases q:σ[j]? with
         |none=>rw[q] at a2;cases a2
         |some y=>rw[q] at a2;exact congrArg some a2
       obtain⟨c1,c2,c3⟩:=S.cap i j x e h1
       obtain⟨m,hn,hl⟩:=F.loc
       have d5:Gq X.env.scope x:=by
         rcases c2 with z|z
         · exact .inr (.inl z)
         · exact .inr (.inr z)
       obtain⟨u,r,l⟩:=hl j x v c1 hj d5
       refine⟨u,r,.inr ⟨c3,?_⟩⟩
       obtain⟨c,b8⟩:=S.has x c3
       refine⟨c,b8,?_⟩
       rcases l with⟨z,_⟩|⟨_,c',e',z⟩
       · rcases c2 with y|y <;>rw[y] at z <;>cases z
       · rw[S.sub x c b8] at e'
         cases e'
         obtain⟨o,ho,hd⟩:=z
         exact⟨o,a1 _ _ ho,hd⟩
  ·obtain⟨v,o,ho,hd⟩:=F.cell x c (S.sub x c h)
   exact⟨v,o,a1 _ _ ho,hd⟩
  ·obtain⟨v,o,ho,hd⟩:=F.cell x c (S.sub x c h)
   rw[bh (Qwq (Qiq ho))]
   exact F.freeC x c (S.sub x c h)
 have a4:∀{Y:List (Addr×Obj)} {H':Hp},Y= []->(∀b∈fp,H' b=none)->∀b∈fp,oV (aN X N a cl P2.objs.size t H2 fp) Y H' b:=λ{Y H'} ep hn b f=>by
  subst ep
  refine⟨hn b f,G b (b3 b f),λz=>d1.exfs b f z,.inl f,λx c h=>(f2 b f).2.2.2.2.1 x c (S.sub x c h),λp hp=>absurd (show p∈([]:List (Addr×Obj)) from hp) (by simp)⟩
 have b1:codeAny (model X.prog X.w) X.A (.compLoop (.DictComp kx vx [⟨tg,P,a9,0⟩] a pos) 0 (.ref it) (.ref t.heap.objs.size) (compEnvC a cl P2.objs.size X.env))
   (compPost (model X.prog X.w) X.A X.xe (some λv=>assignAll v [assign M X.env]) (λ_ s9=>wpAny (model X.prog X.w) X.A (pure ()) (λ_ e3=>wpAny (model X.prog X.w) X.A (pure Flow.next) (SP X Z Dn) X.xe e3) X.xe s9) (.ref t.heap.objs.size) P2.objs.size) {t with heap:=R,toks:=t.toks+([]:List (Str×Value)).length}:=by
  refine tJ (λn s'=>∃i a3 H',Inv (aN X N a cl P2.objs.size t H2 fp) [] a3 H' s'/\tn i s'.heap/\(∀b∈fp,H' b=none)/\W i n a3 H') ?_ m0
   ⟨0,_,_,I4,T.keep _ _ _ b5 λb _ o e=>a1 b o e,λb f=>by rw[bh (Qwq (b3 b f))];exact(f2 b f).1,w0⟩
  rintro n s3 ⟨i,a6,H3,I3,c4,c6,w3⟩
  rcases d2 i n a6 H3 w3 with⟨stop,q⟩|⟨go,Nx,hN,b7⟩
  ·refine c8 (T.done (aN X N a cl P2.objs.size t H2 fp) rfl rfl rfl hc i [] s3 a6 H3 _ I3 (a4 rfl c6) c4 stop) λr s4 U=> ?_
   obtain⟨hr,I5⟩:=U
   subst hr
   obtain⟨m,hn,_⟩:=id I5.loc
   have e5:∀h',Heap.SameBut P2.objs.size s4.heap h'->Inv X Z σ H3 {s4 with heap:=h'}:=by
    intro h' Q
    have u:=I5.base
    have ne:∀b o,t.heap.get? b=some o->b≠P2.objs.size:=λb o e=>G b (Qiq e)
    refine F.call' (ch:=fp) I5.os ⟨λb o e n f hx=>(Q.2 b (ne b o e)).trans (u.keep b o e n f hx),λb o e n f hx=> ?_,u.free,λb o e hx=> ?_,u.tups,u.frzs,u.tbls⟩ (λb ob e=> ?_) I5.bare λb f=>⟨(f2 b f).2.2.2.1,(f2 b f).2.1,(f2 b f).2.2.2.2.1,(f2 b f).2.2.2.2.2⟩
    ·obtain⟨sl,e1⟩:=u.slot b o e n f hx
     exact⟨sl,(Q.2 b (ne b o e)).trans e1⟩
    ·obtain⟨o',e1⟩:=u.there b o e hx
     exact⟨o',(Q.2 b (ne b o e)).trans e1⟩
    ·refine(I5.hok b ob e).stay (λc w' hc q=>(Q.2 c ?_).trans q) (λ_ q=>q) λ_ _ q=>q
     have fC:H3 P2.objs.size=none:=I5.free
     rintro rfl
     rcases hc with z|z
     ·rw[←z,fC] at e;cases e
     ·rw[fC] at z;cases z
   have IX:=e5 s4.heap ⟨rfl,λ_ _=>rfl⟩
   have b0:oV X Z H3 P2.objs.size:=F.fpOk a5 I5.free
   obtain⟨oC,es,ep,b9,d3,e0⟩:=hn
   have IP:=IX.pinned (fp:= [P2.objs.size]) (λb f=>by rw[Qfq] at f;rw[f];exact b0) (λb f=>by rw[Qfq] at f;rw[f];exact⟨oC,b9,λv=>by rw[d3];simp⟩)
   show wpAny _ _ (assignAll (.ref t.heap.objs.size) [assign M X.env]) _ _ _
   rw[assignAll.eq_2]
   refine c8 (d6 _ s4 σ H3 (.ref t.heap.objs.size) (.ref t.heap.objs.size) _ IP rfl q) λ_ s6 U=> ?_
   obtain⟨L,H6,I6,q6⟩:=U
   have pC:=I6.pin (P2.objs.size,oC) (Qoq _ (Qoq _ (dm (Qfq.mpr rfl) b9)))
   refine⟨m,⟨oC,es,ep,pC.1,d3,e0⟩,λh' Q=>Qgq (Qgq ⟨L,H6,?_,q6⟩)⟩
   exact I6.unpinned.turned (it:=P2.objs.size) (t':=s6.toks) (λb o' f e=>(Q.2 b f).trans e) pC.2.1 pC.2.2.1 b0.2.2.2.1 b0.2.2.2.2.1 b0.2.2.2.2.2
  ·refine c8 (T.item (aN X N a cl P2.objs.size t H2 fp) rfl rfl rfl hc i [] s3 a6 H3 _ I3 (a4 rfl c6) c4 go) λr s4 U=> ?_
   obtain⟨u,hr,h4⟩:=U
   subst hr
   refine c8 h4 λ_ s5 U=> ?_
   obtain⟨x,H5,I5,r5,y5,b6,e4⟩:=U
   have d7:=I5.pinned (a4 rfl e4) (T.obj _ _ b6)
   refine c8 (hg P2.objs.size t H2 fp _ s5 a6 H5 x u _ d7 r5 (b7 x H5 y5)) λ_ s6 U=> ?_
   obtain⟨L,H6,I6,q6⟩:=U
   refine c8 (ht P2.objs.size t H2 fp _ s6 L H6 _ I6 q6) λok s7 U=> ?_
   obtain⟨H7,I7,q7⟩:=U
   have again:∀{s8:Shared} {H8:Hp},Inv (aN X N a cl P2.objs.size t H2 fp) ([]++my fp s5.heap) L H8 s8->Nx L H8->∃m,m<n/\∃i a3 H',Inv (aN X N a cl P2.objs.size t H2 fp) [] a3 H' s8/\tn i s8.heap/\(∀b∈fp,H' b=none)/\W i m a3 H':=λ{s8 H8} I8 n8=>by
    obtain⟨m',hm,w8⟩:=hN L H8 n8
    refine⟨m',hm,i+1,L,H8,I8.unpinned,T.keep _ _ _ b6 λb f o e=>(I8.pin (b,o) (Qoq _ (Qoq _ (dm f e)))).1,λb f=> ?_,w8⟩
    obtain⟨o,e,d⟩:=T.obj _ _ b6 b f
    exact(I8.pin (b,o) (Qoq _ (Qoq _ (dm f e)))).2.1
   cases ok with
   |false=>exact again I7 q7
   | true=>
     refine c8 (hk P2.objs.size t H2 fp _ s7 L H7 _ I7 q7) λkv s8 U=> ?_
     obtain⟨k,H8,I8,rk,q8⟩:=U
     refine c8 (hv P2.objs.size t H2 fp _ s8 L H8 _ I8 q8) λyv s9 U=> ?_
     obtain⟨y,H9,I9,ry,d8,ky,ek,hx,hl,n9⟩:=U
     subst ek
     obtain⟨z,hd,vs,d4,dd⟩:=Am I9.hok hx
     refine wpAny_dictSet_pairs (xw rk) dd (λh' c0 Q=> ?_) (by rw[←d4.length];exact z)
     have he:∃q,h'.get? t.heap.objs.size=some q:=let ⟨q,_,_,hq,_⟩:=c0;⟨q,hq⟩
     have e7:=iz d8 ky y
     exact again (qB I9 (by rw[hx];exact True.intro) Q he (sA (by omega) hd (d4.put ky ry) c0)) n9
 exact codeAny_compStart_dict b1 (T.self _ 0 _ _ _ (T.keep _ _ _ b5 λb _ o e=>a1 b o e) b1)
end L2
namespace DL
open PySem PySem.Spec PyProof.Rows L2
section
variable{M:Md}{ρ:List Addr}{H:Hp}{b:Addr}{us:List (Key×V)}{o:HO}
theorem fL.offK{S:aG}(st:fL M ρ S H)(g:H b=some (.dK us))(n:b∉ρ):fL M ρ S (upd H b o):=⟨st.len,st.nd,λk a p h l=>by
 have q:=st.obj k a p h l
 have e:a≠b:=λz=>n (z▸mQg h)
 cases p with
 |lst m=>obtain⟨f,c,d⟩:=q;exact⟨f,by rw[bh e];exact c,d.offK g⟩
 |frz m=>obtain⟨f,o,c,d⟩:=q;exact⟨f,o,by rw[bh e];exact c,d.offK g⟩
 |dct j=>obtain⟨i,c,d⟩:=q;exact⟨i,by rw[bh e];exact c,d.imp λ_ _ r=>r.offK g⟩⟩
def En.offK{a:cD}{c:L2.St}(h:En M ρ H a c)(e:H b=some (.dK us)):En M ρ (upd H b o) a c:=⟨h.len,λi d q=>by obtain⟨v,f,g⟩:=h.get i d q;exact⟨v,f,g.offK e⟩⟩
end
open Classical in
def iP(g:lB)(t:iY)(c b:bx)(W:aG->Prop):List D->cD->aG->List (Key×D)->Option (List (Key×D)×aG)
 | [],Γ,S,acc=>if W S then some (acc,S) else none
 |d ::ds,Γ,S,acc=>if W S then(g d Γ S).bind λ(a,j)=>(t a j).bind λ(k,e)=>
    if k=true then(c a e).bind λ(x,h)=>(b a h).bind λ(y,f)=>(tm x).bind λi=>if acc.length<sizeLine then iP g t c b W ds a f (putD acc i y) else none
    else iP g t c b W ds a e acc
  else none
def oT(js:List (Option Nat))(i:sR)(g:lB)(t:iY)(c b:bx):cD->aG->Option (List (Key×D)×aG):=λa S=>(i a S).bind λ(p,d)=>iP g t c b p.2 p.1 (mh js a) d []
def Ew{M:Md}{js:List (Option Nat)}{i:sR}{g:lB}{t:iY}{fk fv:bx}{σ:L2.St}{H:Hp}{Q:VK}{ρ:List Addr}{Γ:cD}{S S':aG}{l:List (Key×D)}(ok:Ok M ρ Γ S σ H)(e:oT js i g t fk fv Γ S=some (l,S'))
  (q:∀b a kv f,bU ρ H b f->fL M b S' f->H a=none->a∉b->f a=some (.dK kv)->cg M b f l kv->Q (.ref a) f):CW js (tI M i) (tG M g) (tB M t) (tD M fk) (tD M fv) σ H Q:=by
 obtain⟨⟨⟨n,W⟩,S1⟩,e1,e⟩:=ar e
 refine⟨ρ,Γ,S,n,W,S1,ok,e1,λo J H1 x1 Z wk D U=> ?_⟩
 have n1:D∉o:=dC x1 Z U
 have a9:Ok M o (mh js Γ) S1 (jQ js σ) (upd H1 D (.dK [])):=⟨((ok.en.ext x1).ext (bU.laid U)).sig js,Z.lay U⟩
 refine⟨λi m u f=>m=n.length-i/\i<=n.length/\∃d s R c j,bU o H1 d f/\Ok M d s R u f/\D∉d/\f D=some (.dK j)/\cg M d f c j/\iP g t fk fv W (n.drop i) s R c=some (l,S'),
  ⟨n.length,by simp,Nat.zero_le _,o,_,S1,[],[],bU.laid U,a9,n1,bD,rfl,e⟩,?_⟩
 rintro i m b5 H2 ⟨rfl,hi,d,s,R,c,j,x2,ok2,n2,hD2,racc,e2⟩
 by_cases I:i<n.length
 ·have hd:n[i]?=some n[i]:=gQe I
  rw[QWq I] at e2
  unfold iP at e2
  split at e2
  ·rename_i w
   obtain⟨w1,w2⟩:=wk i d R H2 x2 ok2.st w
   obtain⟨go,b1⟩:=w1 _ hd
   refine .inr ⟨go,λu f=>∃b F A c j,bU o H1 b f/\Ok M b F A u f/\D∉b/\f D=some (.dK j)/\cg M b f c j/\iP g t fk fv W (n.drop (i+1)) F A c=some (l,S'),
    λu f ⟨b,F,A,c,j,h1,h2,h3,h4,h5,h6⟩=>⟨n.length-(i+1),by omega,rfl,I,b,F,A,c,j,h1,h2,h3,h4,h5,h6⟩,λx H3 hy=> ?_⟩
   obtain⟨x3,a5,r3⟩:=b1 x H3 hy
   obtain⟨⟨h,S4⟩,e4,e5⟩:=ar e2
   refine⟨d,s,R,_,h,S4,ok2.to x3 a5,r3,e4,λb3 b4 H4 x4 p=> ?_⟩
   obtain⟨⟨k,S5⟩,e6,e7⟩:=ar e5
   refine⟨b3,h,S4,k,S5,p,e6,λX H5 Y N=> ?_⟩
   have B:=(x3.trans x4).trans Y
   have G:∀{b f},bU d H2 b f->f D=some (.dK j)/\D∉b:=λ{b f} x=>⟨x.keep _ _ hD2 (.inl n2),λm=>(x.new _ m).elim n2 λz=>by rw[z] at hD2;cases hD2⟩
   dsimp only at e7⊢
   split at e7
   ·rename_i ck
    rw[Qhq ck]
    obtain⟨⟨kx,S6⟩,e8,e9⟩:=ar e7
    obtain⟨⟨y,S7⟩,a3,b0⟩:=ar e9
    obtain⟨kk,a7,P⟩:=ar b0
    refine⟨X,h,S5,kx,S6,p.to Y N,e8,λa6 kv H6 x6 a2 r6=>⟨a6,h,S6,y,S7,(p.to Y N).to x6 a2,a3,λa1 v H7 x7 a4 r7=> ?_⟩⟩
    have L:=(B.trans x6).trans x7
    obtain⟨C,n7⟩:=G L
    have K:=racc.ext' L
    split at P
    ·rename_i cl
     refine⟨j,kk,qv r6 a7,C,by rw[←racc.length];exact cl,a1,h,S7,putD c kk y,_,(x2.trans L).off U _,⟨(((p.en.ext Y).ext x6).ext x7).offK C,a4.offK C n7⟩,n7,bD,(K.put r7).imp λ_ _ r=>r.offK C,P⟩
    ·cases P
   ·rename_i ck
    rw[Quq ck]
    obtain⟨b2,n5⟩:=G B
    exact⟨X,h,S5,c,j,x2.trans B,p.to Y N,n5,b2,racc.ext' B,e7⟩
  ·cases e2
 ·have e3:i=n.length:=by omega
  subst e3
  rw[List.drop_length] at e2
  unfold iP at e2
  split at e2
  ·rename_i w
   obtain⟨rfl,rfl⟩:=cy e2
   obtain⟨w1,w2⟩:=wk n.length d R H2 x2 ok2.st w
   exact .inl ⟨w2 rfl,q d D j H2 (x1.trans x2) ok2.st (x1.grow _ U) n2 hD2 racc⟩
  ·cases e2
def Iy(n:Nat)(f:cD->aG->Option (List (Key×D)×aG)):cY:=λa S=>(f a S).bind λ(l,b)=>some (.nx (a.set n (some (.ref b.length))) (b++ [.dct l]))
section
variable{X:Cx}{pos:Pos}
def EJ{N:List Str}{js:List (Option Nat)}{c:Scope}{p:List (Str×Addr)}{r d u z f:Expr}{j:List Expr}{i:sR}{g:lB}{t:iY}{A I:bx}{n:Nat}{h:Pos}
  (S:aU X N js c p) (U:X.calm=true) (hi:PI X r d (tI (md X) i))
  (K:∀C s H fp,PG (aN X N c p C s H fp) r (tG (md X) g)) (ht:∀C s H fp,mK (aN X N c p C s H fp) j (tB (md X) t)) (Q:∀C s H fp,PE (aN X N c p C s H fp) u (tD (md X) A)) (hv:∀C s H fp,PE (aN X N c p C s H fp) z (tD (md X) I)) (y:PG X f (oh n))
  (hs:∀x,foldedSetIterable d X.env x=pure x:=by intro _;rfl) (w:swapsWithSole [f] (.DictComp u z [⟨r,d,j,0⟩] c pos) h.line X.env=pure true:=by rfl)
  (L:(assignEach [f] X.env).map (·.2)= [assign f X.env]:=by rfl):PS X (.Assign [f] (.DictComp u z [⟨r,d,j,0⟩] c pos) h) (tS (md X) (Iy n (oT js i g t A I))):=
 B_ (DC S U hi K ht Q hv y hs w L) λD σ H J=>by
  obtain⟨Z,Γ,S,o,ok,e,q⟩:=J
  obtain⟨⟨l,S1⟩,R,e⟩:=ar e
  cases e
  refine Ew ok R λk a M F x G Y W P rs=> ?_
  have v:=G.box (o:=.dct l) W ⟨M,P,rs.pre' (List.prefix_append k [a])⟩
  have B:bU Z H (k++ [a]) F:=⟨x.pre.trans (List.prefix_append _ _),λb m=>by
   rcases mQa.mp m with m|m
   ·exact x.new b m
   ·rw[Qfq] at m;subst m;exact .inr Y,x.keep,x.grow⟩
  refine q (k++ [a]) _ F B ⟨((ok.en.ext B).set (.ref ?_)),v⟩
  rw[←G.len,QQq (Qmq _)]
  simp
end
end DL
namespace Zp
open PySem PySem.W PyProof.Rows
end Zp
namespace L2
open PySem PySem.Spec PyProof.Rows
end L2
namespace DL
open PySem PySem.Spec PyProof.Rows L2
def nz(a b:Str):Prop:=¬(b.cps.toList<a.cps.toList)
instance(a b:Str):Decidable (nz a b):=by unfold nz;infer_instance
def Bt(a b:Str):nz a b\/nz b a:=by
 by_cases h:b.cps.toList<a.cps.toList
 ·exact .inr λc=>List.lt_asymm h c
 ·exact .inl h
def uo{a b c:Str}(d:nz a b)(e:nz b c):nz a c:=by
 unfold nz at *
 rw[List.not_lt] at *
 exact List.le_trans d e
def wX{a b:Str}(c:nz a b)(d:nz b a):a=b:=by
 unfold nz at *
 rw[List.not_lt] at *
 have:=List.le_antisymm c d
 cases a
 cases b
 simp only[Str.mk.injEq]
 exact Array.toList_inj.mp this
def zy(x:Str):List Str->List Str
 | []=> [x]
 |y::r=>if nz x y then x::y::r else y::zy x r
def ml:List Str->List Str
 | []=> []
 |x::r=>zy x (ml r)
theorem pw(x:Str):∀l:List Str,(zy x l).Perm (x::l)
 | []=>List.Perm.refl _
 | y::r=>by
   unfold zy
   split
   · exact List.Perm.refl _
   · exact((pw x r).cons y).trans (List.Perm.swap _ _ _)
theorem iG:∀l:List Str,(ml l).Perm l
 | []=>List.Perm.refl _
 |x::r=>(pw x _).trans ((iG r).cons x)
theorem pD{x:Str}:∀{l:List Str},l.Pairwise nz->(zy x l).Pairwise nz
 | [],_=>by simp[zy]
 | y::r,h=>by
   rw[List.pairwise_cons] at h
   unfold zy
   split
   · rename_i c
     refine List.pairwise_cons.mpr ⟨λz a=> ?_,List.pairwise_cons.mpr h⟩
     rcases Qsq.mp a with rfl|a
     · exact c
     · exact uo c (h.1 z a)
   · rename_i c
     refine List.pairwise_cons.mpr ⟨λz a=> ?_,pD h.2⟩
     rcases Qsq.mp ((pw x r).mem_iff.mp a) with rfl|a
     · exact(Bt _ _).resolve_left c
     · exact h.1 z a
theorem fZ:∀l:List Str,(ml l).Pairwise nz
 | []=>List.Pairwise.nil
 |x::r=>pD (fZ r)
def vN:∀{l:List Str},sortedS l=true->l.Pairwise nz
 | [],_=>List.Pairwise.nil
 | x::r,h=>by
   have d:∀(r:List Str) (x:Str),risingS x r=true->(x::r).Pairwise nz:=by
     intro r
     induction r with
     |nil=>intro x _;simp
     | cons y r e=>
       intro x h
       unfold risingS at h
       simp only[QCq] at h
       have b:=e y h.2
       have c:nz x y:=by
         have:=h.1
         unfold nz
         rw[ltCps_eq] at this
         simpa using this
       refine List.pairwise_cons.mpr ⟨λz a=> ?_,b⟩
       rcases Qsq.mp a with rfl|a
       · exact c
       · exact uo c ((List.pairwise_cons.mp b).1 z a)
   exact d r x h
def Bi{c d:List Str}(h:sortedS c=true)(p:c.Perm d):c=ml d:=
 List.Perm.eq_of_pairwise (le:=nz) (λa b _ _ e f=>wX e f) (vN h) (fZ d) (p.trans (iG d).symm)
end DL
namespace L2
open PySem PySem.Spec PyProof.Rows
end L2
namespace DL
open PySem PySem.Spec L2
section
variable{X:Cx}{a b e:Expr}{pos:Pos}
def ub:List D->Option (List Str)
 | []=>some []
 |.str x::r=>(ub r).bind λc=>some (x::c)
 |_::_=>none
theorem yj{M:Md}{ρ:List Addr}{H:Hp}:∀{ds:List D} {vs:List V} {xs:List Str},bj M ρ H ds vs->ub ds=some xs->vs=xs.map V.str
 | [],_,_,h,e=>by cases h;cases e;rfl
 | d::ds,_,_,h,e=>by
   cases d with
   | str b=>
     simp only[ub] at e
     obtain⟨g,f,e⟩:=ar e
     cases e
     cases h with
     | cons h c=>
       cases h
       rw[yj c f]
       rfl
   |_=>cases e
theorem uF{M:Md}{ρ:List Addr}{H:Hp}:∀c:List Str,bj M ρ H (c.map D.str) (c.map V.str)
 | []=>.nil
 |s::c=>.cons (.str s) (uF c)
def xA(f:eN):fU:=λd S=>(f d S).bind λ(p,g)=>if p.2.isL=true then(ub p.1).bind λc=>if c.length<64 then some ((ml c).map D.str,g) else none else none
def Js{f:eN}{p:Pos}(m:Gl X "sorted")(F:X.mg "sorted"=none)(s:PE X a (tQ (md X) f))(i:starEach [a] X.env= [(false,eval a X.env)]:=by rfl):
  PE X (.Call (.Name "sorted" p) [a] [] pos) (tL (md X) (xA f)):=
 kD (ku vK m F PyProof.Rows.boot_sorted (c_ s gy i) (he:=i)) λI H Q k=>by
  obtain⟨w,j,S,d,L,ok,e,q⟩:=k
  obtain⟨⟨⟨B,t⟩,A⟩,u,e⟩:=ar e
  dsimp only at e
  split at e
  ·rename_i c
   obtain⟨v,C,e⟩:=ar e
   split at e
   ·rename_i o
    obtain⟨rfl,rfl⟩:=cy e
    refine⟨w,j,S,B,t,A,ok,u,λG a J K x g h r=>⟨a,v,rfl,?_,o,λl z hl n y=> ?_⟩⟩
    ·rw[←yj r C];exact h.sqL c
    ·cases Bi n y
     exact q _ _ _ _ (x.trans (bU.laid hl)) (g.lay hl) (x.grow _ hl) (dC x g hl) bD (uF _)
   ·cases e
  ·cases e
end
def wq{P:Program}{w:World}{K:PySem.W.Frag}{mg:Str->Option Value}{base:Heap}{f:Addr}{d:FuncData}{ps:List Str}{k n:Nat}:bA P w K mg base dY k f d ps (eK ⟨K,mg⟩ n λ_ _=>none):=
 {len:=λc H Q E h=>by
   obtain⟨_,_,_,_,_,_,_,_,e,_⟩:=h
   cases e
  run:=λA a s H b g c Q E _ _ _ _ h=>by
   obtain⟨_,_,_,_,_,_,_,_,e,_⟩:=h
   cases e}
end DL
namespace Zq
open PySem PyProof.Rows
end Zq
namespace L2
open PySem PyProof.Rows Zq
end L2
namespace DL
open PySem PySem.Spec L2
structure Az(P:Program)(w:World)(K:PySem.W.Frag)(mg:Str->Option Value)(x:Str)(tbl:List (Str×Str)):Prop where
 at_:∃a,mg x=some (.ref a)/\∀h:Heap,K.In h->∃vs,h.DictOf (bM P w) a vs/\∀k nm,tbl.lookup k=some nm->∃f,valueAt vs (Sum.inr k:Key)=some (.ref f)/\mg nm=some (.ref f)
section
variable{X:Cx}{a b c e:Expr}{pos:Pos}
def J7(d:List (Str×Str))(g:bx):bx:=λf S=>(g f S).bind λ(y,h)=>match y with
 |.str x=>(d.lookup x).bind λnm=>some (.fn nm,h)
 |_=>none
def FA{x:Str}{j:List (Str×Str)}{g:bx}{p:Pos}(hD:Az X.prog X.w X.K X.mg x j)(L:Gl X x)(hb:PE X b (tD (md X) g))(Z:FQ b)(hd:(x==("__debug__":Str))=false:=by decide):
  PE X (.Subscript (.Name x p) b pos) (tD (md X) (J7 j g)):=by
 rintro i s N H Q I ⟨A,C,S,d,S',ok,e,q⟩
 obtain⟨a,hm,hK⟩:=hD.at_
 obtain⟨⟨y,B⟩,R,e⟩:=ar e
 cases y with
 | str z=>
   obtain⟨nm,e2,e⟩:=ar e
   obtain⟨rfl,rfl⟩:=cy e
   refine Ag PySem.F.slot_dict_getitem.lookup Z (vZ I L hm ?_ hd)
   refine c8 (hb i s N H (λv l=>∃h,bU A H h l/\fL (md X) h B l/\Rel (md X) h l (.str z) v) I ⟨A,C,S,_,B,ok,R,λh v l x Y r=>⟨h,x,Y,r⟩⟩) λiv G J=> ?_
   obtain⟨v,H2,t,P,h,W,m,r2⟩:=J
   obtain⟨vs,u,hv⟩:=hK _ t.kIn
   obtain⟨f,U,n⟩:=hv z nm e2
   cases r2
   have ty:G.TypeIs (.ref a) "dict":=by
     obtain⟨o,es,ep,M,h2,h3,_⟩:=u
     exact⟨o,M,h2.1⟩
   refine⟨ty,wpAny_getItem_of (xw (k:=Sum.inr z) P) u.mapOf U ?_⟩
   exact⟨.ref f,H2,t.tok _,rfl,q _ _ _ W m (.fn n)⟩
 |_=>cases e
def sx(i:Nat)(T:List (Str×dA))(g:fU):bx:=λd S=>match d[i]? with
 |some (some (.fn x))=>(T.lookup x).bind λF=>aA F g d S
 |_=>none
def Fb{i k:Nat}{y:Str}{ps:List Str}{T:List (Str×dA)}{j:List Expr}{g:fU}{p:Pos}(hT:∀x F,T.lookup x=some F->fg X.prog X.w X.K X.mg X.base k x ps F)(U:fH k X.A)(hN:X.N[i]?=some y)(hv:Gq X.env.scope y)
  (ha:PA X (e::j) (xk (md X) g)) (hn:nA ps.length g) (z:(y==("__debug__":Str))=false:=by decide) (t:(y==("__classdict__":Str))=false:=by decide) (he:starEach (e::j) X.env=(false,eval e X.env)::starEach j X.env:=by rfl) (hpl:(backTo pos (starEach j X.env)).any (·.1)=false:=by rfl):
  PE X (.Call (.Name y p) (e::j) [] pos) (tD (md X) (sx i T g)):=by
 rintro h s n H Q I ⟨ρ,M,S,d,S',ok,e,q⟩
 unfold sx at e
 split at e
 ·rename_i x Z
  obtain⟨F,o,e⟩:=ar e
  obtain⟨f,fd,G,bb,R,m⟩:=(hT x F o).ex
  obtain⟨v,B,Y⟩:=ok.en.get i _ Z
  cases Y with
  | fn hm=>
    have J:(md X).mg x=some (.ref f):=m
    rw[hm] at J
    cases J
    refine wpAny_Call_Name_kw (c8 (Dq hN hv z t h s n H (λL l=>L=.ref f/\l=H) I ⟨_,B,rfl,rfl⟩) λu s1 P=> ?_)
    obtain⟨L,l,I1,r1,o,e2⟩:=P
    subst o e2
    cases (show u=Value.ref f from r1)
    refine PySem.W.callWith_K (h₀:=X.base) I.ok.mod.kin R (c8 (ha pos h s1 n l _ I1 (Ac hn n l Q ⟨ρ,M,S,d,S',ok,e,q⟩)) λus s2 ⟨vs,H1,C,r,q2⟩=>⟨C.kIn,?_⟩) he hpl
    exact DG G U bb .nil D3 C r q2
 ·cases e
end
def zK(w:World)(x:Str):PyData.keyHash w.params x=hashStr w x:=by
 unfold PyData.keyHash hashStr
 first|rfl|simp
inductive Al(w:World)(mg:Str->Option Value):List DictEntry->List (Str×Str)->Prop
 |nil:Al w mg [] []
 |cons {x nm:Str} {t:Tok} {f:Addr} {es:List DictEntry} {tbl:List (Str×Str)}:mg nm=some (.ref f)->Al w mg es tbl->Al w mg (⟨PyData.keyHash w.params x,.str x t,.ref f⟩::es) ((x,nm)::tbl)
def Al.keys{P:Program}{w:World}{mg:Str->Option Value}{b:List DictEntry}{a:List (Str×Str)}(c:Al w mg b a):∀e∈b,∃k,(bM P w).is k e.key=true/\e.hash=(bM P w).hash k:=by
 induction c with
 |nil=>intro e h;cases h
 | @cons x nm t f b a hm c ih=>
   intro e h
   rcases Qsq.mp h with rfl|h
   · exact⟨Sum.inr x,pz x t,zK w x⟩
   · exact ih e h
def Al.pairs{P:Program}{w:World}{mg:Str->Option Value}{b:List DictEntry}{a:List (Str×Str)}(d:Al w mg b a):∃vs:List (Key×Value),Pairs (bM P w) b vs/\vs.map (·.1)=a.map (λp=>Sum.inr p.1)∧
  ∀k nm,a.lookup k=some nm->∃f,valueAt vs (Sum.inr k:Key)=some (.ref f)/\mg nm=some (.ref f):=by
 induction d with
 |nil=>exact⟨[],.nil,rfl,λk nm h=>by cases h⟩
 | @cons x nm t f b a hm d ih=>
   obtain⟨vs,i,j,l⟩:=ih
   refine⟨(Sum.inr x,.ref f)::vs,.cons (pz x t) rfl i,by simp[j],λk n h=> ?_⟩
   by_cases c:k=x
   · subst c
     rw[List.lookup_cons_self] at h
     cases h
     refine⟨f,?_,hm⟩
     unfold valueAt
     rw[List.find?_cons_of_pos (by simp)]
     rfl
   · have o:(k==x)=false:=by simpa using c
     rw[List.lookup_cons,o] at h
     obtain⟨g,e,m⟩:=l k n h
     refine⟨g,?_,m⟩
     unfold valueAt at e⊢
     rw[List.find?_cons_of_neg]
     · exact e
     · intro z
       have:(Sum.inr x:Key)=Sum.inr k:=by simpa using z
       exact c (Sum.inr.inj this).symm
def D5{P:Program}{w:World}{K:PySem.W.Frag}{mg:Str->Option Value}{x:Str}{c:List (Str×Str)}{a:Addr}{d:List DictEntry}{r:Nat}(q:mg x=some (.ref a))(l:K.lookup a=some ⟨.type "dict",none,.dict d.toArray r,#[]⟩)(f:Al w mg d c)(nd:(c.map (·.1)).Nodup):Az P w K mg x c:=by
 obtain⟨k,g,m,o⟩:=f.pairs (P:=P)
 refine⟨a,q,λh i=>⟨k,⟨_,_,_,i _ _ l,⟨rfl,rfl,rfl⟩,rfl,λe j=>f.keys e (by simpa using j),by simpa using g,?_⟩,o⟩⟩
 rw[m]
 have:c.map (λp=>(Sum.inr p.1:Key))=(c.map (·.1)).map Sum.inr:=by rw[QPq];rfl
 rw[this]
 exact List.Pairwise.map _ (λa b n e=>n (Sum.inr.inj e)) nd
theorem Cz{P:Program}{w:World}{K:PySem.W.Frag}{mg:Str->Option Value}{base:Heap}{k:Nat}{ps:List Str}:∀{T:List (Str×dA)},(∀p∈T,fg P w K mg base k p.1 ps p.2)->∀x F,T.lookup x=some F->fg P w K mg base k x ps F
 | [],_,x,F,h=>by cases h
 | p::T,g,x,F,h=>by
   by_cases c:x=p.1
   · subst c
     rw[List.lookup_cons_self] at h
     cases h
     exact g p (QBq ..)
   · have a:(x==p.1)=false:=by simpa using c
     rw[List.lookup_cons,a] at h
     exact Cz (λq b=>g q (Qpq _ b)) x F h
def xu:Sp:=λd H Q _=>∃(a:Addr) (b:List Int) (o:Obj),d= [.ref a]/\H a=some (.frz o (.lst (b.map V.int)))/\b.length<=63/\∀c,Q (.bl true) c
theorem uh{M:Md}{ρ:List Addr}{H:Hp}:∀ns:List Int,bj M ρ H (ns.map D.int) (ns.map V.int)
 | []=>.nil
 |s::ss=>.cons (.int s) (uh ss)
def EZ{P:Program}{w:World}{K:PySem.W.Frag}{mg:Str->Option Value}{base:Heap}{k:Nat}{f:Addr}{i:FuncData}{ps:List Str}{F:dA}(G:bA P w K mg base dY k f i ps (eK ⟨K,mg⟩ 1 F))
  (h:∀ns:List Int,ns.length<=63->∃c,F [.ref 0] [.frz (ns.map D.int)]=some (.d (.bl true),c)):bA P w K mg base dY k f i ps xu:=
 G.imp λs H Q E j=>by
  obtain⟨a,ns,o,e,l,hl,q⟩:=j
  subst e
  obtain⟨c,e⟩:=h ns hl
  refine⟨[a],[.frz (ns.map D.int)],[.ref 0],_,c,rfl,.cons (.ref rfl) .nil,⟨rfl,by simp,λk b u g n=> ?_⟩,e,λp v m x t r=> ?_⟩
  ·cases k with
   |zero=>cases g;cases n;exact⟨_,o,l,uh ns⟩
   |succ k=>simp at g
  ·cases r
   exact q m
def yB(K:PySem.W.Frag):Bool:=K.all λp=>match p.2.data with|.seq _ _=>(match p.2.cls with|.type s=>s !="list" |_=>true)|_=>true
def Bc{K:PySem.W.Frag}(h:yB K=true){a:Addr}{o:Obj}(e:K.lookup a=some o){d:Array Value}{n:Nat}(hd:o.data=.seq d n):o.cls≠.type "list":=by
 intro j
 have f:∀(K:List (Addr×Obj)),K.all (λp=>match p.2.data with|.seq _ _=>(match p.2.cls with|.type s=>s !="list" |_=>true)|_=>true)=true->K.lookup a=some o->False:=by
  intro K
  induction K with
  |nil=>intro _ e;cases e
  | cons p K i=>
    intro h e
    rw[List.all_cons,QCq] at h
    obtain⟨b,q⟩:=p
    rw[List.lookup_cons] at e
    by_cases c:a=b
    · subst c
      simp only[BEq.rfl] at e
      cases e
      have g:=h.1
      simp only[hd,j] at g
      simp at g
    · have k:(a==b)=false:=by simpa using c
      rw[k] at e
      exact i h.2 e
 exact f K h e
def Ja{K:PySem.W.Frag}{H:Hp}{a:Addr}{ns:List Int}(nl:yB K=true)(hl:ns.length<=63)(b:FO H)(c:jg K H a (ns.map V.int)):xu [.ref a] H (λv _=>v=.bl true) λ_ _ _=>False:=by
 rcases c with(h|⟨o,h⟩)|⟨o,its,n,h,hc,_,hd,_⟩
 ·rcases b a with z|⟨o,d,z⟩
  ·rw[h] at z;cases z
  ·rw[h] at z;cases z
 ·exact⟨a,ns,o,rfl,h,hl,λ_=>rfl⟩
 ·exact absurd hc (Bc nl h hd)
def JW{l:PySem.W.OpenLaw}{q:Program}{b:List Str}{r:(Str->Option Value)->Heap->Prop}{g:World->Heap->Prop}{d:DefRec}{K:Params->PySem.W.Frag}{k:Nat}(p:l.most=some 63)(c:d.params.defaults= [])(j:fH k PySem.callerA)
  (m:∀(w:World) (h:Heap),g w h->(K w.params).In h) (nl:∀w:World,yB (K w.params)=true)
  (F:∀(w:World) (mg:Str->Option Value) (i:Addr) (h:Heap),(K w.params).In h->h.Ns mainGlobals mg->mg d.name=some (.ref i)→
   ∃e:FuncData,(∀(s:Shared) (u:Value),BindsTo s e ⟨[u],[]⟩ [("_law_script",u)])/\∀base:Heap,(K w.params).In base->base.Ns mainGlobals mg->bA l.prog w (K w.params) mg base dY k i e ["_law_script"] xu):
  PySem.W.WalkO q b r g l.row.toRowW d [] (λf vs=>PySem.call f vs):=
 L2.Fq (n:=63) (k:=k) (x:="_law_script") (CX:=λ_=>dY) (sp:=λ_=>xu) p (by decide) c j m F (λw H a v hl t o=>Ja (nl w) hl t o) λ_ _ _ _ _ z=>z
end DL
namespace DL
open PySem PySem.Spec L2 PyProof.Rows
section
variable{X:Cx}{x:Str}{e:Expr}{f:bx}{pos pos':Pos}
def oF(i:Nat)(c:X.N.Nodup)(he:PE X e (tD (md X) f))(hi:X.N[i]?=some x:=by rfl)(d:Loc X.env.scope x:=by first|exact Or.inl rfl|exact Or.inr rfl)(a:swapsWith e (some (.Name x pos')) pos.line X.env=pure false:=by rfl)
  (b:X.fn x=true\/X.env.scope.names.lookup x=some .local:=by first|exact .inl rfl|exact .inr rfl|assumption):PS X (.Assign [.Name x pos'] e pos) (tS (md X) (aX i f)):=II (Gw c hi d he a b)
def L7(i:Nat)(b:X.N.Nodup)(hi:X.N[i]?=some x:=by rfl)(c:Loc X.env.scope x:=by first|exact Or.inl rfl|exact Or.inr rfl)(a:X.fn x=true\/X.env.scope.names.lookup x=some .local:=by first|exact .inl rfl|exact .inr rfl|assumption):PG X (.Name x pos) (oh i):=u9 b hi c a
def E3(i:Nat)(b:X.N.Nodup)(hi:X.N[i]?=some x:=by rfl)(c:Loc X.env.scope x:=by first|exact Or.inl rfl|exact Or.inr rfl)(a:X.fn x=true\/X.env.scope.names.lookup x=some .local:=by first|exact .inl rfl|exact .inr rfl|assumption):PG X (.Name x pos) (tG (md X) (bG i)):=Cr (u9 b hi c a)
def L5{N:List Str}{a:Scope}{b:List (Str×Addr)}{C:Addr}{s:Shared}{H:Hp}{fp:List Addr}(i:Nat)(d:N.Nodup:=by decide +kernel)(hi:(aN X N a b C s H fp).N[i]?=some x:=by rfl)(g:Loc (aN X N a b C s H fp).env.scope x:=by first|exact Or.inl rfl|exact Or.inr rfl)
  (c:(aN X N a b C s H fp).fn x=true\/(aN X N a b C s H fp).env.scope.names.lookup x=some .local:=by first|exact .inl rfl|exact .inr rfl|assumption):PG (aN X N a b C s H fp) (.Name x pos) (tG (md (aN X N a b C s H fp)) (bG i)):=Cr (u9 d hi g c)
def v_(i:Nat)(c:X.N[i]?=some x:=by rfl)(b:Gq X.env.scope x:=by first|exact Or.inl rfl|exact Or.inr (Or.inl rfl)|exact Or.inr (Or.inr rfl))(hd:(x==("__debug__":Str))=false:=by decide)(a:(x==("__classdict__":Str))=false:=by decide):PE X (.Name x pos) (tD (md X) (au i)):=Jq (pv i c b hd a)
end
section
variable{X:Cx}{x:Str}{k k':Nat}{ps:List Str}{F:dA}{e:Expr}{es:List Expr}{g:fU}{p pos:Pos}
def gf(C:fg X.prog X.w X.K X.mg X.base k x ps F)(d:fH k' X.A)(b:PA X (e::es) (xk (md X) g))(c:k<=k':=by first|decide|omega)(f:Gl X x:=by rfl)
  (h:nA ps.length g:=by repeat (first|exact y0|refine lE ?_))
  (a:(x==("__debug__":Str))=false:=by decide) (he:starEach (e::es) X.env=(false,eval e X.env)::starEach es X.env:=by rfl) (hpl:(backTo pos (starEach es X.env)).any (·.1)=false:=by rfl):
  PE X (.Call (.Name x p) (e::es) [] pos) (tD (md X) (aA F g)):=IR C (d.mono c) f b h a he hpl
def JH(C:fg X.prog X.w X.K X.mg X.base k x ps F)(d:fH k' X.A)(b:PA X (e::es) (xk (md X) g))(c:k<=k':=by first|decide|omega)(f:Gl X x:=by rfl)
  (h:nA ps.length g:=by repeat (first|exact y0|refine lE ?_))
  (a:(x==("__debug__":Str))=false:=by decide) (he:starEach (e::es) X.env=(false,eval e X.env)::starEach es X.env:=by rfl) (hpl:(backTo pos (starEach es X.env)).any (·.1)=false:=by rfl):
  PE X (.Call (.Name x p) (e::es) [] pos) (tL (md X) (eJ F g)):=IJ C (d.mono c) f b h a he hpl
end
def fJ{N P:List Str}{h:Scope}(a:h.kind=.function:=by rfl)(b:h.isCoroutine=false:=by rfl)(c:h.isGenerator=false:=by rfl)(d:N.Nodup:=by decide +kernel)(e:N.take P.length=P:=by rfl)
  (f:∀x∈P,h.names.lookup x=some .local\/h.names.lookup x=some .cell:=by decide +kernel) (g:∀y∈h.names,y.2≠.free:=by decide +kernel):aJ N P h:=⟨a,b,c,d,e,f,g⟩
structure bg(K:PySem.W.Frag)(x:Str)(st:Stmt)(f:Addr):Prop where
 ex:∃(oc:Value) (od:Option Addr) (kV dc pm:Value) (an:Option Addr) (cd ct:Value) (sl:Array (Option Value)),PySem.W.nsIn K mainGlobals x=some (some (.ref f))∧
  K.lookup f=some ⟨oc,od,.func (PySem.W.fnOf x x (gL st) (fI st) (aD st) .none kV dc pm an cd ct),sl⟩/\PySem.W.codeIn K cd x=true/\PySem.W.keepIn K (.ref f)=true
def bg.of{K:PySem.W.Frag}{x:Str}{st:Stmt}{f:Addr}{e:Value}{j:Option Addr}{kV g d:Value}{h:Option Addr}{b ct:Value}{i:Array (Option Value)}(a:PySem.W.nsIn K mainGlobals x=some (some (.ref f)))
  (l:K.lookup f=some ⟨e,j,.func (PySem.W.fnOf x x (gL st) (fI st) (aD st) .none kV g d h b ct),i⟩) (c:PySem.W.codeIn K b x=true) (k:PySem.W.keepIn K (.ref f)=true):bg K x st f:=⟨e,j,kV,g,d,h,b,ct,i,a,l,c,k⟩
structure Kx(K:PySem.W.Frag)(mg:Str->Option Value)(x:Str)(st:Stmt)(ps:List Str)(f:Addr):Prop where
 ex:∃fd,eL K x x st f fd/\Binds K fd ps []/\PySem.W.keepIn K (.ref f)=true
 m:mg x=some (.ref f)
def bg.ok1{K:PySem.W.Frag}{mg:Str->Option Value}{x:Str}{st:Stmt}{ps:List Str}{f:Addr}{h:Heap}(D:bg K x st f)(X:K.In h)(G:h.Ns mainGlobals mg)
  (l:∀(kV d j:Value) (e:Option Addr) (c ct:Value) (a:List Value),a.length=ps.length->bindArgs (PySem.W.fnOf x x (gL st) (fI st) (aD st) .none kV d j e c ct) ⟨a,[]⟩=pure (ps.zip a):=by intro _ _ _ _ _ _ a hl;rcases a with _|⟨_,_|⟨_,_|⟨_,_|⟨_,_|⟨_,_|⟨_,_⟩⟩⟩⟩⟩⟩ <;>first|rfl|cases hl):Kx K mg x st ps f:=by
 obtain⟨q,n,kV,p,j,e,o,ct,m,k,g,i,b⟩:=D.ex
 exact⟨⟨_,yL g i b,(yL g i b).binds l,b⟩,PySem.W.mg_of X G k⟩
structure Pk(P:Program)(w:World)(base:Heap):Prop where
def Kx.cal{P:Program}{w:World}{base:Heap}{K:PySem.W.Frag}{mg:Str->Option Value}{x:Str}{st:Stmt}{ps:List Str}{f:Addr}{k:Nat}{F:dA}(O:Kx K mg x st ps f)(Z:Pk P w base)
  (h:∀a,eL K x x st f a->Binds K a ps []->PySem.W.keepIn K (.ref f)=true->mg x=some (.ref f)->bA P w K mg base dY k f a ps (eK ⟨K,mg⟩ ps.length F)):fg P w K mg base k x ps F:=by
 obtain⟨a,d,b,c⟩:=O.ex
 exact⟨f,a,h a d b c O.m,b,c,O.m⟩
end DL
namespace DL
open PySem PySem.Spec L2
def E{α:Type}(f:cD->aG->Option (α×aG))(c:cD)(S:aG)(Q:α->aG->Prop):Prop:=∃a b,f c S=some (a,b)/\Q a b
def T(f:cY)(a:cD)(S:aG)(Q:Out->Prop):Prop:=∃o,f a S=some o/\Q o
def Fn(F:dA)(ds:List D)(S:aG)(Q:Res->aG->Prop):Prop:=∃r a,F ds S=some (r,a)/\Q r a
def Tg(g:lB)(d:D)(c:cD)(S:aG)(Q:cD->aG->Prop):Prop:=∃a b,g d c S=some (a,b)/\Q a b
def J6(g:qe)(d:List D)(c:cD)(S:aG)(Q:cD->aG->Prop):Prop:=∃a b,g d c S=some (a,b)/\Q a b
def Op{α:Type}(o:Option α)(Q:α->Prop):Prop:=∃d,o=some d/\Q d
section
variable{Γ:cD}{S:aG}
def E.mono{α:Type}{f:cD->aG->Option (α×aG)}{Q R:α->aG->Prop}(h:E f Γ S Q)(i:∀a S,Q a S->R a S):E f Γ S R:=by
 obtain⟨a,b,e,q⟩:=h
 exact⟨a,b,e,i _ _ q⟩
def T.mono{f:cY}{Q R:Out->Prop}(h:T f Γ S Q)(i:∀o,Q o->R o):T f Γ S R:=by
 obtain⟨a,e,q⟩:=h
 exact⟨a,e,i _ q⟩
def aC{i:Nat}{d:D}{Q:D->aG->Prop}(h:Γ[i]?=some (some d))(q:Q d S):E (au i) Γ S Q:=⟨d,S,by unfold au;rw[h],q⟩
def dB{d:D}{Q:D->aG->Prop}(q:Q d S):E (cF d) Γ S Q:=⟨d,S,rfl,q⟩
def aP{Q:List D->aG->Prop}(q:Q [] S):E av Γ S Q:=⟨[],S,rfl,q⟩
def aw{f:bx}{g:fU}{Q:List D->aG->Prop}(h:E f Γ S λd a=>E g Γ a λds S2=>Q (d::ds) S2):E (aq f g) Γ S Q:=by
 obtain⟨d,a,b,ds,S2,c,q⟩:=h
 exact⟨_,_,by unfold aq;rw[b];simp only[Qbq];rw[c];rfl,q⟩
def bX{o:sS}{f g:bx}{Q:D->aG->Prop}(h:E f Γ S λx a=>E g Γ a λy S2=>Op (o S2 x y) λd=>Q d S2):E (a0 o f g) Γ S Q:=by
 obtain⟨x,a,b,y,S2,c,d,e,q⟩:=h
 exact⟨d,S2,by unfold a0;rw[b];simp only[Qbq];rw[c];simp only[Qbq];rw[e];rfl,q⟩
def cv{f:fU}{Q:D->aG->Prop}(h:E f Γ S λds a=>ds.length<=sizeLine/\Q (.tup ds) a):E (aR f) Γ S Q:=by
 obtain⟨ds,a,b,l,q⟩:=h
 exact⟨_,_,by unfold aR;rw[b];simp only[Qbq];rw[Qhq l],q⟩
def dv{f:fU}{Q:List D->aG->Prop}(h:E f Γ S λds a=>ds.length<=sizeLine/\Q ds a):E (bp f) Γ S Q:=by
 obtain⟨ds,a,b,l,q⟩:=h
 exact⟨_,_,by unfold bp;rw[b];simp only[Qbq];rw[Qhq l],q⟩
def dQ{f:fU}{Q:D->aG->Prop}(h:E f Γ S λds a=>Q (.ref a.length) (a++ [.lst ds])):E (bB f) Γ S Q:=by
 obtain⟨ds,a,b,q⟩:=h
 exact⟨_,_,by unfold bB;rw[b];rfl,q⟩
def IY{o:Gc}{f:fU}{Q:D->aG->Prop}(h:E f Γ S λds a=>Op (o ds) λd=>Q d a):E (zX o f) Γ S Q:=by
 obtain⟨ds,a,b,d,c,q⟩:=h
 exact⟨d,a,by unfold zX;rw[b];simp only[Qbq];rw[c];rfl,q⟩
def cK{f:bx}{Q:(List D×Tag)->aG->Prop}(h:E f Γ S λd a=>Op (sN a d) λp=>Q p a):E (aS f) Γ S Q:=by
 obtain⟨e,a,b,d,c,q⟩:=h
 exact⟨d,a,by unfold aS;rw[b];simp only[Qbq];rw[c];rfl,q⟩
def kb{f:fU}{Q:(List D×Tag)->aG->Prop}(h:E f Γ S λds a=>Q (ds,.fr) a):E (fM f) Γ S Q:=by
 obtain⟨ds,a,b,q⟩:=h
 exact⟨_,a,by unfold fM;rw[b];rfl,q⟩
def uj{f:eN}{Q:D->aG->Prop}(h:E f Γ S λp a=>Q (.int p.1.length) a):E (eM f) Γ S Q:=by
 obtain⟨p,a,b,q⟩:=h
 exact⟨_,a,by unfold eM;rw[b];rfl,q⟩
def fK{f:eN}{Q:D->aG->Prop}(h:E f Γ S λp a=>Q (.tup p.1) a):E (tupQ f) Γ S Q:=by
 obtain⟨p,a,b,q⟩:=h
 exact⟨_,a,by unfold tupQ;rw[b];rfl,q⟩
def ff{f:eN}{Q:(List D×Tag)->aG->Prop}(h:E f Γ S λp a=>p.2.isL=true/\Q p a):E (dJ f) Γ S Q:=by
 obtain⟨p,a,b,l,q⟩:=h
 exact⟨_,a,by unfold dJ;rw[b];simp only[Qbq];rw[Qhq l],q⟩
def AC{f:eN}{Q:D->aG->Prop}(h:E f Γ S λp a=>(p.2.isL=true/\p.2.stays a p.1)/\Q (.bl (!p.1.isEmpty)) a):E (fw f) Γ S Q:=by
 obtain⟨p,a,b,l,q⟩:=h
 exact⟨_,a,by unfold fw;rw[b];simp only[Qbq];rw[Qhq l],q⟩
def cA{F:dA}{g:fU}{Q:D->aG->Prop}(h:E g Γ S λds a=>Fn F ds a λr S2=>match r with|.d x=>Q x S2|.l _=>False):E (aA F g) Γ S Q:=by
 obtain⟨ds,a,b,r,S2,c,q⟩:=h
 cases r with
 |d x=>exact⟨x,S2,by unfold aA;rw[b];simp only[Qbq];rw[c];rfl,q⟩
 |l x=>exact q.elim
def AU{F:dA}{g:fU}{Q:List D->aG->Prop}(h:E g Γ S λds a=>Fn F ds a λr S2=>match r with|.d _=>False|.l x=>Q x S2):E (eJ F g) Γ S Q:=by
 obtain⟨ds,a,b,r,S2,c,q⟩:=h
 cases r with
 |d x=>exact q.elim
 |l x=>exact⟨x,S2,by unfold eJ;rw[b];simp only[Qbq];rw[c];rfl,q⟩
def cz{f:bx}{Q:Bool->aG->Prop}(h:E f Γ S λd a=>match d with|.bl k=>Q k a|_=>False):E (aL f) Γ S Q:=by
 obtain⟨d,a,b,q⟩:=h
 cases d with
 |bl k=>exact⟨k,a,by unfold aL;rw[b];rfl,q⟩
 |_=>exact q.elim
def D7{f:bx}{Q:Bool->aG->Prop}(h:E f Γ S λd a=>Op (zf a d) λk=>Q k a):E (lK f) Γ S Q:=by
 obtain⟨d,a,b,k,c,q⟩:=h
 exact⟨k,a,by unfold lK;rw[b];simp only[Qbq];rw[c];rfl,q⟩
def HE{f:iY}{Q:Bool->aG->Prop}(h:E f Γ S λk a=>Q (!k) a):E (yZ f) Γ S Q:=by
 obtain⟨k,a,b,q⟩:=h
 exact⟨_,a,by unfold yZ;rw[b];rfl,q⟩
def sO{f g:iY}{Q:Bool->aG->Prop}(h:E f Γ S λk a=>if k=true then E g Γ a Q else Q false a):E (iT f g) Γ S Q:=by
 obtain⟨k,a,b,q⟩:=h
 cases k with
 |true=>obtain⟨j,d,c,q⟩:=(q:E g Γ a Q);exact⟨j,d,by unfold iT;rw[b];exact c,q⟩
 |false=>exact⟨false,a,by unfold iT;rw[b];rfl,q⟩
def wV{f g:iY}{Q:Bool->aG->Prop}(h:E f Γ S λk a=>if k=true then Q true a else E g Γ a Q):E (Eu f g) Γ S Q:=by
 obtain⟨k,a,b,q⟩:=h
 cases k with
 |true=>exact⟨true,a,by unfold Eu;rw[b];rfl,q⟩
 |false=>obtain⟨j,d,c,q⟩:=(q:E g Γ a Q);exact⟨j,d,by unfold Eu;rw[b];exact c,q⟩
def LU{c:iY}{f g:bx}{Q:D->aG->Prop}(h:E c Γ S λk a=>if k=true then E f Γ a Q else E g Γ a Q):E (qN c f g) Γ S Q:=by
 obtain⟨k,a,e,q⟩:=h
 cases k with
 |true=>obtain⟨j,d,b,q⟩:=(q:E f Γ a Q);exact⟨j,d,by unfold qN;rw[e];exact b,q⟩
 |false=>obtain⟨j,d,b,q⟩:=(q:E g Γ a Q);exact⟨j,d,by unfold qN;rw[e];exact b,q⟩
def cx{i:Nat}{f:bx}{Q:Out->Prop}(h:E f Γ S λd a=>Q (.nx (Γ.set i (some d)) a)):T (aX i f) Γ S Q:=by
 obtain⟨d,a,b,q⟩:=h
 exact⟨_,by unfold aX;rw[b];rfl,q⟩
def dX{f:bx}{Q:Out->Prop}(h:E f Γ S λd a=>Q (.rt d a)):T (cu f) Γ S Q:=by
 obtain⟨d,a,b,q⟩:=h
 exact⟨_,by unfold cu;rw[b];rfl,q⟩
def KW{f:fU}{Q:Out->Prop}(h:E f Γ S λd a=>Q (.rl d a)):T (Gh f) Γ S Q:=by
 obtain⟨d,a,b,q⟩:=h
 exact⟨_,by unfold Gh;rw[b];rfl,q⟩
def pA{f:bx}{Q:Out->Prop}(h:E f Γ S λd a=>Q (.nx Γ a)):T (uw f) Γ S Q:=by
 obtain⟨d,a,b,q⟩:=h
 exact⟨_,by unfold uw;rw[b];rfl,q⟩
def cq{Q:Out->Prop}(q:Q (.nx Γ S)):T eT Γ S Q:=⟨_,rfl,q⟩
def Ft{f:bx}{g:lB}{Q:Out->Prop}(h:E f Γ S λd b=>Tg g d Γ b λa S2=>Q (.nx a S2)):T (nV f g) Γ S Q:=by
 obtain⟨d,b,c,a,S2,e,q⟩:=h
 exact⟨_,by unfold nV;rw[c];simp only[Qbq];rw[e];rfl,q⟩
def aK{f g:cY}{Q:Out->Prop}(h:T f Γ S λo=>match o with|.nx a b=>T g a b Q|o=>Q o):T (aE f g) Γ S Q:=by
 obtain⟨o,c,q⟩:=h
 cases o with
 |nx a b=>obtain⟨o,d,q⟩:=(q:T g a b Q);exact⟨o,by unfold aE;rw[c];exact d,q⟩
 |_=>exact⟨_,by unfold aE;rw[c];rfl,q⟩
def dZ{c:iY}{f g:cY}{Q:Out->Prop}(h:E c Γ S λk a=>if k=true then T f Γ a Q else T g Γ a Q):T (eO c f g) Γ S Q:=by
 obtain⟨k,a,d,q⟩:=h
 cases k with
 |true=>obtain⟨j,b,q⟩:=(q:T f Γ a Q);exact⟨j,by unfold eO;rw[d];exact b,q⟩
 |false=>obtain⟨j,b,q⟩:=(q:T g Γ a Q);exact⟨j,by unfold eO;rw[d];exact b,q⟩
def aW{i:Nat}{d:D}{Q:cD->aG->Prop}(q:Q (Γ.set i (some d)) S):Tg (bG i) d Γ S Q:=⟨_,_,rfl,q⟩
def L3{f g:bx}{d:D}{Q:cD->aG->Prop}(h:E f Γ S λx a=>E g Γ a λy S2=>∃k i ds j,x=.ref k/\y=.int i/\S2[k]?=some (.lst ds)/\Ep ds.length i=some j/\Q Γ (S2.set k (.lst (ds.set j d)))):Tg (G0 f g) d Γ S Q:=by
 obtain⟨x,a,b,y,S2,c,k,i,ds,j,rfl,rfl,h1,h2,q⟩:=h
 exact⟨_,_,by unfold G0;rw[b];simp only[Qbq];rw[c];simp only[Qbq,h1,h2],q⟩
def gn{i:sR}{g:lB}{b:cY}{Q:Out->Prop} (h:E i Γ S λp u=>∃I:Nat->cD->aG->Prop,I 0 Γ u/\(∀n a e,I n a e->p.2 e)∧
   (∀(n:Nat) (d:D) (a:cD) (e:aG),p.1[n]?=some d->I n a e->Tg g d a e λs S2=>T b s S2 λo=>match o with|.nx c f=>I (n+1) c f|.ct c f=>I (n+1) c f|.bk c f=>Q (.nx c f)|o=>Q o)∧
   ∀a e,I p.1.length a e->Q (.nx a e)):T (iX i g b) Γ S Q:=by
 obtain⟨⟨r,W⟩,u,B,I,C,w,j,t⟩:=h
 have A:∀(k n:Nat) (a:cD) (e:aG),n+k=r.length->I n a e->∃o,forL g b W (r.drop n) a e=some o/\Q o:=by
  intro k
  induction k with
  | zero=>
    intro n a e y l
    rw[List.drop_of_length_le (by omega)]
    refine⟨.nx a e,by simp only[forL];rw[Qhq (w _ _ _ l)],t _ _ (by rw[←y];exact l)⟩
  | succ k x=>
    intro n a e y l
    have m:n<r.length:=by omega
    rw[QWq m]
    obtain⟨s,S2,v,o,z,q⟩:=j n r[n] a e (gQe m) l
    simp only[forL]
    rw[Qhq (w _ _ _ l),v]
    simp only[Qbq]
    rw[z]
    simp only[Qbq]
    cases o with
    |nx c f=>exact x (n+1) c f (by omega) q
    |ct c f=>exact x (n+1) c f (by omega) q
    |bk c f=>exact⟨_,rfl,q⟩
    |rt d f=>exact⟨_,rfl,q⟩
    |rl d f=>exact⟨_,rfl,q⟩
 obtain⟨o,v,q⟩:=A r.length 0 Γ u (by omega) C
 exact⟨o,by unfold iX;rw[B];exact v,q⟩
def gu{js:List (Option Nat)}{i:sR}{g:lB}{t:iY}{f:bx}{Q:List D->aG->Prop} (h:E i Γ S λp z=>∃I:Nat->cD->aG->List D->Prop,I 0 (mh js Γ) z []/\(∀n b e a,I n b e a->p.2 e)∧
   (∀(n:Nat) (d:D) (b:cD) (e:aG) (a:List D),p.1[n]?=some d->I n b e a->Tg g d b e λj S2=>E t j S2 λk w=>if k=true then E f j w λy x=>a.length<sizeLine/\I (n+1) j x (a++ [y]) else I (n+1) j w a)∧
   ∀b e a,I p.1.length b e a->Q a e):E (bH js i g t f) Γ S Q:=by
 obtain⟨⟨u,W⟩,z,J,I,L,B,m,v⟩:=h
 have H:∀(k n:Nat) (b:cD) (e:aG) (a:List D),n+k=u.length->I n b e a->∃r l,lU g t f W (u.drop n) b e a=some (r,l)/\Q r l:=by
  intro k
  induction k with
  | zero=>
    intro n b e a F o
    rw[List.drop_of_length_le (by omega)]
    refine⟨a,e,by simp only[lU];rw[Qhq (B _ _ _ _ o)],v _ _ _ (by rw[←F];exact o)⟩
  | succ k C=>
    intro n b e a F o
    have s:n<u.length:=by omega
    rw[QWq s]
    obtain⟨j,S2,A,c,w,G,q⟩:=m n u[n] b e a (gQe s) o
    simp only[lU]
    rw[Qhq (B _ _ _ _ o),A]
    simp only[Qbq]
    rw[G]
    simp only[Qbq]
    cases c with
    | true=>
      rw[Qhq rfl] at q⊢
      obtain⟨y,x,K,hl,q⟩:=q
      rw[K]
      simp only[Qbq]
      rw[Qhq hl]
      exact C (n+1) j x _ (by omega) q
    | false=>
      rw[Quq (by decide)] at q⊢
      exact C (n+1) j w _ (by omega) q
 obtain⟨r,l,A,q⟩:=H u.length 0 _ z [] (by omega) L
 exact⟨r,l,by unfold bH;rw[J];exact A,q⟩
def jm{f:bx}{Q:(List D×(aG->Prop))->aG->Prop}(h:E f Γ S λd a=>∃j,d=.int j/\(-(2^62)<=j/\j<2^62)/\Q (jo 0 j,λ_=>True) a):E (i4 f) Γ S Q:=by
 obtain⟨d,a,b,j,rfl,hj,q⟩:=h
 exact⟨_,a,by unfold i4;rw[b];simp only[Qbq];rw[Qhq hj],q⟩
def qd{f:eN}{Q:(List D×(aG->Prop))->aG->Prop}(h:E f Γ S λp a=>Q (p.1,λb=>p.2.stays b p.1) a):E (kc f) Γ S Q:=by
 obtain⟨p,a,c,q⟩:=h
 exact⟨_,a,by unfold kc;rw[c];rfl,q⟩
def zE{m:List D->List D->Option (List D×D)}{f:bx}{g:fU}{Q:D->aG->Prop}(h:E f Γ S λx b=>∃k a,x=.ref k/\b[k]?=some (.lst a)/\E g Γ b λys S2=>∃ds,S2[k]?=some (.lst ds)/\Op (m ds ys) λp=>Q p.2 (S2.set k (.lst p.1))):E (AR m f g) Γ S Q:=by
 obtain⟨x,b,c,k,a,rfl,h1,ys,S2,e2,ds,h2,p,e3,q⟩:=h
 exact⟨_,_,by unfold AR;rw[c];simp only[Qbq,e2,h1,h2,e3],q⟩
end
def bN{n:Nat}{b:cY}{ds:List D}{S:aG}{Q:Res->aG->Prop} (h:T b (ds.map some++List.replicate (n-ds.length) none) S λo=>match o with
   |.nx _ a=>Op (settle S .non a) λp=>Q p.1 p.2|.rt d a=>Op (settle S d a) λp=>Q p.1 p.2|.rl l a=>Op (fm S l a) λp=>Q p.1 p.2|_=>False):Fn (eV n b) ds S Q:=by
 obtain⟨o,f,q⟩:=h
 cases o with
 |nx g a=>obtain⟨⟨r,e⟩,c,q⟩:=q;exact⟨r,e,by unfold eV;rw[f];exact c,q⟩
 |rt d a=>obtain⟨⟨r,e⟩,c,q⟩:=q;exact⟨r,e,by unfold eV;rw[f];exact c,q⟩
 |rl d a=>obtain⟨⟨r,e⟩,c,q⟩:=q;exact⟨r,e,by unfold eV;rw[f];exact c,q⟩
 |bk=>exact q.elim
 |ct=>exact q.elim
def gR{S a S2:aG}{d:D}{Q:Res×aG->Prop}(b:nE S a)(ht:a.take S.length=S2)(hd:∀k,d≠.ref k)(hl:b_ S.length d=true)(q:Q (.d d,S2)):Op (settle S d a) Q:=by
 refine⟨_,?_,q⟩
 unfold settle
 rw[Qhq b,ht]
 cases d with
 |ref k=>exact absurd rfl (hd k)
 |_=>simp only[hl,if_true]
def l9{S a S2:aG}{ds:List D}{Q:Res×aG->Prop}(b:nE S a)(ht:a.take S.length=S2)(hl:bJ S.length ds=true)(q:Q (.l ds,S2)):Op (fm S ds a) Q:=by
 refine⟨_,?_,q⟩
 unfold fm
 rw[Qhq ⟨b,hl⟩,ht]
def rf{S:aG}:nE S S:=⟨Qmq _,λk o _ h=>.inl h⟩
def uD{S:aG}{k:Nat}{o:O}(h:FI S.length o=true):nE S (S.set k o):=by
 refine⟨by simp,λj u _ e=> ?_⟩
 rw[List.getElem?_set] at e
 split at e
 ·split at e
  ·cases e;exact .inr h
  ·cases e
 ·exact .inl e
end DL
namespace L2
open PySem PySem.Spec PyProof.Rows
end L2
namespace DL
open PySem PySem.Spec L2
end DL
namespace L2
open PySem PySem.Spec PyProof.Rows
end L2
namespace DL
open PySem PySem.Spec PyProof.Rows L2
end DL
namespace L2
open PySem PySem.Spec PyProof.Rows
end L2
namespace DL
open PySem PySem.Spec PyProof.Rows L2
end DL
namespace DL
open PySem PySem.Spec L2
end DL
namespace L2
open PySem PySem.Spec
end L2
namespace DL
open PySem PySem.Spec L2
end DL
namespace DL
open PySem PySem.Spec PyProof.Rows L2
def jb:fillsNumberSlot (.type "tuple") "mul"=pure false:=
 PySem.fillsNumberSlot_seq (id:="tuple.__mul__") (r:=some (.builtin "tuple.__rmul__")) PySem.F.slot_tuple_mul.lookup (by decide +kernel) PySem.F.slot_tuple_rmul.lookup (by decide +kernel)
def m_:seqRepeat? (.type "tuple")=pure (some (.builtin "tuple.__mul__")):=by
 unfold seqRepeat?
 rw[PySem.seqSlot_of (T:="tuple") (name:="__mul__") (id:="tuple.__mul__") PySem.F.slot_tuple_mul.lookup (by decide +kernel),PySem.seqSlot_of (T:="tuple") (name:="__rmul__") (id:="tuple.__rmul__") PySem.F.slot_tuple_rmul.lookup (by decide +kernel)]
 rfl
def rY(a:Int)(t:Tok)(l:Addr)(items:Array Value)(n:Nat)(e:Option Addr)(c:Array (Option Value)):
  Meets (Builtin.«int.__rmul__» ⟨[.int a t,.ref l],[]⟩) (λ_ R s=>s.heap.get? l=some {cls:=.type "tuple",dict:=e,data:=.seq items n,slots:=c}/\R (.ok (.ret Value.notImplemented)) s):=
 .of_wp λb w A R s h=>by obtain⟨f,g,d,j,i⟩:=s;obtain⟨hl,h⟩:=h;wp_walk;exact⟨_,rfl,h⟩
def BX(l:Addr)(items:Array Value)(n:Nat)(p:Option Addr)(m:Array (Option Value))(x:Int)(u:Tok)(B:2<=x)(y:x<2^63)(a:¬items.isEmpty=true)(hsz:items.size*x.toNat<=sizeLine):
  Meets (Builtin.«tuple.__mul__» ⟨[.ref l,.int x u],[]⟩) (λ_ R s=>s.heap.get? l=some {cls:=.type "tuple",dict:=p,data:=.seq items n,slots:=m}/\R (.ok (.ret (Value.ref s.heap.objs.size))) {s with heap:=s.heap.push {cls:=Value.type "tuple",data:=Data.seq (List.foldl (λc e=>c++e) #[] (List.replicate x.toNat items))},toks:=s.toks}):=
 .of_wp λi w A R s h=>by
  obtain⟨z,g,d,F,C⟩:=s;obtain⟨hl,h⟩:=h
  have G:=AutoSeq1.idx_int
  have j:(sizeLine:Nat)=16777216:=by decide
  have f:((items.size:Int)*x)=((items.size*x.toNat:Nat):Int):=by rw[Int.natCast_mul,Int.toNat_of_nonneg (by omega)]
  have t:items.size*x.toNat<=16777216:=by omega
  have q:¬(decide (x< -2^63)||decide (x>=2^63))=true:=by simp;omega
  have o:¬(items.isEmpty||x==1)=true:=by simp at a⊢;exact⟨a,by omega⟩
  have v:¬(decide (x<=0)||items.isEmpty)=true:=by simp at a⊢;exact⟨by omega,a⟩
  have k:¬((items.size:Int)*x>(2^63-1)/8):=by rw[f];omega
  have r:¬Builtin.Tuple.tupleTooMany ((items.size:Int)*x)=true:=by rw[f];unfold Builtin.Tuple.tupleTooMany;rw[Qdq (by rw[j];omega)];decide
  have b:(List.foldl (λc e=>c++e) #[] (List.replicate x.toNat items)).size<=sizeLine:=by rw[AutoListH.size_joined,j,Nat.mul_comm];simpa using t
  wp_walk using wpAny_loadPart' hl
  refine QgQ (Qdq q) ?_
  wp_walk using wpAny_loadPart' hl
  refine QgQ (Qdq o) ?_
  wp_walk using wpAny_loadPart' hl
  refine QgQ (Qdq v) ?_
  wp_walk using wpAny_loadPart' hl
  refine QgQ (Qdq k) ?_
  wp_walk using wpAny_loadPart' hl
  refine QgQ (Qdq r) ?_
  wp_walk using wpAny_loadPart' hl
  refine QgQ (Qdq (Nat.not_lt.mpr b)) ?_
  wp_walk
  exact⟨_,rfl,h⟩
section
variable{X:Cx}{a b:Expr}{pos:Pos}
def Gi(K:PySem.W.Frag):R2:=λx y H Q=>∃a k c,x=.ref a/\y=.int k/\hG K H a c/\c≠[]/\2<=k/\k<2^63/\c.length*k.toNat<=sizeLine/\∀p,H p=none->Q (.ref p) (upd H p (.tup (List.replicate k.toNat c).flatten))
def ED:jO X (binaryOp .Mult) (Gi X.K):=by
 intro i s P H x y v u Q I M J h
 obtain⟨l,k,C,rfl,rfl,ha,hx,h1,h2,hz,q⟩:=h
 cases M
 obtain⟨t,rfl⟩:=J
 obtain⟨c,g,G,_⟩:=I.tuple ha
 obtain⟨⟨N,p,w,m⟩,e,r,n,j⟩:=id G
 simp only at r j
 subst r j
 have f:c.toArray.size*k.toNat<=sizeLine:=by rw[Qjq,←g.length];exact hz
 have d:List.foldl (λA B=>A++B) #[] (List.replicate k.toNat c.toArray)=(List.replicate k.toNat c).flatten.toArray:=by
  have:=foldl_rep c k.toNat []
  rw[List.nil_append] at this
  exact this
 refine wpAny_binaryOp_repeat_ref (T:="tuple") (U:="int") (by decide) ⟨_,e,rfl⟩ (λL=>typeIs_int L k t) jb F.fills_int_mul F.slot_int_rmul m_ F.slot_int_index.lookup
  (call_meets F.slot_int_rmul (typeIs_int s k t) F.entry_int_rmul (F.args_int_rmul_2 _ _) (rY k t l c.toArray n p m)
   ⟨e,rfl,⟨_,e,rfl⟩,call_meets F.slot_tuple_mul ⟨_,e,rfl⟩ F.entry_tuple_mul (F.args_tuple_mul_2 _ _) (BX l c.toArray n p m k t h1 h2 (λz=>hx (g.nil_iff.mp (by simpa using z))) f) ⟨e,?_⟩⟩)
 rw[d]
 refine⟨.ref s.heap.objs.size,_,I.laid (t':=s.toks) (o:=.tup (List.replicate k.toNat C).flatten) (λb R q=>Qcq _ q) (Qmq _) ?_,rfl,q _ (I.hok.fresh (Qmq _))⟩
 exact⟨by rw[len_rep,Nat.mul_comm];exact hz,_,g.rep k.toNat,sW.new _ _⟩
end
def zG(l:Addr)(items:Array Value)(n:Nat)(c:Option Addr)(b:Array (Option Value))(u:Tok):
  Meets (Builtin.«tuple.__mul__» ⟨[.ref l,.int 1 u],[]⟩) (λ_ R s=>s.heap.get? l=some {cls:=.type "tuple",dict:=c,data:=.seq items n,slots:=b}/\R (.ok (.ret (Value.ref l))) s):=
 .of_wp λa w A R s h=>by
  obtain⟨i,g,d,k,j⟩:=s;obtain⟨hl,h⟩:=h
  have m:=AutoSeq1.idx_int
  have f:¬(decide ((1:Int)< -2^63)||decide ((1:Int)>=2^63))=true:=by decide
  have e:(items.isEmpty||(1:Int)==1)=true:=by simp
  wp_walk using wpAny_loadPart' hl
  exact⟨_,rfl,h⟩
def zF(l:Addr)(items:Array Value)(n:Nat)(e:Option Addr)(c:Array (Option Value))(u:Tok)(a:¬items.isEmpty=true):
  Meets (Builtin.«tuple.__mul__» ⟨[.ref l,.int 0 u],[]⟩) (λ_ R s=>s.heap.get? l=some {cls:=.type "tuple",dict:=e,data:=.seq items n,slots:=c}/\R (.ok (.ret (Value.ref s.heap.objs.size))) {s with heap:=s.heap.push {cls:=Value.type "tuple",data:=Data.seq #[]},toks:=s.toks}):=
 .of_wp λb w A R s h=>by
  obtain⟨j,g,d,o,m⟩:=s;obtain⟨hl,h⟩:=h
  have p:=AutoSeq1.idx_int
  have i:¬(decide ((0:Int)< -2^63)||decide ((0:Int)>=2^63))=true:=by decide
  have f:¬(items.isEmpty||(0:Int)==1)=true:=by simpa using a
  have k:(decide ((0:Int)<=0)||items.isEmpty)=true:=by simp
  wp_walk using wpAny_loadPart' hl
  exact⟨_,rfl,h⟩
section
variable{X:Cx}{a b:Expr}{pos:Pos}
def F_(K:PySem.W.Frag):R2:=λx y H Q=>∃a k c,x=.ref a/\y=.int k/\hG K H a c/\c≠[]/\((k=1/\Q (.ref a) H)\/(k=0/\∀p,H p=none->Q (.ref p) (upd H p (.tup []))))
def EG:jO X (binaryOp .Mult) (F_ X.K):=by
 intro i s J H x y v u Q I C w h
 obtain⟨l,k,M,rfl,rfl,ha,hx,h⟩:=h
 cases C
 obtain⟨t,rfl⟩:=w
 obtain⟨c,A,r,_⟩:=I.tuple ha
 obtain⟨⟨G,f,p,e⟩,d,m,n,j⟩:=id r
 simp only at m j
 subst m j
 have g:¬c.toArray.isEmpty=true:=λz=>hx (A.nil_iff.mp (by simpa using z))
 refine wpAny_binaryOp_repeat_ref (T:="tuple") (U:="int") (by decide) ⟨_,d,rfl⟩ (λB=>typeIs_int B k t) jb F.fills_int_mul F.slot_int_rmul m_ F.slot_int_index.lookup
  (call_meets F.slot_int_rmul (typeIs_int s k t) F.entry_int_rmul (F.args_int_rmul_2 _ _) (rY k t l c.toArray n f e) ⟨d,rfl,⟨_,d,rfl⟩,?_⟩)
 rcases h with⟨rfl,q⟩|⟨rfl,q⟩
 ·exact call_meets F.slot_tuple_mul ⟨_,d,rfl⟩ F.entry_tuple_mul (F.args_tuple_mul_2 _ _) (zG l c.toArray n f e t) ⟨d,.ref l,H,I,rfl,q⟩
 ·refine call_meets F.slot_tuple_mul ⟨_,d,rfl⟩ F.entry_tuple_mul (F.args_tuple_mul_2 _ _) (zF l c.toArray n f e t g) ⟨d,?_⟩
  refine⟨.ref s.heap.objs.size,_,I.laid (t':=s.toks) (o:=.tup []) (λb L q=>Qcq _ q) (Qmq _) ?_,rfl,q _ (I.hok.fresh (Qmq _))⟩
  exact⟨Nat.zero_le _,_,.nil,sW.new _ _⟩
def xX:sS:=λ_ x y=>match x,y with
 |.tup i,.int k=>if 0<=k/\k<2^63/\i≠[]/\i.length*k.toNat<=sizeLine then some (.tup (List.replicate k.toNat i).flatten) else none
 |_,_=>none
def Fh{M:Md}:kH M (λx y H Q=>Gi M.K x y H Q\/F_ M.K x y H Q) xX:=by
 intro n S H x y d u v Q i l m e q
 cases l with
 | tup h g=>
   cases m with
   | int k=>
     simp only[xX] at e
     split at e <;>cases e
     rename_i hl
     have f:=λz=>hl.2.2.1 (List.length_eq_zero_iff.mp (g.length.trans (List.length_eq_zero_iff.mpr z)))
     by_cases j:2<=k
     · exact .inl ⟨_,k,_,rfl,rfl,hG.of h,f,j,hl.2.1,by rw[←g.length];exact hl.2.2.2,λp c=>q _ _ (bU.laid c) (i.lay c) (.tup bD ((g.rep _).ext (bU.laid c)))⟩
     · refine .inr ⟨_,k,_,rfl,rfl,hG.of h,f,?_⟩
       rcases(by omega:k=1\/k=0) with rfl|rfl
       · refine .inl ⟨rfl,q _ _ bU.refl i ?_⟩
         rw[show(List.replicate (1:Int).toNat _).flatten=_ from List.append_nil _]
         exact .tup h g
       · exact .inr ⟨rfl,λp c=>q _ _ (bU.laid c) (i.lay c) (.tup bD .nil)⟩
   |_=>simp only[xX,reduceCtorEq] at e
 |_=>simp only[xX,reduceCtorEq] at e
def HV{f g:bx}(d:PE X a (tD (md X) f))(c:PE X b (tD (md X) g)):PE X (.BinOp a .Mult b pos) (tD (md X) (a0 xX f g)):=ou Fh (m5 (ED.or EG) d c)
end
end DL
namespace L2
open PySem PySem.Spec PyProof.Rows
end L2
namespace DL
open PySem PySem.Spec L2
end DL
namespace L2
open PySem PySem.Spec
end L2
namespace DL
open PySem PySem.Spec L2
end DL
namespace L2
open PySem PySem.Spec PyProof.Rows
end L2
namespace DL
open PySem PySem.Spec L2
end DL
namespace Z3
open PySem Zq
end Z3
namespace L2
open PySem PySem.Spec PyProof.Rows Zq
end L2
namespace DL
open PySem PySem.Spec PyProof.Rows L2
end DL
namespace L2
open PySem PySem.Spec PyProof.Rows
section
variable{X:Cx}
theorem AG:∀{b:List String} {a:List Value},bI (b.map V.ty) a->a=b.map Value.type
 | [],_,r=>by cases r;rfl
 | T::b,_,r=>by
   cases r with
   | cons h t=>
     rw[AG t,QDq]
     cases (show _=Value.type T from h)
     rfl
inductive C3(H:Hp):V->Value->Prop where
 |non:C3 H .non (.type "NoneType")
 |bl (x:Bool):C3 H (.bl x) (.type "bool")
 |int (i:Int):C3 H (.int i) (.type "int")
 |str (x:Str):C3 H (.str x) (.type "str")
 |lst {a:Addr} {xs:List V} (e:H a=some (.lst xs)):C3 H (.ref a) (.type "list")
 |frz {a:Addr} {o:Obj} {xs:List V} (e:H a=some (.frz o (.lst xs))):C3 H (.ref a) (.type "list")
 |tup {a:Addr} {xs:List V} (e:H a=some (.tup xs)):C3 H (.ref a) (.type "tuple")
 |dK {a:Addr} {kvs:List (Key×V)} (e:H a=some (.dK kvs)):C3 H (.ref a) (.type "dict")
def BN:j_ X (.builtin "isinstance") (λxs H Q=>∃(x:V) (a:Addr) (j:List String) (t:Value) (b:Bool),xs= [x,.ref a]/\H a=some (.tup (j.map V.ty))/\C3 H x t/\PySem.W.kitAny X.K t (j.map Value.type)=some b/\Q (.bl b) H):=by
 intro m s L H xs N Q I r h
 obtain⟨x,a,j,t,b,rfl,ha,ty,e,q⟩:=h
 obtain⟨u,C,rfl,rx,rt⟩:=vals2 r
 cases (show C=Value.ref a from rt)
 obtain⟨_,A,B,⟨c,P,F,M⟩,f,G,J,n,v⟩:=(show cC X.prog X.w H s.heap a (.tup (j.map V.ty)) from I.hok a _ ha)
 cases G
 cases v
 rw[AG B] at f
 cases ty with
 |non=>cases (show u=Value.none from rx);exact PySem.W.kia_tup PySem.W.kitx_none I.kIn True.intro f e (λz=>nomatch z) λd=>⟨.bl b,H,I.tok d,rfl,q⟩
 |bl y=>cases (show u=Value.bool y from rx);exact PySem.W.kia_tup PySem.W.kitx_bool I.kIn True.intro f e (λz=>nomatch z) λd=>⟨.bl b,H,I.tok d,rfl,q⟩
 |int i=>obtain⟨t,l⟩:=(show∃t,u=Value.int i t from rx);cases l;exact PySem.W.kia_tup PySem.W.kitx_int I.kIn True.intro f e (λz=>nomatch z) λd=>⟨.bl b,H,I.tok d,rfl,q⟩
 |str y=>obtain⟨t,l⟩:=(show∃t,u=Value.str y t from rx);cases l;exact PySem.W.kia_tup PySem.W.kitx_str I.kIn True.intro f e (λz=>nomatch z) λd=>⟨.bl b,H,I.tok d,rfl,q⟩
 | @lst a xs ea=>
   cases (show u=Value.ref a from rx)
   obtain⟨_,_,n,_,g⟩:=(show cC X.prog X.w H s.heap a (.lst xs) from I.hok a _ ea)
   exact PySem.W.kia_tup PySem.W.kitx_list I.kIn ⟨_,g,rfl⟩ f e (λz=>nomatch z) λd=>⟨.bl b,H,I.tok d,rfl,q⟩
 | @frz a ob xs ea=>
   cases (show u=Value.ref a from rx)
   obtain⟨_,_,_,n,_,g⟩:=(show cC X.prog X.w H s.heap a (.frz ob (.lst xs)) from I.hok a _ ea)
   exact PySem.W.kia_tup PySem.W.kitx_list I.kIn ⟨_,g,rfl⟩ f e (λz=>nomatch z) λd=>⟨.bl b,H,I.tok d,rfl,q⟩
 | @tup a xs ea=>
   cases (show u=Value.ref a from rx)
   obtain⟨_,_,_,p⟩:=(show cC X.prog X.w H s.heap a (.tup xs) from I.hok a _ ea)
   obtain⟨o,g,k,_⟩:=p
   exact PySem.W.kia_tup PySem.W.kitx_tuple I.kIn ⟨o,g,k⟩ f e (λz=>nomatch z) λd=>⟨.bl b,H,I.tok d,rfl,q⟩
 | @dK a kvs ea=>
   cases (show u=Value.ref a from rx)
   obtain⟨_,_,S,_,p⟩:=(show cC X.prog X.w H s.heap a (.dK kvs) from I.hok a _ ea)
   obtain⟨o,R,U,g,k,_⟩:=p
   exact PySem.W.kia_tup PySem.W.kitx_dict I.kIn ⟨o,g,k.1⟩ f e (λz=>nomatch z) λd=>⟨.bl b,H,I.tok d,rfl,q⟩
end
end L2
namespace DL
open PySem PySem.Spec PyProof.Rows L2
section
variable{X:Cx}{a:Expr}{pos:Pos}
def xE(T U:String)(f:bx):bx:=λc S=>(f c S).bind λ(d,b)=>(rF b T d).bind λk=>(rF b U d).bind λl=>some (.bl (k||l),b)
def Fs{K:PySem.W.Frag}{t:Value}{T U:String}{k l:Bool}(b:PySem.W.kitOne K t (.type T)=some k)(c:PySem.W.kitOne K t (.type U)=some l):PySem.W.kitAny K t ([T,U].map Value.type)=some (k||l):=by
 simp only[QDq,List.map_nil,PySem.W.kitAny]
 rw[b]
 cases k with
 |true=>rfl
 |false=>simp only;rw[c];cases l <;>rfl
def KH{T U:String}{n j:Expr}{f:bx}{p y:Pos}{B:Nat}(hk:Dv X.K T)(G:Dv X.K U)(hg:Gl X "isinstance")(hm:X.mg "isinstance"=none)(ha:PE X a (tD (md X) f))(ht:PE X n (tC (.ty T)))(hu:PE X j (tC (.ty U)))
  (I:starEach [a,.Tuple [n,j] B y] X.env= [(false,eval a X.env),(false,eval (.Tuple [n,j] B y) X.env)]:=by rfl) (m:starEach [.Tuple [n,j] B y] X.env= [(false,eval (.Tuple [n,j] B y) X.env)]:=by rfl)
  (L:starEach [n,j] X.env= [(false,eval n X.env),(false,eval j X.env)]:=by rfl) (C:starEach [j] X.env= [(false,eval j X.env)]:=by rfl):
  PE X (.Call (.Name "isinstance" p) [a,.Tuple [n,j] B y] [] pos) (tD (md X) (xE T U f)):=
 kD (ku BN hg hm boot_isinstance (c_ ha (c_ (Cp (c_ ht (c_ hu gy C) (by rw[L,C]))) gy m) (by rw[I,m])) (he:=by rw[I,m]) (hpl:=by rw[m];rfl)) λσ H Q qq=>by
  obtain⟨ρ,Z,S,d,S',ok,e,q⟩:=qq
  obtain⟨⟨d',S1⟩,e1,e⟩:=ar e
  obtain⟨k,g,e⟩:=ar e
  obtain⟨l,i,e⟩:=ar e
  obtain⟨rfl,rfl⟩:=cy e
  obtain⟨k1,k2,k3,k4,k5,Y,k7⟩:=hk
  obtain⟨l1,l2,l3,l4,l5,N,l7⟩:=G
  refine⟨ρ,Z,S,d',S1,ok,e1,λA v s x F r=>⟨by show 2<=_;decide,λp J=> ?_⟩⟩
  have x2:bU A s A (upd s p (.tup ([T,U].map V.ty))):=bU.laid J
  have M:=q _ (.bl (k||l)) _ (x.trans x2) (F.lay J) (.bl _)
  have c:∀{b:Addr} {o:HO},s b=some o->(upd s p (.tup ([T,U].map V.ty))) b=some o:=λ{b o} hb=>by
   rw[bh]
   ·exact hb
   ·intro z;subst z;rw[J] at hb;cases hb
  have mk:∀{t:Value},C3 (upd s p (.tup ([T,U].map V.ty))) v t->PySem.W.kitOne X.K t (.type T)=some k->PySem.W.kitOne X.K t (.type U)=some l->_:=λ{t} ty w h2=>(⟨v,p,[T,U],t,k||l,rfl,bD,ty,Fs w h2,M⟩:∃(x:V) (a:Addr) (P:List String) (t:Value) (b:Bool),[v,V.ref p]= [x,.ref a]/\(upd s p (.tup ([T,U].map V.ty))) a=some (.tup (P.map V.ty))/\C3 (upd s p (.tup ([T,U].map V.ty))) x t/\PySem.W.kitAny X.K t (P.map Value.type)=some b/\Q (.bl b) (upd s p (.tup ([T,U].map V.ty))))
  cases r with
  |non=>cases g;cases i;exact mk .non k1 l1
  |bl=>cases g;cases i;exact mk (.bl _) k2 l2
  |int=>cases g;cases i;exact mk (.int _) k3 l3
  |str=>cases g;cases i;exact mk (.str _) k4 l4
  |tup h I=>cases g;cases i;exact mk (.tup (c h)) k5 l5
  |fn=>cases g
  | ref h=>
    simp only[rF] at g i
    split at g
    · rename_i u;rw[u] at i;cases g;cases i;obtain⟨R,w,_⟩:=F.obj _ _ _ h u;exact mk (.lst (c w)) Y N
    · rename_i u;rw[u] at i;cases g;cases i;obtain⟨R,o,w,_⟩:=F.obj _ _ _ h u;exact mk (.frz (c w)) Y N
    · rename_i u;rw[u] at i;cases g;cases i;obtain⟨R,w,_⟩:=F.obj _ _ _ h u;exact mk (.dK (c w)) k7 l7
    · cases g
end
end DL
namespace W28
open PySem PySem.Spec L2 DL
abbrev cj:=a0 iQ
abbrev di(v:Nat)(k:Int):=a0 iQ (au v) (cF (.int k))
abbrev gr(v:Nat)(k:Int):=aq (a0 iQ (au v) (cF (.int k)))
abbrev gc(x:Str):=aq (cF (.str x))
abbrev bO(k:Int):=cF (.int k)
abbrev aF(k:Nat):=aq (au k)
abbrev cR(k:Int):=aq (cF (.int k))
def o8:cY:=
 (aE (aX 2 (bO 0))
 (aE (eO (aL (a0 Er (au 1) (eM (aS (au 0))))) (aX 2 (cj (au 0) (au 1))) eT)
 (Gh (bp (aq (a0 qH (zX Cd (aF 2 av)) (zX intOfD (aq (a0 LG (zX Cd (aF 2 av)) (a0 EN (bO 10) (bO 18))) av))) (aq (a0 ni (a0 qH (a0 bL (a0 bL (a0 ni (au 2) (bO 2147483629)) (a0 qH (a0 qH (bO 7919) (au 1)) (au 1))) (bO 11)) (bO 48271)) (bO 2147483647)) (cR 0 av)))))))
def k_:dA:=eV 3 o8
def mw:cY:=
 (aE (eO (aL (a0 Kf (di 0 0) (bO 0))) (aE (aX 2 (a0 ni (di 0 0) (au 1)))
 (aE (nV (a0 xK (di 0 0) (au 1)) (G0 (au 0) (bO 0)))
 (cu (au 2)))) eT)
 (aE (nV (a0 bL (di 0 2) (bO 1)) (G0 (au 0) (bO 2)))
 (aE (nV (a0 ni (a0 bL (a0 bL (a0 qH (di 0 1) (bO 69621)) (a0 qH (bO 7919) (di 0 2))) (bO 1)) (bO 2147483629)) (G0 (au 0) (bO 1)))
 (cu (a0 ni (a0 xK (a0 ni (a0 qH (di 0 1) (a0 bL (a0 ni (di 0 1) (bO 40009)) (bO 3))) (bO 2147483587)) (bO 11)) (au 1))))))
def ay:dA:=eV 3 mw
def kP:cY:=
 (aE (aX 2 (cF (.str "abcdefghijklmnopqrstuvwxyz")))
 (aE (nV (aR (aq (aA ay (aF 0 (cR 26 av))) (aq (cj (bB (bp (cR 1 (cR 3 (cR 5 (cR 7 (cR 9 (cR 11 av)))))))) (aA ay (aF 0 (cR 6 av)))) av))) (gW (nG 2 (aI (bG 3) (aI (bG 4) cW)))))
 (aE (aX 5 (bB (bH [none,some 2,some 3,some 4] (i4 (au 1)) (bG 0) bQ (a0 bL (cj (au 1) (a0 ni (a0 bL (au 2) (a0 qH (au 3) (au 0))) (bO 26))) (cj (bB (bp (gc "" (gc "zz" (gc "x" (gc "qqqqqqq" av)))))) (a0 ni (a0 bL (au 2) (au 0)) (bO 4)))))))
 (Gh (xA (aS (au 5)))))))
def eF:dA:=eV 6 kP
def i7:cY:=
 (aE (aX 1 (bB (eJ eF (aF 0 (cR 12 av)))))
 (aE (aX 2 (a0 bL (bO 1) (aA ay (aF 0 (cR 4 av)))))
 (aE (w_ 3 4 (aq (bB (bp av)) (aq (bB (bp av)) av)))
 (aE (iX (i4 (au 2)) (bG 5) (aE (aX 6 (cj (au 1) (cj (bB (bp (aq (a0 ni (a0 bL (au 5) (bO 1)) (au 2)) (aF 5 (aq (aA ay (aF 0 (aF 2 av))) av))))) (aA ay (aF 0 (cR 3 av))))))
 (aE (aX 7 (aR (aq (aR (gc "do" (aq (cF .non) (aF 6 (gr 1 9 (cR 0 av)))))) av)))
 (aE (eO (aL (a0 (eP false) (aA ay (aF 0 (cR 4 av))) (bO 0))) (aX 7 (a0 bL (au 7) (aR (aq (aR (gc "tell" (cR 1 av))) av)))) eT)
 (aE (aX 8 (cj (bB (bp (gc "at once" (gc "when free" av)))) (aA ay (aF 0 (cR 2 av)))))
 (uw (AR mX (au 3) (aq (aR (aq (cj (au 1) (au 5)) (aF 8 (aq (aR av) (aq (aR av) (aq (aR (aq (aR (gr 1 8 (aF 7 av))) (aq (aR (gr 1 9 (aq (aR (aq (aR (gc "tell" (cR 2 av))) av)) av))) av))) av)))))) av))))))))
 (aE (iX (i4 (a0 bL (bO 1) (aA ay (aF 0 (cR 4 av))))) (bG 5) (aE (aX 9 (cj (au 1) (cj (bB (bp (aq (a0 ni (au 5) (au 2)) (aq (aA ay (aF 0 (aF 2 av))) av)))) (aA ay (aF 0 (cR 2 av))))))
 (aE (aX 7 (aR (aq (aR (gc "do" (aq (cF .non) (aF 9 (aq (cj (bB (bp (gr 1 8 (gr 1 8 (gr 1 9 av))))) (aA ay (aF 0 (cR 3 av)))) (cR 0 av)))))) av)))
 (uw (AR mX (au 4) (aq (aR (aq (aR av) (aq (a0 xX (au 7) (a0 bL (bO 1) (zX intOfD (aq (a0 (eP false) (aA ay (aF 0 (cR 4 av))) (bO 0)) av)))) av))) av))))))
 (cu (aR (aq (tupQ (dJ (aS (au 3)))) (aq (aR av) (aq (aR av) (aq (tupQ (dJ (aS (au 4)))) av)))))))))))
def eI:dA:=eV 10 i7
def iU(self:dA):cY:=
 (aE (aX 4 (aA ay (aF 0 (cR 8 av))))
 (aE (eO (Eu (aL (a0 (eP false) (au 3) (bO 0))) (aL (a0 Er (au 4) (bO 3)))) (aE (eO (iT (aL (fw (aS (au 1)))) (aL (a0 (eP true) (au 4) (bO 0)))) (cu (cj (au 1) (aA ay (aF 0 (aq (eM (aS (au 1))) av))))) eT)
 (cu (aA ay (aF 0 (cR 3 av))))) eT)
 (aE (eO (iT (aL (fw (aS (au 2)))) (aL (a0 (eP false) (au 4) (bO 3)))) (cu (aR (gc "waits" (aq (cj (au 2) (aA ay (aF 0 (aq (eM (aS (au 2))) av)))) av)))) eT)
 (aE (aX 5 (aA self (aF 0 (aF 1 (aF 2 (aq (a0 xv (au 3) (bO 1)) av))))))
 (aE (eO (aL (a0 (eP false) (au 4) (bO 4))) (cu (aR (gc "not" (aF 5 av)))) eT)
 (aE (aX 6 (cj (bB (bp (gc "plus" (gc "minus" (gc "less" (gc "same" (gc "both" av))))))) (aA ay (aF 0 (cR 5 av)))))
 (cu (aR (aF 6 (aF 5 (aq (aA self (aF 0 (aF 1 (aF 2 (aq (a0 xv (au 3) (bO 1)) av))))) av)))))))))))
def aZ:Nat->dA
 |0=>λ_ _=>none
 |n+1=>eV 7 (iU (aZ n))
def kg:cY:=
 (aE (aX 5 (aA ay (aF 0 (cR 12 av))))
 (aE (eO (iT (aL (a0 Er (au 5) (bO 6))) (aL (fw (aS (au 4))))) (aE (nV (cj (au 4) (aA ay (aF 0 (aq (eM (aS (au 4))) av)))) (gW (nG 2 (aI (bG 6) (aI (bG 7) cW)))))
 (aE (aX 8 (cj (bB (vy (aS (au 1)) (fM (bp (aq (cF .non) av))))) (aA ay (aF 0 (aq (a0 bL (eM (aS (au 1))) (bO 1)) av)))))
 (cu (aR (gc "do" (aF 8 (aF 6 (aF 7 (aq (aA (aZ 3) (aF 0 (aF 1 (aq (bB (bp av)) (cR 1 av))))) av))))))))) eT)
 (aE (eO (iT (aL (a0 Er (au 5) (bO 9))) (aL (fw (aS (au 2))))) (aE (w_ 9 10 (aq (cj (au 2) (aA ay (aF 0 (aq (eM (aS (au 2))) av)))) (aq (cj (au 2) (aA ay (aF 0 (aq (eM (aS (au 2))) av)))) av)))
 (cu (cj (bB (bp (aq (aR (gc "take" (aF 9 av))) (aq (aR (gc "give" (aF 9 av))) (aq (aR (gc "pass" (aF 9 (aF 10 av)))) av))))) (aA ay (aF 0 (cR 3 av)))))) eT)
 (aE (aX 11 (a0 bL (a0 bL (di 3 0) (bO 1)) (aA ay (aF 0 (aq (a0 xv (di 3 1) (di 3 0)) av)))))
 (aE (eO (aL (a0 (eP false) (au 5) (bO 9))) (cu (aR (gc "unless" (aq (aA (aZ 3) (aF 0 (aF 1 (aq (bB (bp av)) (cR 2 av))))) (aq (cj (bB (bp (aF 11 (aF 11 (cR 0 av))))) (aA ay (aF 0 (cR 3 av)))) av))))) eT)
 (aE (eO (aL (a0 (eP false) (au 5) (bO 10))) (cu (aR (gc "go" (aq (cj (bB (bp (aF 11 (cR 0 av)))) (aA ay (aF 0 (cR 2 av)))) av)))) eT)
 (aE (eO (Eu (aL (eqQ false (aS (au 1)) (fM (bp av)))) (aL (a0 (eP false) (aA ay (aF 0 (cR 2 av))) (bO 0)))) (cu (aR (gc "say" (aq (aA (aZ 3) (aF 0 (aF 1 (aq (bB (bp av)) (cR 1 av))))) av)))) eT)
 (cu (aR (gc "put" (aq (cj (au 1) (aA ay (aF 0 (aq (eM (aS (au 1))) av)))) (aq (aA (aZ 3) (aF 0 (aF 1 (aq (bB (bp av)) (cR 2 av))))) av))))))))))))
def ee:dA:=eV 12 kg
def g9:cY:=
 (aE (nV (au 1) (gW (nG 3 (aI (bG 4) (aI (bG 5) (aI (bG 6) cW))))))
 (aE (aX 7 (bB (vy (aS (au 4)) (fM (bp (gc "given" av))))))
 (aE (aX 8 (aA ay (aF 0 (cR 10 av))))
 (aE (eO (iT (aL (a0 Er (au 8) (bO 3))) (aL (fw (aS (au 5))))) (cu (aR (gc "wait" (aq (cj (au 5) (aA ay (aF 0 (aq (eM (aS (au 5))) av)))) (aq (aA (aZ 3) (aF 0 (aF 7 (aF 5 (cR 1 av))))) av))))) eT)
 (aE (eO (iT (aL (a0 Er (au 8) (bO 5))) (aL (fw (aS (au 5))))) (aE (aX 9 (cj (bB (bp (gc "call" (aq (cj (bB (bp (gc "call" (gc "all" av)))) (zX intOfD (aq (a0 (eP false) (au 6) (cF (.str "when free"))) av))) av)))) (aA ay (aF 0 (cR 2 av)))))
 (cu (aR (aF 9 (aq (cj (au 5) (aA ay (aF 0 (aq (eM (aS (au 5))) av)))) av))))) eT)
 (aE (eO (iT (aL (a0 Er (au 8) (bO 7))) (aL (fw (aS (au 3))))) (aE (nV (cj (au 3) (aA ay (aF 0 (aq (eM (aS (au 3))) av)))) (gW (nG 2 (aI (bG 10) (aI (bG 11) cW)))))
 (aE (aX 12 (cj (bB (vy (aS (au 4)) (fM (bp (aq (cF .non) av))))) (aA ay (aF 0 (aq (a0 bL (eM (aS (au 4))) (bO 1)) av)))))
 (cu (aR (gc "do" (aF 12 (aF 10 (aF 11 (aq (aA (aZ 3) (aF 0 (aF 7 (aF 5 (cR 1 av))))) av))))))))) eT)
 (aE (eO (aL (a0 (eP false) (au 8) (bO 7))) (cu (aR (gc "tell" (aq (aA (aZ 3) (aF 0 (aF 7 (aF 5 (cR 1 av))))) av)))) eT)
 (aE (eO (aL (a0 (eP false) (au 8) (bO 8))) (aE (aX 13 (a0 bL (a0 bL (di 2 0) (bO 1)) (aA ay (aF 0 (aq (a0 xv (di 2 1) (di 2 0)) av)))))
 (cu (aR (gc "unless" (aq (aA (aZ 3) (aF 0 (aF 7 (aF 5 (cR 2 av))))) (aq (cj (bB (bp (aF 13 (aF 13 (cR 0 av))))) (aA ay (aF 0 (cR 3 av)))) av)))))) eT)
 (aE (eO (aL (eqQ false (aS (au 4)) (fM (bp av)))) (cu (aR (gc "tell" (gc "given" av)))) eT)
 (cu (aR (gc "put" (aq (cj (au 4) (aA ay (aF 0 (aq (eM (aS (au 4))) av)))) (aq (aA (aZ 3) (aF 0 (aF 7 (aF 5 (cR 2 av))))) av))))))))))))))
def eG:dA:=eV 14 g9
def kz:cY:=
 (aE (aX 2 (bB (eJ eF (aF 0 (cR 24 av)))))
 (aE (aX 3 (cj (bB (bp (cR 1 (cR 2 (cR 1 (cR 2 (cR 3 (cR 0 av)))))))) (aA ay (aF 0 (cR 6 av)))))
 (aE (aX 4 (bB (bH [none,some 0] (i4 (au 3)) (bG 0) bQ (a0 bL (bO 1) (aA ay (aF 1 (cR 2 av)))))))
 (aE (aX 5 (bB (bp av)))
 (aE (iX (i4 (au 3)) (bG 6) (uw (xM (au 5) (fM (bH [none,some 2,some 6] (Fx (bO 1) (cj (au 4) (au 6))) (bG 0) bQ (aR (aq (cj (au 1) (au 2)) (aq (cj (au 1) (a0 bL (bO 8) (au 0))) av))))))))
 (aE (nV (aR (aq (bB (bp av)) (aq (bB (bp av)) av))) (gW (nG 2 (aI (bG 7) (aI (bG 8) cW)))))
 (aE (iX (i4 (au 3)) (bG 6) (aE (aX 9 (bB (tP (fM (tP (aS (au 2)) (jj (bO 12)) jz)) jz (jj (aA ay (aF 0 (cR 3 av)))))))
 (aE (aX 10 (bB (tP (fM (tP (aS (au 2)) (jj (cj (bB (bp (cR 0 (cR 16 av)))) (aA ay (aF 0 (cR 2 av))))) jz)) jz (jj (cj (bB (bp (cR 1 (cR 0 (cR 1 (cR 2 av)))))) (aA ay (aF 0 (cR 4 av))))))))
 (aE (aX 11 (cj (bB (bp (gc "at once" (gc "when free" av)))) (aA ay (aF 0 (cR 2 av)))))
 (aE (aX 12 (bB (bp av)))
 (aE (iX (i4 (cj (au 4) (au 6))) (bG 13) (aE (aX 14 (a0 bL (bO 1) (aA ay (aF 0 (cR 3 av)))))
 (aE (aX 15 (bB (CG (aS (au 5)) (zX intOfD (aq (a0 (eP false) (au 13) (bO 0)) av)))))
 (aE (aX 16 (bB (bH [none,some 0,some 9,some 10,some 11,some 14,some 15] (i4 (au 14)) (bG 0) bQ (aA eG (aF 1 (aq (aR (aF 2 (aF 3 (aF 4 av)))) (aq (aR (aF 0 (aF 5 av))) (aF 6 av))))))))
 (uw (AR mX (au 12) (aq (aR (aq (cj (au 2) (a0 bL (bO 8) (au 13))) (aq (tupQ (dJ (aS (au 16)))) av))) av)))))))
 (aE (uw (xM (au 8) (fM (bH [none,some 2,some 6] (kc (aS (au 12))) (bG 0) bQ (aR (aq (cj (au 1) (au 2)) (gr 0 0 av)))))))
 (aE (aX 17 (tupQ (fM (bH [none,some 0] (kc (aS (au 9))) (bG 0) bQ (aR (aF 0 (aq (aA ay (aF 1 (cR 3 av))) av)))))))
 (aE (aX 18 (tupQ (fM (bH [none,some 0] (kc (aS (au 10))) (bG 0) bQ (aR (aF 0 (aq (cj (bB (bp (gc "row" (gc "turns" av)))) (aA ay (aF 1 (cR 2 av)))) av)))))))
 (uw (AR mX (au 7) (aq (aR (aq (cj (au 2) (au 6)) (aF 11 (aF 17 (aF 18 (aq (tupQ (dJ (aS (au 12)))) av)))))) av))))))))))))
 (aE (aX 19 (tupQ (fM (bH [none,some 0] (kc (fM (tP (fM (tP (aS (au 2)) (jj (bO 4)) jz)) jz (jj (cj (bB (bp (cR 0 (cR 1 (cR 2 (cR 1 av)))))) (aA ay (aF 0 (cR 4 av)))))))) (bG 0) bQ (aR (aF 0 (aq (aA ay (aF 1 (cR 2 av))) av)))))))
 (aE (aX 20 (tupQ (fM (bH [none,some 0] (kc (fM (tP (fM (tP (aS (au 2)) (jj (bO 20)) jz)) jz (jj (cj (bB (bp (cR 0 (cR 0 (cR 1 av))))) (aA ay (aF 0 (cR 3 av)))))))) (bG 0) bQ (aR (aF 0 (aq (aA ay (aF 1 (cR 2 av))) av)))))))
 (aE (aX 21 (bB (bp av)))
 (aE (iX (i4 (cj (bB (bp (cR 2 (cR 2 (cR 3 (cR 1 (cR 2 (cR 4 av)))))))) (aA ay (aF 0 (cR 6 av))))) (bG 6) (aE (aX 22 (bB (tP (fM (tP (aS (au 2)) (jj (bO 22)) jz)) jz (jj (aA ay (aF 0 (cR 2 av)))))))
 (aE (aX 14 (a0 bL (bO 1) (aA ay (aF 0 (aF 1 av)))))
 (aE (aX 23 (bB (vy (aS (au 22)) (fM (bH [none,none] (kc (aS (au 20))) (gW (nG 2 (aI (bG 0) (aI (bG 1) cW)))) bQ (au 0))))))
 (aE (aX 16 (bB (bH [none,some 0,some 8,some 14,some 19,some 23] (i4 (au 14)) (bG 0) bQ (aA ee (aF 1 (aF 5 (aq (bB (bH [none,none] (kc (aS (au 4))) (gW (nG 2 (aI (bG 0) (aI (bG 1) cW)))) bQ (au 0))) (aq (aR (aF 0 (aF 3 av))) (aF 2 av)))))))))
 (uw (AR mX (au 21) (aq (aR (aq (tupQ (fM (bH [none] (kc (aS (au 22))) (bG 0) bQ (aR (aF 0 (cR 0 av)))))) (aq (tupQ (dJ (aS (au 16)))) av))) av))))))))
 (cu (aR (aq (tupQ (dJ (aS (au 7)))) (aF 19 (aF 20 (aq (tupQ (dJ (aS (au 21)))) av)))))))))))))))))
def iH:dA:=eV 24 kz
def jP:cY:=
 (aE (eO (aL (a0 (eP false) (aA ay (aF 0 (cR 4 av))) (bO 0))) (cu (aA iH (aF 0 (aq (a0 bL (bO 1) (aA ay (aF 0 (cR 4 av)))) av)))) eT)
 (cu (aA eI (aF 0 av))))
def fF:dA:=eV 1 jP
def mj:cY:=
 (cu (tupQ (fM (bH [none,none] (kc (aS (au 0))) (gW (nG 2 (aI (bG 0) (aI (bG 1) cW)))) bQ (au 1)))))
def fQ:dA:=eV 1 mj
def kL:cY:=
 (aE (nV (au 0) (gW (nG 5 (aI (bG 1) (aI (bG 2) (aI (bG 3) (aI (bG 4) (aI (bG 5) cW))))))))
 (cu (aR (aq (aA fQ (aF 3 av)) (aq (cF (.int (-1))) (aq (aR av) (aq (aR av) (aq (tupQ (fM (bH [none] (kc (aS (au 4))) (bG 0) bQ (aR av)))) av))))))))
def iu:dA:=eV 6 kL
def zN:cY:=
 (aE (nV (au 0) (gW (nG 4 (aI (bG 1) (aI (bG 2) (aI (bG 3) (aI (bG 4) cW)))))))
 (aE (aX 5 (aR (aq (cF (.int (-1))) (aq (cF (.int (-1))) (cR 0 (cR 0 (cR 0 av)))))))
 (cu (aR (aq (tupQ (fM (bH [none] (kc (aS (au 1))) (bG 0) bQ (aA iu (aF 0 av))))) (aq (tupQ (fM (bH [none,none] (kc (aS (au 2))) (gW (nG 2 (aI (bG 0) (aI (bG 1) cW)))) bQ (aR (aF 1 (aq (aR av) av)))))) (aq (aA fQ (aF 3 av)) (aq (tupQ (fM (bH [none,none,some 5] (kc (aS (au 4))) (gW (nG 2 (aI (bG 0) (aI (bG 1) cW)))) bQ (aR (aq (aA fQ (aF 0 av)) (aq (aR (aF 2 av)) av)))))) av))))))))
def vC:dA:=eV 6 zN
def oG:cY:=
 (Gh (bH [none,none] (kc (aS (au 0))) (gW (nG 2 (aI (bG 0) (aI (bG 1) cW)))) bQ (au 1)))
def ji:dA:=eV 1 oG
def gZ:cY:=
 (aE (aX 1 (bB (bp av)))
 (aE (iX (kc (aS (di 0 1))) (gW (nG 2 (aI (bG 2) (aI (bG 3) cW)))) (uw (tY (au 1) (aS (au 3)))))
 (aE (iX (kc (aS (di 0 0))) (gW (nG 5 (aI (bG 4) (aI (bG 5) (aI (bG 3) (aI (bG 6) (aI (bG 7) cW))))))) (aE (uw (tY (au 1) (aS (a0 bL (au 3) (au 6)))))
 (iX (kc (aS (au 7))) (bG 8) (uw (xM (au 1) (fM (eJ ji (aF 8 av))))))))
 (cu (au 1)))))
def ed:dA:=eV 9 gZ
def kf:cY:=
 (cu (cj (cj (cj (di 0 3) (au 1)) (bO 1)) (vf (bO 1))))
def cB:dA:=eV 2 kf
def pU:cY:=
 (aE (w_ 3 4 (gr 2 0 (gr 2 1 av)))
 (aE (eO (aL (a0 (eP false) (au 3) (cF (.int (-1))))) (cu (cj (cj (di 0 3) (au 1)) (bO 1))) eT)
 (cu (cj (cj (cj (cj (di 0 0) (au 3)) (bO 4)) (au 4)) (bO 1)))))
def eg:dA:=eV 5 pU
def h_:cY:=
 (aE (aX 3 (aA cB (aF 1 (aF 2 av))))
 (cu (vc (a0 (eP false) (di 3 0) (cF (.int (-1)))) (a0 (eP false) (di 3 2) (eM (aS (aA eg (aF 0 (aF 2 (aF 3 av))))))))))
def fq:dA:=eV 4 h_
def ph:cY:=
 (aE (aX 2 (bB (eJ ed (aF 1 av))))
 (Gh (bH [none,some 0,some 1,some 2] (i4 (eM (aS (di 1 3)))) (bG 0) (iT (aL (vP true (au 0) (aS (au 3)))) (yZ (lK (aA fq (aF 1 (aF 2 (aF 0 av))))))) (au 0))))
def jh:dA:=eV 3 ph
def oB:cY:=
 (Gh (bH [none] (kc (aS (au 0))) (bG 0) bQ (di 0 0)))
def dS:dA:=eV 1 oB
def oS:cY:=
 (cu (HX (fM (eJ dS (aF 0 av))) (au 1)))
def c9:dA:=eV 2 oS
def mz:cY:=
 (cu (a0 bL (a0 bL (rZ (au 0) jz (jj (au 1))) (aR (aF 2 av))) (rZ (au 0) (jj (a0 bL (au 1) (bO 1))) jz)))
def dr:dA:=eV 3 mz
def mH:cY:=
 (cu (a0 bL (rZ (au 0) jz (jj (bO 3))) (aR (aq (aA dr (gr 0 3 (aF 1 (aq (aR (aF 2 (aF 3 av))) av)))) av))))
def eW:dA:=eV 4 mH
def l_:cY:=
 (cu (a0 bL (aR (aq (aA dr (gr 0 0 (aF 1 (aF 2 av)))) av)) (rZ (au 0) (jj (bO 1)) jz)))
def cU:dA:=eV 3 l_
def jK:cY:=
 (aE (aX 5 (cj (aA cB (aF 1 (aF 2 av))) (bO 0)))
 (aE (eO (aL (a0 (eP true) (au 5) (cF (.int (-1))))) (aE (aX 6 (aA c9 (aq (cj (cj (di 0 0) (au 5)) (bO 2)) (aF 3 av))))
 (aE (aX 7 (aA dr (aq (cj (cj (di 1 0) (au 5)) (bO 0)) (aF 6 (aF 4 av)))))
 (cu (aA cU (aF 1 (aF 5 (aq (a0 bL (aR (aF 7 av)) (rZ (cj (di 1 0) (au 5)) (jj (bO 1)) jz)) av))))))) eT)
 (aE (eO (aL (vP false (au 3) (fM (eJ dS (gr 0 2 av))))) (aE (aX 8 (aA dr (gr 1 2 (aq (aA c9 (gr 0 2 (aF 3 av))) (aF 4 av)))))
 (cu (aR (gr 1 0 (gr 1 1 (aF 8 (gr 1 3 av))))))) eT)
 (aE (nV (cj (di 1 3) (au 2)) (gW (nG 2 (aI (bG 7) (aI (bG 9) cW)))))
 (aE (aX 6 (aA c9 (aq (cj (cj (di 0 3) (au 2)) (bO 0)) (aF 3 av))))
 (cu (aA eW (aF 1 (aF 2 (aq (aA dr (aF 7 (aF 6 (aF 4 av)))) (aF 9 av)))))))))))
def eZ:dA:=eV 10 jK
def iS:cY:=
 (aE (eO (aL (a0 (eP false) (au 0) (cF (.str "plus")))) (cu (zX minD (aq (a0 bL (au 1) (au 2)) (aq (cF (.int (9))) av)))) eT)
 (aE (eO (aL (a0 (eP false) (au 0) (cF (.str "minus")))) (cu (zX maxD (aq (a0 xv (au 1) (au 2)) (cR 0 av)))) eT)
 (aE (eO (aL (a0 (eP false) (au 0) (cF (.str "less")))) (cu (qN (aL (a0 Er (au 1) (au 2))) (bO 1) (bO 0))) eT)
 (aE (eO (aL (a0 (eP false) (au 0) (cF (.str "same")))) (cu (qN (aL (a0 (eP false) (au 1) (au 2))) (bO 1) (bO 0))) eT)
 (cu (qN (iT (aL (a0 (eP true) (au 1) (bO 0))) (aL (a0 (eP true) (au 2) (bO 0)))) (bO 1) (bO 0)))))))
def f_:dA:=eV 3 iS
def oE(self:dA):cY:=
 (aE (eO (lK (nu "int" (au 0))) (cu (au 0)) eT)
 (aE (eO (lK (nu "str" (au 0))) (cu (Je (au 1) (au 0))) eT)
 (aE (eO (aL (a0 (eP false) (di 0 0) (cF (.str "waits")))) (cu (qN (aL (a0 Kf (Je (au 2) (di 0 1)) (bO 0))) (bO 1) (bO 0))) eT)
 (aE (aX 3 (aA self (gr 0 1 (aF 1 (aF 2 av)))))
 (aE (eO (aL (a0 (eP false) (di 0 0) (cF (.str "not")))) (cu (qN (aL (a0 (eP false) (au 3) (bO 0))) (bO 1) (bO 0))) eT)
 (cu (aA f_ (gr 0 0 (aF 3 (aq (aA self (gr 0 2 (aF 1 (aF 2 av)))) av))))))))))
def fS:Nat->dA
 |0=>λ_ _=>none
 |n+1=>eV 4 (oE (fS n))
def lA:cY:=
 (aE (aX 4 (aA cB (aF 1 (aF 2 av))))
 (aE (aX 5 (di 4 0))
 (aE (eO (aL (a0 (eP false) (au 5) (cF (.int (-1))))) (aE (aX 6 (HY (fM (eJ dS (gr 0 2 av))) (aS (di 1 2))))
 (aE (uw (Fe (au 6) (HY (fM (eJ dS (aq (cj (cj (di 0 3) (au 2)) (bO 0)) av))) (aS (cj (cj (di 1 3) (au 2)) (bO 0))))))
 (cu (aA (fS 6) (aF 3 (aF 6 (aq K2 av))))))) eT)
 (aE (aX 6 (HY (fM (eJ dS (aq (cj (cj (di 0 0) (au 5)) (bO 2)) av))) (aS (cj (cj (di 1 0) (au 5)) (bO 0)))))
 (aE (Ka (au 6) (cF (.str "given")) (di 4 3))
 (aE (Iy 7 (oT [none,none] (tj (fM (eJ dS (aq (cj (cj (di 0 0) (au 5)) (bO 3)) av))) (aS (cj (cj (di 1 0) (au 5)) (bO 4)))) (gW (nG 2 (aI (bG 0) (aI (bG 1) cW)))) bQ (au 0) (eM (aS (au 1)))))
 (cu (aA (fS 6) (aF 3 (aF 6 (aF 7 av)))))))))))
def dz:dA:=eV 8 lA
def vV:cY:=
 (cu (aA eZ (aF 0 (aF 1 (aF 2 (gr 3 1 (aq (aA dz (aF 0 (aF 1 (aF 2 (gr 3 2 av))))) av)))))))
def qp:dA:=eV 4 vV
def fP:cY:=
 (aE (nV (cj (di 0 3) (au 1)) (gW (nG 2 (aI (bG 3) (aI (bG 4) cW)))))
 (cu (aA eW (aF 0 (aF 1 (aF 3 (aq (a0 bL (rZ (au 4) jz (jj (vf (bO 1)))) (aR (aF 2 av))) av)))))))
def dw:dA:=eV 5 fP
def wB:cY:=
 (aE (aX 3 (aA cB (aF 0 (aF 1 av))))
 (cu (aA dw (aF 0 (aF 1 (aq (a0 bL (a0 bL (rZ (au 3) jz (jj (bO 2))) (aR (aF 2 av))) (rZ (au 3) (jj (bO 3)) jz)) av))))))
def jB:dA:=eV 4 wB
def l8:cY:=
 (aE (eO (aL (a0 (eP false) (aA dz (aF 0 (aF 1 (aF 2 (gr 3 1 av))))) (bO 0))) (cu (aA jB (aF 1 (aF 2 (gr 3 2 av))))) eT)
 (cu (au 1)))
def jN:dA:=eV 4 l8
def yD:cY:=
 (cu (aA jB (aF 1 (aF 2 (gr 3 1 av)))))
def vb:dA:=eV 4 yD
def sk:cY:=
 (aE (nV (cj (di 0 0) (au 1)) (gW (nG 5 (aI (bG 3) (aI (bG 4) (aI (bG 5) (aI (bG 6) (aI (bG 7) cW))))))))
 (aE (eO (aL (a0 (eP false) (au 4) (cF (.int (-1))))) (cu (aA cU (aF 0 (aF 1 (aq (aR (aF 3 (aF 2 (aF 5 (aF 6 (aF 7 av)))))) av))))) eT)
 (cu (aA cU (aF 0 (aF 1 (aq (aR (aF 3 (aF 4 (aq (a0 bL (au 5) (aR (aF 2 av))) (aF 6 (aF 7 av)))))) av)))))))
def kN:dA:=eV 8 sk
def zk:cY:=
 (aE (aX 4 (aA c9 (gr 0 0 (gr 3 2 av))))
 (aE (aX 5 (aA c9 (aq (cj (cj (di 0 0) (au 4)) (bO 4)) (gr 3 3 av))))
 (aE (aX 6 (aR (aF 4 (aF 5 (cR 0 (aq (aA dz (aF 0 (aF 1 (aF 2 (gr 3 4 av))))) (cR 0 av)))))))
 (aE (nV (cj (di 1 3) (au 2)) (gW (nG 2 (aI (bG 7) (aI (bG 8) cW)))))
 (cu (aA kN (aq (aA eW (aF 1 (aF 2 (aF 7 (aq (a0 bL (au 8) (aR (aF 6 av))) av))))) (aF 4 (aF 2 av)))))))))
def v5:dA:=eV 9 zk
def rK:cY:=
 (aE (aX 4 (cj (aA cB (aF 1 (aF 2 av))) (bO 0)))
 (cu (aR (aF 4 (aq (aA c9 (aq (cj (cj (di 0 0) (au 4)) (bO 3)) (aF 3 av))) av)))))
def i9:dA:=eV 5 rK
def mM:cY:=
 (aE (aX 4 (cj (di 0 0) (au 1)))
 (cu (aA cU (aF 0 (aF 1 (aq (a0 bL (rZ (au 4) jz (jj (bO 4))) (aR (aq (aA dr (gr 4 4 (aF 2 (aF 3 av)))) av))) av))))))
def eX:dA:=eV 5 mM
def zI:cY:=
 (aE (nV (cj (di 0 0) (au 1)) (gW (nG 5 (aI (bG 2) (aI (bG 3) (aI (bG 4) (aI (bG 5) (aI (bG 6) cW))))))))
 (aE (eO (lK (au 5)) (cu (aA cU (aF 0 (aF 1 (aq (aR (aF 2 (gr 5 0 (aF 4 (aq (rZ (au 5) (jj (bO 1)) jz) (aF 6 av)))))) av))))) eT)
 (aE (eO (lK (au 4)) (cu (aA cU (aF 0 (aF 1 (aq (aR (aF 2 (gr 4 0 (aq (rZ (au 4) (jj (bO 1)) jz) (aF 5 (aF 6 av)))))) av))))) eT)
 (cu (aA cU (aF 0 (aF 1 (aq (aR (aF 2 (aq (cF (.int (-1))) (aF 4 (aF 5 (aF 6 av)))))) av))))))))
def oy:dA:=eV 7 zI
def sF:cY:=
 (aE (nV (aA i9 (aF 0 (aF 1 (aF 2 (gr 3 1 av))))) (gW (nG 2 (aI (bG 4) (aI (bG 5) cW)))))
 (aE (aX 6 (bO 0))
 (aE (eO (aL (a0 (eP false) (cj (cj (cj (cj (di 0 0) (au 4)) (bO 3)) (au 5)) (bO 1)) (cF (.str "turns")))) (aX 6 (aA dz (aF 0 (aF 1 (aF 2 (gr 3 2 av)))))) eT)
 (aE (aX 7 (cj (cj (cj (di 1 0) (au 4)) (bO 4)) (au 5)))
 (aE (aX 8 (eM (fM (bH [none,none,some 6] (kc (aS (au 7))) (gW (nG 2 (aI (bG 0) (aI (bG 1) cW)))) (aL (a0 KF (au 0) (au 2))) (au 0)))))
 (aE (aX 9 (aA eX (aF 1 (aF 4 (aF 5 (aq (a0 bL (a0 bL (rZ (au 7) jz (jj (au 8))) (aR (aq (aR (aF 6 (aF 2 av))) av))) (rZ (au 7) (jj (au 8)) jz)) av))))))
 (cu (aA oy (aF 9 (aF 4 av))))))))))
def nP:dA:=eV 10 sF
def r8:cY:=
 (aE (nV (aA i9 (aF 0 (aF 1 (aF 2 (gr 3 1 av))))) (gW (nG 2 (aI (bG 4) (aI (bG 5) cW)))))
 (aE (aX 6 (cj (cj (cj (di 1 0) (au 4)) (bO 4)) (au 5)))
 (aE (eO (yZ (lK (au 6))) (cu (au 1)) eT)
 (aE (aX 7 (aA eX (aF 1 (aF 4 (aF 5 (aq (rZ (au 6) (jj (bO 1)) jz) av))))))
 (aE (eO (aL (a0 (eP false) (cj (cj (di 0 0) (au 4)) (bO 1)) (cF (.str "when free")))) (cu (au 7)) eT)
 (aE (nV (cj (di 7 0) (au 4)) (gW (nG 5 (aI (bG 8) (aI (bG 9) (aI (bG 10) (aI (bG 11) (aI (bG 12) cW))))))))
 (cu (aA cU (aF 7 (aF 4 (aq (aR (aF 8 (aq (cj (di 6 0) (bO 1)) (aF 10 (aq (a0 bL (au 11) (aR (aF 2 av))) (aF 12 av)))))) av)))))))))))
def nZ:dA:=eV 13 r8
def vX:cY:=
 (aE (nV (aA i9 (aF 0 (aF 1 (aF 2 (gr 3 1 av))))) (gW (nG 2 (aI (bG 4) (aI (bG 5) cW)))))
 (cu (aA eX (aF 1 (aF 4 (aF 5 (aq (aR av) av)))))))
def qu:dA:=eV 6 vX
def sD:cY:=
 (aE (aX 4 (aA dz (aF 0 (aF 1 (aF 2 (gr 3 1 av))))))
 (cu (aA dw (aF 1 (aF 2 (aq (a0 bL (rZ (aA cB (aF 1 (aF 2 av))) jz (jj (bO 4))) (aR (aF 4 av))) av))))))
def om:dA:=eV 5 sD
def mf:cY:=
 (cu (a0 bL (aR (gr 0 0 (aq (aA dr (gr 0 1 (aF 1 (aF 2 av)))) av))) (rZ (au 0) (jj (bO 2)) jz)))
def fe:dA:=eV 3 mf
def zu:cY:=
 (aE (aX 4 (aA c9 (gr 0 1 (aF 3 av))))
 (aE (nV (cj (di 1 1) (au 4)) (gW (nG 2 (aI (bG 5) (aI (bG 6) cW)))))
 (aE (eO (aL (a0 Kf (au 5) (bO 0))) (cu (aA fe (aF 1 (aF 4 (aq (aR (aq (a0 xv (au 5) (bO 1)) (aF 6 av))) av))))) eT)
 (cu (aA fe (aF 1 (aF 4 (aq (aR (aF 5 (aq (a0 bL (au 6) (aR (aF 2 av))) av))) av))))))))
def rT:dA:=eV 7 zu
def rH:cY:=
 (cu (aA rT (aF 0 (aF 1 (aF 2 (gr 3 1 av))))))
def nB:dA:=eV 4 rH
def kQ:cY:=
 (aE (aX 3 (aA c9 (gr 0 1 (aF 2 av))))
 (aE (nV (cj (di 1 1) (au 3)) (gW (nG 2 (aI (bG 4) (aI (bG 5) cW)))))
 (aE (eO (lK (au 5)) (cu (aA fe (aF 1 (aF 3 (aq (aR (aF 4 (aq (rZ (au 5) (jj (bO 1)) jz) av))) av))))) eT)
 (cu (aA fe (aF 1 (aF 3 (aq (aR (aq (zX minD (aq (a0 bL (au 4) (bO 1)) (aq (cF (.int (9))) av))) (aF 5 av))) av))))))))
def gd:dA:=eV 6 kQ
def rQ:cY:=
 (cu (aA gd (aF 0 (aF 1 (gr 3 1 av)))))
def nX:dA:=eV 4 rQ
def qO:cY:=
 (cu (aA rT (aF 0 (aq (aA gd (aF 0 (aF 1 (gr 3 1 av)))) (aF 2 (gr 3 2 av))))))
def m9:dA:=eV 4 qO
def vm:cY:=
 (cu (au 1))
def qy:dA:=eV 4 vm
def lq:List (Str×Str):= [("put","by_put"),("unless","by_unless"),("go","by_go"),("do","by_do"),("wait","by_wait"),("call","by_call"),("all","by_all"),("tell","by_tell"),("take","by_take"),("give","by_give"),("pass","by_pass"),("say","by_say")]
def qR:List (Str×dA):= [("by_put",qp),("by_unless",jN),("by_go",vb),("by_do",v5),("by_wait",nP),("by_call",nZ),("by_all",qu),("by_tell",om),("by_take",nB),("by_give",nX),("by_pass",m9),("by_say",qy)]
def tW:cY:=
 (aE (aX 4 (J7 lq (di 3 0)))
 (cu (sx 4 qR (aF 0 (aF 1 (aF 2 (aF 3 av)))))))
def je:dA:=eV 5 tW
def pj:cY:=
 (aE (nV (cj (di 1 3) (au 2)) (gW (nG 2 (aI (bG 3) (aI (bG 4) cW)))))
 (aE (nV (cj (au 4) (vf (bO 1))) (gW (nG 5 (aI (bG 5) (aI (bG 6) (aI (bG 7) (aI (bG 8) (aI (bG 9) cW))))))))
 (aE (aX 10 (aA eW (aq (aA oy (aF 1 (aF 5 av))) (aF 2 (aF 3 (aq (rZ (au 4) jz (jj (vf (bO 1)))) av))))))
 (aE (aX 11 (cj (aA eg (aF 0 (aF 2 (aq (cj (au 4) (vf (bO 2))) av)))) (a0 xv (cj (cj (au 4) (vf (bO 2))) (bO 2)) (bO 1))))
 (aE (eO (aL (a0 (wo false) (di 11 1) (cF .non))) (cu (au 10)) eT)
 (cu (aA eZ (aF 0 (aF 10 (aF 2 (gr 11 1 (aF 9 av))))))))))))
def ju:dA:=eV 12 pj
def kT:cY:=
 (aE (aX 3 (aA cB (aF 1 (aF 2 av))))
 (aE (aX 4 (di 3 0))
 (aE (eO (iT (aL (a0 (eP true) (au 4) (cF (.int (-1))))) (aL (a0 (eP true) (cj (cj (di 1 0) (au 4)) (bO 1)) (au 2)))) (cu (aR (aq (aA kN (aF 1 (aF 4 (aF 2 av)))) (aq (cF .non) av)))) eT)
 (aE (aX 5 (aA eg (aF 0 (aF 2 (aF 3 av)))))
 (aE (eO (aL (a0 (eP false) (di 3 2) (eM (aS (au 5))))) (cu (aR (aq (aA ju (aF 0 (aF 1 (aF 2 av)))) (aq (cF .non) av)))) eT)
 (aE (aX 6 (cj (au 5) (di 3 2)))
 (aE (aX 7 (cF .non))
 (aE (eO (aL (a0 (eP false) (di 6 0) (cF (.str "say")))) (aX 7 (aR (aF 2 (aq (aA dz (aF 0 (aF 1 (aF 2 (gr 6 1 av))))) av)))) eT)
 (cu (aR (aq (aA je (aF 0 (aq (aA jB (aF 1 (aF 2 (aq (a0 bL (di 3 2) (bO 1)) av)))) (aF 2 (aF 6 av))))) (aF 7 av))))))))))))
def oo:dA:=eV 8 kT
def qU:cY:=
 (aE (eO (aL (vP true (au 2) (fM (eJ jh (aF 0 (aF 1 av)))))) never eT)
 (cu (aA oo (aF 0 (aF 1 (aF 2 av))))))
def nM:dA:=eV 3 qU
def kq:cY:=
 (aE (aX 2 (bB (bp av)))
 (aE (iX (kc (fM (eJ jh (aF 0 (aF 1 av))))) (bG 3) (aE (nV (aA nM (aF 0 (aF 1 (aF 3 av)))) (gW (nG 2 (aI (bG 4) (aI (bG 5) cW)))))
 (uw (AR mX (au 2) (aq (aR (aF 3 (aF 4 (aF 5 av)))) av)))))
 (cu (au 2))))
def iC:dA:=eV 6 kq
def gw:cY:=
 (aE (iX (tj (aS (di 0 1)) (aS (di 1 1))) (gW (nG 2 (aI (gW (nG 2 (aI (bG 3) (aI (bG 4) cW)))) (aI (gW (nG 2 (aI (bG 5) (aI (bG 6) cW)))) cW)))) (eO (aL (vP false (au 2) (aS (au 6)))) (cu (aR (gc "pass" (aF 3 av)))) eT))
 (aE (iX (tj (aS (di 0 0)) (aS (di 1 0))) (gW (nG 2 (aI (bG 7) (aI (bG 8) cW)))) (aE (eO (aL (vP false (au 2) (aS (di 8 2)))) (cu (aR (gc "row" (gr 7 0 av)))) eT)
 (aE (eO (aL (vP false (au 2) (aS (di 8 3)))) (cu (aR (gc "late" (gr 7 0 av)))) eT)
 (iX (tj (aS (di 7 3)) (aS (di 8 4))) (gW (nG 2 (aI (gW (nG 2 (aI (bG 9) (aI (bG 10) cW)))) (aI (bG 11) cW)))) (eO (aL (vP false (au 2) (fM (eJ ji (aF 11 av))))) (cu (aR (gc "bell" (gr 7 0 (aF 9 av))))) eT)))))
 (cu (cF .non))))
def eS:dA:=eV 12 gw
def vO:cY:=
 (aE (aX 3 (aA eS (aF 0 (aF 1 (aF 2 av)))))
 (aE (eO (aL (a0 (wo true) (au 3) (cF .non))) (cu (au 3)) eT)
 (aE (aX 4 (aA cB (aF 1 (aF 2 av))))
 (aE (aX 5 (di 4 0))
 (aE (eO (aL (a0 (eP false) (au 5) (cF (.int (-1))))) (cu (qN (aL (a0 (eP false) (di 4 2) (eM (aS (aA eg (aF 0 (aF 2 (aF 4 av)))))))) (aR (gc "done" av)) (aR (gc "out" av)))) eT)
 (aE (aX 6 (cj (cj (di 0 0) (au 5)) (bO 0)))
 (cu (qN (aL (a0 (eP false) (cj (cj (di 1 0) (au 5)) (bO 1)) (au 2))) (aR (gc "within" (aF 6 av))) (aR (gc "called" (aF 6 av)))))))))))
def qw:dA:=eV 7 vO
def fR(self:dA):cY:=
 (aE (eO (lK (xE "list" "tuple" (au 1))) (aE (eO (Eu (aL (a0 (eP true) (nu "list" (au 0)) (nu "list" (au 1)))) (aL (a0 (eP true) (nu "tuple" (au 0)) (nu "tuple" (au 1))))) (cu (cF (.bl false))) eT)
 (cu (vc (a0 (eP false) (eM (aS (au 0))) (eM (aS (au 1)))) (ES (fM (bH [none,none] (tj (aS (au 0)) (aS (au 1))) (gW (nG 2 (aI (bG 0) (aI (bG 1) cW)))) bQ (aA self (aF 0 (aF 1 av))))))))) eT)
 (aE (eO (aL (a0 (wo false) (au 1) (cF .non))) (cu (a0 (wo false) (au 0) (cF .non))) eT)
 (aE (eO (lK (nu "str" (au 1))) (cu (vc (nu "str" (au 0)) (a0 (eP false) (au 0) (au 1)))) eT)
 (cu (vc (nu "int" (au 0)) (vc (EO (nu "bool" (au 0))) (a0 (eP false) (au 0) (au 1))))))))
def fO:Nat->dA
 |0=>λ_ _=>none
 |n+1=>eV 2 (fR (fO n))
def zD:cY:=
 (cu (tupQ (fM (bH [none,none,some 2] (tj (aS (di 0 0)) (aS (di 1 0))) (gW (nG 2 (aI (bG 0) (aI (bG 1) cW)))) (aL (a0 (eP false) (di 1 1) (au 2))) (di 0 0)))))
def vF:dA:=eV 3 zD
def kG:cY:=
 (aE (iX (i4 (eM (aS (di 0 3)))) (bG 2) (aE (aX 3 (bB (bp av)))
 (aE (iX (tj (aS (di 0 0)) (aS (di 1 0))) (gW (nG 2 (aI (bG 4) (aI (bG 5) cW)))) (eO (aL (a0 (eP false) (di 5 1) (au 2))) (uw (AR mX (au 3) (gr 4 0 av))) eT))
 (aE (eO (yZ (lK (aA (fO 10) (aq (aA vF (aF 0 (aF 1 (aF 2 av)))) (aq (tupQ (dJ (aS (au 3)))) av))))) (cu (cF (.bl false))) eT)
 (aE (aX 6 (aA qw (aF 0 (aF 1 (aF 2 av)))))
 (aE (eO (Eu (iT (aL (vP false (di 6 0) (aS (aR (gc "bell" (gc "late" (gc "called" av))))))) (aL (vP false (di 6 1) (aS (au 3))))) (aL (eqQ true (aS (au 3)) (fM (xA (aS (au 3))))))) (cu (cF (.bl false))) eT)
 (eO (Eu (iT (aL (a0 (eP false) (di 6 0) (cF (.str "within")))) (aL (vP true (di 6 1) (aS (au 3))))) (iT (aL (vP false (di 6 0) (aS (aR (gc "out" (gc "done" (gc "pass" av))))))) (aL (fw (aS (au 3)))))) (cu (cF (.bl false))) eT)))))))
 (cu (cF (.bl true))))
def iA:dA:=eV 7 kG
def GF:cY:=
 (aE (iX (i4 (a0 bL (bO 1) (zX minD (cR 6 (aq (eM (aS (au 0))) av))))) (bG 1) (aE (aX 2 (bB (eJ k_ (aF 0 (aF 1 av)))))
 (aE (aX 3 (aA fF (aF 2 av)))
 (aE (aX 4 (aA vC (aF 3 av)))
 (iX (i4 (bO 40)) (bG 5) (aE (eO (yZ (lK (aA iA (aF 3 (aF 4 av))))) (cu (cF (.bl false))) eT)
 (aE (aX 6 (bB (eJ iC (aF 3 (aF 4 av)))))
 (eO (aL (fw (aS (au 6)))) (aX 4 (cj (cj (au 6) (aA ay (aF 2 (aq (eM (aS (au 6))) av)))) (bO 1))) eT))))))))
 (cu (cF (.bl true))))
def FY:dA:=eV 7 GF
def top(i:Nat):Stmt:=PySem.Challenge.pw_calledroom_k39_rooms_held.main.body.getD i (.Pass ⟨0,0,0,0⟩)
abbrev mY:Stmt:=top 60
abbrev ko:Stmt:=top 61
abbrev jS:Stmt:=top 62
abbrev fE:Stmt:=top 68
abbrev ij:Stmt:=top 63
abbrev gx:Stmt:=top 65
abbrev gE:Stmt:=top 64
abbrev jR:Stmt:=top 66
abbrev iO:Stmt:=top 69
abbrev kB:Stmt:=top 9
abbrev jI:Stmt:=top 11
abbrev wz:Stmt:=top 10
abbrev mI:Stmt:=top 22
abbrev gB:Stmt:=top 55
abbrev jX:Stmt:=top 12
abbrev jT:Stmt:=top 13
abbrev gD:Stmt:=top 56
abbrev mS:Stmt:=top 54
abbrev mU:Stmt:=top 27
abbrev mE:Stmt:=top 29
abbrev kJ:Stmt:=top 14
abbrev kC:Stmt:=top 17
abbrev kO:Stmt:=top 15
abbrev kK:Stmt:=top 31
abbrev ib:Stmt:=top 3
abbrev mv:Stmt:=top 2
abbrev mT:Stmt:=top 30
abbrev rD:Stmt:=top 35
abbrev fD:Stmt:=top 18
abbrev rC:Stmt:=top 19
abbrev kA:Stmt:=top 36
abbrev uW:Stmt:=top 37
abbrev oW:Stmt:=top 32
abbrev vM:Stmt:=top 38
abbrev oJ:Stmt:=top 39
abbrev ki:Stmt:=top 40
abbrev vn:Stmt:=top 33
abbrev oH:Stmt:=top 41
abbrev o9:Stmt:=top 42
abbrev si:Stmt:=top 43
abbrev oU:Stmt:=top 44
abbrev km:Stmt:=top 16
abbrev vq:Stmt:=top 46
abbrev oK:Stmt:=top 45
abbrev jV:Stmt:=top 48
abbrev pd:Stmt:=top 47
abbrev oI:Stmt:=top 49
abbrev sI:Stmt:=top 50
abbrev mC:Stmt:=top 52
abbrev mW:Stmt:=top 34
abbrev oY:Stmt:=top 58
abbrev oM:Stmt:=top 57
abbrev jW:Stmt:=top 70
abbrev fY:Stmt:=top 21
abbrev rN:Stmt:=top 20
abbrev kr:Stmt:=top 67
abbrev u3:Stmt:=top 5
abbrev jC:Stmt:=top 71
abbrev nI:Stmt:=top 72
end W28
namespace W28
open PySem PySem.Spec L2 DL PyProof.Rows
abbrev zC:List Str:= ["_law_found","_law_due"]
abbrev xf:List Str:= ["_law_left","_law_many"]
abbrev zZ:List Str:= ["_law_left","_law_most"]
abbrev uz:List Str:= ["_law_left","_law_names","_law_bells","_law_deep"]
abbrev Ay:List Str:= ["_law_left","_law_own","_law_passes","_law_span","_law_deeds"]
abbrev Aw:List Str:= ["_law_left","_law_room","_law_span","_law_inner"]
abbrev nN:List Str:= ["_law_left"]
abbrev Ap:List Str:= ["_law_script","_law_k"]
abbrev Dz:List Str:= ["_law_script"]
abbrev pK:List Str:= ["_law_world_here","_law_scene"]
abbrev Ga:List Str:= ["_law_x","_law_left"]
abbrev xn:List Str:= ["form","first","second"]
abbrev xq:List Str:= ["line"]
abbrev xB:List Str:= ["parts","at","part"]
abbrev xF:List Str:= ["roll","name"]
abbrev xt:List Str:= ["roll"]
abbrev xQ:List Str:= ["room"]
abbrev yh:List Str:= ["scene","at","room"]
abbrev xV:List Str:= ["scene","at","turnstile"]
abbrev AA:List Str:= ["scene","hand","frame"]
abbrev Ax:List Str:= ["scene","hand","row"]
abbrev yo:List Str:= ["scene","hand","values","frames"]
abbrev ya:List Str:= ["scene","hand"]
abbrev Ar:List Str:= ["scene","room","bell","line"]
abbrev zT:List Str:= ["scene","room","hand"]
abbrev Ah:List Str:= ["scene","room"]
abbrev Ae:List Str:= ["scene"]
abbrev w4:List Str:= ["things"]
abbrev ua:List Str:= ["tree","things","waiting"]
abbrev AI:List Str:= ["world","hand","frame"]
abbrev zW:List Str:= ["world","scene","hand","name"]
abbrev bF:List Str:= ["world","scene","hand","row"]
abbrev AS:List Str:= ["world","scene","hand","tree"]
abbrev Av:List Str:= ["world","scene","hand","word","value"]
abbrev Ao:List Str:= ["world","scene","hand","word"]
abbrev c7:List Str:= ["world","scene","hand"]
abbrev Ai:List Str:= ["world","scene","name"]
abbrev Ak:List Str:= ["world","scene"]
abbrev z3:List Str:= ["world"]
section
variable(P:Program)(w:World)(K:PySem.W.Frag)(mg:Str->Option Value)(base:Heap)
abbrev yN:Prop:=fg P w K mg base 1 "_law_pot" Ap k_
abbrev dE:Prop:=fg P w K mg base 1 "_law_pick" xf ay
abbrev oq:Prop:=fg P w K mg base 2 "_law_words" xf eF
abbrev nH:Prop:=fg P w K mg base 3 "_law_ring_world" nN eI
abbrev kW:Prop:=fg P w K mg base 5 "_law_any_sum" uz (aZ 3)
abbrev p9:Prop:=fg P w K mg base 6 "_law_hand_row" Ay ee
abbrev qf:Prop:=fg P w K mg base 6 "_law_deed_row" Aw eG
abbrev vt:Prop:=fg P w K mg base 7 "_law_world" zZ iH
abbrev tT:Prop:=fg P w K mg base 8 "_law_either" nN fF
abbrev pG:Prop:=fg P w K mg base 1 "values_of" w4 fQ
abbrev vj:Prop:=fg P w K mg base 2 "begun_room" xQ iu
abbrev E2:Prop:=fg P w K mg base 3 "begun" z3 vC
abbrev rL:Prop:=fg P w K mg base 1 "hands_at" xq ji
abbrev p8:Prop:=fg P w K mg base 2 "hands_in_rows" Ae ed
abbrev dk:Prop:=fg P w K mg base 1 "last_frame" ya cB
abbrev gN:Prop:=fg P w K mg base 1 "program_of" AI eg
abbrev qh:Prop:=fg P w K mg base 2 "is_behind_all" c7 fq
abbrev rO:Prop:=fg P w K mg base 3 "may_step" Ak jh
abbrev mO:Prop:=fg P w K mg base 1 "names_of" xt dS
abbrev ig:Prop:=fg P w K mg base 2 "place_of" xF c9
abbrev gk:Prop:=fg P w K mg base 1 "with_part" xB dr
abbrev iJ:Prop:=fg P w K mg base 2 "with_hand" yo eW
abbrev gh:Prop:=fg P w K mg base 2 "with_room" yh cU
abbrev pM:Prop:=fg P w K mg base 3 "put_thing" Av eZ
abbrev qJ:Prop:=fg P w K mg base 1 "value_of_two" xn f_
abbrev yw:Prop:=fg P w K mg base 8 "value_of" ua (fS 6)
abbrev fN:Prop:=fg P w K mg base 9 "reckoned" AS dz
abbrev iq:Prop:=fg P w K mg base 3 "with_last_frame" AA dw
abbrev sP:Prop:=fg P w K mg base 4 "at_row" Ax jB
abbrev uG:Prop:=fg P w K mg base 3 "come_in" zT kN
abbrev oP:Prop:=fg P w K mg base 3 "bell_of" Ao i9
abbrev kF:Prop:=fg P w K mg base 3 "with_line" Ar eX
abbrev AK:Prop:=fg P w K mg base 3 "leave" Ah oy
abbrev pI:Prop:=fg P w K mg base 2 "with_pass" xV fe
abbrev AJ:Prop:=fg P w K mg base 3 "taken" zW rT
abbrev m8:Prop:=fg P w K mg base 3 "given_back" Ai gd
abbrev zB:Prop:=fg P w K mg base 11 "row_done" bF je
abbrev yJ:Prop:=fg P w K mg base 4 "end_deed" c7 ju
abbrev BV:Prop:=fg P w K mg base 12 "step_of" c7 oo
abbrev B9:Prop:=fg P w K mg base 13 "stepped" c7 nM
abbrev wb:Prop:=fg P w K mg base 14 "_law_steps" pK iC
abbrev oQ:Prop:=fg P w K mg base 2 "place_in_a_row" c7 eS
abbrev CB:Prop:=fg P w K mg base 3 "stands" c7 qw
abbrev xr:Prop:=fg P w K mg base 11 "_law_same" zC (fO 10)
abbrev Fc:Prop:=fg P w K mg base 1 "holds" c7 vF
abbrev vi:Prop:=fg P w K mg base 12 "_law_right" pK iA
end
def K5{X:Cx}{a:Expr}{pos:Pos}{f:eN}{p:Pos}(d:Gl X "len")(e:X.mg "len"=none)(b:PE X a (tQ (md X) f))(c:starEach [a] X.env= [(false,eval a X.env)]):PE X (.Call (.Name "len" p) [a] [] pos) (tD (md X) (eM f)):=tZ d e b c
def cG{X:Cx}{pos:Pos}{N:List Str}{js:List (Option Nat)}{a:Scope}{c:List (Str×Addr)}{h b d:Expr}{e:List Expr}{i:sR}{g:lB}{t:iY}{f:bx}(S:aU X N js a c)(k:X.calm=true)(hi:PI X h b (tI (md X) i))(j:∀C s H fp,PG (aN X N a c C s H fp) h (tG (md (aN X N a c C s H fp)) g))(ht:∀C s H fp,mK (aN X N a c C s H fp) e (tB (md (aN X N a c C s H fp)) t))(he:∀C s H fp,PE (aN X N a c C s H fp) d (tD (md (aN X N a c C s H fp)) f))(l:∀x,foldedSetIterable b X.env x=pure x:=by intro _;rfl):PE X (.ListComp d [⟨h,b,e,0⟩] a pos) (tL (md X) (bH js i g t f)):=Hm S k hi j ht he l
def qC{X:Cx}{pos:Pos}{N:List Str}{js:List (Option Nat)}{a:Scope}{h:List (Str×Addr)}{k b e c:Expr}{j:List Expr}{i:sR}{g:lB}{t:iY}{f:bx}{n:Nat}{d:Pos}(S:aU X N js a h)(q:X.calm=true)(hi:PI X k b (tI (md X) i))(o:∀C s H fp,PG (aN X N a h C s H fp) k (tG (md (aN X N a h C s H fp)) g))(ht:∀C s H fp,mK (aN X N a h C s H fp) j (tB (md (aN X N a h C s H fp)) t))(he:∀C s H fp,PE (aN X N a h C s H fp) e (tD (md (aN X N a h C s H fp)) f))(m:PG X c (oh n))(r:∀x,foldedSetIterable b X.env x=pure x:=by intro _;rfl)(l:swapsWithSole [c] (.ListComp e [⟨k,b,j,0⟩] a pos) d.line X.env=pure true:=by rfl)(p:(assignEach [c] X.env).map (·.2)= [assign c X.env]:=by rfl):PS X (.Assign [c] (.ListComp e [⟨k,b,j,0⟩] a pos) d) (tS (md X) (aX n (bB (bH js i g t f)))):=Ht S q hi o ht he m r l p
def Eg{X:Cx}{pos:Pos}{N:List Str}{js:List (Option Nat)}{a:Scope}{d:List (Str×Addr)}{h b j m c:Expr}{f:List Expr}{i:sR}{g:lB}{t:iY}{o p:bx}{n:Nat}{e:Pos}(S:aU X N js a d)(v:X.calm=true)(hi:PI X h b (tI (md X) i))(q:∀C s H fp,PG (aN X N a d C s H fp) h (tG (md (aN X N a d C s H fp)) g))(ht:∀C s H fp,mK (aN X N a d C s H fp) f (tB (md (aN X N a d C s H fp)) t))(u:∀C s H fp,PE (aN X N a d C s H fp) j (tD (md (aN X N a d C s H fp)) o))(y:∀C s H fp,PE (aN X N a d C s H fp) m (tD (md (aN X N a d C s H fp)) p))(l:PG X c (oh n))(w:∀x,foldedSetIterable b X.env x=pure x:=by intro _;rfl)(k:swapsWithSole [c] (.DictComp j m [⟨h,b,f,0⟩] a pos) e.line X.env=pure true:=by rfl)(r:(assignEach [c] X.env).map (·.2)= [assign c X.env]:=by rfl):PS X (.Assign [c] (.DictComp j m [⟨h,b,f,0⟩] a pos) e) (tS (md X) (Iy n (oT js i g t o p))):=EJ S v hi q ht u y l w k r
local macro_rules|`(tactic|ac_rfl)=>do
 let g (l:List (String×Nat)):Lean.MacroM (Array (Lean.TSyntax `Lean.Parser.Tactic.tacticSeq)):=l.toArray.mapM λ(s,k)=>do
  let ws:=((s.splitOn " ").map λn=>Lean.mkIdent n.toName).toArray
  let h←`(?_)
  let e:=Lean.Syntax.mkApp ⟨ws[0]!.raw⟩ ((ws.toList.tail!.map λw=>⟨w.raw⟩).toArray++Array.replicate k h)
  `(tacticSeq|refine $e)
 let a←g [("L5",5),("v_",5),("az",3),("bz",0),("aV",0),("et",3),("cO",2),("Aj",3),("lL",1),("Cs",1),("E3",5),("dy",1),("yM",3),("sL",0),("iB",0),("pW",2),("ID",4),("GE",0),("LS",1),("hV",1),("Kw",1),("Kp",0),("rg uC ue",3),("gG",1),("Ir",5),("Lq",0),("Lp",1),("K5",4),("Kg",3),("Gb",6),("CT",4),("DT",2),("AL",5),("J3",3),("Gg",2),("C0",0),("Lx",2),("rg LA Lo",3),("LZ",3),("zU",2),("JE uC ue",3),("Lv",3),("LH",6),("L8",0),("rg Gd Gm",3),("Jt",2),("Gj",1),("Lw",1),("Ks",1),("L7",5),("w9",6),("LB",2),("LY",1),("rg LI Lg",3),("LW",3),("JN",2),("JL",6),("J9",3),("LC",7),("Ig",10),("KY",2),("Js",4),("Ib",6),("Kl",4),("rg KB Le",3),("JE LD LV",3),("LO",2),("IK",3),("Ld",6),("Lj",2),("J2",6),("JX",6),("Kv",0),("KL",5),("rg LX LF",3),("Kh",0),("rg JY J0",3),("KH",11),("LN",5),("JE KB Le",3),("Lr",1),("LP",3),("jd",1),("Lm",1),("LQ",1),("DY",1),("LM",2),("Im",1)]
 let b←g [("ik",1),("PassesOwn.never",0),("pO",0),("Kj",0),("Bl.abs",1),("Bl.all",1),("Bl.bool",1),("Bl.dict",1),("Bl.int",1),("Bl.isi",1),("Bl.len",1),("Bl.list",1),("Bl.max",1),("Bl.min",1),("Bl.range",1),("Bl.sorted",1),("Bl.str",1),("Bl.tuple",1),("Bl.zip",1),("cO",2),("jd",1)]
 let c←([("DP uO BF Bl.int",0),("KO ku Ic Bl.min",1),("K4 ku JK Bl.abs",0),("K9 ku HZ Bl.max",1),("str",2),("int",2),("list",2),("tuple",2),("bool",2)]:List (String×Nat)).toArray.mapM λ(s,k)=>do
  let ws:=((s.splitOn " ").map λn=>Lean.mkIdent n.toName).toArray
  if k=2 then
   `(tacticSeq|refine Fi (v:=.ty $(Lean.quote s)) rfl ($(Lean.mkIdent (.str (.str .anonymous "Bl") s)) (by assumption)) $(Lean.mkIdent (.str `PyProof.Rows ("boot_" ++s))) rfl)
  else
   let e←if k=1 then `($(ws[2]!) rfl) else pure ⟨ws[2]!.raw⟩
   `(tacticSeq|((with_reducible refine Iz $(ws[0]!) ?_);refine $(ws[1]!) $e rfl ($(ws[3]!) (by assumption)) (by rfl) ?_))
 `(tactic|repeat (first
 |exact rfl
 |exact Or.inl rfl
 |(with_reducible first $[| $a]*)
 |(with_reducible first|refine PW.pt (w_and ?_ ?_)|refine PW.pt (w_or ?_ ?_))
 |refine gf (by assumption) (by assumption) ?_
 |refine oF _ (by assumption) ?_
 |refine JH (by assumption) (by assumption) ?_
 |refine jA (wx (v:=.int (-1)) rfl (by assumption) ⟨_,rfl⟩) λ_ _=>.int (-1)
 |refine jA (wx (v:=.int (9)) rfl (by assumption) ⟨_,rfl⟩) λ_ _=>.int (9)
 |assumption
 |exact Or.inr rfl
 |exact Or.inr (Or.inl rfl)
 |exact Or.inr (Or.inr rfl)
 |decide
 |omega
 |(intro _ _;rfl)
 |(intro _;rfl)
 |(intro _ _ _;rfl)
 |exact⟨rfl,rfl,rfl,rfl,rfl,rfl,rfl⟩
 |exact λ_ _=>.int _
 |(first $[| $c]*)
 |(first $[| $b]*)))
section
variable{P:Program}{w:World}{K:PySem.W.Frag}{mg:Str->Option Value}{base:Heap}{f:Addr}{fd:FuncData}
def pY:aJ ["_law_script","_law_k","_law_cell"] Ap (aD mY):=fJ
def ye(F:eL K "_law_pot" "_law_pot" mY f fd)(B:Bl mg):bA P w K mg base dY 1 f fd Ap (eK ⟨K,mg⟩ 2 k_):=by
 have c:=pY.nd
 refine bo F pY λb A a s H E d=> ?_
 delta o8
 ac_rfl
def nj:aJ ["_law_left","_law_many","_law_digit"] xf (aD ko):=fJ
def vJ(F:eL K "_law_pick" "_law_pick" ko f fd)(B:Bl mg):bA P w K mg base dY 1 f fd xf (eK ⟨K,mg⟩ 2 ay):=by
 have c:=nj.nd
 refine bo F nj λb A a s H E d=> ?_
 delta mw
 ac_rfl
def lN:aJ ["_law_left","_law_many","_law_letters","_law_first","_law_turn","_law_some"] xf (aD jS):=fJ
def sU(F:eL K "_law_words" "_law_words" jS f fd)(B:Bl mg)(d:dE P w K mg base):bA P w K mg base dY 2 f fd xf (eK ⟨K,mg⟩ 2 eF):=by
 have c:=lN.nd
 refine bo F lN λb A a s H E e=> ?_
 delta kP
 ac_rfl
 refine qC (n:=5) (N:= ["_law_k","_law_letters","_law_first","_law_turn"]) (js:= [none,some 2,some 3,some 4]) (aU.gen rfl rfl rfl rfl rfl rfl) rfl ?_ (λ_ _ _ _=> ?_) (λ_ _ _ _=> ?_) (λ_ _ _ _=> ?_) ?_
 ac_rfl
def g_:aJ ["_law_left","_law_words_here","_law_many","_law_rooms","_law_hands","_law_k","_law_other","_law_rows","_law_manner","_law_room"] nN (aD fE):=fJ
def mL(F:eL K "_law_ring_world" "_law_ring_world" fE f fd)(B:Bl mg)(e:oq P w K mg base)(c:dE P w K mg base):bA P w K mg base dY 3 f fd nN (eK ⟨K,mg⟩ 1 eI):=by
 have a:=g_.nd
 refine bo F g_ λg A d s H E b=> ?_
 exact(cO (oF 1 a (hV (JH e b (az (v_ 0) (az bz aV)))))
  (cO (oF 2 a (pW bz (gf c b (az (v_ 0) (az bz aV)))))
  (cO (D6 (yx (i:=3) (j:=4) rfl a rfl rfl (by decide) rfl rfl (az (hV (gG aV)) (az (hV (gG aV)) aV)) rfl))
  (cO (Gb PassesOwn.never rfl (CT rfl B.range (v_ 2)) (E3 5 a) (cO (oF 6 a (et (v_ 1) (et (hV (gG (az (Gg (pW (v_ 5) bz) (v_ 2)) (az (v_ 5) (az (gf c b (az (v_ 0) (az (v_ 2) aV))) aV))))) (gf c b (az (v_ 0) (az bz aV))))))
  (cO (oF 7 a (dy (az (dy (az iB (az C0 (az (v_ 6) (az (et (v_ 1) bz) (az bz aV)))))) aV)))
  (cO (yM (rg uC ue (gf c b (az (v_ 0) (az bz aV))) bz (ik _)) (jd (oF 7 a (pW (v_ 7) (dy (az (dy (az iB (az bz aV))) aV))))) sL)
  (cO (oF 8 a (et (hV (gG (az iB (az iB aV)))) (gf c b (az (v_ 0) (az bz aV)))))
  (jd (DT (w9 (v_ 3) (dy (az (et (v_ 1) (v_ 5)) (az (v_ 8) (az (dy aV) (az (dy aV) (az (dy (az (dy (az (et (v_ 1) bz) (az (v_ 7) aV))) (az (dy (az (et (v_ 1) bz) (az (dy (az (dy (az iB (az bz aV))) aV)) aV))) aV))) aV))))))))))))))
  (cO (Gb PassesOwn.never rfl (CT rfl B.range (pW bz (gf c b (az (v_ 0) (az bz aV))))) (E3 5 a) (cO (oF 9 a (et (v_ 1) (et (hV (gG (az (Gg (v_ 5) (v_ 2)) (az (gf c b (az (v_ 0) (az (v_ 2) aV))) aV)))) (gf c b (az (v_ 0) (az bz aV))))))
  (cO (oF 7 a (dy (az (dy (az iB (az C0 (az (v_ 9) (az (et (hV (gG (az (et (v_ 1) bz) (az (et (v_ 1) bz) (az (et (v_ 1) bz) aV))))) (gf c b (az (v_ 0) (az bz aV)))) (az bz aV)))))) aV)))
  (jd (DT (w9 (v_ 4) (dy (az (dy aV) (az (HV (v_ 7) (pW bz (Iz DP (uO BF rfl B.int (by rfl) (az (JE uC ue (gf c b (az (v_ 0) (az bz aV))) bz (ik _)) aV))))) aV)))))))))
  (jd (lL (dy (az (AL rfl B.tuple (Gj (Cs (v_ 3))) (ht:=pO)) (az (dy aV) (az (dy aV) (az (AL rfl B.tuple (Gj (Cs (v_ 4))) (ht:=pO)) aV))))))))))))
def j3:aJ ["_law_left","_law_names","_law_bells","_law_deep","_law_way","_law_one","_law_word"] uz (aD ij):=fJ
theorem j0(F:eL K "_law_any_sum" "_law_any_sum" ij f fd)(B:Bl mg)(d:dE P w K mg base)(b:Binds K fd uz [])(c:PySem.W.keepIn K (.ref f)=true)(m:mg "_law_any_sum"=some (.ref f)):∀n,bA P w K mg base dY (2+n) f fd uz (eK ⟨K,mg⟩ 4 (aZ n))
 |0=>wq
 | n+1=>by
   have j:fg P w K mg base (2+n) "_law_any_sum" uz (aZ n):=⟨f,fd,j0 F B d b c m n,b,c,m⟩
   have h:=j3.nd
   refine bo (k:=2+n) F j3 λg A a s H E e=> ?_
   have i:=e.units0
   delta iU
   ac_rfl
def jr:aJ ["_law_left","_law_own","_law_passes","_law_span","_law_deeds","_law_way","_law_room","_law_deed","_law_x","_law_p","_law_q","_law_later"] Ay (aD gx):=fJ
def oD(F:eL K "_law_hand_row" "_law_hand_row" gx f fd)(B:Bl mg)(b:dE P w K mg base)(d:kW P w K mg base):bA P w K mg base dY 6 f fd Ay (eK ⟨K,mg⟩ 5 ee):=by
 have c:=jr.nd
 refine bo F jr λh A g s H E a=> ?_
 have e:=a.units0
 exact(cO (oF 5 c (gf b a (az (v_ 0) (az bz aV))))
  (cO (yM (PW.pt (w_and (rg Gd Gm (v_ 5) bz (ik _)) (DY (zU e (Cs (v_ 4)))))) (cO (Ir (et (v_ 4) (gf b a (az (v_ 0) (az (tZ rfl B.len (Cs (v_ 4))) aV)))) (ID rfl (Aj (E3 6 c) (Aj (E3 7 c) GE))))
  (cO (oF 8 c (et (hV (JN (Cs (v_ 1)) (LS (gG (az C0 aV))))) (gf b a (az (v_ 0) (az (pW (tZ rfl B.len (Cs (v_ 1))) bz) aV)))))
  (jd (lL (dy (az iB (az (v_ 8) (az (v_ 6) (az (v_ 7) (az (gf d a (az (v_ 0) (az (v_ 1) (az (hV (gG aV)) (az bz aV))))) aV)))))))))) sL)
  (cO (yM (PW.pt (w_and (rg Gd Gm (v_ 5) bz (ik _)) (DY (zU e (Cs (v_ 2)))))) (cO (D6 (yx (i:=9) (j:=10) rfl c rfl rfl (by decide) rfl rfl (az (et (v_ 2) (gf b a (az (v_ 0) (az (tZ rfl B.len (Cs (v_ 2))) aV)))) (az (et (v_ 2) (gf b a (az (v_ 0) (az (tZ rfl B.len (Cs (v_ 2))) aV)))) aV)) rfl))
  (jd (lL (et (hV (gG (az (dy (az iB (az (v_ 9) aV))) (az (dy (az iB (az (v_ 9) aV))) (az (dy (az iB (az (v_ 9) (az (v_ 10) aV)))) aV))))) (gf b a (az (v_ 0) (az bz aV))))))) sL)
  (cO (oF 11 c (pW (pW (et (v_ 3) bz) bz) (gf b a (az (v_ 0) (az (Jt (et (v_ 3) bz) (et (v_ 3) bz)) aV)))))
  (cO (yM (rg uC ue (v_ 5) bz (ik _)) (jd (lL (dy (az iB (az (gf d a (az (v_ 0) (az (v_ 1) (az (hV (gG aV)) (az bz aV))))) (az (et (hV (gG (az (v_ 11) (az (v_ 11) (az bz aV))))) (gf b a (az (v_ 0) (az bz aV)))) aV)))))) sL)
  (cO (yM (rg uC ue (v_ 5) bz (ik _)) (jd (lL (dy (az iB (az (et (hV (gG (az (v_ 11) (az bz aV)))) (gf b a (az (v_ 0) (az bz aV)))) aV))))) sL)
  (cO (yM (PW.pt (w_or (IK e (Cs (v_ 1)) (LS (gG aV))) (Im (rg uC ue (gf b a (az (v_ 0) (az bz aV))) bz (ik _))))) (jd (lL (dy (az iB (az (gf d a (az (v_ 0) (az (v_ 1) (az (hV (gG aV)) (az bz aV))))) aV))))) sL)
  (jd (lL (dy (az iB (az (et (v_ 1) (gf b a (az (v_ 0) (az (tZ rfl B.len (Cs (v_ 1))) aV)))) (az (gf d a (az (v_ 0) (az (v_ 1) (az (hV (gG aV)) (az bz aV))))) aV)))))))))))))
def i8:aJ ["_law_left","_law_room","_law_span","_law_inner","_law_things","_law_bells","_law_manner","_law_names","_law_way","_law_word","_law_other","_law_deed","_law_x","_law_later"] Aw (aD gE):=fJ
def o6(F:eL K "_law_deed_row" "_law_deed_row" gE f fd)(B:Bl mg)(e:dE P w K mg base)(g:kW P w K mg base):bA P w K mg base dY 6 f fd Aw (eK ⟨K,mg⟩ 4 eG):=by
 have d:=i8.nd
 refine bo F i8 λc A a s H E b=> ?_
 have h:=b.units0
 delta g9
 ac_rfl
end
section
variable{P:Program}{w:World}{K:PySem.W.Frag}{mg:Str->Option Value}{base:Heap}{f:Addr}{fd:FuncData}
def lW:aJ ["_law_left","_law_most","_law_words_here","_law_many","_law_sizes","_law_inner","_law_k","_law_rooms","_law_every","_law_things","_law_bells","_law_manner","_law_deeds","_law_at","_law_size","_law_here","_law_rows","_law_first","_law_sorts","_law_passes","_law_opened","_law_hands","_law_own","_law_names"] zZ (aD jR):=fJ
def sV(F:eL K "_law_world" "_law_world" jR f fd)(B:Bl mg)(d:oq P w K mg base)(e:dE P w K mg base)(h:qf P w K mg base)(i:p9 P w K mg base):bA P w K mg base dY 7 f fd zZ (eK ⟨K,mg⟩ 2 iH):=by
 have c:=lW.nd
 refine bo F lW λb A a s H E g=> ?_
 delta kz
 ac_rfl
 refine qC (n:=4) (N:= ["_law_k","_law_left"]) (js:= [none,some 0]) (aU.gen rfl rfl rfl rfl rfl rfl) rfl ?_ (λ_ _ _ _=> ?_) (λ_ _ _ _=> ?_) (λ_ _ _ _=> ?_) ?_
 ac_rfl
 refine cG (N:= ["_law_at","_law_words_here","_law_k"]) (js:= [none,some 2,some 6]) (aU.gen rfl rfl rfl rfl rfl rfl) rfl ?_ (λ_ _ _ _=> ?_) (λ_ _ _ _=> ?_) (λ_ _ _ _=> ?_)
 ac_rfl
 refine qC (n:=16) (N:= ["_law_row","_law_left","_law_things","_law_bells","_law_manner","_law_size","_law_here"]) (js:= [none,some 0,some 9,some 10,some 11,some 14,some 15]) (aU.gen rfl rfl rfl rfl rfl rfl) rfl ?_ (λ_ _ _ _=> ?_) (λ_ _ _ _=> ?_) (λ_ _ _ _=> ?_) ?_
 ac_rfl
 refine cG (N:= ["_law_deed","_law_words_here","_law_k"]) (js:= [none,some 2,some 6]) (aU.gen rfl rfl rfl rfl rfl rfl) rfl ?_ (λ_ _ _ _=> ?_) (λ_ _ _ _=> ?_) (λ_ _ _ _=> ?_)
 ac_rfl
 refine cG (N:=Ga) (js:= [none,some 0]) (aU.gen rfl rfl rfl rfl rfl rfl) rfl ?_ (λ_ _ _ _=> ?_) (λ_ _ _ _=> ?_) (λ_ _ _ _=> ?_)
 ac_rfl
 refine cG (N:= ["_law_bell","_law_left"]) (js:= [none,some 0]) (aU.gen rfl rfl rfl rfl rfl rfl) rfl ?_ (λ_ _ _ _=> ?_) (λ_ _ _ _=> ?_) (λ_ _ _ _=> ?_)
 ac_rfl
 refine cG (N:= ["_law_p","_law_left"]) (js:= [none,some 0]) (aU.gen rfl rfl rfl rfl rfl rfl) rfl ?_ (λ_ _ _ _=> ?_) (λ_ _ _ _=> ?_) (λ_ _ _ _=> ?_)
 ac_rfl
 refine cG (N:=Ga) (js:= [none,some 0]) (aU.gen rfl rfl rfl rfl rfl rfl) rfl ?_ (λ_ _ _ _=> ?_) (λ_ _ _ _=> ?_) (λ_ _ _ _=> ?_)
 ac_rfl
 refine cG (N:= ["_law_x","_law_value"]) (js:= [none,none]) (aU.gen rfl rfl rfl rfl rfl rfl) rfl ?_ (λ_ _ _ _=> ?_) (λ_ _ _ _=> ?_) (λ_ _ _ _=> ?_)
 ac_rfl
 refine qC (n:=16) (N:= ["_law_row","_law_left","_law_every","_law_size","_law_passes","_law_names"]) (js:= [none,some 0,some 8,some 14,some 19,some 23]) (aU.gen rfl rfl rfl rfl rfl rfl) rfl ?_ (λ_ _ _ _=> ?_) (λ_ _ _ _=> ?_) (λ_ _ _ _=> ?_) ?_
 ac_rfl
 refine cG (N:= ["_law_p","_law_value"]) (js:= [none,none]) (aU.gen rfl rfl rfl rfl rfl rfl) rfl ?_ (λ_ _ _ _=> ?_) (λ_ _ _ _=> ?_) (λ_ _ _ _=> ?_)
 ac_rfl
 refine cG (N:= ["_law_x"]) (js:= [none]) (aU.gen rfl rfl rfl rfl rfl rfl) rfl ?_ (λ_ _ _ _=> ?_) (λ_ _ _ _=> ?_) (λ_ _ _ _=> ?_)
 ac_rfl
def r9:aJ nN nN (aD iO):=fJ
def sm(F:eL K "_law_either" "_law_either" iO f fd)(B:Bl mg)(d:dE P w K mg base)(c:vt P w K mg base)(g:nH P w K mg base):bA P w K mg base dY 8 f fd nN (eK ⟨K,mg⟩ 1 fF):=by
 refine bo F r9 λb A a s H E e=> ?_
 delta jP
 ac_rfl
def u7:aJ w4 w4 (aD kB):=fJ
def uS(F:eL K "values_of" "values_of" kB f fd)(B:Bl mg):bA P w K mg base dY 1 f fd w4 (eK ⟨K,mg⟩ 1 fQ):=by
 refine bo F u7 λb A a s H E c=> ?_
 delta mj
 ac_rfl
 refine cG (N:= ["word","value"]) (js:= [none,none]) (aU.gen rfl rfl rfl rfl rfl rfl) rfl ?_ (λ_ _ _ _=> ?_) (λ_ _ _ _=> ?_) (λ_ _ _ _=> ?_)
 ac_rfl
def lQ:aJ ["room","name","manner","things","bells","deeds"] xQ (aD jI):=fJ
def tw(F:eL K "begun_room" "begun_room" jI f fd)(B:Bl mg)(h:pG P w K mg base){b:Tok}(g:mg "NOBODY"=some (.int (-1) b)):bA P w K mg base dY 2 f fd xQ (eK ⟨K,mg⟩ 1 iu):=by
 have d:=lQ.nd
 refine bo F lQ λc A a s H E e=> ?_
 delta kL
 ac_rfl
 refine cG (N:= ["bell"]) (js:= [none]) (aU.gen rfl rfl rfl rfl rfl rfl) rfl ?_ (λ_ _ _ _=> ?_) (λ_ _ _ _=> ?_) (λ_ _ _ _=> ?_)
 ac_rfl
def yn:aJ ["world","rooms","passes","shared","hands","own"] z3 (aD wz):=fJ
def D9(F:eL K "begun" "begun" wz f fd)(B:Bl mg)(i:pG P w K mg base)(g:vj P w K mg base){b:Tok}(e:mg "OWN"=some (.int (-1) b)):bA P w K mg base dY 3 f fd z3 (eK ⟨K,mg⟩ 1 vC):=by
 have d:=yn.nd
 refine bo F yn λc A a s H E h=> ?_
 delta zN
 ac_rfl
 refine cG (N:=xQ) (js:= [none]) (aU.gen rfl rfl rfl rfl rfl rfl) rfl ?_ (λ_ _ _ _=> ?_) (λ_ _ _ _=> ?_) (λ_ _ _ _=> ?_)
 ac_rfl
 refine cG (N:= ["name","value"]) (js:= [none,none]) (aU.gen rfl rfl rfl rfl rfl rfl) rfl ?_ (λ_ _ _ _=> ?_) (λ_ _ _ _=> ?_) (λ_ _ _ _=> ?_)
 ac_rfl
 refine cG (N:= ["things","program","own"]) (js:= [none,none,some 5]) (aU.gen rfl rfl rfl rfl rfl rfl) rfl ?_ (λ_ _ _ _=> ?_) (λ_ _ _ _=> ?_) (λ_ _ _ _=> ?_)
 ac_rfl
def xa:aJ xq xq (aD mI):=fJ
def wM(F:eL K "hands_at" "hands_at" mI f fd)(B:Bl mg):bA P w K mg base dY 1 f fd xq (eK ⟨K,mg⟩ 1 ji):=by
 refine bo F xa λb A a s H E c=> ?_
 delta oG
 ac_rfl
 refine cG (N:= ["turn","hand"]) (js:= [none,none]) (aU.gen rfl rfl rfl rfl rfl rfl) rfl ?_ (λ_ _ _ _=> ?_) (λ_ _ _ _=> ?_) (λ_ _ _ _=> ?_)
 ac_rfl
end
section
variable{P:Program}{w:World}{K:PySem.W.Frag}{mg:Str->Option Value}{base:Heap}{f:Addr}{fd:FuncData}
def jy:aJ ["scene","hands","value","row","values","within","late","bells","line"] Ae (aD gB):=fJ
def oX(F:eL K "hands_in_rows" "hands_in_rows" gB f fd)(B:Bl mg)(e:rL P w K mg base):bA P w K mg base dY 2 f fd Ae (eK ⟨K,mg⟩ 1 ed):=by
 have c:=jy.nd
 refine bo F jy λb A a s H E d=> ?_
 delta gZ
 ac_rfl
def tq:aJ ya ya (aD jX):=fJ
def sZ(F:eL K "last_frame" "last_frame" jX f fd)(B:Bl mg):bA P w K mg base dY 1 f fd ya (eK ⟨K,mg⟩ 2 cB):=by
 refine bo F tq λb A a s H E c=> ?_
 delta kf
 ac_rfl
def lO:aJ ["world","hand","frame","room","deed"] AI (aD jT):=fJ
def tR(F:eL K "program_of" "program_of" jT f fd)(B:Bl mg){d:Tok}(c:mg "OWN"=some (.int (-1) d)):bA P w K mg base dY 1 f fd AI (eK ⟨K,mg⟩ 3 eg):=by
 have b:=lO.nd
 refine bo F lO λe A a s H E g=> ?_
 exact(cO (D6 (yx (i:=3) (j:=4) rfl b rfl rfl (by decide) rfl rfl (az (et (v_ 2) bz) (az (et (v_ 2) bz) aV)) rfl))
  (cO (yM (rg uC ue (v_ 3) (jA (wx (v:=.int (-1)) rfl c ⟨_,rfl⟩) λ_ _=>.int (-1)) (ik _)) (jd (lL (et (et (et (v_ 0) bz) (v_ 1)) bz))) sL)
  (jd (lL (et (et (et (et (et (v_ 0) bz) (v_ 3)) bz) (v_ 4)) bz)))))
def ja:aJ ["world","scene","hand","frame"] c7 (aD gD):=fJ
def pk(F:eL K "is_behind_all" "is_behind_all" gD f fd)(B:Bl mg)(g:dk P w K mg base)(i:gN P w K mg base){b:Tok}(e:mg "OWN"=some (.int (-1) b)):bA P w K mg base dY 2 f fd c7 (eK ⟨K,mg⟩ 3 fq):=by
 have d:=ja.nd
 refine bo F ja λc A a s H E h=> ?_
 delta h_
 ac_rfl
def pL:aJ ["world","scene","held_up"] Ak (aD mS):=fJ
def xx(F:eL K "may_step" "may_step" mS f fd)(B:Bl mg)(g:p8 P w K mg base)(e:qh P w K mg base):bA P w K mg base dY 3 f fd Ak (eK ⟨K,mg⟩ 2 jh):=by
 have c:=pL.nd
 refine bo F pL λb A a s H E d=> ?_
 delta ph
 ac_rfl
 refine cG (N:= ["hand","world","scene","held_up"]) (js:= [none,some 0,some 1,some 2]) (aU.gen rfl rfl rfl rfl rfl rfl) rfl ?_ (λ_ _ _ _=> ?_) (λ_ _ _ _=> ?_) (λ_ _ _ _=> ?_)
 ac_rfl
def xj:aJ xt xt (aD mU):=fJ
def x9(F:eL K "names_of" "names_of" mU f fd)(B:Bl mg):bA P w K mg base dY 1 f fd xt (eK ⟨K,mg⟩ 1 dS):=by
 refine bo F xj λb A a s H E c=> ?_
 delta oB
 ac_rfl
 refine cG (N:= ["row"]) (js:= [none]) (aU.gen rfl rfl rfl rfl rfl rfl) rfl ?_ (λ_ _ _ _=> ?_) (λ_ _ _ _=> ?_) (λ_ _ _ _=> ?_)
 ac_rfl
def wJ:aJ xF xF (aD mE):=fJ
def yd(F:eL K "place_of" "place_of" mE f fd)(B:Bl mg)(c:mO P w K mg base):bA P w K mg base dY 2 f fd xF (eK ⟨K,mg⟩ 2 c9):=by
 refine bo F wJ λb A a s H E d=> ?_
 delta oS
 ac_rfl
def wC:aJ xB xB (aD kJ):=fJ
def wm(F:eL K "with_part" "with_part" kJ f fd)(B:Bl mg):bA P w K mg base dY 1 f fd xB (eK ⟨K,mg⟩ 3 dr):=by
 refine bo F wC λb A a s H E c=> ?_
 delta mz
 ac_rfl
def vR:aJ yo yo (aD kC):=fJ
def vA(F:eL K "with_hand" "with_hand" kC f fd)(B:Bl mg)(d:gk P w K mg base):bA P w K mg base dY 2 f fd yo (eK ⟨K,mg⟩ 4 eW):=by
 refine bo F vR λb A a s H E c=> ?_
 delta mH
 ac_rfl
def vW:aJ yh yh (aD kO):=fJ
def vz(F:eL K "with_room" "with_room" kO f fd)(B:Bl mg)(d:gk P w K mg base):bA P w K mg base dY 2 f fd yh (eK ⟨K,mg⟩ 3 cU):=by
 refine bo F vW λb A a s H E c=> ?_
 delta l_
 ac_rfl
def m7:aJ ["world","scene","hand","word","value","room","place","values","shared","frames"] Av (aD kK):=fJ
def vh(F:eL K "put_thing" "put_thing" kK f fd)(B:Bl mg)(h:dk P w K mg base)(l:ig P w K mg base)(k:gk P w K mg base)(i:gh P w K mg base)(m:mO P w K mg base)(g:iJ P w K mg base){c:Tok}(e:mg "OWN"=some (.int (-1) c)):bA P w K mg base dY 3 f fd Av (eK ⟨K,mg⟩ 5 eZ):=by
 have d:=m7.nd
 refine bo F m7 λb A a s H E j=> ?_
 delta jK
 ac_rfl
def p_:aJ xn xn (aD ib):=fJ
def qc(F:eL K "value_of_two" "value_of_two" ib f fd)(B:Bl mg){b:Tok}(e:mg "HIGHEST"=some (.int (9) b)):bA P w K mg base dY 1 f fd xn (eK ⟨K,mg⟩ 3 f_):=by
 refine bo F p_ λc A a s H E d=> ?_
 delta iS
 ac_rfl
def pE:aJ ["tree","things","waiting","first"] ua (aD mv):=fJ
theorem pT(F:eL K "value_of" "value_of" mv f fd)(B:Bl mg)(h:qJ P w K mg base)(b:Binds K fd ua [])(c:PySem.W.keepIn K (.ref f)=true)(m:mg "value_of"=some (.ref f)):∀n,bA P w K mg base dY (2+n) f fd ua (eK ⟨K,mg⟩ 3 (fS n))
 |0=>wq
 | n+1=>by
   have j:fg P w K mg base (2+n) "value_of" ua (fS n):=⟨f,fd,pT F B h b c m n,b,c,m⟩
   have i:=pE.nd
   refine bo (k:=2+n) F pE λg A a s H E e=> ?_
   have d:=F8 e
   delta oE
   ac_rfl
def pS:aJ ["world","scene","hand","tree","frame","room","things","waiting"] AS (aD mT):=fJ
def xG(F:eL K "reckoned" "reckoned" mT f fd)(B:Bl mg)(i:dk P w K mg base)(k:mO P w K mg base)(j:yw P w K mg base){d:Tok}(h:mg "OWN"=some (.int (-1) d)):bA P w K mg base dY 9 f fd AS (eK ⟨K,mg⟩ 4 dz):=by
 have g:=pS.nd
 refine bo F pS λc A a s H E e=> ?_
 have b:=F8 e
 delta lA
 ac_rfl
 refine Eg (n:=7) (N:= ["bell","line"]) (js:= [none,none]) (aU.gen rfl rfl rfl rfl rfl rfl) rfl ?_ (λ_ _ _ _=> ?_) (λ_ _ _ _=> ?_) (λ_ _ _ _=> ?_) (λ_ _ _ _=> ?_) ?_
 ac_rfl
end
section
variable{P:Program}{w:World}{K:PySem.W.Frag}{mg:Str->Option Value}{base:Heap}{f:Addr}{fd:FuncData}
def Bm:aJ bF bF (aD rD):=fJ
def A3(F:eL K "by_put" "by_put" rD f fd)(B:Bl mg)(c:pM P w K mg base)(e:fN P w K mg base):bA P w K mg base dY 10 f fd bF (eK ⟨K,mg⟩ 4 qp):=by
 refine bo F Bm λb A a s H E d=> ?_
 delta vV
 ac_rfl
def gY:aJ ["scene","hand","frame","values","frames"] AA (aD fD):=fJ
def mq(F:eL K "with_last_frame" "with_last_frame" fD f fd)(B:Bl mg)(d:iJ P w K mg base):bA P w K mg base dY 3 f fd AA (eK ⟨K,mg⟩ 3 dw):=by
 have c:=gY.nd
 refine bo F gY λb A a s H E e=> ?_
 delta fP
 ac_rfl
def uL:aJ ["scene","hand","row","frame"] Ax (aD rC):=fJ
def BZ(F:eL K "at_row" "at_row" rC f fd)(B:Bl mg)(d:dk P w K mg base)(g:iq P w K mg base):bA P w K mg base dY 4 f fd Ax (eK ⟨K,mg⟩ 3 jB):=by
 have c:=uL.nd
 refine bo F uL λb A a s H E e=> ?_
 delta wB
 ac_rfl
def u_:aJ bF bF (aD kA):=fJ
def vk(F:eL K "by_unless" "by_unless" kA f fd)(B:Bl mg)(e:fN P w K mg base)(c:sP P w K mg base):bA P w K mg base dY 10 f fd bF (eK ⟨K,mg⟩ 4 jN):=by
 refine bo F u_ λb A a s H E d=> ?_
 delta l8
 ac_rfl
def D1:aJ bF bF (aD uW):=fJ
def DW(F:eL K "by_go" "by_go" uW f fd)(B:Bl mg)(c:sP P w K mg base):bA P w K mg base dY 5 f fd bF (eK ⟨K,mg⟩ 4 vb):=by
 refine bo F D1 λb A a s H E d=> ?_
 delta yD
 ac_rfl
def qK:aJ ["scene","room","hand","values","within","row","late","bells"] zT (aD oW):=fJ
def yR(F:eL K "come_in" "come_in" oW f fd)(B:Bl mg)(e:gh P w K mg base){b:Tok}(h:mg "NOBODY"=some (.int (-1) b)):bA P w K mg base dY 3 f fd zT (eK ⟨K,mg⟩ 3 kN):=by
 have d:=qK.nd
 refine bo F qK λc A a s H E g=> ?_
 delta sk
 ac_rfl
def yc:aJ ["world","scene","hand","row","room","deed","frame","values","frames"] bF (aD vM):=fJ
def CI(F:eL K "by_do" "by_do" vM f fd)(B:Bl mg)(i:ig P w K mg base)(h:fN P w K mg base)(e:uG P w K mg base)(d:iJ P w K mg base):bA P w K mg base dY 10 f fd bF (eK ⟨K,mg⟩ 4 v5):=by
 have c:=yc.nd
 refine bo F yc λb A a s H E g=> ?_
 delta zk
 ac_rfl
def rM:aJ ["world","scene","hand","word","room"] Ao (aD oJ):=fJ
def zH(F:eL K "bell_of" "bell_of" oJ f fd)(B:Bl mg)(d:dk P w K mg base)(g:ig P w K mg base):bA P w K mg base dY 3 f fd Ao (eK ⟨K,mg⟩ 4 i9):=by
 have c:=rM.nd
 refine bo F rM λb A a s H E e=> ?_
 delta rK
 ac_rfl
def nQ:aJ ["scene","room","bell","line","state"] Ar (aD ki):=fJ
def vE(F:eL K "with_line" "with_line" ki f fd)(B:Bl mg)(d:gh P w K mg base)(g:gk P w K mg base):bA P w K mg base dY 3 f fd Ar (eK ⟨K,mg⟩ 4 eX):=by
 have c:=nQ.nd
 refine bo F nQ λb A a s H E e=> ?_
 delta mM
 ac_rfl
def xc:aJ ["scene","room","values","within","row","late","bells"] Ah (aD vn):=fJ
def Df(F:eL K "leave" "leave" vn f fd)(B:Bl mg)(e:gh P w K mg base){b:Tok}(h:mg "NOBODY"=some (.int (-1) b)):bA P w K mg base dY 3 f fd Ah (eK ⟨K,mg⟩ 2 oy):=by
 have d:=xc.nd
 refine bo F xc λc A a s H E g=> ?_
 delta zI
 ac_rfl
def rp:aJ ["world","scene","hand","row","room","bell","turn","line","ahead","waiting"] bF (aD oH):=fJ
def zq(F:eL K "by_wait" "by_wait" oH f fd)(B:Bl mg)(h:oP P w K mg base)(g:fN P w K mg base)(i:kF P w K mg base)(d:AK P w K mg base):bA P w K mg base dY 10 f fd bF (eK ⟨K,mg⟩ 4 nP):=by
 have c:=rp.nd
 refine bo F rp λb A a s H E e=> ?_
 delta sF
 ac_rfl
 refine cG (N:= ["other","waiter","turn"]) (js:= [none,none,some 6]) (aU.gen rfl rfl rfl rfl rfl rfl) rfl ?_ (λ_ _ _ _=> ?_) (λ_ _ _ _=> ?_) (λ_ _ _ _=> ?_)
 ac_rfl
def rB:aJ ["world","scene","hand","row","room","bell","line","called","values","within","queue","late","bells"] bF (aD o9):=fJ
def zt(F:eL K "by_call" "by_call" o9 f fd)(B:Bl mg)(g:oP P w K mg base)(h:kF P w K mg base)(d:gh P w K mg base):bA P w K mg base dY 4 f fd bF (eK ⟨K,mg⟩ 4 nZ):=by
 have c:=rB.nd
 refine bo F rB λb A a s H E e=> ?_
 delta r8
 ac_rfl
def ud:aJ ["world","scene","hand","row","room","bell"] bF (aD si):=fJ
def AX(F:eL K "by_all" "by_all" si f fd)(B:Bl mg)(e:oP P w K mg base)(g:kF P w K mg base):bA P w K mg base dY 4 f fd bF (eK ⟨K,mg⟩ 4 qu):=by
 have c:=ud.nd
 refine bo F ud λb A a s H E d=> ?_
 delta vX
 ac_rfl
def sG:aJ ["world","scene","hand","row","told"] bF (aD oU):=fJ
def ze(F:eL K "by_tell" "by_tell" oU f fd)(B:Bl mg)(g:fN P w K mg base)(h:iq P w K mg base)(d:dk P w K mg base):bA P w K mg base dY 10 f fd bF (eK ⟨K,mg⟩ 4 om):=by
 have c:=sG.nd
 refine bo F sG λb A a s H E e=> ?_
 delta sD
 ac_rfl
end
section
variable{P:Program}{w:World}{K:PySem.W.Frag}{mg:Str->Option Value}{base:Heap}{f:Addr}{fd:FuncData}
def vS:aJ xV xV (aD km):=fJ
def vD(F:eL K "with_pass" "with_pass" km f fd)(B:Bl mg)(d:gk P w K mg base):bA P w K mg base dY 2 f fd xV (eK ⟨K,mg⟩ 3 fe):=by
 refine bo F vS λb A a s H E c=> ?_
 delta mf
 ac_rfl
def xR:aJ ["world","scene","hand","name","place","value","row"] zW (aD vq):=fJ
def CF(F:eL K "taken" "taken" vq f fd)(B:Bl mg)(e:ig P w K mg base)(g:pI P w K mg base):bA P w K mg base dY 3 f fd zW (eK ⟨K,mg⟩ 4 rT):=by
 have c:=xR.nd
 refine bo F xR λb A a s H E d=> ?_
 delta zu
 ac_rfl
def zj:aJ bF bF (aD oK):=fJ
def yA(F:eL K "by_take" "by_take" oK f fd)(B:Bl mg)(c:AJ P w K mg base):bA P w K mg base dY 4 f fd bF (eK ⟨K,mg⟩ 4 nB):=by
 refine bo F zj λb A a s H E d=> ?_
 delta rH
 ac_rfl
def lP:aJ ["world","scene","name","place","value","row"] Ai (aD jV):=fJ
def sX(F:eL K "given_back" "given_back" jV f fd)(B:Bl mg)(h:ig P w K mg base)(i:pI P w K mg base){b:Tok}(g:mg "HIGHEST"=some (.int (9) b)):bA P w K mg base dY 3 f fd Ai (eK ⟨K,mg⟩ 3 gd):=by
 have d:=lP.nd
 refine bo F lP λc A a s H E e=> ?_
 delta kQ
 ac_rfl
def zA:aJ bF bF (aD pd):=fJ
def zR(F:eL K "by_give" "by_give" pd f fd)(B:Bl mg)(c:m8 P w K mg base):bA P w K mg base dY 4 f fd bF (eK ⟨K,mg⟩ 4 nX):=by
 refine bo F zA λb A a s H E d=> ?_
 delta rQ
 ac_rfl
def zd:aJ bF bF (aD oI):=fJ
def zo(F:eL K "by_pass" "by_pass" oI f fd)(B:Bl mg)(c:AJ P w K mg base)(d:m8 P w K mg base):bA P w K mg base dY 4 f fd bF (eK ⟨K,mg⟩ 4 m9):=by
 refine bo F zd λb A a s H E e=> ?_
 delta qO
 ac_rfl
def B6:aJ bF bF (aD sI):=fJ
def B7(F:eL K "by_say" "by_say" sI f fd)(B:Bl mg):bA P w K mg base dY 1 f fd bF (eK ⟨K,mg⟩ 4 qy):=by
 refine bo F B6 λb A a s H E c=> ?_
 delta vm
 ac_rfl
def pP:aJ ["world","scene","hand","row","deed"] bF (aD mC):=fJ
def wI(F:eL K "row_done" "row_done" mC f fd)(B:Bl mg)(e:∀x F,qR.lookup x=some F->fg P w K mg base 10 x bF F)(d:Az P w K mg "DONE_BY" lq):bA P w K mg base dY 11 f fd bF (eK ⟨K,mg⟩ 4 je):=by
 have b:=pP.nd
 refine bo F pP λg A a s H E c=> ?_
 exact(cO (oF 4 b (FA d rfl (et (v_ 3) bz) (λ_ _=>rfl)))
  (jd (lL (Fb e (c.mono (by decide)) rfl (by first|exact Or.inl rfl|exact Or.inr (Or.inl rfl)) (az (v_ 0) (az (v_ 1) (az (v_ 2) (az (v_ 3) aV)))) (lE (lE (lE (lE y0))))))))
def pJ:aJ ["world","scene","hand","values","frames","room","deed","row","given","told","outside","came_by"] c7 (aD mW):=fJ
def yf(F:eL K "end_deed" "end_deed" mW f fd)(B:Bl mg)(d:iJ P w K mg base)(e:AK P w K mg base)(i:gN P w K mg base)(g:pM P w K mg base):bA P w K mg base dY 4 f fd c7 (eK ⟨K,mg⟩ 3 ju):=by
 have c:=pJ.nd
 refine bo F pJ λb A a s H E h=> ?_
 delta pj
 ac_rfl
def rS:aJ ["world","scene","hand","frame","room","program","row","event"] c7 (aD oY):=fJ
def zQ(F:eL K "step_of" "step_of" oY f fd)(B:Bl mg)(j:dk P w K mg base)(n:uG P w K mg base)(g:gN P w K mg base)(m:yJ P w K mg base)(e:fN P w K mg base)(h:zB P w K mg base)(k:sP P w K mg base){c:Tok}(l:mg "OWN"=some (.int (-1) c)):bA P w K mg base dY 12 f fd c7 (eK ⟨K,mg⟩ 3 oo):=by
 have i:=rS.nd
 refine bo F rS λb A a s H E d=> ?_
 delta kT
 ac_rfl
def zi:aJ c7 c7 (aD oM):=fJ
def yy(F:eL K "stepped" "stepped" oM f fd)(B:Bl mg)(c:rO P w K mg base)(e:BV P w K mg base):bA P w K mg base dY 13 f fd c7 (eK ⟨K,mg⟩ 3 nM):=by
 refine bo F zi λb A a s H E d=> ?_
 delta qU
 ac_rfl
def lS:aJ ["_law_world_here","_law_scene","_law_some","_law_hand","_law_later","_law_event"] pK (aD jW):=fJ
def tE(F:eL K "_law_steps" "_law_steps" jW f fd)(B:Bl mg)(d:rO P w K mg base)(e:B9 P w K mg base):bA P w K mg base dY 14 f fd pK (eK ⟨K,mg⟩ 2 iC):=by
 have c:=lS.nd
 refine bo F lS λb A a s H E g=> ?_
 delta kq
 ac_rfl
def ir:aJ ["world","scene","hand","name","first","value","row","room","state","bell","sort","line"] c7 (aD fY):=fJ
def n_(F:eL K "place_in_a_row" "place_in_a_row" fY f fd)(B:Bl mg)(e:rL P w K mg base):bA P w K mg base dY 2 f fd c7 (eK ⟨K,mg⟩ 3 eS):=by
 have c:=ir.nd
 refine bo F ir λb A a s H E d=> ?_
 delta gw
 ac_rfl
def uf:aJ ["world","scene","hand","waits","frame","room","name"] c7 (aD rN):=fJ
def Bb(F:eL K "stands" "stands" rN f fd)(B:Bl mg)(h:oQ P w K mg base)(g:dk P w K mg base)(j:gN P w K mg base){b:Tok}(e:mg "OWN"=some (.int (-1) b)):bA P w K mg base dY 3 f fd c7 (eK ⟨K,mg⟩ 3 qw):=by
 have d:=uf.nd
 refine bo F uf λc A a s H E i=> ?_
 delta vO
 ac_rfl
end
section
variable{P:Program}{w:World}{K:PySem.W.Frag}{mg:Str->Option Value}{base:Heap}{f:Addr}{fd:FuncData}
def wg:aJ zC zC (aD kr):=fJ
theorem m6(F:eL K "_law_same" "_law_same" kr f fd)(B:Bl mg)(b:Binds K fd zC [])(c:PySem.W.keepIn K (.ref f)=true)(m:mg "_law_same"=some (.ref f)):∀n,bA P w K mg base dY (1+n) f fd zC (eK ⟨K,mg⟩ 2 (fO n))
 |0=>wq
 | n+1=>by
   have g:fg P w K mg base (1+n) "_law_same" zC (fO n):=⟨f,fd,m6 F B b c m n,b,c,m⟩
   refine bo (k:=1+n) F wg λd A a s H E e=> ?_
   delta fR
   ac_rfl
   refine cG (N:= ["_law_one","_law_other"]) (js:= [none,none]) (aU.gen rfl rfl rfl rfl rfl rfl) rfl ?_ (λ_ _ _ _=> ?_) (λ_ _ _ _=> ?_) (λ_ _ _ _=> ?_)
   ac_rfl
def Du:aJ c7 c7 (aD u3):=fJ
def CN(F:eL K "holds" "holds" u3 f fd)(B:Bl mg):bA P w K mg base dY 1 f fd c7 (eK ⟨K,mg⟩ 3 vF):=by
 refine bo F Du λb A a s H E c=> ?_
 delta zD
 ac_rfl
 refine cG (N:= ["room","state","hand"]) (js:= [none,none,some 2]) (aU.gen rfl rfl rfl rfl rfl rfl) rfl ?_ (λ_ _ _ _=> ?_) (λ_ _ _ _=> ?_) (λ_ _ _ _=> ?_)
 ac_rfl
def lM:aJ ["_law_world_here","_law_scene","_law_hand","_law_due","_law_room","_law_state","_law_place"] pK (aD jC):=fJ
def s_(F:eL K "_law_right" "_law_right" jC f fd)(B:Bl mg)(g:xr P w K mg base)(e:Fc P w K mg base)(i:CB P w K mg base):bA P w K mg base dY 12 f fd pK (eK ⟨K,mg⟩ 2 iA):=by
 have d:=lM.nd
 refine bo F lM λc A a s H E b=> ?_
 have h:=b.units0
 delta kG
 ac_rfl
def DH:aJ ["_law_script","_law_k","_law_left","_law_world_here","_law_scene","_law_turn","_law_some"] Dz (aD nI):=fJ
def GL(F:eL K "law" "law" nI f fd)(B:Bl mg)(g:yN P w K mg base)(h:tT P w K mg base)(i:E2 P w K mg base)(e:vi P w K mg base)(k:wb P w K mg base)(j:dE P w K mg base):bA P w K mg base dY 15 f fd Dz (eK ⟨K,mg⟩ 1 FY):=by
 have d:=DH.nd
 refine bo F DH λc A a s H E b=> ?_
 have l:=b.units0
 delta GF
 ac_rfl
end
def all_mk{l:PySem.W.OpenLaw}{w:World}{K:PySem.W.Frag}{h:Heap}{mg:Str->Option Value}{fa f1 f2 f3 f4 f5 f6 f7 f8 f9 b7 j5 q2 f0 b5 r6 u2 e8 e4 i5 b3 v0 o5 b1 l4 p4 k4 j2 r g4 j4 j y h6 L c3 q6 n7 n H q R q8 m4 M s5 N P S c4 n2 b2 g2 b8 l3 m1 a7 g3 k7 g:Addr}(X:K.In h)(G:h.Ns mainGlobals mg)(l5:mg "law"=some (.ref fa))
  (d1:bg K "_law_pot" mY f1)
  (d2:bg K "_law_pick" ko f2)
  (d3:bg K "_law_words" jS f3)
  (d4:bg K "_law_ring_world" fE f4)
  (d5:bg K "_law_any_sum" ij f5)
  (d6:bg K "_law_hand_row" gx f6)
  (d7:bg K "_law_deed_row" gE f7)
  (d8:bg K "_law_world" jR f8)
  (d9:bg K "_law_either" iO f9)
  (h1:bg K "values_of" kB b7)
  (r4:bg K "begun_room" jI j5)
  (a5:bg K "begun" wz q2)
  (g0:bg K "hands_at" mI f0)
  (c1:bg K "hands_in_rows" gB b5)
  (l7:bg K "last_frame" jX r6)
  (n1:bg K "program_of" jT u2)
  (r2:bg K "is_behind_all" gD e8)
  (u1:bg K "may_step" mS e4)
  (h0:bg K "names_of" mU i5)
  (t2:bg K "place_of" mE b3)
  (i1:bg K "with_part" kJ v0)
  (s6:bg K "with_hand" kC o5)
  (b4:bg K "with_room" kO b1)
  (r3:bg K "put_thing" kK l4)
  (s2:bg K "value_of_two" ib p4)
  (g5:bg K "value_of" mv k4)
  (n8:bg K "reckoned" mT j2)
  (n9:bg K "by_put" rD r)
  (l6:bg K "with_last_frame" fD g4)
  (c6:bg K "at_row" rC j4)
  (h7:bg K "by_unless" kA j)
  (e6:bg K "by_go" uW y)
  (v2:bg K "come_in" oW h6)
  (m2:bg K "by_do" vM L)
  (j1:bg K "bell_of" oJ c3)
  (h2:bg K "with_line" ki q6)
  (o2:bg K "leave" vn n7)
  (r0:bg K "by_wait" oH n)
  (e5:bg K "by_call" o9 H)
  (n4:bg K "by_all" si q)
  (q3:bg K "by_tell" oU R)
  (s4:bg K "with_pass" km q8)
  (c2:bg K "taken" vq m4)
  (b6:bg K "by_take" oK M)
  (r5:bg K "given_back" jV s5)
  (k3:bg K "by_give" pd N)
  (h4:bg K "by_pass" oI P)
  (h8:bg K "by_say" sI S)
  (b9:bg K "row_done" mC c4)
  (e1:bg K "end_deed" mW n2)
  (q7:bg K "step_of" oY b2)
  (b0:bg K "stepped" oM g2)
  (a6:bg K "_law_steps" jW b8)
  (e3:bg K "place_in_a_row" fY l3)
  (k6:bg K "stands" rN m1)
  (c5:bg K "_law_same" kr a7)
  (n5:bg K "holds" u3 g3)
  (o4:bg K "_law_right" jC k7)
  {oc kV dc pm cd ct:Value} {od an:Option Addr} {sl:Array (Option Value)} (q9:PySem.W.nsIn K mainGlobals "law"=some (some (.ref g))) (t1:K.lookup g=some ⟨oc,od,.func (PySem.W.fnOf "law" "law" (gL nI) (fI nI) (aD nI) .none kV dc pm an cd ct),sl⟩) (o3:PySem.W.codeIn K cd "law"=true) (e7:PySem.W.keepIn K (.ref g)=true)
  {hJ:Tok} (Ef:PySem.W.nsIn K mainGlobals "NOBODY"=some (some (.int (-1) hJ)))
  {ia:Tok} (JR:PySem.W.nsIn K mainGlobals "OWN"=some (some (.int (-1) ia)))
  {jf:Tok} (BM:PySem.W.nsIn K mainGlobals "HIGHEST"=some (some (.int (9) jf)))
  {uu yS:Nat} {uV we vo vT v8 wc vL ve vp uZ tM tf:Tok} (B1:PySem.W.nsIn K mainGlobals "DONE_BY"=some (some (.ref uu))) (yP:K.lookup uu=some ⟨.type "dict",none,.dict (List.toArray [⟨PyData.keyHash w.params "put",.str "put" uV,.ref r⟩,⟨PyData.keyHash w.params "unless",.str "unless" we,.ref j⟩,⟨PyData.keyHash w.params "go",.str "go" vo,.ref y⟩,⟨PyData.keyHash w.params "do",.str "do" vT,.ref L⟩,⟨PyData.keyHash w.params "wait",.str "wait" v8,.ref n⟩,⟨PyData.keyHash w.params "call",.str "call" wc,.ref H⟩,⟨PyData.keyHash w.params "all",.str "all" vL,.ref q⟩,⟨PyData.keyHash w.params "tell",.str "tell" ve,.ref R⟩,⟨PyData.keyHash w.params "take",.str "take" vp,.ref M⟩,⟨PyData.keyHash w.params "give",.str "give" uZ,.ref N⟩,⟨PyData.keyHash w.params "pass",.str "pass" tM,.ref P⟩,⟨PyData.keyHash w.params "say",.str "say" tf,.ref S⟩]) yS,#[]⟩)
  (IH:PySem.W.nsIn K mainGlobals "len"=some none) (Fk:PySem.W.nsIn K mainGlobals "tuple"=some none) (Gs:PySem.W.nsIn K mainGlobals "list"=some none) (G5:PySem.W.nsIn K mainGlobals "dict"=some none) (Iq:PySem.W.nsIn K mainGlobals "set"=some none) (Jr:PySem.W.nsIn K mainGlobals "int"=some none) (IT:PySem.W.nsIn K mainGlobals "str"=some none) (GN:PySem.W.nsIn K mainGlobals "bool"=some none) (Jv:PySem.W.nsIn K mainGlobals "all"=some none) (JU:PySem.W.nsIn K mainGlobals "any"=some none) (Fv:PySem.W.nsIn K mainGlobals "range"=some none) (JO:PySem.W.nsIn K mainGlobals "zip"=some none) (Dr:PySem.W.nsIn K mainGlobals "sorted"=some none) (vQ:PySem.W.nsIn K mainGlobals "isinstance"=some none) (IZ:PySem.W.nsIn K mainGlobals "min"=some none) (Jm:PySem.W.nsIn K mainGlobals "max"=some none) (Jx:PySem.W.nsIn K mainGlobals "abs"=some none) (xN:PySem.W.nsIn K mainGlobals "enumerate"=some none)
  (T:∀ns:List Int,ns.length<=63->∃S',FY [.ref 0] [.frz (ns.map D.int)]=some (.d (.bl true),S')):
  ∃fd:FuncData,(∀(s:Shared) (v:Value),BindsTo s fd ⟨[v],[]⟩ [("_law_script",v)])/\∀base:Heap,K.In base->base.Ns mainGlobals mg->bA l.prog w K mg base dY 15 fa fd Dz xu:=by
 have e:=l5.symm.trans (PySem.W.mg_of X G q9)
 cases e
 have u8:=yL (st:=nI) t1 o3 e7
 have O1:=d1.ok1 (ps:=Ap) X G
 have O2:=d2.ok1 (ps:=xf) X G
 have O3:=d3.ok1 (ps:=xf) X G
 have O4:=d4.ok1 (ps:=nN) X G
 have O5:=d5.ok1 (ps:=uz) X G
 have O6:=d6.ok1 (ps:=Ay) X G
 have O7:=d7.ok1 (ps:=Aw) X G
 have O8:=d8.ok1 (ps:=zZ) X G
 have O9:=d9.ok1 (ps:=nN) X G
 have p2:=h1.ok1 (ps:=w4) X G
 have t0:=r4.ok1 (ps:=xQ) X G
 have n6:=a5.ok1 (ps:=z3) X G
 have e9:=g0.ok1 (ps:=xq) X G
 have t3:=c1.ok1 (ps:=Ae) X G
 have s3:=l7.ok1 (ps:=ya) X G
 have s8:=n1.ok1 (ps:=AI) X G
 have q4:=r2.ok1 (ps:=c7) X G
 have i2:=u1.ok1 (ps:=Ak) X G
 have h3:=h0.ok1 (ps:=xt) X G
 have h5:=t2.ok1 (ps:=xF) X G
 have p3:=i1.ok1 (ps:=xB) X G
 have v1:=s6.ok1 (ps:=yo) X G
 have e2:=b4.ok1 (ps:=yh) X G
 have k5:=r3.ok1 (ps:=Av) X G
 have q1:=s2.ok1 (ps:=xn) X G
 have l0:=g5.ok1 (ps:=ua) X G
 have h9:=n8.ok1 (ps:=AS) X G
 have I:=n9.ok1 (ps:=bF) X G
 have s7:=l6.ok1 (ps:=AA) X G
 have o1:=c6.ok1 (ps:=Ax) X G
 have a2:=h7.ok1 (ps:=bF) X G
 have Q:=e6.ok1 (ps:=bF) X G
 have n3:=v2.ok1 (ps:=zT) X G
 have z:=m2.ok1 (ps:=bF) X G
 have a9:=j1.ok1 (ps:=Ao) X G
 have e0:=h2.ok1 (ps:=Ar) X G
 have l1:=o2.ok1 (ps:=Ah) X G
 have U:=r0.ok1 (ps:=bF) X G
 have a3:=e5.ok1 (ps:=bF) X G
 have A:=n4.ok1 (ps:=bF) X G
 have u:=q3.ok1 (ps:=bF) X G
 have k2:=s4.ok1 (ps:=xV) X G
 have r1:=c2.ok1 (ps:=zW) X G
 have o:=b6.ok1 (ps:=bF) X G
 have l2:=r5.ok1 (ps:=Ai) X G
 have a1:=k3.ok1 (ps:=bF) X G
 have t:=h4.ok1 (ps:=bF) X G
 have a4:=h8.ok1 (ps:=bF) X G
 have s1:=b9.ok1 (ps:=bF) X G
 have c0:=e1.ok1 (ps:=c7) X G
 have s0:=q7.ok1 (ps:=c7) X G
 have m0:=b0.ok1 (ps:=c7) X G
 have s9:=a6.ok1 (ps:=pK) X G
 have r7:=e3.ok1 (ps:=c7) X G
 have p1:=k6.ok1 (ps:=c7) X G
 have g1:=c5.ok1 (ps:=zC) X G
 have k1:=n5.ok1 (ps:=c7) X G
 have o0:=o4.ok1 (ps:=pK) X G
 have jw:=PySem.W.mg_of X G Ef
 have f:=PySem.W.mg_of X G JR
 have lC:=PySem.W.mg_of X G BM
 have oO:Az l.prog w K mg "DONE_BY" lq:=D5 (PySem.W.mg_of X G B1) yP (.cons I.m (.cons a2.m (.cons Q.m (.cons z.m (.cons U.m (.cons a3.m (.cons A.m (.cons u.m (.cons o.m (.cons a1.m (.cons t.m (.cons a4.m .nil)))))))))))) (by decide +kernel)
 have B:Bl mg:=⟨QFq X G IH,QFq X G Fk,QFq X G Gs,QFq X G G5,QFq X G Iq,QFq X G Jr,QFq X G IT,QFq X G GN,QFq X G Jv,QFq X G JU,QFq X G Fv,QFq X G JO,QFq X G Dr,QFq X G vQ,QFq X G IZ,QFq X G Jm,QFq X G Jx,QFq X G xN⟩
 refine⟨PySem.W.fnOf "law" "law" (gL nI) (fI nI) (aD nI) .none kV dc pm an cd ct,λs v=>.of_eq rfl,λbase _ _=> ?_⟩
 have Z:Pk l.prog w base:=⟨⟩
 have sj:=O1.cal Z λ_ F _ _ _=>ye F B
 have c:=O2.cal Z λ_ F _ _ _=>vJ F B
 have fu:=O3.cal Z λ_ F _ _ _=>sU F B c
 have iE:=O4.cal Z λ_ F _ _ _=>mL F B fu c
 have bZ:=O5.cal Z λ_ F b k m=>j0 F B c b k m 3
 have j8:=O6.cal Z λ_ F _ _ _=>oD F B c bZ
 have j6:=O7.cal Z λ_ F _ _ _=>o6 F B c bZ
 have n0:=O8.cal Z λ_ F _ _ _=>sV F B fu c j6 j8
 have lR:=O9.cal Z λ_ F _ _ _=>sm F B c n0 iE
 have iM:=p2.cal Z λ_ F _ _ _=>uS F B
 have nc:=t0.cal Z λ_ F _ _ _=>tw F B iM jw
 have z4:=n6.cal Z λ_ F _ _ _=>D9 F B iM nc f
 have jH:=e9.cal Z λ_ F _ _ _=>wM F B
 have jZ:=t3.cal Z λ_ F _ _ _=>oX F B jH
 have a:=s3.cal Z λ_ F _ _ _=>sZ F B
 have dj:=s8.cal Z λ_ F _ _ _=>tR F B f
 have j7:=q4.cal Z λ_ F _ _ _=>pk F B a dj f
 have jJ:=i2.cal Z λ_ F _ _ _=>xx F B jZ j7
 have fW:=h3.cal Z λ_ F _ _ _=>x9 F B
 have C:=h5.cal Z λ_ F _ _ _=>yd F B fW
 have J:=p3.cal Z λ_ F _ _ _=>wm F B
 have dD:=v1.cal Z λ_ F _ _ _=>vA F B J
 have Y:=e2.cal Z λ_ F _ _ _=>vz F B J
 have iD:=k5.cal Z λ_ F _ _ _=>vh F B a C J Y fW dD f
 have ie:=q1.cal Z λ_ F _ _ _=>qc F B lC
 have mP:=l0.cal Z λ_ F b k m=>pT F B ie b k m 6
 have i:=h9.cal Z λ_ F _ _ _=>xG F B a fW mP f
 have DI:=I.cal Z λ_ F _ _ _=>A3 F B iD i
 have dU:=s7.cal Z λ_ F _ _ _=>mq F B dD
 have jc:=o1.cal Z λ_ F _ _ _=>BZ F B a dU
 have yi:=a2.cal Z λ_ F _ _ _=>vk F B i jc
 have FJ:=Q.cal Z λ_ F _ _ _=>DW F B jc
 have lD:=n3.cal Z λ_ F _ _ _=>yR F B Y jw
 have EX:=z.cal Z λ_ F _ _ _=>CI F B C i lD dD
 have gV:=a9.cal Z λ_ F _ _ _=>zH F B a C
 have fj:=e0.cal Z λ_ F _ _ _=>vE F B Y J
 have qD:=l1.cal Z λ_ F _ _ _=>Df F B Y jw
 have BQ:=U.cal Z λ_ F _ _ _=>zq F B gV i fj qD
 have Bk:=a3.cal Z λ_ F _ _ _=>zt F B gV fj Y
 have CL:=A.cal Z λ_ F _ _ _=>AX F B gV fj
 have BK:=u.cal Z λ_ F _ _ _=>ze F B i dU a
 have iL:=k2.cal Z λ_ F _ _ _=>vD F B J
 have qt:=r1.cal Z λ_ F _ _ _=>CF F B C iL
 have Be:=o.cal Z λ_ F _ _ _=>yA F B qt
 have gQ:=l2.cal Z λ_ F _ _ _=>sX F B C iL lC
 have BE:=a1.cal Z λ_ F _ _ _=>zR F B gQ
 have BL:=t.cal Z λ_ F _ _ _=>zo F B qt gQ
 have DE:=a4.cal Z λ_ F _ _ _=>B7 F B
 have sH:∀x F,qR.lookup x=some F->fg l.prog w K mg base 10 x bF F:=by
  refine Cz λp hp=> ?_
  simp only[qR,Qsq,QXq,or_false] at hp
  rcases hp with rfl|rfl|rfl|rfl|rfl|rfl|rfl|rfl|rfl|rfl|rfl|rfl
  ·exact DI.mono (by decide)
  ·exact yi.mono (by decide)
  ·exact FJ.mono (by decide)
  ·exact EX.mono (by decide)
  ·exact BQ.mono (by decide)
  ·exact Bk.mono (by decide)
  ·exact CL.mono (by decide)
  ·exact BK.mono (by decide)
  ·exact Be.mono (by decide)
  ·exact BE.mono (by decide)
  ·exact BL.mono (by decide)
  ·exact DE.mono (by decide)
 have qF:=s1.cal Z λ_ F _ _ _=>wI F B sH oO
 have rR:=c0.cal Z λ_ F _ _ _=>yf F B dD qD dj iD
 have um:=s0.cal Z λ_ F _ _ _=>zQ F B a lD dj rR i qF jc f
 have t7:=m0.cal Z λ_ F _ _ _=>yy F B jJ um
 have nF:=s9.cal Z λ_ F _ _ _=>tE F B jJ t7
 have i6:=r7.cal Z λ_ F _ _ _=>n_ F B jH
 have xi:=p1.cal Z λ_ F _ _ _=>Bb F B i6 a dj f
 have kX:=g1.cal Z λ_ F b k m=>m6 F B b k m 10
 have z9:=k1.cal Z λ_ F _ _ _=>CN F B
 have nR:=o0.cal Z λ_ F _ _ _=>s_ F B kX z9 xi
 exact EZ (GL u8 B sj lR z4 nR nF c) T
end W28
namespace DL
open PySem PySem.Spec L2
def ic{a:cD}{S:aG}{Q:Bool->aG->Prop}(q:Q true S):E bQ a S Q:=⟨_,_,rfl,q⟩
section
variable{S:aG}
def i3{i j:Int}{Q:D->Prop}(q:Q (.int (i+j))):Op (bL S (.int i) (.int j)) Q:=⟨_,rfl,q⟩
def HL{i j:Str}{Q:D->Prop}(h:i.length+j.length<=sizeLine)(q:Q (.str (i++j))):Op (bL S (.str i) (.str j)) Q:=⟨_,by simp only[bL];rw[Qhq h],q⟩
def dI{i j:List D}{Q:D->Prop}(h:i.length+j.length<=sizeLine)(q:Q (.tup (i++j))):Op (bL S (.tup i) (.tup j)) Q:=⟨_,by simp only[bL];rw[Qhq h],q⟩
def Gv{k:Int->Int->D}{i j:Int}{Q:D->Prop}(q:Q (k i j)):Op (intD (λ_ _=>True) k S (.int i) (.int j)) Q:=⟨_,by simp only[intD,if_true],q⟩
def kE{i j:Int}{Q:D->Prop}(h:0<j)(q:Q (.int (i%j))):Op (ni S (.int i) (.int j)) Q:=⟨_,by simp only[ni,intD];rw[Qhq h],q⟩
def Ce{i j:Int}{Q:D->Prop}(h:CS i j)(q:Q (.int (i/j))):Op (xK S (.int i) (.int j)) Q:=⟨_,by simp only[xK,intD];rw[Qhq h],q⟩
def pR{i j:Int}{Q:D->Prop}(h:Fu i j)(q:Q (.int (i*j))):Op (qH S (.int i) (.int j)) Q:=⟨_,by simp only[qH,intD];rw[Qhq h.ok],q⟩
def ax{ds:List D}{i:Int}{d:D}{Q:D->Prop}(h:kh ds i=some d)(q:Q d):Op (iQ S (.tup ds) (.int i)) Q:=⟨_,h,q⟩
def cM{k:Nat}{ds:List D}{i:Int}{d:D}{Q:D->Prop}(a:S[k]?=some (.lst ds))(h:kh ds i=some d)(q:Q d):Op (iQ S (.ref k) (.int i)) Q:=⟨_,by simp only[iQ,a];exact h,q⟩
def bT{ds:List D}{Q:List D×Tag->Prop}(q:Q (ds,.tu)):Op (sN S (.tup ds)) Q:=⟨_,rfl,q⟩
def bS{k:Nat}{ds:List D}{Q:List D×Tag->Prop}(a:S[k]?=some (.lst ds))(q:Q (ds,.st k)):Op (sN S (.ref k)) Q:=⟨_,by simp only[sN,a],q⟩
end
def bc{b:Bool}{p q:Prop}(a:b=true->p)(c:b=false->q):if b=true then p else q:=by
 cases b with
 |true=>exact a rfl
 |false=>exact c rfl
end DL
local macro_rules|`(tactic|symm)=>do
 let mut a:Array (Lean.TSyntax `Lean.Parser.Tactic.tacticSeq):= #[]
 for s in (["aK","dZ","dX","KW","cx","Ft","pA","cq","t_auS","bX","dB","aw","aP","cv","dv","dQ","IY","cK","kb","uj","fK","ff","AC","cA","AU","cz","D7","HE","sO","wV","LU","ic","aW","L3","jm","qd","i3","Gv","bT"]:List String) do a:=a.push (←`(tacticSeq|refine $(Lean.mkIdent (.str (.str .anonymous "DL") s)) ?_))
 `(tactic|repeat(first|(with_reducible first $[| $a]*)|((with_reducible refine DL.aC (d := ?_) ?_ ?_); rotate_left; rfl)|dsimp only))
local macro_rules|`(tactic|apply $e)=>`(tactic|(refine $e;symm))
namespace W28
open PySem PySem.Spec L2 DL
def og(a b c:Int):O:=.lst [.int a,.int b,.int c]
def BJ{S:aG}{k:Nat}{a b l m:Int}{Q:Res->aG->Prop}(e:S[k]?=some (og a b l))(g:0<m)(v:m<1000000)
  (h:∀(d t r s:Int),0<=d->d<m->Q (.d (.int d)) (S.set k (og t r s))):Fn ay [.ref k,.int m] S Q:=by
 have q:k<S.length:=(gQs.mp e).1
 have p:∀(o:O),(S.set k o).take S.length=S.set k o:=λo=>by rw[List.take_of_length_le];simp
 refine bN ?_
 unfold mw
 symm
 refine cM e rfl ?_
 symm
 refine bc (λc=> ?_) (λc=> ?_)
 ·symm
  refine cM e rfl ?_
  symm
  refine kE g ?_
  symm
  refine cM e rfl ?_
  symm
  refine Ce ⟨g,by omega⟩ ?_
  symm
  refine⟨_,_,_,_,rfl,rfl,e,rfl,?_⟩
  symm
  refine gR (uD (by rfl)) (p _) (λ_ z=>by cases z) rfl ?_
  exact h _ _ _ _ (Int.emod_nonneg _ (by omega)) (Int.emod_lt_of_pos _ g)
 ·refine cq ?_
  symm
  refine cM e (d:=.int l) rfl ?_
  symm
  refine⟨_,_,_,_,rfl,rfl,e,rfl,?_⟩
  have i:∀o:O,(S.set k o)[k]?=some o:=λo=>by rw[Qyq q]
  symm
  refine cM (i _) (d:=.int b) rfl ?_
  symm
  refine pR (.inr ⟨by decide,by decide⟩) ?_
  symm
  refine cM (i _) (d:=.int (l+1)) rfl ?_
  refine pR (.inl ⟨by decide,by decide⟩) ?_
  symm
  refine kE (by decide) ?_
  generalize f:(b*69621+7919*_+1)%2147483629=mx
  have u:0<=mx:=by rw[←f];exact Int.emod_nonneg _ (by decide)
  have w:mx<2147483629:=by rw[←f];exact Int.emod_lt_of_pos _ (by decide)
  symm
  refine⟨_,_,_,_,rfl,rfl,i _,rfl,?_⟩
  have n:∀o j:O,((S.set k o).set k j)[k]?=some j:=λo j=>by rw[List.set_set];exact i _
  symm
  refine cM (n _ _) (d:=.int mx) rfl ?_
  symm
  refine cM (n _ _) (d:=.int mx) rfl ?_
  symm
  refine kE (by decide) ?_
  symm
  refine pR (.inl ⟨by omega,by omega⟩) ?_
  symm
  refine kE (by decide) ?_
  symm
  refine Ce ⟨by decide,by decide⟩ ?_
  symm
  refine kE g ?_
  symm
  rw[List.set_set]
  refine gR (uD (by rfl)) (p _) (λ_ z=>by cases z) rfl ?_
  exact h _ _ _ _ (Int.emod_nonneg _ (by omega)) (Int.emod_lt_of_pos _ g)
structure Ex(k:Nat)(S S':aG):Prop where
 len:S.length<=S'.length
 keep:∀(j:Nat) (o:O),j≠k->S[j]?=some o->S'[j]?=some o
 pot:∃a b c,S'[k]?=some (og a b c)
def Ex.refl{k:Nat}{S:aG}{a b c:Int}(h:S[k]?=some (og a b c)):Ex k S S:=⟨Qmq _,λ_ _ _ h=>h,_,_,_,h⟩
def Ex.trans{k:Nat}{S a S2:aG}(x:Ex k S a)(y:Ex k a S2):Ex k S S2:=⟨QAq x.len y.len,λj o n h=>y.keep j o n (x.keep j o n h),y.pot⟩
def Ex.set{k:Nat}{S d:aG}{a b c:Int}(x:Ex k S d):Ex k S (d.set k (og a b c)):=by
 obtain⟨_,_,_,h⟩:=x.pot
 refine⟨by simpa using x.len,λj o n h=> ?_,a,b,c,Qyq (gQs.mp h).1⟩
 rw[QKq (Ne.symm n)]
 exact x.keep j o n h
def Ex.app{k:Nat}{S d G:aG}(x:Ex k S d):Ex k S (d++G):=by
 obtain⟨a,b,c,h⟩:=x.pot
 refine⟨by rw[lQa];have:=x.len;omega,λj o n h=> ?_,a,b,c,?_⟩
 ·have:=x.keep j o n h
  rw[QHq (gQs.mp this).1]
  exact this
 ·rw[QHq (gQs.mp h).1]
  exact h
def Ex.put{k r:Nat}{S d:aG}{o:O}(x:Ex k S d)(i:S.length<=r)(f:k<S.length):Ex k S (d.set r o):=by
 obtain⟨a,b,c,h⟩:=x.pot
 refine⟨by simpa using x.len,λj e n h=> ?_,a,b,c,?_⟩
 ·have g:=(gQs.mp h).1
  rw[QKq (by omega)]
  exact x.keep j e n h
 ·rw[QKq (by omega)]
  exact h
def Ex.lt{k:Nat}{S d:aG}(x:Ex k S d):k<d.length:=by
 obtain⟨a,b,c,h⟩:=x.pot
 exact(gQs.mp h).1
def bq{S G:aG}{j:Nat}{o:O}(h:S[j]?=some o):(S++G)[j]?=some o:=by
 rw[QHq (gQs.mp h).1]
 exact h
def a_{S:aG}{o:O}:(S++ [o])[S.length]?=some o:=by simp
def gA{S:aG}{k j:Nat}{o o':O}(n:j≠k)(h:S[j]?=some o):(S.set k o')[j]?=some o:=by
 rw[QKq (Ne.symm n)]
 exact h
def il{S:aG}{j:Nat}{o o':O}(h:S[j]?=some o):(S.set j o')[j]?=some o':=Qyq (gQs.mp h).1
def Ex.clean{k:Nat}{S f:aG}(x:Ex k S f)(l:k<S.length):nE S f/\∃a b c,f.take S.length=S.set k (og a b c):=by
 obtain⟨a,b,c,h⟩:=x.pot
 have g:∀j,j<S.length->f[j]?=(S.set k (og a b c))[j]? :=λj d=>by
  by_cases e:j=k
  ·subst e
   rw[h,Qyq d]
  ·rw[QKq (Ne.symm e),x.keep j _ e (gQe d),gQe d]
 refine⟨⟨x.len,λj o d e=> ?_⟩,a,b,c,?_⟩
 ·by_cases i:j=k
  ·subst i
   rw[h] at e
   cases e
   exact .inr rfl
  ·rw[x.keep j _ i (gQe d)] at e
   rw[gQe d]
   exact .inl e
 ·apply List.ext_getElem?
  intro j
  by_cases d:j<S.length
  ·rw[List.getElem?_take_of_lt d]
   exact g j d
  ·rw[List.getElem?_eq_none (by rw[Qxq];omega),List.getElem?_eq_none (by simp;omega)]
def q_{k:Nat}{S e:aG}{d:D}{Q:Res->aG->Prop}(x:Ex k S e)(f:k<S.length)(hd:∀k,d≠.ref k)(hl:b_ S.length d=true)(q:∀a b c,Q (.d d) (S.set k (og a b c))):Op (settle S d e) λp=>Q p.1 p.2:=by
 obtain⟨h,a,b,c,g⟩:=x.clean f
 exact gR h g hd hl (q a b c)
def Ij{k:Nat}{S d:aG}{ds:List D}{Q:Res->aG->Prop}(x:Ex k S d)(e:k<S.length)(hl:bJ S.length ds=true)(q:∀a b c,Q (.l ds) (S.set k (og a b c))):Op (fm S ds d) λp=>Q p.1 p.2:=by
 obtain⟨g,a,b,c,f⟩:=x.clean e
 exact l9 g f hl (q a b c)
def bE{S S0:aG}{k:Nat}{m:Int}{Q:Res->aG->Prop}(x:Ex k S0 S)(j:0<m)(i:m<1000000)
  (h:∀(d:Nat) (e:aG),(d:Int)<m->Ex k S0 e->Ex k S e->e.length=S.length->Q (.d (.int d)) e):Fn ay [.ref k,.int m] S Q:=by
 obtain⟨a,b,c,f⟩:=x.pot
 refine BJ f j i λd p l o q g=> ?_
 obtain⟨n,rfl⟩:∃n:Nat,d=n:=⟨d.toNat,by omega⟩
 exact h n _ g x.set (Ex.refl f).set (by simp)
def aM{α:Type}{xs:List α}{j:Nat}{x:α}(h:xs[j]?=some x):kh xs (j:Int)=some x:=by
 have a:=(gQs.mp h).1
 unfold kh Ep
 rw[Qhq (by omega),Qhq (by omega)]
 simpa using h
def iR{c:cD}{S S0:aG}{k i v:Nat}{xs:List D}{Q:D->aG->Prop}(n:c[0]?=some (some (.ref k)))(g:c[v]?=some (some (.ref i)))(x:Ex k S0 S)(hi:i≠k)(f:S[i]?=some (.lst xs))(o:0<xs.length)(p:xs.length<1000)
  (h:∀(d:D) (a:aG),d∈xs->Ex k S0 a->Ex k S a->a.length=S.length->Q d a):E (a0 iQ (au v) (aA ay (aq (au 0) (aq (eM (aS (au v))) av)))) c S Q:=by
 refine bX (aC g (cA (aw (aC n (aw (uj (cK (aC g (bS f (aP ?_))))))))))
 refine bE x (by show(0:Int)<xs.length;omega) (by show(xs.length:Int)<1000000;omega) λd a l m j e=> ?_
 have b:d<xs.length:=by have:(d:Int)<(xs.length:Int):=l;omega
 refine cM (j.keep _ _ hi f) (aM (gQe b)) ?_
 exact h _ _ (List.getElem_mem b) m j e
def dG{l:cD}{S S0:aG}{k n:Nat}{xs:List D}{f:fU}{Q:D->aG->Prop}(s:l[0]?=some (some (.ref k)))(x:Ex k S0 S)(u:0<n)(w:n<1000)(hl:xs.length=n)
  (r:E f l S λds i=>ds=xs/\i=S)
  (h:∀(d:D) (e:aG),d∈xs->Ex k S0 e->Ex k S e->e.length=S.length+1->Q d e):E (a0 iQ (bB (bp f)) (aA ay (aq (au 0) (aq (cF (.int n)) av)))) l S Q:=by
 refine bX (dQ (dv (r.mono λds i p=> ?_)))
 obtain⟨m,j⟩:=p
 subst m j
 refine⟨nQl (aQ (by omega)),?_⟩
 refine cA (aw (aC s (aw (dB (aP ?_)))))
 have v:=x.lt
 refine bE (x.app (G:= [O.lst ds])) (by omega) (by omega) λd e t m j o=> ?_
 have g:d<ds.length:=by omega
 refine cM (j.keep _ _ (by omega) a_) (aM (gQe g)) ?_
 have y:Ex k i i:=by obtain⟨a,b,c,q⟩:=x.pot;exact Ex.refl q
 exact h _ _ (List.getElem_mem g) m (y.app.trans j) (by rw[o];simp)
end W28
namespace DL
open PySem PySem.Spec L2
mutual
theorem eR{m:Nat}:∀{d:D},b_ 0 d=true->b_ m d=true
 |.non,_=>rfl
 |.bl _,_=>rfl
 |.int _,_=>rfl
 |.str _,_=>rfl
 |.tup ds,h=>by simp only[b_] at h⊢;exact i_ h
 |.ref k,h=>by simp[b_] at h
 |.fn _,_=>rfl
theorem i_{m:Nat}:∀{ds:List D},bJ 0 ds=true->bJ m ds=true
 | [],_=>rfl
 | d::ds,h=>by
   simp only[bJ,QCq] at h⊢
   exact⟨eR h.1,i_ h.2⟩
end
theorem qo{m:Nat}:∀{ds:List D},(∀d∈ds,b_ m d=true)->bJ m ds=true
 | [],_=>rfl
 | d::ds,h=>by
   simp only[bJ,QCq]
   exact⟨h d (QBq ..),qo λe a=>h e (Qpq _ a)⟩
def a8{α:Type}{m:Nat}{f:α->D}{l:List α}(h:∀a∈l,b_ m (f a)=true):bJ m (l.map f)=true:=qo λd c=>by
 obtain⟨a,b,rfl⟩:=Qkq.mp c
 exact h a b
theorem uA:∀a:List Str,ub (a.map D.str)=some a
 | []=>rfl
 |s::a=>by simp only[QDq,ub];rw[uA a];rfl
def C9{c:cD}{S:aG}{f:eN}{Q:List D->aG->Prop}(h:E f c S λp b=>p.2.isL=true/\∃a:List Str,p.1=a.map D.str/\a.length<64/\Q ((ml a).map D.str) b):E (xA f) c S Q:=by
 obtain⟨p,b,d,l,a,e,g,q⟩:=h
 exact⟨_,b,by unfold xA;rw[d];simp only[Qbq];rw[Qhq l,e,uA];simp only[Qbq];rw[Qhq g],q⟩
def mJ{ds:List D}{y:D}{Q:List D×D->Prop}(h:ds.length<sizeLine)(q:Q (ds++ [y],.non)):Op (mX ds [y]) Q:=⟨_,by simp only[mX];rw[Qhq h],q⟩
def dP{a:cD}{S:aG}{n:Nat}{g:qe}{ds:List D}{Q:cD->aG->Prop}(d:ds.length=n)(h:J6 g ds a S Q):Tg (gW (nG n g)) (.tup ds) a S Q:=by
 obtain⟨b,c,e,q⟩:=h
 exact⟨b,c,by show nG n g ds a S=_;unfold nG;rw[Qhq d];exact e,q⟩
def bf{a:cD}{S:aG}{Q:cD->aG->Prop}(q:Q a S):J6 cW [] a S Q:=⟨_,_,rfl,q⟩
def aB{b:cD}{S:aG}{f:lB}{g:qe}{d:D}{ds:List D}{Q:cD->aG->Prop}(h:Tg f d b S λa e=>J6 g ds a e Q):J6 (aI f g) (d::ds) b S Q:=by
 obtain⟨a,e,i,c,k,j,q⟩:=h
 exact⟨c,k,by show(f d b S).bind _=_;rw[i];exact j,q⟩
end DL
namespace W28
open PySem PySem.Spec L2 DL
def F7{c:cD}{S:aG}{i j:Nat}{f:fU}{Q:Out->Prop}(h:E f c S λds d=>∃a b,ds= [a,b]/\Q (.nx ((c.set i (some a)).set j (some b)) d)):T (w_ i j f) c S Q:=by
 obtain⟨ds,d,e,a,b,rfl,q⟩:=h
 exact⟨_,by unfold w_;rw[e];rfl,q⟩
def El{c:cD}{S:aG}{i j:Nat}{f:fU}{Q:Out->Prop}(h:E f c S λds d=>∃a b,ds= [a,b]/\Q (.nx ((c.set i (some a)).set j (some b)) d)):T (nV (aR f) (gW (nG 2 (aI (bG i) (aI (bG j) cW))))) c S Q:=by
 refine Ft (cv (h.mono λds d g=> ?_))
 obtain⟨a,b,e,q⟩:=g
 subst e
 exact⟨by show 2<=_;decide,dP rfl (aB (aW (aB (aW (bf q)))))⟩
def lets:Str:="abcdefghijklmnopqrstuvwxyz"
def let1(i:Nat):Str:=⟨#[lets.cps.toList.getD i 0]⟩
def HW:List Str:= ["","zz","x","qqqqqqq"]
def J_(j:Nat):Str:=HW.getD j ""
def nm(i j:Nat):Str:=let1 i++J_ j
def Io(x:Str):Prop:=∃i j,i<26/\j<4/\x=nm i j
def CO(f s a:Nat):List Str:=(List.range a).map λk=>nm ((f+s*k)%26) ((f+k)%4)
def C5:∀i,i<26->∀j,j<4->PyData.strOk (nm i j)=true/\(nm i j).length<=8/\(let1 i).length=1:=by decide +kernel
def Ff:∀i,i<26->∀a,a<26->∀j,j<4->∀b,b<4->nm i j=nm a b->i=a:=by decide +kernel
def C_:∀f,f<26->∀s∈([1,3,5,7,9,11]:List Nat),((List.range 24).map λk=>(f+s*k)%26).Nodup:=by decide +kernel
def D_{f s m:Nat}(e:f<26)(d:s∈([1,3,5,7,9,11]:List Nat))(g:m<=24):(CO f s m).Nodup:=by
 have h:=C_ f e s d
 rw[List.nodup_iff_pairwise_ne,List.pairwise_map] at h
 unfold CO
 rw[List.nodup_iff_pairwise_ne,List.pairwise_map]
 have c:(List.range m).Sublist (List.range 24):=List.range_sublist.mpr g
 refine(h.sublist c).imp λ{a b} hne z=>hne ?_
 exact Ff _ (Nat.mod_lt _ (by decide)) _ (Nat.mod_lt _ (by decide)) _ (Nat.mod_lt _ (by decide)) _ (Nat.mod_lt _ (by decide)) z
def HJ{f s m:Nat}:∀x∈CO f s m,Io x:=λx a=>by
 obtain⟨k,_,rfl⟩:=Qkq.mp a
 exact⟨_,_,Nat.mod_lt _ (by decide),Nat.mod_lt _ (by decide),rfl⟩
def Hx:∀i:Nat,i<26->kh lets.cps.toList (i:Int)=some (lets.cps.toList.getD i 0):=by decide +kernel
def HH:∀j:Nat,j<4->kh (([.str "",.str "zz",.str "x",.str "qqqqqqq"]:List D)) (j:Int)=some (.str (J_ j)):=by
 intro j a
 rcases j with _|_|_|_|j
 ·rfl
 ·rfl
 ·rfl
 ·rfl
 ·omega
def EB:∀j,(J_ j).length<=7:=by
 intro j
 rcases j with _|_|_|_|j
 ·decide
 ·decide
 ·decide
 ·decide
 ·show(Str.length (HW.getD (j+4) ""))<=7
  simp[HW]
  decide
def Jy{S:aG}{z:Str}{i:Int}{c:Nat}{Q:D->Prop}(hl:z.length<=sizeLine)(h:kh z.cps.toList i=some c)(q:Q (.str ⟨#[c]⟩)):Op (iQ S (.str z) (.int i)) Q:=⟨_,by simp only[iQ];rw[Qhq hl,h];rfl,q⟩
def Hk{d:D}(h:d∈([.int 1,.int 3,.int 5,.int 7,.int 9,.int 11]:List D)):∃s:Nat,s∈([1,3,5,7,9,11]:List Nat)/\d=.int s:=by
 simp only[Qsq,QXq,or_false] at h
 rcases h with rfl|rfl|rfl|rfl|rfl|rfl
 ·exact⟨1,by decide,rfl⟩
 ·exact⟨3,by decide,rfl⟩
 ·exact⟨5,by decide,rfl⟩
 ·exact⟨7,by decide,rfl⟩
 ·exact⟨9,by decide,rfl⟩
 ·exact⟨11,by decide,rfl⟩
def xh{S S0:aG}{k e:Nat}{Q:Res->aG->Prop}(x:Ex k S0 S)(P:e<=24)
  (h:∀(ws:List Str) (g:aG),ws.Nodup->ws.Pairwise nz->ws.length=e->(∀z∈ws,Io z)->Ex k S0 g->Ex k S g->g.length=S.length->Q (.l (ws.map D.str)) g):Fn eF [.ref k,.int e] S Q:=by
 have y:Ex k S S:=by obtain⟨a,b,c,C⟩:=x.pot;exact Ex.refl C
 have K:=x.lt
 refine bN ?_
 unfold kP
 refine aK (cx (dB ?_))
 apply aK (El ?_)
 refine bE y (by decide) (by decide) λf X R F B Y=> ?_
 dsimp only
 refine aw (dG (n:=6) (xs:= [.int 1,.int 3,.int 5,.int 7,.int 9,.int 11]) rfl F (by decide) (by decide) rfl (by symm;exact⟨rfl,rfl⟩) λd U q N H W=> ?_)
 obtain⟨s,v,rfl⟩:=Hk q
 have u:s<12:=by
  simp only[Qsq,QXq,or_false] at v
  omega
 apply aP ⟨_,_,rfl,?_⟩
 apply gu (jm ?_)
 refine⟨(e:Int),rfl,by omega,?_⟩
 refine⟨λi p g m=>(∃o:Option D,p= [o,some (.str "abcdefghijklmnopqrstuvwxyz"),some (.int f),some (.int s)])/\Ex k S g/\m=(CO f s i).map D.str,⟨⟨none,rfl⟩,N,rfl⟩,λ_ _ _ _ _=>trivial,?_,?_⟩
 ·rintro i d p g m q ⟨⟨o,rfl⟩,e4,rfl⟩
  have I:=(gQs.mp q).1
  simp only[jo,lQm,QVq] at I
  obtain rfl:d=.int i:=by
   simp only[jo,gQm] at q
   obtain⟨j,M,rfl⟩:=oQm.mp q
   have:=(gQs.mp M).2
   simp at this
   subst this
   simp
  apply aW ?_
  rw[Qhq rfl]
  symm
  apply pR (.inl ⟨by omega,by omega⟩) ?_
  refine kE (by decide) ?_
  have G:((f:Int)+(s:Int)*(i:Int))%26=(((f+s*i)%26:Nat):Int):=by push_cast;rfl
  rw[G]
  have r:(f+s*i)%26<26:=Nat.mod_lt _ (by decide)
  apply Jy (by decide) (Hx _ r) ?_
  apply⟨by decide,?_⟩
  refine kE (by decide) ?_
  have w:((f:Int)+(i:Int))%4=(((f+i)%4:Nat):Int):=by push_cast;rfl
  rw[w]
  have A:(f+i)%4<4:=Nat.mod_lt _ (by decide)
  refine cM a_ (HH _ A) ?_
  refine HL (QAq (show(let1 ((f+s*i)%26)).length+(J_ ((f+i)%4)).length<=8 by have:=(C5 _ r 0 (by decide)).2.2;have:=EB ((f+i)%4);omega) (by decide)) ?_
  refine⟨Qqq (show _<64 by simp only[CO,lQm,QVq];omega) (by decide),⟨_,rfl⟩,e4.app,?_⟩
  simp only[CO,List.range_succ,Qzq,QDq,List.map_nil]
  rfl
 ·rintro p g m ⟨-,e4,rfl⟩
  have J:(jo 0 (e:Int)).length=e:=by simp only[jo,lQm,QVq];omega
  show T _ _ (g++ [O.lst ((CO f s (jo 0 (e:Int)).length).map D.str)]) _
  rw[J]
  symm
  apply C9 ?_
  refine bS a_ ?_
  refine⟨rfl,CO f s e,rfl,by simp only[CO,lQm,QVq];omega,?_⟩
  have t:=iG (CO f s e)
  refine Ij e4.app K (a8 λ_ _=>rfl) λa b c=> ?_
  exact h _ _ (t.symm.nodup (D_ (by omega) v P)) (fZ _) (by rw[t.length_eq];simp[CO]) (λz L=>HJ z (t.mem_iff.mp L)) x.set y.set (by simp)
end W28
namespace DL
open PySem PySem.Spec L2
def Di{a:cD}{S:aG}{f g:eN}{Q:List D->aG->Prop}(h:E f a S λp b=>E g a b λr S2=>(p.2.isM=true/\r.2.isM=true/\p.2.stays S2 p.1/\p.1.length+r.1.length<=sizeLine)/\Q (p.1++r.1) S2):E (vy f g) a S Q:=by
 obtain⟨p,b,c,r,S2,d,l,q⟩:=h
 exact⟨_,S2,by unfold vy;rw[c];simp only[Qbq];rw[d];simp only[Qbq];rw[Qhq l],q⟩
def dW{S:aG}{i j:Int}{Q:D->Prop}(q:Q (.bl (decide (i=j)))):Op (eP false S (.int i) (.int j)) Q:=⟨_,by simp[eP,vG,yu],q⟩
def gF{S:aG}{i j:Str}{Q:D->Prop}(q:Q (.bl (decide (i=j)))):Op (eP false S (.str i) (.str j)) Q:=⟨_,by simp[eP,vG,yu],q⟩
section
variable{Γ:cD}{S:aG}
def y_{v i:Nat}{ds:List D}(c:Γ[v]?=some (some (.ref i)))(a:S[i]?=some (.lst ds)):E (aL (fw (aS (au v)))) Γ S λb d=>d=S/\b= !ds.isEmpty:=
 cz (AC (cK (aC c (bS a ⟨⟨rfl,a⟩,rfl,rfl⟩))))
def Bs{v:Nat}{w m:Int}(a:Γ[v]?=some (some (.int w))):E (aL (a0 Er (au v) (cF (.int m)))) Γ S λb c=>c=S/\b=decide (w<m):=
 cz (bX (aC a (dB (Gv ⟨rfl,rfl⟩))))
def zL{v:Nat}{w m:Int}(a:Γ[v]?=some (some (.int w))):E (aL (a0 (eP false) (au v) (cF (.int m)))) Γ S λb c=>c=S/\b=decide (w=m):=
 cz (bX (aC a (dB (dW ⟨rfl,rfl⟩))))
def lX{i j:Int}{Q:D->Prop}(q:Q (.bl (!decide (i=j)))):Op (eP true S (.int i) (.int j)) Q:=⟨_,by simp[eP,vG,yu],q⟩
def JJ{v:Nat}{w m:Int}(a:Γ[v]?=some (some (.int w))):E (aL (a0 (eP true) (au v) (cF (.int m)))) Γ S λb c=>c=S/\b= !decide (w=m):=
 cz (bX (aC a (dB (lX ⟨rfl,rfl⟩))))
def rj{f g:iY}{p q:Bool}(i:E f Γ S λb a=>a=S/\b=p)(h:E g Γ S λb a=>a=S/\b=q):E (iT f g) Γ S λb a=>a=S/\b=(p&&q):=
 sO (i.mono λb a c=>by
  obtain⟨d,e⟩:=c
  subst d e
  cases b with
  |true=>rw[Qhq rfl];exact h
  |false=>rw[Quq (by decide)];exact⟨rfl,rfl⟩)
def Lc{f g:iY}{p q:Bool}(i:E f Γ S λb a=>a=S/\b=p)(h:E g Γ S λb a=>a=S/\b=q):E (Eu f g) Γ S λb a=>a=S/\b=(p||q):=
 wV (i.mono λb a c=>by
  obtain⟨d,e⟩:=c
  subst d e
  cases b with
  |true=>rw[Qhq rfl];exact⟨rfl,rfl⟩
  |false=>rw[Quq (by decide)];exact h)
def iy{c:iY}{f:cY}{Q:Out->Prop}{b:Bool}(j:E c Γ S λx d=>d=S/\x=b)(i:b=true->T f Γ S Q)(a:b=false->Q (.nx Γ S)):T (eO c f eT) Γ S Q:=
 dZ (j.mono λx d e=>by
  obtain⟨g,h⟩:=e
  subst g h
  exact bc (λz=>i z) (λz=>cq (a z)))
end
def lZ{α:Type}{f:α->D}{l:List α}(h:(!(l.map f).isEmpty)=true):0<l.length:=by
 cases l with
 |nil=>cases h
 |cons a r=>simp
end DL
namespace W28
open PySem PySem.Spec L2 DL
def ops:List Str:= ["plus","minus","less","same","both"]
inductive Tr where
 |num (n:Nat)|word (x:Str)|waits (b:Str)|no (t:Tr)|two (o:Str) (a b:Tr)
def Tr.d:Tr->D
 |.num n=>.int n
 |.word x=>.str x
 |.waits b=>.tup [.str "waits",.str b]
 |.no t=>.tup [.str "not",t.d]
 |.two o a b=>.tup [.str o,a.d,b.d]
def Tr.Ok(ws bs:List Str):Tr->Prop
 |.num n=>n<=9
 |.word x=>x∈ws
 |.waits b=>b∈bs
 |.no t=>t.Ok ws bs
 |.two o a b=>o∈ops/\a.Ok ws bs/\b.Ok ws bs
def Tr.dep:Tr->Nat
 |.num _=>1
 |.word _=>1
 |.waits _=>1
 |.no t=>t.dep+1
 |.two _ a b=>max a.dep b.dep+1
theorem Tr.low:∀t:Tr,b_ 0 t.d=true
 |.num _=>rfl
 |.word _=>rfl
 |.waits _=>rfl
 |.no t=>by simp only[Tr.d,b_,bJ];rw[t.low];rfl
 |.two _ a b=>by simp only[Tr.d,b_,bJ];rw[a.low,b.low];rfl
def Tr.noref(t:Tr):∀k,t.d≠.ref k:=by
 intro k
 cases t <;>simp[Tr.d]
theorem zm:∀(n:Nat) {S S0:aG} {k i j:Nat} {ws bs:List Str} {deep:Nat} {Q:Res->aG->Prop} (x:Ex k S0 S) (hi:i≠k) (G:j≠k) (N:S[i]?=some (.lst (ws.map D.str))) (X:S[j]?=some (.lst (bs.map D.str))) (K:ws.length<1000) (Y:bs.length<1000) (U:deep<n)
  (h:∀(t:Tr) (f:aG),t.Ok ws bs->t.dep<=deep+1->Ex k S0 f->Ex k S f->f.length=S.length->Q (.d t.d) f),Fn (aZ n) [.ref k,.ref i,.ref j,.int deep] S Q
 |0,_,_,_,_,_,_,_,_,_,_,_,_,_,_,_,_,U,_=>absurd U (Nat.not_lt_zero _)
 | n+1,S,S0,k,i,j,ws,bs,deep,Q,x,hi,G,N,X,K,Y,U,h=>by
   have y:Ex k S S:=by obtain⟨a,b,c,hh⟩:=x.pot;exact Ex.refl hh
   have g:∀(t:Tr) (f:aG),t.Ok ws bs->t.dep<=deep+1->Ex k S f->Op (settle S t.d f) λp=>Q p.1 p.2:=λt f L h2 e=>q_ e x.lt t.noref (eR t.low) λa b c=>h _ _ L h2 x.set y.set (by simp)
   have go:∀{R:Res->aG->Prop} {H:aG},Ex k S H->1<=deep->(∀(t:Tr) (f:aG),t.Ok ws bs->t.dep<=deep->Ex k S f->R (.d t.d) f)->Fn (aZ n) [.ref k,.ref i,.ref j,.int ((deep:Int)-1)] H R:=by
     intro R H r hd hR
     have e:((deep:Int)-1)=((deep-1:Nat):Int):=by omega
     rw[e]
     exact zm n r hi G (r.keep _ _ hi N) (r.keep _ _ G X) K Y (by omega) λt f L h2 h3 _ _=>hR t f L (by omega) h3
   refine bN ?_
   unfold iU
   symm
   refine bE y (by decide) (by decide) λl S1 a1 q _ l1=> ?_
   have s:=q.keep _ _ hi N
   have C:=q.keep _ _ G X
   refine aK (iy (Lc (zL (w:=(deep:Int)) rfl) (Bs (w:=(l:Int)) rfl)) (λ_=> ?_) λu=> ?_)
   · refine aK (iy (rj (y_ rfl s) (JJ (w:=(l:Int)) rfl)) (λM=> ?_) λ_=> ?_)
     · have m:=lZ (QCq _ _▸M).1
       refine dX (iR rfl rfl q hi s (by rw[lQm];exact m) (by rw[lQm];exact K) λv S4 J A _ l4=> ?_)
       obtain⟨z,P,rfl⟩:=Qkq.mp J
       exact g (.word z) _ P (by show 1<=deep+1;omega) A
     · symm
       refine bE q (by decide) (by decide) λv S3 J Z _ l3=> ?_
       exact g (.num v) _ (by show v<=9;omega) (by show 1<=deep+1;omega) Z
   have F:1<=deep:=by
     rw[Bool.or_eq_false_iff] at u
     have:=QaQ u.1
     omega
   refine aK (iy (rj (y_ rfl C) (zL (w:=(l:Int)) rfl)) (λM=> ?_) λ_=> ?_)
   · have m:=lZ (QCq _ _▸M).1
     refine dX (cv (aw (dB (aw (iR rfl rfl q G C (by rw[lQm];exact m) (by rw[lQm];exact Y) λv S4 J A _ l4=>aP ⟨by show 2<=_;decide,?_⟩)))))
     obtain⟨z,P,rfl⟩:=Qkq.mp J
     exact g (.waits z) _ P (by show 1<=deep+1;omega) A
   symm
   refine go q F λI H B a3 r=> ?_
   refine aK (iy (zL (w:=(l:Int)) rfl) (λ_=> ?_) λ_=> ?_)
   · symm
     refine⟨by show 2<=_;decide,?_⟩
     exact g (.no I) _ B (by show I.dep+1<=deep+1;omega) r
   refine aK (cx (dG (n:=5) (xs:=ops.map D.str) rfl r (by decide) (by decide) rfl (by symm;exact⟨rfl,rfl⟩) λd S3 hd Z _ l3=> ?_))
   obtain⟨o,ho,rfl⟩:=Qkq.mp hd
   symm
   apply go Z F λt2 S4 W a2 A=> ?_
   refine⟨by show 3<=_;decide,?_⟩
   exact g (.two o I t2) _ ⟨ho,B,W⟩ (by show max I.dep t2.dep+1<=deep+1;omega) A
inductive Rw where
 |put (x:Str) (t:Tr)|unl (t:Tr) (n:Nat)|go (n:Nat)|do_ (g:Option Str) (r d:Str) (t:Tr)|wait (b:Str) (t:Tr)|call (b:Str)|all (b:Str)|tell (t:Tr)
 |take (p:Str)|give (p:Str)|pass (p q:Str)|say (t:Tr)
def Cf:Option Str->D
 |none=>.non
 |some x=>.str x
def Rw.d:Rw->D
 |.put x t=>.tup [.str "put",.str x,t.d]
 |.unl t n=>.tup [.str "unless",t.d,.int n]
 |.go n=>.tup [.str "go",.int n]
 |.do_ g r d t=>.tup [.str "do",Cf g,.str r,.str d,t.d]
 |.wait b t=>.tup [.str "wait",.str b,t.d]
 |.call b=>.tup [.str "call",.str b]
 |.all b=>.tup [.str "all",.str b]
 |.tell t=>.tup [.str "tell",t.d]
 |.take p=>.tup [.str "take",.str p]
 |.give p=>.tup [.str "give",.str p]
 |.pass p q=>.tup [.str "pass",.str p,.str q]
 |.say t=>.tup [.str "say",t.d]
structure Sc where
 own:Bool
 ws:List Str
 ps:List Str
 bs:List Str
 gs:List (Str×Str)
 ts:List Str
def EK(a:Sc)(t:Tr):Prop:=t.Ok a.ws a.bs/\t.dep<=4
def Rw.Ok(a:Sc)(n:Nat):Rw->Prop
 |.put x t=>x∈a.ps/\EK a t
 |.unl t m=>EK a t/\m<=n
 |.go m=>m<=n
 |.do_ g r d t=>(∀x,g=some x->x∈a.ps)/\(r,d)∈a.gs/\EK a t
 |.wait b t=>a.own=false/\b∈a.bs/\EK a t
 |.call b=>a.own=false/\b∈a.bs
 |.all b=>a.own=false/\b∈a.bs
 |.tell t=>a.own=false/\EK a t
 |.take p=>a.own=true/\p∈a.ts
 |.give p=>a.own=true/\p∈a.ts
 |.pass p q=>a.own=true/\p∈a.ts/\q∈a.ts
 |.say t=>a.own=true/\EK a t
theorem Rw.low(r:Rw):b_ 0 r.d=true:=by
 cases r with
 |do_ g r d t=>cases g <;>simp only[Rw.d,b_,bJ,Cf,t.low,Bool.and_true,Bool.true_and]
 |_=>simp only[Rw.d,b_,bJ,Tr.low,Bool.and_true,Bool.true_and]
def xT(a:Sc)(rs:List Rw):Prop:=∀r∈rs,r.Ok a rs.length
def cf(g:Str×Str):D:=.tup [.str g.1,.str g.2]
theorem kj:∀a:List Str,ip (a.map D.str)=some (a.map V.str)
 | []=>rfl
 |s::a=>by simp only[QDq,ip];rw[kj a];rfl
def Gp{d:cD}{S:aG}{a:Bool}{f g:eN}{Q:D->aG->Prop}(h:E f d S λp e=>E g d e λr S2=>(p.2.isL=true/\r.2.isL=true/\p.2.stays S2 p.1)/\∃b vs,ip p.1=some b/\ip r.1=some vs/\Q (.bl (if a then !An b vs else An b vs)) S2):E (eqQ a f g) d S Q:=by
 obtain⟨p,e,i,r,S2,k,c,b,vs,l,j,q⟩:=h
 exact⟨_,S2,by unfold eqQ;rw[i];simp only[Qbq];rw[k];simp only[Qbq];rw[Qhq c,l];simp only[Qbq];rw[j];rfl,q⟩
def F5{c:cD}{S:aG}{v i:Nat}{a:List Str}(e:c[v]?=some (some (.ref i)))(d:S[i]?=some (.lst (a.map D.str))):E (aL (eqQ false (aS (au v)) (fM (bp av)))) c S λb f=>f=S/\b=a.isEmpty:=
 cz (Gp (cK (aC e (bS d (kb (dv (aP ⟨by show 0<=_;decide,⟨rfl,rfl,d⟩,_,_,kj a,rfl,rfl,by cases a <;>rfl⟩)))))))
def cT:List Str:= ["given"]
def Dw{l:cD}{S S0:aG}{k v i:Nat}{e:List Str}{Q:D->aG->Prop}(B:l[0]?=some (some (.ref k)))(p:l[v]?=some (some (.ref i)))(x:Ex k S0 S)(hi:i≠k)(m:S[i]?=some (.lst (e.map D.str)))(F:e.length<900)
  (h:∀(g:Option Str) (f:aG),(∀z,g=some z->z∈e)->Ex k S0 f->Ex k S f->f.length=S.length+1->Q (Cf g) f):
  E (a0 iQ (bB (vy (aS (au v)) (fM (bp (aq (cF .non) av))))) (aA ay (aq (au 0) (aq (a0 bL (eM (aS (au v))) (cF (.int 1))) av)))) l S Q:=by
 refine bX (dQ (Di (cK (aC p (bS m (kb (dv (aw (dB (aP ⟨by show 1<=_;decide,⟨rfl,rfl,m,nQl (aQ (by rw[lQm];show e.length+1<=1000;omega))⟩,?_⟩))))))))))
 refine cA (aw (aC B (aw (bX (uj (cK (aC p (bS (bq m) (dB (i3 (aP ?_)))))))))))
 have C:=x.lt
 refine bE (x.app (G:= [O.lst (e.map D.str++ [.non])])) (by rw[lQm];omega) (by rw[lQm];omega) λd f s A q o=> ?_
 rw[lQm] at s
 have y:Ex k S S:=by obtain⟨a,b,c,w⟩:=x.pot;exact Ex.refl w
 have j:∀g:Option Str,(∀z,g=some z->z∈e)->(e.map D.str++ [D.non])[d]?=some (Cf g)->Op (iQ f (.ref S.length) (.int d)) λr=>Q r f:=λg t u=>
  cM (q.keep _ _ (by omega) a_) (aM u) (h g f t A (y.app.trans q) (by rw[o];simp))
 by_cases c:d<e.length
 ·exact j (some e[d]) (λz n=>by cases n;exact List.getElem_mem c) (by rw[QHq (by simpa using c),gQm,gQe c];rfl)
 ·have:d=e.length:=by omega
  exact j none (λz n=>(nomatch n)) (by rw[QQq (by simp;omega),this];simp;rfl)
def yk{S S0:aG}{k th bl J row f:Nat}{ths kI:List Str}{gs:List (Str×Str)}{mn:Str}{Q:Res->aG->Prop}(x:Ex k S0 S)(h1:th≠k)(h2:bl≠k)(h3:J≠k)
  (ht:S[th]?=some (.lst (ths.map D.str))) (hb:S[bl]?=some (.lst (kI.map D.str))) (hg:S[J]?=some (.lst (gs.map cf))) (l1:ths.length<900) (l2:kI.length<900) (l3:gs.length<900) (hr:row<f) (hs:f<1000)
  (h:∀(r:Rw) (s:aG),r.Ok ⟨false,ths++cT,ths,kI,gs,[]⟩ f->Ex k S0 s->Ex k S s->s.length=S.length->Q (.d r.d) s):
  Fn eG [.ref k,.tup [.ref th,.ref bl,.str mn],.tup [.int row,.int f],.ref J] S Q:=by
 have y:Ex k S S:=by obtain⟨a,b,c,hh⟩:=x.pot;exact Ex.refl hh
 have kl:=x.lt
 have A:∀(r:Rw) (s:aG),r.Ok ⟨false,ths++cT,ths,kI,gs,[]⟩ f->Ex k S s->Op (settle S r.d s) λp=>Q p.1 p.2:=λr s h1 e=>q_ e kl (λk z=>by cases r <;>cases z) (eR r.low) λa b c=>h _ _ h1 x.set y.set (by simp)
 refine bN ?_
 unfold g9
 symm
 refine dP rfl (aB (aW (aB (aW (aB (aW (bf ?_)))))))
 refine aK (cx (dQ (Di (cK (aC rfl (bS ht (kb (dv (aw (dB (aP ⟨by show 1<=_;decide,⟨rfl,rfl,ht,nQl (aQ (by rw[lQm];show ths.length+1<=1000;omega))⟩,?_⟩)))))))))))
 have en:ths.map D.str++ [D.str "given"]=(ths++cT).map D.str:=by rw[Qzq];rfl
 rw[en]
 have U:(S++ [O.lst ((ths++cT).map D.str)])[S.length]?=some (.lst ((ths++cT).map D.str)):=a_
 have a2:(S++ [O.lst ((ths++cT).map D.str)])[th]?=some (.lst (ths.map D.str)):=bq ht
 have a1:(S++ [O.lst ((ths++cT).map D.str)])[bl]?=some (.lst (kI.map D.str)):=bq hb
 have a4:(S++ [O.lst ((ths++cT).map D.str)])[J]?=some (.lst (gs.map cf)):=bq hg
 have e1:Ex k S (S++ [O.lst ((ths++cT).map D.str)]):=y.app
 have nk:S.length≠k:=by omega
 generalize (S++ [O.lst ((ths++cT).map D.str)])=S1 at U a2 a1 a4 e1⊢
 generalize S.length=nl at U nk⊢
 have ln:(ths++cT).length<1000:=by rw[lQa];show ths.length+1<1000;omega
 symm
 refine bE e1 (by decide) (by decide) λF S2 b2 L N b3=> ?_
 have a7:=N.keep _ _ nk U
 have W:=N.keep _ _ h1 a2
 have C:=N.keep _ _ h2 a1
 have a3:=N.keep _ _ h3 a4
 have H:∀{deep:Nat} {R:Res->aG->Prop} {P:aG},deep<=2->Ex k S P->Ex k S2 P->(∀(t:Tr) (s:aG),EK ⟨false,ths++cT,ths,kI,gs,[]⟩ t->Ex k S s->Ex k P s->R (.d t.d) s)->Fn (aZ 3) [.ref k,.ref nl,.ref bl,.int deep] P R:=λ{deep R P} hd Y q hR=>
  zm 3 Y nk h2 (q.keep _ _ nk a7) (q.keep _ _ h2 C) ln (by omega) (by omega) λt s ok dp B o _=>hR t s ⟨ok,by omega⟩ B o
 have y2:Ex k S2 S2:=by obtain⟨a,b,c,hh⟩:=L.pot;exact Ex.refl hh
 have X:∀{Γ:cD} {R:D->aG->Prop},Γ[0]?=some (some (.ref k))->Γ[5]?=some (some (.ref bl))->0<kI.length->(∀(z:Str) (s:aG),z∈kI->Ex k S s->Ex k S2 s->R (.str z) s)->E (a0 iQ (au 5) (aA ay (aq (au 0) (aq (eM (aS (au 5))) av)))) Γ S2 R:=λg0 g5 i hR=>
  iR g0 g5 L h2 C (by rw[lQm];exact i) (by rw[lQm];omega) λv Z K B o _=>by
   obtain⟨z,M,rfl⟩:=Qkq.mp K
   exact hR z Z M B o
 refine aK (iy (rj (Bs (w:=(F:Int)) rfl) (y_ rfl C)) (λI=> ?_) λ_=> ?_)
 ·have i:=lZ (QCq _ _▸I).2
  apply dX (cv (aw (dB (aw (X rfl rfl i λz P M Y q=>aw (cA ?_))))))
  apply H (deep:=1) (by decide) Y q λt Z j B _=> ?_
  refine⟨by show 3<=_;decide,?_⟩
  exact A (.wait z t) _ ⟨rfl,M,j⟩ B
 refine aK (iy (rj (Bs (w:=(F:Int)) rfl) (y_ rfl C)) (λI=> ?_) λ_=> ?_)
 ·have i:=lZ (QCq _ _▸I).2
  symm
  refine⟨by show 2<=_;decide,?_⟩
  symm
  apply gF ?_
  obtain⟨z,M,c,a5,b0⟩:∃z:Str,(z="call" \/z="all")/\∃c:Int,intOfD [.bl (decide (mn="when free"))]=some (.int c)/\kh ([.str "call",.str "all"]:List D) c=some (.str z):=by
   by_cases c:mn="when free"
   ·exact⟨"all",.inr rfl,1,by rw[Qeq c];rfl,rfl⟩
   ·exact⟨"call",.inl rfl,0,by rw[Qdq c];rfl,rfl⟩
  refine⟨_,a5,?_⟩
  apply cM a_ b0 ?_
  refine⟨by show 2<=_;decide,?_⟩
  symm
  have b4:=L.lt
  refine bE ((L.app (G:= [O.lst [.str "call",.str "all"]])).app (G:= [O.lst [.str "call",.str z]])) (by decide) (by decide) λv P K Y q l3=> ?_
  dsimp only
  obtain⟨u,hu,ha⟩:∃u:Str,(u="call" \/u="all")/\kh ([.str "call",.str z]:List D) (v:Int)=some (.str u):=by
   rcases(by omega:v=0\/v=1) with rfl|rfl
   ·exact⟨"call",.inl rfl,rfl⟩
   ·exact⟨z,M,rfl⟩
  refine cM (q.keep _ _ (by simp;omega) a_) ha ?_
  have a6:=q.keep _ _ h2 (bq (bq C))
  refine dX (cv (aw (aC rfl (aw (iR rfl rfl Y h2 a6 (by rw[lQm];exact i) (by rw[lQm];omega) λv Z K B o _=>aP ⟨by show 2<=_;decide,?_⟩)))))
  obtain⟨b,hb,rfl⟩:=Qkq.mp K
  rcases hu with rfl|rfl
  ·exact A (.call b) _ ⟨rfl,hb⟩ B
  ·exact A (.all b) _ ⟨rfl,hb⟩ B
 refine aK (iy (rj (Bs (w:=(F:Int)) rfl) (y_ rfl a3)) (λI=> ?_) λ_=> ?_)
 ·have i:=lZ (QCq _ _▸I).2
  refine aK (Ft (iR rfl rfl L h3 a3 (by rw[lQm];exact i) (by rw[lQm];omega) λv Z K B o _=> ?_))
  obtain⟨z,M,rfl⟩:=Qkq.mp K
  refine dP rfl (aB (aW (aB (aW (bf ?_)))))
  apply aK (cx (Dw rfl rfl B h1 (o.keep _ _ h1 W) l1 λg S5 a9 e5 b1 _=> ?_))
  apply H (deep:=1) (by decide) e5 (o.trans b1) λt S6 j e6 _=> ?_
  refine⟨by show 5<=_;decide,?_⟩
  exact A (.do_ g z.1 z.2 t) _ ⟨a9,M,j⟩ e6
 refine aK (iy (zL (w:=(F:Int)) rfl) (λI=> ?_) λ_=> ?_)
 ·symm
  apply H (deep:=1) (by decide) L y2 λt S6 j e6 _=> ?_
  refine⟨by show 2<=_;decide,?_⟩
  exact A (.tell t) _ ⟨rfl,j⟩ e6
 refine aK (iy (zL (w:=(F:Int)) rfl) (λI=> ?_) λ_=> ?_)
 ·symm
  apply ax rfl ?_
  apply ax rfl ?_
  apply ax rfl ?_
  rw[show(f:Int)-(row:Int)=((f-row:Nat):Int) by omega]
  apply bE L (by omega) (by omega) λv P K Y q _=> ?_
  rw[show(row:Int)+1+(v:Int)=((row+1+v:Nat):Int) by omega]
  refine H (deep:=2) (by decide) Y q λt Z j B _=> ?_
  refine aw (dG (n:=3) (xs:= [.int (row+1+v:Nat),.int (row+1+v:Nat),.int 0]) rfl B (by decide) (by decide) rfl (by symm;exact⟨rfl,rfl⟩) λd S5 hd e5 _ _=> ?_)
  obtain⟨m,hm,rfl⟩:∃m:Nat,m<=f/\d=.int m:=by
   simp only[Qsq,QXq,or_false] at hd
   rcases hd with rfl|rfl|rfl
   ·exact⟨row+1+v,by omega,rfl⟩
   ·exact⟨row+1+v,by omega,rfl⟩
   ·exact⟨0,by omega,rfl⟩
  symm
  refine⟨by show 3<=_;decide,?_⟩
  exact A (.unl t m) _ ⟨j,hm⟩ e5
 refine aK (iy (F5 rfl W) (λI=> ?_) λI=> ?_)
 ·symm
  refine⟨by show 2<=_;decide,?_⟩
  exact A (.tell (.word "given")) _ ⟨rfl,by show _∈ths++cT;simp[cT],by show 1<=4;decide⟩ L
 have i:0<ths.length:=by
  cases ths with
  |nil=>cases I
  |cons a l=>simp
 refine dX (cv (aw (dB (aw (iR rfl rfl L h1 W (by rw[lQm];exact i) (by rw[lQm];omega) λv Z K B o _=>aw (cA ?_))))))
 obtain⟨z,M,rfl⟩:=Qkq.mp K
 symm
 apply H (deep:=2) (by decide) B o λt S5 j e5 _=> ?_
 refine⟨by show 3<=_;decide,?_⟩
 exact A (.put z t) _ ⟨M,j⟩ e5
def wU{S S0:aG}{k ow pa de row f:Nat}{i J:List Str}{gs:List (Str×Str)}{Q:Res->aG->Prop}(x:Ex k S0 S)(K:ow≠k)(h2:pa≠k)(h3:de≠k)
  (ho:S[ow]?=some (.lst (i.map D.str))) (hp:S[pa]?=some (.lst (J.map D.str))) (hg:S[de]?=some (.lst (gs.map cf))) (l1:i.length<900) (l2:J.length<900) (l3:gs.length<900) (hr:row<f) (hs:f<1000)
  (h:∀(r:Rw) (s:aG),r.Ok ⟨true,i,i,[],gs,J⟩ f->Ex k S0 s->Ex k S s->s.length=S.length->Q (.d r.d) s):
  Fn ee [.ref k,.ref ow,.ref pa,.tup [.int row,.int f],.ref de] S Q:=by
 have y:Ex k S S:=by obtain⟨a,b,c,hh⟩:=x.pot;exact Ex.refl hh
 have kl:=x.lt
 have A:∀(r:Rw) (s:aG),r.Ok ⟨true,i,i,[],gs,J⟩ f->Ex k S s->Op (settle S r.d s) λp=>Q p.1 p.2:=λr s K e=>q_ e kl (λk z=>by cases r <;>cases z) (eR r.low) λa b c=>h _ _ K x.set y.set (by simp)
 refine bN ?_
 unfold kg
 symm
 refine bE y (by decide) (by decide) λM S2 b1 e2 a2 b3=> ?_
 have L:=a2.keep _ _ K ho
 have a1:=a2.keep _ _ h2 hp
 have a4:=a2.keep _ _ h3 hg
 have y2:Ex k S2 S2:=by obtain⟨a,b,c,hh⟩:=e2.pot;exact Ex.refl hh
 have N:∀{deep:Nat} {R:Res->aG->Prop} {W:aG},deep<=2->Ex k S W->Ex k S2 W->(∀(t:Tr) (s:aG),EK ⟨true,i,i,[],gs,J⟩ t->Ex k S s->Ex k W s->R (.d t.d) s)->Fn (aZ 3) [.ref k,.ref ow,.ref W.length,.int deep] (W++ [O.lst []]) R:=λ{deep R W} U Y F hR=>by
  have y3:Ex k W W:=by obtain⟨a,b,c,hh⟩:=Y.pot;exact Ex.refl hh
  have l3:=Y.lt
  exact zm (bs:= []) 3 Y.app K (by omega) (bq (F.keep _ _ K L)) a_ (by omega) (by decide) (by omega) λt s ok dp H j _=>hR t s ⟨ok,by omega⟩ H (y3.app.trans j)
 refine aK (iy (rj (Bs (w:=(M:Int)) rfl) (y_ rfl a4)) (λX=> ?_) λ_=> ?_)
 ·have u:=lZ (QCq _ _▸X).2
  refine aK (Ft (iR rfl rfl e2 h3 a4 (by rw[lQm];exact u) (by rw[lQm];omega) λv I hv H j _=> ?_))
  obtain⟨z,hz,rfl⟩:=Qkq.mp hv
  refine dP rfl (aB (aW (aB (aW (bf ?_)))))
  apply aK (cx (Dw rfl rfl H K (j.keep _ _ K L) l1 λg S5 a6 G C _=> ?_))
  refine⟨by show 0<=_;decide,?_⟩
  symm
  apply N (deep:=1) (by decide) G (j.trans C) λt S6 B Z _=> ?_
  refine⟨by show 5<=_;decide,?_⟩
  exact A (.do_ g z.1 z.2 t) _ ⟨a6,hz,B⟩ Z
 refine aK (iy (rj (Bs (w:=(M:Int)) rfl) (y_ rfl a1)) (λX=> ?_) λ_=> ?_)
 ·have u:=lZ (QCq _ _▸X).2
  refine aK (F7 (aw (iR rfl rfl e2 h2 a1 (by rw[lQm];exact u) (by rw[lQm];omega) λv I hv H j _=>aw (iR rfl rfl H h2 (j.keep _ _ h2 a1) (by rw[lQm];exact u) (by rw[lQm];omega) λv' S5 b0 G C _=>aP ⟨_,_,rfl,?_⟩))))
  obtain⟨z,hz,rfl⟩:=Qkq.mp hv
  obtain⟨z',a9,rfl⟩:=Qkq.mp b0
  refine dX (dG (n:=3) (xs:= [(Rw.take z).d,(Rw.give z).d,(Rw.pass z z').d]) rfl G (by decide) (by decide) rfl ?_ λd S6 U Z _ _=> ?_)
  ·symm
   refine⟨by show 2<=_;decide,?_⟩
   symm
   refine⟨by show 2<=_;decide,?_⟩
   symm
   refine⟨by show 3<=_;decide,?_⟩
   symm
   exact⟨rfl,rfl⟩
  ·simp only[Qsq,QXq,or_false] at U
   rcases U with rfl|rfl|rfl
   ·exact A (.take z) _ ⟨rfl,hz⟩ Z
   ·exact A (.give z) _ ⟨rfl,hz⟩ Z
   ·exact A (.pass z z') _ ⟨rfl,hz,a9⟩ Z
 symm
 apply ax rfl ?_
 apply ax rfl ?_
 apply ax rfl ?_
 rw[show(f:Int)-(row:Int)=((f-row:Nat):Int) by omega]
 refine bE e2 (by omega) (by omega) λv W hv Y F b5=> ?_
 refine i3 ?_
 rw[show(row:Int)+1+(v:Int)=((row+1+v:Nat):Int) by omega]
 have b2:row+1+v<=f:=by omega
 have a5:=F.keep _ _ K L
 refine aK (iy (zL (w:=(M:Int)) rfl) (λX=> ?_) λ_=> ?_)
 ·symm
  refine⟨by show 0<=_;decide,?_⟩
  symm
  refine N (deep:=2) (by decide) Y F λt I B H _=> ?_
  refine aw (dG (n:=3) (xs:= [.int (row+1+v:Nat),.int (row+1+v:Nat),.int 0]) rfl H (by decide) (by decide) rfl (by symm;exact⟨rfl,rfl⟩) λd S5 U G _ _=> ?_)
  obtain⟨m,hm,rfl⟩:∃m:Nat,m<=f/\d=.int m:=by
   simp only[Qsq,QXq,or_false] at U
   rcases U with rfl|rfl|rfl
   ·exact⟨row+1+v,by omega,rfl⟩
   ·exact⟨row+1+v,by omega,rfl⟩
   ·exact⟨0,by omega,rfl⟩
  symm
  refine⟨by show 3<=_;decide,?_⟩
  exact A (.unl t m) _ ⟨B,hm⟩ G
 refine aK (iy (zL (w:=(M:Int)) rfl) (λX=> ?_) λ_=> ?_)
 ·refine dX (cv (aw (dB (aw (dG (n:=2) (xs:= [.int (row+1+v:Nat),.int 0]) rfl Y (by decide) (by decide) rfl (by symm;exact⟨rfl,rfl⟩) λd S5 U G _ _=>aP ⟨by show 2<=_;decide,?_⟩)))))
  obtain⟨m,hm,rfl⟩:∃m:Nat,m<=f/\d=.int m:=by
   simp only[Qsq,QXq,or_false] at U
   rcases U with rfl|rfl
   ·exact⟨row+1+v,by omega,rfl⟩
   ·exact⟨0,by omega,rfl⟩
  exact A (.go m) _ hm G
 have a3:∀{I:aG} {P:cD},Ex k S I->Ex k S2 I->P[0]?=some (some (.ref k))->P[1]?=some (some (.ref ow))->T (cu (aR (aq (cF (.str "say")) (aq (aA (aZ 3) (aq (au 0) (aq (au 1) (aq (bB (bp av)) (aq (cF (.int 1)) av))))) av)))) P I λo=>∃d s,o=.rt d s/\Op (settle S d s) λp=>Q p.1 p.2:=λ{I P} H j g0 g1=>by
  refine dX (cv (aw (dB (aw (cA (aw (aC g0 (aw (aC g1 (aw (dQ (dv (aP ⟨by show 0<=_;decide,aw (dB (aP ?_))⟩)))))))))))))
  refine N (deep:=1) (by decide) H j λt S5 B G _=> ?_
  refine aP ⟨by show 2<=_;decide,_,_,rfl,?_⟩
  exact A (.say t) _ ⟨rfl,B⟩ G
 have a7:∀{I:aG} {P:cD},0<i.length->Ex k S I->Ex k S2 I->P[0]?=some (some (.ref k))->P[1]?=some (some (.ref ow))->T (cu (aR (aq (cF (.str "put")) (aq (a0 iQ (au 1) (aA ay (aq (au 0) (aq (eM (aS (au 1))) av)))) (aq (aA (aZ 3) (aq (au 0) (aq (au 1) (aq (bB (bp av)) (aq (cF (.int 2)) av))))) av))))) P I λo=>∃d s,o=.rt d s/\Op (settle S d s) λp=>Q p.1 p.2:=λ{I P} u H j g0 g1=>by
  refine dX (cv (aw (dB (aw (iR g0 g1 H K (j.keep _ _ K L) (by rw[lQm];exact u) (by rw[lQm];omega) λv S5 hv G C _=>aw (cA (aw (aC g0 (aw (aC g1 (aw (dQ (dv (aP ⟨by show 0<=_;decide,aw (dB (aP ?_))⟩))))))))))))))
  obtain⟨z,hz,rfl⟩:=Qkq.mp hv
  refine N (deep:=2) (by decide) G (j.trans C) λt S6 B Z _=> ?_
  refine aP ⟨by show 3<=_;decide,_,_,rfl,?_⟩
  exact A (.put z t) _ ⟨hz,B⟩ Z
 refine aK (dZ (wV ((F5 rfl a5).mono λb I qr=> ?_)))
 obtain⟨H,eb⟩:=qr
 subst H eb
 refine bc (λX=> ?_) (λX=> ?_)
 ·rw[Qhq rfl]
  refine(a3 Y F rfl rfl).mono λo ⟨d,s,e,q⟩=>by subst e;exact q
 ·have u:0<i.length:=by
   cases i with
   |nil=>cases X
   |cons a l=>simp
  symm
  apply bE Y (by decide) (by decide) λw S5 hw G C b4=> ?_
  refine dW ?_
  refine bc (λ_=> ?_) (λ_=>cq ?_)
  ·refine(a3 G (F.trans C) rfl rfl).mono λo ⟨d,s,e,q⟩=>by subst e;exact q
  ·refine(a7 u G (F.trans C) rfl rfl).mono λo ⟨d,s,e,q⟩=>by subst e;exact q
end W28
namespace DL
open PySem PySem.Spec L2
def K_{b a:cD}{d:D}(h:b.set 0 none=a.set 0 none):b.set 0 (some d)=a.set 0 (some d):=by
 have:=congrArg (λc:cD=>c.set 0 (some d)) h
 simpa using this
def G3{g:cD}{S:aG}{js:List (Option Nat)}{f:eN}{e:bx}{Q:List D->aG->Prop}(F:D->D)(h:E f g S λp c=>p.2.stays c p.1/\p.1.length<=1000/\(∀d∈p.1,E e ((mh js g).set 0 (some d)) c λy S2=>y=F d/\S2=c)/\Q (p.1.map F) c):
  E (bH js (kc f) (bG 0) bQ e) g S Q:=by
 refine gu (qd (h.mono λp c o=> ?_))
 obtain⟨r,hl,l,q⟩:=o
 refine⟨λn b i a=>i=c/\a=(p.1.take n).map F/\b.set 0 none=(mh js g).set 0 none,⟨rfl,rfl,rfl⟩,λn b i a h=>by rw[h.1];exact r,λn d b i a j h=> ?_,λb i a h=> ?_⟩
 ·obtain⟨rfl,rfl,h3⟩:=h
  refine aW (ic ?_)
  rw[Qhq rfl,K_ h3]
  refine(l d (mQg j)).mono λy S2 k=> ?_
  obtain⟨m,s⟩:=k
  subst m s
  have t:=(gQs.mp j).1
  refine⟨?_,rfl,?_,by simp⟩
  ·rw[lQm,Qxq]
   exact aQ (by omega)
  ·rw[QYq,j]
   simp
 ·obtain⟨rfl,rfl,_⟩:=h
  rw[QEq]
  exact q
def Jk{a:cD}{S:aG}{f:eN}{g:bx}{Q:List D->aG->Prop}(h:E f a S λp b=>E g a b λr S2=>∃n:Nat,r=.int n/\(p.2.isM=true/\p.2.stays S2 p.1/\p.1.length*n<=1000/\n<=1)/\Q ((List.replicate n p.1).flatten) S2):E (CG f g) a S Q:=by
 obtain⟨p,b,c,r,S2,d,n,rfl,⟨h1,h2,h3,h4⟩,q⟩:=h
 refine⟨_,S2,?_,q⟩
 unfold CG
 rw[c]
 simp only[Qbq]
 rw[d]
 simp only[Qbq]
 rw[Qhq ⟨h1,h2,by omega,by omega,by simpa using QAq h3 (by decide)⟩]
 simp
def cH{a:cD}{S:aG}{Q:Option Int->aG->Prop}(q:Q none S):E jz a S Q:=⟨_,_,rfl,q⟩
def cE{b:cD}{S:aG}{f:bx}{Q:Option Int->aG->Prop}(h:E f b S λd a=>∃i,d=.int i/\Q (some i) a):E (jj f) b S Q:=by
 obtain⟨d,a,c,i,rfl,q⟩:=h
 exact⟨_,a,by unfold jj;rw[c];rfl,q⟩
def Gk{a:cD}{S:aG}{f:eN}{lo hi:EF}{Q:List D->aG->Prop}(h:E f a S λp c=>E lo a c λl S2=>E hi a S2 λu b=>(p.2.isL=true/\p.2.stays b p.1)/\Q (fV p.1 l u) b):E (tP f lo hi) a S Q:=by
 obtain⟨p,c,d,l,S2,e,u,b,i,g,q⟩:=h
 exact⟨_,b,by unfold tP;rw[d];simp only[Qbq];rw[e];simp only[Qbq];rw[i];simp only[Qbq];rw[Qhq g],q⟩
def HK{α:Type}{xs:List α}{i:Nat}(h:i<=xs.length):fV xs (some (i:Int)) none=xs.drop i:=by
 unfold fV
 have a:HT.dF xs.length 0 (some (i:Int))=i:=by rw[HT.qk];omega
 have b:HT.dF xs.length xs.length none=xs.length:=rfl
 rw[a,b,List.take_of_length_le (by rw[List.length_drop];omega)]
def Ha{α:Type}{xs:List α}{i:Nat}:fV xs none (some (i:Int))=xs.take i:=by
 unfold fV
 have a:HT.dF xs.length 0 none=0:=rfl
 have b:HT.dF xs.length xs.length (some (i:Int))=min i xs.length:=HT.qk ..
 rw[a,b,List.drop_zero,Nat.sub_zero]
 by_cases c:i<=xs.length
 ·rw[Nat.min_eq_left c]
 ·rw[Nat.min_eq_right (by omega),QEq,List.take_of_length_le (by omega)]
def x_{b:cD}{S:aG}{v i:Nat}{ws:List Str}{f g:bx}{Q:List D->aG->Prop}(p:b[v]?=some (some (.ref i)))(o:S[i]?=some (.lst (ws.map D.str)))
  (h:E f b S λd e=>∃a:Nat,d=.int a/\a<=ws.length/\e[i]?=some (.lst (ws.map D.str))/\E g b e λj S2=>∃n:Nat,j=.int n/\Q (((ws.drop a).take n).map D.str) S2):
  E (tP (fM (tP (aS (au v)) (jj f) jz)) jz (jj g)) b S Q:=by
 refine Gk (kb (Gk (cK (aC p (bS o (cE (h.mono λd e ⟨a,m,l,c,k⟩=>⟨a,m,cH ⟨⟨rfl,c⟩,?_⟩⟩)))))))
 refine cH (cE (k.mono λj S2 ⟨n,r,q⟩=>⟨n,r,⟨rfl,trivial⟩,?_⟩))
 show Q (fV (fV (ws.map D.str) (some (a:Int)) none) none (some (n:Int))) S2
 rw[HK (by simpa using l),Ha,←List.map_drop,←List.map_take]
 exact q
end DL
namespace W28
open PySem PySem.Spec L2 DL
def lG(p:Str×Nat):D:=.tup [.str p.1,.int p.2]
def Es(p:Str×Str):D:=.tup [.str p.1,.str p.2]
def iw(p:Str×List Rw):D:=.tup [.str p.1,.tup (p.2.map Rw.d)]
def CC{q:cD}{S S0:aG}{k m:Nat}{it:sR}{Q:List D->aG->Prop}(P:List Str->Prop)(C:q.getD 0 none=some (.ref k))(M:0<m)(I:m<1000)
  (hi:E it q S λp l=>∃ws:List Str,P ws/\ws.length<=900/\p.1=ws.map D.str/\Ex k S0 l/\Ex k S l/\∀f,Ex k l f->p.2 f)
  (h:∀(ps:List (Str×Nat)) (f:aG),P (ps.map (·.1))->(∀p∈ps,p.2<m)->Ex k S0 f->Ex k S f->Q (ps.map lG) f):
  E (bH [none,some 0] it (bG 0) bQ (aR (aq (au 0) (aq (aA ay (aq (au 1) (aq (cF (.int m)) av))) av)))) q S Q:=by
 refine gu (hi.mono λp l A=> ?_)
 obtain⟨ws,G,hl,j,x,H,r⟩:=A
 have y:Ex k l l:=by obtain⟨a,b,c,B⟩:=x.pot;exact Ex.refl B
 refine⟨λn i f g=>∃(o:Option D) (ps:List (Str×Nat)),i= [o,some (.ref k)]/\Ex k S0 f/\Ex k l f/\ps.map (·.1)=ws.take n/\(∀p∈ps,p.2<m)/\g=ps.map lG,⟨none,[],by show [none,q.getD 0 none]=_;rw[C],x,y,rfl,λ_ h=>(nomatch h),rfl⟩,λn i f g ⟨_,_,_,_,e,_⟩=>r f e,?_,?_⟩
 ·rintro n d i f g t ⟨o,ps,rfl,e0,e1,h1,h2,rfl⟩
  rw[j,gQm] at t
  obtain⟨z,w,rfl⟩:=oQm.mp t
  have K:=(gQs.mp w).1
  refine aW (ic ?_)
  rw[Qhq rfl]
  symm
  apply bE e0 (by omega) (by omega) λv J L F s _=> ?_
  refine⟨by show 2<=_;decide,?_⟩
  have u:ps.length=n:=by
   have:=congrArg List.length h1
   rw[lQm,Qxq] at this
   omega
  refine⟨by rw[lQm];exact aQ (by omega),_,ps++ [(z,v)],rfl,F,e1.trans s,?_,λp j=> ?_,by simp[lG]⟩
  ·rw[Qzq,h1,QYq,w]
   rfl
  ·rcases mQa.mp j with j|j
   ·exact h2 p j
   ·rw[Qfq.mp j];show v<m;omega
 ·rintro i f g ⟨o,ps,rfl,e0,e1,h1,h2,rfl⟩
  rw[j,lQm,QEq] at h1
  exact h ps f (by rw[h1];exact G) h2 e0 (H.trans e1)
def Il{r:cD}{S S0:aG}{k j l:Nat}{ws:List Str}{Q:List D->aG->Prop}(x:Ex k S0 S)(J:r.getD 0 none=some (.ref k))(H:r[j]?=some (some (.ref l)))(hl:S[l]?=some (.lst (ws.map D.str)))(nl:l≠k)(u:ws.length<=900)
  (h:∀(ps:List (Str×Str)) (f:aG),ps.map (·.1)=ws->(∀p∈ps,p.2="row" \/p.2="turns")->Ex k S0 f->Ex k S f->Q (ps.map Es) f):
  E (bH [none,some 0] (kc (aS (au j))) (bG 0) bQ (aR (aq (au 0) (aq (a0 iQ (bB (bp (aq (cF (.str "row")) (aq (cF (.str "turns")) av)))) (aA ay (aq (au 1) (aq (cF (.int 2)) av)))) av)))) r S Q:=by
 have y:Ex k S S:=by obtain⟨a,b,c,B⟩:=x.pot;exact Ex.refl B
 refine gu (qd (cK (aC H (bS hl ?_))))
 refine⟨λn i f g=>∃(o:Option D) (ps:List (Str×Str)),i= [o,some (.ref k)]/\Ex k S0 f/\Ex k S f/\ps.map (·.1)=ws.take n/\(∀p∈ps,p.2="row" \/p.2="turns")/\g=ps.map Es,⟨none,[],by show [none,r.getD 0 none]=_;rw[J],x,y,rfl,λ_ h=>(nomatch h),rfl⟩,λn i f g ⟨_,_,_,_,e,_⟩=>e.keep _ _ nl hl,?_,?_⟩
 ·rintro n d i f g t ⟨o,ps,rfl,e0,e1,h1,h2,rfl⟩
  rw[gQm] at t
  obtain⟨z,w,rfl⟩:=oQm.mp t
  have M:=(gQs.mp w).1
  refine aW (ic ?_)
  rw[Qhq rfl]
  symm
  refine⟨by show 2<=_;decide,?_⟩
  symm
  have L:=e0.lt
  refine bE (e0.app (G:= [O.lst [.str "row",.str "turns"]])) (by decide) (by decide) λv K N I m _=> ?_
  dsimp only
  obtain⟨s,C,A⟩:∃s:Str,(s="row" \/s="turns")/\kh ([.str "row",.str "turns"]:List D) (v:Int)=some (.str s):=by
   rcases(by omega:v=0\/v=1) with rfl|rfl
   ·exact⟨"row",.inl rfl,rfl⟩
   ·exact⟨"turns",.inr rfl,rfl⟩
  apply cM (m.keep _ _ (by omega) a_) A ?_
  refine⟨by show 2<=_;decide,?_⟩
  have F:ps.length=n:=by
   have:=congrArg List.length h1
   rw[lQm,Qxq] at this
   omega
  refine⟨by rw[lQm];exact aQ (by omega),_,ps++ [(z,s)],rfl,I,e1.app.trans m,?_,λp q=> ?_,by simp[Es]⟩
  ·rw[Qzq,h1,QYq,w]
   rfl
  ·rcases mQa.mp q with q|q
   ·exact h2 p q
   ·rw[Qfq.mp q];exact C
 ·rintro i f g ⟨o,ps,rfl,e0,e1,h1,h2,rfl⟩
  exact h ps f (by rw[h1];simp) h2 e0 e1
def Rw.Ok.sub{a:Bool}{ws ps bs ts:List Str}{gs b:List (Str×Str)}{n:Nat}{r:Rw}(h:r.Ok ⟨a,ws,ps,bs,gs,ts⟩ n)(c:∀g∈gs,g∈b):r.Ok ⟨a,ws,ps,bs,b,ts⟩ n:=by
 cases r with
 |do_ g r d t=>exact⟨h.1,c _ h.2.1,h.2.2⟩
 |_=>exact h
def xT.sub{a:Bool}{ws ps bs ts:List Str}{gs b:List (Str×Str)}{rs:List Rw}(h:xT ⟨a,ws,ps,bs,gs,ts⟩ rs)(c:∀g∈gs,g∈b):xT ⟨a,ws,ps,bs,b,ts⟩ rs:=λr d=>(h r d).sub c
structure Rm where
 name:Str
 ah:Str
 ao:List (Str×Nat)
 aa:List (Str×Str)
 ae:List (Str×List Rw)
def Rm.d(r:Rm):D:=.tup [.str r.name,.str r.ah,.tup (r.ao.map lG),.tup (r.aa.map Es),.tup (r.ae.map iw)]
structure zP(gs:List (Str×Str))(r:Rm):Prop where
 mn:r.ah="at once" \/r.ah="when free"
 tv:∀p∈r.ao,p.2<=9
 l1:r.ao.length<=6
 l2:r.aa.length<=6
 l3:r.ae.length<=6
 bv:∀p∈r.aa,p.2="row" \/p.2="turns"
 pr:∀p∈r.ae,xT ⟨false,r.ao.map (·.1)++cT,r.ao.map (·.1),r.aa.map (·.1),gs,[]⟩ p.2/\p.2.length<=12
def DX(p:Str×List Rw):b_ 0 (iw p)=true:=by
 simp only[iw,b_,bJ,Bool.and_true,Bool.true_and]
 exact a8 λr _=>r.low
def Rm.low(r:Rm):b_ 0 r.d=true:=by
 simp only[Rm.d,b_,bJ,Bool.and_true,Bool.true_and,QCq]
 exact⟨a8 λ_ _=>rfl,a8 λ_ _=>rfl,a8 λp _=>DX p⟩
def bC(rs:List Rm):List (Str×Str):=rs.flatMap λr=>r.ae.map λp=>(r.name,p.1)
def zP.sub{gs a:List (Str×Str)}{r:Rm}(h:zP gs r)(c:∀g∈gs,g∈a):zP a r:={h with pr:=λp b=>⟨(h.pr p b).1.sub c,(h.pr p b).2⟩}
end W28
namespace DL
open PySem PySem.Spec L2
def C7{c:cD}{S:aG}{f:bx}{g:eN}{Q:D->aG->Prop}(h:E f c S λx b=>∃k a,x=.ref k/\b[k]?=some (.lst a)/\E g c b λp S2=>∃ds,S2[k]?=some (.lst ds)/\(p.2.isM=true/\ds.length+p.1.length<=sizeLine)/\Q .non (S2.set k (.lst (ds++p.1)))):E (xM f g) c S Q:=by
 obtain⟨x,b,d,k,a,rfl,h1,p,S2,e2,ds,h2,h3,q⟩:=h
 exact⟨_,_,by unfold xM;rw[d];simp only[Qbq,e2,h1,h2];rw[Qhq h3],q⟩
def sE{b:Bool}{Q:D->Prop}(q:Q (.int (if b then 1 else 0))):Op (intOfD [.bl b]) Q:=⟨_,rfl,q⟩
def dM{j:Nat}{n:Nat}{d:D}(h:(jo 0 (j:Int))[n]?=some d):d=.int n/\n<j:=by
 simp only[jo,gQm] at h
 obtain⟨i,c,rfl⟩:=oQm.mp h
 obtain⟨b,a⟩:=gQs.mp c
 simp at b a
 subst a
 exact⟨by simp,by omega⟩
def fB{j:Nat}:(jo 0 (j:Int)).length=j:=by simp only[jo,lQm,QVq];omega
end DL
namespace W28
open PySem PySem.Spec L2 DL
def fA(p:List (Str×Nat)×List Rw):D:=.tup [.tup (p.1.map lG),.tup (p.2.map Rw.d)]
structure cZ where
 aj:List Rm
 ai:List (Str×Nat)
 ak:List (Str×Nat)
 af:List (List (Str×Nat)×List Rw)
def cZ.d(w:cZ):D:=.tup [.tup (w.aj.map Rm.d),.tup (w.ai.map lG),.tup (w.ak.map lG),.tup (w.af.map fA)]
structure vw(gs:List (Str×Str))(ak ai:List Str)(h:List (Str×Nat)×List Rw):Prop where
 tv:∀p∈h.1,p.2<=9
 l1:h.1.length<=6
 l2:h.2.length<=9
 l0:0<h.2.length
 pr:xT ⟨true,h.1.map (·.1)++ak,h.1.map (·.1)++ak,[],gs,ai⟩ h.2
structure d0(w:cZ):Prop where
 nd:(w.aj.map (·.name)).Nodup
 l1:w.aj.length<=4
 l2:w.ai.length<=6
 l3:w.ak.length<=6
 l4:w.af.length<=4
 l0:0<w.af.length
 pv:∀p∈w.ai,p.2<=9
 sv:∀p∈w.ak,p.2<=9
 rm:∀r∈w.aj,zP (bC w.aj) r
 hd:∀h∈w.af,vw (bC w.aj) (w.ak.map (·.1)) (w.ai.map (·.1)) h
def Dt(p:List (Str×Nat)×List Rw):b_ 0 (fA p)=true:=by
 simp only[fA,b_,bJ,Bool.and_true,Bool.true_and,QCq]
 exact⟨a8 λ_ _=>rfl,a8 λr _=>r.low⟩
def cZ.low(w:cZ):b_ 0 w.d=true:=by
 simp only[cZ.d,b_,bJ,Bool.and_true,Bool.true_and,QCq]
 exact⟨a8 λr _=>r.low,a8 λ_ _=>rfl,a8 λ_ _=>rfl,a8 λp _=>Dt p⟩
def uP{rs:List Rm}(hd:∀r∈rs,r.ae.length<=6):(bC rs).length<=6*rs.length:=by
 induction rs with
 |nil=>simp[bC]
 | cons a l c=>
   have:=c λr b=>hd r (Qpq _ b)
   have:=hd a (QBq ..)
   simp only[bC,QSq,lQa,lQm,Qnq] at *
   omega
structure Fr(L:List Nat)(S S':aG):Prop where
 len:S.length<=S'.length
 keep:∀j o,j∉L->S[j]?=some o->S'[j]?=some o
def Fr.trans{L:List Nat}{S c S2:aG}(a:Fr L S c)(b:Fr L c S2):Fr L S S2:=⟨QAq a.len b.len,λj o h e=>b.keep j o h (a.keep j o h e)⟩
def Fr.mono{L M:List Nat}{S b:aG}(a:Fr L S b)(h:∀j∈L,j∈M):Fr M S b:=⟨a.len,λj o c e=>a.keep j o (λz=>c (h j z)) e⟩
def Fr.ex{k:Nat}{L:List Nat}{S b:aG}(a:Ex k S b)(c:k∈L):Fr L S b:=⟨a.len,λj o d e=>a.keep j o (λz=>d (z▸c)) e⟩
def Fr.set{L:List Nat}{S:aG}{r:Nat}{o:O}(h:r∈L):Fr L S (S.set r o):=⟨by simp,λj b a e=>gA (λz=>a (z▸h)) e⟩
def Fr.app{L:List Nat}{S G:aG}:Fr L S (S++G):=⟨by simp,λ_ _ _ e=>bq e⟩
def DB:cY:=(aE (aX 14 (a0 bL (cF (.int 1)) (aA ay (aq (au 0) (aq (cF (.int 3)) av))))) (aE (aX 15 (bB (CG (aS (au 5)) (zX intOfD (aq (a0 (eP false) (au 13) (cF (.int 0))) av))))) (aE (aX 16 (bB (bH [none,some 0,some 9,some 10,some 11,some 14,some 15] (i4 (au 14)) (bG 0) bQ (aA eG (aq (au 1) (aq (aR (aq (au 2) (aq (au 3) (aq (au 4) av)))) (aq (aR (aq (au 0) (aq (au 5) av))) (aq (au 6) av)))))))) (uw (AR mX (au 12) (aq (aR (aq (a0 iQ (au 2) (a0 bL (cF (.int 8)) (au 13))) (aq (tupQ (dJ (aS (au 16)))) av))) av))))))
def F3:cY:=(aE (aX 9 (bB (tP (fM (tP (aS (au 2)) (jj (cF (.int 12))) jz)) jz (jj (aA ay (aq (au 0) (aq (cF (.int 3)) av))))))) (aE (aX 10 (bB (tP (fM (tP (aS (au 2)) (jj (a0 iQ (bB (bp (aq (cF (.int 0)) (aq (cF (.int 16)) av)))) (aA ay (aq (au 0) (aq (cF (.int 2)) av))))) jz)) jz (jj (a0 iQ (bB (bp (aq (cF (.int 1)) (aq (cF (.int 0)) (aq (cF (.int 1)) (aq (cF (.int 2)) av)))))) (aA ay (aq (au 0) (aq (cF (.int 4)) av)))))))) (aE (aX 11 (a0 iQ (bB (bp (aq (cF (.str "at once")) (aq (cF (.str "when free")) av)))) (aA ay (aq (au 0) (aq (cF (.int 2)) av))))) (aE (aX 12 (bB (bp av))) (aE (iX (i4 (a0 iQ (au 4) (au 6))) (bG 13) DB) (aE (uw (xM (au 8) (fM (bH [none,some 2,some 6] (kc (aS (au 12))) (bG 0) bQ (aR (aq (a0 iQ (au 1) (au 2)) (aq (a0 iQ (au 0) (cF (.int 0))) av))))))) (aE (aX 17 (tupQ (fM (bH [none,some 0] (kc (aS (au 9))) (bG 0) bQ (aR (aq (au 0) (aq (aA ay (aq (au 1) (aq (cF (.int 3)) av))) av))))))) (aE (aX 18 (tupQ (fM (bH [none,some 0] (kc (aS (au 10))) (bG 0) bQ (aR (aq (au 0) (aq (a0 iQ (bB (bp (aq (cF (.str "row")) (aq (cF (.str "turns")) av)))) (aA ay (aq (au 1) (aq (cF (.int 2)) av)))) av))))))) (uw (AR mX (au 7) (aq (aR (aq (a0 iQ (au 2) (au 6)) (aq (au 11) (aq (au 17) (aq (au 18) (aq (tupQ (dJ (aS (au 12)))) av)))))) av)))))))))))
def F4:cY:=(aE (aX 22 (bB (tP (fM (tP (aS (au 2)) (jj (cF (.int 22))) jz)) jz (jj (aA ay (aq (au 0) (aq (cF (.int 2)) av))))))) (aE (aX 14 (a0 bL (cF (.int 1)) (aA ay (aq (au 0) (aq (au 1) av))))) (aE (aX 23 (bB (vy (aS (au 22)) (fM (bH [none,none] (kc (aS (au 20))) (gW (nG 2 (aI (bG 0) (aI (bG 1) cW)))) bQ (au 0)))))) (aE (aX 16 (bB (bH [none,some 0,some 8,some 14,some 19,some 23] (i4 (au 14)) (bG 0) bQ (aA ee (aq (au 1) (aq (au 5) (aq (bB (bH [none,none] (kc (aS (au 4))) (gW (nG 2 (aI (bG 0) (aI (bG 1) cW)))) bQ (au 0))) (aq (aR (aq (au 0) (aq (au 3) av))) (aq (au 2) av))))))))) (uw (AR mX (au 21) (aq (aR (aq (tupQ (fM (bH [none] (kc (aS (au 22))) (bG 0) bQ (aR (aq (au 0) (aq (cF (.int 0)) av)))))) (aq (tupQ (dJ (aS (au 16)))) av))) av)))))))
section
variable{S S0:aG}{k most lw many lz li kk lr le lt lb ld at_:Nat}{ws ths kI:List Str}{gs:List (Str×Str)}{mn:Str}{ds:List (Str×List Rw)}{a14 a15 a16 a17 a18 a19 a20 a21 a22 a23:Option D}
def Fz{Q:Out->Prop}(x:Ex k S0 S)(hl:S0.length<=ld)(hk:k<S0.length)(n1:lw≠k)(n2:li≠k)(n3:lt≠k)(K:lb≠k)(n5:lw≠ld)(hW:S[lw]?=some (.lst (ws.map D.str)))(hI:S[li]?=some (.lst (gs.map cf)))(hT:S[lt]?=some (.lst (ths.map D.str)))(hB:S[lb]?=some (.lst (kI.map D.str)))(hD:S[ld]?=some (.lst (ds.map iw)))
  (a3:ws.length=24) (l1:ths.length<900) (l2:kI.length<900) (l3:gs.length<900) (l4:ds.length<900) (ha:at_<8)
  (h:∀(p:Str×List Rw) (l:aG) (P Y L:Option D),ws[8+at_]?=some p.1->xT ⟨false,ths++cT,ths,kI,gs,[]⟩ p.2->p.2.length<=12->l[ld]?=some (.lst ((ds++ [p]).map iw))->Ex k S0 l->Fr [k,ld] S l→
   Q (.nx [some (.ref k),some (.int most),some (.ref lw),some (.int many),some (.ref lz),some (.ref li),some (.int kk),some (.ref lr),some (.ref le),some (.ref lt),some (.ref lb),some (.str mn),some (.ref ld),some (.int at_),P,Y,L,a17,a18,a19,a20,a21,a22,a23] l)):
  T DB [some (.ref k),some (.int most),some (.ref lw),some (.int many),some (.ref lz),some (.ref li),some (.int kk),some (.ref lr),some (.ref le),some (.ref lt),some (.ref lb),some (.str mn),some (.ref ld),some (.int at_),a14,a15,a16,a17,a18,a19,a20,a21,a22,a23] S Q:=by
 have y:Ex k S S:=by obtain⟨a,b,c,J⟩:=x.pot;exact Ex.refl J
 unfold DB
 symm
 refine bE x (by decide) (by decide) λv j hv e1 t _=> ?_
 refine i3 ?_
 rw[show(1:Int)+(v:Int)=((1+v:Nat):Int) by omega]
 have F:=t.keep _ _ n2 hI
 refine aK (cx (dQ (Jk (cK (aC rfl (bS F (IY (aw (bX (aC rfl (dB (dW (aP (sE ?_))))))))))))))
 obtain⟨m,hm,R⟩:∃m:Nat,m<=1/\(D.int (if decide ((at_:Int)=0)=true then 1 else 0))=.int m:=by
  by_cases c:(at_:Int)=0
  ·exact⟨1,Qmq _,by rw[Qeq c];rfl⟩
  ·exact⟨0,by decide,by rw[Qdq c];rfl⟩
 refine⟨m,R,⟨rfl,F,by rw[lQm];have:gs.length*m<=gs.length*1:=Nat.mul_le_mul_left _ hm;omega,hm⟩,?_⟩
 obtain⟨f,I,G,N⟩:∃f:List (Str×Str),(List.replicate m (gs.map cf)).flatten=f.map cf/\(∀g∈f,g∈gs)/\f.length<900:=by
  rcases(by omega:m=0\/m=1) with rfl|rfl
  ·exact⟨[],rfl,λ_ h=>(nomatch h),by decide⟩
  ·exact⟨gs,by simp,λ_ h=>h,l3⟩
 rw[I]
 have a2:=e1.lt
 have M:Ex k S0 (j++ [O.lst (f.map cf)]):=e1.app
 have i:Ex k S (j++ [O.lst (f.map cf)]):=t.app
 have w:(j++ [O.lst (f.map cf)])[j.length]?=some (.lst (f.map cf)):=a_
 have U:j.length≠k:=by omega
 have lH:S.length<=j.length:=t.len
 generalize (j++ [O.lst (f.map cf)])=S2 at M i w⊢
 generalize j.length=lh at w U lH⊢
 refine aK (cx (dQ (gu (jm (aC rfl ⟨((1+v:Nat):Int),rfl,by omega,?_⟩)))))
 have y2:Ex k S2 S2:=by obtain⟨a,b,c,J⟩:=M.pot;exact Ex.refl J
 refine⟨λn A l u=>(∃o,A= [o,some (.ref k),some (.ref lt),some (.ref lb),some (.str mn),some (.int (1+v:Nat)),some (.ref lh)])/\∃e:List Rw,e.length=n/\(∀r∈e,r.Ok ⟨false,ths++cT,ths,kI,f,[]⟩ (1+v))/\u=e.map Rw.d/\Ex k S0 l/\Ex k S2 l,⟨⟨none,rfl⟩,[],rfl,λ_ h=>(nomatch h),rfl,M,y2⟩,λ_ _ _ _ _=>trivial,?_,?_⟩
 ·rintro n d A l u hd ⟨⟨o,rfl⟩,e,hn,hok,rfl,e3,e3'⟩
  obtain⟨rfl,hnv⟩:=dM hd
  refine aW (ic ?_)
  rw[Qhq rfl]
  symm
  refine⟨by show 3<=_;decide,?_⟩
  symm
  refine⟨by show 2<=_;decide,?_⟩
  symm
  refine yk e3 n3 K U (e3'.keep _ _ n3 (i.keep _ _ n3 hT)) (e3'.keep _ _ K (i.keep _ _ K hB)) (e3'.keep _ _ U w) l1 l2 N hnv (by omega) λr S4 W e4 a1 _=> ?_
  refine⟨by rw[lQm];exact aQ (by omega),⟨_,rfl⟩,e++ [r],by simp[hn],λz C=> ?_,by simp,e4,e3'.trans a1⟩
  rcases mQa.mp C with C|C
  ·exact hok z C
  ·rw[Qfq.mp C];exact W
 rintro A H u ⟨-,e,hn,hok,rfl,e3,e3'⟩
 rw[fB] at hn
 have s:Ex k S H:=i.trans e3'
 have q:H[ld]?=some (.lst (ds.map iw)):=s.keep _ _ (by omega) hD
 have X:H[lw]?=some (.lst (ws.map D.str)):=s.keep _ _ n1 hW
 refine pA (zE (aC rfl ⟨_,_,rfl,bq q,?_⟩))
 refine aw (cv (aw (bX (aC rfl (bX (dB (aC rfl (i3 ?_))))))))
 obtain⟨nm,B⟩:∃nm,ws[8+at_]?=some nm:=⟨_,gQe (by omega)⟩
 rw[show(8:Int)+(at_:Int)=((8+at_:Nat):Int) by omega]
 refine cM (bq X) (aM (by rw[gQm,B];rfl)) ?_
 refine aw (fK (ff (cK (aC rfl (bS a_ ⟨rfl,aP ⟨by show 2<=_;decide,aP ⟨_,bq q,mJ (aQ (by rw[lQm];omega)) ?_⟩⟩⟩)))))
 have Z:Fr [k,ld] S ((H++ [O.lst (e.map Rw.d)]).set ld (.lst (ds.map iw++ [iw (nm,e)]))):=(Fr.ex s (by simp)).trans (Fr.app.trans (Fr.set (by simp)))
 refine h (nm,e) _ _ _ _ B (λr hr=> ?_) (by show e.length<=12;omega) (by rw[il (bq q),Qzq];rfl) (e3.app.put hl hk) Z
 have:=hok r hr
 rw[show 1+v=e.length from hn.symm] at this
 exact Rw.Ok.sub this G
end
end W28
namespace DL
open PySem PySem.Spec L2
def u0{α:Type}{o:cD}{S:aG}{js:List (Option Nat)}{f:eN}{g:lB}{k:bx}{Q:List D->aG->Prop}(P:cD->Prop)(enc G:α->D)(B:P (mh js o)) (h:E f o S λp i=>∃xs:List α,p.1=xs.map enc/\p.2.stays i p.1/\xs.length<=1000∧
   (∀x∈xs,∀a,P a->Tg g (enc x) a i λc S2=>S2=i/\P c/\E k c i λy r=>y=G x/\r=i)/\Q (xs.map G) i):E (bH js (kc f) g bQ k) o S Q:=by
 refine gu (qd (h.mono λp i w=> ?_))
 obtain⟨xs,s,z,hl,u,q⟩:=w
 refine⟨λn a m b=>m=i/\b=(xs.take n).map G/\P a,⟨rfl,rfl,B⟩,λn a m b h=>by rw[h.1];exact z,λn d a m b l h=> ?_,λa m b h=> ?_⟩
 ·obtain⟨rfl,rfl,h3⟩:=h
  have l:p.1[n]?=some d:=l
  rw[s,gQm] at l
  obtain⟨x,j,rfl⟩:=oQm.mp l
  obtain⟨c,S2,v,rfl,h4,h5⟩:=u x (mQg j) a h3
  refine⟨c,S2,v,ic ?_⟩
  rw[Qhq rfl]
  refine h5.mono λy r t=> ?_
  obtain⟨A,C⟩:=t
  subst A C
  have F:=(gQs.mp j).1
  refine⟨?_,rfl,?_,h4⟩
  ·rw[lQm,Qxq]
   exact aQ (by omega)
  ·rw[QYq,j]
   simp
 ·obtain⟨rfl,rfl,_⟩:=h
  have e:p.1.length=xs.length:=by rw[s,lQm]
  show Q ((xs.take p.1.length).map G) _
  rw[e,QEq]
  exact q
end DL
namespace W28
open PySem PySem.Spec L2 DL
def Fr.fresh{k r:Nat}{S d S2:aG}(a:Fr [k] S d)(b:Fr [k,r] d S2)(h:S.length<=r):Fr [k] S S2:=⟨QAq a.len b.len,λj o c e=>by
 have hl:=(gQs.mp e).1
 have f:j≠k:=by simpa using c
 exact b.keep j o (by simp;omega) (a.keep j o c e)⟩
def mV(s:Nat):D:=.int s
section
variable{S S0:aG}{k most lw many lz li kk lr le:Nat}{ws:List Str}{szs:List Nat}{gs ev:List (Str×Str)}{rs:List Rm}{a9 a10 a11 a12 a13 a14 a15 a16 a17 a18 a19 a20 a21 a22 a23:Option D}
def FB{Q:Out->Prop}{sz:Nat}(x:Ex k S0 S)(hk:k<S0.length)(c4:S0.length<=lr)(d2:S0.length<=le)(f6:lr≠le)(n1:lw≠k)(n2:lz≠k)(n3:li≠k)(i2:lw≠lr)(g5:lw≠le)(P:S[lw]?=some (.lst (ws.map D.str)))(hZ:S[lz]?=some (.lst (szs.map mV)))(hI:S[li]?=some (.lst (gs.map cf)))
  (hR:S[lr]?=some (.lst (rs.map Rm.d))) (hE:S[le]?=some (.lst (ev.map cf))) (d9:ws.length=24) (hsz:szs[kk]?=some sz) (h8:sz<=2) (l3:gs.length<900) (l4:rs.length<900) (l5:ev.length<900) (i6:kk<4)
  (h:∀(r:Rm) (s:aG) (b9 d4 g1 f9 u i o g f8 f2:Option D),ws[kk]?=some r.name->r.ae.map (·.1)=(ws.drop 8).take sz->zP gs r->s[lr]?=some (.lst ((rs++ [r]).map Rm.d))->s[le]?=some (.lst ((ev++r.ae.map λp=>(r.name,p.1)).map cf))->Ex k S0 s->Fr [k,lr,le] S s→
   Q (.nx [some (.ref k),some (.int most),some (.ref lw),some (.int many),some (.ref lz),some (.ref li),some (.int kk),some (.ref lr),some (.ref le),b9,d4,g1,f9,u,i,o,g,f8,f2,a19,a20,a21,a22,a23] s)):
  T F3 [some (.ref k),some (.int most),some (.ref lw),some (.int many),some (.ref lz),some (.ref li),some (.int kk),some (.ref lr),some (.ref le),a9,a10,a11,a12,a13,a14,a15,a16,a17,a18,a19,a20,a21,a22,a23] S Q:=by
 have y:Ex k S S:=by obtain⟨a,b,c,hh⟩:=x.pot;exact Ex.refl hh
 have kS:=x.lt
 have i1:=(gQs.mp hR).1
 have nz:=(gQs.mp hE).1
 have h6:=(gQs.mp P).1
 have h9:=(gQs.mp hZ).1
 have i5:=(gQs.mp hI).1
 unfold F3
 refine aK (cx (dQ (x_ rfl P (dB ⟨12,rfl,by omega,P,cA (aw (aC rfl (aw (dB (aP ?_)))))⟩))))
 refine bE x (by decide) (by decide) λv1 N g4 e1 b3 _=>⟨v1,rfl,?_⟩
 obtain⟨ths,F⟩:∃ths:List Str,(ws.drop 12).take v1=ths:=⟨_,rfl⟩
 have h1:ths.length<=2:=by rw[←F,Qxq];omega
 rw[F]
 have e2:Ex k S0 (N++ [O.lst (ths.map D.str)]):=e1.app
 have U:Ex k S (N++ [O.lst (ths.map D.str)]):=b3.app
 have B:(N++ [O.lst (ths.map D.str)])[N.length]?=some (.lst (ths.map D.str)):=a_
 have f0:S.length<=N.length:=b3.len
 generalize (N++ [O.lst (ths.map D.str)])=S2 at e2 U B⊢
 generalize N.length=lt at B f0⊢
 have nt:lt≠k:=by omega
 have g3:=(gQs.mp B).1
 have a3:=U.keep _ _ n1 P
 refine aK (cx (dQ (x_ rfl a3 ?_)))
 refine dG (n:=2) (xs:= [.int 0,.int 16]) rfl e2 (by decide) (by decide) rfl (by symm;exact⟨rfl,rfl⟩) λd S3 A e3 X _=> ?_
 obtain⟨b0,h3,rfl⟩:∃b0:Nat,b0<=16/\d=.int b0:=by
  simp only[Qsq,QXq,or_false] at A
  rcases A with rfl|rfl
  ·exact⟨0,by omega,rfl⟩
  ·exact⟨16,by omega,rfl⟩
 refine⟨b0,rfl,by omega,X.keep _ _ n1 a3,?_⟩
 refine dG (n:=4) (xs:= [.int 1,.int 0,.int 1,.int 2]) rfl e3 (by decide) (by decide) rfl (by symm;exact⟨rfl,rfl⟩) λd K A e4 c2 _=> ?_
 obtain⟨b1,g6,rfl⟩:∃b1:Nat,b1<=2/\d=.int b1:=by
  simp only[Qsq,QXq,or_false] at A
  rcases A with rfl|rfl|rfl|rfl
  ·exact⟨1,by omega,rfl⟩
  ·exact⟨0,by omega,rfl⟩
  ·exact⟨1,by omega,rfl⟩
  ·exact⟨2,by omega,rfl⟩
 refine⟨b1,rfl,?_⟩
 obtain⟨kI,G⟩:∃kI:List Str,(ws.drop b0).take b1=kI:=⟨_,rfl⟩
 have h2:kI.length<=2:=by rw[←G,Qxq];omega
 rw[G]
 have e5:Ex k S0 (K++ [O.lst (kI.map D.str)]):=e4.app
 have W:Ex k S2 (K++ [O.lst (kI.map D.str)]):=(X.trans c2).app
 have I:(K++ [O.lst (kI.map D.str)])[K.length]?=some (.lst (kI.map D.str)):=a_
 have d1:S2.length<=K.length:=(X.trans c2).len
 generalize (K++ [O.lst (kI.map D.str)])=S5 at e5 W I⊢
 generalize K.length=lb at I d1⊢
 have nb:lb≠k:=by omega
 have d6:=W.keep _ _ nt B
 refine aK (cx (dG (n:=2) (xs:= [.str "at once",.str "when free"]) rfl e5 (by decide) (by decide) rfl (by symm;exact⟨rfl,rfl⟩) λd C A e6 Z _=> ?_))
 obtain⟨mn,c6,rfl⟩:∃mn:Str,(mn="at once" \/mn="when free")/\d=.str mn:=by
  simp only[Qsq,QXq,or_false] at A
  rcases A with rfl|rfl
  ·exact⟨"at once",.inl rfl,rfl⟩
  ·exact⟨"when free",.inr rfl,rfl⟩
 refine aK (cx (dQ (dv (aP ⟨by show 0<=_;decide,?_⟩))))
 have b4:Ex k S C:=(U.trans W).trans Z
 have a4:=Z.keep _ _ nb I
 have c1:=Z.keep _ _ nt d6
 have f7:=(gQs.mp a4).1
 have d5:=(gQs.mp c1).1
 have d7:=b4.len
 have L:Fr [k] S (C++ [O.lst []]):=(Fr.ex b4 (by simp)).trans Fr.app
 have e7:Ex k S0 (C++ [O.lst []]):=e6.app
 have a7:(C++ [O.lst []])[lb]?=some (.lst (kI.map D.str)):=bq a4
 have a5:(C++ [O.lst []])[lt]?=some (.lst (ths.map D.str)):=bq c1
 have M:(C++ [O.lst []])[C.length]?=some (.lst (([]:List (Str×List Rw)).map iw)):=a_
 have h5:=x.len
 generalize (C++ [O.lst []])=S7 at L e7 a7 a5 M⊢
 generalize C.length=ld at M d7 f7 d5⊢
 have kn:∀{j:Nat},j≠k->j∉[k]:=λh z=>h (Qfq.mp z)
 have f5:=L.keep _ _ (kn n2) hZ
 refine aK (gn (jm (bX (aC rfl (aC rfl (cM f5 (aM (by rw[gQm,hsz];rfl)) ⟨(sz:Int),rfl,by omega,?_⟩))))))
 refine⟨λj l s=>(∃u i o g,l= [some (.ref k),some (.int most),some (.ref lw),some (.int many),some (.ref lz),some (.ref li),some (.int kk),some (.ref lr),some (.ref le),some (.ref lt),some (.ref lb),some (.str mn),some (.ref ld),u,i,o,g,a17,a18,a19,a20,a21,a22,a23])/\∃f:List (Str×List Rw),f.map (·.1)=(ws.drop 8).take j/\(∀p∈f,xT ⟨false,ths++cT,ths,kI,gs,[]⟩ p.2/\p.2.length<=12)/\s[ld]?=some (.lst (f.map iw))/\s[lb]?=some (.lst (kI.map D.str))/\s[lt]?=some (.lst (ths.map D.str))/\Ex k S0 s/\Fr [k] S s,⟨⟨_,_,_,_,rfl⟩,[],rfl,λ_ h=>(nomatch h),M,a7,a5,e7,L⟩,λ_ _ _ _=>trivial,?_,?_⟩
 ·rintro j d l s A ⟨⟨u,i,o,g,rfl⟩,f,hnm,hpr,hD,hB,hT,ex,fr⟩
  obtain⟨rfl,hj⟩:=dM A
  have g0:f.length=j:=by
   have:=congrArg List.length hnm
   rw[lQm,Qxq,List.length_drop] at this
   omega
  refine aW ?_
  refine Fz (gs:=gs) (ths:=ths) (kI:=kI) ex (by omega) hk n1 n3 nt nb (by omega) (fr.keep _ _ (kn n1) P) (fr.keep _ _ (kn n3) hI) hT hB hD d9 (by omega) (by omega) l3 (by omega) (by omega) λp h0 i o g hp b6 d8 a6 a1 t=> ?_
  refine⟨⟨_,_,_,_,rfl⟩,f++ [p],?_,λq hq=> ?_,a6,t.keep _ _ (by simp;omega) hB,t.keep _ _ (by simp;omega) hT,a1,fr.fresh t (by omega)⟩
  ·rw[Qzq,hnm,QYq,List.getElem?_drop,hp]
   rfl
  ·rcases mQa.mp hq with hq|hq
   ·exact hpr q hq
   ·rw[Qfq.mp hq];exact⟨b6,d8⟩
 rintro l S8 ⟨⟨u,i,o,g,rfl⟩,f,hnm,hpr,hD,hB,hT,e8,fr8⟩
 rw[fB] at hnm
 have g0:f.length<=2:=by
  have:=congrArg List.length hnm
  rw[lQm,Qxq] at this
  omega
 obtain⟨nm,v⟩:∃nm,ws[kk]?=some nm:=⟨_,gQe (by omega)⟩
 have c5:=fr8.keep _ _ (kn n1) P
 have Y:=fr8.keep _ _ (kn (by omega)) hE
 refine aK (pA (C7 (aC rfl ⟨_,_,rfl,Y,kb ?_⟩)))
 refine u0 (α:=Str×List Rw) (λl=>∃a,l= [a,some (.ref lw),some (.int kk)]) iw (λp=>cf (nm,p.1)) ⟨_,rfl⟩ ?_
 refine cK (aC rfl (bS hD ?_))
 refine⟨f,rfl,hD,by omega,λp hp l f4=> ?_,?_⟩
 ·obtain⟨a,rfl⟩:=f4
  refine aW ⟨rfl,⟨_,rfl⟩,?_⟩
  refine cv (aw (bX (aC rfl (aC rfl (cM c5 (aM (by rw[gQm,v];rfl)) ?_)))))
  refine aw (bX (aC rfl (dB (ax rfl (aP ⟨by show 2<=_;decide,rfl,rfl⟩)))))
 have g2:ev.map cf++f.map (λp=>cf (nm,p.1))=(ev++f.map λp=>(nm,p.1)).map cf:=by rw[Qzq,QPq];rfl
 refine⟨_,Y,⟨rfl,nQl (aQ (by rw[lQm,lQm];omega))⟩,?_⟩
 show T _ _ (S8.set le (.lst (ev.map cf++f.map (λp=>cf (nm,p.1))))) _
 rw[g2]
 have e9:Ex k S0 (S8.set le (.lst ((ev++f.map λp=>(nm,p.1)).map cf))):=e8.put d2 hk
 have J:Fr [k,lr,le] S (S8.set le (.lst ((ev++f.map λp=>(nm,p.1)).map cf))):=(fr8.mono (by simp)).trans (Fr.set (by simp))
 have a2:=il (o':=.lst ((ev++f.map λp=>(nm,p.1)).map cf)) Y
 have b8:=gA (k:=le) (o':=.lst ((ev++f.map λp=>(nm,p.1)).map cf)) (show ld≠le by omega) hD
 have c0:=gA (k:=le) (o':=.lst ((ev++f.map λp=>(nm,p.1)).map cf)) (show lb≠le by omega) hB
 have H:=gA (k:=le) (o':=.lst ((ev++f.map λp=>(nm,p.1)).map cf)) (show lt≠le by omega) hT
 have b5:=gA (k:=le) (o':=.lst ((ev++f.map λp=>(nm,p.1)).map cf)) f6 (fr8.keep _ _ (kn (by omega)) hR)
 generalize (S8.set le (.lst ((ev++f.map λp=>(nm,p.1)).map cf)))=S9 at e9 J a2 b8 c0 H b5⊢
 have y9:Ex k S9 S9:=by obtain⟨a,b,c,hh⟩:=e9.pot;exact Ex.refl hh
 refine aK (cx (fK (kb (CC (m:=3) (·=ths) rfl (by decide) (by decide) (qd (cK (aC rfl (bS H ⟨ths,rfl,by omega,rfl,e9,y9,λs e=>e.keep _ _ nt H⟩)))) λts SA c3 d3 eA b7=> ?_))))
 refine aK (cx (fK (kb (Il eA rfl rfl (b7.keep _ _ nb c0) nb (by omega) λbs SB b2 e0 eB f3=> ?_))))
 have w:Ex k S9 SB:=b7.trans f3
 have R:=w.keep _ _ (show lr≠k by omega) b5
 refine pA (zE (aC rfl ⟨_,_,rfl,R,?_⟩))
 have f1:SB[lw]?=some (.lst (ws.map D.str)):=w.keep _ _ n1 (J.keep _ _ (by simp;omega) P)
 refine aw (cv (aw (bX (aC rfl (aC rfl (cM f1 (aM (by rw[gQm,v];rfl)) ?_))))))
 refine aw (aC rfl (aw (aC rfl (aw (aC rfl (aw (fK (ff (cK (aC rfl (bS (w.keep _ _ (show ld≠k by omega) b8) ⟨rfl,?_⟩)))))))))))
 refine aP ⟨by show 5<=_;decide,aP ⟨_,R,mJ (aQ (by rw[lQm];omega)) ?_⟩⟩
 have h4:ts.length<=2:=by have:=congrArg List.length c3;rw[lQm] at this;omega
 have h7:bs.length<=2:=by have:=congrArg List.length b2;rw[lQm] at this;omega
 refine h ⟨nm,mn,ts,bs,f⟩ _ _ _ _ _ _ _ _ _ _ _ v hnm ⟨c6,λp hp=>by have:=d3 p hp;omega,by show ts.length<=6;omega,by show bs.length<=6;omega,by show f.length<=6;omega,e0,λp hp=> ?_⟩ (by rw[il R,Qzq];rfl) (gA (by omega) (w.keep _ _ (show le≠k by omega) a2)) (eB.put c4 hk) ((J.trans (Fr.ex w (by simp))).trans (Fr.set (by simp)))
 have:=hpr p hp
 rw[←c3,←b2] at this
 exact this
end
def C8{e:cD}{S:aG}{v:Nat}{ps:List (Str×Nat)}{Q:List D->aG->Prop}(f:e[v]?=some (some (.tup (ps.map lG))))(hl:ps.length<=900)(h:Q ((ps.map (·.1)).map D.str) S):
  E (bH [none,none] (kc (aS (au v))) (gW (nG 2 (aI (bG 0) (aI (bG 1) cW)))) bQ (au 0)) e S Q:=by
 refine u0 (α:=Str×Nat) (λc=>∃a b,c= [a,b]) lG (λp=>.str p.1) ⟨_,_,rfl⟩ ?_
 refine cK (aC f (bT ⟨ps,rfl,trivial,by omega,λp g c d=> ?_,?_⟩))
 ·obtain⟨a,b,rfl⟩:=d
  refine dP rfl (aB (aW (aB (aW (bf ⟨rfl,⟨_,_,rfl⟩,aC rfl ⟨rfl,rfl⟩⟩)))))
 ·rw[QPq] at h
  exact h
section
variable{S S0:aG}{k most lw lh le:Nat}{ws:List Str}{ev:List (Str×Str)}{ps os:List (Str×Nat)}{hs:List (List (Str×Nat)×List Rw)}{a3 a4 a5 a6 a7 a9 a10 a11 a12 a13 a14 a15 a16 a17 a18 a22 a23:Option D}
def EL{Q:Out->Prop}(x:Ex k S0 S)(hk:k<S0.length)(b1:S0.length<=lh)(n1:lw≠k)(Y:le≠k)(b8:lw≠lh)(hW:S[lw]?=some (.lst (ws.map D.str)))(hE:S[le]?=some (.lst (ev.map cf)))(hH:S[lh]?=some (.lst (hs.map fA)))
  (c0:ws.length=24) (l1:ps.length<=4) (l2:os.length<=4) (l3:ev.length<900) (l4:hs.length<900) (m1:1<=most) (m4:most<=4)
  (h:∀(p:List (Str×Nat)×List Rw) (l:aG) (X W b0 a1:Option D),vw ev (os.map (·.1)) (ps.map (·.1)) p->l[lh]?=some (.lst ((hs++ [p]).map fA))->Ex k S0 l->Fr [k,lh] S l→
   Q (.nx [some (.ref k),some (.int most),some (.ref lw),a3,a4,a5,a6,a7,some (.ref le),a9,a10,a11,a12,a13,X,a15,W,a17,a18,some (.tup (ps.map lG)),some (.tup (os.map lG)),some (.ref lh),b0,a1] l)):
  T F4 [some (.ref k),some (.int most),some (.ref lw),a3,a4,a5,a6,a7,some (.ref le),a9,a10,a11,a12,a13,a14,a15,a16,a17,a18,some (.tup (ps.map lG)),some (.tup (os.map lG)),some (.ref lh),a22,a23] S Q:=by
 have y:Ex k S S:=by obtain⟨a,b,c,H⟩:=x.pot;exact Ex.refl H
 have kS:=x.lt
 have c2:=(gQs.mp hW).1
 have nz:=(gQs.mp hE).1
 have c3:=(gQs.mp hH).1
 unfold F4
 refine aK (cx (dQ (x_ rfl hW (dB ⟨22,rfl,by omega,hW,cA (aw (aC rfl (aw (dB (aP ?_)))))⟩))))
 refine bE x (by decide) (by decide) λv1 v b5 e1 K _=>⟨v1,rfl,?_⟩
 obtain⟨e,q⟩:∃e:List Str,(ws.drop 22).take v1=e:=⟨_,rfl⟩
 have b6:e.length<=1:=by rw[←q,Qxq];omega
 rw[q]
 have e2:Ex k S0 (v++ [O.lst (e.map D.str)]):=e1.app
 have M:Ex k S (v++ [O.lst (e.map D.str)]):=K.app
 have s:(v++ [O.lst (e.map D.str)])[v.length]?=some (.lst (e.map D.str)):=a_
 have a2:S.length<=v.length:=K.len
 generalize (v++ [O.lst (e.map D.str)])=S2 at e2 M s⊢
 generalize v.length=lo at s a2⊢
 have no:lo≠k:=by omega
 refine aK (cx (bX (dB (cA (aw (aC rfl (aw (aC rfl (aP ?_)))))))))
 refine bE e2 (by omega) (by omega) λF m b9 e3 N _=> ?_
 refine i3 ?_
 rw[show(1:Int)+(F:Int)=((1+F:Nat):Int) by omega]
 have u:=N.keep _ _ no s
 refine aK (cx (dQ (Di (cK (aC rfl (bS u (kb (C8 rfl (by omega) ⟨⟨rfl,rfl,u,nQl (aQ (by simp;omega))⟩,?_⟩))))))))
 rw[←Qzq]
 obtain⟨f,j⟩:∃f:List Str,e++os.map (·.1)=f:=⟨_,rfl⟩
 have c1:f.length<=5:=by rw[←j,lQa,lQm];omega
 rw[j]
 have I:Ex k S m:=M.trans N
 have P:Ex k S0 (m++ [O.lst (f.map D.str)]):=e3.app
 have A:Ex k S (m++ [O.lst (f.map D.str)]):=I.app
 have L:(m++ [O.lst (f.map D.str)])[lo]?=some (.lst (e.map D.str)):=bq u
 have B:(m++ [O.lst (f.map D.str)])[m.length]?=some (.lst (f.map D.str)):=a_
 have U:S.length<=m.length:=I.len
 generalize (m++ [O.lst (f.map D.str)])=S4 at P A L B⊢
 generalize m.length=ln at B U⊢
 have nn:ln≠k:=by omega
 have y4:Ex k S4 S4:=by obtain⟨a,b,c,H⟩:=P.pot;exact Ex.refl H
 have R:=A.keep _ _ Y hE
 refine aK (cx (dQ (gu (jm (aC rfl ⟨((1+F:Nat):Int),rfl,by omega,?_⟩)))))
 refine⟨λn i l t=>(∃o,i= [o,some (.ref k),some (.ref le),some (.int (1+F:Nat)),some (.tup (ps.map lG)),some (.ref ln)])/\∃g:List Rw,g.length=n/\(∀r∈g,r.Ok ⟨true,f,f,[],ev,ps.map (·.1)⟩ (1+F))/\t=g.map Rw.d/\Ex k S0 l/\Ex k S4 l,⟨⟨none,rfl⟩,[],rfl,λ_ h=>(nomatch h),rfl,P,y4⟩,λ_ _ _ _ _=>trivial,?_,?_⟩
 ·rintro n d i l t hd ⟨⟨o,rfl⟩,g,hn,hok,rfl,e5,e5'⟩
  obtain⟨rfl,hnv⟩:=dM hd
  refine aW (ic ?_)
  rw[Qhq rfl]
  apply cA (aw (aC rfl (aw (aC rfl (aw (dQ (C8 rfl (by omega) ?_)))))))
  refine⟨by show 2<=_;decide,?_⟩
  symm
  have b7:=e5.lt
  refine wU e5.app nn (by omega) Y (bq (e5'.keep _ _ nn B)) a_ (bq (e5'.keep _ _ Y R)) (by omega) (by rw[lQm];omega) l3 hnv (by omega) λr S6 b3 e6 b4 _=> ?_
  have y5:Ex k l l:=by obtain⟨a,b,c,H⟩:=e5.pot;exact Ex.refl H
  refine⟨by rw[lQm];exact aQ (by omega),⟨_,rfl⟩,g++ [r],by simp[hn],λz C=> ?_,by simp,e6,e5'.trans (y5.app.trans b4)⟩
  rcases mQa.mp C with C|C
  ·exact hok z C
  ·rw[Qfq.mp C];exact b3
 rintro i Z t ⟨-,g,hn,hok,rfl,e5,e5'⟩
 rw[fB] at hn
 have J:Ex k S Z:=A.trans e5'
 have w:Z[lh]?=some (.lst (hs.map fA)):=J.keep _ _ (by omega) hH
 have G:Z[lo]?=some (.lst (e.map D.str)):=e5'.keep _ _ no L
 refine pA (zE (aC rfl ⟨_,_,rfl,bq w,?_⟩))
 refine aw (cv (aw (fK (kb ?_))))
 refine u0 (α:=Str) (λi=>∃a,i= [a]) D.str (λz=>lG (z,0)) ⟨_,rfl⟩ ?_
 refine cK (aC rfl (bS (bq G) ⟨e,rfl,bq G,by omega,λz C i b2=> ?_,?_⟩))
 ·obtain⟨a,rfl⟩:=b2
  refine aW ⟨rfl,⟨_,rfl⟩,?_⟩
  refine cv (aw (aC rfl (aw (dB (aP ⟨by show 2<=_;decide,rfl,rfl⟩)))))
 refine aw (fK (ff (cK (aC rfl (bS a_ ⟨rfl,aP ⟨by show 2<=_;decide,aP ⟨_,bq w,mJ (aQ (by rw[lQm];omega)) ?_⟩⟩⟩)))))
 have eo:(e.map λz=>((z,0):Str×Nat)).map (·.1)=e:=by rw[QPq];exact List.map_id e
 refine h (e.map λz=>(z,0),g) _ _ _ _ _ ⟨λp hp=> ?_,by show(e.map _).length<=6;rw[lQm];omega,by show g.length<=9;omega,by show 0<g.length;omega,λr hr=> ?_⟩ ?_ (e5.app.put b1 hk) ((Fr.ex J (by simp)).trans (Fr.app.trans (Fr.set (by simp))))
 ·obtain⟨z,_,rfl⟩:=Qkq.mp hp
  show 0<=9
  decide
 ·have:=hok r hr
  rw[show 1+F=g.length from hn.symm] at this
  show r.Ok ⟨true,(e.map λz=>((z,0):Str×Nat)).map (·.1)++os.map (·.1),(e.map λz=>((z,0):Str×Nat)).map (·.1)++os.map (·.1),[],ev,ps.map (·.1)⟩ g.length
  rw[eo,j]
  exact this
 ·rw[il (bq w),Qzq]
  show some (O.lst (hs.map fA++ [.tup [.tup (e.map λz=>lG (z,0)),.tup (g.map Rw.d)]]))=some (O.lst (hs.map fA++ [.tup [.tup ((e.map λz=>(z,0)).map lG),.tup (g.map Rw.d)]]))
  rw[QPq]
  rfl
end
end W28
namespace DL
open PySem PySem.Spec L2
def Hy{a:cD}{S:aG}{f g:bx}{Q:(List D×(aG->Prop))->aG->Prop}(h:E f a S λd b=>E g a b λc S2=>∃i j,d=.int i/\c=.int j/\(-(2^62)<=i/\i<2^62/\ -(2^62)<=j/\j<2^62)/\Q (jo i j,λ_=>True) S2):E (Fx f g) a S Q:=by
 obtain⟨d,b,e,c,S2,k,i,j,rfl,rfl,hb,q⟩:=h
 exact⟨_,S2,by unfold Fx;rw[e];simp only[Qbq];rw[k];simp only[Qbq];rw[Qhq hb],q⟩
def A5{j n:Nat}{d:D}(h:(jo 1 (j:Int))[n]?=some d):d=.int (1+n:Nat)/\1+n<j:=by
 simp only[jo,gQm] at h
 obtain⟨i,c,rfl⟩:=oQm.mp h
 obtain⟨b,a⟩:=gQs.mp c
 simp at b a
 subst a
 exact⟨by simp,by omega⟩
def Bh{j:Nat}:(jo 1 (j:Int)).length=j-1:=by simp only[jo,lQm,QVq];omega
end DL
namespace W28
open PySem PySem.Spec L2 DL
section
variable{S S0:aG}{k:Nat}{Q:Res->aG->Prop}
def BC{rs:List Rm}{i j:Nat}{r:Rm}{x:Str}(c:rs[i]?=some r)(a:(r.ae.map (·.1))[j]?=some x):(r.name,x)∈bC rs:=by
 rw[gQm] at a
 obtain⟨p,b,rfl⟩:=oQm.mp a
 exact QOq.mpr ⟨r,mQg c,Qkq.mpr ⟨p,mQg b,rfl⟩⟩
def xY{rs:List Rm}{r:Rm}:bC (rs++ [r])=bC rs++r.ae.map λp=>(r.name,p.1):=by
 unfold bC
 rw[List.flatMap_append]
 simp
def q5{rs:List Rm}{ws:List Str}(h:∀(i:Nat) (r:Rm),rs[i]?=some r->ws[i]?=some r.name):rs.map (·.name)=ws.take rs.length:=by
 apply List.ext_getElem?
 intro i
 rw[gQm,List.getElem?_take]
 cases a:rs[i]? with
 | none=>
   have:=List.getElem?_eq_none_iff.mp a
   rw[Quq (by omega)]
   rfl
 | some r=>
   have:=(gQs.mp a).1
   rw[Qhq this,h i r a]
   rfl
def uI{rs:List Rm}{ws:List Str}(nd:ws.Pairwise nz)(h:∀(i:Nat) (r:Rm),rs[i]?=some r->ws[i]?=some r.name):(rs.map (·.name)).Pairwise nz:=by
 rw[q5 h]
 exact nd.sublist (List.take_sublist ..)
def J4(w:cZ):Prop:=(w.aj.map (·.name)).Pairwise nz
def names_nodup{rs:List Rm}{ws:List Str}(nd:ws.Nodup)(h:∀(i:Nat) (r:Rm),rs[i]?=some r->ws[i]?=some r.name):(rs.map (·.name)).Nodup:=by
 rw[q5 h]
 exact nd.sublist (List.take_sublist ..)
def Ea{B:Nat}(x:Ex k S0 S)(m1:1<=B)(m4:B<=4)(h:∀(w:cZ) (t:aG),d0 w->J4 w->Ex k S0 t->Ex k S t->t.length=S.length->Q (.d w.d) t):Fn iH [.ref k,.int B] S Q:=by
 have y:Ex k S S:=by obtain⟨a,b,c,hh⟩:=x.pot;exact Ex.refl hh
 have kl:=x.lt
 refine bN ?_
 unfold kz
 symm
 show Fn eF [.ref k,.int ((24:Nat):Int)] S _
 refine xh y (by decide) λH S1 f6 h8 d3 j6 e1 j4 l1=> ?_
 dsimp only
 have e2:Ex k S (S1++ [O.lst (H.map D.str)]):=e1.app
 have b0:(S1++ [O.lst (H.map D.str)])[S1.length]?=some (.lst (H.map D.str)):=a_
 have f4:S.length<=S1.length:=by omega
 generalize (S1++ [O.lst (H.map D.str)])=S2 at e2 b0⊢
 generalize S1.length=lw at b0 f4⊢
 have nw:lw≠k:=by omega
 refine aK (cx (dG (n:=6) (xs:= [.int 1,.int 2,.int 1,.int 2,.int 3,.int 0]) rfl e2 (by decide) (by decide) rfl (by symm;exact⟨rfl,rfl⟩) λd S3 F e3 i2 _=> ?_))
 obtain⟨A,g0,rfl⟩:∃n:Nat,n<=3/\d=.int n:=by
  simp only[Qsq,QXq,or_false] at F
  rcases F with rfl|rfl|rfl|rfl|rfl|rfl
  ·exact⟨1,by omega,rfl⟩
  ·exact⟨2,by omega,rfl⟩
  ·exact⟨1,by omega,rfl⟩
  ·exact⟨2,by omega,rfl⟩
  ·exact⟨3,by omega,rfl⟩
  ·exact⟨0,by omega,rfl⟩
 have h6:=i2.keep _ _ nw b0
 refine aK (cx (dQ (gu (jm (aC rfl ⟨(A:Int),rfl,by omega,?_⟩)))))
 refine⟨λn f t Z=>(∃o,f= [o,some (.ref k)])/\∃e:List Nat,e.length=n/\(∀s∈e,s<=2)/\Z=e.map mV/\Ex k S t/\Ex k S3 t,⟨⟨none,rfl⟩,[],rfl,λ_ h=>(nomatch h),rfl,e3,by obtain⟨a,b,c,hh⟩:=e3.pot;exact Ex.refl hh⟩,λ_ _ _ _ _=>trivial,?_,?_⟩
 ·rintro n d f t Z F ⟨⟨o,rfl⟩,e,hn,h2,rfl,e4,e4'⟩
  obtain⟨rfl,a3⟩:=dM F
  refine aW (ic ?_)
  rw[Qhq rfl]
  symm
  refine bE e4 (by decide) (by decide) λv S5 hv e5 h9 _=> ?_
  refine i3 ?_
  rw[show(1:Int)+(v:Int)=((1+v:Nat):Int) by omega]
  refine⟨by rw[lQm];exact aQ (by omega),⟨_,rfl⟩,e++ [1+v],by simp[hn],λs M=> ?_,by simp[mV],e5,e4'.trans h9⟩
  rcases mQa.mp M with M|M
  ·exact h2 s M
  ·rw[Qfq.mp M];omega
 rintro f S4 Z ⟨-,e,hszl,hsz2,rfl,e4,e4'⟩
 rw[fB] at hszl
 have d6:=e4'.keep _ _ nw h6
 have c1:=(gQs.mp d6).1
 refine aK (cx (dQ (dv (aP ⟨by show 0<=_;decide,?_⟩))))
 have e5:Ex k S (S4++ [O.lst (e.map mV)]++ [O.lst []]):=e4.app.app
 have c0:(S4++ [O.lst (e.map mV)]++ [O.lst []])[lw]?=some (.lst (H.map D.str)):=bq (bq d6)
 have b7:(S4++ [O.lst (e.map mV)]++ [O.lst []])[S4.length]?=some (.lst (e.map mV)):=bq a_
 have b4:(S4++ [O.lst (e.map mV)]++ [O.lst []])[S4.length+1]?=some (.lst (([]:List (Str×Str)).map cf)):=by have:=a_ (S:=S4++ [O.lst (e.map mV)]) (o:=O.lst []);simpa using this
 have g4:=e4.lt
 have f5:=e4.len
 show T _ [some (.ref k),some (.int B),some (.ref lw),some (.int A),some (.ref S4.length),some (.ref (S4++ [O.lst (e.map mV)]).length),none,none,none,none,none,none,none,none,none,none,none,none,none,none,none,none,none,none] _ _
 rw[show(S4++ [O.lst (e.map mV)]).length=S4.length+1 by simp]
 generalize (S4++ [O.lst (e.map mV)]++ [O.lst []])=S5 at e5 c0 b7 b4⊢
 generalize S4.length=lz at b7 b4 g4 c1 f5⊢
 refine aK (gn (jm (aC rfl ⟨(A:Int),rfl,by omega,?_⟩)))
 refine⟨λj f t=>(∃b6,f= [some (.ref k),some (.int B),some (.ref lw),some (.int A),some (.ref lz),some (.ref (lz+1)),b6,none,none,none,none,none,none,none,none,none,none,none,none,none,none,none,none,none])/\∃gs:List (Str×Str),gs.length<=j/\(∀g∈gs,∃i G a,i<j/\e[i]?=some G/\a<G/\H[i]?=some g.1/\H[8+a]?=some g.2)/\t[lw]?=some (.lst (H.map D.str))/\t[lz]?=some (.lst (e.map mV))/\t[lz+1]?=some (.lst (gs.map cf))/\Ex k S t,⟨⟨_,rfl⟩,[],by simp,λ_ h=>(nomatch h),c0,b7,b4,e5⟩,λ_ _ _ _=>trivial,?_,?_⟩
 ·rintro j d f t F ⟨⟨b6,rfl⟩,gs,hgl,hgs,hW,hZ,hI,ex⟩
  obtain⟨rfl,hj⟩:=dM F
  obtain⟨G,Y⟩:∃G,e[j]?=some G:=⟨_,gQe (by omega)⟩
  have d8:=hsz2 G (mQg Y)
  obtain⟨nm,a3⟩:∃nm,H[j]?=some nm:=⟨_,gQe (by omega)⟩
  refine aW ?_
  refine pA (C7 (aC rfl ⟨_,_,rfl,hI,kb (gu (Hy (dB (bX (aC rfl (aC rfl (cM hZ (aM (by rw[gQm,Y];rfl)) ⟨1,(G:Int),rfl,rfl,by omega,?_⟩)))))))⟩))
  refine⟨λn f a4 Z=>(∃o,f= [o,some (.ref lw),some (.int j)])/\a4=t/\∃fs:List (Str×Str),fs.length=n/\(∀g∈fs,g.1=nm/\∃a,a<G/\H[8+a]?=some g.2)/\Z=fs.map cf,⟨⟨none,rfl⟩,rfl,[],rfl,λ_ h=>(nomatch h),rfl⟩,λ_ _ _ _ _=>trivial,?_,?_⟩
  ·rintro n d f a4 Z F ⟨⟨o,rfl⟩,rfl,fs,hfl,hfs,rfl⟩
   obtain⟨rfl,hn⟩:=A5 F
   obtain⟨n8,d4⟩:∃n8,H[8+(1+n)]?=some n8:=⟨_,gQe (by omega)⟩
   refine aW (ic ?_)
   rw[Qhq rfl]
   refine cv (aw (bX (aC rfl (aC rfl (cM hW (aM (by rw[gQm,a3];rfl)) ?_)))))
   refine aw (bX (aC rfl (bX (dB (aC rfl (i3 ?_))))))
   rw[show(8:Int)+((1+n:Nat):Int)=((8+(1+n):Nat):Int) by omega]
   refine cM hW (aM (by rw[gQm,d4];rfl)) ?_
   refine aP ⟨by show 2<=_;decide,by rw[lQm];exact aQ (by omega),⟨_,rfl⟩,rfl,fs++ [(nm,n8)],by simp[hfl],λg hg=> ?_,by simp[cf]⟩
   rcases mQa.mp hg with hg|hg
   ·exact hfs g hg
   ·rw[Qfq.mp hg];exact⟨rfl,1+n,hn,d4⟩
  rintro f a4 Z ⟨-,rfl,fs,hfl,hfs,rfl⟩
  rw[Bh] at hfl
  refine⟨_,hI,⟨rfl,nQl (aQ (by rw[lQm,lQm];omega))⟩,⟨_,rfl⟩,gs++fs,by rw[lQa];omega,λg hg=> ?_,gA (by omega) hW,gA (by omega) hZ,by rw[il hI,Qzq],ex.put (by omega) kl⟩
  rcases mQa.mp hg with hg|hg
  ·obtain⟨i,G,a,h1,h2,h3,h4⟩:=hgs g hg
   exact⟨i,G,a,by omega,h2,h3,h4⟩
  ·obtain⟨h1,a,h2,h3⟩:=hfs g hg
   exact⟨j,G,a,by omega,Y,h2,by rw[h1];exact a3,h3⟩
 rintro f W ⟨⟨b6,rfl⟩,gs,hgl,hgs,hW6,hZ6,hI6,e6⟩
 rw[fB] at hgl hgs
 have f3:=(gQs.mp hI6).1
 refine aK (El (aw (dQ (dv (aP ⟨by show 0<=_;decide,aw (dQ (dv (aP ⟨by show 0<=_;decide,aP ⟨_,_,rfl,?_⟩⟩)))⟩)))))
 have e7:Ex k S (W++ [O.lst []]++ [O.lst []]):=e6.app.app
 have d5:(W++ [O.lst []]++ [O.lst []])[lw]?=some (.lst (H.map D.str)):=bq (bq hW6)
 have d9:(W++ [O.lst []]++ [O.lst []])[lz]?=some (.lst (e.map mV)):=bq (bq hZ6)
 have e0:(W++ [O.lst []]++ [O.lst []])[lz+1]?=some (.lst (gs.map cf)):=bq (bq hI6)
 have b5:(W++ [O.lst []]++ [O.lst []])[W.length]?=some (.lst (([]:List Rm).map Rm.d)):=bq a_
 have b2:(W++ [O.lst []]++ [O.lst []])[W.length+1]?=some (.lst ((bC []).map cf)):=by have:=a_ (S:=W++ [O.lst []]) (o:=O.lst []);rw[show(W++ [O.lst []]).length=W.length+1 by simp] at this;exact this
 show T _ [some (.ref k),some (.int B),some (.ref lw),some (.int A),some (.ref lz),some (.ref (lz+1)),b6,some (.ref W.length),some (.ref (W++ [O.lst []]).length),none,none,none,none,none,none,none,none,none,none,none,none,none,none,none] _ _
 rw[show(W++ [O.lst []]).length=W.length+1 by simp]
 have f9:=e6.len
 generalize (W++ [O.lst []]++ [O.lst []])=S7 at e7 d5 d9 e0 b5 b2⊢
 generalize W.length=lr at b5 b2 f3 f9⊢
 refine aK (gn (jm (aC rfl ⟨(A:Int),rfl,by omega,?_⟩)))
 refine⟨λj f t=>(∃b6 b9 L X R K J P I U N,f= [some (.ref k),some (.int B),some (.ref lw),some (.int A),some (.ref lz),some (.ref (lz+1)),b6,some (.ref lr),some (.ref (lr+1)),b9,L,X,R,K,J,P,I,U,N,none,none,none,none,none])/\∃u:List Rm,u.length=j/\(∀(i:Nat) (r:Rm),u[i]?=some r->H[i]?=some r.name/\zP gs r/\∃G,e[i]?=some G/\r.ae.map (·.1)=(H.drop 8).take G)/\t[lr]?=some (.lst (u.map Rm.d))/\t[lr+1]?=some (.lst ((bC u).map cf))/\t[lw]?=some (.lst (H.map D.str))/\t[lz]?=some (.lst (e.map mV))/\t[lz+1]?=some (.lst (gs.map cf))/\Ex k S t,⟨⟨_,_,_,_,_,_,_,_,_,_,_,rfl⟩,[],rfl,λi r hr=>by simp at hr,b5,b2,d5,d9,e0,e7⟩,λ_ _ _ _=>trivial,?_,?_⟩
 ·rintro j d f t F ⟨⟨b6,b9,L,X,R,K,J,P,I,U,N,rfl⟩,u,hrl,hrs,hR,hE,hW,hZ,hI,ex⟩
  obtain⟨rfl,hj⟩:=dM F
  obtain⟨G,Y⟩:∃G,e[j]?=some G:=⟨_,gQe (by omega)⟩
  have d8:=hsz2 G (mQg Y)
  have i1:(bC u).length<=6*u.length:=uP λr hr=>by
   obtain⟨i,hi⟩:=List.getElem?_of_mem hr
   exact(hrs i r hi).2.1.l3
  refine aW ?_
  refine FB (gs:=gs) ex kl (by omega) (by omega) (by omega) nw (by omega) (by omega) (by omega) (by omega) hW hZ hI hR hE d3 Y d8 (by omega) (by omega) (by omega) (by omega) λr a4 b9 L X R K J P I U N a3 f2 b8 d7 c2 a2 C=> ?_
  refine⟨⟨_,_,_,_,_,_,_,_,_,_,_,rfl⟩,u++ [r],by simp[hrl],λi r' a1=> ?_,d7,by rw[xY];exact c2,C.keep _ _ (by simp;omega) hW,C.keep _ _ (by simp;omega) hZ,C.keep _ _ (by simp;omega) hI,a2⟩
  by_cases c:i<u.length
  ·rw[QHq c] at a1
   exact hrs i r' a1
  ·rw[QQq (by omega)] at a1
   have hi:i-u.length=0:=by
    have:=(gQs.mp a1).1
    simp at this
    omega
   rw[hi] at a1
   cases a1
   have:i=u.length:=by omega
   rw[this,hrl]
   exact⟨a3,b8,G,Y,f2⟩
 rintro f S8 ⟨⟨b6,b9,L,X,R,K,J,P,I,U,N,rfl⟩,u,hrl,hrs,hR8,hE8,hW8,hZ8,hI8,e8⟩
 rw[fB] at hrl
 have i1:(bC u).length<=6*u.length:=uP λr hr=>by
  obtain⟨i,hi⟩:=List.getElem?_of_mem hr
  exact(hrs i r hi).2.1.l3
 have y8:Ex k S8 S8:=by obtain⟨a,b,c,hh⟩:=e8.pot;exact Ex.refl hh
 refine aK (cx (fK (kb (CC (S0:=S) (m:=2) (λl=>l.length<=2) rfl (by decide) (by decide) (qd (kb (x_ rfl hW8 (dB ⟨4,rfl,by omega,hW8,dG (n:=4) (xs:= [.int 0,.int 1,.int 2,.int 1]) rfl e8 (by decide) (by decide) rfl (by symm;exact⟨rfl,rfl⟩) λd S9 F e9 b1 _=> ?_⟩)))) λps SA f7 g5 eA c6=> ?_))))
 ·obtain⟨n,hn,rfl⟩:∃n:Nat,n<=2/\d=.int n:=by
   simp only[Qsq,QXq,or_false] at F
   rcases F with rfl|rfl|rfl|rfl
   ·exact⟨0,by omega,rfl⟩
   ·exact⟨1,by omega,rfl⟩
   ·exact⟨2,by omega,rfl⟩
   ·exact⟨1,by omega,rfl⟩
  exact⟨n,rfl,(H.drop 4).take n,by rw[Qxq];omega,by rw[Qxq];omega,rfl,e9,b1,λ_ _=>trivial⟩
 rw[lQm] at f7
 have d1:=c6.keep _ _ nw hW8
 refine aK (cx (fK (kb (CC (S0:=S) (m:=2) (λl=>l.length<=1) rfl (by decide) (by decide) (qd (kb (x_ rfl d1 (dB ⟨20,rfl,by omega,d1,dG (n:=3) (xs:= [.int 0,.int 0,.int 1]) rfl eA (by decide) (by decide) rfl (by symm;exact⟨rfl,rfl⟩) λd S9 F e9 b1 _=> ?_⟩)))) λos SB h0 i5 eB g6=> ?_))))
 ·obtain⟨n,hn,rfl⟩:∃n:Nat,n<=1/\d=.int n:=by
   simp only[Qsq,QXq,or_false] at F
   rcases F with rfl|rfl|rfl
   ·exact⟨0,by omega,rfl⟩
   ·exact⟨0,by omega,rfl⟩
   ·exact⟨1,by omega,rfl⟩
  exact⟨n,rfl,(H.drop 20).take n,by rw[Qxq];omega,by rw[Qxq];omega,rfl,e9,b1,λ_ _=>trivial⟩
 rw[lQm] at h0
 have a9:Ex k S8 SB:=c6.trans g6
 refine aK (cx (dQ (dv (aP ⟨by show 0<=_;decide,?_⟩))))
 have h7:=a9.len
 have j2:=(gQs.mp hE8).1
 have eC:Ex k S (SB++ [O.lst []]):=eB.app
 have d2:(SB++ [O.lst []])[lw]?=some (.lst (H.map D.str)):=bq (a9.keep _ _ nw hW8)
 have c3:(SB++ [O.lst []])[lr+1]?=some (.lst ((bC u).map cf)):=bq (a9.keep _ _ (by omega) hE8)
 have c5:(SB++ [O.lst []])[lr]?=some (.lst (u.map Rm.d)):=bq (a9.keep _ _ (by omega) hR8)
 have b3:(SB++ [O.lst []])[SB.length]?=some (.lst (([]:List (List (Str×Nat)×List Rw)).map fA)):=a_
 generalize (SB++ [O.lst []])=SC at eC d2 c3 c5 b3⊢
 generalize SB.length=lh at b3 h7⊢
 refine aK (gn (jm (dG (n:=6) (xs:= [.int 2,.int 2,.int 3,.int 1,.int 2,.int 4]) rfl eC (by decide) (by decide) rfl (by symm;exact⟨rfl,rfl⟩) λd SD F eD a5 _=> ?_)))
 obtain⟨nh,i6,j1,rfl⟩:∃n:Nat,1<=n/\n<=4/\d=.int n:=by
  simp only[Qsq,QXq,or_false] at F
  rcases F with rfl|rfl|rfl|rfl|rfl|rfl
  ·exact⟨2,by omega,by omega,rfl⟩
  ·exact⟨2,by omega,by omega,rfl⟩
  ·exact⟨3,by omega,by omega,rfl⟩
  ·exact⟨1,by omega,by omega,rfl⟩
  ·exact⟨2,by omega,by omega,rfl⟩
  ·exact⟨4,by omega,by omega,rfl⟩
 refine⟨(nh:Int),rfl,by omega,?_⟩
 refine⟨λj f t=>(∃b6 b9 L X R K J P I U N a7 a6,f= [some (.ref k),some (.int B),some (.ref lw),some (.int A),some (.ref lz),some (.ref (lz+1)),b6,some (.ref lr),some (.ref (lr+1)),b9,L,X,R,K,J,P,I,U,N,some (.tup (ps.map lG)),some (.tup (os.map lG)),some (.ref lh),a7,a6])/\∃M:List (List (Str×Nat)×List Rw),M.length=j/\(∀p∈M,vw (bC u) (os.map (·.1)) (ps.map (·.1)) p)/\t[lh]?=some (.lst (M.map fA))/\t[lr]?=some (.lst (u.map Rm.d))/\t[lr+1]?=some (.lst ((bC u).map cf))/\t[lw]?=some (.lst (H.map D.str))/\Ex k S t,⟨⟨_,_,_,_,_,_,_,_,_,_,_,_,_,rfl⟩,[],rfl,λ_ h=>(nomatch h),a5.keep _ _ (by omega) b3,a5.keep _ _ (by omega) c5,a5.keep _ _ (by omega) c3,a5.keep _ _ nw d2,eD⟩,λ_ _ _ _=>trivial,?_,?_⟩
 ·rintro j d f t F ⟨⟨b6,b9,L,X,R,K,J,P,I,U,N,a7,a6,rfl⟩,M,hhl,hhs,hH,hR,hE,hW,ex⟩
  obtain⟨rfl,hj⟩:=dM F
  refine aW ?_
  refine EL ex kl (by omega) nw (by omega) (by omega) hW hE hH d3 (by omega) (by omega) (by omega) (by omega) m1 m4 λp a4 J I a7 a6 b8 f1 a2 C=> ?_
  refine⟨⟨_,_,_,_,_,_,_,_,_,_,_,_,_,rfl⟩,M++ [p],by simp[hhl],λq hq=> ?_,f1,C.keep _ _ (by simp;omega) hR,C.keep _ _ (by simp;omega) hE,C.keep _ _ (by simp;omega) hW,a2⟩
  rcases mQa.mp hq with hq|hq
  ·exact hhs q hq
  ·rw[Qfq.mp hq];exact b8
 rintro f SE ⟨⟨b6,b9,L,X,R,K,J,P,I,U,N,a7,a6,rfl⟩,M,hhl,hhs,hH,hR,hE,hW,eE⟩
 rw[fB] at hhl
 have f8:∀g∈gs,g∈bC u:=λg hg=>by
  obtain⟨i,G,a,h1,h2,h3,h4,h5⟩:=hgs g hg
  have c4:=gQe (l:=u) (i:=i) (by omega)
  obtain⟨g1,_,j5,g2,g3⟩:=hrs i _ c4
  rw[h2] at g2
  cases g2
  have:(u[i].name,g.2)∈bC u:=BC (j:=a) c4 (by rw[g3,List.getElem?_take,Qhq h3,List.getElem?_drop];exact h5)
  rw[h4] at g1
  rw[←QdQ g1] at this
  exact this
 have f0:d0 ⟨u,ps,os,M⟩:=by
  refine⟨names_nodup f6 λi r hr=>(hrs i r hr).1,by show u.length<=4;omega,by show ps.length<=6;omega,by show os.length<=6;omega,by show M.length<=4;omega,by show 0<M.length;omega,λp hp=>by have:=g5 p hp;omega,λp hp=>by have:=i5 p hp;omega,λr hr=> ?_,hhs⟩
  obtain⟨i,hi⟩:=List.getElem?_of_mem hr
  exact(hrs i r hi).2.1.sub f8
 refine dX (cv (aw (fK (ff (cK (aC rfl (bS hR ⟨rfl,?_⟩)))))))
 refine aw (aC rfl (aw (aC rfl (aw (fK (ff (cK (aC rfl (bS hH ⟨rfl,?_⟩)))))))))
 refine aP ⟨by show 4<=_;decide,?_⟩
 refine q_ eE kl (λk z=>(nomatch z)) (eR (cZ.low ⟨u,ps,os,M⟩)) λa b c=> ?_
 exact h ⟨u,ps,os,M⟩ _ f0 (uI h8 λi r hr=>(hrs i r hr).1) x.set y.set (by simp)
end
end W28
namespace DL
open PySem PySem.Spec L2
def Hn{k:cD}{S:aG}{js:List (Option Nat)}{f:eN}{g:lB}{i:bx}{Q:List D->aG->Prop}(P:cD->Prop)(F:D->D)(w:P (mh js k)) (h:E f k S λp e=>p.2.stays e p.1/\p.1.length<=1000∧
   (∀d∈p.1,∀a,P a->Tg g d a e λc S2=>S2=e/\P c/\E i c e λy m=>y=F d/\m=e)/\Q (p.1.map F) e):E (bH js (kc f) g bQ i) k S Q:=by
 refine gu (qd (h.mono λp e t=> ?_))
 obtain⟨u,hl,r,q⟩:=t
 refine⟨λn a j b=>j=e/\b=(p.1.take n).map F/\P a,⟨rfl,rfl,w⟩,λn a j b h=>by rw[h.1];exact u,λn d a j b l h=> ?_,λa j b h=> ?_⟩
 ·obtain⟨rfl,rfl,h3⟩:=h
  obtain⟨c,S2,s,rfl,h4,h5⟩:=r d (mQg l) a h3
  refine⟨c,S2,s,ic ?_⟩
  rw[Qhq rfl]
  refine h5.mono λy m o=> ?_
  obtain⟨v,x⟩:=o
  subst v x
  have z:=(gQs.mp l).1
  refine⟨?_,rfl,?_,h4⟩
  ·rw[lQm,Qxq]
   exact aQ (by omega)
  ·rw[QYq,l]
   simp
 ·obtain⟨rfl,rfl,_⟩:=h
  rw[QEq]
  exact q
def rq{α:Type}{o:cD}{S:aG}{js:List (Option Nat)}{f:eN}{g:lB}{k:bx}{Q:List D->aG->Prop}(P:cD->Prop)(enc G:α->D)(B:P (mh js o)) (h:E f o S λp i=>∃xs:List α,p.1=xs.map enc/\p.2.stays i p.1/\xs.length<=1000∧
   (∀x∈xs,∀a,P a->Tg g (enc x) a i λc S2=>S2=i/\P c/\E k c i λy r=>y=G x/\r=i)/\Q (xs.map G) i):E (bH js (kc f) g bQ k) o S Q:=by
 refine gu (qd (h.mono λp i w=> ?_))
 obtain⟨xs,s,z,hl,u,q⟩:=w
 refine⟨λn a m b=>m=i/\b=(xs.take n).map G/\P a,⟨rfl,rfl,B⟩,λn a m b h=>by rw[h.1];exact z,λn d a m b l h=> ?_,λa m b h=> ?_⟩
 ·obtain⟨rfl,rfl,h3⟩:=h
  have l:p.1[n]?=some d:=l
  rw[s,gQm] at l
  obtain⟨x,j,rfl⟩:=oQm.mp l
  obtain⟨c,S2,v,rfl,h4,h5⟩:=u x (mQg j) a h3
  refine⟨c,S2,v,ic ?_⟩
  rw[Qhq rfl]
  refine h5.mono λy r t=> ?_
  obtain⟨A,C⟩:=t
  subst A C
  have F:=(gQs.mp j).1
  refine⟨?_,rfl,?_,h4⟩
  ·rw[lQm,Qxq]
   exact aQ (by omega)
  ·rw[QYq,j]
   simp
 ·obtain⟨rfl,rfl,_⟩:=h
  have e:p.1.length=xs.length:=by rw[s,lQm]
  show Q ((xs.take p.1.length).map G) _
  rw[e,QEq]
  exact q
def bV{S:aG}{d:D}{Q:Res->aG->Prop}(hd:∀k,d≠.ref k)(hl:b_ 0 d=true)(q:Q (.d d) S):Op (settle S d S) λp=>Q p.1 p.2:=gR rf (QEq) hd (eR hl) q
def DS{S:aG}{ds:List D}{Q:Res->aG->Prop}(hl:bJ 0 ds=true)(q:Q (.l ds) S):Op (fm S ds S) λp=>Q p.1 p.2:=l9 rf (QEq) (i_ hl) q
end DL
namespace W28
open PySem PySem.Spec L2 DL
structure cp where
 room:Int
 deed:Int
 row:Int
 given:Int
 told:Int
structure cN where
 vals:List Int
 within:Int
 row:List Int
 ag:List Int
 aa:List (List (Int×Int))
structure bt where
 aj:List cN
 ai:List (Int×List Int)
 ak:List Int
 af:List (List Int×List cp)
def dh(l:List Int):D:=.tup (l.map D.int)
def cp.d(f:cp):D:=.tup [.int f.room,.int f.deed,.int f.row,.int f.given,.int f.told]
def pairD(p:Int×Int):D:=.tup [.int p.1,.int p.2]
def eh(l:List (Int×Int)):D:=.tup (l.map pairD)
def cN.d(r:cN):D:=.tup [dh r.vals,.int r.within,dh r.row,dh r.ag,.tup (r.aa.map eh)]
def zx(p:Int×List Int):D:=.tup [.int p.1,dh p.2]
def Ba(h:List Int×List cp):D:=.tup [dh h.1,.tup (h.2.map cp.d)]
def bt.d(s:bt):D:=.tup [.tup (s.aj.map cN.d),.tup (s.ai.map zx),dh s.ak,.tup (s.af.map Ba)]
def kU(l:List Int):b_ 0 (dh l)=true:=by simp only[dh,b_];exact a8 λ_ _=>rfl
def q0(l:List (Int×Int)):b_ 0 (eh l)=true:=by simp only[eh,b_];exact a8 λ_ _=>rfl
def cN.low(r:cN):b_ 0 r.d=true:=by
 simp only[cN.d,b_,bJ,kU,Bool.and_true,Bool.true_and]
 exact a8 λl _=>q0 l
def yX(p:Int×List Int):b_ 0 (zx p)=true:=by simp only[zx,b_,bJ,kU,Bool.and_true]
def yH(h:List Int×List cp):b_ 0 (Ba h)=true:=by
 simp only[Ba,b_,bJ,kU,Bool.and_true,Bool.true_and]
 exact a8 λ_ _=>rfl
def bt.low(s:bt):b_ 0 s.d=true:=by
 simp only[bt.d,b_,bJ,kU,Bool.and_true,Bool.true_and,QCq]
 exact⟨a8 λr _=>r.low,a8 λp _=>yX p,a8 λh _=>yH h⟩
def e_(ts:List (Str×Nat)):List Int:=ts.map λp=>(p.2:Int)
def cX(r:Rm):cN:=⟨e_ r.ao,-1,[],[],r.aa.map λ_=> []⟩
def Eo:cp:=⟨-1,-1,0,0,0⟩
def bR(w:cZ):bt:=⟨w.aj.map cX,w.ai.map λp=>((p.2:Int),[]),e_ w.ak,w.af.map λh=>(e_ h.1,[Eo])⟩
section
variable{S:aG}{Q:Res->aG->Prop}
def jE{ts:List (Str×Nat)}(l:ts.length<=1000)(h:Q (.d (dh (e_ ts))) S):Fn fQ [.tup (ts.map lG)] S Q:=by
 refine bN ?_
 unfold mj
 symm
 apply Hn (λc=>∃a b,c= [a,b]) (λd=>match d with|.tup [_,v]=>v|d=>d) ⟨none,none,rfl⟩ ?_
 refine⟨trivial,by simpa using l,λd g c f=> ?_,?_⟩
 ·obtain⟨p,_,rfl⟩:=Qkq.mp g
  obtain⟨a,b,rfl⟩:=f
  refine dP rfl (aB (aW (aB (aW (bf ?_)))))
  apply⟨rfl,⟨_,_,rfl⟩,?_⟩
  exact⟨rfl,rfl⟩
 ·have e:(ts.map lG).map (λd=>match d with|.tup [_,v]=>v|d=>d)=(e_ ts).map D.int:=by
   simp only[e_,QPq]
   rfl
  rw[e]
  exact bV (d:=dh (e_ ts)) (λk z=>(nomatch z)) (kU _) h
def tN{r:Rm}(a:r.ao.length<=6)(b:r.aa.length<=6)(h:Q (.d (cX r).d) S):Fn iu [r.d] S Q:=by
 refine bN ?_
 unfold kL
 symm
 apply dP rfl (aB (aW (aB (aW (aB (aW (aB (aW (aB (aW (bf ?_)))))))))))
 apply jE (by omega) ?_
 apply⟨by decide,?_⟩
 apply⟨by decide,?_⟩
 apply G3 (λ_=>.tup []) ?_
 refine⟨trivial,by simp;omega,λd c=> ?_,?_⟩
 ·symm
  exact⟨by decide,rfl,rfl⟩
 ·symm
  refine⟨by show 5<=_;decide,?_⟩
  have e:D.tup ((r.aa.map Es).map λ_=>D.tup [])=D.tup ((cX r).aa.map eh):=by
   simp only[cX,QPq]
   rfl
  rw[e]
  exact bV (d:=(cX r).d) (λk z=>(nomatch z)) (cN.low _) h
def Dg{w:cZ}(o:d0 w)(h:Q (.d (bR w).d) S):Fn vC [w.d] S Q:=by
 refine bN ?_
 unfold zN
 symm
 apply dP rfl (aB (aW (aB (aW (aB (aW (aB (aW (bf ?_)))))))))
 apply⟨by decide,?_⟩
 have n:=o.l1
 have l:=o.l2
 have q:=o.l3
 have m:=o.l4
 apply rq (α:=Rm) (λc=>∃a,c= [a]) Rm.d (λr=>(cX r).d) ⟨none,rfl⟩ ?_
 refine⟨w.aj,rfl,trivial,by omega,λr f c e=> ?_,?_⟩
 ·obtain⟨a,rfl⟩:=e
  apply aW ⟨rfl,⟨_,rfl⟩,?_⟩
  exact tN (o.rm r f).l1 (o.rm r f).l2 ⟨rfl,rfl⟩
 symm
 apply rq (α:=Str×Nat) (λc=>∃a b,c= [a,b]) lG (λp=>zx ((p.2:Int),[])) ⟨none,none,rfl⟩ ?_
 refine⟨w.ai,rfl,trivial,by omega,λr f c e=> ?_,?_⟩
 ·obtain⟨a,b,rfl⟩:=e
  refine dP rfl (aB (aW (aB (aW (bf ?_)))))
  apply⟨rfl,⟨_,_,rfl⟩,?_⟩
  apply⟨by decide,?_⟩
  exact⟨by show 2<=_;decide,rfl,rfl⟩
 symm
 apply jE (by omega) ?_
 apply rq (α:=List (Str×Nat)×List Rw) (λc=>∃a b,c= [a,b,some Eo.d]) fA (λh=>Ba (e_ h.1,[Eo])) ⟨none,none,rfl⟩ ?_
 refine⟨w.af,rfl,trivial,by omega,λr f c e=> ?_,?_⟩
 ·obtain⟨a,b,rfl⟩:=e
  refine dP rfl (aB (aW (aB (aW (bf ?_)))))
  apply⟨rfl,⟨_,_,rfl⟩,?_⟩
  refine jE (by have:=(o.hd r f).l1;omega) ?_
  symm
  refine⟨by show 1<=_;decide,?_⟩
  symm
  exact⟨by show 2<=_;decide,rfl,rfl⟩
 symm
 refine⟨by show 4<=_;decide,?_⟩
 have g:w.aj.map (λr=>(cX r).d)=(bR w).aj.map cN.d:=by simp only[bR,QPq];rfl
 have i:w.ai.map (λp=>zx ((p.2:Int),[]))=(bR w).ai.map zx:=by simp only[bR,QPq];rfl
 have j:w.af.map (λh=>Ba (e_ h.1,[Eo]))=(bR w).af.map Ba:=by simp only[bR,QPq];rfl
 rw[g,i,j]
 exact bV (d:=(bR w).d) (λk z=>(nomatch z)) (bt.low _) h
end
end W28
namespace DL
open PySem PySem.Spec L2
section
variable{Γ:cD}{S:aG}
def ui{f:bx}{Q:D->aG->Prop}(h:E f Γ S λd a=>∃i,d=.int i/\Q (.int (-i)) a):E (vf f) Γ S Q:=by
 obtain⟨d,a,b,i,rfl,q⟩:=h
 exact⟨_,a,by unfold vf;rw[b];rfl,q⟩
def ka{f:bx}{lo hi:EF}{Q:D->aG->Prop}(h:E f Γ S λd b=>E lo Γ b λl S2=>E hi Γ S2 λu a=>∃ds,d=.tup ds/\Q (.tup (fV ds l u)) a):E (rZ f lo hi) Γ S Q:=by
 obtain⟨d,b,c,l,S2,e,u,a,g,ds,rfl,q⟩:=h
 exact⟨_,a,by unfold rZ;rw[c];simp only[Qbq];rw[e];simp only[Qbq];rw[g];rfl,q⟩
def IC{i j:Nat}{f:fU}{Q:Out->Prop}(h:E f Γ S λds c=>∃a b,ds= [a,b]/\Q (.nx ((Γ.set i (some a)).set j (some b)) c)):T (w_ i j f) Γ S Q:=by
 obtain⟨ds,c,d,a,b,rfl,q⟩:=h
 exact⟨_,by unfold w_;rw[d];rfl,q⟩
end
def Cn{α:Type}{xs:List α}{i:Nat}(h:i<=xs.length):fV xs none (some (i:Int))=xs.take i:=by
 unfold fV
 rw[HT.qT,HT.qk,Nat.min_eq_left h]
 simp
def jk{α:Type}{xs:List α}{i:Nat}(h:i<=xs.length):fV xs (some (i:Int)) none=xs.drop i:=by
 unfold fV
 rw[HT.qT,HT.qk,Nat.min_eq_left h]
 rw[List.take_of_length_le]
 simp
def wG{α:Type}{xs:List α}(h:0<xs.length):fV xs none (some (-1))=xs.dropLast:=by
 unfold fV
 rw[HT.qT]
 show(xs.drop 0).take (HT.dF xs.length xs.length (some (-1))-0)=_
 rw[show HT.dF xs.length xs.length (some (-1))=xs.length-1 by simp only[HT.dF];rw[Qhq (by omega)];omega]
 simp[List.dropLast_eq_take]
def yb{α:Type}{xs:List α}{x:α}(h:xs.getLast? =some x):kh xs (-1)=some x:=by
 have c:0<xs.length:=by
  cases xs with
  |nil=>cases h
  |cons a b=>simp
 unfold kh Ep
 rw[Quq (by omega),Qhq (by omega)]
 rw[List.getLast?_eq_getElem?] at h
 simp only[Qbq]
 rw[show((-1:Int)+(xs.length:Int)).toNat=xs.length-1 by omega]
 exact h
end DL
namespace W28
open PySem PySem.Spec L2 DL
section
variable{S:aG}{Q:Res->aG->Prop}
def bK{s:bt}{h:Nat}{vs:List Int}{fs:List cp}{f:cp}(a:s.af[h]?=some (vs,fs))(b:fs.getLast? =some f)(q:Q (.d f.d) S):Fn cB [s.d,.int h] S Q:=by
 refine bN ?_
 unfold kf
 symm
 apply ax rfl ?_
 refine ax (d:=Ba (vs,fs)) (aM (by rw[gQm,a];rfl)) ?_
 symm
 refine ax rfl ?_
 apply ui ?_
 refine⟨1,rfl,?_⟩
 refine ax (d:=f.d) (yb (by rw[QfQ,b];rfl)) ?_
 exact bV (λk z=>(nomatch z)) rfl q
def progOf(w:cZ)(h:Nat)(f:cp):Option (List Rw):=
 if f.room= -1 then(w.af[h]?).map (·.2) else if 0<=f.room/\0<=f.deed then(w.aj[f.room.toNat]?).bind λr=>(r.ae[f.deed.toNat]?).map (·.2) else none
def k8{α:Type}{xs:List α}{i:Int}{x:α}(a:0<=i)(h:xs[i.toNat]?=some x):kh xs i=some x:=by
 obtain⟨n,rfl⟩:∃n:Nat,i=n:=⟨i.toNat,by omega⟩
 exact aM (by simpa using h)
def xP(rs:List Rw):b_ 0 (.tup (rs.map Rw.d))=true:=by simp only[b_];exact a8 λr _=>r.low
def eQ{w:cZ}{h:Nat}{f:cp}{pr:List Rw}(a:progOf w h f=some pr)(q:Q (.d (.tup (pr.map Rw.d))) S):Fn eg [w.d,.int h,f.d] S Q:=by
 refine bN ?_
 unfold pU
 apply aK (IC ?_)
 apply ax rfl ?_
 apply ax rfl ?_
 apply⟨_,_,rfl,?_⟩
 refine dW ?_
 dsimp only
 unfold progOf at a
 by_cases c:f.room= -1
 ·rw[Qhq c] at a
  obtain⟨i,b,rfl⟩:=oQm.mp a
  rw[Qeq c,Qhq rfl]
  symm
  apply ax rfl ?_
  refine ax (d:=fA i) (aM (by rw[gQm,b];rfl)) ?_
  symm
  refine ax rfl ?_
  exact bV (λk z=>(nomatch z)) (xP _) q
 ·rw[Quq c] at a
  split at a
  ·rename_i e
   obtain⟨r,b,a⟩:=ar a
   obtain⟨g,j,rfl⟩:=oQm.mp a
   rw[Qdq c,Quq (by decide)]
   symm
   apply ax rfl ?_
   refine ax (d:=r.d) (k8 e.1 (by rw[gQm,b];rfl)) ?_
   symm
   apply ax rfl ?_
   refine ax (d:=iw g) (k8 e.2 (by rw[gQm,j];rfl)) ?_
   symm
   refine ax rfl ?_
   exact bV (λk z=>(nomatch z)) (xP _) q
  ·cases a
def dH{xs:List D}{i:Nat}{d:D}(hi:i<xs.length)(hl:xs.length<=900)(f:bJ 0 xs=true)(g:b_ 0 d=true)(q:Q (.d (.tup (xs.set i d))) S):Fn dr [.tup xs,.int i,d] S Q:=by
 refine bN ?_
 unfold mz
 symm
 apply ka ?_
 apply cH (cE ?_)
 apply⟨_,rfl,_,rfl,?_⟩
 refine⟨by show 1<=_;decide,?_⟩
 rw[Cn (by omega)]
 refine dI (by simp only[Qxq,Qnq,QGq];exact nQl (aQ (by omega))) ?_
 apply ka ?_
 apply cE ?_
 refine⟨_,rfl,cH ⟨_,rfl,?_⟩⟩
 rw[show((i:Int)+1)=((i+1:Nat):Int) by omega,jk (by omega)]
 refine dI (by simp only[lQa,Qxq,List.length_drop,Qnq,QGq];exact nQl (aQ (by omega))) ?_
 have e:xs.take i++ [d]++xs.drop (i+1)=xs.set i d:=by
  rw[List.set_eq_take_append_cons_drop,Qhq hi]
  simp
 rw[e]
 refine bV (λk z=>(nomatch z)) ?_ q
 simp only[b_]
 refine qo λz b=> ?_
 rcases QTq b with b|rfl
 ·have c:∀l:List D,bJ 0 l=true->∀z∈l,b_ 0 z=true:=by
   intro l
   induction l with
   |nil=>intro _ z b;cases b
   | cons a l j=>
     intro h z b
     simp only[bJ,QCq] at h
     rcases Qsq.mp b with rfl|b
     · exact h.1
     · exact j h.2 z b
  exact c xs f z b
 ·exact g
end
section
variable{S:aG}{Q:Res->aG->Prop}
def map_set{α b:Type}(f:α->b)(l:List α)(i:Nat)(a:α):(l.set i a).map f=(l.map f).set i (f a):=by
 rw[List.map_set]
def aY(s:bt):∀k,s.d≠.ref k:=λk z=>(nomatch z)
def da{s:bt}{i:Nat}{r:cN}(hi:i<s.aj.length)(hl:s.aj.length<=900)(q:Q (.d ({s with aj:=s.aj.set i r}:bt).d) S):Fn cU [s.d,.int i,r.d] S Q:=by
 refine bN ?_
 unfold l_
 symm
 apply ax rfl ?_
 apply dH (by simpa using hi) (by simpa using hl) (a8 λr _=>r.low) r.low ?_
 refine⟨by show 1<=_;decide,?_⟩
 apply ka ?_
 apply cE ?_
 refine⟨_,rfl,cH ⟨_,rfl,?_⟩⟩
 refine dI (by show 4<=_;decide) ?_
 refine bV (d:=({s with aj:=s.aj.set i r}:bt).d) (aY _) (bt.low _) q|>λz=> ?_
 rw[←map_set]
 exact z
def gJ{s:bt}{i:Nat}{p:Int×List Int}(hi:i<s.ai.length)(hl:s.ai.length<=900)(q:Q (.d ({s with ai:=s.ai.set i p}:bt).d) S):Fn fe [s.d,.int i,zx p] S Q:=by
 refine bN ?_
 unfold mf
 symm
 apply ax rfl ?_
 apply ax rfl ?_
 apply dH (by simpa using hi) (by simpa using hl) (a8 λr _=>yX r) (yX p) ?_
 refine⟨by show 2<=_;decide,?_⟩
 apply ka ?_
 apply cE ?_
 refine⟨_,rfl,cH ⟨_,rfl,?_⟩⟩
 refine dI (by show 4<=_;decide) ?_
 refine bV (d:=({s with ai:=s.ai.set i p}:bt).d) (aY _) (bt.low _) q|>λz=> ?_
 rw[←map_set]
 exact z
def gK{s:bt}{i:Nat}{vs:List Int}{fs:List cp}(hi:i<s.af.length)(hl:s.af.length<=900)(q:Q (.d ({s with af:=s.af.set i (vs,fs)}:bt).d) S):Fn eW [s.d,.int i,dh vs,.tup (fs.map cp.d)] S Q:=by
 refine bN ?_
 unfold mH
 apply dX (bX (ka ?_))
 apply cH (cE ?_)
 apply⟨_,rfl,_,rfl,?_⟩
 apply ax rfl ?_
 refine⟨by show 2<=_;decide,?_⟩
 symm
 apply dH (d:=Ba (vs,fs)) (by simpa using hi) (by simpa using hl) (a8 λr _=>yH r) (yH (vs,fs)) ?_
 refine⟨by show 1<=_;decide,?_⟩
 refine dI (by show 4<=_;decide) ?_
 refine bV (d:=({s with af:=s.af.set i (vs,fs)}:bt).d) (aY _) (bt.low _) q|>λz=> ?_
 rw[←map_set]
 exact z
def hU{s:bt}{h:Nat}{vs:List Int}{fs:List cp}{f:cp}(a:s.af[h]?=some (vs,fs))(b:0<fs.length)(c:fs.length<=900)(hl:s.af.length<=900)(q:Q (.d ({s with af:=s.af.set h (vs,fs.dropLast++ [f])}:bt).d) S):Fn dw [s.d,.int h,f.d] S Q:=by
 refine bN ?_
 unfold fP
 symm
 apply ax rfl ?_
 refine ax (d:=Ba (vs,fs)) (aM (by rw[gQm,a];rfl)) ?_
 apply dP rfl (aB (aW (aB (aW (bf ?_)))))
 apply ka ?_
 apply cH (cE (ui ?_))
 apply⟨1,rfl,_,rfl,_,rfl,?_⟩
 refine⟨by show 1<=_;decide,?_⟩
 rw[wG (by simpa using b)]
 refine dI (by simp only[List.length_dropLast,lQm,Qnq,QGq];exact nQl (aQ (by omega))) ?_
 symm
 have e:(fs.map cp.d).dropLast++ [f.d]=(fs.dropLast++ [f]).map cp.d:=by rw[Qzq,List.map_dropLast];rfl
 rw[e]
 refine gK (gQs.mp a).1 hl ?_
 exact bV (aY _) (bt.low _) q
def oZ{s:bt}{h:Nat}{vs:List Int}{fs:List cp}{f:cp}{n:Int}(c:s.af[h]?=some (vs,fs))(e:fs.getLast? =some f)(g:fs.length<=900)(hl:s.af.length<=900)(q:Q (.d ({s with af:=s.af.set h (vs,fs.dropLast++ [{f with row:=n}])}:bt).d) S):Fn jB [s.d,.int h,.int n] S Q:=by
 refine bN ?_
 unfold wB
 symm
 apply bK c e ?_
 apply ka ?_
 apply cH (cE ?_)
 apply⟨_,rfl,_,rfl,?_⟩
 refine⟨by show 1<=_;decide,?_⟩
 refine dI (by show 3<=_;decide) ?_
 apply ka ?_
 apply cE ?_
 refine⟨_,rfl,cH ⟨_,rfl,?_⟩⟩
 refine dI (by show 5<=_;decide) ?_
 symm
 have i:0<fs.length:=by
  cases fs with
  |nil=>cases e
  |cons a b=>simp
 refine hU (f:={f with row:=n}) c i g hl ?_
 exact bV (aY _) (bt.low _) q
def iK(r:cN)(h:Int):cN:=if r.within= -1 then{r with within:=h} else{r with row:=r.row++ [h]}
def bW(r:cN):cN:=match r.ag,r.row with
 |a::l,_=>{r with within:=a,ag:=l}
 | [],a::l=>{r with within:=a,row:=l}
 | [],[]=>{r with within:= -1}
def sf{s:bt}{i:Nat}{h:Int}{r:cN}(a:s.aj[i]?=some r)(hl:s.aj.length<=900)(lr:r.row.length<=900)(q:Q (.d ({s with aj:=s.aj.set i (iK r h)}:bt).d) S):Fn kN [s.d,.int i,.int h] S Q:=by
 have b:=(gQs.mp a).1
 refine bN ?_
 unfold sk
 symm
 apply ax rfl ?_
 refine ax (d:=r.d) (aM (by rw[gQm,a];rfl)) ?_
 apply dP rfl (aB (aW (aB (aW (aB (aW (aB (aW (aB (aW (bf ?_)))))))))))
 refine dW ?_
 dsimp only
 unfold iK at q
 by_cases c:r.within= -1
 ·rw[Qhq c] at q
  rw[Qeq c,Qhq rfl]
  symm
  refine⟨by show 5<=_;decide,?_⟩
  symm
  refine da (r:={r with within:=h}) b hl ?_
  exact bV (aY _) (bt.low _) q
 ·rw[Quq c] at q
  rw[Qdq c,Quq (by decide)]
  symm
  refine⟨by show 1<=_;decide,?_⟩
  refine dI (by simp only[lQm,Qnq,QGq];exact nQl (aQ (by omega))) ?_
  symm
  refine⟨by show 5<=_;decide,?_⟩
  symm
  have e:D.tup (r.row.map D.int++ [D.int h])=dh (r.row++ [h]):=by simp[dh]
  rw[e]
  refine da (r:={r with row:=r.row++ [h]}) b hl ?_
  exact bV (aY _) (bt.low _) q
end
section
variable{S:aG}{Q:Res->aG->Prop}
def Co{α:Type}{a:α}{l:List α}:kh (a::l) 0=some a:=aM (j:=0) rfl
def vg{S:aG}{ds:List D}{Q:Bool->Prop}(q:Q (!ds.isEmpty)):Op (zf S (.tup ds)) Q:=⟨_,rfl,q⟩
def wH{s:bt}{i:Nat}{r:cN}(k:s.aj[i]?=some r)(hl:s.aj.length<=900)(q:Q (.d ({s with aj:=s.aj.set i (bW r)}:bt).d) S):Fn oy [s.d,.int i] S Q:=by
 have j:=(gQs.mp k).1
 refine bN ?_
 unfold zI
 symm
 apply ax rfl ?_
 refine ax (d:=r.d) (aM (by rw[gQm,k];rfl)) ?_
 refine dP rfl (aB (aW (aB (aW (aB (aW (aB (aW (aB (aW (bf ?_)))))))))))
 obtain⟨b,g,f,m,h⟩:=r
 symm
 refine vg ?_
 cases m with
 | cons a l=>
   apply bc (λ_=> ?_) (λc=>by cases c)
   apply ax (d:=.int a) Co ?_
   apply ka ?_
   apply cE ?_
   apply⟨_,rfl,cH ⟨_,rfl,?_⟩⟩
   refine⟨by show 5<=_;decide,?_⟩
   symm
   have e:D.tup (fV ((a::l).map D.int) (some 1) none)=dh l:=by
     rw[show(some (1:Int))=some ((1:Nat):Int) from rfl,jk (by simp)]
     rfl
   rw[e]
   refine da (r:=⟨b,a,f,l,h⟩) j hl ?_
   exact bV (aY _) (bt.low _) q
 | nil=>
   refine bc (λc=>by cases c) (λ_=> ?_)
   apply cq ?_
   refine vg ?_
   cases f with
   | cons a l=>
     apply bc (λ_=> ?_) (λc=>by cases c)
     apply ax (d:=.int a) Co ?_
     apply ka ?_
     apply cE ?_
     apply⟨_,rfl,cH ⟨_,rfl,?_⟩⟩
     refine⟨by show 5<=_;decide,?_⟩
     symm
     have e:D.tup (fV ((a::l).map D.int) (some 1) none)=dh l:=by
       rw[show(some (1:Int))=some ((1:Nat):Int) from rfl,jk (by simp)]
       rfl
     rw[e]
     refine da (r:=⟨b,a,l,[],h⟩) j hl ?_
     exact bV (aY _) (bt.low _) q
   | nil=>
     refine bc (λc=>by cases c) (λ_=> ?_)
     apply cq ?_
     refine⟨by show 5<=_;decide,?_⟩
     symm
     refine da (r:=⟨b,-1,[],[],h⟩) j hl ?_
     exact bV (aY _) (bt.low _) q
def fh{α:Type}{enc:α->D}{nm:α->Str}{xs:List α}(he:∀a,∃r,enc a=.tup (.str (nm a)::r))(hl:xs.length<=1000)(q:Q (.l ((xs.map nm).map D.str)) S):Fn dS [.tup (xs.map enc)] S Q:=by
 refine bN ?_
 unfold oB
 symm
 apply rq (α:=α) (λb=>∃a,b= [a]) enc (λa=>.str (nm a)) ⟨none,rfl⟩ ?_
 refine⟨xs,rfl,trivial,hl,λr d b c=> ?_,?_⟩
 ·obtain⟨a,rfl⟩:=c
  refine aW ⟨rfl,⟨_,rfl⟩,?_⟩
  obtain⟨f,e⟩:=he r
  rw[e]
  symm
  exact ax Co ⟨rfl,rfl⟩
 ·have e:xs.map (λa=>D.str (nm a))=(xs.map nm).map D.str:=by rw[QPq];rfl
  rw[e]
  exact DS (a8 λ_ _=>rfl) q
theorem me:∀a:List Str,ip (a.map D.str)=some (a.map V.str)
 | []=>rfl
 |s::a=>by simp only[QDq,ip,vG,Qbq];rw[me a];rfl
theorem wa{x:Str}:∀{ns:List Str},x∈ns->∃j,ox (.str x) (ns.map V.str)=some j/\ns[j]?=some x
 | [],h=>by cases h
 | n::ns,h=>by
   by_cases c:n=x
   · subst c
     exact⟨0,by simp[ox,lJ],rfl⟩
   · obtain⟨j,a,b⟩:=wa (ns:=ns) ((Qsq.mp h).resolve_left (Ne.symm c))
     exact⟨j+1,by simp only[QDq,ox];rw[a];simp[lJ,c],by simpa using b⟩
end
end W28
namespace DL
open PySem PySem.Spec L2
section
variable{Γ:cD}{S:aG}
def pF{T:String}{f:bx}{Q:D->aG->Prop}(h:E f Γ S λd a=>Op (rF a T d) λk=>Q (.bl k) a):E (nu T f) Γ S Q:=by
 obtain⟨d,a,b,k,c,q⟩:=h
 exact⟨_,a,by unfold nu;rw[b];simp only[Qbq];rw[c];rfl,q⟩
def qQ{b:Bool}{Q:Bool->Prop}(q:Q b):Op (zf S (.bl b)) Q:=⟨_,rfl,q⟩
def IB{f g:bx}{Q:D->aG->Prop}(h:E f Γ S λx b=>E g Γ b λy S2=>∃k a z v,x=.ref k/\y=.str z/\S2[k]?=some (.dct a)/\rE a (.inr z)=some v/\Q v S2):E (Je f g) Γ S Q:=by
 obtain⟨x,b,c,y,S2,d,k,a,z,v,rfl,rfl,h1,h2,q⟩:=h
 exact⟨v,S2,by unfold Je;rw[c];simp only[Qbq];rw[d];simp only[Qbq,h1,tm,h2],q⟩
def Dd{i j:Int}{Q:D->Prop}(q:Q (.int (if j<i then j else i))):Op (minD [.int i,.int j]) Q:=⟨_,rfl,q⟩
def Ju{i j:Int}{Q:D->Prop}(q:Q (.int (if j>i then j else i))):Op (maxD [.int i,.int j]) Q:=⟨_,rfl,q⟩
end
end DL
namespace W28
open PySem PySem.Spec L2 DL
def H_(o:Str)(a b:Int):Int:=
 if o="plus" then(if 9<a+b then 9 else a+b) else if o="minus" then(if 0>a-b then 0 else a-b) else if o="less" then(if a<b then 1 else 0)
 else if o="same" then(if a=b then 1 else 0) else(if a≠0/\b≠0 then 1 else 0)
def yr(th wt:Str->Int):Tr->Int
 |.num n=>n
 |.word x=>th x
 |.waits b=>if 0<wt b then 1 else 0
 |.no t=>if yr th wt t=0 then 1 else 0
 |.two o a b=>H_ o (yr th wt a) (yr th wt b)
def Bv{o:Str}{a b:Int}(c:0<=a/\a<=9)(d:0<=b/\b<=9):0<=H_ o a b/\H_ o a b<=9:=by
 unfold H_
 repeat' split
 all_goals omega
theorem k0{th wt:Str->Int}{ws bs:List Str}(h:∀x∈ws,0<=th x/\th x<=9):∀{t:Tr},t.Ok ws bs->0<=yr th wt t/\yr th wt t<=9
 |.num n,ho=>by have:n<=9:=ho;simp only[yr];omega
 |.word x,ho=>h x ho
 |.waits b,_=>by simp only[yr];split <;>omega
 |.no t,_=>by simp only[yr];split <;>omega
 |.two o a b,ho=>Bv (k0 h ho.2.1) (k0 h ho.2.2)
section
variable{S:aG}{Q:Res->aG->Prop}
def du{S:aG}{i:Int}{Q:Res->aG->Prop}(q:Q (.d (.int i)) S):Op (settle S (.int i) S) λp=>Q p.1 p.2:=bV (λk z=>(nomatch z)) rfl q
def p7{o:Str}{a b:Int}(q:Q (.d (.int (H_ o a b))) S):Fn f_ [.str o,.int a,.int b] S Q:=by
 refine bN ?_
 unfold iS
 unfold H_ at q
 symm
 refine gF ?_
 dsimp only
 by_cases i:o="plus"
 ·rw[Qhq i] at q
  rw[Qeq i,Qhq rfl]
  symm
  refine Dd ?_
  exact du q
 rw[Quq i] at q
 rw[Qdq i,Quq (by decide)]
 apply cq ?_
 refine gF ?_
 dsimp only
 by_cases j:o="minus"
 ·rw[Qhq j] at q
  rw[Qeq j,Qhq rfl]
  symm
  refine Ju ?_
  exact du q
 rw[Quq j] at q
 rw[Qdq j,Quq (by decide)]
 apply cq ?_
 refine gF ?_
 dsimp only
 by_cases g:o="less"
 ·rw[Qhq g] at q
  rw[Qeq g,Qhq rfl]
  symm
  by_cases c:a<b
  ·rw[Qhq c] at q
   rw[Qeq c,Qhq rfl]
   symm
   exact du q
  ·rw[Quq c] at q
   rw[Qdq c,Quq (by decide)]
   symm
   exact du q
 rw[Quq g] at q
 rw[Qdq g,Quq (by decide)]
 apply cq ?_
 refine gF ?_
 dsimp only
 by_cases f:o="same"
 ·rw[Qhq f] at q
  rw[Qeq f,Qhq rfl]
  symm
  refine dW ?_
  dsimp only
  by_cases c:a=b
  ·rw[Qhq c] at q
   rw[Qeq c,Qhq rfl]
   symm
   exact du q
  ·rw[Quq c] at q
   rw[Qdq c,Quq (by decide)]
   symm
   exact du q
 rw[Quq f] at q
 rw[Qdq f,Quq (by decide)]
 apply cq ?_
 refine lX ?_
 dsimp only
 by_cases e:a=0
 ·rw[Quq (λz=>z.1 e)] at q
  rw[Qeq e]
  show if (false=true) then _ else _
  rw[Quq (by decide)]
  show if (false=true) then _ else _
  rw[Quq (by decide)]
  symm
  exact du q
 ·rw[Qdq e]
  show if (true=true) then _ else _
  rw[Qhq rfl]
  symm
  refine lX ?_
  dsimp only
  by_cases h:b=0
  ·rw[Quq (λz=>z.2 h)] at q
   rw[Qeq h]
   show if (false=true) then _ else _
   rw[Quq (by decide)]
   symm
   exact du q
  ·rw[Qhq ⟨e,h⟩] at q
   rw[Qdq h]
   show if (true=true) then _ else _
   rw[Qhq rfl]
   symm
   exact du q
end
def fG{c:cD}{S:aG}{T:String}{f:bx}{d:D}{b:Bool}{Q:Bool->aG->Prop}(h:E f c S λx a=>x=d/\a=S)(hd:rF S T d=some b)(q:Q b S):E (lK (nu T f)) c S Q:=by
 refine D7 (pF (h.mono λx a e=> ?_))
 obtain⟨g,i⟩:=e
 subst g i
 exact⟨b,hd,qQ q⟩
def FK{o:Str}(h:o∈ops):o≠"waits" /\o≠"not":=by
 simp only[ops,Qsq,QXq,or_false] at h
 rcases h with rfl|rfl|rfl|rfl|rfl <;>exact⟨by decide +kernel,by decide +kernel⟩
theorem gg{th wt:Str->Int}{ws bs:List Str}{i j:Nat}{e kws:List (Key×D)}{S:aG}(hi:S[i]?=some (.dct e))(h:S[j]?=some (.dct kws))(f:∀x∈ws,rE e (.inr x)=some (.int (th x)))(g:∀b∈bs,rE kws (.inr b)=some (.int (wt b))):
  ∀(n:Nat) (t:Tr) {Q:Res->aG->Prop},t.Ok ws bs->t.dep<=n->Q (.d (.int (yr th wt t))) S->Fn (fS n) [t.d,.ref i,.ref j] S Q
 |0,t,Q,_,hd,_=>by cases t <;>simp[Tr.dep] at hd
 | n+1,t,Q,ho,hd,q=>by
   refine bN ?_
   unfold oE
   cases t with
   | num v=>
     refine aK (dZ (fG (d:=.int v) (aC rfl ⟨rfl,rfl⟩) rfl ?_))
     apply bc (λ_=> ?_) (λc=>by cases c)
     exact du q
   | word x=>
     refine aK (dZ (fG (d:=.str x) (aC rfl ⟨rfl,rfl⟩) rfl ?_))
     refine bc (λc=>by cases c) (λ_=>cq ?_)
     refine aK (dZ (fG (d:=.str x) (aC rfl ⟨rfl,rfl⟩) rfl ?_))
     refine bc (λ_=> ?_) (λc=>by cases c)
     apply dX (IB ?_)
     refine⟨_,_,_,_,rfl,rfl,hi,f x ho,?_⟩
     exact du q
   | waits b=>
     refine aK (dZ (fG (d:=.tup [.str "waits",.str b]) (aC rfl ⟨rfl,rfl⟩) rfl ?_))
     refine bc (λc=>by cases c) (λ_=>cq ?_)
     refine aK (dZ (fG (d:=.tup [.str "waits",.str b]) (aC rfl ⟨rfl,rfl⟩) rfl ?_))
     apply bc (λc=>by cases c) (λ_=>cq ?_)
     apply ax rfl ?_
     refine gF ?_
     dsimp only
     rw[Qeq rfl,Qhq rfl]
     symm
     apply IB ?_
     refine ax rfl ?_
     apply⟨_,_,_,_,rfl,rfl,h,g b ho,?_⟩
     simp only[yr] at q
     by_cases c:0<wt b
     · rw[Qhq c] at q
       rw[Qeq c,Qhq rfl]
       symm
       exact du q
     · rw[Quq c] at q
       rw[Qdq c,Quq (by decide)]
       symm
       exact du q
   | no t=>
     have m:t.dep<=n:=by simp only[Tr.dep] at hd;omega
     refine aK (dZ (fG (d:=.tup [.str "not",t.d]) (aC rfl ⟨rfl,rfl⟩) rfl ?_))
     refine bc (λc=>by cases c) (λ_=>cq ?_)
     refine aK (dZ (fG (d:=.tup [.str "not",t.d]) (aC rfl ⟨rfl,rfl⟩) rfl ?_))
     apply bc (λc=>by cases c) (λ_=>cq ?_)
     apply ax rfl ?_
     refine gF ?_
     dsimp only
     rw[Qdq (show¬(("not":Str)="waits") by decide +kernel),Quq (by decide)]
     apply cq ?_
     apply ax rfl ?_
     apply gg hi h f g n t ho m ?_
     apply ax rfl ?_
     refine gF ?_
     dsimp only
     rw[Qeq rfl,Qhq rfl]
     symm
     refine dW ?_
     dsimp only
     simp only[yr] at q
     by_cases c:yr th wt t=0
     · rw[Qhq c] at q
       rw[Qeq c,Qhq rfl]
       symm
       exact du q
     · rw[Quq c] at q
       rw[Qdq c,Quq (by decide)]
       symm
       exact du q
   | two o a b=>
     have k:a.dep<=n:=by simp only[Tr.dep] at hd;omega
     have l:b.dep<=n:=by simp only[Tr.dep] at hd;omega
     obtain⟨r,p⟩:=FK ho.1
     refine aK (dZ (fG (d:=.tup [.str o,a.d,b.d]) (aC rfl ⟨rfl,rfl⟩) rfl ?_))
     refine bc (λc=>by cases c) (λ_=>cq ?_)
     refine aK (dZ (fG (d:=.tup [.str o,a.d,b.d]) (aC rfl ⟨rfl,rfl⟩) rfl ?_))
     apply bc (λc=>by cases c) (λ_=>cq ?_)
     apply ax rfl ?_
     refine gF ?_
     dsimp only
     rw[Qdq r,Quq (by decide)]
     apply cq ?_
     apply ax rfl ?_
     apply gg hi h f g n a ho.2.1 k ?_
     apply ax rfl ?_
     refine gF ?_
     dsimp only
     rw[Qdq p,Quq (by decide)]
     apply cq ?_
     apply ax rfl ?_
     apply ax rfl ?_
     apply gg hi h f g n b ho.2.2 l ?_
     refine p7 ?_
     exact du q
end W28
namespace DL
open PySem PySem.Spec L2
def uK{l:List (Key×D)}{k:Key}(h:k∈l.map (·.1)):∃d,rE l k=some d/\(k,d)∈l:=by
 unfold rE
 cases e:l.find? λg=>decide (g.1=k) with
 | none=>
   obtain⟨p,a,rfl⟩:=Qkq.mp h
   have:=List.find?_eq_none.mp e p a
   simp at this
 | some p=>
   have b:=List.find?_some e
   have c:=List.mem_of_find?_eq_some e
   have f:p.1=k:=by simpa using b
   exact⟨p.2,rfl,by rw[←f];exact c⟩
def wY{l:List (Key×D)}{k:Key}{v:D}{p:Key×D}(h:p∈putD l k v):p∈l\/p=(k,v):=by
 unfold putD at h
 split at h
 ·obtain⟨q,a,e⟩:=Qkq.mp h
  split at e
  ·rename_i c
   rw[←e,c]
   exact .inr rfl
  ·rw[←e]
   exact .inl a
 ·rcases mQa.mp h with h|h
  ·exact .inl h
  ·exact .inr (Qfq.mp h)
def lg{l:List (Key×D)}{k x:Key}{v:D}(h:x=k\/x∈l.map (·.1)):x∈(putD l k v).map (·.1):=by
 unfold putD
 split
 ·rename_i c
  have a:∀p∈l,(if p.1=k then(p.1,v) else p).1=p.1:=λp _=>by split <;>rfl
  have e:(l.map λp=>if p.1=k then(p.1,v) else p).map (·.1)=l.map (·.1):=by
   rw[QPq]
   exact List.map_congr_left a
  rw[e]
  rcases h with rfl|h
  ·obtain⟨p,b,d⟩:=List.any_eq_true.mp c
   exact Qkq.mpr ⟨p,b,by simpa using d⟩
  ·exact h
 ·rw[Qzq]
  rcases h with rfl|h
  ·exact Qoq _ (by simp)
  ·exact List.mem_append_left _ h
theorem mR:∀{more l:List (Key×D)} {p:Key×D},p∈cV l more->p∈l\/p∈more
 | [],l,p,h=>.inl h
 | q::more,l,p,h=>by
   rcases mR (more:=more) (l:=putD l q.1 q.2) h with h|h
   · rcases wY h with h|rfl
     · exact .inl h
     · exact .inr (QBq ..)
   · exact .inr (Qpq _ h)
theorem gq:∀{more l:List (Key×D)} {x:Key},x∈l.map (·.1)\/x∈more.map (·.1)->x∈(cV l more).map (·.1)
 | [],l,x,h=>h.elim id λz=>by cases z
 | q::more,l,x,h=>by
   refine gq (more:=more) (l:=putD l q.1 q.2) ?_
   rcases h with h|h
   · exact .inl (lg (.inr h))
   · rcases Qsq.mp h with rfl|h
     · exact .inl (lg (.inl rfl))
     · exact .inr h
theorem sr:∀a:List Str,xJ (a.map D.str)=some (a.map Sum.inr)
 | []=>rfl
 |s::a=>by simp only[QDq,xJ,tm,Qbq];rw[sr a];rfl
section
variable{Γ:cD}{S:aG}
def Kr{Q:D->aG->Prop}(q:Q (.ref S.length) (S++ [.dct []])):E K2 Γ S Q:=⟨_,_,rfl,q⟩
def Hu{f g:eN}{Q:D->aG->Prop}(h:E f Γ S λp b=>E g Γ b λr S2=>∃a:List Str,p.1=a.map D.str/\(p.2.stays S2 p.1/\p.1.length=r.1.length)/\Q (.ref S2.length) (S2++ [.dct (cV [] ((a.map Sum.inr).zip r.1))])):E (HY f g) Γ S Q:=by
 obtain⟨p,b,c,r,S2,d,a,e,i,q⟩:=h
 refine⟨_,_,?_,q⟩
 unfold HY
 rw[c]
 simp only[Qbq]
 rw[d]
 simp only[Qbq]
 rw[Qhq i,e,sr]
 rfl
def Jb{f g:bx}{Q:D->aG->Prop}(h:E f Γ S λx a=>E g Γ a λy S2=>∃k j b l m,x=.ref k/\y=.ref j/\k≠j/\a[k]?=some (.dct b)/\S2[k]?=some (.dct l)/\S2[j]?=some (.dct m)/\l.length+m.length<=sizeLine/\Q .non (S2.set k (.dct (cV l m)))):E (Fe f g) Γ S Q:=by
 obtain⟨x,a,c,y,S2,d,k,j,b,l,m,rfl,rfl,hn,h0,h1,h2,h3,q⟩:=h
 exact⟨_,_,by unfold Fe;rw[c];simp only[Qbq];rw[d];simp only[Qbq];rw[Qhq hn];simp only[h0,h1,h2];rw[Qhq h3],q⟩
def KQ{f g h:bx}{Q:Out->Prop}(w:E h Γ S λd b=>E f Γ b λx S2=>E g Γ S2 λy a=>∃k l z,x=.ref k/\y=.str z/\a[k]?=some (.dct l)/\l.length<sizeLine/\Q (.nx Γ (a.set k (.dct (putD l (.inr z) d))))):T (Ka f g h) Γ S Q:=by
 obtain⟨d,b,c,x,S2,e,y,a,i,k,l,z,rfl,rfl,h1,h2,q⟩:=w
 exact⟨_,by unfold Ka;rw[c];simp only[Qbq];rw[e];simp only[Qbq];rw[i];simp only[Qbq,h1,tm];rw[Qhq h2],q⟩
def KC{α:Type}{n:Nat}{js:List (Option Nat)}{i:sR}{g:lB}{s t:bx}{Q:Out->Prop}(P:cD->Prop)(enc:α->D)(e:α->Str)(f:α->D)(N:P (mh js Γ)) (h:E i Γ S λp d=>∃xs:List α,p.1=xs.map enc/\p.2 d/\xs.length<=1000∧
   (∀x∈xs,∀c,P c->Tg g (enc x) c d λj S2=>S2=d/\P j/\E s j d λy A=>y=.str (e x)/\A=d/\E t j d λz B=>z=f x/\B=d)∧
   Q (.nx (Γ.set n (some (.ref d.length))) (d++ [.dct (cV [] (xs.map λx=>(Sum.inr (e x),f x)))]))):T (Iy n (oT js i g bQ s t)) Γ S Q:=by
 obtain⟨⟨R,W⟩,d,J,xs,rfl,hW,hl,hs,q⟩:=h
 have F:∀(l:List (Key×D)) (k:Key) (v:D),(putD l k v).length<=l.length+1:=λl k v=>by
  unfold putD
  split <;>simp
 have H:∀(m:List α) (c:cD) (b:List (Key×D)),(∀y∈m,y∈xs)->P c->b.length+m.length<=1000->∃r,iP g bQ s t W (m.map enc) c d b=some (r,d)/\r=cV b (m.map λx=>(Sum.inr (e x),f x)):=by
  intro m
  induction m with
  |nil=>intro c b _ _ _;exact⟨b,by simp only[List.map_nil,iP];rw[Qhq hW],rfl⟩
  | cons a m I=>
    intro c b C K o
    obtain⟨j,S2,u,rfl,hp1,y,A,e3,rfl,rfl,z,B,e4,rfl,rfl⟩:=hs a (C a (QBq ..)) c K
    have w:=F b (Sum.inr (e a)) (f a)
    simp only[Qnq] at o
    obtain⟨r,M,G⟩:=I j (putD b (Sum.inr (e a)) (f a)) (λy L=>C y (Qpq _ L)) hp1 (by omega)
    refine⟨r,?_,G⟩
    simp only[QDq,iP]
    rw[Qhq hW,u]
    simp only[Qbq,bQ,if_true]
    rw[e3]
    simp only[Qbq]
    rw[e4]
    simp only[Qbq,tm]
    rw[Qhq (aQ (by omega))]
    exact M
 obtain⟨r,u,rfl⟩:=H xs _ [] (λ_ h=>h) N (by simpa using hl)
 exact⟨_,by unfold Iy oT;rw[J];simp only[Qbq];rw[u];rfl,q⟩
end
def mZ{a:cD}{S:aG}{f g:eN}{Q:(List D×(aG->Prop))->aG->Prop}(h:E f a S λp b=>E g a b λr S2=>(p.2.stays S2 p.1/\p.1.length<=r.1.length)/\Q (tF p.1 r.1,λS=>p.2.stays S p.1/\r.2.stays S r.1) S2):E (tj f g) a S Q:=by
 obtain⟨p,b,c,r,S2,d,e,q⟩:=h
 exact⟨_,S2,by unfold tj;rw[c];simp only[Qbq];rw[d];simp only[Qbq];rw[Qhq e],q⟩
def ke(l:List (Key×D)):Prop:=∀p∈l,∃v:Int,p.2=.int v/\0<=v/\v<=9
def ke.merge{l m:List (Key×D)}(b:ke l)(c:ke m):ke (cV l m):=λp a=>(mR a).elim (b p) (c p)
def ke.put{l:List (Key×D)}{k:Key}{v:Int}(h:ke l)(c:0<=v)(b:v<=9):ke (putD l k (.int v)):=λp a=>by
 rcases wY a with a|rfl
 ·exact h p a
 ·exact⟨v,rfl,c,b⟩
def numAt(l:List (Key×D))(x:Str):Int:=match rE l (.inr x) with|some (.int v)=>v|_=>0
def oa{l:List (Key×D)}(h:ke l){x:Str}(i:(Sum.inr x:Key)∈l.map (·.1)):rE l (.inr x)=some (.int (numAt l x))/\0<=numAt l x/\numAt l x<=9:=by
 obtain⟨d,b,f⟩:=uK i
 obtain⟨v,a,g,c⟩:=h _ f
 have a:d=.int v:=a
 subst a
 have e:numAt l x=v:=by unfold numAt;rw[b]
 rw[e]
 exact⟨b,g,c⟩
def Cj{c:List Str}{vs:List Int}(h:∀v∈vs,0<=v/\v<=9):ke ((c.map (Sum.inr:Str->Key)).zip (vs.map D.int)):=λp b=>by
 have d:p.2∈vs.map D.int:=(QeQ (show(p.1,p.2)∈_ from b)).2
 obtain⟨v,a,e⟩:=Qkq.mp d
 exact⟨v,e.symm,h v a⟩
def Ej{a:List Str}{ds:List D}(h:a.length=ds.length):((a.map (Sum.inr:Str->Key)).zip ds).map (·.1)=a.map Sum.inr:=by
 rw[List.map_fst_zip]
 simpa using Nat.le_of_eq h
end DL
namespace W28
open PySem PySem.Spec L2 DL
def dN(ts:List (Str×Nat))(vs:List Int):List (Key×D):=cV [] (((ts.map (·.1)).map Sum.inr).zip (vs.map D.int))
def B8(w:cZ)(s:bt)(ts:List (Str×Nat))(vs:List Int):List (Key×D):=cV (dN w.ak s.ak) (dN ts vs)
def t6(r:Rm)(rs:cN)(a:Int):List (Key×D):=putD (dN r.ao rs.vals) (.inr "given") (.int a)
def AM(r:Rm)(rs:cN):List (Key×D):=cV [] ((r.aa.zip rs.aa).map λp=>(Sum.inr p.1.1,D.int (p.2.length:Nat)))
def gU{ts:List (Str×Nat)}{vs:List Int}(h:∀v∈vs,0<=v/\v<=9):ke (dN ts vs):=ke.merge (λp a=>by cases a) (Cj h)
def gS{ts:List (Str×Nat)}{vs:List Int}(hl:ts.length=vs.length){x:Str}(h:x∈ts.map (·.1)):(Sum.inr x:Key)∈(dN ts vs).map (·.1):=by
 refine gq (.inr ?_)
 rw[Ej (by simpa using hl)]
 exact Qkq.mpr ⟨x,h,rfl⟩
structure pX(S S':aG):Prop where
 len:S.length<=S'.length
 eq:∀j,j<S.length->S'[j]?=S[j]?
def pX.refl{S:aG}:pX S S:=⟨Qmq _,λ_ _=>rfl⟩
def pX.app{S a G:aG}(x:pX S a):pX S (a++G):=⟨by rw[lQa];have:=x.len;omega,λj b=>by rw[QHq (by have:=x.len;omega)];exact x.eq j b⟩
def pX.put{S a:aG}{r:Nat}{o:O}(x:pX S a)(c:S.length<=r):pX S (a.set r o):=⟨by simpa using x.len,λj b=>by rw[QKq (by omega)];exact x.eq j b⟩
def Dc{S a:aG}{d:D}{Q:Res->aG->Prop}(x:pX S a)(hd:∀k,d≠.ref k)(hl:b_ 0 d=true)(q:Q (.d d) S):Op (settle S d a) λp=>Q p.1 p.2:=by
 refine gR ⟨x.len,λk o c e=>.inl (by rw[←x.eq k c];exact e)⟩ ?_ hd (eR hl) q
 apply List.ext_getElem?
 intro j
 by_cases b:j<S.length
 ·rw[List.getElem?_take_of_lt b]
  exact x.eq j b
 ·rw[List.getElem?_eq_none (by rw[Qxq];omega),List.getElem?_eq_none (by omega)]
def gP:∀a:Str×Nat,∃r,lG a=.tup (.str a.1::r):=λa=>⟨_,rfl⟩
def z_:∀a:Str×Str,∃r,Es a=.tup (.str a.1::r):=λa=>⟨_,rfl⟩
section
variable{S:aG}{Q:Res->aG->Prop}
theorem sy:∀{m l:List (Key×D)},(cV l m).length<=l.length+m.length
 | [],l=>Qmq _
 | q::m,l=>by
   have a:(cV (putD l q.1 q.2) m).length<=(putD l q.1 q.2).length+m.length:=sy
   have b:(putD l q.1 q.2).length<=l.length+1:=by unfold putD;split <;>simp
   show(cV (putD l q.1 q.2) m).length<=_
   simp only[Qnq]
   omega
def r_{ts:List (Str×Nat)}{vs:List Int}:(dN ts vs).length<=ts.length:=by
 refine QAq sy ?_
 simp only[QGq,List.length_zip,lQm]
 omega
def wF{w:cZ}{s:bt}{h:Nat}{ts:List (Str×Nat)}{pr:List Rw}{vs:List Int}{fs:List cp}{f:cp}{t:Tr}(C:w.af[h]?=some (ts,pr))(p:s.af[h]?=some (vs,fs))(B:fs.getLast? =some f)(u:f.room= -1)
  (r:w.ak.length=s.ak.length) (o:ts.length=vs.length) (L:w.ak.length<=100) (K:ts.length<=100) (F:∀v∈s.ak,0<=v/\v<=9) (G:∀v∈vs,0<=v/\v<=9)
  (H:t.Ok (ts.map (·.1)++w.ak.map (·.1)) []) (hd:t.dep<=6) (q:Q (.d (.int (yr (numAt (B8 w s ts vs)) (λ_=>0) t))) S):Fn dz [w.d,s.d,.int h,t.d] S Q:=by
 have c:ke (B8 w s ts vs):=ke.merge (gU F) (gU G)
 refine bN ?_
 unfold lA
 symm
 apply bK p B ?_
 apply ax (d:=.int f.room) rfl ?_
 refine dW ?_
 dsimp only
 rw[Qeq u,Qhq rfl]
 symm
 apply Hu ?_
 apply ax rfl ?_
 apply fh (enc:=lG) (nm:=(·.1)) gP (by omega) ?_
 refine ax rfl ?_
 refine bT (ds:=s.ak.map D.int) ?_
 refine⟨_,rfl,⟨trivial,by simp only[lQm];exact r⟩,?_⟩
 dsimp only
 rw[show cV [] (((w.ak.map (·.1)).map (Sum.inr:Str->Key)).zip (s.ak.map D.int))=dN w.ak s.ak from rfl]
 apply aK (pA (Jb ?_))
 apply Hu ?_
 apply ax rfl ?_
 refine ax (d:=fA (ts,pr)) (aM (by rw[gQm,C];rfl)) ?_
 symm
 apply ax rfl ?_
 apply fh (enc:=lG) (nm:=(·.1)) gP (by omega) ?_
 apply ax rfl ?_
 refine ax (d:=Ba (vs,fs)) (aM (by rw[gQm,p];rfl)) ?_
 symm
 refine ax rfl ?_
 refine bT (ds:=vs.map D.int) ?_
 refine⟨_,rfl,⟨trivial,by simp only[lQm];exact o⟩,?_⟩
 dsimp only
 rw[show cV [] (((ts.map (·.1)).map (Sum.inr:Str->Key)).zip (vs.map D.int))=dN ts vs from rfl]
 have e:(S++ [O.dct (dN w.ak s.ak)])[S.length]?=some (.dct (dN w.ak s.ak)):=a_
 have g:(S++ [O.dct (dN w.ak s.ak)]).length=S.length+1:=by simp
 have A:pX S (S++ [O.dct (dN w.ak s.ak)]):=pX.refl.app
 show∃k j y l m,D.ref S.length=.ref k/\D.ref (S++ [O.dct (dN w.ak s.ak)]).length=.ref j/\k≠j/\(S++ [O.dct (dN w.ak s.ak)])[k]?=some (.dct y)/\(S++ [O.dct (dN w.ak s.ak)]++ [O.dct (dN ts vs)])[k]?=some (.dct l)/\(S++ [O.dct (dN w.ak s.ak)]++ [O.dct (dN ts vs)])[j]?=some (.dct m)/\_
 refine⟨_,_,_,_,_,rfl,rfl,by omega,e,bq e,a_,?_,?_⟩
 ·have J:=r_ (ts:=w.ak) (vs:=s.ak)
  have M:=r_ (ts:=ts) (vs:=vs)
  exact nQl (aQ (by omega))
 have i:((S++ [O.dct (dN w.ak s.ak)]++ [O.dct (dN ts vs)]).set S.length (.dct (cV (dN w.ak s.ak) (dN ts vs))))[S.length]?=some (.dct (B8 w s ts vs)):=il (bq e)
 have n:pX S ((S++ [O.dct (dN w.ak s.ak)]++ [O.dct (dN ts vs)]).set S.length (.dct (cV (dN w.ak s.ak) (dN ts vs)))):=A.app.put (Qmq _)
 generalize ((S++ [O.dct (dN w.ak s.ak)]++ [O.dct (dN ts vs)]).set S.length (.dct (cV (dN w.ak s.ak) (dN ts vs))))=S2 at i n⊢
 symm
 apply Kr ?_
 refine gg (th:=numAt (B8 w s ts vs)) (wt:=λ_=>0) (ws:=ts.map (·.1)++w.ak.map (·.1)) (bs:= []) (bq i) a_ (λx a=> ?_) (λb I=>by cases I) 6 t H hd ?_
 ·refine(oa c ?_).1
  refine gq ?_
  rcases mQa.mp a with a|a
  ·exact .inr (gS o a)
  ·exact .inl (gS r a)
 ·exact Dc n.app (λk z=>(nomatch z)) rfl q
end
section
variable{S:aG}{Q:Res->aG->Prop}
theorem xU:∀(bs:List (Str×Str)) (ls:List (List (Int×Int))),tF ((bs.map (·.1)).map D.str) (ls.map eh)=(bs.zip ls).map λp=>D.tup [.str p.1.1,eh p.2]
 | [],_=>rfl
 |_::_,[]=>rfl
 | b::bs,l::ls=>by
   have:=xU bs ls
   simp only[tF,QDq,List.zipWith_cons_cons,List.zip_cons_cons] at this⊢
   rw[this]
def wQ(r:Rm)(rs:cN)(x:Str):Int:=numAt (AM r rs) x
def CA{r:Rm}{rs:cN}(hl:r.aa.length=rs.aa.length){x:Str}(h:x∈r.aa.map (·.1)):rE (AM r rs) (.inr x)=some (.int (wQ r rs x)):=by
 have f:(Sum.inr x:Key)∈(AM r rs).map (·.1):=by
  refine gq (.inr ?_)
  rw[QPq]
  obtain⟨b,g,rfl⟩:=Qkq.mp h
  obtain⟨i,c,e⟩:=QbQ g
  refine Qkq.mpr ⟨(b,rs.aa[i]'(by omega)),?_,rfl⟩
  rw[←e]
  have:(r.aa.zip rs.aa)[i]?=some (r.aa[i],rs.aa[i]'(by omega)):=by
   rw[List.getElem?_zip_eq_some]
   exact⟨gQe c,gQe (by omega)⟩
  exact mQg this
 obtain⟨d,j,a⟩:=uK f
 have c:∃v:Int,d=.int v:=by
  rcases mR a with a|a
  ·cases a
  ·obtain⟨p,_,e⟩:=Qkq.mp a
   exact⟨_,(congrArg (·.2) e).symm⟩
 obtain⟨v,rfl⟩:=c
 unfold wQ DL.numAt
 rw[j]
def tx{w:cZ}{s:bt}{h i:Nat}{vs:List Int}{fs:List cp}{f:cp}{r:Rm}{rs:cN}{t:Tr}(G:s.af[h]?=some (vs,fs))(C:fs.getLast? =some f)(A:f.room=i)(o:w.aj[i]?=some r)(j:s.aj[i]?=some rs)
  (y:r.ao.length=rs.vals.length) (F:r.aa.length=rs.aa.length) (M:r.ao.length<=100) (K:r.aa.length<=100) (H:∀v∈rs.vals,0<=v/\v<=9) (u:0<=f.given/\f.given<=9)
  (I:t.Ok (r.ao.map (·.1)++cT) (r.aa.map (·.1))) (hd:t.dep<=6) (q:Q (.d (.int (yr (numAt (t6 r rs f.given)) (wQ r rs) t))) S):Fn dz [w.d,s.d,.int h,t.d] S Q:=by
 have g:ke (t6 r rs f.given):=(gU H).put u.1 u.2
 refine bN ?_
 unfold lA
 symm
 apply bK G C ?_
 apply ax (d:=.int f.room) rfl ?_
 refine dW ?_
 dsimp only
 rw[Qdq (show¬f.room= -1 by omega),Quq (by decide),A]
 apply cq ?_
 apply Hu ?_
 apply ax rfl ?_
 refine ax (d:=r.d) (aM (by rw[gQm,o];rfl)) ?_
 symm
 apply ax rfl ?_
 apply fh (enc:=lG) (nm:=(·.1)) gP (by omega) ?_
 apply ax rfl ?_
 refine ax (d:=rs.d) (aM (by rw[gQm,j];rfl)) ?_
 symm
 refine ax rfl ?_
 refine bT (ds:=rs.vals.map D.int) ?_
 refine⟨_,rfl,⟨trivial,by simp only[lQm];exact y⟩,?_⟩
 dsimp only
 rw[show cV [] (((r.ao.map (·.1)).map (Sum.inr:Str->Key)).zip (rs.vals.map D.int))=dN r.ao rs.vals from rfl]
 have B:pX S (S++ [O.dct (dN r.ao rs.vals)]):=pX.refl.app
 apply aK (KQ ?_)
 apply ax (d:=.int f.given) rfl ?_
 refine⟨_,_,_,rfl,rfl,a_,aQ (by have:=r_ (ts:=r.ao) (vs:=rs.vals);omega),?_⟩
 have m:((S++ [O.dct (dN r.ao rs.vals)]).set S.length (.dct (putD (dN r.ao rs.vals) (.inr "given") (.int f.given))))[S.length]?=some (.dct (t6 r rs f.given)):=il a_
 have n:pX S ((S++ [O.dct (dN r.ao rs.vals)]).set S.length (.dct (putD (dN r.ao rs.vals) (.inr "given") (.int f.given)))):=B.put (Qmq _)
 generalize ((S++ [O.dct (dN r.ao rs.vals)]).set S.length (.dct (putD (dN r.ao rs.vals) (.inr "given") (.int f.given))))=S2 at m n⊢
 apply aK (KC (α:=(Str×Str)×List (Int×Int)) (λe=>∃a b,e= [a,b]) (λp=>D.tup [.str p.1.1,eh p.2]) (λp=>p.1.1) (λp=>.int (p.2.length:Nat)) ⟨none,none,rfl⟩ (mZ ?_))
 apply ax rfl ?_
 refine ax (d:=r.d) (aM (by rw[gQm,o];rfl)) ?_
 symm
 apply ax rfl ?_
 apply fh (enc:=Es) (nm:=(·.1)) z_ (by omega) ?_
 apply ax rfl ?_
 refine ax (d:=rs.d) (aM (by rw[gQm,j];rfl)) ?_
 symm
 refine ax rfl ?_
 refine bT (ds:=rs.aa.map eh) ?_
 refine⟨⟨trivial,by simp only[lQm];omega⟩,r.aa.zip rs.aa,xU _ _,⟨trivial,trivial⟩,by rw[List.length_zip];omega,λp L e l=> ?_,?_⟩
 ·obtain⟨a,b,rfl⟩:=l
  refine dP rfl (aB (aW (aB (aW (bf ?_)))))
  apply⟨rfl,⟨_,_,rfl⟩,?_⟩
  apply⟨rfl,rfl,?_⟩
  refine bT (ds:=p.2.map pairD) ?_
  exact⟨by simp,rfl⟩
 symm
 refine gg (th:=numAt (t6 r rs f.given)) (wt:=wQ r rs) (ws:=r.ao.map (·.1)++cT) (bs:=r.aa.map (·.1)) (kws:=AM r rs) (bq m) a_ (λx c=> ?_) (λb J=>CA F J) 6 t I hd ?_
 ·refine(oa g ?_).1
  refine lg ?_
  rcases mQa.mp c with c|c
  ·exact .inr (gS y c)
  ·left
   rw[Qfq.mp c]
 ·exact Dc n.app (λk z=>(nomatch z)) rfl q
end
end W28
namespace DL
open PySem PySem.Spec L2
def rP{b:cD}{S:aG}{a:Bool}{f:bx}{g:eN}{Q:D->aG->Prop}(h:E f b S λx c=>E g b c λp S2=>∃v vs,vG x=some v/\ip p.1=some vs/\Q (.bl (if a then !Ee v vs else Ee v vs)) S2):E (vP a f g) b S Q:=by
 obtain⟨x,c,d,p,S2,e,v,vs,i,j,q⟩:=h
 exact⟨_,S2,by unfold vP;rw[d];simp only[Qbq];rw[e];simp only[Qbq];rw[i,j];rfl,q⟩
def nO{x:Str}{b:List Str}:Ee (.str x) (b.map V.str)=decide (x∈b):=by
 induction b with
 |nil=>rfl
 | cons a b d=>
   show(lJ (.str a) (.str x)||Ee (.str x) (b.map V.str))=_
   rw[d]
   simp only[lJ,Qsq]
   by_cases c:a=x
   · subst c;simp
   · have e:¬x=a:=λz=>c z.symm
     simp[c,e]
end DL
namespace W28
open PySem PySem.Spec L2 DL
section
variable{S:aG}{Q:Res->aG->Prop}
def eU(ns:List Str)(vs:List Int)(x:Str)(v:Int):List Int:=vs.set ((ox (.str x) (ns.map V.str)).getD 0) v
def nq{α:Type}{enc:α->D}{nm:α->Str}{xs:List α}{x:Str}(he:∀a,∃r,enc a=.tup (.str (nm a)::r))(hl:xs.length<=1000)(f:x∈xs.map nm)(q:((ox (.str x) ((xs.map nm).map V.str)).getD 0)<xs.length->Q (.d (.int ((ox (.str x) ((xs.map nm).map V.str)).getD 0:Nat))) S):Fn c9 [.tup (xs.map enc),.str x] S Q:=by
 refine bN ?_
 unfold oS
 obtain⟨j,e,h⟩:=wa f
 have i:j<xs.length:=by have:=(gQs.mp h).1;simpa using this
 rw[e] at q
 refine dX ?_
 have c:E (fM (eJ dS (aq (au 0) av))) ([D.tup (xs.map enc),D.str x].map some++List.replicate (2- [D.tup (xs.map enc),D.str x].length) none) S λp b=>p=((xs.map nm).map D.str,.fr)/\b=S:=by
  symm
  exact fh he hl ⟨rfl,rfl⟩
 obtain⟨p,b,g,rfl,rfl⟩:=c
 refine⟨.int j,b,?_,bV (λk z=>(nomatch z)) rfl (q i)⟩
 unfold HX
 rw[g]
 simp only[Qbq]
 rw[Qhq (show Tag.fr.isL=true from rfl)]
 show((au 1 _ b).bind _)=_
 rw[show au 1 ([D.tup (xs.map enc),D.str x].map some++List.replicate (2- [D.tup (xs.map enc),D.str x].length) none) b=some (.str x,b) from rfl]
 simp only[Qbq]
 rw[Qhq (show Tag.stays b _ .fr from trivial)]
 show(vG (.str x)).bind _=_
 simp only[vG,Qbq]
 rw[me]
 simp only[Qbq]
 rw[e]
 rfl
def D8{w:cZ}{s:bt}{h i:Nat}{vs:List Int}{fs:List cp}{f:cp}{r:Rm}{rs:cN}{x:Str}{v:Int}(k:s.af[h]?=some (vs,fs))(g:fs.getLast? =some f)(b:f.room=i)(j:w.aj[i]?=some r)(a:s.aj[i]?=some rs)
  (n:r.ao.length=rs.vals.length) (m:r.ao.length<=100) (l:s.aj.length<=100) (c:x∈r.ao.map (·.1))
  (q:Q (.d ({s with aj:=s.aj.set i {rs with vals:=eU (r.ao.map (·.1)) rs.vals x v}}:bt).d) S):Fn eZ [w.d,s.d,.int h,.str x,.int v] S Q:=by
 refine bN ?_
 unfold jK
 symm
 apply bK k g ?_
 apply ax (d:=.int f.room) rfl ?_
 refine lX ?_
 dsimp only
 rw[Qdq (show¬f.room= -1 by omega),b]
 show if (true=true) then _ else _
 rw[Qhq rfl]
 symm
 apply ax rfl ?_
 refine ax (d:=r.d) (aM (by rw[gQm,j];rfl)) ?_
 symm
 apply ax rfl ?_
 apply nq (enc:=lG) (nm:=(·.1)) gP (by omega) c λo=> ?_
 apply ax rfl ?_
 refine ax (d:=rs.d) (aM (by rw[gQm,a];rfl)) ?_
 symm
 apply ax rfl ?_
 refine dH (xs:=rs.vals.map D.int) (by rw[lQm];omega) (by rw[lQm];omega) (a8 λ_ _=>rfl) rfl ?_
 symm
 refine⟨by show 1<=_;decide,?_⟩
 apply ka ?_
 apply ax rfl ?_
 refine ax (d:=rs.d) (aM (by rw[gQm,a];rfl)) ?_
 apply cE ?_
 refine⟨_,rfl,cH ⟨_,rfl,?_⟩⟩
 refine dI (by show 5<=_;decide) ?_
 symm
 have e:({rs with vals:=eU (r.ao.map (·.1)) rs.vals x v}:cN).d=.tup ([.tup ((rs.vals.map D.int).set ((ox (.str x) ((r.ao.map (·.1)).map V.str)).getD 0) (.int v))]++fV [dh rs.vals,.int rs.within,dh rs.row,dh rs.ag,.tup (rs.aa.map eh)] (some 1) none):=by
  show D.tup [dh (eU _ _ _ _),_,_,_,_]=_
  unfold eU dh
  rw[map_set]
  rfl
 rw[←e]
 refine da (gQs.mp a).1 (by omega) ?_
 exact bV (aY _) (bt.low _) q
end
section
variable{S:aG}{Q:Res->aG->Prop}
def wj(w:cZ)(s:bt)(h:Nat)(ts:List (Str×Nat))(vs:List Int)(fs:List cp)(x:Str)(v:Int):bt:=
 if x∈w.ak.map (·.1) then{s with ak:=eU (w.ak.map (·.1)) s.ak x v} else{s with af:=s.af.set h (eU (ts.map (·.1)) vs x v,fs)}
def FM{w:cZ}{s:bt}{h:Nat}{ts:List (Str×Nat)}{pr:List Rw}{vs:List Int}{fs:List cp}{f:cp}{x:Str}{v:Int}(k:w.af[h]?=some (ts,pr))(a:s.af[h]?=some (vs,fs))(j:fs.getLast? =some f)(e:f.room= -1)
  (u:w.ak.length=s.ak.length) (r:ts.length=vs.length) (t:w.ak.length<=100) (o:ts.length<=100) (y:s.af.length<=100) (g:x∈ts.map (·.1)++w.ak.map (·.1))
  (q:Q (.d (wj w s h ts vs fs x v).d) S):Fn eZ [w.d,s.d,.int h,.str x,.int v] S Q:=by
 refine bN ?_
 unfold jK
 symm
 apply bK a j ?_
 apply ax (d:=.int f.room) rfl ?_
 refine lX ?_
 dsimp only
 rw[Qeq e]
 refine bc (λc=>by cases c) (λ_=>cq ?_)
 apply aK (dZ (cz (rP ?_)))
 apply ax rfl ?_
 apply fh (enc:=lG) (nm:=(·.1)) gP (by omega) ?_
 refine⟨_,_,rfl,me _,?_⟩
 unfold wj at q
 show if Ee (.str x) ((w.ak.map (·.1)).map V.str)=true then _ else _
 rw[nO]
 by_cases c:x∈w.ak.map (·.1)
 ·rw[Qhq c] at q
  rw[Qeq c,Qhq rfl]
  symm
  apply ax rfl ?_
  apply ax rfl ?_
  apply nq (enc:=lG) (nm:=(·.1)) gP (by omega) c λm=> ?_
  refine dH (xs:=s.ak.map D.int) (by rw[lQm];omega) (by rw[lQm];omega) (a8 λ_ _=>rfl) rfl ?_
  symm
  apply ax rfl ?_
  apply ax rfl ?_
  apply ax rfl ?_
  refine⟨by show 4<=_;decide,?_⟩
  rw[←map_set]
  exact bV (d:=({s with ak:=eU (w.ak.map (·.1)) s.ak x v}:bt).d) (aY _) (bt.low _) q
 ·rw[Quq c] at q
  rw[Qdq c,Quq (by decide)]
  refine cq ?_
  have b:x∈ts.map (·.1):=(mQa.mp g).resolve_right c
  symm
  apply ax rfl ?_
  refine ax (d:=Ba (vs,fs)) (aM (by rw[gQm,a];rfl)) ?_
  apply dP rfl (aB (aW (aB (aW (bf ?_)))))
  apply ax rfl ?_
  refine ax (d:=fA (ts,pr)) (aM (by rw[gQm,k];rfl)) ?_
  symm
  apply ax rfl ?_
  apply nq (enc:=lG) (nm:=(·.1)) gP (by omega) b λm=> ?_
  refine dH (xs:=vs.map D.int) (by rw[lQm];omega) (by rw[lQm];omega) (a8 λ_ _=>rfl) rfl ?_
  symm
  rw[←map_set]
  rw[show D.tup ((vs.set ((ox (.str x) ((ts.map (·.1)).map V.str)).getD 0) v).map D.int)=dh (eU (ts.map (·.1)) vs x v) from rfl]
  generalize eU (ts.map (·.1)) vs x v=nv at q⊢
  have i:h<s.af.length:=(gQs.mp a).1
  have n:s.af.length<=900:=by omega
  have l:Op (settle S ({s with af:=s.af.set h (nv,fs)}:bt).d S) λp=>Q p.1 p.2:=bV (aY _) (bt.low _) q
  exact gK i n l
end
section
variable{S:aG}{Q:Res->aG->Prop}
def fT(ns:List Str)(x:Str):Nat:=(ox (.str x) (ns.map V.str)).getD 0
def jG{ns:List Str}{x:Str}(h:x∈ns):fT ns x<ns.length/\ns[fT ns x]?=some x:=by
 obtain⟨j,b,a⟩:=wa h
 unfold fT
 rw[b]
 exact⟨(gQs.mp a).1,a⟩
def jq{α:Type}{enc:α->D}{nm:α->Str}{xs:List α}{x:Str}(he:∀a,∃r,enc a=.tup (.str (nm a)::r))(hl:xs.length<=1000)(b:x∈xs.map nm)(q:Q (.d (.int (fT (xs.map nm) x:Nat))) S):Fn c9 [.tup (xs.map enc),.str x] S Q:=nq he hl b λ_=>q
def mB{w:cZ}{s:bt}{h i:Nat}{vs:List Int}{fs:List cp}{f:cp}{r:Rm}{x:Str}(b:s.af[h]?=some (vs,fs))(e:fs.getLast? =some f)(c:f.room=i)(a:w.aj[i]?=some r)(j:r.aa.length<=100)(g:x∈r.aa.map (·.1))
  (q:Q (.d (.tup [.int i,.int (fT (r.aa.map (·.1)) x:Nat)])) S):Fn i9 [w.d,s.d,.int h,.str x] S Q:=by
 refine bN ?_
 unfold rK
 symm
 apply bK b e ?_
 refine ax (d:=.int f.room) rfl ?_
 rw[c]
 symm
 apply ax rfl ?_
 refine ax (d:=r.d) (aM (by rw[gQm,a];rfl)) ?_
 symm
 apply ax rfl ?_
 apply jq (enc:=Es) (nm:=(·.1)) z_ (by omega) g ?_
 refine⟨by show 2<=_;decide,?_⟩
 exact bV (λk z=>(nomatch z)) rfl q
def jF{s:bt}{i b:Nat}{rs:cN}{l:List (Int×Int)}(a:s.aj[i]?=some rs)(k:b<rs.aa.length)(j:rs.aa.length<=100)(h:s.aj.length<=100)
  (q:Q (.d ({s with aj:=s.aj.set i {rs with aa:=rs.aa.set b l}}:bt).d) S):Fn eX [s.d,.int i,.int b,eh l] S Q:=by
 refine bN ?_
 unfold mM
 symm
 apply ax rfl ?_
 refine ax (d:=rs.d) (aM (by rw[gQm,a];rfl)) ?_
 symm
 apply ka ?_
 apply cH (cE ?_)
 apply⟨_,rfl,_,rfl,?_⟩
 apply ax rfl ?_
 refine dH (xs:=rs.aa.map eh) (by rw[lQm];omega) (by rw[lQm];omega) (a8 λl _=>q0 l) (q0 l) ?_
 symm
 refine⟨by show 1<=_;decide,?_⟩
 refine dI (by show 5<=_;decide) ?_
 symm
 rw[←map_set]
 generalize g:rs.aa.set b l=nb at q⊢
 have e:({rs with aa:=nb}:cN).d=.tup (fV [dh rs.vals,.int rs.within,dh rs.row,dh rs.ag,.tup (rs.aa.map eh)] none (some 4)++ [.tup (nb.map eh)]):=rfl
 rw[←e]
 have c:i<s.aj.length:=(gQs.mp a).1
 have hl:s.aj.length<=900:=by omega
 have f:Op (settle S ({s with aj:=s.aj.set i {rs with aa:=nb}}:bt).d S) λp=>Q p.1 p.2:=bV (aY _) (bt.low _) q
 exact da c hl f
def gI(p:Int×List Int)(h:Int):Int×List Int:=if 0<p.1 then(p.1-1,p.2) else(p.1,p.2++ [h])
def ft(p:Int×List Int):Int×List Int:=match p.2 with
 |_::l=>(p.1,l)
 | []=>(if 9<p.1+1 then 9 else p.1+1,[])
def ym{w:cZ}{s:bt}{h:Int}{x:Str}{p:Int×List Int}(g:x∈w.ai.map (·.1))(b:s.ai[fT (w.ai.map (·.1)) x]?=some p)(k:w.ai.length<=100)(i:s.ai.length<=100)(l:p.2.length<=900)
  (q:Q (.d ({s with ai:=s.ai.set (fT (w.ai.map (·.1)) x) (gI p h)}:bt).d) S):Fn rT [w.d,s.d,.int h,.str x] S Q:=by
 refine bN ?_
 unfold zu
 symm
 apply ax rfl ?_
 refine jq (enc:=lG) (nm:=(·.1)) gP (by omega) g ?_
 generalize fT (w.ai.map (·.1)) x=j at b q⊢
 have f:j<s.ai.length:=(gQs.mp b).1
 have hl:s.ai.length<=900:=by omega
 symm
 apply ax rfl ?_
 refine ax (d:=zx p) (aM (by rw[gQm,b];rfl)) ?_
 refine dP rfl (aB (aW (aB (aW (bf ?_)))))
 have a:Op (settle S ({s with ai:=s.ai.set j (gI p h)}:bt).d S) λp=>Q p.1 p.2:=bV (aY _) (bt.low _) q
 unfold gI at a
 symm
 by_cases c:0<p.1
 ·rw[Qhq c] at a
  rw[Qeq c,Qhq rfl]
  symm
  refine⟨by show 2<=_;decide,?_⟩
  symm
  exact gJ (p:=(p.1-1,p.2)) f hl a
 ·rw[Quq c] at a
  rw[Qdq c,Quq (by decide)]
  apply cq ?_
  refine⟨by show 1<=_;decide,?_⟩
  refine dI (by simp only[lQm,Qnq,QGq];exact nQl (aQ (by omega))) ?_
  symm
  refine⟨by show 2<=_;decide,?_⟩
  symm
  have e:D.tup [.int p.1,.tup (p.2.map D.int++ [.int h])]=zx (p.1,p.2++ [h]):=by simp[zx,dh]
  rw[e]
  exact gJ f hl a
end
section
variable{S:aG}{Q:Res->aG->Prop}
def lV{w:cZ}{s:bt}{x:Str}{p:Int×List Int}(i:x∈w.ai.map (·.1))(b:s.ai[fT (w.ai.map (·.1)) x]?=some p)(m:w.ai.length<=100)(k:s.ai.length<=100)
  (q:Q (.d ({s with ai:=s.ai.set (fT (w.ai.map (·.1)) x) (ft p)}:bt).d) S):Fn gd [w.d,s.d,.str x] S Q:=by
 refine bN ?_
 unfold kQ
 symm
 apply ax rfl ?_
 refine jq (enc:=lG) (nm:=(·.1)) gP (by omega) i ?_
 generalize fT (w.ai.map (·.1)) x=j at b q⊢
 have h:j<s.ai.length:=(gQs.mp b).1
 have hl:s.ai.length<=900:=by omega
 symm
 apply ax rfl ?_
 refine ax (d:=zx p) (aM (by rw[gQm,b];rfl)) ?_
 refine dP rfl (aB (aW (aB (aW (bf ?_)))))
 have g:Op (settle S ({s with ai:=s.ai.set j (ft p)}:bt).d S) λp=>Q p.1 p.2:=bV (aY _) (bt.low _) q
 obtain⟨v,f⟩:=p
 symm
 refine vg ?_
 cases f with
 | cons a l=>
   apply bc (λ_=> ?_) (λc=>by cases c)
   apply ka ?_
   apply cE ?_
   apply⟨_,rfl,cH ⟨_,rfl,?_⟩⟩
   refine⟨by show 2<=_;decide,?_⟩
   symm
   have e:D.tup (fV ((a::l).map D.int) (some 1) none)=dh l:=by
     rw[show(some (1:Int))=some ((1:Nat):Int) from rfl,jk (by simp)]
     rfl
   rw[e]
   exact gJ (p:=(v,l)) h hl g
 | nil=>
   apply bc (λc=>by cases c) (λ_=>cq ?_)
   apply Dd ?_
   refine⟨by show 2<=_;decide,?_⟩
   symm
   exact gJ (p:=(if 9<v+1 then 9 else v+1,[])) h hl g
def Bg{b sd hd a:D}{s:bt}(q:Q (.d s.d) S):Fn qy [b,s.d,hd,a] S Q:=by
 refine bN ?_
 unfold vm
 symm
 exact bV (aY _) (bt.low _) q
def DN{g:D}{s:bt}{h n:Nat}{vs:List Int}{fs:List cp}{f:cp}(b:s.af[h]?=some (vs,fs))(c:fs.getLast? =some f)(a:fs.length<=900)(hl:s.af.length<=900)(q:Q (.d ({s with af:=s.af.set h (vs,fs.dropLast++ [{f with row:=n}])}:bt).d) S):Fn vb [g,s.d,.int h,(Rw.go n).d] S Q:=by
 refine bN ?_
 unfold yD
 symm
 apply ax (d:=.int n) rfl ?_
 have e:Op (settle S ({s with af:=s.af.set h (vs,fs.dropLast++ [{f with row:=n}])}:bt).d S) λp=>Q p.1 p.2:=bV (aY _) (bt.low _) q
 exact oZ b c a hl e
end
section
variable{S:aG}{Q:Res->aG->Prop}
def zO{w:cZ}{s:bt}{h:Int}{x:Str}{p:Int×List Int}(g:x∈w.ai.map (·.1))(b:s.ai[fT (w.ai.map (·.1)) x]?=some p)(c:w.ai.length<=100)(a:s.ai.length<=100)(e:p.2.length<=900)
  (q:Q (.d ({s with ai:=s.ai.set (fT (w.ai.map (·.1)) x) (gI p h)}:bt).d) S):Fn nB [w.d,s.d,.int h,(Rw.take x).d] S Q:=by
 refine bN ?_
 unfold rH
 symm
 apply ax (d:=.str x) rfl ?_
 have f:Op (settle S ({s with ai:=s.ai.set (fT (w.ai.map (·.1)) x) (gI p h)}:bt).d S) λp=>Q p.1 p.2:=bV (aY _) (bt.low _) q
 exact ym g b c a e f
def yW{w:cZ}{s:bt}{hd:D}{x:Str}{p:Int×List Int}(f:x∈w.ai.map (·.1))(b:s.ai[fT (w.ai.map (·.1)) x]?=some p)(c:w.ai.length<=100)(a:s.ai.length<=100)
  (q:Q (.d ({s with ai:=s.ai.set (fT (w.ai.map (·.1)) x) (ft p)}:bt).d) S):Fn nX [w.d,s.d,hd,(Rw.give x).d] S Q:=by
 refine bN ?_
 unfold rQ
 symm
 apply ax (d:=.str x) rfl ?_
 have e:Op (settle S ({s with ai:=s.ai.set (fT (w.ai.map (·.1)) x) (ft p)}:bt).d S) λp=>Q p.1 p.2:=bV (aY _) (bt.low _) q
 exact lV f b c a e
end
section
variable{S:aG}{Q:Res->aG->Prop}
def yE(w:cZ)(s:bt)(h:Nat)(t:Tr)(v:Int):Prop:=∀(S:aG) (Q:Res->aG->Prop),Q (.d (.int v)) S->Fn dz [w.d,s.d,.int h,t.d] S Q
def Puts(w:cZ)(s:bt)(h:Nat)(x:Str)(v:Int)(a:bt):Prop:=∀(S:aG) (Q:Res->aG->Prop),Q (.d a.d) S->Fn eZ [w.d,s.d,.int h,.str x,.int v] S Q
def yQ{w:cZ}{s:bt}{h:Int}{x y:Str}{p a:Int×List Int}(k:x∈w.ai.map (·.1))(i:y∈w.ai.map (·.1))(f:s.ai[fT (w.ai.map (·.1)) x]?=some p)(e:w.ai.length<=100)(c:s.ai.length<=100)(g:a.2.length<=900)
  (b:(s.ai.set (fT (w.ai.map (·.1)) x) (ft p))[fT (w.ai.map (·.1)) y]?=some a)
  (q:Q (.d ({s with ai:=(s.ai.set (fT (w.ai.map (·.1)) x) (ft p)).set (fT (w.ai.map (·.1)) y) (gI a h)}:bt).d) S):Fn m9 [w.d,s.d,.int h,(Rw.pass x y).d] S Q:=by
 refine bN ?_
 unfold qO
 symm
 apply ax (d:=.str x) rfl ?_
 apply lV k f e c ?_
 apply ax (d:=.str y) rfl ?_
 have j:Op (settle S ({s with ai:=(s.ai.set (fT (w.ai.map (·.1)) x) (ft p)).set (fT (w.ai.map (·.1)) y) (gI a h)}:bt).d S) λp=>Q p.1 p.2:=bV (aY _) (bt.low _) q
 exact ym (s:={s with ai:=s.ai.set (fT (w.ai.map (·.1)) x) (ft p)}) i b e (by simpa using c) g j
def Bo{w:cZ}{s a:bt}{h:Nat}{x:Str}{t:Tr}{v:Int}(c:yE w s h t v)(b:Puts w s h x v a)(q:Q (.d a.d) S):Fn qp [w.d,s.d,.int h,(Rw.put x t).d] S Q:=by
 refine bN ?_
 unfold vV
 symm
 apply ax (d:=.str x) rfl ?_
 apply ax (d:=t.d) rfl ?_
 apply c _ _ ?_
 refine b _ _ ?_
 exact bV (aY _) (bt.low _) q
def uY{w:cZ}{s:bt}{h n:Nat}{t:Tr}{v:Int}{vs:List Int}{fs:List cp}{f:cp}(a:yE w s h t v)(b:s.af[h]?=some (vs,fs))(e:fs.getLast? =some f)(i:fs.length<=900)(hl:s.af.length<=900)
  (q:Q (.d (if v=0 then({s with af:=s.af.set h (vs,fs.dropLast++ [{f with row:=n}])}:bt) else s).d) S):Fn jN [w.d,s.d,.int h,(Rw.unl t n).d] S Q:=by
 refine bN ?_
 unfold l8
 symm
 apply ax (d:=t.d) rfl ?_
 apply a _ _ ?_
 refine dW ?_
 dsimp only
 by_cases c:v=0
 ·rw[Qhq c] at q
  rw[Qeq c,Qhq rfl]
  symm
  apply ax (d:=.int n) rfl ?_
  have g:Op (settle S ({s with af:=s.af.set h (vs,fs.dropLast++ [{f with row:=n}])}:bt).d S) λp=>Q p.1 p.2:=bV (aY _) (bt.low _) q
  exact oZ b e i hl g
 ·rw[Quq c] at q
  rw[Qdq c,Quq (by decide)]
  apply cq ?_
  exact bV (aY _) (bt.low _) q
end
section
variable{S:aG}{Q:Res->aG->Prop}
def zJ{w:cZ}{s:bt}{h:Nat}{t:Tr}{v:Int}{vs:List Int}{fs:List cp}{f:cp}(g:yE w s h t v)(c:s.af[h]?=some (vs,fs))(e:fs.getLast? =some f)(j:fs.length<=900)(hl:s.af.length<=900)
  (q:Q (.d ({s with af:=s.af.set h (vs,fs.dropLast++ [{f with told:=v}])}:bt).d) S):Fn om [w.d,s.d,.int h,(Rw.tell t).d] S Q:=by
 refine bN ?_
 unfold sD
 symm
 apply ax (d:=t.d) rfl ?_
 apply g _ _ ?_
 apply ka ?_
 refine bK c e ?_
 apply cH (cE ?_)
 apply⟨_,rfl,_,rfl,?_⟩
 refine⟨by show 1<=_;decide,?_⟩
 refine dI (by show 5<=_;decide) ?_
 symm
 have k:0<fs.length:=by
  cases fs with
  |nil=>cases e
  |cons a b=>simp
 have i:Op (settle S ({s with af:=s.af.set h (vs,fs.dropLast++ [{f with told:=v}])}:bt).d S) λp=>Q p.1 p.2:=bV (aY _) (bt.low _) q
 exact hU (f:={f with told:=v}) c k j hl i
def Bp{w:cZ}{s:bt}{h i:Nat}{vs:List Int}{fs:List cp}{f:cp}{r:Rm}{rs:cN}{x:Str}(n:s.af[h]?=some (vs,fs))(j:fs.getLast? =some f)(g:f.room=i)(m:w.aj[i]?=some r)(a:s.aj[i]?=some rs)(k:r.aa.length<=100)(u:r.aa.length=rs.aa.length)(t:s.aj.length<=100)(c:x∈r.aa.map (·.1))
  (q:Q (.d ({s with aj:=s.aj.set i {rs with aa:=rs.aa.set (fT (r.aa.map (·.1)) x) []}}:bt).d) S):Fn qu [w.d,s.d,.int h,(Rw.all x).d] S Q:=by
 have e:=(jG c).1
 rw[lQm] at e
 refine bN ?_
 unfold vX
 symm
 apply ax (d:=.str x) rfl ?_
 refine mB n j g m k c ?_
 refine dP rfl (aB (aW (aB (aW (bf ?_)))))
 generalize fT (r.aa.map (·.1)) x=b at e q⊢
 symm
 apply⟨by decide,?_⟩
 have o:Op (settle S ({s with aj:=s.aj.set i {rs with aa:=rs.aa.set b []}}:bt).d S) λp=>Q p.1 p.2:=bV (aY _) (bt.low _) q
 exact jF (l:= []) a (by omega) (by omega) t o
end
section
variable{S:aG}{Q:Res->aG->Prop}
def HN:∀a:Rm,∃r,a.d=.tup (.str a.name::r):=λa=>⟨_,rfl⟩
def CZ:∀a:Str×List Rw,∃r,iw a=.tup (.str a.1::r):=λa=>⟨_,rfl⟩
def DZ{w:cZ}{s:bt}{h:Nat}{g:Option Str}{a b:Str}{t:Tr}{v:Int}{vs:List Int}{fs:List cp}{r:Rm}{rs:cN}(n:yE w s h t v)(l:s.af[h]?=some (vs,fs))(j:a∈w.aj.map (·.name))(k:w.aj[fT (w.aj.map (·.name)) a]?=some r)(c:s.aj[fT (w.aj.map (·.name)) a]?=some rs)(f:b∈r.ae.map (·.1))
  (z:w.aj.length<=100) (y:r.ae.length<=100) (B:s.aj.length<=100) (u:rs.row.length<=900) (C:fs.length<=900) (A:s.af.length<=100)
  (q:Q (.d ({s with af:=s.af.set h (vs,fs++ [⟨(fT (w.aj.map (·.name)) a:Nat),(fT (r.ae.map (·.1)) b:Nat),0,v,0⟩]),aj:=s.aj.set (fT (w.aj.map (·.name)) a) (iK rs h)}:bt).d) S):Fn v5 [w.d,s.d,.int h,(Rw.do_ g a b t).d] S Q:=by
 refine bN ?_
 unfold zk
 symm
 apply ax rfl ?_
 apply ax (d:=.str a) rfl ?_
 refine jq (enc:=Rm.d) (nm:=(·.name)) HN (by omega) j ?_
 generalize fT (w.aj.map (·.name)) a=i at k c q⊢
 symm
 apply ax rfl ?_
 refine ax (d:=r.d) (aM (by rw[gQm,k];rfl)) ?_
 symm
 apply ax rfl ?_
 apply ax (d:=.str b) rfl ?_
 refine jq (enc:=iw) (nm:=(·.1)) CZ (by omega) f ?_
 generalize fT (r.ae.map (·.1)) b=dd at q⊢
 symm
 apply ax (d:=t.d) rfl ?_
 apply n _ _ ?_
 refine⟨by show 5<=_;decide,?_⟩
 symm
 apply ax rfl ?_
 refine ax (d:=Ba (vs,fs)) (aM (by rw[gQm,l];rfl)) ?_
 apply dP rfl (aB (aW (aB (aW (bf ?_)))))
 refine⟨by show 1<=_;decide,?_⟩
 refine dI (by simp only[lQm,Qnq,QGq];exact nQl (aQ (by omega))) ?_
 symm
 have e:fs.map cp.d++ [D.tup [.int i,.int dd,.int 0,.int v,.int 0]]=(fs++ [(⟨i,dd,0,v,0⟩:cp)]).map cp.d:=by rw[Qzq];rfl
 rw[e]
 generalize m:fs++ [(⟨i,dd,0,v,0⟩:cp)]=nf at q⊢
 have o:h<s.af.length:=(gQs.mp l).1
 apply gK (vs:=vs) (fs:=nf) o (by omega) ?_
 have x:Op (settle S ({s with af:=s.af.set h (vs,nf),aj:=s.aj.set i (iK rs h)}:bt).d S) λp=>Q p.1 p.2:=bV (aY _) (bt.low _) q
 exact sf (s:={s with af:=s.af.set h (vs,nf)}) c (by show s.aj.length<=900;omega) u x
end
section
variable{S:aG}{Q:Res->aG->Prop}
def qP(free:Bool)(rs:cN)(b:Nat)(h:Int):cN:=match rs.aa[b]? with
 |some (p::l)=>if free then{rs with aa:=rs.aa.set b l} else{rs with aa:=rs.aa.set b l,within:=p.2,ag:=rs.ag++ [h]}
 |_=>rs
def yV{w:cZ}{s:bt}{h i:Nat}{vs:List Int}{fs:List cp}{f:cp}{r:Rm}{rs:cN}{x:Str}(G:s.af[h]?=some (vs,fs))(B:fs.getLast? =some f)(z:f.room=i)(u:w.aj[i]?=some r)(k:s.aj[i]?=some rs)(C:r.aa.length<=100)(L:r.aa.length=rs.aa.length)(I:s.aj.length<=100)(K:rs.ag.length<=900)(t:x∈r.aa.map (·.1))
  (q:Q (.d ({s with aj:=s.aj.set i (qP (decide (r.ah="when free")) rs (fT (r.aa.map (·.1)) x) h)}:bt).d) S):Fn nZ [w.d,s.d,.int h,(Rw.call x).d] S Q:=by
 have v:=(jG t).1
 rw[lQm] at v
 have o:i<s.aj.length:=(gQs.mp k).1
 refine bN ?_
 unfold r8
 symm
 apply ax (d:=.str x) rfl ?_
 refine mB G B z u C t ?_
 refine dP rfl (aB (aW (aB (aW (bf ?_)))))
 generalize fT (r.aa.map (·.1)) x=b at v q⊢
 have y:b<rs.aa.length:=by omega
 obtain⟨m,a⟩:∃l,rs.aa[b]?=some l:=⟨_,gQe y⟩
 have g:Op (settle S ({s with aj:=s.aj.set i (qP (decide (r.ah="when free")) rs b h)}:bt).d S) λp=>Q p.1 p.2:=bV (aY _) (bt.low _) q
 unfold qP at g
 rw[a] at g
 symm
 apply ax rfl ?_
 refine ax (d:=rs.d) (aM (by rw[gQm,k];rfl)) ?_
 symm
 apply ax rfl ?_
 refine ax (d:=eh m) (aM (by rw[gQm,a];rfl)) ?_
 symm
 refine vg ?_
 cases m with
 | nil=>
   apply bc (λ_=> ?_) (λc=>by cases c)
   have e:s.aj.set i rs=s.aj:=by
     apply List.ext_getElem?
     intro j
     rw[List.getElem?_set]
     split
     · rename_i c
       subst c
       rw[k]
       first|done|simp[o]
     · rfl
   have H:({s with aj:=s.aj.set i rs}:bt)=s:=by rw[e]
   have n:Op (settle S ({s with aj:=s.aj.set i rs}:bt).d S) λp=>Q p.1 p.2:=g
   rw[H] at n
   exact n
 | cons p l=>
   apply bc (λc=>by cases c) (λ_=>cq ?_)
   apply ka ?_
   apply cE ?_
   apply⟨_,rfl,cH ⟨_,rfl,?_⟩⟩
   have e:D.tup (fV ((p::l).map pairD) (some 1) none)=eh l:=by
     rw[show(some (1:Int))=some ((1:Nat):Int) from rfl,jk (by simp)]
     rfl
   rw[e]
   refine jF k y (by omega) I ?_
   dsimp only at g
   generalize A:rs.aa.set b l=nb at g⊢
   symm
   apply ax rfl ?_
   refine ax (d:=r.d) (aM (by rw[gQm,u];rfl)) ?_
   symm
   apply ax (d:=.str r.ah) rfl ?_
   refine gF ?_
   dsimp only
   by_cases c:r.ah="when free"
   · rw[Qeq c] at g⊢
     rw[Qhq rfl] at g
     rw[Qhq rfl]
     symm
     exact g
   · rw[Qdq c] at g⊢
     rw[Quq (by decide)] at g
     rw[Quq (by decide)]
     apply cq ?_
     refine ax rfl ?_
     have F:((s.aj.set i {rs with aa:=nb}).map cN.d)[i]?=some ({rs with aa:=nb}:cN).d:=by rw[gQm,Qyq o];rfl
     symm
     refine ax (d:=({rs with aa:=nb}:cN).d) (aM F) ?_
     apply dP rfl (aB (aW (aB (aW (aB (aW (aB (aW (aB (aW (bf ?_)))))))))))
     apply ax (d:=pairD p) Co ?_
     apply ax (d:=.int p.2) rfl ?_
     refine⟨by show 1<=_;decide,?_⟩
     refine dI (by simp only[lQm,Qnq,QGq];exact nQl (aQ (by omega))) ?_
     symm
     refine⟨by show 5<=_;decide,?_⟩
     symm
     have J:D.tup [dh rs.vals,.int p.2,dh rs.row,.tup (rs.ag.map D.int++ [.int h]),.tup (nb.map eh)]=({rs with aa:=nb,within:=p.2,ag:=rs.ag++ [(h:Int)]}:cN).d:=by simp[cN.d,dh]
     rw[J]
     have n:Op (settle S ({s with aj:=(s.aj.set i {rs with aa:=nb}).set i {rs with aa:=nb,within:=p.2,ag:=rs.ag++ [(h:Int)]}}:bt).d S) λp=>Q p.1 p.2:=by rw[List.set_set];exact g
     exact da (s:={s with aj:=s.aj.set i {rs with aa:=nb}}) (by simpa using o) (by simp;omega) n
end
end W28
namespace DL
open PySem PySem.Spec L2
def qE{α:Type}{u:cD}{S:aG}{js:List (Option Nat)}{i:sR}{g:lB}{t:iY}{o:bx}{Q:List D->aG->Prop}(P:cD->Prop)(enc G:α->D)(c:α->Bool)(N:P (mh js u)) (h:E i u S λp f=>∃xs:List α,p.1=xs.map enc/\p.2 f/\xs.length<=1000∧
   (∀x∈xs,∀a,P a->Tg g (enc x) a f λb S2=>S2=f/\P b/\E t b f λk w=>w=f/\k=c x/\(c x=true->E o b f λy A=>y=G x/\A=f))/\Q ((xs.filter c).map G) f):E (bH js i g t o) u S Q:=by
 refine gu (h.mono λp f J=> ?_)
 obtain⟨xs,z,K,hl,C,q⟩:=J
 refine⟨λn a s j=>s=f/\j=((xs.take n).filter c).map G/\P a,⟨rfl,rfl,N⟩,λn a s j h=>by rw[h.1];exact K,λn d a s j r h=> ?_,λa s j h=> ?_⟩
 ·obtain⟨rfl,rfl,h3⟩:=h
  have r:p.1[n]?=some d:=r
  rw[z,gQm] at r
  obtain⟨x,m,rfl⟩:=oQm.mp r
  obtain⟨b,S2,F,rfl,h4,h5⟩:=C x (mQg m) a h3
  refine⟨b,S2,F,?_⟩
  refine h5.mono λk w v=> ?_
  obtain⟨L,R,H⟩:=v
  subst L R
  have U:=(gQs.mp m).1
  have B:((xs.take (n+1)).filter c).map G=((xs.take n).filter c).map G++if c x=true then [G x] else []:=by
   rw[QYq,m]
   cases l:c x <;>simp[l]
  by_cases l:c x=true
  ·rw[Qhq l]
   refine(H l).mono λy A v=> ?_
   obtain⟨I,M⟩:=v
   subst I M
   refine⟨?_,rfl,?_,h4⟩
   ·rw[lQm]
    have:=List.length_filter_le c (xs.take n)
    rw[Qxq] at this
    exact aQ (by omega)
   ·rw[B,Qhq l]
  ·rw[Quq l]
   refine⟨rfl,?_,h4⟩
   rw[B,Quq l,List.append_nil]
 ·obtain⟨rfl,rfl,_⟩:=h
  have e:p.1.length=xs.length:=by rw[z,lQm]
  show Q (((xs.take p.1.length).filter c).map G) _
  rw[e,QEq]
  exact q
end DL
namespace W28
open PySem PySem.Spec L2 DL
section
variable{S:aG}{Q:Res->aG->Prop}
def g7(l:List (Int×Int))(t h:Int):List (Int×Int):=l.take (l.filter λp=>decide (p.1<=t)).length++ [(t,h)]++l.drop (l.filter λp=>decide (p.1<=t)).length
def yO{w:cZ}{s:bt}{h i:Nat}{vs:List Int}{fs:List cp}{f:cp}{r:Rm}{rs:cN}{x u:Str}{t:Tr}{v:Int}{g:List (Int×Int)}(X:s.af[h]?=some (vs,fs))(P:fs.getLast? =some f)(M:f.room=i)(K:w.aj[i]?=some r)(m:s.aj[i]?=some rs)(W:r.aa.length<=100)(l2:r.aa.length=rs.aa.length)(Z:s.aj.length<=100)(J:x∈r.aa.map (·.1))
  (y:r.aa[fT (r.aa.map (·.1)) x]?=some (x,u)) (k:rs.aa[fT (r.aa.map (·.1)) x]?=some g) (b4:g.length<=900) (C:yE w s h t v)
  (q:Q (.d ({s with aj:=s.aj.set i (bW {rs with aa:=rs.aa.set (fT (r.aa.map (·.1)) x) (g7 g (if u="turns" then v else 0) h)})}:bt).d) S):Fn nP [w.d,s.d,.int h,(Rw.wait x t).d] S Q:=by
 have G:=(jG J).1
 rw[lQm] at G
 have R:i<s.aj.length:=(gQs.mp m).1
 refine bN ?_
 unfold sF
 symm
 apply ax (d:=.str x) rfl ?_
 refine mB X P M K W J ?_
 refine dP rfl (aB (aW (aB (aW (bf ?_)))))
 generalize fT (r.aa.map (·.1)) x=b at G q y k⊢
 have Y:b<rs.aa.length:=by omega
 symm
 apply ax rfl ?_
 refine ax (d:=r.d) (aM (by rw[gQm,K];rfl)) ?_
 symm
 apply ax rfl ?_
 refine ax (d:=Es (x,u)) (aM (by rw[gQm,y];rfl)) ?_
 symm
 apply ax (d:=.str u) rfl ?_
 refine gF ?_
 dsimp only
 have z:∀j:Int,j=(if u="turns" then v else 0)->T (aE (aX 7 (a0 iQ (a0 iQ (a0 iQ (a0 iQ (au 1) (cF (.int 0))) (au 4)) (cF (.int 4))) (au 5)))
   (aE (aX 8 (eM (fM (bH [none,none,some 6] (kc (aS (au 7))) (gW (nG 2 (aI (bG 0) (aI (bG 1) cW)))) (aL (a0 KF (au 0) (au 2))) (au 0)))))
   (aE (aX 9 (aA eX (aq (au 1) (aq (au 4) (aq (au 5) (aq (a0 bL (a0 bL (rZ (au 7) jz (jj (au 8))) (aR (aq (aR (aq (au 6) (aq (au 2) av))) av))) (rZ (au 7) (jj (au 8)) jz)) av))))))
   (cu (aA oy (aq (au 9) (aq (au 4) av)))))))
   [some w.d,some s.d,some (.int h),some (Rw.wait x t).d,some (.int i),some (.int b),some (.int j),none,none,none] S (λo=>match o with
   |.nx _ B=>Op (settle S .non B) λp=>Q p.1 p.2|.rt d B=>Op (settle S d B) λp=>Q p.1 p.2|.rl l B=>Op (fm S l B) λp=>Q p.1 p.2|_=>False):=by
  intro j H
  rw[←H] at q
  symm
  apply ax rfl ?_
  refine ax (d:=rs.d) (aM (by rw[gQm,m];rfl)) ?_
  symm
  apply ax rfl ?_
  refine ax (d:=eh g) (aM (by rw[gQm,k];rfl)) ?_
  symm
  apply qE (α:=Int×Int) (λA=>∃a b,A= [a,b,some (.int j)]) pairD (λp=>.int p.1) (λp=>decide (p.1<=j)) ⟨none,none,rfl⟩ ?_
  refine bT (ds:=g.map pairD) ?_
  refine⟨g,rfl,trivial,by omega,λp G A I=> ?_,?_⟩
  ·obtain⟨a,b,rfl⟩:=I
   refine dP rfl (aB (aW (aB (aW (bf ?_)))))
   apply⟨rfl,⟨_,_,rfl⟩,?_⟩
   apply⟨rfl,rfl,λ_=> ?_⟩
   exact⟨rfl,rfl⟩
  have U:((g.filter λp=>decide (p.1<=j)).map λp=>D.int p.1).length=(g.filter λp=>decide (p.1<=j)).length:=lQm ..
  have F:=List.length_filter_le (λp=>decide (p.1<=j)) g
  unfold g7 at q
  symm
  rw[U]
  generalize (g.filter λp=>decide (p.1<=j)).length=n at q F⊢
  apply ka ?_
  apply cH (cE ?_)
  refine⟨_,rfl,g.map pairD,rfl,?_⟩
  rw[Cn (by rw[lQm];exact F)]
  symm
  refine⟨by show 2<=_;decide,?_⟩
  symm
  refine⟨by show 1<=_;decide,?_⟩
  refine dI (by simp only[lQm,Qxq,Qnq,QGq];exact nQl (aQ (by omega))) ?_
  apply ka ?_
  apply cE ?_
  refine⟨_,rfl,cH ⟨g.map pairD,rfl,?_⟩⟩
  rw[jk (by rw[lQm];exact F)]
  refine dI (by simp only[lQa,lQm,Qxq,List.length_drop,Qnq,QGq];exact nQl (aQ (by omega))) ?_
  symm
  have e:D.tup ((g.map pairD).take n++ [D.tup [.int j,.int h]]++(g.map pairD).drop n)=eh (g.take n++ [(j,(h:Int))]++g.drop n):=by
   simp only[eh,Qzq,List.map_take,List.map_drop]
   rfl
  rw[e]
  generalize g.take n++ [(j,(h:Int))]++g.drop n=nl at q⊢
  apply jF m Y (by omega) Z ?_
  have L:Op (settle S ({s with aj:=s.aj.set i (bW {rs with aa:=rs.aa.set b nl})}:bt).d S) λp=>Q p.1 p.2:=bV (aY _) (bt.low _) q
  generalize N:({rs with aa:=rs.aa.set b nl}:cN)=nr at L⊢
  have q3:Op (settle S ({s with aj:=(s.aj.set i nr).set i (bW nr)}:bt).d S) λp=>Q p.1 p.2:=by rw[List.set_set];exact L
  exact wH (s:={s with aj:=s.aj.set i nr}) (Qyq R) (by simp;omega) q3
 by_cases c:u="turns"
 ·rw[Qeq c,Qhq rfl]
  symm
  apply ax (d:=t.d) rfl ?_
  refine C _ _ ?_
  exact z v (by rw[Qhq c])
 ·rw[Qdq c,Quq (by decide)]
  refine cq ?_
  exact z 0 (by rw[Quq c])
end
end W28
namespace DL
open PySem PySem.Spec L2
section
variable{Γ:cD}{S:aG}
def Kq{a:List (Str×Str)}{g:bx}{Q:D->aG->Prop}(h:E g Γ S λy b=>∃x nm,y=.str x/\a.lookup x=some nm/\Q (.fn nm) b):E (J7 a g) Γ S Q:=by
 obtain⟨y,b,c,x,nm,rfl,e2,q⟩:=h
 exact⟨_,b,by unfold J7;rw[c];simp only[Qbq];rw[e2];rfl,q⟩
def FF{i:Nat}{T:List (Str×dA)}{g:fU}{x:Str}{F:dA}{Q:D->aG->Prop}(c:Γ[i]?=some (some (.fn x)))(d:T.lookup x=some F)(h:E (aA F g) Γ S Q):E (sx i T g) Γ S Q:=by
 obtain⟨y,a,b,q⟩:=h
 exact⟨_,a,by unfold sx;rw[c];show(T.lookup x).bind _=_;rw[d];exact b,q⟩
def Hf{f:bx}{Q:D->aG->Prop}(h:E f Γ S λd a=>∃k,d=.bl k/\Q (.bl (!k)) a):E (EO f) Γ S Q:=by
 obtain⟨d,a,b,k,rfl,q⟩:=h
 exact⟨_,a,by unfold EO;rw[b];rfl,q⟩
def t9{a:Bool}{x:D}{Q:D->Prop}(q:Q (.bl (if a then !isNone x else isNone x))):Op (wo a S x .non) Q:=⟨_,rfl,q⟩
end
def uN{α:Type}{xs:List α}{a b:α}:kh (xs++ [a,b]) (-2)=some a:=by
 unfold kh Ep
 rw[Quq (by omega),Qhq (by simp;omega)]
 simp only[Qbq]
 rw[show((-2:Int)+((xs++ [a,b]).length:Int)).toNat=xs.length by simp;omega]
 simp
end DL
namespace W28
open PySem PySem.Spec L2 DL
section
variable{S:aG}{Q:Res->aG->Prop}
def Ll:Rw->dA
 |.put _ _=>qp
 |.unl _ _=>jN
 |.go _=>vb
 |.do_ _ _ _ _=>v5
 |.wait _ _=>nP
 |.call _=>nZ
 |.all _=>qu
 |.tell _=>om
 |.take _=>nB
 |.give _=>nX
 |.pass _ _=>m9
 |.say _=>qy
def Rw.kind:Rw->Str
 |.put _ _=>"put"
 |.unl _ _=>"unless"
 |.go _=>"go"
 |.do_ _ _ _ _=>"do"
 |.wait _ _=>"wait"
 |.call _=>"call"
 |.all _=>"all"
 |.tell _=>"tell"
 |.take _=>"take"
 |.give _=>"give"
 |.pass _ _=>"pass"
 |.say _=>"say"
def Rw.d_kind(r:Rw):∃l,r.d=.tup (.str r.kind::l):=by cases r <;>exact⟨_,rfl⟩
def E_(r:Rw):∃nm,lq.lookup r.kind=some nm/\qR.lookup nm=some (Ll r):=by
 cases r
 ·exact⟨"by_put",rfl,rfl⟩
 ·exact⟨"by_unless",rfl,rfl⟩
 ·exact⟨"by_go",rfl,rfl⟩
 ·exact⟨"by_do",rfl,rfl⟩
 ·exact⟨"by_wait",rfl,rfl⟩
 ·exact⟨"by_call",rfl,rfl⟩
 ·exact⟨"by_all",rfl,rfl⟩
 ·exact⟨"by_tell",rfl,rfl⟩
 ·exact⟨"by_take",rfl,rfl⟩
 ·exact⟨"by_give",rfl,rfl⟩
 ·exact⟨"by_pass",rfl,rfl⟩
 ·exact⟨"by_say",rfl,rfl⟩
def GW(w:cZ)(s:bt)(h:Nat)(r:Rw)(a:bt):Prop:=∀(S:aG) (Q:Res->aG->Prop),Q (.d a.d) S->Fn (Ll r) [w.d,s.d,.int h,r.d] S Q
def xO{w:cZ}{s a:bt}{h:Nat}{r:Rw}(hd:GW w s h r a)(q:Q (.d a.d) S):Fn je [w.d,s.d,.int h,r.d] S Q:=by
 obtain⟨nm,c,b⟩:=E_ r
 obtain⟨l,hl⟩:=r.d_kind
 refine bN ?_
 unfold tW
 apply aK (cx (Kq ?_))
 rw[hl]
 refine ax (d:=.str r.kind) Co ?_
 rw[←hl]
 refine⟨_,nm,rfl,c,?_⟩
 apply dX (FF (x:=nm) rfl b ?_)
 refine hd _ _ ?_
 exact bV (aY _) (bt.low _) q
def pQ{w:cZ}{s m:bt}{h i:Nat}{vs:List Int}{gs:List cp}{b f:cp}{rs:cN}{pr:List Rw}{g:Option Str}{p r:Str}{t:Tr}(o:s.af[h]?=some (vs,gs++ [b,f]))(u:f.room=i)(n:s.aj[i]?=some rs)(A:s.aj.length<=900)(y:s.af.length<=900)
  (z:progOf w h b=some pr) (B:1<=b.row) (j:pr[(b.row-1).toNat]?=some (.do_ g p r t))
  (e:∀a:bt,a={s with aj:=s.aj.set i (bW rs),af:=s.af.set h (vs,gs++ [b])}->match g with|none=>m=a|some x=>Puts w a h x f.told m)
  (q:Q (.d m.d) S):Fn ju [w.d,s.d,.int h] S Q:=by
 have v:h<s.af.length:=(gQs.mp o).1
 refine bN ?_
 unfold pj
 symm
 apply ax rfl ?_
 refine ax (d:=Ba (vs,gs++ [b,f])) (aM (by rw[gQm,o];rfl)) ?_
 refine dP rfl (aB (aW (aB (aW (bf ?_)))))
 have k:(gs++ [b,f]).map cp.d=gs.map cp.d++ [b.d,f.d]:=by simp
 dsimp only
 rw[k]
 symm
 apply ui ?_
 refine⟨1,rfl,?_⟩
 refine ax (d:=f.d) (yb (by simp)) ?_
 refine dP rfl (aB (aW (aB (aW (aB (aW (aB (aW (aB (aW (bf ?_)))))))))))
 rw[u]
 symm
 apply wH n A ?_
 apply ka ?_
 apply cH (cE (ui ?_))
 refine⟨1,rfl,_,rfl,_,rfl,?_⟩
 rw[wG (by simp)]
 have l:D.tup ((gs.map cp.d++ [b.d,f.d]).dropLast)=.tup ((gs++ [b]).map cp.d):=by
  rw[show gs.map cp.d++ [b.d,f.d]=(gs.map cp.d++ [b.d])++ [f.d] by simp,List.dropLast_concat]
  simp
 rw[l]
 symm
 refine gK (s:={s with aj:=s.aj.set i (bW rs)}) v y ?_
 have e:=e _ rfl
 dsimp only at e⊢
 generalize ({s with aj:=s.aj.set i (bW rs),af:=s.af.set h (vs,gs++ [b])}:bt)=a at e⊢
 symm
 apply ui ?_
 refine⟨2,rfl,?_⟩
 apply ax (d:=b.d) uN ?_
 apply eQ z ?_
 apply ui ?_
 refine⟨2,rfl,?_⟩
 apply ax (d:=b.d) uN ?_
 apply ax (d:=.int b.row) rfl ?_
 refine ax (d:=(Rw.do_ g p r t).d) (k8 (by omega) (by rw[gQm,j];rfl)) ?_
 symm
 apply ax (d:=Cf g) rfl ?_
 refine t9 ?_
 cases g with
 | none=>
   dsimp only at e
   subst e
   apply bc (λ_=> ?_) (λc=>by cases c)
   exact bV (aY _) (bt.low _) q
 | some x=>
   apply bc (λc=>by cases c) (λ_=>cq ?_)
   apply ax (d:=.str x) rfl ?_
   refine e _ _ ?_
   exact bV (aY _) (bt.low _) q
end
section
variable{S:aG}{Q:Res->aG->Prop}
def J1(h:Nat):Option Int->D
 |none=>.non
 |some v=>.tup [.int h,.int v]
def Af(h:Nat)(e:Option Int):b_ 0 (J1 h e)=true:=by cases e <;>rfl
def GR(s:bt)(h:Nat)(e:Option Int):D:=.tup [s.d,J1 h e]
def qx(s:bt)(h:Nat)(e:Option Int):b_ 0 (GR s h e)=true:=by
 simp only[GR,b_,bJ,Af,bt.low,Bool.and_true]
def t8(w:cZ)(s:bt)(h:Nat)(a:bt)(e:Option Int):Prop:=∀(S:aG) (Q:Res->aG->Prop),Q (.d (GR a h e)) S->Fn oo [w.d,s.d,.int h] S Q
def B2{w:cZ}{s:bt}{h i:Nat}{vs:List Int}{fs:List cp}{f:cp}{rs:cN}(g:s.af[h]?=some (vs,fs))(e:fs.getLast? =some f)(b:f.room=i)(a:s.aj[i]?=some rs)(j:rs.within≠h)(l:s.aj.length<=900)(c:rs.row.length<=900):
  t8 w s h {s with aj:=s.aj.set i (iK rs h)} none:=by
 intro S Q q
 refine bN ?_
 unfold kT
 symm
 apply bK g e ?_
 apply ax (d:=.int f.room) rfl ?_
 refine lX ?_
 dsimp only
 rw[Qdq (show¬f.room= -1 by omega),b]
 show if (true=true) then _ else _
 rw[Qhq rfl]
 symm
 apply ax rfl ?_
 refine ax (d:=rs.d) (aM (by rw[gQm,a];rfl)) ?_
 symm
 apply ax (d:=.int rs.within) rfl ?_
 refine lX ?_
 dsimp only
 rw[Qdq j]
 show if (true=true) then _ else _
 rw[Qhq rfl]
 symm
 apply sf a l c ?_
 refine⟨by show 2<=_;decide,?_⟩
 exact bV (d:=GR _ h none) (λk z=>(nomatch z)) (qx _ _ _) q
def Here(s:bt)(h:Nat)(f:cp):Prop:=f.room= -1\/∃(i:Nat) (a:cN),f.room=i/\s.aj[i]?=some a/\a.within=h
def uB{w:cZ}{s:bt}{h:Nat}{f:cp}{a b c d:Option D}{Q:Bool->aG->Prop}(k:Here s h f)(q:Q false S):E (iT (aL (a0 (eP true) (au 4) (cF (.int (-1))))) (aL (a0 (eP true) (a0 iQ (a0 iQ (a0 iQ (au 1) (cF (.int 0))) (au 4)) (cF (.int 1))) (au 2)))) [some w.d,some s.d,some (.int h),some f.d,some (.int f.room),a,b,c] S Q:=by
 rcases k with e|⟨i,j,e,g,l⟩
 ·symm
  refine lX ?_
  dsimp only
  rw[Qeq e]
  show if (false=true) then _ else _
  rw[Quq (by decide)]
  exact q
 ·symm
  refine lX ?_
  dsimp only
  rw[Qdq (show¬f.room= -1 by omega),e]
  show if (true=true) then _ else _
  rw[Qhq rfl]
  symm
  apply ax rfl ?_
  refine ax (d:=j.d) (aM (by rw[gQm,g];rfl)) ?_
  symm
  apply ax (d:=.int j.within) rfl ?_
  refine lX ?_
  dsimp only
  rw[Qeq l]
  exact q
def yl{w:cZ}{s b:bt}{h:Nat}{vs:List Int}{fs:List cp}{f:cp}{pr:List Rw}(i:s.af[h]?=some (vs,fs))(g:fs.getLast? =some f)(e:Here s h f)(j:progOf w h f=some pr)(a:f.row=pr.length)
  (he:∀(S:aG) (Q:Res->aG->Prop),Q (.d b.d) S->Fn ju [w.d,s.d,.int h] S Q):t8 w s h b none:=by
 intro S Q q
 refine bN ?_
 unfold kT
 symm
 apply bK i g ?_
 refine ax (d:=.int f.room) rfl ?_
 refine aK (dZ (uB (d:=none) e ?_))
 apply bc (λc=>by cases c) (λ_=>cq ?_)
 apply eQ j ?_
 apply ax (d:=.int f.row) rfl ?_
 refine dW ?_
 dsimp only
 rw[lQm,Qeq a,Qhq rfl]
 symm
 apply he _ _ ?_
 refine⟨by show 2<=_;decide,?_⟩
 exact bV (d:=GR _ h none) (λk z=>(nomatch z)) (qx _ _ _) q
def G2(w:cZ)(s:bt)(h:Nat)(r:Rw)(e:Option Int):Prop:=match r with
 |.say t=>∃v,e=some v/\yE w s h t v
 |_=>e=none
def Ct{w:cZ}{s n:bt}{h:Nat}{vs:List Int}{fs:List cp}{f:cp}{pr:List Rw}{r:Rw}{e:Option Int}(m:s.af[h]?=some (vs,fs))(j:fs.getLast? =some f)(u:Here s h f)(A:progOf w h f=some pr)(C:0<=f.row)(b:pr[f.row.toNat]?=some r)(B:fs.length<=900)(x:s.af.length<=900)
  (a:G2 w s h r e) (hd:GW w {s with af:=s.af.set h (vs,fs.dropLast++ [{f with row:=f.row+1}])} h r n):t8 w s h n e:=by
 intro S Q q
 have y:=(gQs.mp b).1
 refine bN ?_
 unfold kT
 symm
 apply bK m j ?_
 refine ax (d:=.int f.room) rfl ?_
 refine aK (dZ (uB (d:=none) u ?_))
 apply bc (λc=>by cases c) (λ_=>cq ?_)
 apply eQ A ?_
 apply ax (d:=.int f.row) rfl ?_
 refine dW ?_
 dsimp only
 rw[lQm,Qdq (show¬f.row=(pr.length:Int) by omega),Quq (by decide)]
 apply cq ?_
 refine ax (d:=.int f.row) rfl ?_
 refine ax (d:=r.d) (k8 C (by rw[gQm,b];rfl)) ?_
 symm
 obtain⟨l,hl⟩:=r.d_kind
 have g:T (cu (aR (aq (aA je (aq (au 0) (aq (aA jB (aq (au 1) (aq (au 2) (aq (a0 bL (a0 iQ (au 3) (cF (.int 2))) (cF (.int 1))) av)))) (aq (au 2) (aq (au 6) av))))) (aq (au 7) av))))
   [some w.d,some s.d,some (.int h),some f.d,some (.int f.room),some (.tup (pr.map Rw.d)),some r.d,some (J1 h e)] S (λo=>match o with
   |.nx _ i=>Op (settle S .non i) λp=>Q p.1 p.2|.rt d i=>Op (settle S d i) λp=>Q p.1 p.2|.rl l i=>Op (fm S l i) λp=>Q p.1 p.2|_=>False):=by
  symm
  apply ax (d:=.int f.row) rfl ?_
  apply oZ m j B x ?_
  apply xO hd ?_
  refine⟨by show 2<=_;decide,?_⟩
  exact bV (d:=GR _ h e) (λk z=>(nomatch z)) (qx _ _ _) q
 cases r with
 | say t=>
   obtain⟨v,rfl,hv⟩:=a
   apply ax (d:=.str "say") rfl ?_
   refine gF ?_
   dsimp only
   rw[Qeq rfl,Qhq rfl]
   symm
   apply ax (d:=t.d) rfl ?_
   apply hv _ _ ?_
   refine⟨by show 2<=_;decide,?_⟩
   exact g
 | _=>
   have a:e=none:=a
   subst a
   apply ax rfl ?_
   refine gF ?_
   dsimp only
   refine bc (λc=>absurd (QZq c) (by decide +kernel)) (λ_=>cq ?_)
   exact g
end
end W28
namespace DL
open PySem PySem.Spec L2
section
variable{Γ:cD}{S:aG}
def DJ{f:bx}{g:eN}{Q:D->aG->Prop}(h:E f Γ S λx b=>∃k a,x=.ref k/\b[k]?=some (.lst a)/\E g Γ b λp S2=>∃ds,S2[k]?=some (.lst ds)/\(p.2.isL=false/\ds.length+p.1.length<=sizeLine)/\Q .non (S2.set k (.lst (ds++p.1)))):E (tY f g) Γ S Q:=by
 obtain⟨x,b,c,k,a,rfl,h1,p,S2,e2,ds,h2,h3,q⟩:=h
 exact⟨_,_,by unfold tY;rw[c];simp only[Qbq,e2,h1,h2];rw[Qhq h3],q⟩
end
def yz{S a:aG}{k:Nat}{ds:List D}{Q:Res×aG->Prop}(b:nE S a)(d:S.length<=k)(c:a[k]?=some (.lst ds))(hl:bJ S.length ds=true)(q:Q (.l ds,a.take S.length)):Op (settle S (.ref k) a) Q:=by
 refine⟨_,?_,q⟩
 unfold settle
 rw[Qhq b]
 show(if k<S.length then _ else _)=_
 rw[Quq (by omega),c]
 show(if bJ S.length ds=true then _ else _)=_
 rw[Qhq hl]
def vY{n:Nat}(h:n<=100000):n<=sizeLine:=QAq h (by decide)
theorem fc:∀a:List Int,ip (a.map D.int)=some (a.map V.int)
 | []=>rfl
 |s::a=>by simp only[QDq,ip,vG,Qbq];rw[fc a];rfl
def k9{x:Int}{b:List Int}:Ee (.int x) (b.map V.int)=decide (x∈b):=by
 induction b with
 |nil=>rfl
 | cons a b d=>
   show(lJ (.int a) (.int x)||Ee (.int x) (b.map V.int))=_
   rw[d]
   simp only[lJ,Qsq]
   by_cases c:a=x
   · subst c;simp
   · have e:¬x=a:=λz=>c z.symm
     simp[c,e]
end DL
namespace W28
open PySem PySem.Spec L2 DL
section
variable{S:aG}{Q:Res->aG->Prop}
def wK{S a:aG}(x:pX S a):a.take S.length=S:=by
 apply List.ext_getElem?
 intro j
 by_cases b:j<S.length
 ·rw[List.getElem?_take_of_lt b]
  exact x.eq j b
 ·rw[List.getElem?_eq_none (by rw[Qxq];omega),List.getElem?_eq_none (by omega)]
def Gx{S a:aG}{ds:List D}{Q:Res->aG->Prop}(x:pX S a)(hl:bJ 0 ds=true)(q:Q (.l ds) S):Op (fm S ds a) λp=>Q p.1 p.2:=
 l9 ⟨x.len,λk o b e=>.inl (by rw[←x.eq k b];exact e)⟩ (wK x) (i_ hl) q
def DF{S a:aG}{k:Nat}{ds:List D}{Q:Res->aG->Prop}(x:pX S a)(b:S.length<=k)(c:a[k]?=some (.lst ds))(hl:bJ 0 ds=true)(q:Q (.l ds) S):Op (settle S (.ref k) a) λp=>Q p.1 p.2:=
 yz ⟨x.len,λk o b e=>.inl (by rw[←x.eq k b];exact e)⟩ b c (i_ hl) (by rw[wK x];exact q)
def pZ{l:List (Int×Int)}(hl:l.length<=1000)(q:Q (.l ((l.map (·.2)).map D.int)) S):Fn ji [eh l] S Q:=by
 refine bN ?_
 unfold oG
 symm
 apply rq (α:=Int×Int) (λc=>∃a b,c= [a,b]) pairD (λp=>.int p.2) ⟨none,none,rfl⟩ ?_
 refine bT (ds:=l.map pairD) ?_
 refine⟨l,rfl,trivial,hl,λp f c d=> ?_,?_⟩
 ·obtain⟨a,b,rfl⟩:=d
  refine dP rfl (aB (aW (aB (aW (bf ?_)))))
  apply⟨rfl,⟨_,_,rfl⟩,?_⟩
  exact⟨rfl,rfl⟩
 ·have e:l.map (λp=>D.int p.2)=(l.map (·.2)).map D.int:=by rw[QPq];rfl
  rw[e]
  exact DS (a8 λ_ _=>rfl) q
def aO(r:cN):List Int:=r.row++r.ag++r.aa.flatMap λl=>l.map (·.2)
def held(s:bt):List Int:=s.ai.flatMap (·.2)++s.aj.flatMap aO
theorem nY{α d:Type}{f:α->List d}{n:Nat}:∀{l:List α},(∀a∈l,(f a).length<=n)->(l.flatMap f).length<=n*l.length
 | [],_=>by simp
 | a::l,h=>by
   have e:=h a (QBq ..)
   have g:=nY (f:=f) (l:=l) λb c=>h b (Qpq _ c)
   rw[QSq,lQa,Qnq,Nat.mul_add]
   omega
def gX{α b:Type}{f:α->List b}{l:List α}{n:Nat}{a:α}(h:l[n]?=some a):(l.take (n+1)).flatMap f=(l.take n).flatMap f++f a:=by
 rw[QYq,h]
 simp
def o_{s:bt}{n:Nat}(P:n<=100)(b1:s.ai.length<=100)(b2:s.aj.length<=20)(R:∀p∈s.ai,p.2.length<=n)(J:∀r∈s.aj,r.row.length<=n/\r.ag.length<=n/\r.aa.length<=10/\∀l∈r.aa,l.length<=n)
  (q:Q (.l ((held s).map D.int)) S):Fn ed [s.d] S Q:=by
 have Z:∀o:List D,pX S (S++ [.lst o]):=λo=>pX.refl.app
 have C:∀r∈s.aj,∀j:Nat,((r.aa.take j).flatMap λl=>l.map (·.2)).length<=1000:=λr C j=>by
  obtain⟨_,_,N,L⟩:=J r C
  have G:=nY (f:=λl:List (Int×Int)=>l.map (·.2)) (n:=n) (l:=r.aa.take j) λl hl=>by rw[lQm];exact L l (List.mem_of_mem_take hl)
  have F:(r.aa.take j).length<=10:=by rw[Qxq];omega
  have Y:n*(r.aa.take j).length<=100*10:=Nat.mul_le_mul P F
  omega
 have K:∀r∈s.aj,(aO r).length<=1200:=λr h=>by
  have H:=C r h r.aa.length
  obtain⟨X,N,_⟩:=J r h
  rw[QEq] at H
  simp only[aO,lQa]
  omega
 have A:∀j:Nat,((s.ai.take j).flatMap (·.2)).length<=10000:=λj=>by
  have G:=nY (f:=λp:Int×List Int=>p.2) (n:=n) (l:=s.ai.take j) λl hl=>R l (List.mem_of_mem_take hl)
  have F:(s.ai.take j).length<=100:=by rw[Qxq];omega
  have Y:n*(s.ai.take j).length<=100*100:=Nat.mul_le_mul P F
  omega
 have I:∀j:Nat,((s.aj.take j).flatMap aO).length<=24000:=λj=>by
  have G:=nY (f:=aO) (n:=1200) (l:=s.aj.take j) λl hl=>K l (List.mem_of_mem_take hl)
  have F:(s.aj.take j).length<=20:=by rw[Qxq];omega
  omega
 refine bN ?_
 unfold gZ
 symm
 refine⟨by decide,?_⟩
 apply aK (gn (qd ?_))
 refine ax rfl ?_
 refine bT (ds:=s.ai.map zx) ?_
 refine⟨λj k u=>(∃a b c d e f g,k= [some s.d,some (.ref S.length),a,b,c,d,e,f,g])/\u=S++ [.lst (((s.ai.take j).flatMap (·.2)).map D.int)],⟨⟨_,_,_,_,_,_,_,rfl⟩,rfl⟩,λ_ _ _ _=>trivial,?_,?_⟩
 ·rintro j d k u t ⟨⟨a,b,c,B,e,f,g,rfl⟩,rfl⟩
  have t:(s.ai.map zx)[j]?=some d:=t
  rw[gQm] at t
  obtain⟨p,M,rfl⟩:=oQm.mp t
  refine dP rfl (aB (aW (aB (aW (bf ?_)))))
  apply pA (DJ ?_)
  apply⟨_,_,rfl,a_,?_⟩
  refine bT (ds:=p.2.map D.int) ?_
  refine⟨_,a_,⟨rfl,?_⟩,⟨_,_,_,_,_,_,_,rfl⟩,?_⟩
  ·have:=A j
   have:=R p (mQg M)
   simp only[lQm]
   exact vY (by omega)
  ·rw[gX M,Qzq]
   simp
 rintro k u ⟨⟨a,b,c,B,e,f,g,rfl⟩,rfl⟩
 have hl:(s.ai.map zx).length=s.ai.length:=lQm ..
 rw[hl,QEq]
 apply aK (gn (qd ?_))
 refine ax rfl ?_
 refine bT (ds:=s.aj.map cN.d) ?_
 refine⟨λj k u=>(∃a b c d e f g,k= [some s.d,some (.ref S.length),a,b,c,d,e,f,g])/\u=S++ [.lst ((s.ai.flatMap (·.2)++(s.aj.take j).flatMap aO).map D.int)],⟨⟨_,_,_,_,_,_,_,rfl⟩,by simp⟩,λ_ _ _ _=>trivial,?_,?_⟩
 ·rintro j d k u t ⟨⟨a,b,c,B,e,f,g,rfl⟩,rfl⟩
  have t:(s.aj.map cN.d)[j]?=some d:=t
  rw[gQm] at t
  obtain⟨r,z,rfl⟩:=oQm.mp t
  have v:=mQg z
  obtain⟨X,N,L,G⟩:=J r v
  have x:(s.ai.flatMap (·.2)++(s.aj.take j).flatMap aO).length<=34000:=by
   have:=A s.ai.length
   rw[QEq] at this
   have:=I j
   rw[lQa]
   omega
  generalize y:s.ai.flatMap (·.2)++(s.aj.take j).flatMap aO=o at x⊢
  refine dP rfl (aB (aW (aB (aW (aB (aW (aB (aW (aB (aW (bf ?_)))))))))))
  apply aK (pA (DJ ?_))
  apply⟨_,_,rfl,a_,?_⟩
  refine dI (i:=r.row.map D.int) (j:=r.ag.map D.int) (by simp only[lQm];exact vY (by omega)) ?_
  refine bT ?_
  refine⟨_,a_,⟨rfl,?_⟩,?_⟩
  ·simp only[lQa,lQm]
   exact vY (by omega)
  dsimp only
  have W:(S++ [O.lst (o.map D.int)]).set S.length (.lst (o.map D.int++(r.row.map D.int++r.ag.map D.int)))=S++ [.lst ((o++(r.row++r.ag)).map D.int)]:=by simp
  rw[W]
  apply gn (qd ?_)
  refine⟨λj k u=>(∃a b c d e f g,k= [some s.d,some (.ref S.length),a,b,c,d,e,f,g])/\u=S++ [.lst ((o++(r.row++r.ag)++(r.aa.take j).flatMap λl=>l.map (·.2)).map D.int)],⟨⟨_,_,_,_,_,_,_,rfl⟩,by simp⟩,λ_ _ _ _=>trivial,?_,?_⟩
  ·rintro m d k u t ⟨⟨a,b,c,B,e,f,g,rfl⟩,rfl⟩
   have t:(r.aa.map eh)[m]?=some d:=t
   rw[gQm] at t
   obtain⟨l,w,rfl⟩:=oQm.mp t
   have U:=G l (mQg w)
   refine aW ?_
   apply pA (C7 ?_)
   apply⟨_,_,rfl,a_,?_⟩
   apply pZ (by omega) ?_
   refine⟨_,a_,⟨rfl,?_⟩,⟨_,_,_,_,_,_,_,rfl⟩,?_⟩
   ·have:=C r v m
    simp only[lQa,lQm]
    exact vY (by omega)
   ·rw[gX w,←Qvq,Qzq]
    simp
  ·rintro k u ⟨H,rfl⟩
   refine⟨H,?_⟩
   have hl:(r.aa.map eh).length=r.aa.length:=lQm ..
   rw[hl,QEq,gX z]
   subst y
   simp only[aO,Qvq]
 ·rintro k u ⟨⟨a,b,c,B,e,f,g,rfl⟩,rfl⟩
  have hl:(s.aj.map cN.d).length=s.aj.length:=lQm ..
  rw[hl,QEq]
  symm
  exact DF (Z _) (Qmq _) a_ (a8 λ_ _=>rfl) q
end
end W28
namespace DL
open PySem PySem.Spec L2
def qW{b:cD}{S:aG}{f g:bx}{Q:D->aG->Prop}(h:E f b S λd a=>∃k,d=.bl k/\if k=true then E g b a Q else Q (.bl false) a):E (vc f g) b S Q:=by
 obtain⟨d,a,c,k,rfl,q⟩:=h
 cases k with
 |true=>obtain⟨j,i,e,q⟩:=(q:E g b a Q);exact⟨j,i,by unfold vc;rw[c];exact e,q⟩
 |false=>exact⟨_,a,by unfold vc;rw[c];rfl,q⟩
end DL
namespace W28
open PySem PySem.Spec L2 DL
section
variable{S:aG}{Q:Res->aG->Prop}
def Da(s:bt)(h:Nat):Option cp:=(s.af[h]?).bind λp=>p.2.getLast?
def xW(w:cZ)(s:bt)(h:Nat):Bool:=match Da s h with
 |some f=>decide (f.room= -1)&&decide (f.row=(((progOf w h f).getD []).length:Int))
 |none=>false
def o7{w:cZ}{s:bt}{h:Nat}{vs:List Int}{fs:List cp}{f:cp}{pr:List Rw}(a:s.af[h]?=some (vs,fs))(e:fs.getLast? =some f)(b:progOf w h f=some pr)(q:Q (.d (.bl (xW w s h))) S):Fn fq [w.d,s.d,.int h] S Q:=by
 have g:xW w s h=(decide (f.room= -1)&&decide (f.row=(pr.length:Int))):=by
  unfold xW Da
  rw[a]
  show(match fs.getLast? with|some f=>_|none=>_)=_
  rw[e]
  simp only[b,Option.getD_some]
 rw[g] at q
 refine bN ?_
 unfold h_
 symm
 apply bK a e ?_
 apply qW ?_
 apply ax (d:=.int f.room) rfl ?_
 refine dW ?_
 refine⟨_,rfl,?_⟩
 by_cases c:f.room= -1
 ·rw[Qeq c] at q⊢
  rw[Qhq rfl]
  symm
  apply ax (d:=.int f.row) rfl ?_
  apply eQ b ?_
  refine dW ?_
  rw[lQm]
  exact bV (λk z=>(nomatch z)) rfl q
 ·rw[Qdq c] at q⊢
  rw[Quq (by decide)]
  exact bV (λk z=>(nomatch z)) rfl q
def yI(w:cZ)(s:bt):List Nat:=(List.range s.af.length).filter λh=> !decide ((h:Int)∈held s)&& !xW w s h
def GS(h:Nat):D:=.int h
def HA(w:cZ)(s:bt):Prop:=∀(S:aG) (Q:Res->aG->Prop),Q (.l ((yI w s).map GS)) S->Fn jh [w.d,s.d] S Q
def xb{w:cZ}{s:bt}(j:∀(S:aG) (Q:Res->aG->Prop),Q (.l ((held s).map D.int)) S->Fn ed [s.d] S Q)(k:∀h<s.af.length,∃vs fs f pr,s.af[h]?=some (vs,fs)/\fs.getLast? =some f/\progOf w h f=some pr)(p:s.af.length<=100):HA w s:=by
 intro S Q q
 refine bN ?_
 unfold ph
 symm
 apply j _ _ ?_
 apply qE (α:=Nat) (λb=>∃a,b= [a,some w.d,some s.d,some (.ref S.length)]) (λ(i:Nat)=>D.int (0+(i:Int))) GS (λh=> !decide ((h:Int)∈held s)&& !xW w s h) ⟨none,rfl⟩ ?_
 apply ax rfl ?_
 refine⟨_,rfl,?_,?_⟩
 ·simp only[lQm]
  omega
 refine⟨List.range s.af.length,?_,trivial,by simp;omega,λh o b e=> ?_,?_⟩
 ·simp only[jo,lQm]
  rfl
 ·obtain⟨a,rfl⟩:=e
  obtain⟨vs,fs,f,pr,g,m,n⟩:=k h (List.mem_range.mp o)
  refine aW ⟨rfl,⟨_,rfl⟩,?_⟩
  rw[Int.zero_add]
  apply sO (cz (rP ?_))
  refine bS (ds:=(held s).map D.int) a_ ?_
  refine⟨_,_,rfl,fc _,?_⟩
  rw[k9]
  by_cases c:(h:Int)∈held s
  ·rw[Qeq c]
   refine bc (λc=>by cases c) (λ_=> ?_)
   exact⟨rfl,rfl,λc=>by cases c⟩
  ·rw[Qdq c]
   apply bc (λ_=> ?_) (λc=>by cases c)
   refine o7 g m n ?_
   dsimp only
   refine qQ ?_
   apply⟨rfl,rfl,λ_=> ?_⟩
   exact⟨rfl,rfl⟩
 ·refine Gx (pX.refl.app) (a8 λ_ _=>rfl) q
def zg{w:cZ}{s b:bt}{h:Nat}{e:Option Int}(i:HA w s)(f:h∈yI w s)(a:t8 w s h b e)(q:Q (.d (GR b h e)) S):Fn nM [w.d,s.d,.int h] S Q:=by
 refine bN ?_
 unfold qU
 apply aK (dZ (cz (rP ?_)))
 refine i _ _ ?_
 dsimp only
 have g:(yI w s).map GS=((yI w s).map λh:Nat=>(h:Int)).map D.int:=by rw[QPq];rfl
 refine⟨_,_,rfl,by rw[g];exact fc _,?_⟩
 rw[k9,Qeq (Qkq.mpr ⟨h,f,rfl⟩)]
 apply bc (λc=>by cases c) (λ_=>cq ?_)
 refine a _ _ ?_
 exact bV (λk z=>(nomatch z)) (qx _ _ _) q
end
structure jx(n:Nat)(r:Rm)(rs:cN):Prop where
 lv:r.ao.length=rs.vals.length
 lb:r.aa.length=rs.aa.length
 vv:∀v∈rs.vals,0<=v/\v<=9
 br:rs.row.length<=n
 bl:rs.ag.length<=n
 bb:∀l∈rs.aa,l.length<=n
structure C2(w:cZ)(h:Nat)(f:cp):Prop where
 pr:∃pr,progOf w h f=some pr/\0<=f.row/\f.row<=pr.length
 gv:0<=f.given/\f.given<=9
 tv:0<=f.told/\f.told<=9
def K3(w:cZ)(h:Nat)(f:cp):Prop:=∃a g b c t,progOf w h f=some a/\1<=f.row/\a[(f.row-1).toNat]?=some (.do_ g b c t)
def ix:List cp->Prop
 | []=>False
 |f0::tl=>f0.room= -1/\∀f∈tl,f.room≠-1
structure jv(w:cZ)(n h:Nat)(ts:List (Str×Nat))(vs:List Int)(fs:List cp):Prop where
 lv:ts.length=vs.length
 vv:∀v∈vs,0<=v/\v<=9
 lf:fs.length<=n
 fr:∀f∈fs,C2 w h f
 hd:ix fs
 ch:∀f∈fs.dropLast,K3 w h f
structure cI(w:cZ)(n:Nat)(s:bt):Prop where
 lr:w.aj.length=s.aj.length
 rm:∀(i:Nat) (r:Rm) (rs:cN),w.aj[i]?=some r->s.aj[i]?=some rs->jx n r rs
 lp:w.ai.length=s.ai.length
 ps:∀p∈s.ai,p.2.length<=n
 ls:w.ak.length=s.ak.length
 sv:∀v∈s.ak,0<=v/\v<=9
 lh:w.af.length=s.af.length
 hd:∀(h:Nat) (ts:List (Str×Nat)) (pr:List Rw) (vs:List Int) (fs:List cp),w.af[h]?=some (ts,pr)->s.af[h]?=some (vs,fs)->jv w n h ts vs fs
def jx.mono{n m:Nat}{r:Rm}{rs:cN}(h:jx n r rs)(l:n<=m):jx m r rs:=⟨h.lv,h.lb,h.vv,QAq h.br l,QAq h.bl l,λx a=>QAq (h.bb x a) l⟩
def jv.mono{w:cZ}{n m h:Nat}{ts:List (Str×Nat)}{vs:List Int}{fs:List cp}(x:jv w n h ts vs fs)(l:n<=m):jv w m h ts vs fs:=⟨x.lv,x.vv,QAq x.lf l,x.fr,x.hd,x.ch⟩
def cI.mono{w:cZ}{n m:Nat}{s:bt}(x:cI w n s)(l:n<=m):cI w m s:=⟨x.lr,λi r c a b=>(x.rm i r c a b).mono l,x.lp,λp d=>QAq (x.ps p d) l,x.ls,x.sv,x.lh,λh e f j g a b=>(x.hd h e f j g a b).mono l⟩
def get_set{α:Type}{l:List α}{i j:Nat}{a b:α}(h:(l.set i a)[j]?=some b):(j=i/\b=a)\/(j≠i/\l[j]?=some b):=by
 rw[List.getElem?_set] at h
 split at h
 ·rename_i c
  split at h
  ·cases h;exact .inl ⟨c.symm,rfl⟩
  ·cases h
 ·rename_i c
  exact .inr ⟨λz=>c z.symm,h⟩
def cI.room{w:cZ}{n i:Nat}{s:bt}{r:Rm}{nr:cN}(x:cI w n s)(d:w.aj[i]?=some r)(f:jx n r nr):cI w n {s with aj:=s.aj.set i nr} where
 lr:=by simpa using x.lr
 rm:=λj e a b c=>by
  rcases get_set c with⟨rfl,rfl⟩|⟨_,c⟩
  ·rw[d] at b;cases b;exact f
  ·exact x.rm j e a b c
 lp:=x.lp
 ps:=x.ps
 ls:=x.ls
 sv:=x.sv
 lh:=x.lh
 hd:=x.hd
def cI.pass{w:cZ}{n i:Nat}{s:bt}{p:Int×List Int}(x:cI w n s)(b:p.2.length<=n):cI w n {s with ai:=s.ai.set i p} where
 lr:=x.lr
 rm:=x.rm
 lp:=by simpa using x.lp
 ps:=λq a=>by
  rcases QTq a with a|rfl
  ·exact x.ps q a
  ·exact b
 ls:=x.ls
 sv:=x.sv
 lh:=x.lh
 hd:=x.hd
def cI.share{w:cZ}{n:Nat}{s:bt}{vs:List Int}(x:cI w n s)(hl:vs.length=s.ak.length)(a:∀v∈vs,0<=v/\v<=9):cI w n {s with ak:=vs}:=⟨x.lr,x.rm,x.lp,x.ps,by rw[x.ls,←hl],a,x.lh,x.hd⟩
def cI.hand{w:cZ}{n h:Nat}{s:bt}{ts:List (Str×Nat)}{pr:List Rw}{vs:List Int}{fs:List cp}(x:cI w n s)(k:w.af[h]?=some (ts,pr))(i:jv w n h ts vs fs):cI w n {s with af:=s.af.set h (vs,fs)} where
 lr:=x.lr
 rm:=x.rm
 lp:=x.lp
 ps:=x.ps
 ls:=x.ls
 sv:=x.sv
 lh:=by simpa using x.lh
 hd:=λj c d a g b f=>by
  rcases get_set f with⟨rfl,e⟩|⟨_,f⟩
  ·rw[k] at b;cases b;cases e;exact i
  ·exact x.hd j c d a g b f
def hX{α:Type}{l:List α}{a:α}(h:l.getLast? =some a):l=l.dropLast++ [a]:=by
 cases l with
 |nil=>cases h
 | cons x y=>
   have b:x::y≠[]:=by simp
   rw[List.getLast?_eq_some_getLast b] at h
   cases h
   exact(List.dropLast_concat_getLast b).symm
def ix.last{fs:List cp}{f f':cp}:∀{b:List cp},ix (b++ [f])->f'.room=f.room->ix (b++ [f'])
 | [],h,e=>⟨by rw[e];exact h.1,λ_ z=>by cases z⟩
 | a::l,h,e=>⟨h.1,λx c=>by
   rcases mQa.mp c with c|c
   · exact h.2 x (mQa.mpr (.inl c))
   · rw[Qfq.mp c,e];exact h.2 f (mQa.mpr (.inr (Qfq.mpr rfl)))⟩
def ix.push{f':cp}:∀{fs:List cp},ix fs->f'.room≠-1->ix (fs++ [f'])
 | [],h,_=>h.elim
 | a::l,h,e=>⟨h.1,λx b=>by
   rcases mQa.mp b with b|b
   · exact h.2 x b
   · rw[Qfq.mp b];exact e⟩
def ix.pop{c f:cp}:∀{gs:List cp},ix (gs++ [c,f])->ix (gs++ [c])
 | [],h=>⟨h.1,λ_ z=>by cases z⟩
 | a::l,h=>⟨h.1,λx b=>h.2 x (by
   rcases mQa.mp b with b|b
   · exact mQa.mpr (.inl b)
   · exact mQa.mpr (.inr (by rw[Qfq.mp b];simp)))⟩
def ix.two{f:cp}:∀{b:List cp},ix (b++ [f])->f.room≠-1->∃gs c,b=gs++ [c]
 | [],h,e=>absurd h.1 e
 |a::l,h,e=>⟨(a::l).dropLast,(a::l).getLast (by simp),(List.dropLast_concat_getLast (by simp)).symm⟩
section
variable{w:cZ}{n h:Nat}{ts:List (Str×Nat)}{vs:List Int}{fs:List cp}{f f' f2:cp}
def jv.setLast(x:jv w n h ts vs fs)(d:fs.getLast? =some f)(e:f'.room=f.room)(i:C2 w h f'):jv w n h ts vs (fs.dropLast++ [f']):=by
 have b:=hX d
 have c:=x.hd
 rw[b] at c
 refine⟨x.lv,x.vv,?_,λg a=> ?_,ix.last (fs:=fs) c e,λg a=> ?_⟩
 ·have:=congrArg List.length b
  have:=x.lf
  simp only[lQa,Qnq,QGq] at *
  omega
 ·rcases mQa.mp a with a|a
  ·exact x.fr g (List.dropLast_subset _ a)
  ·rw[Qfq.mp a];exact i
 ·rw[List.dropLast_concat] at a
  exact x.ch g a
def jv.push(x:jv w n h ts vs fs)(b:fs.getLast? =some f)(d:K3 w h f)(e:f'.room≠-1)(i:C2 w h f'):jv w (n+1) h ts vs (fs++ [f']):=by
 refine⟨x.lv,x.vv,?_,λg a=> ?_,x.hd.push e,λg a=> ?_⟩
 ·have:=x.lf
  simp only[lQa,Qnq,QGq]
  omega
 ·rcases mQa.mp a with a|a
  ·exact x.fr g a
  ·rw[Qfq.mp a];exact i
 ·rw[List.dropLast_concat,hX b] at a
  rcases mQa.mp a with a|a
  ·exact x.ch g a
  ·rw[Qfq.mp a];exact d
def jv.pop{gs:List cp}(x:jv w n h ts vs (gs++ [f2,f])):jv w n h ts vs (gs++ [f2])/\K3 w h f2:=by
 have e:(gs++ [f2,f]).dropLast=gs++ [f2]:=by rw[show gs++ [f2,f]=(gs++ [f2])++ [f] by simp,List.dropLast_concat]
 have b:=x.ch
 rw[e] at b
 refine⟨⟨x.lv,x.vv,?_,λg a=>x.fr g ?_,x.hd.pop,λg a=>b g ?_⟩,b f2 (by simp)⟩
 ·have:=x.lf
  simp only[lQa,Qnq,QGq] at *
  omega
 ·rcases mQa.mp a with a|a
  ·exact mQa.mpr (.inl a)
  ·exact mQa.mpr (.inr (by rw[Qfq.mp a];simp))
 ·rw[List.dropLast_concat] at a
  exact mQa.mpr (.inl a)
def jv.vals{a:List Int}(x:jv w n h ts vs fs)(hl:a.length=vs.length)(b:∀v∈a,0<=v/\v<=9):jv w n h ts a fs:=⟨by rw[x.lv,hl],b,x.lf,x.fr,x.hd,x.ch⟩
def jv.last(x:jv w n h ts vs fs):∃f,fs.getLast? =some f/\C2 w h f:=by
 have:=x.hd
 cases fs with
 |nil=>exact this.elim
 | cons a l=>
   refine⟨_,List.getLast?_eq_some_getLast (by simp),x.fr _ (List.getLast_mem (by simp))⟩
end
def jL{w:cZ}{h:Nat}{f:cp}{pr:List Rw}(a:progOf w h f=some pr):(f.room= -1/\∃ts,w.af[h]?=some (ts,pr))\/∃(i j:Nat) (r:Rm) (g:Str),f.room=i/\f.deed=j/\w.aj[i]?=some r/\r.ae[j]?=some (g,pr):=by
 unfold progOf at a
 split at a
 ·rename_i c
  obtain⟨⟨ts,b⟩,d,e⟩:=oQm.mp a
  cases e
  exact .inl ⟨c,ts,d⟩
 ·split at a
  ·rename_i c
   obtain⟨r,d,e⟩:=ar a
   obtain⟨⟨g,b⟩,k,l⟩:=oQm.mp e
   cases l
   exact .inr ⟨f.room.toNat,f.deed.toNat,r,g,by omega,by omega,d,k⟩
  ·cases a
def Bd{w:cZ}{h i j:Nat}{f:cp}{r:Rm}{e:Str}{pr:List Rw}(a:f.room=i)(b:f.deed=j)(c:w.aj[i]?=some r)(d:r.ae[j]?=some (e,pr)):progOf w h f=some pr:=by
 unfold progOf
 rw[Quq (by omega),Qhq ⟨by omega,by omega⟩,a,b]
 show(w.aj[i]?).bind _=_
 rw[c]
 show(r.ae[j]?).map _=_
 rw[d]
 rfl
def A2(w:cZ)(h:Nat)(f:cp):Option Sc:=if f.room= -1 then(w.af[h]?).map λp=>⟨true,p.1.map (·.1)++w.ak.map (·.1),p.1.map (·.1)++w.ak.map (·.1),[],bC w.aj,w.ai.map (·.1)⟩
 else(w.aj[f.room.toNat]?).map λr=>⟨false,r.ao.map (·.1)++cT,r.ao.map (·.1),r.aa.map (·.1),bC w.aj,[]⟩
def Dp{w:cZ}{h:Nat}{f:cp}{pr:List Rw}(o:d0 w)(e:progOf w h f=some pr):∃b,A2 w h f=some b/\xT b pr:=by
 unfold A2
 rcases jL e with⟨c,k,a⟩|⟨i,j,r,m,a,l,d,g⟩
 ·rw[Qhq c,a]
  exact⟨_,rfl,(o.hd _ (mQg a)).pr⟩
 ·rw[Quq (by omega),a]
  refine⟨_,by rw[show((i:Int)).toNat=i by omega,d];rfl,((o.rm _ (mQg d)).pr _ (mQg g)).1⟩
def B3{w:cZ}(o:d0 w):cI w 1 (bR w) where
 lr:=by simp[bR]
 rm:=λi r n c d=>by
  simp only[bR,gQm,c,Option.map_some,Option.some.injEq] at d
  subst d
  have e:=o.rm r (mQg c)
  refine⟨by simp[cX,e_],by simp[cX],λv b=> ?_,by simp[cX],by simp[cX],λl hl=> ?_⟩
  ·simp only[cX,e_,Qkq] at b
   obtain⟨p,a,rfl⟩:=b
   have:=e.tv p a
   omega
  ·simp only[cX,Qkq] at hl
   obtain⟨p,a,rfl⟩:=hl
   simp
 lp:=by simp[bR]
 ps:=λp a=>by
  simp only[bR,Qkq] at a
  obtain⟨p,a,rfl⟩:=a
  simp
 ls:=by simp[bR,e_]
 sv:=λv b=>by
  simp only[bR,e_,Qkq] at b
  obtain⟨p,a,rfl⟩:=b
  have:=o.sv p a
  omega
 lh:=by simp[bR]
 hd:=λh k j m q c d=>by
  simp only[bR,gQm,c,Option.map_some,Option.some.injEq] at d
  cases d
  have e:=o.hd _ (mQg c)
  refine⟨by simp[e_],λv b=> ?_,by simp,λf g=> ?_,⟨rfl,λ_ z=>by cases z⟩,λf g=>by cases g⟩
  ·simp only[e_,Qkq] at b
   obtain⟨p,a,rfl⟩:=b
   have:=e.tv p a
   omega
  ·rw[Qfq.mp g]
   refine⟨⟨j,?_,by decide,?_⟩,by decide,by decide⟩
   ·unfold progOf
    rw[Qhq (show Eo.room= -1 from rfl),c]
    rfl
   ·show(0:Int)<=_
    omega
section
variable{w:cZ}{n h:Nat}{s:bt}{vs:List Int}{fs:List cp}{f:cp}{sc:Sc}
def cI.whand(x:cI w n s)(a:s.af[h]?=some (vs,fs)):∃ts pr,w.af[h]?=some (ts,pr)/\jv w n h ts vs fs:=by
 have hl:h<w.af.length:=by rw[x.lh];exact(gQs.mp a).1
 exact⟨_,_,gQe hl,x.hd h _ _ vs fs (gQe hl) a⟩
def cI.wroom{i:Nat}{r:Rm}(x:cI w n s)(a:w.aj[i]?=some r):∃rs,s.aj[i]?=some rs/\jx n r rs:=by
 have hl:i<s.aj.length:=by rw[←x.lr];exact(gQs.mp a).1
 exact⟨_,gQe hl,x.rm i r _ a (gQe hl)⟩
def kM{t:Sc}(a:A2 w h f=some t):(f.room= -1/\∃ts pr,w.af[h]?=some (ts,pr)/\t=⟨true,ts.map (·.1)++w.ak.map (·.1),ts.map (·.1)++w.ak.map (·.1),[],bC w.aj,w.ai.map (·.1)⟩)∨
  (f.room≠-1/\∃r,w.aj[f.room.toNat]?=some r/\t=⟨false,r.ao.map (·.1)++cT,r.ao.map (·.1),r.aa.map (·.1),bC w.aj,[]⟩):=by
 unfold A2 at a
 split at a
 ·rename_i c
  obtain⟨⟨ts,pr⟩,b,d⟩:=oQm.mp a
  exact .inl ⟨c,ts,pr,b,d.symm⟩
 ·rename_i c
  obtain⟨r,b,d⟩:=oQm.mp a
  exact .inr ⟨c,r,b,d.symm⟩
def oA(x:C2 w h f)(c:f.room≠-1):f.room=(f.room.toNat:Int):=by
 obtain⟨e,a,_⟩:=x.pr
 rcases jL a with⟨b,_⟩|⟨i,_,_,_,d,_⟩
 ·exact absurd b c
 ·omega
def lF{t:Tr}(o:d0 w)(x:cI w n s)(z:s.af[h]?=some (vs,fs))(l:fs.getLast? =some f)(u:A2 w h f=some sc)(ht:EK sc t):∃v,(0<=v/\v<=9)/\yE w s h t v:=by
 obtain⟨k,K,p,e⟩:=x.whand z
 have H:=o.hd _ (mQg p)
 have j:=e.fr f (QcQ l)
 have J:=o.l3
 have C:=H.l1
 have B:=x.ls
 rcases kM u with⟨c,F,G,d,rfl⟩|⟨c,r,hr,rfl⟩
 ·rw[p] at d
  cases d
  have b:ke (B8 w s k vs):=ke.merge (gU x.sv) (gU e.vv)
  refine⟨yr (numAt (B8 w s k vs)) (λ_=>0) t,?_,λS Q q=>wF p z l c B e.lv (by omega) (by dsimp only at C;omega) x.sv e.vv ht.1 (by have:=ht.2;omega) q⟩
  refine k0 (ws:=k.map (·.1)++w.ak.map (·.1)) (bs:= []) (λy a=> ?_) ht.1
  refine(oa b (gq ?_)).2
  rcases mQa.mp a with a|a
  ·exact .inr (gS e.lv a)
  ·exact .inl (gS B a)
 ·obtain⟨m,A,i⟩:=x.wroom hr
  have g:=o.rm r (mQg hr)
  have L:=g.l1
  have I:=g.l2
  have b:ke (t6 r m f.given):=(gU i.vv).put j.gv.1 j.gv.2
  refine⟨yr (numAt (t6 r m f.given)) (wQ r m) t,?_,λS Q q=>tx z l (oA j c) hr A i.lv i.lb (by omega) (by omega) i.vv j.gv ht.1 (by have:=ht.2;omega) q⟩
  refine k0 (ws:=r.ao.map (·.1)++cT) (bs:=r.aa.map (·.1)) (λy a=> ?_) ht.1
  refine(oa b (lg ?_)).2
  rcases mQa.mp a with a|a
  ·exact .inr (gS i.lv a)
  ·left
   rw[Qfq.mp a]
def lY{ns:List Str}{y:Str}{v:Int}{a:List Int}(c:∀v∈a,0<=v/\v<=9)(d:0<=v/\v<=9):(eU ns a y v).length=a.length/\∀u∈eU ns a y v,0<=u/\u<=9:=by
 unfold eU
 refine⟨by simp,λz b=> ?_⟩
 rcases QTq b with b|rfl
 ·exact c z b
 ·exact d
def cI.goes{m:Int}{pr:List Rw}(x:cI w n s)(g:s.af[h]?=some (vs,fs))(a:fs.getLast? =some f)(i:progOf w h f=some pr)(k:0<=m)(j:m<=pr.length):cI w n {s with af:=s.af.set h (vs,fs.dropLast++ [{f with row:=m}])}:=by
 obtain⟨l,e,d,c⟩:=x.whand g
 have b:=c.fr f (QcQ a)
 exact x.hand d (c.setLast a rfl ⟨⟨pr,i,k,j⟩,b.gv,b.tv⟩)
def cI.tells{v:Int}(x:cI w n s)(i:s.af[h]?=some (vs,fs))(a:fs.getLast? =some f)(d:0<=v/\v<=9):cI w n {s with af:=s.af.set h (vs,fs.dropLast++ [{f with told:=v}])}:=by
 obtain⟨j,g,e,c⟩:=x.whand i
 have b:=c.fr f (QcQ a)
 exact x.hand e (c.setLast a rfl ⟨b.pr,b.gv,d⟩)
def jx.come{r:Rm}{rs:cN}{k:Int}(x:jx n r rs):jx (n+1) r (iK rs k):=by
 unfold iK
 have:=x.br
 split
 ·exact⟨x.lv,x.lb,x.vv,by show rs.row.length<=_;omega,Nat.le_succ_of_le x.bl,λl hl=>Nat.le_succ_of_le (x.bb l hl)⟩
 ·exact⟨x.lv,x.lb,x.vv,by simp;omega,Nat.le_succ_of_le x.bl,λl hl=>Nat.le_succ_of_le (x.bb l hl)⟩
def jx.leave{r:Rm}{rs:cN}(x:jx n r rs):jx n r (bW rs):=by
 obtain⟨d,b,c,i,j⟩:=rs
 have e:=x.br
 have g:=x.bl
 unfold bW
 dsimp only at e g⊢
 cases i with
 |cons a l=>exact⟨x.lv,x.lb,x.vv,x.br,by simp at g;show l.length<=n;omega,x.bb⟩
 | nil=>
   cases c with
   |cons a l=>exact⟨x.lv,x.lb,x.vv,by simp at e;show l.length<=n;omega,x.bl,x.bb⟩
   |nil=>exact⟨x.lv,x.lb,x.vv,x.br,x.bl,x.bb⟩
def jx.line{r:Rm}{rs:cN}{b:Nat}{l:List (Int×Int)}(x:jx n r rs)(hl:l.length<=n):jx n r {rs with aa:=rs.aa.set b l}:=⟨x.lv,by simp;exact x.lb,x.vv,x.br,x.bl,λk a=>by
 rcases QTq a with a|rfl
 ·exact x.bb k a
 ·exact hl⟩
def jx.call{r:Rm}{rs:cN}{b:Nat}{k:Int}{fr:Bool}(x:jx n r rs):jx (n+1) r (qP fr rs b k):=by
 unfold qP
 split
 ·rename_i p l e
  have hl:=x.bb _ (mQg e)
  have y:=(x.mono (Nat.le_succ n)).line (b:=b) (l:=l) (by simp at hl;omega)
  have z:=x.bl
  split
  ·exact y
  ·exact⟨y.lv,y.lb,y.vv,y.br,by simp;omega,y.bb⟩
 ·exact x.mono (Nat.le_succ n)
def DU{l:List (Int×Int)}{a b:Int}:(g7 l a b).length=l.length+1:=by
 unfold g7
 have:=List.length_filter_le (λp:Int×Int=>decide (p.1<=a)) l
 simp only[lQa,Qxq,List.length_drop,Qnq,QGq]
 omega
def EU{a j:Str}(o:d0 w)(c:(a,j)∈bC w.aj):a∈w.aj.map (·.name)/\∃r,w.aj[fT (w.aj.map (·.name)) a]?=some r/\j∈r.ae.map (·.1):=by
 unfold bC at c
 obtain⟨r,b,m⟩:=QOq.mp c
 obtain⟨p,l,e⟩:=Qkq.mp m
 cases e
 have d:r.name∈w.aj.map (·.name):=Qkq.mpr ⟨r,b,rfl⟩
 refine⟨d,r,?_,Qkq.mpr ⟨p,l,rfl⟩⟩
 obtain⟨t,q⟩:=jG d
 obtain⟨i,g,e⟩:=QbQ b
 have k:(w.aj.map (·.name))[i]?=some r.name:=by rw[gQm,gQe g,e];rfl
 rw[iZ o.nd q k,gQe g,e]
end
section
variable{w:cZ}{n h:Nat}{s:bt}{vs:List Int}{fs:List cp}{f:cp}{sc:Sc}
def cI.mays(o:d0 w)(x:cI w n s)(u:n<=100):HA w s:=by
 have C:=o.l1
 have B:=o.l2
 have z:=o.l4
 have F:=x.lr
 have v:=x.lp
 have y:=x.lh
 refine xb (λS Q q=>o_ u (by omega) (by omega) x.ps (λk c=> ?_) q) (λh m=> ?_) (by omega)
 ·obtain⟨i,d,e⟩:=QbQ c
  have a:s.aj[i]?=some k:=by rw[gQe d,e]
  have g:w.aj[i]?=some (w.aj[i]'(by omega)):=gQe (by omega)
  have b:=x.rm i _ k g a
  have:=(o.rm _ (mQg g)).l2
  have:=b.lb
  exact⟨b.br,b.bl,by omega,b.bb⟩
 ·obtain⟨⟨vs,fs⟩,a⟩:∃p,s.af[h]?=some p:=⟨_,gQe m⟩
  obtain⟨A,G,g,d⟩:=x.whand a
  obtain⟨f,r,l⟩:=d.last
  obtain⟨j,t,_⟩:=l.pr
  exact⟨vs,fs,f,j,a,r,t⟩
end
end W28
namespace DL
open PySem PySem.Spec L2
section
variable{Γ:cD}{S:aG}
def Jc{f:eN}{Q:D->aG->Prop}(h:E f Γ S λp a=>p.2.isL=true/\∃bs,kI p.1=some bs/\Q (.bl (bs.all id)) a):E (ES f) Γ S Q:=by
 obtain⟨p,a,b,l,bs,c,q⟩:=h
 exact⟨_,a,by unfold ES;rw[b];simp only[Qbq];rw[Qhq l,c];rfl,q⟩
def Jl{i j:Int}{Q:D->Prop}(h:C1 i j)(q:Q (.int (i^j.toNat))):Op (EN S (.int i) (.int j)) Q:=⟨_,by simp only[EN,intD];rw[Qhq h],q⟩
end
theorem wN:∀n:Nat,kI (List.replicate n (.bl true))=some (List.replicate n true)
 |0=>rfl
 |n+1=>by simp only[QNq,kI];rw[wN n];rfl
end DL
namespace W28
open PySem PySem.Spec L2 DL
end W28
namespace DL
open PySem PySem.Spec L2
theorem zip_map{α a:Type}(f:α->D)(g:a->D):∀(xs:List α) (ys:List a),tF (xs.map f) (ys.map g)=(xs.zip ys).map λp=>D.tup [f p.1,g p.2]
 | [],_=>rfl
 |_::_,[]=>rfl
 | x::xs,y::ys=>by
   have:=zip_map f g xs ys
   simp only[tF,QDq,List.zipWith_cons_cons,List.zip_cons_cons] at this⊢
   rw[this]
end DL
namespace W28
open PySem PySem.Spec L2 DL
def mD(l:List Int)(h:Int):Nat:=(l.map V.int).countP λz=>lJ z (.int h)
def fX{l:List Int}{h:Int}:mD l h=0↔h∉l:=by
 induction l with
 |nil=>simp[mD]
 | cons a l b=>
   unfold mD at b⊢
   rw[QDq,List.countP_cons]
   by_cases c:a=h
   · subst c
     simp[lJ]
   · have d:¬h=a:=λz=>c z.symm
     have e:lJ (.int a) (.int h)=false:=by simp[lJ,c]
     rw[e]
     simp only[Qsq,not_or,d,not_false_eq_true,true_and]
     simpa using b
def AH(h:Nat)(p:(Str×Nat)×(Int×List Int)):List D:=List.replicate (mD p.2.2 h) (.tup [.str "pass",.str p.1.1])
def uJ(h:Nat)(nm:Str)(p:(Str×Str)×List (Int×Int)):List D:=List.replicate (p.2.filter λq=>decide (q.2=(h:Int))).length (.tup [.str "bell",.str nm,.str p.1.1])
def pH(h:Nat)(p:Rm×cN):List D:=List.replicate (mD p.2.row h) (.tup [.str "row",.str p.1.name])++List.replicate (mD p.2.ag h) (.tup [.str "late",.str p.1.name])
def jY(h:Nat)(p:Rm×cN):List D:=pH h p++(p.1.aa.zip p.2.aa).flatMap (uJ h p.1.name)
def d_(w:cZ)(s:bt)(h:Nat):List D:=(w.ai.zip s.ai).flatMap (AH h)++(w.aj.zip s.aj).flatMap (jY h)
def qj{n:Nat}{d:D}(h:b_ 0 d=true):∀x∈List.replicate n d,b_ 0 x=true:=λx a=>by rw[QkQ a];exact h
def B4(w:cZ)(s:bt)(h:Nat):bJ 0 (d_ w s h)=true:=by
 refine qo λd b=> ?_
 unfold d_ at b
 rcases mQa.mp b with b|b
 ·obtain⟨p,_,a⟩:=QOq.mp b
  exact qj rfl d a
 ·obtain⟨p,_,a⟩:=QOq.mp b
  unfold jY pH at a
  rcases mQa.mp a with a|a
  ·rcases mQa.mp a with a|a
   ·exact qj rfl d a
   ·exact qj rfl d a
  ·obtain⟨q,_,c⟩:=QOq.mp a
   exact qj rfl d c
section
variable{w:cZ}{n:Nat}{s:bt}{S:aG}{Q:Res->aG->Prop}
def cI.zroom(x:cI w n s){j:Nat}{p:Rm×cN}(h:(w.aj.zip s.aj)[j]?=some p):w.aj[j]?=some p.1/\s.aj[j]?=some p.2/\jx n p.1 p.2:=by
 rw[List.getElem?_zip_eq_some] at h
 exact⟨h.1,h.2,x.rm j _ _ h.1 h.2⟩
end
def wu(w:cZ)(h:Nat):Nat:=((w.af[h]?).map λp=>p.2.length).getD 0
def Kz(w:cZ)(i:Int):Str:=((w.aj[i.toNat]?).map (·.name)).getD ""
def wit(s:bt)(i:Int):Int:=((s.aj[i.toNat]?).map (·.within)).getD (-1)
def Au(w:cZ)(s:bt)(h:Nat)(f:cp):Str:=if f.room= -1 then(if f.row=(wu w h:Int) then "done" else "out") else(if wit s f.room=(h:Int) then "within" else "called")
def xC(w:cZ)(s:bt)(h:Nat)(f:cp):D:=if f.room= -1 then .tup [.str (Au w s h f)] else .tup [.str (Au w s h f),.str (Kz w f.room)]
def vI(w:cZ)(s:bt)(h:Nat)(f:cp):D:=match d_ w s h with
 |d::_=>d
 | []=>xC w s h f
section
variable{w:cZ}{n h:Nat}{s:bt}{S:aG}{Q:Res->aG->Prop}{vs:List Int}{fs:List cp}{f:cp}
def cI.at(x:cI w n s)(l:s.af[h]?=some (vs,fs))(g:fs.getLast? =some f):f.room= -1\/∃(i:Nat) (r:Rm) (rs:cN),f.room=i/\w.aj[i]?=some r/\s.aj[i]?=some rs/\Kz w f.room=r.name/\wit s f.room=rs.within:=by
 obtain⟨q,z,t,k⟩:=x.whand l
 have e:=k.fr f (QcQ g)
 obtain⟨o,m,_⟩:=e.pr
 rcases jL m with⟨c,_⟩|⟨i,j,r,v,b,u,d,p⟩
 ·exact .inl c
 ·obtain⟨rs,a,y⟩:=x.wroom d
  refine .inr ⟨i,r,rs,b,d,a,?_,?_⟩
  ·unfold Kz
   rw[b,show((i:Int)).toNat=i by omega,d]
   rfl
  ·unfold wit
   rw[b,show((i:Int)).toNat=i by omega,a]
   rfl
def A0{d:D}(g:d∈d_ w s h):∃(a:Str) (e:List Str),d=.tup ((a::e).map D.str)/\a∈(["pass","row","late","bell"]:List Str)/\e.length<=2:=by
 unfold d_ at g
 rcases mQa.mp g with c|c
 ·obtain⟨p,_,b⟩:=QOq.mp c
  exact⟨"pass",[p.1.1],QkQ b,by simp,by simp⟩
 ·obtain⟨p,_,b⟩:=QOq.mp c
  unfold jY pH at b
  rcases mQa.mp b with b|b
  ·rcases mQa.mp b with b|b
   ·exact⟨"row",[p.1.name],QkQ b,by simp,by simp⟩
   ·exact⟨"late",[p.1.name],QkQ b,by simp,by simp⟩
  ·obtain⟨q,_,i⟩:=QOq.mp b
   exact⟨"bell",[p.1.name,q.1.1],QkQ i,by simp,by simp⟩
end
def headD(l:List D):D:=match l with
 |d::_=>d
 | []=>.non
def jt{α:Type}{f:α->List D}{l:List α}{n:Nat}{a:α}{d:D}{r:List D}(g:(l.take n).flatMap f= [])(b:l[n]?=some a)(hd:f a=d::r):∃t,l.flatMap f=d::t:=by
 have e:l=l.take n++a::l.drop (n+1):=by
  have c:=(gQs.mp b).1
  rw[gQe c] at b
  cases b
  rw[←QWq c,List.take_append_drop]
 rw[e,List.flatMap_append,g,QSq,hd]
 exact⟨_,rfl⟩
def qA{α:Type}{n:Nat}{d:α}(h:n≠0):∃t,List.replicate n d=d::t:=by
 cases n with
 |zero=>exact absurd rfl h
 |succ n=>exact⟨_,QNq⟩
def tV{h:Nat}{l:List (Int×Int)}:(l.filter λq=>decide (q.2=(h:Int))).length=0↔(h:Int)∉l.map (·.2):=by
 rw[List.length_eq_zero_iff,List.filter_eq_nil_iff]
 constructor
 ·intro g z
  obtain⟨q,a,e⟩:=Qkq.mp z
  exact g q a (Qeq e)
 ·intro g q a z
  exact g (Qkq.mpr ⟨q,a,QZq z⟩)
section
variable{w:cZ}{n h:Nat}{s:bt}{S:aG}{Q:Res->aG->Prop}{vs:List Int}{fs:List cp}{f:cp}
def Ei(o:d0 w)(x:cI w n s)(hn:n<=100)(q:Q (.d (headD (d_ w s h))) S):Fn eS [w.d,s.d,.int h] S Q:=by
 have lr:=x.lr
 have lp:=x.lp
 have r:∀{d:D} {t:List D} {R:Res->aG->Prop},d_ w s h=d::t->(∀k,d≠.ref k)->b_ 0 d=true->Op (settle S d S) λp=>Q p.1 p.2:=λ{d t R} e h1 h2=>by
  rw[e] at q
  exact bV h1 h2 q
 refine bN ?_
 unfold gw
 apply aK (gn (mZ ?_))
 refine ax rfl ?_
 apply bT (ds:=w.ai.map lG) ?_
 refine ax rfl ?_
 refine bT (ds:=s.ai.map zx) ?_
 refine⟨⟨trivial,by simp only[lQm];omega⟩,?_⟩
 rw[zip_map]
 refine⟨λj l J=>(∃a b c d e f g i k,l= [some w.d,some s.d,some (.int h),a,b,c,d,e,f,g,i,k])/\J=S/\((w.ai.zip s.ai).take j).flatMap (AH h)= [],⟨⟨_,_,_,_,_,_,_,_,_,rfl⟩,rfl,rfl⟩,λ_ _ _ _=>⟨trivial,trivial⟩,?_,?_⟩
 ·rintro j d l J y ⟨⟨a,b,c,F,e,W,g,i,k,rfl⟩,rfl,h0⟩
  rw[gQm] at y
  obtain⟨p,A,rfl⟩:=oQm.mp y
  refine dP rfl (aB (dP rfl (aB (aW (aB (aW (bf ?_)))))))
  refine aB (dP rfl (aB (aW (aB (aW (bf ?_))))))
  refine bf ?_
  apply dZ (cz (rP ?_))
  refine bT (ds:=p.2.2.map D.int) ?_
  refine⟨_,_,rfl,fc _,?_⟩
  rw[k9]
  show if decide ((h:Int)∈p.2.2)=true then _ else _
  by_cases v:(h:Int)∈p.2.2
  ·rw[Qeq v,Qhq rfl]
   symm
   refine⟨by show 2<=_;decide,?_⟩
   obtain⟨t,C⟩:=qA (n:=mD p.2.2 h) (d:=D.tup [.str "pass",.str p.1.1]) λz=>fX.mp z v
   obtain⟨K,u⟩:=jt h0 A (show AH h p=_::_ from C)
   exact r (R:=Q) (show d_ w s h=_::(K++_) by unfold d_;rw[u];rfl) (λk z=>(nomatch z)) rfl
  ·rw[Qdq v,Quq (by decide)]
   refine cq ?_
   refine⟨⟨_,_,_,_,_,_,_,_,_,rfl⟩,rfl,?_⟩
   rw[gX A,h0]
   unfold AH
   rw[fX.mpr v]
   rfl
 rintro l J ⟨⟨a,b,c,F,e,W,g,i,k,rfl⟩,rfl,h0⟩
 rw[lQm,QEq] at h0
 have L:d_ w s h=(w.aj.zip s.aj).flatMap (jY h):=by unfold d_;rw[h0];rfl
 apply aK (gn (mZ ?_))
 refine ax rfl ?_
 apply bT (ds:=w.aj.map Rm.d) ?_
 refine ax rfl ?_
 refine bT (ds:=s.aj.map cN.d) ?_
 refine⟨⟨trivial,by simp only[lQm];omega⟩,?_⟩
 rw[zip_map]
 refine⟨λj l I=>(∃a b c d e f g i k,l= [some w.d,some s.d,some (.int h),a,b,c,d,e,f,g,i,k])/\I=J/\((w.aj.zip s.aj).take j).flatMap (jY h)= [],⟨⟨_,_,_,_,_,_,_,_,_,rfl⟩,rfl,rfl⟩,λ_ _ _ _=>⟨trivial,trivial⟩,?_,?_⟩
 ·rintro j d l I y ⟨⟨a,b,c,F,e,W,g,i,k,rfl⟩,rfl,h1⟩
  rw[gQm] at y
  obtain⟨p,A,rfl⟩:=oQm.mp y
  obtain⟨a2,Z,Y⟩:=x.zroom A
  have lb:=Y.lb
  refine dP rfl (aB (aW (aB (aW (bf ?_)))))
  apply aK (dZ (cz (rP ?_)))
  refine ax rfl ?_
  refine bT (ds:=p.2.row.map D.int) ?_
  refine⟨_,_,rfl,fc _,?_⟩
  rw[k9]
  show if decide ((h:Int)∈p.2.row)=true then _ else _
  by_cases v:(h:Int)∈p.2.row
  ·rw[Qeq v,Qhq rfl]
   symm
   apply ax (d:=.str p.1.name) rfl ?_
   refine⟨by show 2<=_;decide,?_⟩
   obtain⟨t,C⟩:=qA (n:=mD p.2.row h) (d:=D.tup [.str "row",.str p.1.name]) λz=>fX.mp z v
   obtain⟨K,u⟩:=jt h1 A (show jY h p=_::_ by unfold jY pH;rw[C];rfl)
   exact r (R:=Q) (L.trans u) (λk z=>(nomatch z)) rfl
  rw[Qdq v,Quq (by decide)]
  refine cq ?_
  have X:List.replicate (mD p.2.row h) (D.tup [.str "row",.str p.1.name])= []:=by rw[fX.mpr v];rfl
  apply aK (dZ (cz (rP ?_)))
  refine ax rfl ?_
  refine bT (ds:=p.2.ag.map D.int) ?_
  refine⟨_,_,rfl,fc _,?_⟩
  rw[k9]
  show if decide ((h:Int)∈p.2.ag)=true then _ else _
  by_cases H:(h:Int)∈p.2.ag
  ·rw[Qeq H,Qhq rfl]
   symm
   apply ax (d:=.str p.1.name) rfl ?_
   refine⟨by show 2<=_;decide,?_⟩
   obtain⟨t,C⟩:=qA (n:=mD p.2.ag h) (d:=D.tup [.str "late",.str p.1.name]) λz=>fX.mp z H
   obtain⟨K,u⟩:=jt h1 A (show jY h p=_::_ by unfold jY pH;rw[X,C];rfl)
   exact r (R:=Q) (L.trans u) (λk z=>(nomatch z)) rfl
  rw[Qdq H,Quq (by decide)]
  refine cq ?_
  have z2:pH h p= []:=by unfold pH;rw[X,fX.mpr H];rfl
  have G:jY h p=(p.1.aa.zip p.2.aa).flatMap (uJ h p.1.name):=by unfold jY;rw[z2];rfl
  apply gn (mZ ?_)
  refine ax rfl ?_
  apply bT (ds:=p.1.aa.map Es) ?_
  refine ax rfl ?_
  refine bT (ds:=p.2.aa.map eh) ?_
  refine⟨⟨trivial,by simp only[lQm];omega⟩,?_⟩
  rw[zip_map]
  refine⟨λm l N=>(∃a b c d g i k,l= [some w.d,some s.d,some (.int h),a,b,c,d,some p.1.d,some p.2.d,g,i,k])/\N=I/\((p.1.aa.zip p.2.aa).take m).flatMap (uJ h p.1.name)= [],⟨⟨_,_,_,_,_,_,_,rfl⟩,rfl,rfl⟩,λ_ _ _ _=>⟨trivial,trivial⟩,?_,?_⟩
  ·rintro m d l N y ⟨⟨a,b,c,F,g,i,k,rfl⟩,rfl,h2⟩
   rw[gQm] at y
   obtain⟨B,U,rfl⟩:=oQm.mp y
   have a1:=Y.bb B.2 (QeQ (show(B.1,B.2)∈_ from mQg U)).2
   refine dP rfl (aB (dP rfl (aB (aW (aB (aW (bf ?_)))))))
   refine aB (aW (bf ?_))
   apply dZ (cz (rP ?_))
   refine pZ (by omega) ?_
   dsimp only
   refine⟨_,_,rfl,fc _,?_⟩
   rw[k9]
   show if decide ((h:Int)∈B.2.map (·.2))=true then _ else _
   by_cases M:(h:Int)∈B.2.map (·.2)
   ·rw[Qeq M,Qhq rfl]
    symm
    apply ax (d:=.str p.1.name) rfl ?_
    refine⟨by show 3<=_;decide,?_⟩
    obtain⟨t,C⟩:=qA (n:=(B.2.filter λq=>decide (q.2=(h:Int))).length) (d:=D.tup [.str "bell",.str p.1.name,.str B.1.1]) λz=>tV.mp z M
    obtain⟨t3,P⟩:=jt h2 U (show uJ h p.1.name B=_::_ from C)
    obtain⟨K,u⟩:=jt h1 A (G.trans P)
    exact r (R:=Q) (L.trans u) (λk z=>(nomatch z)) rfl
   ·rw[Qdq M,Quq (by decide)]
    refine cq ?_
    refine⟨⟨_,_,_,_,_,_,_,rfl⟩,rfl,?_⟩
    rw[gX U,h2]
    unfold uJ
    rw[tV.mpr M]
    rfl
  ·rintro l N ⟨⟨a,b,c,F,g,i,k,rfl⟩,rfl,h2⟩
   rw[lQm,QEq] at h2
   refine⟨⟨_,_,_,_,_,_,_,_,_,rfl⟩,rfl,?_⟩
   rw[gX A,h1,G,h2]
   rfl
 ·rintro l I ⟨⟨a,b,c,F,e,W,g,i,k,rfl⟩,rfl,h1⟩
  rw[lQm,QEq] at h1
  rw[L,h1] at q
  symm
  exact bV (λk z=>(nomatch z)) rfl q
def Bj(o:d0 w)(x:cI w n s)(J:n<=100)(j:s.af[h]?=some (vs,fs))(v:fs.getLast? =some f)(q:Q (.d (vI w s h f)) S):Fn qw [w.d,s.d,.int h] S Q:=by
 have p:=B4 w s h
 have B:∀d∈d_ w s h,_:=λd C=>A0 C
 obtain⟨L,t,y,N⟩:=x.whand j
 have e:wu w h=t.length:=by unfold wu;rw[y];rfl
 refine bN ?_
 unfold vO
 symm
 apply Ei o x J ?_
 refine t9 ?_
 unfold vI at q
 cases A:d_ w s h with
 | cons d l=>
   rw[A] at q p B
   obtain⟨a,M,rfl,_⟩:=B d (QBq ..)
   apply bc (λ_=> ?_) (λc=>by cases c)
   exact bV (λk z=>(nomatch z)) (by simp only[bJ,QCq] at p;exact p.1) q
 | nil=>
   rw[A] at q
   refine bc (λc=>by cases c) (λ_=>cq ?_)
   have q:Q (.d (xC w s h f)) S:=q
   unfold xC Au at q
   symm
   apply bK j v ?_
   apply ax (d:=.int f.room) rfl ?_
   refine dW ?_
   rcases x.at j v with c|⟨i,r,g,F,I,u,G,K⟩
   · rw[Qhq c,Qhq c,e] at q
     rw[Qeq c]
     refine bc (λ_=> ?_) (λc=>by cases c)
     have H:progOf w h f=some t:=by unfold progOf;rw[Qhq c,y];rfl
     symm
     apply ax (d:=.int f.row) rfl ?_
     apply eQ H ?_
     refine dW ?_
     rw[lQm]
     by_cases b:f.row=(t.length:Int)
     · rw[Qhq b] at q
       rw[Qeq b]
       apply bc (λ_=> ?_) (λc=>by cases c)
       refine⟨by show 1<=_;decide,?_⟩
       exact bV (λk z=>(nomatch z)) rfl q
     · rw[Quq b] at q
       rw[Qdq b]
       apply bc (λc=>by cases c) (λ_=> ?_)
       refine⟨by show 1<=_;decide,?_⟩
       exact bV (λk z=>(nomatch z)) rfl q
   · have m:¬f.room= -1:=by omega
     rw[Quq m,Quq m,G,K] at q
     rw[Qdq m,F]
     apply bc (λc=>by cases c) (λ_=>cq ?_)
     apply ax rfl ?_
     refine ax (d:=r.d) (aM (by rw[gQm,I];rfl)) ?_
     symm
     apply ax (d:=.str r.name) rfl ?_
     apply ax rfl ?_
     refine ax (d:=g.d) (aM (by rw[gQm,u];rfl)) ?_
     symm
     apply ax (d:=.int g.within) rfl ?_
     refine dW ?_
     by_cases b:g.within=(h:Int)
     · rw[Qhq b] at q
       rw[Qeq b]
       apply bc (λ_=> ?_) (λc=>by cases c)
       refine⟨by show 2<=_;decide,?_⟩
       exact bV (λk z=>(nomatch z)) rfl q
     · rw[Quq b] at q
       rw[Qdq b]
       apply bc (λc=>by cases c) (λ_=> ?_)
       refine⟨by show 2<=_;decide,?_⟩
       exact bV (λk z=>(nomatch z)) rfl q
end
end W28
namespace DL
open PySem PySem.Spec L2
def Hi{b:cD}{S:aG}{T U:String}{f:bx}{Q:D->aG->Prop}(h:E f b S λd a=>Op (rF a T d) λk=>Op (rF a U d) λl=>Q (.bl (k||l)) a):E (xE T U f) b S Q:=by
 obtain⟨d,a,c,k,e,l,g,q⟩:=h
 exact⟨_,a,by unfold xE;rw[c];simp only[Qbq];rw[e];simp only[Qbq];rw[g];rfl,q⟩
def nJ{g:cD}{S:aG}{T U:String}{f:bx}{d:D}{b c:Bool}{Q:Bool->aG->Prop}(h:E f g S λx e=>x=d/\e=S)(hd:rF S T d=some b)(a:rF S U d=some c)(q:Q (b||c) S):E (lK (xE T U f)) g S Q:=by
 refine D7 (Hi (h.mono λx e i=> ?_))
 obtain⟨j,k⟩:=i
 subst j k
 exact⟨_,hd,_,a,qQ q⟩
def CY{S:aG}{a:Bool}{Q:D->Prop}(q:Q (.bl false)):Op (eP true S (.bl a) (.bl a)) Q:=⟨_,by cases a <;>rfl,q⟩
end DL
namespace W28
open PySem PySem.Spec L2 DL
section
variable{S S0:aG}{Q:Res->aG->Prop}
def Pl:Nat->D->Prop
 |0,_=>False
 |_+1,.int _=>True
 |_+1,.str _=>True
 |_+1,.non=>True
 |n+1,.tup ds=>ds.length<=1000/\∀d∈ds,Pl n d
 |_+1,_=>False
theorem xI:∀ds:List D,tF ds ds=ds.map λd=>D.tup [d,d]
 | []=>rfl
 | d::ds=>by
   have:=xI ds
   simp only[tF,List.zipWith_cons_cons,QDq] at this⊢
   rw[this]
theorem AQ:∀(n:Nat) (d:D) {S:aG} {Q:Res->aG->Prop},Pl n d->Q (.d (.bl true)) S->Fn (fO n) [d,d] S Q
 |0,_,_,_,h,_=>h.elim
 | n+1,.int i,S,Q,_,q=>by
   refine bN ?_
   unfold fR
   refine aK (dZ (nJ (d:=.int i) (aC rfl ⟨rfl,rfl⟩) rfl rfl ?_))
   refine bc (λc=>by cases c) (λ_=>cq ?_)
   refine aK (dZ (cz (bX (aC rfl (dB (t9 ?_))))))
   refine bc (λc=>by cases c) (λ_=>cq ?_)
   refine aK (dZ (fG (d:=.int i) (aC rfl ⟨rfl,rfl⟩) rfl ?_))
   refine bc (λc=>by cases c) (λ_=>cq ?_)
   refine dX (qW (pF (aC rfl ⟨_,rfl,true,rfl,?_⟩)))
   rw[Qhq rfl]
   refine qW (Hf (pF (aC rfl ⟨_,rfl,false,rfl,true,rfl,?_⟩)))
   rw[Qhq rfl]
   symm
   refine dW ?_
   rw[Qeq rfl]
   exact bV (λk z=>(nomatch z)) rfl q
 | n+1,.non,S,Q,_,q=>by
   refine bN ?_
   unfold fR
   refine aK (dZ (nJ (d:=.non) (aC rfl ⟨rfl,rfl⟩) rfl rfl ?_))
   refine bc (λc=>by cases c) (λ_=>cq ?_)
   refine aK (dZ (cz (bX (aC rfl (dB (t9 ?_))))))
   refine bc (λ_=> ?_) (λc=>by cases c)
   refine dX (bX (aC rfl (dB (t9 ?_))))
   exact bV (λk z=>(nomatch z)) rfl q
 | n+1,.str i,S,Q,_,q=>by
   refine bN ?_
   unfold fR
   refine aK (dZ (nJ (d:=.str i) (aC rfl ⟨rfl,rfl⟩) rfl rfl ?_))
   refine bc (λc=>by cases c) (λ_=>cq ?_)
   refine aK (dZ (cz (bX (aC rfl (dB (t9 ?_))))))
   refine bc (λc=>by cases c) (λ_=>cq ?_)
   refine aK (dZ (fG (d:=.str i) (aC rfl ⟨rfl,rfl⟩) rfl ?_))
   refine bc (λ_=> ?_) (λc=>by cases c)
   refine dX (qW (pF (aC rfl ⟨_,rfl,true,rfl,?_⟩)))
   rw[Qhq rfl]
   symm
   refine gF ?_
   rw[Qeq rfl]
   exact bV (λk z=>(nomatch z)) rfl q
 | n+1,.tup ds,S,Q,h,q=>by
   refine bN ?_
   unfold fR
   refine aK (dZ (nJ (d:=.tup ds) (aC rfl ⟨rfl,rfl⟩) rfl rfl ?_))
   refine bc (λ_=> ?_) (λc=>by cases c)
   refine aK (dZ (wV (cz (bX (pF (aC rfl ⟨_,rfl,pF (aC rfl ⟨_,rfl,CY ?_⟩)⟩))))))
   refine bc (λc=>by cases c) (λ_=> ?_)
   refine cz (bX (pF (aC rfl ⟨_,rfl,pF (aC rfl ⟨_,rfl,CY ?_⟩)⟩)))
   refine bc (λc=>by cases c) (λ_=>cq ?_)
   refine dX (qW (bX (uj (cK (aC rfl (bT (uj (cK (aC rfl (bT (dW ⟨_,rfl,?_⟩)))))))))))
   rw[Qeq rfl,Qhq rfl]
   refine Jc (kb ?_)
   apply qE (α:=D) (λe=>∃a b,e= [a,b]) (λd=>D.tup [d,d]) (λ_=>.bl true) (λ_=>true) ⟨none,none,rfl⟩ (mZ ?_)
   refine⟨⟨trivial,Qmq _⟩,ds,xI ds,⟨trivial,trivial⟩,h.1,λd g e f=> ?_,?_⟩
   · obtain⟨a,b,rfl⟩:=f
     refine dP rfl (aB (aW (aB (aW (bf ?_)))))
     apply⟨rfl,⟨_,_,rfl⟩,ic ⟨rfl,rfl,λ_=> ?_⟩⟩
     exact AQ n d (h.2 d g) ⟨rfl,rfl⟩
   · refine⟨rfl,List.replicate ds.length true,?_,?_⟩
     · rw[←wN]
       congr 1
       rw[List.filter_eq_self.mpr (λ_ _=>rfl),List.map_const']
     · have:(List.replicate ds.length true).all id=true:=by simp
       rw[this]
       exact bV (λk z=>(nomatch z)) rfl q
end
end W28
namespace DL
open PySem PySem.Spec L2
def Cy{S:aG}{k:Nat}{ds:List D}{Q:List D×Tag->Prop}(a:S[k]?=some (.frz ds))(q:Q (ds,.fz k)):Op (sN S (.ref k)) Q:=⟨_,by simp only[sN,a],q⟩
def IA{S:aG}{k:Nat}{ds:List D}{i:Int}{d:D}{Q:D->Prop}(a:S[k]?=some (.frz ds))(h:kh ds i=some d)(q:Q d):Op (iQ S (.ref k) (.int i)) Q:=⟨_,by simp only[iQ,a];exact h,q⟩
def F0{i:Int}{Q:D->Prop}(q:Q (.int (if i<0 then -i else i))):Op (Cd [.int i]) Q:=⟨_,rfl,q⟩
end DL
namespace W28
open PySem PySem.Spec L2 DL
section
variable{S:aG}{Q:Res->aG->Prop}
def GV{ns:List Int}{k:Nat}(e:k<100)(g:S[0]?=some (.frz (ns.map D.int)))(q:∀a b:Int,Q (.l [.int a,.int b,.int 0]) S):Fn k_ [.ref 0,.int k] S Q:=by
 refine bN ?_
 unfold o8
 refine aK (cx (dB ?_))
 refine aK (T.mono (Q:=λo=>∃d:Int,o=.nx [some (.ref 0),some (.int k),some (.int d)] S) ?_ ?_)
 ·apply dZ (cz (bX (aC rfl (uj (cK (aC rfl (Cy g ?_)))))))
  rw[lQm]
  by_cases c:(k:Int)<ns.length
  ·rw[Qeq c,Qhq rfl]
   have e:k<ns.length:=by omega
   symm
   refine IA g (aM (x:=.int ns[k]) (by rw[gQm,gQe e];rfl)) ?_
   exact⟨_,rfl⟩
  ·rw[Qdq c,Quq (by decide)]
   exact cq ⟨_,rfl⟩
 rintro _ ⟨d,rfl⟩
 dsimp only
 symm
 apply F0 ?_
 apply F0 ?_
 refine Jl ⟨by decide,by decide,by decide⟩ ?_
 generalize (10:Int)^(18:Int).toNat=c2
 generalize (if d<0 then -d else d)=c1
 symm
 refine sE ?_
 have f:Fu c1 (if decide (c2<=c1)=true then 1 else 0):=by
  right
  split <;>decide
 generalize (if decide (c2<=c1)=true then(1:Int) else 0)=c3 at f⊢
 apply pR f ?_
 apply kE (by decide) ?_
 apply pR (.inl ⟨by decide,by decide⟩) ?_
 have i:0<=d%2147483629:=Int.emod_nonneg _ (by decide)
 have h:d%2147483629<2147483629:=Int.emod_lt_of_pos _ (by decide)
 apply pR (.inl ⟨by omega,by omega⟩) ?_
 apply pR (.inr ⟨by decide,by decide⟩) ?_
 apply kE (by decide) ?_
 refine⟨by show 3<=_;decide,?_⟩
 exact DS rfl (q _ _)
end
section
variable{S S0:aG}{k:Nat}{Q:Res->aG->Prop}
def AB{j:cD}{n:Nat}{f:fU}{Q:D->aG->Prop}(s:j[0]?=some (some (.ref k)))(u:0<n)(w:n<1000)
  (q:E f j S λds e=>ds.length=n/\Ex k S0 e/\∀(d:D) (i:aG),d∈ds->Ex k S0 i->Ex k e i->Q d i):E (a0 iQ (bB (bp f)) (aA ay (aq (au 0) (aq (cF (.int n)) av)))) j S Q:=by
 refine bX (dQ (dv (q.mono λds e m=> ?_)))
 obtain⟨hl,x,h⟩:=m
 refine⟨nQl (aQ (by omega)),?_⟩
 refine cA (aw (aC s (aw (dB (aP ?_)))))
 have v:=x.lt
 refine bE (x.app (G:= [O.lst ds])) (by omega) (by omega) λd i t p l r=> ?_
 have g:d<ds.length:=by omega
 refine cM (l.keep _ _ (by omega) a_) (aM (gQe g)) ?_
 have y:Ex k e e:=by obtain⟨a,b,c,o⟩:=x.pot;exact Ex.refl o
 exact h _ _ (List.getElem_mem g) p (y.app.trans l)
def qS(o a:Str)(more:Bool):List Rw:=.do_ none o a (.num 0)::if more then [.tell (.num 1)] else []
def yt(nm b c a o:Str)(more:Bool):Rm:=⟨nm,b,[],[],[(c,qS o a more),(a,[.tell (.num 2)])]⟩
def HI(ws:List Str)(e d:Str)(b:Nat)(r:Rm):Prop:=∃(c o:Str) (a:Bool),(c="at once" \/c="when free")/\(∃i,i<b/\ws[i]?=some o)/\r=yt r.name c e d o a
def Hw{ds:List D}{n:Nat}{Q:D->Prop}(b:ds≠[])(a:ds.length*n<=sizeLine)(c:n<1000)(q:Q (.tup (List.replicate n ds).flatten)):Op (xX S (.tup ds) (.int n)) Q:=⟨_,by simp only[xX];rw[Qhq ⟨by omega,by omega,b,by simpa using a⟩];simp,q⟩
def Fg(x:Ex k S0 S)(h:∀(w:cZ) (g:aG),d0 w->J4 w->Ex k S0 g->Ex k S g->g.length=S.length->Q (.d w.d) g):Fn eI [.ref k] S Q:=by
 have y:Ex k S S:=by obtain⟨a,b,c,hh⟩:=x.pot;exact Ex.refl hh
 have kl:=x.lt
 refine bN ?_
 unfold i7
 refine aK (cx (dQ (AU (aw (aC rfl (aw (dB (aP ?_))))))))
 show Fn eF [.ref k,.int ((12:Nat):Int)] S _
 refine xh y (by decide) λA S1 c4 d5 f1 f0 e1 e0 l1=> ?_
 dsimp only
 have e2:Ex k S (S1++ [O.lst (A.map D.str)]):=e1.app
 have X:(S1++ [O.lst (A.map D.str)])[S1.length]?=some (.lst (A.map D.str)):=a_
 have c1:S.length<=S1.length:=by omega
 generalize (S1++ [O.lst (A.map D.str)])=S2 at e2 X⊢
 generalize S1.length=lw at X c1⊢
 have nw:lw≠k:=by omega
 obtain⟨K,d2⟩:∃K,A[8]?=some K:=⟨_,gQe (by omega)⟩
 obtain⟨L,c0⟩:∃L,A[9]?=some L:=⟨_,gQe (by omega)⟩
 have a5:kh (A.map D.str) 8=some (.str K):=aM (j:=8) (by rw[gQm,d2];rfl)
 have a1:kh (A.map D.str) 9=some (.str L):=aM (j:=9) (by rw[gQm,c0];rfl)
 refine aK (cx (bX (dB (cA (aw (aC rfl (aw (dB (aP ?_)))))))))
 refine bE e2 (by decide) (by decide) λv G hv e3 d6 _=> ?_
 refine i3 ?_
 obtain⟨e,d3⟩:∃n:Nat,1+v=n:=⟨_,rfl⟩
 rw[show(1:Int)+(v:Int)=(e:Int) by omega]
 have e5:1<=e:=by omega
 have d9:e<=4:=by omega
 have b1:=d6.keep _ _ nw X
 refine aK (F7 (aw (dQ (dv (aP ⟨by show 0<=_;decide,aw (dQ (dv (aP ⟨by show 0<=_;decide,aP ⟨_,_,rfl,?_⟩⟩)))⟩)))))
 have e7:Ex k S (G++ [O.lst []]++ [O.lst []]):=e3.app.app
 have a9:(G++ [O.lst []]++ [O.lst []])[lw]?=some (.lst (A.map D.str)):=bq (bq b1)
 have a4:(G++ [O.lst []]++ [O.lst []])[G.length]?=some (.lst (([]:List Rm).map Rm.d)):=bq a_
 have a3:(G++ [O.lst []]++ [O.lst []])[G.length+1]?=some (.lst (([]:List (List (Str×Nat)×List Rw)).map fA)):=by have:=a_ (S:=G++ [O.lst []]) (o:=O.lst []);rw[show(G++ [O.lst []]).length=G.length+1 by simp] at this;exact this
 show T _ [some (.ref k),some (.ref lw),some (.int e),some (.ref G.length),some (.ref (G++ [O.lst []]).length),none,none,none,none,none] _ _
 rw[show(G++ [O.lst []]).length=G.length+1 by simp]
 have c6:=e3.len
 have c2:=(gQs.mp b1).1
 generalize (G++ [O.lst []]++ [O.lst []])=S7 at e7 a9 a4 a3⊢
 generalize G.length=lr at a4 a3 c6 c2⊢
 refine aK (gn (jm (aC rfl ⟨(e:Int),rfl,by omega,?_⟩)))
 refine⟨λj C g=>(∃b5 b6 b7 W,C= [some (.ref k),some (.ref lw),some (.int e),some (.ref lr),some (.ref (lr+1)),b5,b6,b7,W,none])/\∃m:List Rm,m.length=j/\(∀(i:Nat) (r:Rm),m[i]?=some r->A[i]?=some r.name/\HI A K L e r)/\g[lr]?=some (.lst (m.map Rm.d))/\g[lr+1]?=some (.lst (([]:List (List (Str×Nat)×List Rw)).map fA))/\g[lw]?=some (.lst (A.map D.str))/\Ex k S g,⟨⟨_,_,_,_,rfl⟩,[],rfl,λi r t=>by simp at t,a4,a3,a9,e7⟩,λ_ _ _ _=>trivial,?_,?_⟩
 ·rintro j d C g F ⟨⟨b5,b6,b7,W,rfl⟩,m,hrl,hrs,hR,hH,hW,ex⟩
  obtain⟨rfl,hj⟩:=dM F
  have y':Ex k g g:=by obtain⟨a,b,c,hh⟩:=ex.pot;exact Ex.refl hh
  obtain⟨nm,a7⟩:∃nm,A[j]?=some nm:=⟨_,gQe (by omega)⟩
  refine aW ?_
  refine aK (cx (bX (aC rfl (AB (S0:=g) (n:=3) rfl (by decide) (by decide) ?_))))
  refine aw (bX (bX (aC rfl (dB (i3 (aC rfl (kE (by omega) ?_)))))))
  rw[show((j:Int)+1)%(e:Int)=(((j+1)%e:Nat):Int) by push_cast;rfl]
  refine aw (aC rfl (aw (cA (aw (aC rfl (aw (aC rfl (aP ?_))))))))
  refine bE y' (by omega) (by omega) λu S8 hu e8 d4 _=>aP ⟨rfl,e8,λd S9 F e9 _=> ?_⟩
  obtain⟨o,ho,rfl⟩:∃o:Nat,o<e/\d=.int o:=by
   simp only[Qsq,QXq,or_false] at F
   rcases F with rfl|rfl|rfl
   ·exact⟨_,Nat.mod_lt _ (by omega),rfl⟩
   ·exact⟨_,hj,rfl⟩
   ·exact⟨u,by omega,rfl⟩
  obtain⟨s,B⟩:∃z,A[o]?=some z:=⟨_,gQe (by omega)⟩
  refine cM (e9.keep _ _ nw hW) (aM (by rw[gQm,B];rfl)) ?_
  refine aK (cx (cv (aw (cv (aw (dB (aw (dB (aw (aC rfl (aw (bX (aC rfl (dB (cM (e9.keep _ _ nw hW) a1 (aw (dB (aP ⟨by show 5<=_;decide,aP ⟨by show 1<=_;decide,?_⟩⟩))))))))))))))))))
  refine aK (T.mono (Q:=λo=>∃(f:Bool) (Z:aG),o=.nx [some (.ref k),some (.ref lw),some (.int e),some (.ref lr),some (.ref (lr+1)),some (.int j),some (.str s),some (.tup ((qS s L f).map Rw.d)),W,none] Z/\Ex k g Z) ?_ ?_)
  ·refine dZ (cz (bX (cA (aw (aC rfl (aw (dB (aP ?_))))))))
   refine bE e9 (by decide) (by decide) λv Z hv eA e4 _=> ?_
   refine dB (dW ?_)
   refine bc (λc=> ?_) (λc=> ?_)
   ·refine cx (bX (aC rfl (cv (aw (cv (aw (dB (aw (dB (aP ⟨by show 2<=_;decide,aP ⟨by show 1<=_;decide,?_⟩⟩))))))))))
    exact dI (by show 2<=_;decide) ⟨true,Z,rfl,eA⟩
   ·exact cq ⟨false,Z,rfl,eA⟩
  rintro _ ⟨f,Z,rfl,eA⟩
  dsimp only
  refine aK (cx (dG (n:=2) (xs:= [.str "at once",.str "when free"]) rfl eA (by decide) (by decide) rfl (by symm;exact⟨rfl,rfl⟩) λd SB F M _ _=> ?_))
  obtain⟨U,Y,rfl⟩:∃U:Str,(U="at once" \/U="when free")/\d=.str U:=by
   simp only[Qsq,QXq,or_false] at F
   rcases F with rfl|rfl
   ·exact⟨_,.inl rfl,rfl⟩
   ·exact⟨_,.inr rfl,rfl⟩
  have N:=M.keep _ _ nw hW
  have a6:=M.keep _ _ (by omega) hR
  refine pA (zE (aC rfl ⟨_,_,rfl,a6,?_⟩))
  refine aw (cv (aw (bX (aC rfl (aC rfl (cM N (aM (by rw[gQm,a7];rfl)) ?_))))))
  refine aw (aC rfl (aw (cv (aP ⟨by show 0<=_;decide,aw (cv (aP ⟨by show 0<=_;decide,?_⟩))⟩))))
  refine aw (cv (aw (cv (aw (bX (aC rfl (dB (cM N a5 (aw (aC rfl (aP ⟨by show 2<=_;decide,?_⟩)))))))))))
  refine aw (cv (aw (bX (aC rfl (dB (cM N a1 (aw (cv (aw (cv (aw (dB (aw (dB (aP ⟨by show 2<=_;decide,aP ⟨by show 1<=_;decide,aP ⟨by show 2<=_;decide,aP ⟨by show 2<=_;decide,aP ⟨by show 5<=_;decide,aP ?_⟩⟩⟩⟩⟩)))))))))))))))
  refine⟨_,a6,mJ (by rw[lQm];exact aQ (by omega)) ?_⟩
  refine⟨⟨_,_,_,_,rfl⟩,m++ [yt nm U K L s f],by simp[hrl],λi r' I=> ?_,?_,gA (by omega) (M.keep _ _ (by omega) hH),gA (by omega) N,(ex.trans M).put (by omega) kl⟩
  ·by_cases c:i<m.length
   ·rw[QHq c] at I
    exact hrs i r' I
   ·rw[QQq (by omega)] at I
    have hi:i-m.length=0:=by
     have:=(gQs.mp I).1
     simp at this
     omega
    rw[hi] at I
    cases I
    have:i=m.length:=by omega
    rw[this,hrl]
    exact⟨a7,U,s,f,Y,⟨o,ho,B⟩,rfl⟩
  ·rw[il a6,Qzq]
   rfl
 rintro C S8 ⟨⟨b5,b6,b7,W,rfl⟩,m,hrl,hrs,hR8,hH8,hW8,e8⟩
 rw[fB] at hrl
 have H:∀{i:Nat} {z q:Str},i<e->A[i]?=some z->(q=K\/q=L)->(z,q)∈bC m:=λ{i z q} hi hz hq=>by
  have d8:=gQe (l:=m) (i:=i) (by omega)
  obtain⟨g1,U,o,f,_,_,t⟩:=hrs i _ d8
  rw[hz] at g1
  rw[QdQ g1]
  refine QOq.mpr ⟨m[i],List.getElem_mem _,?_⟩
  rw[t]
  simp only[yt,QDq,List.map_nil,Qsq,Prod.mk.injEq,true_and,QXq,or_false]
  exact hq
 have c5:∀{i:Nat} {z:Str},i<e->A[i]?=some z->(z,K)∈bC m/\(z,L)∈bC m:=λhi hz=>⟨H hi hz (.inl rfl),H hi hz (.inr rfl)⟩
 refine aK (gn (jm (bX (dB (cA (aw (aC rfl (aw (dB (aP ?_))))))))))
 refine bE e8 (by decide) (by decide) λv SD hv eD a2 _=> ?_
 refine i3 ?_
 obtain⟨nh,f2⟩:∃n:Nat,1+v=n:=⟨_,rfl⟩
 rw[show(1:Int)+(v:Int)=(nh:Int) by omega]
 refine⟨(nh:Int),rfl,by omega,?_⟩
 refine⟨λj C g=>(∃b5 b6 b7 W b9,C= [some (.ref k),some (.ref lw),some (.int e),some (.ref lr),some (.ref (lr+1)),b5,b6,b7,W,b9])/\∃J:List (List (Str×Nat)×List Rw),J.length=j/\(∀p∈J,vw (bC m) [] [] p)/\g[lr+1]?=some (.lst (J.map fA))/\g[lr]?=some (.lst (m.map Rm.d))/\g[lw]?=some (.lst (A.map D.str))/\Ex k S g,⟨⟨_,_,_,_,_,rfl⟩,[],rfl,λ_ h=>(nomatch h),a2.keep _ _ (by omega) hH8,a2.keep _ _ (by omega) hR8,a2.keep _ _ nw hW8,eD⟩,λ_ _ _ _=>trivial,?_,?_⟩
 ·rintro j d C g F ⟨⟨b5,b6,b7,W,b9,rfl⟩,J,hhl,hhs,hH,hR,hW,ex⟩
  obtain⟨rfl,hj⟩:=dM F
  have y':Ex k g g:=by obtain⟨a,b,c,hh⟩:=ex.pot;exact Ex.refl hh
  refine aW ?_
  refine aK (cx (bX (aC rfl (AB (S0:=g) (n:=2) rfl (by decide) (by decide) ?_))))
  refine aw (bX (aC rfl (aC rfl (kE (by omega) ?_))))
  rw[show(j:Int)%(e:Int)=((j%e:Nat):Int) by push_cast;rfl]
  refine aw (cA (aw (aC rfl (aw (aC rfl (aP ?_))))))
  refine bE y' (by omega) (by omega) λu S8 hu e8 d4 _=>aP ⟨rfl,e8,λd S9 F e9 _=> ?_⟩
  obtain⟨o,ho,rfl⟩:∃o:Nat,o<e/\d=.int o:=by
   simp only[Qsq,QXq,or_false] at F
   rcases F with rfl|rfl
   ·exact⟨_,Nat.mod_lt _ (by omega),rfl⟩
   ·exact⟨u,by omega,rfl⟩
  obtain⟨s,B⟩:∃z,A[o]?=some z:=⟨_,gQe (by omega)⟩
  have P:=e9.keep _ _ nw hW
  refine cM P (aM (by rw[gQm,B];rfl)) ?_
  refine aK (cx (cv (aw (cv (aw (dB (aw (dB (aw (aC rfl (aw ?_)))))))))))
  refine dG (n:=3) (xs:= [.str K,.str K,.str L]) rfl e9 (by decide) (by decide) rfl (aw (bX (aC rfl (dB (cM P a5 (aw (bX (aC rfl (dB (cM P a5 (aw (bX (aC rfl (dB (cM P a1 (aP ⟨rfl,rfl⟩)))))))))))))))) λd Z F eA _ _=> ?_
  obtain⟨R,b4,rfl⟩:∃R:Str,(R=K\/R=L)/\d=.str R:=by
   simp only[Qsq,QXq,or_false] at F
   rcases F with rfl|rfl|rfl
   ·exact⟨_,.inl rfl,rfl⟩
   ·exact⟨_,.inl rfl,rfl⟩
   ·exact⟨_,.inr rfl,rfl⟩
  refine aw (dB (aP ⟨by show 5<=_;decide,aP ⟨by show 1<=_;decide,?_⟩⟩))
  have c3:=eA.keep _ _ (by omega) hH
  refine pA (zE (aC rfl ⟨_,_,rfl,c3,?_⟩))
  refine aw (cv (aw (cv (aP ⟨by show 0<=_;decide,?_⟩))))
  refine aw (bX (aC rfl (bX (dB (IY (aw (bX (cA (aw (aC rfl (aw (dB (aP ?_)))))))))))))
  refine bE eA (by decide) (by decide) λv SB hv M e6 _=> ?_
  refine dB (dW (aP (sE (i3 ?_))))
  obtain⟨n,b3,d1,en⟩:∃n:Nat,1<=n/\n<=2/\(1:Int)+(if decide ((v:Int)=0)=true then 1 else 0)=n:=by
   by_cases c:(v:Int)=0
   ·exact⟨2,by omega,by omega,by rw[Qhq (by simpa using c)];rfl⟩
   ·exact⟨1,by omega,by omega,by rw[Quq (by simpa using c)];rfl⟩
  rw[en]
  refine Hw (by simp) (by show 1*n<=sizeLine;rw[Nat.one_mul];exact nQl (aQ (by omega))) (by omega) ?_
  refine aP ⟨by show 2<=_;decide,aP ?_⟩
  have b0:=M.keep _ _ (by omega) hH
  refine⟨_,b0,mJ (by rw[lQm];exact aQ (by omega)) ?_⟩
  have er:(List.replicate n [(Rw.do_ none s R (.num 0)).d]).flatten=(List.replicate n (Rw.do_ none s R (.num 0))).map Rw.d:=by
   rw[QlQ]
   clear en b3 d1
   induction n with
   |zero=>rfl
   |succ n ih=>simp only[QNq,List.flatten_cons,ih];rfl
  refine⟨⟨_,_,_,_,_,rfl⟩,J++ [([],List.replicate n (.do_ none s R (.num 0)))],by simp[hhl],λq hq=> ?_,?_,gA (by omega) (M.keep _ _ (by omega) hR),gA (by omega) (M.keep _ _ nw hW),(ex.trans M).put (by omega) kl⟩
  ·rcases mQa.mp hq with hq|hq
   ·exact hhs q hq
   ·rw[Qfq.mp hq]
    refine⟨λ_ h=>(nomatch h),Nat.zero_le _,by show(List.replicate n _).length<=9;rw[QIq];omega,by show 0<(List.replicate n _).length;rw[QIq];omega,λr t=> ?_⟩
    rw[(List.mem_replicate.mp t).2]
    exact⟨λ_ z=>(nomatch z),H ho B b4,Nat.zero_le _,by decide⟩
  ·rw[il b0,Qzq]
   show some (O.lst (J.map fA++ [.tup [.tup [],.tup (List.replicate n [(Rw.do_ none s R (.num 0)).d]).flatten]]))=_
   rw[er]
   rfl
 rintro C SE ⟨⟨b5,b6,b7,W,b9,rfl⟩,J,hhl,hhs,hH,hR,hW,eE⟩
 rw[fB] at hhl
 have b2:d0 ⟨m,[],[],J⟩:=by
  refine⟨names_nodup c4 λi r t=>(hrs i r t).1,by show m.length<=4;omega,Nat.zero_le _,Nat.zero_le _,by show J.length<=4;omega,by show 0<J.length;omega,λ_ h=>(nomatch h),λ_ h=>(nomatch h),λr t=> ?_,hhs⟩
  obtain⟨i,hi⟩:=List.getElem?_of_mem t
  obtain⟨-,U,o,f,Y,⟨i',d7,ho⟩,er⟩:=hrs i r hi
  rw[er]
  refine⟨Y,λ_ h=>(nomatch h),Nat.zero_le _,Nat.zero_le _,by show 2<=6;omega,λ_ h=>(nomatch h),λp hp=> ?_⟩
  rcases Qsq.mp hp with rfl|hp
  ·refine⟨λr t=> ?_,by cases f <;>simp[qS]⟩
   rcases Qsq.mp t with rfl|t
   ·exact⟨λ_ z=>(nomatch z),H d7 ho (.inr rfl),Nat.zero_le _,by decide⟩
   ·cases f with
    |true=>rw[Qfq.mp t];exact⟨rfl,by show 1<=9;omega,by decide⟩
    |false=>exact(nomatch t)
  ·rw[Qfq.mp hp]
   refine⟨λr t=> ?_,by show 1<=12;omega⟩
   rw[Qfq.mp t]
   exact⟨rfl,by show 2<=9;omega,by decide⟩
 refine dX (cv (aw (fK (ff (cK (aC rfl (bS hR ⟨rfl,?_⟩)))))))
 refine aw (cv (aP ⟨by show 0<=_;decide,aw (cv (aP ⟨by show 0<=_;decide,aw (fK (ff (cK (aC rfl (bS hH ⟨rfl,?_⟩)))))⟩))⟩))
 refine aP ⟨by show 4<=_;decide,?_⟩
 refine q_ eE kl (λk z=>(nomatch z)) (eR (cZ.low ⟨m,[],[],J⟩)) λa b c=> ?_
 exact h ⟨m,[],[],J⟩ _ b2 (uI d5 λi r t=>(hrs i r t).1) x.set y.set (by simp)
def B0(x:Ex k S0 S)(h:∀(w:cZ) (e:aG),d0 w->J4 w->Ex k S0 e->Ex k S e->e.length=S.length->Q (.d w.d) e):Fn fF [.ref k] S Q:=by
 have y:Ex k S S:=by obtain⟨a,b,c,n⟩:=x.pot;exact Ex.refl n
 have j:=x.lt
 refine bN ?_
 unfold jP
 refine aK (dZ (cz (bX (cA (aw (aC rfl (aw (dB (aP ?_)))))))))
 refine bE y (by decide) (by decide) λv B q i m C=> ?_
 refine dB (dW ?_)
 refine bc (λc=> ?_) (λc=> ?_)
 ·refine dX (cA (aw (aC rfl (aw (bX (dB (cA (aw (aC rfl (aw (dB (aP ?_))))))))))))
  refine bE i (by decide) (by decide) λv u q t p A=> ?_
  refine i3 (aP ?_)
  rw[show(1:Int)+(v:Int)=((1+v:Nat):Int) by omega]
  refine Ea t (by omega) (by omega) λw l o s g f r=> ?_
  exact q_ g j (λk z=>(nomatch z)) (eR (cZ.low w)) λa b c=>h w _ o s x.set y.set (by simp)
 ·refine cq (dX (cA (aw (aC rfl (aP ?_)))))
  refine Fg i λw l o s g f r=> ?_
  exact q_ g j (λk z=>(nomatch z)) (eR (cZ.low w)) λa b c=>h w _ o s x.set y.set (by simp)
end
theorem jl{α b:Type}{f:α->List b}:∀{l:List α} {i:Nat} {a:α},l[i]?=some a->(l.flatMap f).Perm (f a++(l.eraseIdx i).flatMap f)
 | [],_,_,h=>by simp at h
 | x::l,0,a,h=>by
   simp at h
   subst h
   exact List.Perm.refl _
 | x::l,i+1,a,h=>by
   have c:=jl (f:=f) (l:=l) (i:=i) (by simpa using h)
   rw[QSq,List.eraseIdx_cons_succ,QSq]
   exact(List.Perm.append_left (f x) c).trans (by
     rw[←Qvq,←Qvq]
     exact QJq _ List.perm_append_comm)
theorem ug{α:Type}{b:α}:∀{l:List α} {i:Nat},(l.set i b).eraseIdx i=l.eraseIdx i
 | [],_=>rfl
 |_::_,0=>rfl
 | x::l,i+1=>by
   simp only[List.set_cons_succ,List.eraseIdx_cons_succ]
   rw[ug]
def iV{α c:Type}{f:α->List c}{l:List α}{i:Nat}{a b:α}(h:l[i]?=some a):((l.set i b).flatMap f).Perm (f b++(l.eraseIdx i).flatMap f):=by
 have:=jl (f:=f) (l:=l.set i b) (i:=i) (Qyq (gQs.mp h).1)
 rw[ug] at this
 exact this
def Ia(r:cN):List Int:=r.ag++r.aa.flatMap λl=>l.map (·.2)
def iI{r:cN}{y:Int}(h:y∈Ia r):y∈aO r:=by
 unfold aO
 rw[Qvq]
 exact mQa.mpr (.inr h)
structure Q2(w:cZ)(N:Nat)(ps:List (Int×List Int))(rs:List cN)(fr:Nat->List Int):Prop where
 fo:∀g,g<N->(fr g).head? =some (-1)
 nd:(ps.flatMap (·.2)++rs.flatMap aO).Nodup
 hv:∀x∈ps.flatMap (·.2)++rs.flatMap aO,∃g:Nat,x=g/\g<N
 pv:∀p∈ps,(0<=p.1/\p.1<=9)/\(p.1=0\/p.2= [])
 pl:∀p∈ps,∀g:Nat,(g:Int)∈p.2->fr g= [-1]
 rl:∀(i:Nat) (r:cN),rs[i]?=some r->∀g:Nat,(g:Int)∈aO r->(fr g).getLast? =some (i:Int)
 r1:∀(i:Nat) (r:cN),rs[i]?=some r->r.within= -1->r.row= []/\r.ag= []
 r2:∀(i:Nat) (r:cN),rs[i]?=some r->r.within= -1\/∃g:Nat,r.within=g/\g<N/\(i:Int)∈fr g
 r3:∀(i:Nat) (r:cN) (rm:Rm),rs[i]?=some r->w.aj[i]?=some rm->rm.ah="when free" ->r.ag= []
 r4:∀(i:Nat) (r:cN) (rm:Rm),rs[i]?=some r->w.aj[i]?=some rm->∀(b:Nat) (l:List (Int×Int)) (nm so:Str),r.aa[b]?=some l->rm.aa[b]?=some (nm,so)->(l.map (·.1)).Pairwise (·<=·)/\(so="row" ->∀p∈l,p.1=0)
 r5:∀(i:Nat) (r:cN),rs[i]?=some r->∀y∈Ia r,r.within≠y
def hl(ps:List (Int×List Int))(rs:List cN):List Int:=ps.flatMap (·.2)++rs.flatMap aO
section
variable{w:cZ}{N:Nat}{ps:List (Int×List Int)}{rs:List cN}{fr fr':Nat->List Int}{h:Nat}
def qm{i:Nat}{r nr:cN}(b:rs[i]?=some r):∃a,(hl ps rs).Perm (aO r++a)/\(hl ps (rs.set i nr)).Perm (aO nr++a):=by
 refine⟨ps.flatMap (·.2)++(rs.eraseIdx i).flatMap aO,?_,?_⟩
 ·exact(List.Perm.append_left _ (jl b)).trans (by rw[←Qvq,←Qvq];exact QJq _ List.perm_append_comm)
 ·exact(List.Perm.append_left _ (iV b)).trans (by rw[←Qvq,←Qvq];exact QJq _ List.perm_append_comm)
def vU{i:Nat}{p np:Int×List Int}(b:ps[i]?=some p):∃a,(hl ps rs).Perm (p.2++a)/\(hl (ps.set i np) rs).Perm (np.2++a):=by
 refine⟨(ps.eraseIdx i).flatMap (·.2)++rs.flatMap aO,?_,?_⟩
 ·rw[←Qvq];exact QJq _ (jl (f:=λp:Int×List Int=>p.2) b)
 ·rw[←Qvq];exact QJq _ (iV (f:=λp:Int×List Int=>p.2) b)
structure R2(w:cZ)(N i:Nat)(fr:Nat->List Int)(r:cN):Prop where
 rl:∀g:Nat,(g:Int)∈aO r->(fr g).getLast? =some (i:Int)
 r1:r.within= -1->r.row= []/\r.ag= []
 r2:r.within= -1\/∃g:Nat,r.within=g/\g<N/\(i:Int)∈fr g
 r3:∀rm:Rm,w.aj[i]?=some rm->rm.ah="when free" ->r.ag= []
 r4:∀rm:Rm,w.aj[i]?=some rm->∀(b:Nat) (l:List (Int×Int)) (nm so:Str),r.aa[b]?=some l->rm.aa[b]?=some (nm,so)->(l.map (·.1)).Pairwise (·<=·)/\(so="row" ->∀p∈l,p.1=0)
 r5:∀y∈Ia r,r.within≠y
def Q2.at(x:Q2 w N ps rs fr){i:Nat}{r:cN}(a:rs[i]?=some r):R2 w N i fr r:=⟨x.rl i r a,x.r1 i r a,x.r2 i r a,λb=>x.r3 i r b a,λb=>x.r4 i r b a,x.r5 i r a⟩
def Q2.room(x:Q2 w N ps rs fr){i:Nat}{r nr:cN}(n:rs[i]?=some r)(e:R2 w N i fr nr)(l:∀a:List Int,(aO r++a).Nodup->(h:Int)∉aO r++a->(aO nr++a).Nodup)(f:∀y∈aO nr,y∈aO r\/y=(h:Int))(p:h<N)(o:(h:Int)∉hl ps rs):Q2 w N ps (rs.set i nr) fr:=by
 obtain⟨a,k,m⟩:=qm (ps:=ps) (nr:=nr) n
 refine⟨x.fo,m.nodup_iff.mpr (l a (k.nodup_iff.mp x.nd) λz=>o (k.mem_iff.mpr z)),λy d=> ?_,x.pv,x.pl,λj c b=> ?_,λj c b=> ?_,λj c b=> ?_,λj c g b=> ?_,λj c g b=> ?_,λj c b=> ?_⟩
 ·rcases mQa.mp (m.mem_iff.mp d) with d|d
  ·rcases f y d with d|rfl
   ·exact x.hv y (k.mem_iff.mpr (mQa.mpr (.inl d)))
   ·exact⟨h,rfl,p⟩
  ·exact x.hv y (k.mem_iff.mpr (mQa.mpr (.inr d)))
 all_goals rcases get_set b with⟨rfl,rfl⟩|⟨_,b⟩
 ·exact e.rl
 ·exact x.rl j c b
 ·exact e.r1
 ·exact x.r1 j c b
 ·exact e.r2
 ·exact x.r2 j c b
 ·exact e.r3 g
 ·exact x.r3 j c g b
 ·exact e.r4 g
 ·exact x.r4 j c g b
 ·exact e.r5
 ·exact x.r5 j c b
end
section
variable{w:cZ}{N:Nat}{ps:List (Int×List Int)}{rs:List cN}{fr fr':Nat->List Int}{h:Nat}
def Q2.room0(x:Q2 w N ps rs fr){i:Nat}{r nr:cN}(n:rs[i]?=some r)(d:R2 w N i fr nr)(l:∀a:List Int,(aO r++a).Nodup->(aO nr++a).Nodup)(e:∀y∈aO nr,y∈aO r):Q2 w N ps (rs.set i nr) fr:=by
 obtain⟨a,k,m⟩:=qm (ps:=ps) (nr:=nr) n
 refine⟨x.fo,m.nodup_iff.mpr (l a (k.nodup_iff.mp x.nd)),λy g=> ?_,x.pv,x.pl,λj c b=> ?_,λj c b=> ?_,λj c b=> ?_,λj c f b=> ?_,λj c f b=> ?_,λj c b=> ?_⟩
 ·rcases mQa.mp (m.mem_iff.mp g) with g|g
  ·exact x.hv y (k.mem_iff.mpr (mQa.mpr (.inl (e y g))))
  ·exact x.hv y (k.mem_iff.mpr (mQa.mpr (.inr g)))
 all_goals rcases get_set b with⟨rfl,rfl⟩|⟨_,b⟩
 ·exact d.rl
 ·exact x.rl j c b
 ·exact d.r1
 ·exact x.r1 j c b
 ·exact d.r2
 ·exact x.r2 j c b
 ·exact d.r3 f
 ·exact x.r3 j c f b
 ·exact d.r4 f
 ·exact x.r4 j c f b
 ·exact d.r5
 ·exact x.r5 j c b
def rG{a b c:List Int}{k:Int}(p:b.Perm (k::a))(n:(a++c).Nodup)(d:k∉a++c):(b++c).Nodup:=by
 refine(QJq c p).nodup_iff.mpr ?_
 rw[List.cons_append]
 exact List.nodup_cons.mpr ⟨d,n⟩
def rh{a b c:List Int}{k:Int}(p:a.Perm (k::b))(n:(a++c).Nodup):(b++c).Nodup:=by
 have:=(QJq c p).nodup_iff.mp n
 rw[List.cons_append] at this
 exact(List.nodup_cons.mp this).2
def gM(x:Q2 w N ps rs fr){i:Nat}{r:cN}(a:rs[i]?=some r){y:Int}(b:y∈aO r):y∈hl ps rs:=mQa.mpr (.inr (QOq.mpr ⟨r,mQg a,b⟩))
def leave_held(r:cN):(∃a,(aO r).Perm (a::aO (bW r))/\(bW r).within=a)\/(aO (bW r)=aO r/\(bW r).within= -1/\r.row= []/\r.ag= []):=by
 obtain⟨d,c,b,e,f⟩:=r
 cases e with
 | cons a l=>
   refine .inl ⟨a,?_,rfl⟩
   show(b++(a::l)++_).Perm (a::(b++l++_))
   rw[Qvq,Qvq]
   exact List.perm_middle
 | nil=>
   cases b with
   |cons a l=>exact .inl ⟨a,List.Perm.refl _,rfl⟩
   |nil=>exact .inr ⟨rfl,rfl,rfl,rfl⟩
def mr{r:cN}(h:r.ag= []):(bW r).ag= []:=by
 obtain⟨c,a,b,d,e⟩:=r
 cases h
 cases b <;>rfl
def kd(r:cN):(bW r).aa=r.aa:=by
 obtain⟨d,b,c,e,f⟩:=r
 cases e with
 |cons a l=>rfl
 |nil=>cases c <;>rfl
def qz(x:Q2 w N ps rs fr){i:Nat}{r:cN}(c:rs[i]?=some r):(aO r).Nodup:=by
 obtain⟨a,b,_⟩:=qm (ps:=ps) (nr:=r) c
 exact(List.nodup_append.mp (b.nodup_iff.mp x.nd)).1
def uX{a:Int}{l m:List Int}(b:l.Perm (a::m))(n:l.Nodup){y:Int}(c:y∈m):a≠y:=λz=>by
 subst z
 exact(List.nodup_cons.mp (b.nodup_iff.mp n)).1 c
def AF{r:cN}{b:Nat}{l nl:List (Int×Int)}{y:Int}(e:r.aa[b]?=some l)(f:∀z∈nl.map (·.2),z∈l.map (·.2))(a:y∈Ia {r with aa:=r.aa.set b nl}):y∈Ia r:=by
 rcases mQa.mp a with a|a
 ·exact mQa.mpr (.inl a)
 ·obtain⟨m,g,c⟩:=QOq.mp a
  obtain⟨j,d⟩:=List.getElem?_of_mem g
  rcases get_set d with⟨rfl,rfl⟩|⟨_,d⟩
  ·exact mQa.mpr (.inr (QOq.mpr ⟨l,mQg e,f y c⟩))
  ·exact mQa.mpr (.inr (QOq.mpr ⟨m,mQg d,c⟩))
def Q2.leave(x:Q2 w N ps rs fr){i:Nat}{r:cN}(m:rs[i]?=some r):Q2 w N ps (rs.set i (bW r)) fr:=by
 have f:=x.at m
 rcases leave_held r with⟨a,t,o⟩|⟨s,o,c,q⟩
 ·have G:a∈aO r:=t.mem_iff.mpr (QBq ..)
  have d:∀y∈aO (bW r),y∈aO r:=λy e=>t.mem_iff.mpr (Qpq _ e)
  obtain⟨g,rfl,F⟩:=x.hv a (gM x m G)
  refine x.room0 m ⟨λC j=>f.rl C (d _ j),λz=>by rw[o] at z;omega,.inr ⟨g,o,F,QcQ (f.rl g G)⟩,λk c q=>mr (f.r3 k c q),λk c b l nm v B A=>f.r4 k c b l nm v (by rw[←kd];exact B) A,λy e=>by rw[o];exact uX t (qz x m) (iI e)⟩ (λp n=>rh t n) d
 ·refine x.room0 m ⟨λC j=>f.rl C (by rw[←s];exact j),λ_=> ?_,.inl o,λk c q=>mr (f.r3 k c q),λk c b l nm v B A=>f.r4 k c b l nm v (by rw[←kd];exact B) A,λy e=>by obtain⟨g,F,_⟩:=x.hv y (gM x m (by rw[←s];exact iI e));rw[o];omega⟩ (λp n=>by rw[s];exact n) (λy e=>by rw[←s];exact e)
  obtain⟨H,u,I,K,J⟩:=r
  cases c
  cases q
  exact⟨rfl,rfl⟩
def Q2.come(x:Q2 w N ps rs fr){i:Nat}{r:cN}(f:rs[i]?=some r)(o:h<N)(k:(h:Int)∉hl ps rs)(l:(fr h).getLast? =some (i:Int)):Q2 w N ps (rs.set i (iK r h)) fr:=by
 have b:=x.at f
 unfold iK
 by_cases c:r.within= -1
 ·rw[Qhq c]
  refine x.room0 f ⟨b.rl,λz=>by have z:(h:Int)= -1:=z;omega,.inr ⟨h,rfl,o,QcQ l⟩,b.r3,b.r4,λy d z=>k (gM x f (by have z:(h:Int)=y:=z;rw[z];exact iI d))⟩ (λe n=>n) (λy d=>d)
 ·rw[Quq c]
  have m:(aO {r with row:=r.row++ [(h:Int)]}).Perm ((h:Int)::aO r):=by
   show((r.row++ [(h:Int)])++r.ag++_).Perm ((h:Int)::(r.row++r.ag++_))
   rw[Qvq,Qvq,Qvq]
   exact List.perm_middle
  have a:∀y∈aO {r with row:=r.row++ [(h:Int)]},y∈aO r\/y=(h:Int):=λy d=>by
   rcases Qsq.mp (m.mem_iff.mp d) with rfl|d
   ·exact .inr rfl
   ·exact .inl d
  refine x.room f ⟨λg j=> ?_,λz=>absurd z c,b.r2,b.r3,b.r4,b.r5⟩ (λe n p=>rG m n p) a o k
  rcases a _ j with j|j
  ·exact b.rl g j
  ·have:g=h:=by omega
   subst this
   exact l
def se{α:Type}{A B C:List α}:(A++(B++C)).Perm (B++(A++C)):=by
 rw[←Qvq,←Qvq]
 exact QJq _ List.perm_append_comm
def mQ{r:cN}{b:Nat}{l nl:List (Int×Int)}(c:r.aa[b]?=some l):∃a,(aO r).Perm (l.map (·.2)++a)/\(aO {r with aa:=r.aa.set b nl}).Perm (nl.map (·.2)++a):=by
 refine⟨(r.row++r.ag)++(r.aa.eraseIdx b).flatMap λl=>l.map (·.2),?_,?_⟩
 ·exact(List.Perm.append_left (r.row++r.ag) (jl (f:=λl:List (Int×Int)=>l.map (·.2)) c)).trans se
 ·exact(List.Perm.append_left (r.row++r.ag) (iV (f:=λl:List (Int×Int)=>l.map (·.2)) (b:=nl) c)).trans se
def BH{l:List (Int×Int)}{t k:Int}:((g7 l t k).map (·.2)).Perm (k::l.map (·.2)):=by
 unfold g7
 generalize (l.filter λp=>decide (p.1<=t)).length=n
 have e:l.map (·.2)=(l.take n).map (·.2)++(l.drop n).map (·.2):=by rw[←Qzq,List.take_append_drop]
 rw[e,Qvq,Qzq]
 exact List.perm_middle
theorem qY{t:Int}:∀{l:List (Int×Int)},(l.map (·.1)).Pairwise (·<=·)->(∀p∈l.take (l.filter λp=>decide (p.1<=t)).length,p.1<=t)/\∀p∈l.drop (l.filter λp=>decide (p.1<=t)).length,t<p.1
 | [],_=>⟨λp b=>by simp at b,λp b=>by simp at b⟩
 | a::l,hs=>by
   rw[QDq,List.pairwise_cons] at hs
   by_cases c:a.1<=t
   · rw[List.filter_cons_of_pos (by simpa using c),Qnq,List.take_succ_cons,List.drop_succ_cons]
     obtain⟨f,g⟩:=qY (t:=t) hs.2
     refine⟨λp b=> ?_,g⟩
     rcases Qsq.mp b with rfl|b
     · exact c
     · exact f p b
   · have d:∀p∈a::l,t<p.1:=λp b=>by
       rcases Qsq.mp b with rfl|b
       · omega
       · have:=hs.1 p.1 (Qkq.mpr ⟨p,b,rfl⟩)
         omega
     have e:((a::l).filter λp=>decide (p.1<=t))= []:=List.filter_eq_nil_iff.mpr λp b=>by
       have:=d p b
       simpa using this
     rw[e]
     exact⟨λp b=>by simp at b,λp b=>d p (by simpa using b)⟩
def xH{l:List (Int×Int)}{t k:Int}(d:(l.map (·.1)).Pairwise (·<=·)):((g7 l t k).map (·.1)).Pairwise (·<=·):=by
 obtain⟨g,e⟩:=qY (t:=t) d
 unfold g7
 generalize (l.filter λp=>decide (p.1<=t)).length=n at g e⊢
 rw[Qvq,Qzq,Qzq,List.pairwise_append]
 have j:((l.take n).map (·.1)).Pairwise (·<=·):=by rw[List.map_take];exact d.sublist (List.take_sublist ..)
 have m:((l.drop n).map (·.1)).Pairwise (·<=·):=by rw[List.map_drop];exact d.sublist (List.drop_sublist ..)
 refine⟨j,?_,λa i b c=> ?_⟩
 ·show(t::(l.drop n).map (·.1)).Pairwise (·<=·)
  rw[List.pairwise_cons]
  refine⟨λb c=> ?_,m⟩
  obtain⟨p,f,rfl⟩:=Qkq.mp c
  have:=e p f
  omega
 ·obtain⟨p,f,rfl⟩:=Qkq.mp i
  have o:=g p f
  rcases Qsq.mp (show b∈t::(l.drop n).map (·.1) from c) with rfl|c
  ·exact o
  ·obtain⟨q,r,rfl⟩:=Qkq.mp c
   have:=e q r
   omega
def Cq{l:List (Int×Int)}{t k:Int}{p:Int×Int}(h:p∈g7 l t k):p∈l\/p=(t,k):=by
 unfold g7 at h
 rcases mQa.mp h with h|h
 ·rcases mQa.mp h with h|h
  ·exact .inl (List.mem_of_mem_take h)
  ·exact .inr (Qfq.mp h)
 ·exact .inl (List.mem_of_mem_drop h)
def Q2.wait(x:Q2 w N ps rs fr){i b:Nat}{r:cN}{rm:Rm}{l:List (Int×Int)}{t:Int}{nm W:Str}(F:rs[i]?=some r)(hm:w.aj[i]?=some rm)(hb:r.aa[b]?=some l)(hs:rm.aa[b]?=some (nm,W))(ht:W="row" ->t=0)(Y:h<N)(U:(h:Int)∉hl ps rs)(hf:(fr h).getLast? =some (i:Int)):
  Q2 w N ps (rs.set i (bW {r with aa:=r.aa.set b (g7 l t h)})) fr:=by
 have P:=x.at F
 obtain⟨f,p1,p2⟩:=mQ (nl:=g7 l t h) hb
 have q:(aO {r with aa:=r.aa.set b (g7 l t h)}).Perm ((h:Int)::aO r):=by
  refine p2.trans ((QJq f BH).trans ?_)
  rw[List.cons_append]
  exact List.Perm.cons _ p1.symm
 have e:∀y∈aO {r with aa:=r.aa.set b (g7 l t h)},y∈aO r\/y=(h:Int):=λy d=>by
  rcases Qsq.mp (q.mem_iff.mp d) with rfl|d
  ·exact .inr rfl
  ·exact .inl d
 have A:∀g:Nat,(g:Int)∈aO {r with aa:=r.aa.set b (g7 l t h)}->(fr g).getLast? =some (i:Int):=λg s=>by
  rcases e _ s with s|s
  ·exact P.rl g s
  ·have:g=h:=by omega
   subst this
   exact hf
 have I:∀c:Rm,w.aj[i]?=some c->∀(L:Nat) (K:List (Int×Int)) (B m:Str),(bW {r with aa:=r.aa.set b (g7 l t h)}).aa[L]?=some K->c.aa[L]?=some (B,m)->(K.map (·.1)).Pairwise (·<=·)/\(m="row" ->∀p∈K,p.1=0):=λc u L K B m o v=>by
  rw[kd] at o
  rcases get_set o with⟨rfl,rfl⟩|⟨_,o⟩
  ·rw[hm] at u
   cases u
   rw[hs] at v
   cases v
   obtain⟨e1,e2⟩:=P.r4 rm hm L l nm W hb hs
   refine⟨xH e1,λz p q=> ?_⟩
   rcases Cq q with q|rfl
   ·exact e2 z p q
   ·exact ht z
  ·exact P.r4 c u L K B m o v
 have H:∀y∈aO {r with aa:=r.aa.set b (g7 l t h)},∃g:Nat,y=g/\g<N:=λy d=>by
  rcases e y d with d|rfl
  ·exact x.hv y (gM x F d)
  ·exact⟨h,rfl,Y⟩
 have n':(aO {r with aa:=r.aa.set b (g7 l t h)}).Nodup:=q.nodup_iff.mpr (List.nodup_cons.mpr ⟨λz=>U (gM x F z),qz x F⟩)
 have J:∀c:Rm,w.aj[i]?=some c->c.ah="when free" ->(bW {r with aa:=r.aa.set b (g7 l t h)}).ag= []:=λc R X=>mr (P.r3 c R X)
 rcases leave_held {r with aa:=r.aa.set b (g7 l t h)} with⟨a,k,G⟩|⟨M,G,R,X⟩
 ·have ha:a∈aO {r with aa:=r.aa.set b (g7 l t h)}:=k.mem_iff.mpr (QBq ..)
  have j:∀y∈aO (bW {r with aa:=r.aa.set b (g7 l t h)}),y∈aO {r with aa:=r.aa.set b (g7 l t h)}:=λy d=>k.mem_iff.mpr (Qpq _ d)
  obtain⟨g,rfl,s⟩:=H a ha
  exact x.room F ⟨λZ C=>A Z (j _ C),λz=>by rw[G] at z;omega,.inr ⟨g,G,s,QcQ (A g ha)⟩,J,I,λy d=>by rw[G];exact uX k n' (iI d)⟩ (λf n S=>rh k (rG q n S)) (λy d=>e y (j y d)) Y U
 ·refine x.room F ⟨λZ C=>A Z (by rw[←M];exact C),λ_=> ?_,.inl G,J,I,λy d=>by obtain⟨g,s,_⟩:=H y (by rw[←M];exact iI d);rw[G];omega⟩ (λf n S=>by rw[M];exact rG q n S) (λy d=>e y (by rw[←M];exact d)) Y U
  obtain⟨a1,Q,a2,ag,aa⟩:=r
  cases R
  cases X
  exact⟨rfl,rfl⟩
def Q2.all(x:Q2 w N ps rs fr){i b:Nat}{r:cN}{l:List (Int×Int)}(t:rs[i]?=some r)(B:r.aa[b]?=some l):Q2 w N ps (rs.set i {r with aa:=r.aa.set b []}) fr:=by
 have e:=x.at t
 obtain⟨s,v,A⟩:=mQ (nl:= []) B
 have c:∀y∈aO {r with aa:=r.aa.set b []},y∈aO r:=λy o=>v.mem_iff.mpr (mQa.mpr (.inr (by simpa using A.mem_iff.mp o)))
 refine x.room0 t ⟨λg C=>e.rl g (c _ C),e.r1,e.r2,e.r3,λq f G F m k d j=> ?_,λy o=>e.r5 y (AF B (λ_ z=>by simp at z) o)⟩ (λa n=> ?_) c
 ·rcases get_set d with⟨rfl,rfl⟩|⟨_,d⟩
  ·exact⟨.nil,λ_ p H=>by cases H⟩
  ·exact e.r4 q f G F m k d j
 ·have u:=(QJq a v).nodup_iff.mp n
  refine(QJq a A).nodup_iff.mpr ?_
  rw[Qvq] at u
  exact(List.nodup_append.mp u).2.1
def Q2.call(x:Q2 w N ps rs fr){i b:Nat}{r:cN}{rm:Rm}{l:List (Int×Int)}(t:rs[i]?=some r)(hm:w.aj[i]?=some rm)(M:r.aa[b]?=some l)(W:h<N)(Q:(h:Int)∉hl ps rs)(U:(fr h).getLast? =some (i:Int)):
  Q2 w N ps (rs.set i (qP (decide (rm.ah="when free")) r b h)) fr:=by
 have v:=x.at t
 unfold qP
 rw[M]
 cases l with
 | nil=>
   have e:rs.set i r=rs:=by
     apply List.ext_getElem?
     intro j
     rw[List.getElem?_set]
     split
     · rename_i c
       subst c
       rw[t]
       have:=(gQs.mp t).1
       simp[this]
     · rfl
   rw[e]
   exact x
 | cons p l=>
   obtain⟨A,X,Y⟩:=mQ (nl:=l) M
   have F:(aO r).Perm (p.2::aO {r with aa:=r.aa.set b l}):=by
     refine X.trans ?_
     rw[QDq,List.cons_append]
     exact List.Perm.cons _ Y.symm
   have G:p.2∈aO r:=F.mem_iff.mpr (QBq ..)
   have d:∀y∈aO {r with aa:=r.aa.set b l},y∈aO r:=λy a=>F.mem_iff.mpr (Qpq _ a)
   have R:∀f:Rm,w.aj[i]?=some f->∀(K:Nat) (J:List (Int×Int)) (u o:Str),(r.aa.set b l)[K]?=some J->f.aa[K]?=some (u,o)->(J.map (·.1)).Pairwise (·<=·)/\(o="row" ->∀p∈J,p.1=0):=λf m K J u o B I=>by
     rcases get_set B with⟨rfl,rfl⟩|⟨_,B⟩
     · obtain⟨S,Z⟩:=v.r4 f m K _ u o M I
       rw[QDq,List.pairwise_cons] at S
       exact⟨S.2,λz q hq=>Z z q (Qpq _ hq)⟩
     · exact v.r4 f m K J u o B I
   dsimp only
   by_cases c:rm.ah="when free"
   · rw[Qeq c,Qhq rfl]
     exact x.room0 t ⟨λg G=>v.rl g (d _ G),v.r1,v.r2,v.r3,R,λy a=>v.r5 y (AF M (λ_ z=>Qpq _ z) a)⟩ (λA n=>rh F n) d
   · rw[Qdq c,Quq (by decide)]
     have H:(aO {r with aa:=r.aa.set b l,within:=p.2,ag:=r.ag++ [(h:Int)]}).Perm ((h:Int)::aO {r with aa:=r.aa.set b l}):=by
       show(r.row++(r.ag++ [(h:Int)])++_).Perm ((h:Int)::(r.row++r.ag++_))
       rw[←Qvq,Qvq]
       exact List.perm_middle
     have s:∀y∈aO {r with aa:=r.aa.set b l,within:=p.2,ag:=r.ag++ [(h:Int)]},y∈aO r\/y=(h:Int):=λy a=>by
       rcases Qsq.mp (H.mem_iff.mp a) with rfl|a
       · exact .inr rfl
       · exact .inl (d y a)
     obtain⟨g,L,P⟩:=x.hv p.2 (gM x t G)
     refine x.room t ⟨λk C=> ?_,λz=> ?_,.inr ⟨g,L,P,QcQ (v.rl g (by rw[←L];exact G))⟩,λf m z=> ?_,R,λy a=> ?_⟩ (λA n C=> ?_) s W Q
     · rcases s _ C with C|C
       · exact v.rl k C
       · have:k=h:=by omega
         subst this
         exact U
     · have z:p.2= -1:=z
       omega
     · rw[hm] at m
       cases m
       exact absurd z c
     · show p.2≠y
       rcases mQa.mp a with a|a
       · rcases mQa.mp a with a|a
         · exact uX F (qz x t) (iI (mQa.mpr (.inl a)))
         · rw[Qfq.mp a]
           exact λz=>Q (gM x t (z▸G))
       · exact uX F (qz x t) (iI (mQa.mpr (.inr a)))
     · refine rG H (rh F n) λz=>C ?_
       rcases mQa.mp z with z|z
       · exact mQa.mpr (.inl (d _ z))
       · exact mQa.mpr (.inr z)
end
section
variable{w:cZ}{N:Nat}{ps:List (Int×List Int)}{rs:List cN}{fr fr':Nat->List Int}{h:Nat}
def Q2.take(x:Q2 w N ps rs fr){j:Nat}{p:Int×List Int}(r:ps[j]?=some p)(B:h<N)(v:(h:Int)∉hl ps rs)(A:fr h= [-1]):Q2 w N (ps.set j (gI p h)) rs fr:=by
 obtain⟨⟨C,u⟩,m⟩:=x.pv p (mQg r)
 obtain⟨s,o,t⟩:=vU (rs:=rs) (np:=gI p h) r
 have l:(gI p h).2=p.2\/(gI p h).2=p.2++ [(h:Int)]:=by
  unfold gI
  split
  ·exact .inl rfl
  ·exact .inr rfl
 have d:∀y∈(gI p h).2,y∈p.2\/y=(h:Int):=λy b=>by
  rcases l with e|e
  ·rw[e] at b;exact .inl b
  ·rw[e] at b
   rcases mQa.mp b with b|b
   ·exact .inl b
   ·exact .inr (Qfq.mp b)
 refine⟨x.fo,t.nodup_iff.mpr ?_,λy b=> ?_,λq f=> ?_,λq f g i=> ?_,x.rl,x.r1,x.r2,x.r3,x.r4,x.r5⟩
 ·have n:=o.nodup_iff.mp x.nd
  rcases l with e|e
  ·rw[e];exact n
  ·rw[e]
   exact rG (a:=p.2) (k:=(h:Int)) (by rw[←List.append_nil p.2];simpa using List.perm_middle (l₁:=p.2) (a:=(h:Int)) (l₂:= [])) n λz=>v (o.mem_iff.mpr z)
 ·rcases mQa.mp (t.mem_iff.mp b) with b|b
  ·rcases d y b with b|rfl
   ·exact x.hv y (o.mem_iff.mpr (mQa.mpr (.inl b)))
   ·exact⟨h,rfl,B⟩
  ·exact x.hv y (o.mem_iff.mpr (mQa.mpr (.inr b)))
 ·rcases QTq f with f|rfl
  ·exact x.pv q f
  ·unfold gI
   split
   ·rename_i c
    refine⟨⟨by show 0<=p.1-1;omega,by show p.1-1<=9;omega⟩,.inr ?_⟩
    rcases m with m|m
    ·omega
    ·exact m
   ·rename_i c
    exact⟨⟨C,u⟩,.inl (by show p.1=0;omega)⟩
 ·rcases QTq f with f|rfl
  ·exact x.pl q f g i
  ·rcases d _ i with i|i
   ·exact x.pl p (mQg r) g i
   ·have:g=h:=by omega
    subst this
    exact A
def Q2.give(x:Q2 w N ps rs fr){j:Nat}{p:Int×List Int}(f:ps[j]?=some p):Q2 w N (ps.set j (ft p)) rs fr:=by
 obtain⟨⟨o,u⟩,e⟩:=x.pv p (mQg f)
 obtain⟨r,m,t⟩:=vU (rs:=rs) (np:=ft p) f
 have i:=x.pl p (mQg f)
 obtain⟨v,l⟩:=p
 have c:∀y∈(ft (v,l)).2,y∈l:=λy b=>by
  unfold ft at b
  cases l with
  |nil=>cases b
  |cons a l=>exact Qpq _ b
 refine⟨x.fo,t.nodup_iff.mpr ?_,λy b=> ?_,λq d=> ?_,λq d g s=> ?_,x.rl,x.r1,x.r2,x.r3,x.r4,x.r5⟩
 ·have n:=m.nodup_iff.mp x.nd
  unfold ft
  cases l with
  |nil=>exact n
  |cons a l=>exact rh (k:=a) (List.Perm.refl _) n
 ·rcases mQa.mp (t.mem_iff.mp b) with b|b
  ·exact x.hv y (m.mem_iff.mpr (mQa.mpr (.inl (c y b))))
  ·exact x.hv y (m.mem_iff.mpr (mQa.mpr (.inr b)))
 ·rcases QTq d with d|rfl
  ·exact x.pv q d
  ·unfold ft
   cases l with
   | nil=>
     refine⟨?_,.inr rfl⟩
     show 0<=(if 9<v+1 then 9 else v+1)/\(if 9<v+1 then 9 else v+1)<=9
     have o:0<=v:=o
     split <;>omega
   | cons a l=>
     refine⟨⟨o,u⟩,.inl ?_⟩
     rcases e with e|e
     · exact e
     · cases e
 ·rcases QTq d with d|rfl
  ·exact x.pl q d g s
  ·exact i g (c _ s)
def Q2.frames(x:Q2 w N ps rs fr)(b:∀g,g≠h->fr' g=fr g)(l:(h:Int)∉hl ps rs)(k:∀(i:Nat) (r:cN),rs[i]?=some r->r.within=(h:Int)->(i:Int)∈fr' h)(m:(fr' h).head? =some (-1)):Q2 w N ps rs fr':=by
 have j:∀g:Nat,(g:Int)∈hl ps rs->fr' g=fr g:=λg a=>b g λz=>l (by rw[←z];exact a)
 refine⟨λg a=> ?_,x.nd,x.hv,x.pv,λp f g a=> ?_,λi r d g a=> ?_,x.r1,λi r d=> ?_,x.r3,x.r4,x.r5⟩
 ·by_cases c:g=h
  ·subst c
   exact m
  ·rw[b g c]
   exact x.fo g a
 ·rw[j g (mQa.mpr (.inl (QOq.mpr ⟨p,f,a⟩)))]
  exact x.pl p f g a
 ·rw[j g (gM x d a)]
  exact x.rl i r d g a
 ·rcases x.r2 i r d with z|⟨g,e,a,n⟩
  ·exact .inl z
  ·refine .inr ⟨g,e,a,?_⟩
   by_cases c:g=h
   ·subst c
    exact k i r d e
   ·rw[b g c]
    exact n
end
def rc(f:cp):Int:=if f.room= -1 then(if f.deed= -1/\f.given=0/\f.told=0 then -1 else -2) else f.room
def lu{f:cp}(h:f.room≠-1):rc f=f.room:=Quq h
def tU(s:bt)(g:Nat):List Int:=((s.af[g]?).map λp=>p.2.map rc).getD []
def mN(w:cZ)(s:bt):Prop:=Q2 w s.af.length s.ai s.aj (tU s)
section
variable{w:cZ}{n h:Nat}{s:bt}{vs:List Int}{fs:List cp}{f:cp}
def jM(a:s.af[h]?=some (vs,fs)):tU s h=fs.map rc:=by
 unfold tU
 rw[a]
 rfl
def vH{p:List Int×List cp}{g:Nat}(a:g≠h):tU {s with af:=s.af.set h p} g=tU s g:=by
 unfold tU
 rw[QKq (Ne.symm a)]
def u6{p:List Int×List cp}(hl:h<s.af.length):tU {s with af:=s.af.set h p} h=p.2.map rc:=by
 unfold tU
 rw[Qyq hl]
 rfl
def mN.quiet(x:mN w s){b:List Int}{a:List cp}(d:s.af[h]?=some (vs,fs))(e:a.map rc=fs.map rc):mN w {s with af:=s.af.set h (b,a)}:=by
 have hl:=(gQs.mp d).1
 have i:tU {s with af:=s.af.set h (b,a)}=tU s:=by
  funext g
  by_cases c:g=h
  ·subst c
   rw[u6 hl,jM d]
   exact e
  ·exact vH c
 unfold mN
 rw[i]
 show Q2 w (s.af.set h (b,a)).length s.ai s.aj (tU s)
 rw[List.length_set]
 exact x
def mN.share(x:mN w s){a:List Int}:mN w {s with ak:=a}:=x
def mN.vals(x:mN w s){i:Nat}{r:cN}{e:List Int}(c:s.aj[i]?=some r):mN w {s with aj:=s.aj.set i {r with vals:=e}}:=by
 have a:=Q2.at x c
 exact Q2.room0 x c ⟨a.rl,a.r1,a.r2,a.r3,a.r4,a.r5⟩ (λb n=>n) (λy d=>d)
def mN.begun(o:d0 w):mN w (bR w):=by
 have j:∀(i:Nat) (r:cN),(bR w).aj[i]?=some r->∃c,w.aj[i]?=some c/\r=cX c:=λi r j=>by
  simp only[bR,gQm] at j
  obtain⟨c,B,C⟩:=oQm.mp j
  exact⟨c,B,C.symm⟩
 have z:∀c:Rm,∀l∈(cX c).aa,l= []:=λc l hl=>by
  simp only[cX,Qkq] at hl
  obtain⟨_,_,e⟩:=hl
  exact e.symm
 have m:∀c:Rm,aO (cX c)= []:=λc=>by
  unfold aO
  have:(cX c).aa.flatMap (λl=>l.map (·.2))= []:=List.flatMap_eq_nil_iff.mpr λl hl=>by rw[z c l hl];rfl
  rw[this]
  rfl
 have A:hl (bR w).ai (bR w).aj= []:=by
  unfold hl
  rw[List.append_eq_nil_iff,List.flatMap_eq_nil_iff,List.flatMap_eq_nil_iff]
  refine⟨λp d=> ?_,λr a=> ?_⟩
  ·simp only[bR,Qkq] at d
   obtain⟨q,_,rfl⟩:=d
   rfl
  ·simp only[bR,Qkq] at a
   obtain⟨q,_,rfl⟩:=a
   exact m q
 have v:(bR w).ai.flatMap (·.2)++(bR w).aj.flatMap aO= []:=A
 refine⟨λg k=> ?_,by rw[v];exact .nil,(λx u=>by rw[v] at u;cases u),?_,λp d g k=> ?_,λi r a g k=> ?_,λi r a _=> ?_,λi r a=> ?_,λi r c a _ _=> ?_,λi r c a _ b l nm I G _=> ?_,λi r a y F=>by obtain⟨c,_,rfl⟩:=j i r a;have:=iI F;rw[m] at this;cases this⟩
 ·have t:g<w.af.length:=by simpa [bR] using k
  unfold tU
  simp only[bR,gQm,gQe t,Option.map_some,Option.getD_some]
  rfl
 ·intro p d
  simp only[bR,Qkq] at d
  obtain⟨q,H,rfl⟩:=d
  have:=o.pv q H
  exact⟨⟨by show(0:Int)<=(q.2:Int);omega,by show(q.2:Int)<=9;omega⟩,.inr rfl⟩
 ·simp only[bR,Qkq] at d
  obtain⟨q,_,rfl⟩:=d
  cases k
 ·obtain⟨c,_,rfl⟩:=j i r a
  rw[m] at k
  cases k
 ·obtain⟨c,_,rfl⟩:=j i r a
  exact⟨rfl,rfl⟩
 ·obtain⟨c,_,rfl⟩:=j i r a
  exact .inl rfl
 ·obtain⟨c,_,rfl⟩:=j i r a
  rfl
 ·obtain⟨c,_,rfl⟩:=j i r a
  rw[z c l (mQg G)]
  exact⟨.nil,λ_ p d=>by cases d⟩
end
section
variable{w:cZ}{n h:Nat}{s:bt}{vs:List Int}{fs:List cp}{f:cp}{sc:Sc}
def lj{f':cp}(a:fs.getLast? =some f)(e:rc f'=rc f):(fs.dropLast++ [f']).map rc=fs.map rc:=by
 conv=>rhs;rw[hX a]
 rw[Qzq,Qzq]
 show _++ [rc f']=_++ [rc f]
 rw[e]
def zS{y:Str}{v:Int}(o:d0 w)(x:cI w n s)(q:mN w s)(k:s.af[h]?=some (vs,fs))(l:fs.getLast? =some f)(m:A2 w h f=some sc)(A:y∈sc.ps)(t:0<=v/\v<=9):∃u,Puts w s h y v u/\cI w n u/\mN w u:=by
 obtain⟨z,P,j,i⟩:=x.whand k
 have H:=o.hd _ (mQg j)
 have B:=i.fr f (QcQ l)
 have K:=o.l1
 have N:=o.l3
 have C:=H.l1
 have M:=o.l4
 have L:=x.lr
 have I:=x.lh
 rcases kM m with⟨c,F,G,b,rfl⟩|⟨c,r,hr,rfl⟩
 ·rw[j] at b
  cases b
  refine⟨wj w s h z vs fs y v,λS Q q=>FM j k l c x.ls i.lv (by omega) (by dsimp only at C;omega) (by omega) A q,?_⟩
  unfold wj
  split
  ·obtain⟨e,d⟩:=lY (ns:=w.ak.map (·.1)) (y:=y) x.sv t
   exact⟨x.share e d,q.share⟩
  ·obtain⟨e,d⟩:=lY (ns:=z.map (·.1)) (y:=y) i.vv t
   exact⟨x.hand j (i.vals e d),q.quiet k rfl⟩
 ·obtain⟨J,g,a⟩:=x.wroom hr
  have p:=o.rm r (mQg hr)
  have R:=p.l1
  refine⟨_,λS Q q=>D8 k l (oA B c) hr g a.lv (by omega) (by omega) A q,?_⟩
  obtain⟨e,d⟩:=lY (ns:=r.ao.map (·.1)) (y:=y) a.vv t
  exact⟨x.room hr ⟨by rw[a.lv,←e],a.lb,d,a.br,a.bl,a.bb⟩,q.vals g⟩
def uc(hi:ix fs)(g:fs.getLast? =some f)(c:f.room= -1)(b:(fs.map rc).head? =some (-1)):fs.map rc= [-1]:=by
 have e:=hX g
 rw[e] at hi b⊢
 cases d:fs.dropLast with
 | nil=>
   rw[d] at b
   rw[List.nil_append]
   have b:some (rc f)=some (-1):=b
   show [rc f]= [-1]
   rw[QdQ b]
 | cons a l=>
   rw[d] at hi
   exact absurd c (hi.2 f (mQa.mpr (.inr (Qfq.mpr rfl))))
def FN{r:Rw}{pr:List Rw}(o:d0 w)(x:cI w n s)(N:mN w s)(I:(h:Int)∉held s)(hn:n<=100)(B:s.af[h]?=some (vs,fs))(H:fs.getLast? =some f)(hp:progOf w h f=some pr)(h1:1<=f.row)(a2:pr[(f.row-1).toNat]?=some r):∃s',GW w s h r s'/\cI w (n+1) s'/\mN w s':=by
 obtain⟨sc,J,c4⟩:=Dp o hp
 have b:=c4 r (mQg a2)
 obtain⟨ts,a3,hw,hi⟩:=x.whand B
 have fi:=hi.fr f (QcQ H)
 have hl:h<s.af.length:=(gQs.mp B).1
 have b1:=o.l1
 have b2:=o.l2
 have b3:=o.l3
 have b4:=o.l4
 have lr:=x.lr
 have lp:=x.lp
 have lh:=x.lh
 have lf:=hi.lf
 have x1:=x.mono (Nat.le_succ n)
 have U:f.room≠-1->(tU s h).getLast? =some f.room:=λc=>by rw[jM B,QfQ,H];exact congrArg some (lu c)
 have f0:=N.fo h hl
 have C:sc.own=false->∃(i:Nat) (r:Rm) (rs:cN),f.room=i/\w.aj[i]?=some r/\s.aj[i]?=some rs/\jx n r rs/\zP (bC w.aj) r/\sc.bs=r.aa.map (·.1):=λho=>by
  rcases kM J with⟨c,a6,a3,b0,rfl⟩|⟨c,r,M,rfl⟩
  ·cases ho
  ·obtain⟨rs,u,K⟩:=x.wroom M
   exact⟨_,r,rs,oA fi c,M,u,K,o.rm r (mQg M),rfl⟩
 have G:sc.own=true->sc.ts=w.ai.map (·.1)/\tU s h= [-1]:=λho=>by
  rcases kM J with⟨c,a6,a3,b0,rfl⟩|⟨c,r,M,rfl⟩
  ·exact⟨rfl,by rw[jM B] at f0⊢;exact uc hi.hd H c f0⟩
  ·cases ho
 have F:∀y,y∈w.ai.map (·.1)->∀ps:List (Int×List Int),w.ai.length=ps.length->∃p,ps[fT (w.ai.map (·.1)) y]?=some p:=λy A ps hl=>by
  have:=(jG A).1
  rw[lQm] at this
  exact⟨_,gQe (by omega)⟩
 have X:∀p:Int×List Int,p.2.length<=n->(gI p h).2.length<=n+1:=λp hp=>by
  unfold gI
  split
  ·show p.2.length<=_;omega
  ·simp;omega
 have W:∀p:Int×List Int,p.2.length<=n->(ft p).2.length<=n:=λp hp=>by
  obtain⟨v,l⟩:=p
  unfold ft
  cases l with
  |nil=>simp
  |cons a l=>simp at hp;show l.length<=n;omega
 cases r with
 | put y t=>
   obtain⟨v,hv,M⟩:=lF o x B H J b.2
   obtain⟨s',k,c6,c3⟩:=zS o x N B H J b.1 hv
   exact⟨s',λS Q q=>Bo M k q,c6.mono (Nat.le_succ n),c3⟩
 | unl t m=>
   obtain⟨v,hv,M⟩:=lF o x B H J b.1
   refine⟨_,λS Q q=>uY M B H (by omega) (by omega) q,?_⟩
   split
   · exact⟨x1.goes B H hp (by omega) (by have:=b.2;omega),N.quiet B (lj H rfl)⟩
   · exact⟨x1,N⟩
 |go m=>exact⟨_,λS Q q=>DN B H (by omega) (by omega) q,x1.goes B H hp (by omega) (by have:m<=pr.length:=b;omega),N.quiet B (lj H rfl)⟩
 | do_ g rn dn t=>
   obtain⟨v,hv,M⟩:=lF o x B H J b.2.2
   have c5:sc.gs=bC w.aj:=by
     rcases kM J with⟨c,a6,a3,b0,rfl⟩|⟨c,r,M,rfl⟩ <;>rfl
   have a7:=b.2.1
   rw[c5] at a7
   obtain⟨a1,r,d,a5⟩:=EU o a7
   obtain⟨rs,u,K⟩:=x.wroom d
   have R:=o.rm r (mQg d)
   have b5:=R.l3
   have b6:=K.br
   refine⟨_,λS Q q=>DZ M B a1 d u a5 (by omega) (by omega) (by omega) (by omega) (by omega) (by omega) q,?_⟩
   have c0:=jG a5
   have b9:=c0.1
   rw[lQm] at b9
   obtain⟨⟨d2,b8⟩,c1⟩:∃p,r.ae[fT (r.ae.map (·.1)) dn]?=some p:=⟨_,gQe b9⟩
   have pf:progOf w h ⟨(fT (w.aj.map (·.name)) rn:Nat),(fT (r.ae.map (·.1)) dn:Nat),0,v,0⟩=some b8:=Bd rfl rfl d c1
   have hh:=hi.push (f':=⟨(fT (w.aj.map (·.name)) rn:Nat),(fT (r.ae.map (·.1)) dn:Nat),0,v,0⟩) H ⟨pr,g,rn,dn,t,hp,h1,a2⟩ (by show((fT (w.aj.map (·.name)) rn:Nat):Int)≠-1;omega) ⟨⟨b8,pf,by show(0:Int)<=0;omega,by show(0:Int)<=_;omega⟩,hv,by show(0:Int)<=0/\(0:Int)<=9;omega⟩
   refine⟨(x1.hand hw hh).room d K.come,?_⟩
   generalize fT (r.ae.map (·.1)) dn=dd
   generalize fT (w.aj.map (·.name)) rn=i at u
   have eo:tU {s with af:=s.af.set h (vs,fs++ [(⟨i,dd,0,v,0⟩:cp)]),aj:=s.aj.set i (iK rs h)} h=fs.map rc++ [(i:Int)]:=by
     have:=u6 (s:={s with aj:=s.aj.set i (iK rs h)}) (h:=h) (p:=(vs,fs++ [(⟨i,dd,0,v,0⟩:cp)])) hl
     rw[Qzq] at this
     rw[show [(i:Int)]= [(⟨i,dd,0,v,0⟩:cp)].map rc by show _= [rc _];rw[lu (by show(i:Int)≠-1;omega)]]
     exact this
   have q3:Q2 w s.af.length s.ai s.aj (tU {s with af:=s.af.set h (vs,fs++ [(⟨i,dd,0,v,0⟩:cp)]),aj:=s.aj.set i (iK rs h)}):=by
     refine Q2.frames N (h:=h) (λg hg=> ?_) I (λj r' hj e=> ?_) ?_
     · exact vH (s:={s with aj:=s.aj.set i (iK rs h)}) hg
     · rw[eo]
       rcases N.r2 j r' hj with z|⟨g,e',_,hm⟩
       · omega
       · have:g=h:=by omega
         subst this
         rw[jM B] at hm
         exact mQa.mpr (.inl hm)
     · rw[eo]
       rw[jM B] at f0
       cases a9:fs.map rc with
       |nil=>rw[a9] at f0;cases f0
       |cons a l=>rw[a9] at f0;exact f0
   have q4:=q3.come (h:=h) u hl I (by rw[eo];simp)
   unfold mN
   show Q2 w (s.af.set h _).length s.ai (s.aj.set i (iK rs h)) _
   rw[List.length_set]
   exact q4
 | wait y t=>
   obtain⟨i,r,rs,L,d,u,K,R,Y⟩:=C b.1
   obtain⟨v,hv,M⟩:=lF o x B H J b.2.2
   have A:=b.2.1
   rw[Y] at A
   have b6:=R.l2
   have lb:=K.lb
   obtain⟨k1,k2⟩:=jG A
   rw[lQm] at k1
   rw[gQm] at k2
   obtain⟨⟨y',so⟩,k3,k4⟩:=oQm.mp k2
   have k4:y'=y:=k4
   subst k4
   obtain⟨Z,P⟩:∃l,rs.aa[fT (r.aa.map (·.1)) y']?=some l:=⟨_,gQe (by omega)⟩
   have ll:=K.bb Z (mQg P)
   refine⟨_,λS Q q=>yO B H L d u (by omega) lb (by omega) A k3 P (by omega) M q,?_⟩
   refine⟨x1.room d (((K.mono (Nat.le_succ n)).line (by rw[DU];omega)).leave),?_⟩
   exact Q2.wait N (h:=h) u d P k3 (λz=>by rw[z,Quq (by decide +kernel)]) hl I (by rw[U (by omega),L])
 | call y=>
   obtain⟨i,r,rs,L,d,u,K,R,Y⟩:=C b.1
   have A:=b.2
   rw[Y] at A
   have b6:=R.l2
   have b7:=K.bl
   have lb:=K.lb
   have k1:=(jG A).1
   rw[lQm] at k1
   obtain⟨Z,P⟩:∃l,rs.aa[fT (r.aa.map (·.1)) y]?=some l:=⟨_,gQe (by omega)⟩
   refine⟨_,λS Q q=>yV B H L d u (by omega) K.lb (by omega) (by omega) A q,?_⟩
   exact⟨x1.room d K.call,Q2.call N (h:=h) u d P hl I (by rw[U (by omega),L])⟩
 | all y=>
   obtain⟨i,r,rs,L,d,u,K,R,Y⟩:=C b.1
   have A:=b.2
   rw[Y] at A
   have b6:=R.l2
   have lb:=K.lb
   have k1:=(jG A).1
   rw[lQm] at k1
   obtain⟨Z,P⟩:∃l,rs.aa[fT (r.aa.map (·.1)) y]?=some l:=⟨_,gQe (by omega)⟩
   refine⟨_,λS Q q=>Bp B H L d u (by omega) K.lb (by omega) A q,?_⟩
   exact⟨x1.room d ((K.mono (Nat.le_succ n)).line (by simp)),Q2.all N u P⟩
 | tell t=>
   obtain⟨v,hv,M⟩:=lF o x B H J b.2
   exact⟨_,λS Q q=>zJ M B H (by omega) (by omega) q,x1.tells B H hv,N.quiet B (lj H (by
     have a1:f.room≠-1:=by obtain⟨i,r,rs,L,_⟩:=C b.1;omega
     rw[lu a1];exact lu (f:={f with told:=v}) a1))⟩
 | take y=>
   have A:=b.2
   rw[(G b.1).1] at A
   obtain⟨p,k⟩:=F y A s.ai lp
   have pl:=x.ps p (mQg k)
   exact⟨_,λS Q q=>zO A k (by omega) (by omega) (by omega) q,x1.pass (X p pl),Q2.take N k hl I (G b.1).2⟩
 | give y=>
   have A:=b.2
   rw[(G b.1).1] at A
   obtain⟨p,k⟩:=F y A s.ai lp
   have pl:=x.ps p (mQg k)
   exact⟨_,λS Q q=>yW A k (by omega) (by omega) q,x1.pass (Nat.le_succ_of_le (W p pl)),Q2.give N k⟩
 | pass y z=>
   have A:=b.2.1
   have hz:=b.2.2
   rw[(G b.1).1] at A hz
   obtain⟨p,k⟩:=F y A s.ai lp
   have pl:=x.ps p (mQg k)
   have x2:cI w n _:=x.pass (i:=fT (w.ai.map (·.1)) y) (W p pl)
   obtain⟨p2,a4⟩:=F z hz (s.ai.set (fT (w.ai.map (·.1)) y) (ft p)) (by simpa using lp)
   have c2:=x2.ps p2 (mQg a4)
   have q3:=Q2.give N k
   refine⟨_,λS Q q=>yQ A hz k (by omega) (by omega) (by omega) a4 q,(x2.mono (Nat.le_succ n)).pass (X p2 c2),Q2.take q3 a4 hl ?_ (G b.1).2⟩
   intro zz
   obtain⟨d1,e1,e2⟩:=vU (rs:=s.aj) (np:=ft p) k
   refine I (e1.mem_iff.mpr ?_)
   rcases mQa.mp (e2.mem_iff.mp zz) with zz|zz
   · refine mQa.mpr (.inl ?_)
     obtain⟨v,l⟩:=p
     unfold ft at zz
     cases l with
     |nil=>cases zz
     |cons a l=>exact Qpq _ zz
   · exact mQa.mpr (.inr zz)
 |say t=>exact⟨s,λS Q q=>Bg (sd:=.non) q,x1,N⟩
def E7(o:d0 w)(x:cI w n s)(Y:mN w s)(hn:n<=100)(hm:h∈yI w s)(u:s.af[h]?=some (vs,fs))(C:fs.getLast? =some f):∃F e,t8 w s h F e/\cI w (n+1) F/\mN w F:=by
 obtain⟨ts,b5,hw,hi⟩:=x.whand u
 have fi:=hi.fr f (QcQ C)
 obtain⟨pr,J,a5,b7⟩:=fi.pr
 have hl:h<s.af.length:=(gQs.mp u).1
 have b1:=o.l1
 have b4:=o.l4
 have lr:=x.lr
 have lh:=x.lh
 have lf:=hi.lf
 have mm:=(List.mem_filter.mp hm).2
 rw[QCq] at mm
 have A:(h:Int)∉held s:=by
  intro z
  have:=mm.1
  rw[Qeq z] at this
  cases this
 have nb:¬(f.room= -1/\f.row=pr.length):=by
  rintro⟨c1,c2⟩
  have hb:xW w s h=true:=by
   unfold xW Da
   rw[u]
   show(match fs.getLast? with|some f=>_|none=>_)=_
   rw[C]
   simp only[J,Option.getD_some,c1,c2,decide_true,Bool.and_true]
  rw[hb] at mm
  exact absurd mm.2 (by decide)
 have row:∀(r:Rw) (e:Option Int),Here s h f->pr[f.row.toNat]?=some r->G2 w s h r e->∃F e,t8 w s h F e/\cI w (n+1) F/\mN w F:=λr e k b N=>by
  have G:=(gQs.mp b).1
  have x2:=x.goes u C J (m:=f.row+1) (by omega) (by omega)
  have q3:mN w {s with af:=s.af.set h (vs,fs.dropLast++ [{f with row:=f.row+1}])}:=Y.quiet u (lj C rfl)
  obtain⟨F,hd,X,L⟩:=FN (f:={f with row:=f.row+1}) (r:=r) (pr:=pr) o x2 q3 A hn (Qyq hl) (by simp) J (by show 1<=f.row+1;omega) (by show pr[(f.row+1-1).toNat]?=_;rw[show f.row+1-1=f.row by omega];exact b)
  exact⟨F,e,Ct u C k J a5 b (by omega) (by omega) N hd,X,L⟩
 obtain⟨sc,a9,b0⟩:=Dp o J
 have I:∀r,pr[f.row.toNat]?=some r->∃e,G2 w s h r e:=λr b=>by
  have P:=b0 r (mQg b)
  cases r with
  | say t=>
    obtain⟨v,hv,hr⟩:=lF o x u C a9 P.2
    exact⟨some v,v,rfl,hr⟩
  |_=>exact⟨none,rfl⟩
 by_cases c:f.room= -1
 ·have G:f.row.toNat<pr.length:=by
   have:f.row≠pr.length:=λz=>nb ⟨c,z⟩
   omega
  have b:pr[f.row.toNat]?=some (pr[f.row.toNat]):=gQe G
  obtain⟨e,N⟩:=I _ b
  exact row _ e (.inl c) b N
 ·rcases jL J with⟨c',_⟩|⟨i,j,r,dn,Z,h2,h3,h4⟩
  ·exact absurd c' c
  obtain⟨B,p,ri⟩:=x.wroom h3
  have br:=ri.br
  have K:(tU s h).getLast? =some (i:Int):=by rw[jM u,QfQ,C,←Z];exact congrArg some (lu c)
  by_cases cw:B.within=h
  ·have k:Here s h f:=.inr ⟨i,B,Z,p,cw⟩
   by_cases ce:f.row=pr.length
   ·have a3:=hX C
    have hd:=hi.hd
    rw[a3] at hd
    obtain⟨H,U,hg⟩:=hd.two c
    have a6:fs=H++ [U,f]:=by rw[a3,hg];simp
    subst a6
    obtain⟨b2,a7⟩:=hi.pop
    obtain⟨b9,g,rn,b8,t,p1,p2,p3⟩:=a7
    have x2:cI w n {s with aj:=s.aj.set i (bW B),af:=s.af.set h (vs,H++ [U])}:=(x.hand hw b2).room h3 ri.leave
    have ql:=Q2.leave Y p
    have M:(h:Int)∉W28.hl s.ai (s.aj.set i (bW B)):=by
     intro z
     obtain⟨b3,e1,e2⟩:=qm (ps:=s.ai) (nr:=bW B) p
     refine A (e1.mem_iff.mpr ?_)
     rcases mQa.mp (e2.mem_iff.mp z) with z|z
     ·refine mQa.mpr (.inl ?_)
      rcases leave_held B with⟨a,W,_⟩|⟨N,_⟩
      ·exact W.mem_iff.mpr (Qpq _ z)
      ·rw[←N];exact z
     ·exact mQa.mpr (.inr z)
    have q3:mN w {s with aj:=s.aj.set i (bW B),af:=s.af.set h (vs,H++ [U])}:=by
     have eo:tU {s with aj:=s.aj.set i (bW B),af:=s.af.set h (vs,H++ [U])} h=(H++ [U]).map rc:=u6 (s:={s with aj:=s.aj.set i (bW B)}) hl
     unfold mN
     show Q2 w (s.af.set h _).length s.ai (s.aj.set i (bW B)) _
     rw[List.length_set]
     refine Q2.frames ql (h:=h) (λg hg=>vH (s:={s with aj:=s.aj.set i (bW B)}) hg) M (λj r' hj e=> ?_) ?_
     ·rw[eo]
      rcases get_set hj with⟨rfl,rfl⟩|⟨hne,hj⟩
      ·exfalso
       rcases leave_held B with⟨a,W,R⟩|⟨_,R,_⟩
       ·rw[R] at e
        refine A (gM (fr:=tU s) Y p ?_)
        rw[←e]
        exact W.mem_iff.mpr (QBq ..)
       ·rw[R] at e
        omega
      ·rcases Y.r2 j r' hj with z|⟨g',e',_,d⟩
       ·omega
       ·have:g'=h:=by omega
        subst this
        rw[jM u,show H++ [U,f]=(H++ [U])++ [f] by simp,Qzq] at d
        rcases mQa.mp d with d|d
        ·exact d
        ·have d:=Qfq.mp (show(j:Int)∈[rc f] from d)
         rw[lu c,Z] at d
         exact absurd (by omega:j=i) hne
     ·rw[eo]
      have f0:=Y.fo h hl
      rw[jM u] at f0
      cases H with
      |nil=>exact f0
      |cons a l=>exact f0
    obtain⟨b6,a2,a1⟩:=Dp o p1
    have P:=a1 _ (mQg p3)
    cases g with
    | none=>
      exact⟨_,none,yl u C k J ce λS Q q=>pQ u Z p (by omega) (by omega) p1 p2 p3 (λ_ e=>e.symm) q,x2.mono (Nat.le_succ n),q3⟩
    | some y=>
      obtain⟨F,a4,X,L⟩:=zS (y:=y) (v:=f.told) o x2 q3 (Qyq hl) (by simp) a2 (P.1 y rfl) fi.tv
      exact⟨F,none,yl u C k J ce λS Q q=>pQ u Z p (by omega) (by omega) p1 p2 p3 (λ_ e=>by rw[e];exact a4) q,X.mono (Nat.le_succ n),L⟩
   ·have G:f.row.toNat<pr.length:=by omega
    have b:pr[f.row.toNat]?=some (pr[f.row.toNat]):=gQe G
    obtain⟨e,N⟩:=I _ b
    exact row _ e k b N
  ·exact⟨_,none,B2 u C Z p cw (by omega) (by omega),(x.mono (Nat.le_succ n)).room h3 ri.come,Q2.come Y (h:=h) p hl A K⟩
end
end W28
namespace DL
open PySem PySem.Spec L2
theorem uq:∀l:List Str,An (l.map V.str) (l.map V.str)=true
 | []=>rfl
 | a::l=>by
   have:=uq l
   simp[An,lJ,this]
def zr{l:List Str}(h:l.Pairwise nz):ml l=l:=
 List.Perm.eq_of_pairwise (le:=nz) (λa b _ _ c d=>wX c d) (fZ l) h (iG l)
end DL
namespace W28
open PySem PySem.Spec L2 DL
def CM{l:List (Int×Int)}{h:Nat}:(l.filter λq=>decide (q.2=(h:Int))).length=mD (l.map (·.2)) h:=by
 induction l with
 |nil=>rfl
 | cons a l b=>
   have e:mD ((a::l).map (·.2)) h=mD (l.map (·.2)) h+if lJ (.int a.2) (.int h)=true then 1 else 0:=by
     unfold mD
     rw[QDq,QDq,List.countP_cons]
   rw[e,←b]
   by_cases c:a.2=(h:Int)
   · rw[List.filter_cons_of_pos (by simpa using c)]
     simp[lJ,c]
   · rw[List.filter_cons_of_neg (by simpa using c)]
     simp[lJ,c]
def zM{w:cZ}{s:bt}{h:Nat}{d:D}{l:List D}(t:d_ w s h=d::l):(∃p∈w.ai.zip s.ai,d=.tup [.str "pass",.str p.1.1]/\(h:Int)∈p.2.2)\/∃(i:Nat) (p:Rm×cN) (a:Str) (o:List Str),(w.aj.zip s.aj)[i]?=some p/\d=.tup ((a::p.1.name::o).map D.str)/\(a="row" \/a∈(["late","bell"]:List Str)/\(h:Int)∈Ia p.2):=by
 have j:d∈d_ w s h:=by rw[t];exact QBq ..
 have f:∀{n:Nat} {e:D},d∈List.replicate n e->d=e/\n≠0:=λb=>⟨QkQ b,λz=>by rw[z] at b;cases b⟩
 have k:∀{l:List Int},mD l h≠0->(h:Int)∈l:=λ{l} c=>Decidable.byContradiction λz=>c (fX.mpr z)
 unfold d_ at j
 rcases mQa.mp j with j|j
 ·obtain⟨p,m,b⟩:=QOq.mp j
  obtain⟨e,c⟩:=f b
  exact .inl ⟨p,m,e,k c⟩
 ·obtain⟨p,m,b⟩:=QOq.mp j
  obtain⟨i,r,e⟩:=QbQ m
  have g:(w.aj.zip s.aj)[i]?=some p:=by rw[gQe r,e]
  refine .inr ?_
  unfold jY pH at b
  rcases mQa.mp b with b|b
  ·rcases mQa.mp b with b|b
   ·obtain⟨e,c⟩:=f b
    exact⟨i,p,"row",[],g,e,.inl rfl⟩
   ·obtain⟨e,c⟩:=f b
    exact⟨i,p,"late",[],g,e,.inr ⟨by simp,mQa.mpr (.inl (k c))⟩⟩
  ·obtain⟨q,u,b⟩:=QOq.mp b
   unfold uJ at b
   obtain⟨e,c⟩:=f b
   rw[CM] at c
   exact⟨i,p,"bell",[q.1.1],g,e,.inr ⟨by simp,mQa.mpr (.inr (QOq.mpr ⟨q.2,(QeQ (show(q.1,q.2)∈_ from u)).2,k c⟩))⟩⟩
def EC(h:Nat)(p:Rm×cN):Bool:=decide (p.2.within=(h:Int))
def BD(p:Rm×cN):Str:=p.1.name
def tO(w:cZ)(s:bt)(h:Nat):List Str:=((w.aj.zip s.aj).filter (EC h)).map BD
section
variable{w:cZ}{n h:Nat}{s:bt}{S:aG}{Q:Res->aG->Prop}{vs:List Int}{fs:List cp}{f:cp}
def u4(o:d0 w){i:Nat}{r:Rm}{rs:cN}(g:w.aj[i]?=some r)(k:s.aj[i]?=some rs):r.name∈tO w s h↔rs.within=(h:Int):=by
 constructor
 ·intro z
  obtain⟨p,q,e⟩:=Qkq.mp z
  obtain⟨c,b⟩:=List.mem_filter.mp q
  obtain⟨j,m⟩:=List.getElem?_of_mem c
  obtain⟨l,d⟩:=List.getElem?_zip_eq_some.mp m
  have:i=j:=iZ o.nd (a:=r.name) (by rw[gQm,g];rfl) (by rw[gQm,l];exact congrArg some e)
  subst this
  rw[k] at d
  cases d
  exact QZq b
 ·intro z
  exact Qkq.mpr ⟨(r,rs),List.mem_filter.mpr ⟨mQg (i:=i) (List.getElem?_zip_eq_some.mpr ⟨g,k⟩),Qeq z⟩,rfl⟩
def FD(d:∀(i:Nat) (rs:cN),s.aj[i]?=some rs->rs.within≠(h:Int)):tO w s h= []:=by
 unfold tO
 rw[List.map_eq_nil_iff,List.filter_eq_nil_iff]
 intro p c z
 obtain⟨j,b⟩:=List.getElem?_of_mem c
 obtain⟨e,a⟩:=List.getElem?_zip_eq_some.mp b
 exact d j p.2 a (QZq z)
def zV:(tO w s h).Sublist (w.aj.map (·.name)):=by
 unfold tO
 have c:=(List.filter_sublist (l:=w.aj.zip s.aj) (p:=EC h)).map BD
 refine c.trans ?_
 generalize w.aj=a
 generalize s.aj=b
 induction a generalizing b with
 |nil=>exact QjQ _
 | cons x a d=>
   cases b with
   |nil=>exact List.nil_sublist _
   |cons y b=>exact(d b).cons₂ _
def AV(j:mN w s)(e:tU s h= [-1]):tO w s h= []:=FD λi b d z=>by
 rcases Q2.r2 j i b d with c|⟨g,k,_,a⟩
 ·omega
 ·have:g=h:=by omega
  subst this
  rw[e] at a
  have:=Qfq.mp a
  omega
def B5(o:d0 w)(x:cI w n s)(k:mN w s)(q:s.af[h]?=some (vs,fs))(A:fs.getLast? =some f):∃(a:Str) (g:List Str),vI w s h f=.tup ((a::g).map D.str)/\(a="row" \/(a∈(["late","bell","called"]:List Str)/\∃b t,g=b::t/\b∉tO w s h)\/(a="within" /\∃b t,g=b::t/\b∈tO w s h)\/(a∈(["out","done","pass"]:List Str)/\tO w s h= [])):=by
 unfold vI
 cases J:d_ w s h with
 | cons d l=>
   rcases zM J with⟨p,u,rfl,hm⟩|⟨i,p,a,g,u,rfl,hc⟩
   · refine⟨"pass",[p.1.1],rfl,.inr (.inr (.inr ⟨by simp,AV k (Q2.pl k p.2 (QeQ (show(p.1,p.2)∈_ from u)).2 h hm)⟩))⟩
   · obtain⟨G,y⟩:=List.getElem?_zip_eq_some.mp u
     refine⟨a,p.1.name::g,rfl,?_⟩
     rcases hc with rfl|⟨ha,hm⟩
     · exact .inl rfl
     · refine .inr (.inl ⟨?_,_,_,rfl,λz=>Q2.r5 k i p.2 y _ hm ((u4 o G y).mp z)⟩)
       simp only[Qsq,QXq,or_false] at ha⊢
       rcases ha with rfl|rfl
       · exact .inl rfl
       · exact .inr (.inl rfl)
 | nil=>
   show∃(a:Str) (g:List Str),xC w s h f=_/\_
   obtain⟨M,P,N,I⟩:=x.whand q
   have hl:=(gQs.mp q).1
   have v:=Q2.fo k h hl
   unfold xC Au
   rcases x.at q A with c|⟨i,F,r,L,C,m,H,K⟩
   · rw[Qhq c,Qhq c]
     have j:tO w s h= []:=AV k (by rw[jM q] at v⊢;exact uc I.hd A c v)
     by_cases e:f.row=(wu w h:Int)
     · rw[Qhq e]
       exact⟨"done",[],rfl,.inr (.inr (.inr ⟨by simp,j⟩))⟩
     · rw[Quq e]
       exact⟨"out",[],rfl,.inr (.inr (.inr ⟨by simp,j⟩))⟩
   · have B:¬f.room= -1:=by omega
     rw[Quq B,Quq B,H,K]
     by_cases e:r.within=(h:Int)
     · rw[Qhq e]
       exact⟨"within",[F.name],rfl,.inr (.inr (.inl ⟨rfl,_,_,rfl,(u4 o C m).mpr e⟩))⟩
     · rw[Quq e]
       exact⟨"called",[F.name],rfl,.inr (.inl ⟨by simp,_,_,rfl,λz=>e ((u4 o C m).mp z)⟩)⟩
def FZ(o:d0 w):(tO w s h).length<=4:=by
 have:=zV (w:=w) (s:=s) (h:=h).length_le
 rw[lQm] at this
 exact QAq this o.l1
def DM{l:List Str}:b_ 0 (.tup (l.map D.str))=true:=by simp only[b_];exact a8 λ_ _=>rfl
def DV(o:d0 w)(x:cI w n s)(q:Q (.d (.tup ((tO w s h).map D.str))) S):Fn vF [w.d,s.d,.int h] S Q:=by
 have g:=o.l1
 have j:=x.lr
 refine bN ?_
 unfold zD
 apply dX (fK (kb (qE (α:=Rm×cN) (λc=>∃a b,c= [a,b,some (.int h)]) (λp=>D.tup [p.1.d,p.2.d]) (λp=>.str (BD p)) (EC h) ⟨none,none,rfl⟩ (mZ ?_))))
 refine ax rfl ?_
 apply bT (ds:=w.aj.map Rm.d) ?_
 refine ax rfl ?_
 refine bT (ds:=s.aj.map cN.d) ?_
 refine⟨⟨trivial,by simp only[lQm];omega⟩,?_⟩
 refine⟨w.aj.zip s.aj,zip_map _ _ _ _,⟨trivial,trivial⟩,by rw[List.length_zip];omega,λp i c e=> ?_,?_⟩
 ·obtain⟨a,b,rfl⟩:=e
  apply dP rfl (aB (aW (aB (aW (bf ⟨rfl,⟨_,_,rfl⟩,?_⟩)))))
  apply ax (d:=.int p.2.within) rfl ?_
  apply dW ⟨rfl,rfl,λ_=> ?_⟩
  exact ax (d:=.str p.1.name) rfl ⟨rfl,rfl⟩
 ·rw[show((w.aj.zip s.aj).filter (EC h)).map (λp=>D.str (BD p))=(tO w s h).map D.str by unfold tO;rw[QPq];rfl]
  exact bV (λk z=>(nomatch z)) DM q
def E4(r:Nat×bt×Option Int):D:=.tup [.int r.1,r.2.1.d,J1 r.1 r.2.2]
def Dx(o:d0 w)(x:cI w n s)(L:mN w s)(F:n<=100)(q:∀g:List (Nat×bt×Option Int),g.length<=4->(∀r∈g,cI w (n+1) r.2.1/\mN w r.2.1)->Q (.l (g.map E4)) S):Fn iC [w.d,s.d] S Q:=by
 have G:=x.mays o F
 have H:(yI w s).length<=4:=by
  have I:=List.length_filter_le (λh:Nat=> !decide ((h:Int)∈held s)&& !xW w s h) (List.range s.af.length)
  have U:=x.lh
  have W:=o.l4
  rw[QVq] at I
  unfold yI
  omega
 refine bN ?_
 unfold kq
 refine aK (cx (dQ (dv (aP ⟨by show 0<=_;decide,?_⟩))))
 refine aK (gn (qd (kb (AU (aw (aC rfl (aw (aC rfl (aP ?_)))))))))
 refine G _ _ ?_
 refine⟨λj i t=>(∃a b c,i= [some w.d,some s.d,some (.ref S.length),a,b,c])/\pX S t/\∃g:List (Nat×bt×Option Int),g.length=j/\(∀r∈g,cI w (n+1) r.2.1/\mN w r.2.1)/\t[S.length]?=some (.lst (g.map E4)),⟨⟨_,_,_,rfl⟩,pX.refl.app,[],rfl,λ_ z=>(nomatch z),a_⟩,λ_ _ _ _=>trivial,?_,?_⟩
 ·rintro j d i t B ⟨⟨a,b,c,rfl⟩,be,g,hrl,hrs,hS⟩
  rw[gQm] at B
  obtain⟨h,k,rfl⟩:=oQm.mp B
  have X:=(gQs.mp k).1
  have k:=mQg k
  have v:h<s.af.length:=List.mem_range.mp (List.mem_filter.mp k).1
  obtain⟨⟨vs,fs⟩,C⟩:∃p,s.af[h]?=some p:=⟨_,gQe v⟩
  obtain⟨P,Y,R,K⟩:=x.whand C
  obtain⟨f,J,N⟩:=K.last
  obtain⟨M,e,u,y,A⟩:=E7 o x L F k C J
  refine aW ?_
  refine aK (Ft (cA (aw (aC rfl (aw (aC rfl (aw (aC rfl (aP ?_)))))))))
  refine zg G k u ?_
  refine dP rfl (aB (aW (aB (aW (bf ?_)))))
  refine pA (zE (aC rfl ⟨_,_,rfl,hS,?_⟩))
  refine aw (cv (aw (aC rfl (aw (aC rfl (aw (aC rfl (aP ⟨by show 3<=_;decide,aP ?_⟩))))))))
  refine⟨_,hS,mJ (by rw[lQm];exact aQ (by omega)) ?_⟩
  refine⟨⟨_,_,_,rfl⟩,be.put (Qmq _),g++ [(h,M,e)],by simp[hrl],λr m=> ?_,?_⟩
  ·rcases mQa.mp m with m|m
   ·exact hrs r m
   ·rw[Qfq.mp m];exact⟨y,A⟩
  ·rw[il hS,Qzq]
   rfl
 ·rintro i t ⟨⟨a,b,c,rfl⟩,be,g,hrl,hrs,hS⟩
  rw[lQm] at hrl
  refine dX (aC rfl ?_)
  exact DF be (Qmq _) hS (a8 λr _=>by simp only[E4,b_,bJ,Af,bt.low,Bool.and_true]) (q g (by omega) hrs)
def DQ(o:d0 w)(so:J4 w)(x:cI w n s)(q2:mN w s)(hn:n<=100)(q:Q (.d (.bl true)) S):Fn iA [w.d,s.d] S Q:=by
 have l1:=o.l1
 have l4:=o.l4
 have lr:=x.lr
 have lh:=x.lh
 refine bN ?_
 unfold kG
 apply aK (gn (jm ?_))
 refine ax rfl ?_
 refine bT (ds:=w.af.map fA) ?_
 refine⟨(w.af.length:Int),by rw[lQm],by omega,?_⟩
 refine⟨λj l B=>(∃a b c d e,l= [some w.d,some s.d,a,b,c,d,e])/\pX S B,⟨⟨_,_,_,_,_,rfl⟩,pX.refl⟩,λ_ _ _ _=>trivial,?_,?_⟩
 ·rintro h d l B v ⟨⟨a,b,c,X,e,rfl⟩,be⟩
  obtain⟨rfl,hh⟩:=dM v
  obtain⟨⟨vs,fs⟩,M⟩:∃p,s.af[h]?=some p:=⟨_,gQe (by omega)⟩
  obtain⟨ts,pr,hw,hi⟩:=x.whand M
  obtain⟨f,P,fi⟩:=hi.last
  have W:=be.len
  refine aW ?_
  refine aK (cx (dQ (dv (aP ⟨by show 0<=_;decide,?_⟩))))
  apply aK (gn (mZ ?_))
  refine ax rfl ?_
  apply bT (ds:=w.aj.map Rm.d) ?_
  refine ax rfl ?_
  refine bT (ds:=s.aj.map cN.d) ?_
  refine⟨⟨trivial,by simp only[lQm];omega⟩,?_⟩
  rw[zip_map]
  refine⟨λj l A=>(∃a b c,l= [some w.d,some s.d,some (.int h),some (.ref B.length),a,b,c])/\pX S A/\A[B.length]?=some (.lst ((((w.aj.zip s.aj).take j).filter (EC h)).map λp=>D.str (BD p))),⟨⟨_,_,_,rfl⟩,be.app,a_⟩,λ_ _ _ _=>⟨trivial,trivial⟩,?_,?_⟩
  ·rintro j d l A v ⟨⟨a,b,c,rfl⟩,be2,hS2⟩
   rw[gQm] at v
   obtain⟨p,U,rfl⟩:=oQm.mp v
   have hj:=(gQs.mp U).1
   have C:(w.aj.zip s.aj).take (j+1)=(w.aj.zip s.aj).take j++ [p]:=by rw[QYq,U];rfl
   refine dP rfl (aB (aW (aB (aW (bf ?_)))))
   apply dZ ?_
   apply ax (d:=.int p.2.within) rfl ?_
   refine dW ?_
   refine bc (λc=> ?_) (λc=> ?_)
   ·refine pA (zE (aC rfl ⟨_,_,rfl,hS2,?_⟩))
    refine aw (bX (aC rfl (dB (ax (d:=.str p.1.name) rfl (aP ?_)))))
    refine⟨_,hS2,mJ (aQ ?_) ?_⟩
    ·rw[lQm]
     refine QAq (List.length_filter_le ..) ?_
     rw[Qxq,List.length_zip]
     omega
    ·refine⟨⟨_,_,_,rfl⟩,be2.put W,?_⟩
     rw[il hS2,C,List.filter_append,Qzq,List.filter_cons_of_pos (p:=EC h) c]
     rfl
   ·refine cq ⟨⟨_,_,_,rfl⟩,be2,?_⟩
    rw[C,List.filter_append,List.filter_cons_of_neg (p:=EC h) (by rw[show EC h p=false from c];decide),List.filter_nil,List.append_nil]
    exact hS2
  rintro l A ⟨⟨a,b,c,rfl⟩,be2,hS2⟩
  rw[lQm,QEq] at hS2
  rw[show((w.aj.zip s.aj).filter (EC h)).map (λp=>D.str (BD p))=(tO w s h).map D.str by unfold tO;rw[QPq];rfl] at hS2
  have dl:=FZ (s:=s) (h:=h) o
  generalize B.length=ld at hS2 W⊢
  refine aK (dZ (HE (D7 (cA (aw (cA (aw (aC rfl (aw (aC rfl (aw (aC rfl (aP ?_)))))))))))))
  refine DV o x ?_
  refine aw (fK (ff (cK (aC rfl (bS hS2 ⟨rfl,aP ?_⟩)))))
  refine AQ 10 _ ⟨by rw[lQm];omega,λd v=>by obtain⟨z,_,rfl⟩:=Qkq.mp v;exact trivial⟩ ?_
  refine qQ ?_
  refine bc (λc=>by cases c) (λ_=>cq ?_)
  refine aK (cx (cA (aw (aC rfl (aw (aC rfl (aw (aC rfl (aP ?_)))))))))
  refine Bj o x hn M P ?_
  obtain⟨G,y,J,i⟩:=B5 o x q2 M P
  rw[J]
  have F:(tO w s h).Pairwise nz:=so.sublist zV
  have u:kh ((G::y).map D.str) 0=some (.str G):=aM (j:=0) rfl
  have Z:E (iT (aL (vP false (a0 iQ (au 6) (cF (.int 0))) (aS (aR (aq (cF (.str "bell")) (aq (cF (.str "late")) (aq (cF (.str "called")) av))))))) (aL (vP false (a0 iQ (au 6) (cF (.int 1))) (aS (au 3))))) [some w.d,some s.d,some (.int h),some (.ref ld),a,b,some (.tup ((G::y).map D.str))] A λk H=>H=A/\k=false:=by
   refine sO (cz (rP (bX (aC rfl (dB (ax u (cK (cv (aw (dB (aw (dB (aw (dB (aP ⟨by show 3<=_;decide,bT ?_⟩)))))))))))))))
   refine⟨_,_,rfl,kj ["bell","late","called"],?_⟩
   rw[nO]
   refine bc (λc=> ?_) (λc=>⟨rfl,rfl⟩)
   have g:=QZq c
   obtain⟨m,t,rfl,r⟩:∃m t,y=m::t/\m∉tO w s h:=by
    rcases i with rfl|⟨_,r⟩|⟨rfl,_⟩|⟨hpa',_⟩
    ·exact absurd g (by decide +kernel)
    ·exact r
    ·exact absurd g (by decide +kernel)
    ·simp only[Qsq,QXq,or_false] at hpa'
     rcases hpa' with rfl|rfl|rfl
     ·exact absurd g (by decide +kernel)
     ·exact absurd g (by decide +kernel)
     ·exact absurd g (by decide +kernel)
   refine cz (rP (bX (aC rfl (dB (ax (d:=.str m) (aM (j:=1) rfl) (cK (aC rfl (bS hS2 ?_))))))))
   refine⟨_,_,rfl,kj _,?_⟩
   rw[nO]
   exact⟨rfl,Qdq r⟩
  refine aK (dZ (wV (Z.mono λk H I=> ?_)))
  obtain⟨K,N⟩:=I
  subst K N
  refine bc (λc=>by cases c) (λ_=> ?_)
  refine cz (Gp (cK (aC rfl (bS hS2 (kb (C9 (cK (aC rfl (bS hS2 ⟨rfl,tO w s h,rfl,by omega,⟨rfl,rfl,hS2⟩,_,_,kj _,kj _,?_⟩)))))))))
  rw[zr F,uq]
  refine bc (λc=>by cases c) (λ_=>cq ?_)
  have Y:E (iT (aL (a0 (eP false) (a0 iQ (au 6) (cF (.int 0))) (cF (.str "within")))) (aL (vP true (a0 iQ (au 6) (cF (.int 1))) (aS (au 3))))) [some w.d,some s.d,some (.int h),some (.ref ld),a,b,some (.tup ((G::y).map D.str))] H λk R=>R=H/\k=false:=by
   refine sO (cz (bX (bX (aC rfl (dB (ax u (dB (gF ?_))))))))
   refine bc (λc=> ?_) (λc=>⟨rfl,rfl⟩)
   have g:=QZq c
   subst g
   obtain⟨m,t,rfl,r⟩:∃m t,y=m::t/\m∈tO w s h:=by
    rcases i with g|⟨g,_⟩|⟨_,r⟩|⟨g,_⟩
    ·exact absurd g (by decide +kernel)
    ·exact absurd g (by decide +kernel)
    ·exact r
    ·exact absurd g (by decide +kernel)
   refine cz (rP (bX (aC rfl (dB (ax (d:=.str m) (aM (j:=1) rfl) (cK (aC rfl (bS hS2 ?_))))))))
   refine⟨_,_,rfl,kj _,?_⟩
   rw[nO,Qeq r]
   exact⟨rfl,rfl⟩
  refine dZ (wV (Y.mono λk R I=> ?_))
  obtain⟨K,N⟩:=I
  subst K N
  refine bc (λc=>by cases c) (λ_=> ?_)
  refine sO (cz (rP (bX (aC rfl (dB (ax u (cK (cv (aw (dB (aw (dB (aw (dB (aP ⟨by show 3<=_;decide,bT ?_⟩)))))))))))))))
  refine⟨_,_,rfl,kj ["out","done","pass"],?_⟩
  rw[nO]
  have a1:∃a b c d e,[some w.d,some s.d,some (.int h),some (.ref ld),a,b,some (.tup ((G::y).map D.str))]= [some w.d,some s.d,a,b,c,d,e]:=⟨_,_,_,_,_,rfl⟩
  refine bc (λc=> ?_) (λc=> ?_)
  ·have g:=QZq c
   have L:tO w s h= []:=by
    rcases i with rfl|⟨hpa',_⟩|⟨rfl,_⟩|⟨_,r⟩
    ·exact absurd g (by decide +kernel)
    ·simp only[Qsq,QXq,or_false] at hpa'
     rcases hpa' with rfl|rfl|rfl
     ·exact absurd g (by decide +kernel)
     ·exact absurd g (by decide +kernel)
     ·exact absurd g (by decide +kernel)
    ·exact absurd g (by decide +kernel)
    ·exact r
   refine cz (AC (cK (aC rfl (bS hS2 ⟨⟨rfl,hS2⟩,?_⟩))))
   rw[L]
   refine bc (λc=>by cases c) (λ_=>cq ?_)
   exact⟨⟨_,_,_,_,_,rfl⟩,be2⟩
  ·refine bc (λc=>by cases c) (λ_=>cq ?_)
   exact⟨⟨_,_,_,_,_,rfl⟩,be2⟩
 ·rintro l B ⟨⟨a,b,c,X,e,rfl⟩,be⟩
  refine dX (dB ?_)
  exact Dc be (λk z=>(nomatch z)) rfl q
end
def Fj{b:cD}{S S0:aG}{k i u v:Nat}{xs:List D}{Q:D->aG->Prop}(n:b[u]?=some (some (.ref k)))(f:b[v]?=some (some (.ref i)))(x:Ex k S0 S)(hi:i≠k)(e:S[i]?=some (.lst xs))(o:0<xs.length)(p:xs.length<1000)
  (h:∀(d:D) (c:aG),d∈xs->Ex k S0 c->Q d c):E (a0 iQ (au v) (aA ay (aq (au u) (aq (eM (aS (au v))) av)))) b S Q:=by
 refine bX (aC f (cA (aw (aC n (aw (uj (cK (aC f (bS e (aP ?_))))))))))
 refine bE x (by show(0:Int)<xs.length;omega) (by show(xs.length:Int)<1000000;omega) λd c g j l m=> ?_
 have a:d<xs.length:=by have:(d:Int)<(xs.length:Int):=g;omega
 refine cM (l.keep _ _ hi e) (aM (gQe a)) ?_
 exact h _ _ (List.getElem_mem a) j
def Ds:∀ns:List Int,ns.length<=63->∃f,FY [.ref 0] [.frz (ns.map D.int)]=some (.d (.bl true),f):=by
 intro ns L
 suffices h:Fn FY [.ref 0] [.frz (ns.map D.int)] λr _=>r=.d (.bl true) by
  obtain⟨r,f,e,rfl⟩:=h
  exact⟨f,e⟩
 refine bN ?_
 unfold GF
 refine aK (gn ?_)
 apply jm ?_
 apply Cy rfl ?_
 refine Dd ?_
 refine i3 ?_
 obtain⟨m,Y,W⟩:∃m:Nat,(1:Int)+(if (((ns.map D.int).length:Nat):Int)<6 then(((ns.map D.int).length:Nat):Int) else 6)=(m:Int)/\m<=7:=by
  refine⟨((1:Int)+(if (((ns.map D.int).length:Nat):Int)<6 then(((ns.map D.int).length:Nat):Int) else 6)).toNat,?_,?_⟩ <;>(repeat' split) <;>omega
 refine⟨m,congrArg D.int Y,by omega,?_⟩
 refine⟨λn b f=>(∃C x F H B y,b= [some (.ref 0),C,x,F,H,B,y])/\f[0]?=some (.frz (ns.map D.int)),⟨⟨_,_,_,_,_,_,rfl⟩,rfl⟩,λ_ _ _ _=>trivial,?_,?_⟩
 ·rintro n d b S q ⟨⟨C,x,F,H,B,y,rfl⟩,hS⟩
  obtain⟨rfl,hn7⟩:=dM q
  apply aW ?_
  apply GV (by omega) hS λv u=> ?_
  have p:Ex S.length (S++ [og v u 0]) (S++ [og v u 0]):=Ex.refl a_
  have t:(S++ [og v u 0])[0]?=some (.frz (ns.map D.int)):=bq hS
  have K:0≠S.length:=by
   have:=(gQs.mp hS).1
   omega
  show Fn fF [.ref S.length] (S++ [og v u 0]) _
  generalize S.length=kp at p K⊢
  generalize S++ [og v u 0]=S1 at p t⊢
  apply B0 p λw S2 ok so x2 _ _=> ?_
  apply Dg ok ?_
  apply gn (jm ?_)
  refine⟨(40:Nat),rfl,by decide,?_⟩
  refine⟨λj b f=>(∃(s:bt) (I G:Option D),b= [some (.ref 0),some (.int n),some (.ref kp),some w.d,some s.d,I,G]/\cI w (1+j) s/\mN w s)/\Ex kp S1 f,?_,λ_ _ _ _=>trivial,?_,?_⟩
  ·exact⟨⟨bR w,_,_,rfl,B3 ok,mN.begun ok⟩,x2⟩
  ·rintro j d b f q ⟨⟨s,I,G,rfl,hinv,hq2⟩,hex⟩
   obtain⟨rfl,hj⟩:=dM (j:=40) q
   apply aW ?_
   apply DQ ok so hinv hq2 (by omega) ?_
   refine qQ ?_
   apply bc (λc=>by cases c) (λ_=>cq ?_)
   refine Dx ok hinv hq2 (by omega) λg R A=> ?_
   have X:kp<f.length:=hex.lt
   symm
   refine bS a_ ?_
   refine⟨⟨rfl,a_⟩,?_⟩
   cases g with
   | nil=>
     refine bc (λc=>by cases c) (λ_=>cq ?_)
     exact⟨⟨s,_,_,rfl,hinv.mono (by omega),hq2⟩,hex.app⟩
   | cons P g=>
     refine bc (λ_=> ?_) (λc=>by cases c)
     refine cx (bX (Fj (k:=kp) (i:=f.length) (xs:=(P::g).map E4) rfl rfl hex.app (by omega) a_ (by rw[lQm];simp) (by rw[lQm];omega) λd Z q Q=> ?_))
     obtain⟨r,M,rfl⟩:=Qkq.mp q
     obtain⟨N,U⟩:=A r M
     refine dB (ax (d:=r.2.1.d) rfl ?_)
     exact⟨⟨r.2.1,_,_,rfl,N.mono (by omega),U⟩,Q⟩
  ·rintro b f ⟨⟨s,I,G,rfl,hinv,hq2⟩,hex⟩
   exact⟨⟨_,_,_,_,_,_,rfl⟩,hex.keep _ _ K t⟩
 ·rintro b f ⟨⟨C,x,F,H,B,y,rfl⟩,hS⟩
  symm
  have hl:=(gQs.mp hS).1
  refine gR (S2:= [.frz (ns.map D.int)]) ⟨by show 1<=f.length;omega,λk o J e=> ?_⟩ ?_ (λk z=>(nomatch z)) rfl rfl
  ·have J:k<1:=J
   have:k=0:=by omega
   subst this
   rw[hS] at e
   exact .inl e
  ·cases f with
   |nil=>simp at hl
   | cons a l=>
     simp at hS
     subst hS
     rfl
end W28
open PySem PySem.W PyProof.Rows L2 DL
theorem PySem.Challenge.cw_calledroom_k39_rooms_held_holds : PySem.Challenge.rw_calledroom_k39_rooms_held.Holds := by
  w_on; o_law; k_head; (case hw => w_witness2)
  k_fill
  refine DL.JW (l := PySem.Challenge.rw_calledroom_k39_rooms_held) (k := 15) rfl rfl ⟨rfl, by decide, by decide⟩ (λw h Y => PySem.W.kIn_of Y) (λw => ?nl) ?F
  case nl => rfl
  case F =>
    intro w mg fa h KX G hmg
    refine' W28.all_mk KX G hmg ?_ ?_ ?_ ?_ ?_ ?_ ?_ ?_ ?_ ?_ ?_ ?_ ?_ ?_ ?_ ?_ ?_ ?_ ?_ ?_ ?_ ?_ ?_ ?_ ?_ ?_ ?_ ?_ ?_ ?_ ?_ ?_ ?_ ?_ ?_ ?_ ?_ ?_ ?_ ?_ ?_ ?_ ?_ ?_ ?_ ?_ ?_ ?_ ?_ ?_ ?_ ?_ ?_ ?_ ?_ ?_ ?_ ?_ ?_ ?_ ?_ ?_ ?_ ?_ ?_ ?_ ?_ ?_ ?_ ?_ ?_ ?_ ?_ ?_ ?_ ?_ ?_ ?_ ?_ ?_ ?_ ?_ ?_ ?_ ?_ W28.Ds
    any_goals first | exact DL.bg.of (by k_is) (by k_is) (by k_is) (by k_is) | k_is
