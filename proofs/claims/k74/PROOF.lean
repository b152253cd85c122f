import PyProof.Rows.All
import Wide.FinOn
import KE.KEqDict
import KE.KSortTup
import KE.KUnpack
import KE.KRevIter
import KE.KDictOf
import KE.KFromBytes
import KE.KIsAll
import PySem.Challenge.RW_calledroom_k74_worlds_written
set_option Elab.async false
set_option linter.all false
set_option maxRecDepth 100000
set_option maxHeartbeats 8000000
namespace PySem.W.Fast
def tw3929269615894448798:True:=⟨⟩
def tw6924516971659854847:True:=⟨⟩
def tw11947864141708174819:True:=⟨⟩
def tw17686305198096728152:True:=⟨⟩
def tw8290383331847942364:True:=⟨⟩
def tw17680392687144422830:True:=⟨⟩
def tw16874210834244406230:True:=⟨⟩
def tw16537932490251777759:True:=⟨⟩
def tw8233397933955187074:True:=⟨⟩
def tw2937438121213511884:True:=⟨⟩
def tw2119870857554360279:True:=⟨⟩
def tw4556511139382193188:True:=⟨⟩
def tw10214027000182828080:True:=⟨⟩
def tw437069586047413459:True:=⟨⟩
def tw246923094136471957:True:=⟨⟩
def tw4136592234772730946:True:=⟨⟩
def tw2947356431057852959:True:=⟨⟩
def tw8016486038779658637:True:=⟨⟩
def tw16125506492138127398:True:=⟨⟩
def tw14455886618138779376:True:=⟨⟩
def tw7481286739140818620:True:=⟨⟩
def tw12389505829005855477:True:=⟨⟩
def tw4077879649045231822:True:=⟨⟩
def tw14516223160825502059:True:=⟨⟩
def tw4118322253211455850:True:=⟨⟩
def tw5972209934786396965:True:=⟨⟩
def tw6229391067504452959:True:=⟨⟩
def tw15047507996377592471:True:=⟨⟩
def tw4804619384994092859:True:=⟨⟩
def tw1560418224338329105:True:=⟨⟩
def tw13655635674135386284:True:=⟨⟩
def tw11749037146122371272:True:=⟨⟩
def tw10947607403694773246:True:=⟨⟩
def tw18178369569755595496:True:=⟨⟩
def tw2388322208280393553:True:=⟨⟩
def tw4395965279965904638:True:=⟨⟩
def tw13717411549720590156:True:=⟨⟩
def tw11217134265860832247:True:=⟨⟩
def tw10038068327217527264:True:=⟨⟩
def tw14948797346832227795:True:=⟨⟩
def tw12994891400277701536:True:=⟨⟩
def tw3509433181608887322:True:=⟨⟩
def tw12804697789579406469:True:=⟨⟩
def tw339832951217667739:True:=⟨⟩
def tw10664751117398968801:True:=⟨⟩
def tw12411414887520705861:True:=⟨⟩
def tw2793109438566521285:True:=⟨⟩
def tw6042762609001945773:True:=⟨⟩
def tw16032305765319525256:True:=⟨⟩
def tw9230056494585683733:True:=⟨⟩
def tw14665203084431850795:True:=⟨⟩
def tw16769350124105113435:True:=⟨⟩
def tw11619849058668546738:True:=⟨⟩
def tw12635992241630676401:True:=⟨⟩
def tw590406412983294016:True:=⟨⟩
def tw8968810601985190521:True:=⟨⟩
def tw16166452753420369126:True:=⟨⟩
def tw11289901158953049041:True:=⟨⟩
def tw16263156705010054489:True:=⟨⟩
def tw10045483410944977686:True:=⟨⟩
def tw10780257406740182210:True:=⟨⟩
def tw15581634324206476966:True:=⟨⟩
def tw7124865685676674192:True:=⟨⟩
def tw8009150695157180701:True:=⟨⟩
def tw235580008559528517:True:=⟨⟩
def tw12789516074810770821:True:=⟨⟩
def tw13496444528700781262:True:=⟨⟩
def tw6184634855063161474:True:=⟨⟩
def tw3649408383216965798:True:=⟨⟩
def tw14906775965419725835:True:=⟨⟩
def tw4659224377137523994:True:=⟨⟩
def tw15029651144072307680:True:=⟨⟩
def tw15607077447955608749:True:=⟨⟩
def tw5311583427558653192:True:=⟨⟩
def tw4018913673048644427:True:=⟨⟩
def tw4060800244260852591:True:=⟨⟩
def tw1760560765712395499:True:=⟨⟩
def tw11208781602969774195:True:=⟨⟩
def tw12791290497053917743:True:=⟨⟩
def tw9107679392138406790:True:=⟨⟩
def tw4716549146471390912:True:=⟨⟩
def tw475696741224887603:True:=⟨⟩
def tw15903755033094888267:True:=⟨⟩
def tw13377611585938182799:True:=⟨⟩
def tw228160351079046531:True:=⟨⟩
def tw1392501126758512222:True:=⟨⟩
def tw8624188850739140631:True:=⟨⟩
def tw12617932043422356940:True:=⟨⟩
def tw5720572598273893021:True:=⟨⟩
def tw13791781407425611894:True:=⟨⟩
def tw3352225474899219968:True:=⟨⟩
def tw17961252260332422236:True:=⟨⟩
def tw10562829524143953478:True:=⟨⟩
def tw12784092624296155886:True:=⟨⟩
def tw16359595996205363841:True:=⟨⟩
def tw4266328340105550214:True:=⟨⟩
def tw13025245490028221255:True:=⟨⟩
def tw11299694972283133010:True:=⟨⟩
def tw663419075487592534:True:=⟨⟩
def tw12367768072050500781:True:=⟨⟩
def tw7447468513448671840:True:=⟨⟩
def tw860447956069771498:True:=⟨⟩
def tw6076187705633996119:True:=⟨⟩
def tw412882257872084449:True:=⟨⟩
def tw14954753534705613823:True:=⟨⟩
def tw199127988991022038:True:=⟨⟩
def tw15015909038584316179:True:=⟨⟩
def tw8366824816925367249:True:=⟨⟩
def tw10228744691488090270:True:=⟨⟩
def tw1507567627286952852:True:=⟨⟩
def tw582357137171752239:True:=⟨⟩
def tw12700538262982429224:True:=⟨⟩
def tw938750733131706251:True:=⟨⟩
def tw11616635771133087827:True:=⟨⟩
def tw15682021837926547227:True:=⟨⟩
def tw8255846802373016174:True:=⟨⟩
def tw4967688217687077842:True:=⟨⟩
def tw6998389266387508129:True:=⟨⟩
def tw11723662502935811250:True:=⟨⟩
def tw14633374706837506531:True:=⟨⟩
def tw6150738764619446537:True:=⟨⟩
def tw8184111015223971235:True:=⟨⟩
def tw15528527812427057570:True:=⟨⟩
def tw924766622396373851:True:=⟨⟩
def tw15677346502226651392:True:=⟨⟩
def tw3255074738092147469:True:=⟨⟩
def tw8059042405593054474:True:=⟨⟩
def tw8566900580239979065:True:=⟨⟩
def tw986688907688235916:True:=⟨⟩
def tw6565541730716014514:True:=⟨⟩
def tw3474969248004246902:True:=⟨⟩
def tw15236604855260744873:True:=⟨⟩
def tw15553180539105647730:True:=⟨⟩
def tw10814149970042327553:True:=⟨⟩
def tw16572436862701560579:True:=⟨⟩
def tw4013620164781085060:True:=⟨⟩
def tw3030308381840735769:True:=⟨⟩
def tw6886307140073060028:True:=⟨⟩
def tw8273807207404697416:True:=⟨⟩
def tw8806868353838129919:True:=⟨⟩
def tw17933998472533867038:True:=⟨⟩
def tw2879634922026852897:True:=⟨⟩
def tw15751449103332995358:True:=⟨⟩
def tw16840694174783293020:True:=⟨⟩
def tw9340775676316033424:True:=⟨⟩
def tw15807238906221258619:True:=⟨⟩
def tw10312690064520917902:True:=⟨⟩
def tw5668101838538920021:True:=⟨⟩
def tw13759664599193133642:True:=⟨⟩
def tw11054605145621726261:True:=⟨⟩
end PySem.W.Fast
set_option bootstrap.genMatcherCode false
set_option genSizeOf false
def ab(h:True:=by first|exact .inl L|exact .inr L|assumption):=h
def ac(h:True:=by decide):=h
def ad(h:True:=by rfl):=h
def ae(h:True:=by intro _;rfl):=h
def af(h:True:=by first|exact Or.inl L|exact Or.inr (Or.inl L)|exact Or.inr (Or.inr L)):=h
def ag(h:True:=by intro _ _;rfl):=h
def ah(h:True:=by first|exact Or.inl L|exact Or.inr L):=h
def ai(h:True:=by decide +kernel):=h
def aj(h:True:=by first|decide|omega):=h
def ak(h:True:=by repeat (first|exact vx|refine tp ?_)):=h
def al(h:True:=by (repeat intro a);rfl):=h
def am(h:True:=by exact#[by rfl,by rfl,by rfl,by rfl]):=h
def ao(h:True:=by intro z;cases z):=h
set_option compiler.extract_closed false
open Lean in
def x5(s:String)(q:List Syntax:=[]):Syntax:=((s.splitOn " ").foldl (λ(st:List Syntax) t=>
 let n (k:Name) (a:List Syntax):Syntax:=.node .none k a.toArray
 let S (x:Syntax):=n `Lean.Parser.Tactic.tacticSeq [n `Lean.Parser.Tactic.tacticSeq1Indented [n `null [x]]]
 let c:=t.front
 let r:=(t.drop 1).toString
 if c='\'' then mkAtom r::st else if c='$' then (mkIdent r.toName).raw::st else if c='S' then S st.head!::st.tail! else if c='G' then n `group [mkAtom "|",S st.head!]::st.tail! else
 if c='%' then q[r.toNat!]!::st else if c='H' then n `Lean.Parser.Term.hole [mkAtom "_"]::st else if c='Y' then n `Lean.Parser.Term.syntheticHole [mkAtom "?",mkAtom "_"]::st else
 let p:=r.splitOn ","
 let m:=p.head!.toNat!
 n (((",".intercalate p.tail!).splitOn ".").foldl .str (if c='T' then `Lean.Parser.Tactic else if c='E' then `Lean.Parser.Term else .anonymous)) (st.take m).reverse::st.drop m) []).head!
def t1{a}:Lean.MacroM a:=Lean.Macro.throwUnsupported
def t2(s:Lean.Syntax)(n:Nat):Lean.MacroM Lean.Syntax:=match s[1].isNatLit? with|some k=>if k<n then pure<|s.setArg 1 (Lean.Syntax.mkNumLit (toString (k+1))) else t1|none=>t1
def t0(s:String):String:=("@set_option§?efine $§<T2,§9 A§8 S E2,byTactic§/simp&A0!'only A1!§- S+) T3,paren+;+r§+ '§*!E2,app T2,refine §& A0!T1,optConfig §#!T1,tacticSeq1Indented T1,tacticSeq ') T3,paren G §!,null ".splitOn "§").foldl (λs t=>s.replace (t.take 1).toString (t.drop 1).toString) s
abbrev t3:=t0 "'@ $tactic.hygienic90!'false+in+obtain "
abbrev q0:=t0 "91!A0!':= %091!A2!T4,obtain S T6,@"
abbrev Z0:=t0 "'first+(+r?_root_.x0+fun $v0 $v492!A0!'=> Y E4,basicFun E2,fun91*';+( "
abbrev Z1:=t0 "-?v4 Y91*';+clear $v4 $v092!<clear97#"
abbrev Z2:=t0 "'/'[ %0+]93!%1 T6,simp"
abbrev Z3:=t0 "'by+omega&<omega8"
abbrev Z4:=t0 "'by+decide&<decide8"
abbrev Z5:=t0 "'first+(+(+with_reducible+r?DL.di+( $d+:= Y+) E5,namedArgument Y Y93*S <withReducible-otate_left90!<rotateLeft+;+rfl T1,tacticRfl95#'d/A0!A0!T6,dsimp G92!<first"
def pQ9:Nat->Lean.Syntax->String
 |0,_=>""
 |n+1,s=>if s.isIdent then "$"++toString s.getId++" T1,rcasesPat.one A1,null T1,rcasesPatMed" else if s.getNumArgs=3 then let l:=s[1].getSepArgs.toList.map (pQ9 n)
  "'⟨ "++" A0,null T2,rcasesPatLo ', ".intercalate l++" A0,null T2,rcasesPatLo A"++toString (2*l.length-1)++",null '⟩ T3,rcasesPat.tuple A1,null T1,rcasesPatMed" else "'_ T1,rcasesPat.ignore A1,null T1,rcasesPatMed"
theorem x0{P:Prop}(h:∀G:Prop,(P->G)->G):P:=h P id
local macro_rules(kind:=Lean.Parser.Tactic.tacticLet__)|s=>do
 let d:=s[2][0]
 if d[0][0].getAtomVal=="#[" then
  let o:=t3++pQ9 9 d[0]++q0
  pure<|x5 (if d[0][1].getNumArgs<7 then o else Z0++o++Z1++o++" G A2,null T2,first") [d[4]]
 else if d[0].getNumArgs=1&&d[1].getNumArgs=0&&d[2].getNumArgs=0 then pure<|.node .none `Lean.Parser.Tactic.tacticHave__ #[Lean.mkAtom "have",s[1],s[2]] else t1
local macro_rules|`(#[$a,*])=>`(⟨$a,*⟩)
local macro_rules(kind:=Lean.Parser.Term.fun)|s=>do
 let d:=s[1]
 let h:=λx:Lean.Syntax=>x.isOfKind `Lean.Parser.Term.hole
 if d.getNumArgs=4&&d[1].getNumArgs=0&&d[0].getArgs.any h then pure<|s.setArg 1<|d.setArg 0<|.node .none `null<|d[0].getArgs.map λx=>if h x then Lean.mkIdent `y3 else x else t1
local macro_rules(kind:=Lean.Parser.Tactic.tacticErw___)|s=>pure<|x5 Z2 [.node .none `null<|s[2][1].getArgs.map λr=>if r.getNumArgs=2 then x5 "A0,null %0 %1 T3,simpLemma" [r[0],r[1]] else r,s[3]]
local macro_rules(kind:=«term!_»)|s=>match s[1].isNatLit? with
 |some 0=>pure<|x5 Z3
 |some 1=>pure<|x5 Z4
 |_=>t1
open PySem PySem.Spec
abbrev X0:=Value->Shared->Prop
abbrev X1:=PySem.W.Frag
abbrev X2:=List (Addr×Obj)
abbrev X3:=Str->Option Value
abbrev X4:=Shared
abbrev X5:=List Value
abbrev X6:=List Str
abbrev X7:=List Addr
abbrev X8:=Addr
abbrev X9:=Program
abbrev X_:=Around
abbrev Xa:=Array Value
abbrev Xb:=Option Int
abbrev Xc:=World
abbrev Xd:=Value
abbrev Xe:=Heap
abbrev Xf:=Bool->Shared->Prop
abbrev L{α:Sort u}{a:α}:a=a:=rfl
noncomputable section
local macro_rules|`(tactic|omega)=>`(tactic|lia)
abbrev gQm:=@List.getElem?_map
abbrev lQm:=@List.length_map
abbrev mQg:=@List.mem_of_getElem?
abbrev oQm:=@Option.map_eq_some_iff
abbrev gQe:=@List.getElem?_eq_getElem
abbrev gQs:=@List.getElem?_eq_some_iff
abbrev lQa:=@List.length_append
abbrev nQl:=@Nat.le_of_lt
abbrev mQa:=@List.mem_append
abbrev Qaq:=@PySem.wpAny_bind
abbrev Qbq:=@Option.bind_some
abbrev Qcq:=@PySem.Heap.get?_push_of_some
abbrev Qdq:=@decide_eq_false
abbrev Qeq:=@decide_eq_true
abbrev Qfq:=@List.mem_singleton
abbrev Qgq:=@PySem.wpAny_pure
abbrev Qhq:=@if_pos
abbrev Qiq:=@PySem.Heap.lt_size
abbrev Qjq:=@List.size_toArray
abbrev Qkq:=@List.mem_map
abbrev Qlq:=@List.getD_eq_getElem?_getD
abbrev Qmq:=@Nat.le_refl
abbrev Qnq:=@List.length_cons
abbrev Qoq:=@List.mem_append_right
abbrev Qpq:=@List.mem_cons_of_mem
abbrev Qqq:=@Nat.lt_of_lt_of_le
abbrev Qrq:=@PySem.Heap.get?_push_size
abbrev Qsq:=@List.mem_cons
abbrev Qtq:=@Bool.false_ne_true
abbrev Quq:=@if_neg
abbrev Qvq:=@List.append_assoc
abbrev Qwq:=@Nat.ne_of_lt
abbrev Qxq:=@List.length_take
abbrev Qyq:=@List.getElem?_set_self
abbrev Qzq:=@List.map_append
abbrev QAq:=@Nat.le_trans
abbrev QBq:=@List.mem_cons_self
abbrev QCq:=@Bool.and_eq_true
abbrev QDq:=@List.map_cons
abbrev QEq:=@List.take_length
abbrev QFq:=@PySem.W.mg_none_of
abbrev QGq:=@List.length_nil
abbrev QHq:=@List.getElem?_append_left
abbrev QIq:=@List.length_replicate
abbrev QJq:=@List.Perm.append_right
abbrev QKq:=@List.getElem?_set_ne
abbrev QLq:=@PySem.wpAny_holding
abbrev QMq:=@PySem.wpAny_field
abbrev QNq:=@List.replicate_succ
abbrev QOq:=@List.mem_flatMap
abbrev QPq:=@List.map_map
abbrev QQq:=@List.getElem?_append_right
abbrev QRq:=@PySem.wpAny_mono
abbrev QSq:=@List.flatMap_cons
abbrev QTq:=@List.mem_or_eq_of_mem_set
abbrev QUq:=@List.all_eq_true
abbrev QVq:=@List.length_range
abbrev QWq:=@List.drop_eq_getElem_cons
abbrev QXq:=@List.not_mem_nil
abbrev QYq:=@List.take_add_one
abbrev QZq:=@of_decide_eq_true
abbrev QaQ:=@of_decide_eq_false
abbrev QbQ:=@List.getElem_of_mem
abbrev QcQ:=@List.mem_of_getLast?
abbrev QdQ:=@Option.some.inj
abbrev QeQ:=@List.of_mem_zip
abbrev QfQ:=@List.getLast?_map
abbrev QgQ:=@PySem.wpAny_ite_false
abbrev QhQ:=@PySem.wpAny_newObj_type
abbrev QiQ:=@PySem.wpAny_callSpecial?_slot
abbrev QjQ:=@List.Sublist.refl
abbrev QkQ:=@List.eq_of_mem_replicate
abbrev QlQ:=@List.map_replicate
namespace L2
open PySem PySem.Spec PyProof.Rows
abbrev Key:=Sum Int Str
def m_:Key->Value->Bool
 |.inl k,v=>Value.isInt k v
 |.inr x,v=>Value.isStrOf x v
def Di(w:Xc):Key->Int
 |.inl k=>hashInt k
 |.inr x=>hashStr w x
def cg:∀{k:Key} {v:Xd},m_ k v=true->(∃i t,k=Sum.inl i/\v=Value.int i t)\/(∃x t,k=Sum.inr x/\v=Value.str x t)
 | .inl i,v,h=>by
   let#[t,e]:=Value.isInt_shape (k:=i) (v:=v) h
   exact .inl #[i,t,L,e]
 | .inr x,v,h=>by
   let#[t,e]:=Value.isStrOf_shape (x:=x) (v:=v) h
   exact .inr #[x,t,L,e]
def uh(i:Int)(t:Tok):m_ (.inl i) (.int i t)=true:=by simp[m_,Value.isInt]
def jN(x:Str)(t:Tok):m_ (.inr x) (.str x t)=true:=by simp[m_,Value.isStrOf]
def zM(a b:Int):decide ((Sum.inl a:Key)=Sum.inl b)=(a==b):=by
 by_cases e:a=b
 ·subst e;simp
 ·have h:¬(Sum.inl a:Key)=Sum.inl b:=λq=>e (Sum.inl.inj q)
  rw[Qdq h]
  exact(beq_eq_false_iff_ne.mpr e).symm
def Au(a b:Str):decide ((Sum.inr a:Key)=Sum.inr b)=decide (a=b):=by
 by_cases e:a=b
 ·subst e;simp
 ·have h:¬(Sum.inr a:Key)=Sum.inr b:=λq=>e (Sum.inr.inj q)
  rw[Qdq h,Qdq e]
def zu(a:Int)(b:Str):decide ((Sum.inl a:Key)=Sum.inr b)=false:=Qdq (λq=>nomatch q)
def zq(a:Str)(b:Int):decide ((Sum.inr a:Key)=Sum.inl b)=false:=Qdq (λq=>nomatch q)
def bD(prog:X9)(w:Xc):PySem.KeyKind prog w Key where
 is:=m_
 hash:=Di w
 inj:=λv a b g f=>by
  rcases cg g with⟨i,t,rfl,rfl⟩|⟨x,t,rfl,rfl⟩
  ·rcases cg f with⟨j,u,rfl,e⟩|⟨y,u,rfl,e⟩
   ·injection e with c _;rw[c]
   ·exact nomatch e
  ·rcases cg f with⟨j,u,rfl,e⟩|⟨y,u,rfl,e⟩
   ·exact nomatch e
   ·injection e with c _;rw[c]
 byValue:=λk v h=>by
  rcases cg h with⟨i,t,rfl,rfl⟩|⟨x,t,rfl,rfl⟩ <;>rfl
 pyHash:=λd h=>by
  rcases cg d with⟨i,t,rfl,rfl⟩|⟨x,t,rfl,rfl⟩
  ·exact wpAny_pyHash_int h
  ·exact wpAny_pyHash_str h
 eqBool:=λl d h=>by
  rcases cg l with⟨i,t,rfl,rfl⟩|⟨x,t,rfl,rfl⟩
  ·rcases cg d with⟨j,u,rfl,rfl⟩|⟨y,u,rfl,rfl⟩
   ·rw[zM] at h;exact wpAny_eqBool_int h
   ·rw[zu] at h;exact SeqAt.EqAt.int_str i t y u _ _ _ _ h
  ·rcases cg d with⟨j,u,rfl,rfl⟩|⟨y,u,rfl,rfl⟩
   ·rw[zq] at h;exact SeqAt.EqAt.str_int x t j u _ _ _ _ h
   ·rw[Au] at h;exact wpAny_eqBool_str h
 «strs»:=λk x t v h=>by
  rcases cg h with⟨i,u,rfl,e⟩|⟨y,u,rfl,e⟩
  ·exact nomatch e
  ·injection e with c _
   subst c
   cases v <;>rfl
def qX(prog:X9)(w:Xc)(i:Int)(t:Tok):(bD prog w).is (.inl i) (.int i t)=true:=uh i t
def qS(prog:X9)(w:Xc)(x:Str)(t:Tok):(bD prog w).is (.inr x) (.str x t)=true:=jN x t
inductive V where
 |non|bl (b:Bool)|int (i:Int)|str (x:Str)|byt (b:Array UInt8)|flt (b:UInt64)|ref (a:X8)|ty (n:String)
 deriving DecidableEq
def RelV:V->Value->Prop
 |.non,u=>u=Value.none
 |.bl b,u=>u=Value.bool b
 |.int i,u=>∃t,u=Value.int i t
 |.str x,u=>∃t,u=Value.str x t
 |.byt b,u=>∃t,u=Value.bytes b t
 |.flt b,u=>∃t,u=Value.float b t
 |.ref a,u=>u=Value.ref a
 |.ty n,u=>u=Value.type n
abbrev aU:List V->List Value->Prop:=Paired RelV
def aU.length{xs:List V}{a:X5}(r:aU xs a):xs.length=a.length:=Paired.length r
theorem aU.get:∀{xs:List V} {a:X5} {i:Nat} {x:V},aU xs a->xs[i]?=some x->∃u,a[i]?=some u/\RelV x u
 |_,_,_,_,.nil,e=>by simp at e
 |_,_,0,_,.cons r _,e=>by simp at e;subst e;exact#[_,L,r]
 | _,_,i+1,x,.cons _ t,e=>by
   let#[u,b,c]:=aU.get (i:=i) (x:=x) t (by simpa using e)
   exact#[u,by simpa using b,c]
theorem aU.set{x:V}{u:Xd}(r:RelV x u):∀{xs:List V} {a:X5} (i:Nat),aU xs a->aU (xs.set i x) (a.set i u)
 |_,_,_,.nil=>.nil
 |_,_,0,.cons _ t=>.cons r t
 |_,_,i+1,.cons q t=>.cons q (aU.set r i t)
theorem aU.append:∀{xs ys:List V} {a ws:X5},aU xs a->aU ys ws->aU (xs++ys) (a++ws)
 |_,_,_,_,.nil,s=>s
 |_,_,_,_,.cons r t,s=>.cons r (aU.append t s)
theorem aU.take:∀{xs:List V} {a:X5} (n:Nat),aU xs a->aU (xs.take n) (a.take n)
 |_,_,0,_=>.nil
 |_,_,_+1,.nil=>.nil
 |_,_,n+1,.cons r t=>.cons r (aU.take n t)
theorem aU.drop:∀{xs:List V} {a:X5} (n:Nat),aU xs a->aU (xs.drop n) (a.drop n)
 |_,_,0,r=>r
 |_,_,_+1,.nil=>.nil
 |_,_,n+1,.cons _ t=>aU.drop n t
def lL:Option V->Option Value->Prop
 |some v,some u=>RelV v u
 |none,none=>True
 |_,_=>False
def KV{a:Type}:List (a×V)->List (a×Value)->Prop:=Paired λ(p:a×V) (q:a×Value)=>p.1=q.1/\RelV p.2 q.2
def kV:Key->V
 |.inl i=>.int i
 |.inr x=>.str x
inductive HO where
 |lst (xs:List V)
 |tup (xs:List V)
 |dK (kvs:List (Key×V))|dT (kvs:List (List Key×V))
 |set (S:Int->Bool) (n:Nat)
 |ins (C dx:X8) (fs:List (Str×V))
 |own (x:X8)
 |xd (fs:List (Str×V))
 |met (f x:X8)
 |rng (lo hi:Int)
 |frz (o:Obj) (u:HO)
 |tbl (ps:Xa)
 |ext (φ:Heap->Prop)
abbrev Hp:=Addr->Option HO
def upd(H:Hp)(a:X8)(o:HO):Hp:=λb=>if b=a then some o else H b
def bj{H:Hp}{a:X8}{o:HO}:upd H a o a=some o:=by unfold upd;rw[Qhq L]
def aQ{H:Hp}{a b:X8}{o:HO}(h:b≠a):upd H a o b=H b:=by unfold upd;rw[Quq h]
def yU{H:Hp}{a b:X8}{o u:HO}(h:H a=some o)(h':H b=some u)(d:o≠u):a≠b:=by
 intro e;subst e;rw[h] at h';exact d (QdQ h')
def dX{H:Hp}{a b:X8}{o:HO}(h:H a=some o)(h':H b=none):a≠b:=by
 intro e;subst e;rw[h] at h';cases h'
def p8(h:Xe)(a:X8)(items:Xa):Prop:=∃o,h.get? a=some o/\o.cls=.type "tuple" /\o.dict=none/\∃n,o.data=.seq items n
def p8.it{h:Xe}{a:X8}{items:Xa}(x:p8 h a items):IsTup h a items:=by
 let#[o,e,c,_,d]:=x
 exact#[o,e,c,d]
def p8.new(h:Xe)(items:Xa):p8 (h.push {cls:=.type "tuple",data:=.seq items}) h.objs.size items:=#[_,Qrq _ L,L,L,_,L]
section
variable(P:X9)(w:Xc)
def cm(H:Hp)(h:Xe)(a:X8):HO->Prop
 |.lst d=>d.length<=sizeLine/\∃(c:X5) (n:Nat),aU d c/\h.get? a=some {cls:=.type "list",data:=.seq c.toArray n}
 |.tup d=>d.length<=sizeLine/\∃c:List Value,aU d c/\p8 h a c.toArray
 |.dK b=>b.length<=sizeLine/\(a==sysModules)=false/\∃r,KV b r/\h.DictOf (bD P w) a r
 |.dT b=>b.length<=sizeLine/\(a==sysModules)=false/\∃d:List (List Key×Addr×Value),
   Paired (λ(p:List Key×V) (q:List Key×Addr×Value)=>p.1=q.1/\H q.2.1=some (.tup (p.1.map kV))/\RelV p.2 q.2.2) b d∧
   ∃o l A,h.get? a=some o/\o.ExactDict/\o.data=.dict l A/\l.toList=d.map (entryOfKey (tupleKind (bD P w)))/\(d.map (·.1)).Nodup
 |.set S n=>h.SetOf (intKind P w) a S n
 |.ins C i g=>H i=some (.own a)/\g.length<=1000/\i≠a/\h.get? a=some (PySem.W.instObj C i)∧
   ∃e,h.Ns1 i e/\(∀f,lL (g.lookup f) (e f))/\PySem.Within e (g.map (·.1))
 |.own _=>∃o,h.get? a=some o
 |.xd g=>∃e,h.Ns1 a e/\∀f,lL (g.lookup f) (e f)
 |.rng s z=>∃t u v,h.get? a=some {cls:=.type "range",data:=.fields (List.toArray [.int s t,.int z u,.int 1 v])}
 |.frz o u=>h.get? a=some o/\cm H h a u
 |.tbl y=>h.get? a=some {cls:=.none,data:=.fields y}
 |.met f x=>h.get? a=some (PySem.W.methodObj (.ref f) (.ref x))
 |.ext j=>j h/\(∃o,h.get? a=some o)/\∀k m:Heap,j k->(∀o,k.get? a=some o->m.get? a=some o)->j m
def jz(H:Hp)(h:Xe):Prop:=∀a o,H a=some o->cm P w H h a o
end
section
variable{P:X9}{w:Xc}{H H':Hp}{h h':Xe}{a:X8}{o:HO}
theorem cm.lt(x:cm P w H h a o):a<h.objs.size:=by
 cases o with
 |lst d=>let#[_,_,_,_,e]:=x;exact Qiq e
 |tup d=>let#[_,_,_,p]:=x;exact p.it.lt
 |dK b=>let#[_,_,_,_,o,_,_,e,_]:=x;exact Qiq e
 |dT b=>let#[_,_,_,_,o,_,_,e,_]:=x;exact Qiq e
 |set S n=>let#[o,_,_,_,e,_]:=x;exact Qiq e
 |ins C g c=>let#[_,_,_,e,_]:=x;exact Qiq e
 |own y=>let#[_,e]:=x;exact Qiq e
 |xd c=>let#[_,#[_,_,_,e,_],_]:=x;exact Qiq e
 |rng i k=>let#[_,_,_,e]:=x;exact Qiq e
 |frz l u=>let#[e,_]:=x;exact Qiq e
 |tbl j=>exact Qiq (show h.get? a=some _ from x)
 |met f y=>exact Qiq (show h.get? a=some _ from x)
 |ext m=>let#[_,#[_,e],_]:=x;exact Qiq e
theorem Paired.mapP{α e:Type}{F G:α->e->Prop}:∀{d:List α} {c:List e},Paired F d c->(∀a b,F a b->G a b)->Paired G d c
 |_,_,.nil,_=>.nil
 |_,_,.cons r t,f=>.cons (f _ _ r) (Paired.mapP t f)
def cm.stay(x:cm P w H h a o)(k:∀b u,(b=a\/H b=some (.own a))->h.get? b=some u->h'.get? b=some u)
  (I:∀b,H b=some (.own a)->H' b=some (.own a)) (ht:∀b xs,H b=some (.tup xs)->H' b=some (.tup xs)):cm P w H' h' a o:=by
 induction o with
 |lst xs=>let#[z,l,n,r,e]:=x;exact#[z,l,n,r,k _ _ (.inl L) e]
 |tup xs=>let#[z,l,r,g,e,c]:=x;exact#[z,l,r,g,k _ _ (.inl L) e,c]
 |dK s=>let#[z,y,N,r,g,i,j,e,c]:=x;exact#[z,y,N,r,g,i,j,k _ _ (.inl L) e,c]
 | dT s=>
   let#[z,y,xs,r,g,i,j,e,c]:=x
   exact#[z,y,xs,Paired.mapP r λp q z=>#[z.1,ht _ _ z.2.1,z.2.2],g,i,j,k _ _ (.inl L) e,c]
 |set S n=>let#[g,i,j,t,e,c]:=x;exact#[g,i,j,t,k _ _ (.inl L) e,c]
 | ins C Q M=>
   let#[d,z,ne,e,m,#[A,i,j,J,c],r]:=x
   exact#[I _ d,z,ne,k _ _ (.inl L) e,m,#[A,i,j,k _ _ (.inr d) J,c],r]
 |own y=>let#[g,e]:=x;exact#[g,k _ _ (.inl L) e]
 |xd M=>let#[m,#[A,i,j,e,c],r]:=x;exact#[m,#[A,i,j,k _ _ (.inl L) e,c],r]
 |rng R U=>let#[t,u,v,e]:=x;exact#[t,u,v,k _ _ (.inl L) e]
 |frz g u K=>let#[e,q]:=x;exact#[k _ _ (.inl L) e,K q]
 | tbl F=>
   have e:h.get? a=some {cls:=.none,data:=.fields F}:=x
   show h'.get? a=some {cls:=.none,data:=.fields F}
   exact k a _ (.inl L) e
 | met f y=>
   have e:h.get? a=some (PySem.W.methodObj (.ref f) (.ref y)):=x
   show h'.get? a=some (PySem.W.methodObj (.ref f) (.ref y))
   exact k a _ (.inl L) e
 |ext X=>let#[p,#[o,e],B]:=x;exact#[B _ _ p λo q=>k _ _ (.inl L) q,#[o,k _ _ (.inl L) e],B]
def jz.lt(x:jz P w H h)(e:H a=some o):a<h.objs.size:=(x a o e).lt
def jz.fresh(x:jz P w H h)(e:h.objs.size<=a):H a=none:=by
 cases q:H a with
 |none=>rfl
 |some u=>exact absurd (Qqq (x.lt q) e) (Nat.lt_irrefl _)
def jz.kept(x:jz P w H h)(k:∀b u,h.get? b=some u->h'.get? b=some u):jz P w H h':=λa o e=>
 (x a o e).stay (λb u _ q=>k b u q) (λ_ q=>q) λ_ _ q=>q
def jz.laid(x:jz P w H h)(k:∀b u,h.get? b=some u->h'.get? b=some u)(g:h.objs.size<=a)(new:cm P w (upd H a o) h' a o):jz P w (upd H a o) h':=λb u e=>by
 let f:=x.fresh g
 by_cases d:b=a
 ·subst d;rw[bj] at e;cases e;exact new
 ·rw[aQ d] at e
  exact(x b u e).stay (λc v _ q=>k c v q) (λc q=>by rw[aQ (dX q f)];exact q) λc i q=>by rw[aQ (dX q f)];exact q
end
def Rd(H:Hp)(a:X8)(u:HO):Prop:=H a=some u\/∃o,H a=some (.frz o u)
def Rd.ok{P:X9}{w:Xc}{H:Hp}{h:Xe}{a:X8}{u:HO}(r:Rd H a u)(x:jz P w H h):cm P w H h a u:=by
 rcases r with r|⟨o,r⟩
 ·exact x a u r
 ·let#[_,q]:=x a _ r
  exact q
def Bp:Option HO->Prop
 |some (.lst _)=>True
 |some (.dK _)=>True
 |some (.dT _)=>True
 |some (.set _ _)=>True
 |some (.ins _ _ _)=>True
 |some (.ext _)=>True
 |_=>False
section
variable{P:X9}{w:Xc}{H:Hp}{h h':Xe}{x e:X8}{o':HO}
def jz.write(ok:jz P w H h)(i:Bp (H x))(he:e=x\/H e=some (.own x))(k:∀b u,b≠e->h.get? b=some u->h'.get? b=some u)(m:∃u,h'.get? e=some u)
  (new:cm P w (upd H x o') h' x o'):jz P w (upd H x o') h':=λb u q=>by
 have d:∀c y,H c=some (.own y)->c≠x:=λc y r z=>by subst z;rw[r] at i;exact i
 have f:∀c l,H c=some (.tup l)->c≠x:=λc l r z=>by subst z;rw[r] at i;exact i
 by_cases j:b=x
 ·subst j;rw[bj] at q;cases q;exact new
 ·rw[aQ j] at q
  by_cases a:b=e
  ·have n:H b=some (.own x):=by
    rcases he with z|z
    ·exact absurd (a.trans z) j
    ·rw[a];exact z
   rw[q] at n;cases n
   let#[v,o]:=m
   exact#[v,by rw[a];exact o]
  ·refine(ok b u q).stay (λc v g r=>k c v ?_ r) (λc r=>by rw[aQ (d c b r)];exact r) λc l r=>by rw[aQ (f c l r)];exact r
   rcases g with rfl|g
   ·exact a
   ·rintro rfl
    rcases he with z|z
    ·exact d c b g z
    ·rw[g] at z;cases z;exact j L
end
structure Un(fs ex:X7)(H H':Hp)(h h':Xe):Prop where
 keep:∀b o,h.get? b=some o->H b=none->b∉fs->b∉ex->h'.get? b=some o
 slot:∀b o,h.get? b=some o->H b=none->b∈fs->b∉ex->∃sl,h'.get? b=some {o with slots:=sl}
 free:∀b o,h.get? b=some o->H b=none->b∉ex->H' b=none
 there:∀b o,h.get? b=some o->b∉ex->∃o',h'.get? b=some o'
 tups:∀b xs,H b=some (.tup xs)->H' b=some (.tup xs)
 frzs:∀b o u,H b=some (.frz o u)->H' b=some (.frz o u)
 tbls:∀b ps,H b=some (.tbl ps)->∃more,H' b=some (.tbl (ps++more))
section
variable{fs fs' ex ex':X7}{H H1 H2:Hp}{h h1 h2 h':Xe}{a x e:X8}{o:HO}
def Un.any(u:Un fs ex H H1 h h1){b:X8}{c:Obj}(q:h.get? b=some c)(n:H b=none)(f:b∉ex):∃sl,h1.get? b=some {c with slots:=sl}:=by
 by_cases d:b∈fs
 ·exact u.slot b c q n d f
 ·exact#[c.slots,u.keep b c q n d f]
def Un.kept(k:∀b u,h.get? b=some u->h'.get? b=some u):Un fs ex H H h h':=
 #[λb c q _ _ _=>k b c q,λb c q _ _ _=>#[c.slots,k b c q],λ_ _ _ n _=>n,λb c q _=>#[c,k b c q],λ_ _ q=>q,λ_ _ _ q=>q,λ_ d q=>#[(List.toArray []),by rw[q];simp]]
def Un.refl:Un fs ex H H h h:=Un.kept λ_ _ q=>q
def Un.laid(k:∀b u,h.get? b=some u->h'.get? b=some u)(f:h.objs.size<=a)(c:H a=none):Un fs ex H (upd H a o) h h' where
 keep:=λb u q _ _ _=>k b u q
 slot:=λb u q _ _ _=>#[u.slots,k b u q]
 free:=λb u q n _=>by rw[aQ (Qwq (Qqq (Qiq q) f))];exact n
 there:=λb u q _=>#[u,k b u q]
 tups:=λb d q=>by rw[aQ (dX q c)];exact q
 frzs:=λb u d q=>by rw[aQ (dX q c)];exact q
 tbls:=λb g q=>#[(List.toArray []),by rw[aQ (dX q c),q];simp]
def Un.write(d:Bp (H x))(he:e=x\/H e=some (.own x))(k:∀b u,b≠e->h.get? b=some u->h'.get? b=some u)(f:∃u,h'.get? e=some u):Un fs ex H (upd H x o) h h':=by
 have j:∀b,H b=none->b≠x:=λb n z=>by subst z;rw[n] at d;exact d
 have i:∀b,H b=none->b≠e:=λb n z=>by
  subst z
  rcases he with r|r
  ·exact j b n r
  ·rw[n] at r;cases r
 have g:∀b u,H b=some u->¬Bp (some u)->b≠x:=λb u q nm z=>by subst z;rw[q] at d;exact nm d
 refine⟨λb u q n _ _=>k b u (i b n) q,λb u q n _ _=>⟨u.slots,k b u (i b n) q⟩,λb u q n _=>by rw[aQ (j b n)];exact n,λb u q _=>?_,
  λb l q=>by rw[aQ (g b _ q λz=>z)];exact q,λb u l q=>by rw[aQ (g b _ q λz=>z)];exact q,λb m q=>#[(List.toArray []),by rw[aQ (g b _ q λz=>z),q];simp]⟩
 by_cases c:b=e
 ·subst c;exact f
 ·exact#[u,k b u c q]
end
def Da(h:Xe)(H:Hp):List Addr:=(List.range h.objs.size).filter λa=>(H a).isSome
def oI(h:Xe)(H:Hp):Heap:=PySem.W.hideAll h (Da h H)
def uM(h:Xe)(H:Hp):(oI h H).objs.size=h.objs.size:=PySem.W.hideAll_size _ _
def uU{h:Xe}{H:Hp}{b:X8}{o:Obj}(e:h.get? b=some o)(n:H b=none):(oI h H).get? b=some o:=
 PySem.W.hideAll_get _ e λa=>by
  have q:(H b).isSome=true:=(List.mem_filter.mp a).2
  rw[n] at q;simp at q
def xH{h:Xe}{H:Hp}{b:X8}{o:Obj}(e:(oI h H).get? b=some o):h.get? b=some o/\H b=none:=by
 have a:h.get? b=some o:=PySem.W.of_hideAll (Da h H) e
 refine#[a,?_]
 cases q:H b with
 |none=>rfl
 | some x=>
   have c:b∈Da h H:=List.mem_filter.mpr #[List.mem_range.mpr (Qiq a),by simp[q]]
   have z:(oI h H).get? b=none:=PySem.W.hideAll_none (Da h H) c
   rw[z] at e;cases e
structure Mod(K:X1)(mg:X3)(base:Xe):Prop where
 kin:K.In base
 glob:base.Ns mainGlobals mg
 blt:∃mb,base.Ns builtinsNs mb/\∀x:Str,x≠"__name__" ->mb x=bootBuiltins x
 nolimit:base.NoLimit
structure Cx where
 prog:Program
 w:World
 K:PySem.W.Frag
 mg:Str->Option Value
 base:Heap
 A:Around
 N:List Str
 s₀:Shared
 H₀:Hp
 env:Env
 outer:List Env
 stack:List Env
 ex:List Addr
 fn:Str->Bool
 calm:Bool
 pn:List (Addr×Obj)
 xe:Value->Shared->Prop
def v8(l:List Env):List Addr:=l.filterMap (·.frame)
abbrev Cx.fs(X:Cx):List Addr:=v8 X.outer
def Bg(a:Scope)(x:Str):Prop:=a.names.lookup x=some .local\/a.names.lookup x=some .cell\/a.names.lookup x=some .free
def Loc(a:Scope)(x:Str):Prop:=a.names.lookup x=some .local\/a.names.lookup x=some .cell
def Look(env:Env)(h:Xe)(m:X3)(x:Str)(u:Xd):Prop:=
 (env.kindOf x=some .local/\m x=some u)\/((env.kindOf x=some .cell\/env.kindOf x=some .free)/\∃c,env.cells.lookup x=some c/\h.IsCell c (some u))
structure Cx.Ok(X:Cx):Prop where
 mod:Mod X.K X.mg X.base
 kind:X.env.scope.kind=.function
 glob:X.env.globals=mainGlobals
 blt:X.env.builtins=builtinsNs
 above:X.s₀.heap.objs.size<=X.env.locals
 inj:∀x y c,X.env.cells.lookup x=some c->X.env.cells.lookup y=some c->x=y
 has:∀x,(X.env.kindOf x=some .cell\/X.env.kindOf x=some .free)->∃c,X.env.cells.lookup x=some c
 cab:∀x c,X.fn x=true->X.env.cells.lookup x=some c->X.s₀.heap.objs.size<=c
 hd:X.calm=true->X.A.handled=none
 frames:X.A.frames=some X.stack
 stk:X.stack=X.outer\/(X.stack=X.env::X.outer/\X.env.frame=some X.env.locals)
 exf:∀b∈X.ex,b≠X.env.locals/\∀x c,X.env.cells.lookup x=some c->c≠b
 bs:∀b o,X.base.get? b=some o->X.s₀.heap.get? b=some o/\X.H₀ b=none
 bsz:X.base.objs.size<=X.s₀.heap.objs.size
 noex:∀b o,X.base.get? b=some o->b∉X.ex
 exfs:∀b∈X.ex,b∉X.fs
 funs:X.s₀.heap.FunFrames X.base X.outer
 frf:∀b∈X.fs,X.H₀ b=none
structure Inv(X:Cx)(pins:X2)(σ:List (Option V))(H:Hp)(s:X4):Prop where
 ok:X.Ok
 os:s.os=X.s₀.os
 bare:AllBare s.gens
 base:Un X.fs X.ex X.H₀ H X.s₀.heap s.heap
 loc:∃m,s.heap.Ns X.env.locals m/\∀(i:Nat) (x:Str) (v:V),X.N[i]?=some x->σ[i]?=some (some v)->Bg X.env.scope x->∃u,RelV v u/\Look X.env s.heap m x u
 cell:∀x c,X.env.cells.lookup x=some c->∃v,s.heap.IsCell c v
 free:H X.env.locals=none
 freeC:∀x c,X.env.cells.lookup x=some c->H c=none
 pin:∀p∈X.pn++pins,s.heap.get? p.1=some p.2/\H p.1=none/\p.1≠X.env.locals/\p.1∉X.fs/\∀v,p.2.data≠.cell v
 hok:jz X.prog X.w H s.heap
 len:σ.length=X.N.length
section
variable{X:Cx}{pins:X2}{σ:List (Option V)}{H H':Hp}{s:X4}{h':Xe}
def Cx.Ok.nofr(ok:X.Ok){b:X8}{o:Obj}(e:X.base.get? b=some o):b∉X.fs:=λa=>by
 have:=(ok.funs.mem a).1
 rw[e] at this;cases this
def Inv.bs(I:Inv X pins σ H s):∀b o,X.base.get? b=some o->s.heap.get? b=some o/\H b=none:=λb o e=>
 #[I.base.keep b o (I.ok.bs b o e).1 (I.ok.bs b o e).2 (I.ok.nofr e) (I.ok.noex b o e),I.base.free b o (I.ok.bs b o e).1 (I.ok.bs b o e).2 (I.ok.noex b o e)]
def Inv.bk(I:Inv X pins σ H s):∀b o,X.base.get? b=some o->s.heap.get? b=some o:=λb o e=>(I.bs b o e).1
def Inv.mod(I:Inv X pins σ H s):Mod X.K X.mg X.base:=I.ok.mod
def Inv.kIn(I:Inv X pins σ H s):X.K.In s.heap:=I.ok.mod.kin.keeps I.bk
def Inv.lt(I:Inv X pins σ H s):X.env.locals<s.heap.objs.size:=let ⟨_,hn,_⟩:=I.loc;hn.lt
def Inv.sz(I:Inv X pins σ H s):X.s₀.heap.objs.size<=s.heap.objs.size:=QAq I.ok.above (nQl I.lt)
def Inv.nofs(I:Inv X pins σ H s){a:X8}(h:s.heap.objs.size<=a):a∉X.fs:=λb=>by
 let#[_,o,c,_]:=I.ok.funs.mem b
 exact absurd (Qqq (Qiq c) (QAq I.sz h)) (Nat.lt_irrefl _)
def Inv.cne(I:Inv X pins σ H s):∀x c,X.env.cells.lookup x=some c->c≠X.env.locals:=λx c e z=>by
 let#[v,o,f,d]:=I.cell x c e
 let#[m,#[h,i,g,b,a,_],_]:=I.loc
 rw[z,b] at f;cases f;rw[a] at d;cases d
theorem Inv.funs(I:Inv X pins σ H s):s.heap.FunFrames X.base X.outer:=by
 have d:∀(l:List Env),(∀b∈v8 l,b∈X.fs)->X.s₀.heap.FunFrames X.base l->s.heap.FunFrames X.base l:=by
  intro l
  induction l with
  |nil=>intro _ _;trivial
  | cons m r j=>
    intro g p
    let#[q,#[L,o,a,n,i,k],h]:=p
    have c:L∈X.fs:=g L (by unfold v8;rw[List.filterMap_cons,a];exact QBq)
    let#[sl,e]:=I.base.slot L o i (I.ok.frf L c) c λz=>I.ok.exfs L z c
    exact#[q,#[L,_,a,n,e,k],j (λb f=>g b (by unfold v8;rw[List.filterMap_cons,a];exact Qpq _ f)) h]
 exact d X.outer (λ_ f=>f) I.ok.funs
def Inv.stack(I:Inv X pins σ H s):s.heap.FunFrames X.base X.stack:=by
 rcases I.ok.stk with e|⟨e,a⟩
 ·rw[e];exact I.funs
 ·rw[e]
  let#[m,b,_]:=I.loc
  refine .cons (by rw[I.ok.kind];decide) a b ?_ I.funs
  exact Heap.get?_none_of_le (QAq I.ok.bsz I.ok.above)
def Inv.stkSub(I:Inv X pins σ H s):∀b∈v8 X.stack,b∈X.env.locals::X.fs:=λb a=>by
 rcases I.ok.stk with e|⟨e,c⟩
 ·rw[e] at a;exact Qpq _ a
 ·rw[e] at a
  unfold v8 at a
  rw[List.filterMap_cons,c] at a
  exact a
def Inv.stkFree(I:Inv X pins σ H s):∀b∈v8 X.stack,H b=none:=λb a=>by
 rcases Qsq.mp (I.stkSub b a) with e|a
 ·rw[e];exact I.free
 ·let#[_,o,c,_]:=I.ok.funs.mem a
  exact I.base.free b o c (I.ok.frf b a) λz=>I.ok.exfs b z a
def Inv.step{g':Array GenState}{t':Nat}{d':Drawn}{ch:X7}(I:Inv X pins σ H s)
  (f:∀b∈ch,(b∈X.ex\/X.s₀.heap.objs.size<=b)/\b≠X.env.locals/\(∀x c,X.env.cells.lookup x=some c->c≠b)/\∀p∈X.pn++pins,p.1≠b)
  (keep:∀b o,b≠X.env.locals->b∉X.fs->b∉ch->s.heap.get? b=some o->H b=none->h'.get? b=some o)
  (slot:∀b o,b≠X.env.locals->b∈X.fs->b∉ch->s.heap.get? b=some o->H b=none->∃sl,h'.get? b=some {o with slots:=sl}) (free:∀b o,b∉ch->s.heap.get? b=some o->H b=none->H' b=none)
  (there:∀b o,b∉ch->s.heap.get? b=some o->∃o',h'.get? b=some o')
  (tups:∀b xs,H b=some (.tup xs)->H' b=some (.tup xs)) (frzs:∀b o u,H b=some (.frz o u)->H' b=some (.frz o u)) (tbls:∀b ps,H b=some (.tbl ps)->∃C,H' b=some (.tbl (ps++C)))
  (ns:∀m,s.heap.Ns X.env.locals m->h'.Ns X.env.locals m) (K:jz X.prog X.w H' h') (U:AllBare g'):
  Inv X pins σ H' {s with heap:=h',gens:=g',drawn:=d',toks:=t'}:=by
 have F:∀b o,X.s₀.heap.get? b=some o->b≠X.env.locals:=λb o e=>Qwq (Qqq (Qiq e) I.ok.above)
 have j:∀b o,X.s₀.heap.get? b=some o->b∉X.ex->b∉ch:=λb o e a y=>by
  rcases(f b y).1 with z|z
  ·exact a z
  ·exact absurd (Qqq (Qiq e) z) (Nat.lt_irrefl _)
 have g:∀x c,X.env.cells.lookup x=some c->∀v,s.heap.IsCell c v->h'.IsCell c v:=λx c e v R=>by
  let#[o,A,J]:=R
  have h:c∉ch:=λz=>(f c z).2.2.1 x c e L
  by_cases N:c∈X.fs
  ·let#[sl,q]:=slot c o (I.cne x c e) N h A (I.freeC x c e)
   exact#[_,q,J]
  ·exact#[o,keep c o (I.cne x c e) N h A (I.freeC x c e),J]
 refine#[I.ok,I.os,U,#[λb o e n y a=>?_,λb o e n y a=>?_,λb o e n a=>?_,λb o e a=>?_,λb xs e=>tups b xs (I.base.tups b xs e),λb o xs e=>frzs b o xs (I.base.frzs b o xs e),λb ps e=>?_],?_,λx c e=>?_,?_,λx c e=>?_,λp P=>?_,K,I.len]
 ·exact keep b o (F b o e) y (j b o e a) (I.base.keep b o e n y a) (I.base.free b o e n a)
 ·let#[sl,t]:=I.base.slot b o e n y a
  let#[M,B]:=slot b _ (F b o e) y (j b o e a) t (I.base.free b o e n a)
  exact#[M,B]
 ·let#[o',t]:=I.base.there b o e a
  exact free b o' (j b o e a) t (I.base.free b o e n a)
 ·let#[o',t]:=I.base.there b o e a
  exact there b o' (j b o e a) t
 ·let#[W,t]:=I.base.tbls b ps e
  let#[S,B]:=tbls b _ t
  exact#[W++S,by rw[B,Array.append_assoc]]
 ·let#[m,Y,Z]:=I.loc
  refine#[m,ns m Y,λi x v t B e3=>?_]
  let#[u,r,l]:=Z i x v t B e3
  refine#[u,r,?_]
  rcases l with l|⟨k,c,e,z⟩
  ·exact .inl l
  ·exact .inr #[k,c,e,g x c e _ z]
 ·let#[v,z]:=I.cell x c e
  exact#[v,g x c e v z]
 ·let#[m,#[o,_,_,A,_],_]:=I.loc
  exact free _ o (λz=>(f _ z).2.1 L) A I.free
 ·let#[v,o,A,J]:=I.cell x c e
  exact free c o (λz=>(f c z).2.2.1 x c e L) A (I.freeC x c e)
 ·let#[e,n,ne,Q,d]:=I.pin p P
  have h:p.1∉ch:=λz=>(f p.1 z).2.2.2 p P L
  exact#[keep p.1 p.2 ne Q h e n,free p.1 p.2 h e n,ne,Q,d]
def Inv.un{t':Nat}(I:Inv X pins σ H s)(u:Un X.fs [] H H' s.heap h')(c:jz X.prog X.w H' h'):Inv X pins σ H' {s with heap:=h',toks:=t'}:=by
 let#[m,#[o,l,q,h,r],_]:=id I.loc
 let#[sl,j]:=u.any h I.free (by simp)
 exact I.step (g':=s.gens) (d':=s.drawn) (ch:= []) (λ_ z=>nomatch z) (λb o _ f _ e n=>u.keep b o e n f (by simp)) (λb o _ f _ e n=>u.slot b o e n f (by simp)) (λb o _ e n=>u.free b o e n (by simp)) (λb o _ e=>u.there b o e (by simp)) u.tups u.frzs u.tbls (λp k=>by
  let#[t,g,d,a,i]:=k
  rw[h] at a;cases a
  exact#[_,g,d,j,i]) c I.bare
def Inv.call{g':Array GenState}{t':Nat}{d':Drawn}{ch:X7}(I:Inv X pins σ H s)(u:Un (v8 X.stack) ch H H' s.heap h')(h:jz X.prog X.w H' h')(q:AllBare g')
  (d:∀b∈ch,(b∈X.ex\/X.s₀.heap.objs.size<=b)/\b≠X.env.locals/\(∀x c,X.env.cells.lookup x=some c->c≠b)/\∀p∈X.pn++pins,p.1≠b):
  Inv X pins σ H' {s with heap:=h',gens:=g',drawn:=d',toks:=t'}:=by
 let#[m,#[o,y,B,k,r],_]:=id I.loc
 let#[sl,g]:=u.any k I.free λz=>(d _ z).2.1 L
 exact I.step (ch:=ch) d (λb o g v a e n=>u.keep b o e n (λz=>(Qsq.mp (I.stkSub b z)).elim g v) a) (λb o _ _ a e n=>u.any e n a) (λb o a e n=>u.free b o e n a) (λb o a e=>u.there b o e a) u.tups u.frzs u.tbls (λA t=>by
  let#[C,j,i,f,l]:=t
  rw[k] at f;cases f
  exact#[_,j,i,g,l]) h q
def Inv.turned{t':Nat}{it:X8}(I:Inv X pins σ H s)(k:∀b o,b≠it->s.heap.get? b=some o->h'.get? b=some o)(t:H it=none)(f:it≠X.env.locals)
  (g:it∈X.ex\/X.s₀.heap.objs.size<=it) (l:∀x c,X.env.cells.lookup x=some c->c≠it) (j:∀p∈X.pn++pins,p.1≠it):Inv X pins σ H {s with heap:=h',toks:=t'}:=by
 have d:∀b u,H b=some u->b≠it:=λb u e z=>by rw[z,t] at e;cases e
 refine I.step (g':=s.gens) (d':=s.drawn) (ch:= [it]) (λb y=>?_) (λb o _ _ a e _=>k b o (λz=>a (by simp[z])) e) (λb o _ _ a e _=>#[o.slots,k b o (λz=>a (by simp[z])) e]) (λ_ _ _ _ n=>n)
  (λb o a e=>#[o,k b o (λz=>a (by simp[z])) e]) (λ_ _ e=>e) (λ_ _ _ e=>e) (λb B e=>#[(List.toArray []),by rw[e];simp]) (λm w=>?_) (λb u e=>?_) I.bare
 ·have e:b=it:=by simpa using y
  subst e
  exact#[g,f,l,j]
 ·let#[o,i,A,h,r]:=w
  exact#[o,i,A,k _ o (Ne.symm f) h,r]
 ·refine(I.hok b u e).stay (λc v a q=>k c v ?_ q) (λ_ q=>q) λ_ _ q=>q
  rcases a with z|z
  ·rw[z];exact d b u e
  ·exact d c _ z
def Inv.tok(I:Inv X pins σ H s)(t:Nat):Inv X pins σ H {s with toks:=t}:=I.un (h':=s.heap) (t':=t) Un.refl I.hok
def Inv.kept{t':Nat}(I:Inv X pins σ H s)(k:∀b u,s.heap.get? b=some u->h'.get? b=some u):Inv X pins σ H {s with heap:=h',toks:=t'}:=I.un (Un.kept k) (I.hok.kept k)
def Inv.laid{a:X8}{o:HO}{t':Nat}(I:Inv X pins σ H s)(k:∀b u,s.heap.get? b=some u->h'.get? b=some u)(c:s.heap.objs.size<=a)(new:cm X.prog X.w (upd H a o) h' a o):
  Inv X pins σ (upd H a o) {s with heap:=h',toks:=t'}:=I.un (Un.laid k c (I.hok.fresh c)) (I.hok.laid k c new)
def Inv.write{x e:X8}{o:HO}{t':Nat}(I:Inv X pins σ H s)(c:Bp (H x))(he:e=x\/H e=some (.own x))(k:∀b u,b≠e->s.heap.get? b=some u->h'.get? b=some u)(a:∃u,h'.get? e=some u)
  (new:cm X.prog X.w (upd H x o) h' x o):Inv X pins σ (upd H x o) {s with heap:=h',toks:=t'}:=I.un (Un.write c he k a) (I.hok.write c he k a new)
def Inv.pins_of{a:X2}(I:Inv X pins σ H s)(h:∀p∈a,s.heap.get? p.1=some p.2/\H p.1=none/\p.1≠X.env.locals/\p.1∉X.fs/\∀v,p.2.data≠.cell v):Inv X a σ H s:=
 #[I.ok,I.os,I.bare,I.base,I.loc,I.cell,I.free,I.freeC,λp b=>(mQa.mp b).elim (λz=>I.pin p (List.mem_append_left _ z)) (h p),I.hok,I.len]
def qE{N:X6}(e:N.Nodup){i j:Nat}{x:Str}(a:N[i]?=some x)(b:N[j]?=some x):i=j:=by
 let#[f,c]:=gQs.mp a
 let#[g,d]:=gQs.mp b
 exact(List.getElem_inj e).mp (c.trans d.symm)
def uk{M:Model}{A:X_}{E:X0}{i:Nat}{x:Str}{v:V}{u:Xd}{Q:Unit->Shared->Prop}(I:Inv X pins σ H s)(hN:X.N.Nodup)(hi:X.N[i]?=some x)(B:Loc X.env.scope x)(r:RelV v u)
  (h:∀s',Inv X pins (σ.set i (some v)) H s'->(∃a,Heap.SameBut a s.heap s'.heap/\(a=X.env.locals\/X.env.cells.lookup x=some a))->Q () s') (hf:autoParam (X.fn x=true\/X.env.scope.names.lookup x=some .local) ab._auto_1):wpAny M A (storeName X.env x u) Q E s:=by
 let#[m,hn,hl]:=id I.loc
 have a2:(X.env.scope.kind==.class||(X.env.scope.kind==.module&&X.env.locals !=X.env.globals))=false:=by rw[I.ok.kind];rfl
 have K:i<σ.length:=by rw[I.len];exact(gQs.mp hi).1
 let P:=I.cne
 have g:∀{a:X8} {h':Xe},(∃o,s.heap.get? a=some o/\H a=none)->Heap.SameBut a s.heap h'->jz X.prog X.w H h':=λ{a h'} ha f b ob e=>by
  let#[_,_,C]:=ha
  refine(I.hok b ob e).stay (λc w' t q=>(f.2 c ?_).trans q) (λ_ q=>q) λ_ _ q=>q
  rintro rfl
  rcases t with rfl|t
  ·rw[C] at e;cases e
  ·rw[C] at t;cases t
 rcases B with J|J
 ·refine wpAny_storeName_local J hn (λh' a4 f=>?_) a2
  let#[oL,_,_,a3,_]:=id hn
  refine h _ #[I.ok,I.os,I.bare,#[λb o e n S B=>?_,λb o e n S B=>?_,I.base.free,λb o e B=>?_,I.base.tups,I.base.frzs,I.base.tbls],#[_,a4,λj y v' l F e3=>?_],λy c e=>?_,I.free,I.freeC,λp hp=>?_,g #[oL,a3,I.free] f,by simpa using I.len] #[_,f,.inl L]
  ·exact(f.2 b (Qwq (Qqq (Qiq e) I.ok.above))).trans (I.base.keep b o e n S B)
  ·let#[sl,l]:=I.base.slot b o e n S B
   exact#[sl,(f.2 b (Qwq (Qqq (Qiq e) I.ok.above))).trans l]
  ·let#[o',l]:=I.base.there b o e B
   exact#[o',(f.2 b (Qwq (Qqq (Qiq e) I.ok.above))).trans l]
  ·by_cases R:j=i
   ·subst R
    rw[hi] at l;cases l
    rw[Qyq K] at F
    cases F
    exact#[u,r,.inl #[J,by simp]]
   ·rw[QKq (Ne.symm R)] at F
    let#[u',r',q]:=hl j y v' l F e3
    refine#[u',r',?_]
    rcases q with⟨k,e⟩|⟨k,c,e,z⟩
    ·refine .inl #[k,?_]
     have:y≠x:=λe=>R (qE hN l (e▸hi))
     simp[this,e]
    ·exact .inr #[k,c,e,z.sameBut f (P y c e)]
  ·let#[w',z]:=I.cell y c e
   exact#[w',z.sameBut f (P y c e)]
  ·let#[e,n,ne,nf,d]:=I.pin p hp
   exact#[(f.2 p.1 ne).trans e,n,ne,nf,d]
 ·have U:X.fn x=true:=by
   rcases hf with z|z
   ·exact z
   ·rw[z] at J;cases J
  let#[c,t]:=I.ok.has x (.inl J)
  let#[w',z]:=I.cell x c t
  refine wpAny_storeName_cell I.ok.kind J t z (λh' Z f=>?_)
  let#[oc,W,Y]:=id z
  refine h {s with heap:=h'} #[I.ok,I.os,I.bare,#[λb o e n S B=>?_,λb o e n S B=>?_,I.base.free,λb o e B=>?_,I.base.tups,I.base.frzs,I.base.tbls],#[m,hn.sameBut f (Ne.symm (P x c t)),λj y v' l F e3=>?_],λy c' e=>?_,I.free,I.freeC,λp hp=>?_,g #[oc,W,I.freeC x c t] f,by simpa using I.len] #[c,f,.inr t]
  ·exact(f.2 b (Qwq (Qqq (Qiq e) (I.ok.cab x c U t)))).trans (I.base.keep b o e n S B)
  ·let#[sl,l]:=I.base.slot b o e n S B
   exact#[sl,(f.2 b (Qwq (Qqq (Qiq e) (I.ok.cab x c U t)))).trans l]
  ·let#[o',l]:=I.base.there b o e B
   exact#[o',(f.2 b (Qwq (Qqq (Qiq e) (I.ok.cab x c U t)))).trans l]
  ·by_cases R:j=i
   ·subst R
    rw[hi] at l;cases l
    rw[Qyq K] at F
    cases F
    exact#[u,r,.inr #[.inl J,c,t,Z]]
   ·rw[QKq (Ne.symm R)] at F
    let#[u',r',q]:=hl j y v' l F e3
    refine#[u',r',?_]
    rcases q with q|⟨k,c',e,z'⟩
    ·exact .inl q
    ·refine .inr #[k,c',e,z'.sameBut f ?_]
     rintro rfl
     exact R (qE hN l (I.ok.inj _ _ _ e t▸hi))
  ·by_cases a1:c'=c
   ·subst a1;exact#[_,Z]
   ·let#[w2,z2]:=I.cell y c' e
    exact#[w2,z2.sameBut f a1]
  ·let#[e,n,ne,nf,d]:=I.pin p hp
   refine#[(f.2 p.1 ?_).trans e,n,ne,nf,d]
   intro q
   rw[q,W] at e
   have q':oc=p.2:=QdQ e
   exact d w' (by rw[<-q'];exact Y)
def jF{M:Model}{A:X_}{E:X0}{i:Nat}{x:Str}{v:V}{u:Xd}{Q:Unit->Shared->Prop}(I:Inv X pins σ H s)(d:X.N.Nodup)(hi:X.N[i]?=some x)(c:Loc X.env.scope x)(r:RelV v u)
  (h:∀a,Inv X pins (σ.set i (some v)) H a->Q () a) (b:autoParam (X.fn x=true\/X.env.scope.names.lookup x=some .local) ab._auto_1):wpAny M A (storeName X.env x u) Q E s:=
 uk I d hi c r (λa e _=>h a e) b
def Inv.call'{a:X4}{ch:X7}(I:Inv X pins σ H s)(i:a.os=s.os)(u:Un (v8 X.stack) ch H H' s.heap a.heap)(d:jz X.prog X.w H' a.heap)(g:AllBare a.gens)
  (f:∀b∈ch,(b∈X.ex\/X.s₀.heap.objs.size<=b)/\b≠X.env.locals/\(∀x c,X.env.cells.lookup x=some c->c≠b)/\∀p∈X.pn++pins,p.1≠b):Inv X pins σ H' a:=by
 let#[h',g',d',t',h]:=a
 have e:h=s.os:=i
 subst e
 exact I.call (g':=g') (t':=t') (d':=d') u d g f
end
abbrev XK:=Value->Option Addr->Hp->Prop
abbrev St:=List (Option V)
abbrev VK:=V->Hp->Prop
abbrev TE:=St->Hp->VK->Prop
abbrev TT:=St->Hp->(Bool->Hp->Prop)->Prop
abbrev TA:=St->Hp->(List V->Hp->Prop)->Prop
structure Ends where
 nx:St->Hp->Prop
 rt:VK
 bk:St->Hp->Prop:=λ_ _=>False
 ct:St->Hp->Prop:=λ_ _=>False
abbrev TS:=Ends->St->Hp->Prop
def EP(X:Cx)(a:X2)(d:St)(Q:VK)(u:Xd)(c:X4):Prop:=∃v b,Inv X a d b c/\RelV v u/\Q v b
def TP(X:Cx)(a:X2)(e:St)(Q:Bool->Hp->Prop)(b:Bool)(d:X4):Prop:=∃c,Inv X a e c d/\Q b c
def AP(X:Cx)(a:X2)(f:St)(Q:List V->Hp->Prop)(e:X5)(d:X4):Prop:=∃c b,Inv X a f b d/\aU c e/\Q c b
def SP(X:Cx)(b:X2)(D:Ends)(f:Flow)(d:X4):Prop:=
 match f with
 |.next=>∃a c,Inv X b a c d/\D.nx a c
 |.brk=>∃a c,Inv X b a c d/\D.bk a c
 |.cont=>∃a c,Inv X b a c d/\D.ct a c
 |.ret u=>∃v a c,Inv X b a c d/\RelV v u/\D.rt v c
def PE(X:Cx)(e:Expr)(t:TE):Prop:=
 ∀(a:X2) (s:X4) (b:St) (H:Hp) (Q:VK),Inv X a b H s->t b H Q->wpAny (model X.prog X.w) X.A (eval e X.env) (EP X a b Q) X.xe s
def PT(X:Cx)(e:Expr)(t:TT):Prop:=
 ∀(a:X2) (s:X4) (b:St) (H:Hp) (Q:Bool->Hp->Prop),Inv X a b H s->t b H Q->wpAny (model X.prog X.w) X.A (isTrue e X.env (eval e X.env)) (TP X a b Q) X.xe s
def PW(X:Cx)(e:Expr)(t:TT):Prop:=
 ∀(b:Sem Value) (a:X2) (s:X4) (c:St) (H:Hp) (Q:Bool->Hp->Prop),Inv X a c H s->t c H Q->wpAny (model X.prog X.w) X.A (isTrue e X.env b) (TP X a c Q) X.xe s
def PW.pt{X:Cx}{e:Expr}{t:TT}(h:PW X e t):PT X e t:=h _
def PA(X:Cx)(d:List Expr)(t:TA):Prop:=
 ∀(c:Pos) (a:X2) (s:X4) (b:St) (H:Hp) (Q:List V->Hp->Prop),Inv X a b H s->t b H Q->wpAny (model X.prog X.w) X.A (spliced (backTo c (starEach d X.env))) (AP X a b Q) X.xe s
def PS(X:Cx)(st:Stmt)(t:TS):Prop:=
 ∀(a:X2) (s:X4) (b:St) (H:Hp) (D:Ends),Inv X a b H s->t D b H->wpAny (model X.prog X.w) X.A (exec st X.env) (SP X a D) X.xe s
def kQ(X:Cx)(st:List Stmt)(t:TS):Prop:=
 ∀(a:X2) (s:X4) (b:St) (H:Hp) (D:Ends),Inv X a b H s->t D b H->wpAny (model X.prog X.w) X.A (execs st X.env) (SP X a D) X.xe s
def cu{α:Type}{t:Sem α}{Q b:α->Shared->Prop}{M:Model}{A:X_}{E:X0}{s:X4}(h:wpAny M A t Q E s)(c:∀a s,Q a s->b a s):wpAny M A t b E s:=QRq h c λ_ _ x=>x
section
variable{X:Cx}
def zE(i:Nat):TE:=λa H Q=>∃v,a[i]?=some (some v)/\Q v H
def tC(v:V):TE:=λ_ H Q=>Q v H
def Aa{i:Nat}{x:Str}{k:Pos}(o:X.N[i]?=some x)(y:Bg X.env.scope x)(g:autoParam ((x==("__debug__":Str))=false) ac._auto_1)(j:autoParam ((x==("__classdict__":Str))=false) ac._auto_1):PE X (.Name x k) (zE i):=by
 intro f s w H Q I h
 let#[v,e,h]:=h
 let#[m,p,t]:=I.loc
 let#[u,r,l]:=t i x v o e y
 have b:EP X f w Q u s:=#[v,H,I,r,h]
 rcases l with⟨d,q⟩|⟨d,c,n,a⟩
 ·exact wpAny_Name (wpAny_loadName_local I.ok.kind d p q b) g
 ·rcases d with d|d
  ·exact wpAny_Name (wpAny_loadName_cell I.ok.kind d n a b) g
  ·exact wpAny_Name (wpAny_loadName_free I.ok.kind d n a b j) g
def AH{i j pos}:PE X (.Constant (.int i) j pos) (tC (.int i)):=λ_ _ _ H _ I h=>wpAny_Constant_int #[.int i,H,I.tok _,#[_,L],h]
def BD{b j pos}:PE X (.Constant (.bool b) j pos) (tC (.bl b)):=λ_ _ _ H _ I h=>Constant_bool #[.bl b,H,I,L,h]
def Ab{j pos}:PE X (.Constant .none j pos) (tC .non):=λ_ _ _ H _ I h=>Constant_none #[.non,H,I,L,h]
def wO{x j pos}:PE X (.Constant (.str x) j pos) (tC (.str x)):=λ_ _ _ H _ I h=>Calls.Constant_str #[.str x,H,I.tok _,#[_,L],h]
def Gl(X:Cx)(x:Str):Prop:=X.env.kindOf x=some .globalImplicit
def tK{E:X0}{a:X2}{s:X4}{f:St}{H:Hp}{x:Str}{u:Xd}{b:Pos}{Q:X0}(I:Inv X a f H s)(c:Gl X x)(e:X.mg x=some u)(h:Q u s)
  (d:autoParam ((x==("__debug__":Str))=false) ac._auto_1):wpAny (model X.prog X.w) X.A (eval (.Name x b) X.env) Q E s:=
 Calls.Name_function_global I.ok.kind c (Calls.loadGlobal_global (by rw[I.ok.glob];exact I.mod.glob.keeps I.bk) e h) d
def oV{E:X0}{a:X2}{s:X4}{j:St}{H:Hp}{x:Str}{u:Xd}{b:Pos}{Q:X0}(I:Inv X a j H s)(d:Gl X x)(i:X.mg x=none)(k:bootBuiltins x=some u)(h:Q u s)
  (g:autoParam (x≠"__name__") ac._auto_1) (e:autoParam ((x==("__debug__":Str))=false) ac._auto_1):wpAny (model X.prog X.w) X.A (eval (.Name x b) X.env) Q E s:=by
 let#[l,c,f]:=I.mod.blt
 exact Calls.Name_function_global I.ok.kind d (Calls.loadGlobal_builtin (by rw[I.ok.glob];exact I.mod.glob.keeps I.bk) i (by rw[I.ok.blt];exact c.keeps I.bk) ((f x g).trans k) h) e
def lj{x:Str}{v:V}{u:Xd}{a:Pos}(b:Gl X x)(e:X.mg x=none)(f:bootBuiltins x=some u)(r:RelV v u)(d:autoParam (x≠"__name__") ac._auto_1)(c:autoParam ((x==("__debug__":Str))=false) ac._auto_1):PE X (.Name x a) (tC v):=
 λ_ _ _ H _ I h=>oV I b e f #[v,H,I,r,h] d c
variable{a b:Expr}{ta tb:TE}{pos:Pos}
variable{tA tB':TT}{rest:List Expr}
def DS(t u:TT):TT:=λe H Q=>t e H λc d=>if c=true then u e d Q else Q false d
def Eu(t u:TT):TT:=λe H Q=>t e H λc d=>if c=true then Q true d else u e d Q
def DU(t:TT):TT:=λe H Q=>t e H λc d=>Q (!c) d
def yu(f:PT X a tA):PW X (.BoolOp .And [a] pos) tA:=by
 intro j d s g H Q I h
 refine isTrue_and (cu (f d s g H Q I h) λc i e=>?_)
 cases c with
 |true=>exact isTrue_and_nil e
 |false=>exact e
def Ai(f:PT X a tA):PW X (.BoolOp .Or [a] pos) tA:=by
 intro j d s g H Q I h
 refine isTrue_or (cu (f d s g H Q I h) λc i e=>?_)
 cases c with
 |false=>exact isTrue_or_nil e
 |true=>exact e
def Az(j:PT X a tA)(k:PW X (.BoolOp .And (b::rest) pos) tB'):PW X (.BoolOp .And (a::b::rest) pos) (DS tA tB'):=by
 intro n d s i H Q I h
 refine isTrue_and (cu (j d s i H _ I h) λc m l=>?_)
 let#[g,f,e]:=l
 cases c with
 |true=>exact k n d m i g Q f e
 |false=>exact#[g,f,e]
def BP(j:PT X a tA)(k:PW X (.BoolOp .Or (b::rest) pos) tB'):PW X (.BoolOp .Or (a::b::rest) pos) (Eu tA tB'):=by
 intro n d s i H Q I h
 refine isTrue_or (cu (j d s i H _ I h) λc m l=>?_)
 let#[g,f,e]:=l
 cases c with
 |true=>exact#[g,f,e]
 |false=>exact k n d m i g Q f e
def Ap(e:PT X a tA):PT X (.UnaryOp .Not a pos) (DU tA):=by
 intro d s g H Q I h
 exact isTrue_not (e d s g H (λc f=>Q (!c) f) I h)
def BE(ta tb:TE):TE:=λe H Q=>ta e H λx d=>∃c,x=.bl c/\if c=true then tb e d Q else Q (.bl false) d
def z5{op}{t:TE}(h:PE X a t):PE X (.BoolOp op [a] pos) t:=λc s e H Q I d=>BoolOp_one (h c s e H Q I d)
def Ay(j:PE X a ta)(k:PE X (.BoolOp .And (b::rest) pos) tb):PE X (.BoolOp .And (a::b::rest) pos) (BE ta tb):=by
 intro d s i H Q I h
 refine BoolOp_and (cu (j d s i H _ I h) λv m l=>?_)
 let#[x,g,f,n,e]:=l
 let#[c,rfl,e]:=e
 cases n
 refine wpAny_truthy_bool ?_
 cases c with
 |true=>exact k d m i g Q f e
 |false=>exact#[.bl false,g,f,L,e]
def Et(t:TT)(ta tb:TE):TE:=λd H Q=>t d H λc e=>if c=true then ta d e Q else tb d e Q
def v7{c:Expr}(m:PT X c tA)(l:PE X a ta)(n:PE X b tb):PE X (.IfExp c a b pos) (Et tA ta tb):=by
 intro e s f H Q I h
 refine wpAny_IfExp (cu (m e s f H _ I h) λd i o=>?_)
 let#[k,j,g]:=o
 cases d with
 |true=>exact l e i f k Q j g
 |false=>exact n e i f k Q j g
end
def fJ(K:X1)(H:Hp)(a:X8)(xs:List V):Prop:=
 Rd H a (.lst xs)∨
  ∃(o:Obj) (b:Xa) (n:Nat),K.lookup a=some o/\o.cls=.type "list" /\o.dict=none/\o.data=.seq b n/\b.size<=sizeLine/\aU xs b.toList
def fL(K:X1)(H:Hp)(a:X8)(xs:List V):Prop:=
 Rd H a (.tup xs)∨
  ∃(o:Obj) (b:Xa) (n:Nat),K.lookup a=some o/\o.cls=.type "tuple" /\o.data=.seq b n/\b.size<=sizeLine/\aU xs b.toList
def DJ:Value->Option V
 |.none=>some .non
 |.bool b=>some (.bl b)
 |.int i _=>some (.int i)
 |.str x _=>some (.str x)
 |.bytes b _=>some (.byt b)
 |.float b _=>some (.flt b)
 |.ref a=>some (.ref a)
 |.type n=>some (.ty n)
 |_=>none
def RelV.abs{x:V}{u:Xd}(r:RelV x u):DJ u=some x:=by
 cases x with
 |non=>cases r;rfl
 |bl _=>cases r;rfl
 |int _=>let#[t,rfl]:=r;rfl
 |str _=>let#[t,rfl]:=r;rfl
 |byt _=>let#[t,rfl]:=r;rfl
 |flt _=>let#[t,rfl]:=r;rfl
 |ref _=>cases r;rfl
 |ty _=>cases r;rfl
def RelV.inj{x y:V}{u:Xd}(r:RelV x u)(q:RelV y u):x=y:=QdQ (r.abs.symm.trans q.abs)
theorem aU.inj:∀{xs ys:List V} {a:X5},aU xs a->aU ys a->xs=ys
 |_,_,_,.nil,.nil=>rfl
 |_,_,_,.cons r t,.cons r' t'=>by rw[r.inj r',aU.inj t t']
section
variable{X:Cx}{pins:X2}{σ:St}{H:Hp}{s:X4}{a:X8}{xs ys:List V}
def fJ.of{K:X1}(h:H a=some (.lst xs)):fJ K H a xs:=.inl (.inl h)
def fL.of{K:X1}(h:H a=some (.tup xs)):fL K H a xs:=.inl (.inl h)
def Inv.list(I:Inv X pins σ H s)(h:fJ X.K H a xs):∃b:List Value,aU xs b/\PlainL s.heap a b.toArray/\xs.length<=sizeLine:=by
 rcases h with h|⟨o,b,n,f,d,g,c,i,r⟩
 ·let#[z,b,n,r,e]:=h.ok I.hok
  exact#[b,r,#[_,n,e,L,L,L],z]
 ·refine#[b.toList,r,#[o,n,I.kIn a o f,d,g,by simpa using c],?_]
  let e:=r.length
  erw[Array.length_toList] at e
  omega
def Inv.tuple(I:Inv X pins σ H s)(h:fL X.K H a xs):∃b:List Value,aU xs b/\IsTup s.heap a b.toArray/\xs.length<=sizeLine:=by
 rcases h with h|⟨o,b,n,f,d,c,g,r⟩
 ·let#[z,b,r,p]:=h.ok I.hok
  exact#[b,r,p.it,z]
 ·refine#[b.toList,r,#[o,I.kIn a o f,d,n,by simpa using c],?_]
  let e:=r.length
  erw[Array.length_toList] at e
  omega
def Inv.list_inj(I:Inv X pins σ H s)(h:fJ X.K H a xs)(h':fJ X.K H a ys):xs=ys:=by
 let#[c,r,#[o,n,e,_,_,d],_]:=I.list h
 let#[b,j,#[k,l,g,_,_,f],_]:=I.list h'
 rw[e] at g;cases g
 rw[d] at f
 injection f with i _
 have:c=b:=by simpa using congrArg Array.toList i
 subst this
 exact r.inj j
def Inv.tuple_inj(I:Inv X pins σ H s)(h:fL X.K H a xs)(h':fL X.K H a ys):xs=ys:=by
 let#[c,r,#[o,e,_,n,d],_]:=I.tuple h
 let#[b,j,#[k,g,_,l,f],_]:=I.tuple h'
 rw[e] at g;cases g
 rw[d] at f
 injection f with i _
 have:c=b:=by simpa using congrArg Array.toList i
 subst this
 exact r.inj j
end
abbrev Cx.wish(X:Cx)(E:X0):Cx:={X with xe:=E}
abbrev Cx.nox(X:Cx):Cx:=X.wish λ_ _=>False
def Cx.Ok.wish{X:Cx}(ok:X.Ok)(E:X0):(X.wish E).Ok:=
 #[ok.mod,ok.kind,ok.glob,ok.blt,ok.above,ok.inj,ok.has,ok.cab,ok.hd,ok.frames,ok.stk,ok.exf,ok.bs,ok.bsz,ok.noex,ok.exfs,ok.funs,ok.frf]
def Cx.Ok.unwish{X:Cx}{E:X0}(ok:(X.wish E).Ok):X.Ok:=
 #[ok.mod,ok.kind,ok.glob,ok.blt,ok.above,ok.inj,ok.has,ok.cab,ok.hd,ok.frames,ok.stk,ok.exf,ok.bs,ok.bsz,ok.noex,ok.exfs,ok.funs,ok.frf]
section
variable{X:Cx}{pins:X2}{σ:St}{H:Hp}{s:X4}{E:X0}
def Inv.wish(I:Inv X pins σ H s)(E:X0):Inv (X.wish E) pins σ H s:=#[I.ok.wish E,I.os,I.bare,I.base,I.loc,I.cell,I.free,I.freeC,I.pin,I.hok,I.len]
def Inv.unwish(I:Inv (X.wish E) pins σ H s):Inv X pins σ H s:=#[I.ok.unwish,I.os,I.bare,I.base,I.loc,I.cell,I.free,I.freeC,I.pin,I.hok,I.len]
theorem SP.unwish{D:Ends}{f:Flow}{c:X4}(h:SP (X.wish E) pins D f c):SP X pins D f c:=by
 cases f with
 |next=>let#[a,b,I,q]:=h;exact#[a,b,I.unwish,q]
 |brk=>let#[a,b,I,q]:=h;exact#[a,b,I.unwish,q]
 |cont=>let#[a,b,I,q]:=h;exact#[a,b,I.unwish,q]
 |ret u=>let#[v,a,b,I,r,q]:=h;exact#[v,a,b,I.unwish,r,q]
def kQ.nox{st:List Stmt}{t:TS}(h:kQ X.nox st t):kQ X st t:=λpins s σ H D I a=>
 QRq (h pins s σ H D (I.wish _) a) (λ_ _ q=>q.unwish) λ_ _ z=>False.elim z
end
section
variable{X:Cx}{st:Stmt}{rest:List Stmt}{t u:TS}{e:Expr}{te:TE}{pos:Pos}
def BM:TS:=λD a H=>D.nx a H
def Ds(t u:TS):TS:=λD a H=>t {D with nx:=u D} a H
def xP:kQ X [] BM:=λ_ _ a H _ I h=>wpAny_execs_nil #[a,H,I,h]
def vF(c:PS X st t)(d:kQ X rest u):kQ X (st::rest) (Ds t u):=by
 intro a s j H D I h
 refine wpAny_execs_cons (cu (c a s j H {D with nx:=u D} I h) λf g q=>?_)
 cases f with
 | next=>
   let#[b,i,k,q]:=q
   exact d a g b i D k q
 |ret v=>exact q
 |brk=>exact q
 |cont=>exact q
def yp(b:PS X st t):kQ X [st] t:=by
 intro a s c H D I h
 refine wpAny_execs_cons (cu (b a s c H D I h) λf d q=>?_)
 cases f with
 |next=>exact wpAny_execs_nil q
 |ret v=>exact q
 |brk=>exact q
 |cont=>exact q
def Inv.quiet{a:X2}{b:St}{H:Hp}{s:X4}(I:Inv X a b H s):interactive X.env=false:=by simp[interactive,I.ok.kind]
def Bx(te:TE):TS:=λD a H=>te a H λ_ b=>D.nx a b
def yb(he:PE X e te)(d:autoParam (swapsWith e none pos.line X.env=pure false) ad._auto_1):PS X (.Expr e pos) (Bx te):=by
 intro a s b H D I h
 exact wpAny_Expr_any (cu (he a s b H _ I h) λv i ⟨x,g,f,j,c⟩=>#[b,g,f,c]) I.quiet d
def DY(te:TE):TS:=λD a H=>te a H D.rt
def vB(he:PE X e te):PS X (.Return (some e) pos) (DY te):=by
 intro a s b H D I h
 exact wpAny_Return_some (cu (he a s b H _ I h) λv i ⟨x,f,d,g,c⟩=>#[x,b,f,d,g,c])
def DX(c:TT)(t u:TS):TS:=λD a H=>c a H λb d=>if b=true then t D a d else u D a d
def Bk{c:Expr}{a b:List Stmt}{i:TT}(n:PT X c i)(o:kQ X a t)(p:kQ X b u):PS X (.If c a b pos) (DX i t u):=by
 intro f s g H D I h
 refine wpAny_If (cu (n f s g H _ I h) λd l q=>?_)
 let#[m,j,k]:=q
 cases d with
 |true=>exact o f l g m D j k
 |false=>exact p f l g m D j k
end
abbrev TG:=V->St->Hp->(St->Hp->Prop)->Prop
abbrev xB:=List V->St->Hp->(St->Hp->Prop)->Prop
def PG(X:Cx)(a:Expr)(t:TG):Prop:=
 ∀ (b:X2) (s:X4) (e:St) (H:Hp) (v:V) (u:Xd) (Q:St->Hp->Prop),Inv X b e H s->RelV v u->t v e H Q->
   wpAny (model X.prog X.w) X.A (assign a X.env u) (λ_ f=>∃c d,Inv X b c d f/\Q c d) X.xe s
def xj(X:Cx)(g:List Expr)(t:xB):Prop:=
 ∀ (a:X2) (s:X4) (e:St) (H:Hp) (f:List V) (c:X5) (Q:St->Hp->Prop),Inv X a e H s->aU f c->t f e H Q->
   wpAny (model X.prog X.w) X.A (assignInOrder ((assignEach g X.env).map (·.2)) c) (λ_ h=>∃b d,Inv X a b d h/\Q b d) X.xe s
abbrev Ak:=V->V->V->Hp->(Hp->Prop)->Prop
def BU(X:Cx)(t:Ak):Prop:=
 ∀ (a:X2) (s:X4) (d:St) (H:Hp) (o i v:V) (b e u:Xd) (Q:Hp->Prop),Inv X a d H s->RelV o b->RelV i e->RelV v u->t o i v H Q->
   wpAny (model X.prog X.w) X.A (setItem b e u) (λ_ f=>∃c,Inv X a d c f/\Q c) X.xe s
section
variable{X:Cx}{pos:Pos}
def oa(i:Nat):TG:=λv a H Q=>Q (a.set i (some v)) H
def pG{i:Nat}{x:Str}(d:X.N.Nodup)(hi:X.N[i]?=some x)(c:Loc X.env.scope x)(b:autoParam (X.fn x=true\/X.env.scope.names.lookup x=some .local) ab._auto_1):PG X (.Name x pos) (oa i):=by
 intro a s g H v u Q I r h
 exact wpAny_assign_Name (jF I d hi c r (λf e=>#[_,H,e,h]) b)
def DT:xB:=λb a H Q=>b= []/\Q a H
def CA(t:TG)(u:xB):xB:=λd c H Q=>∃v r,d=v::r/\t v c H λa b=>u r a b Q
def yf:xj X [] DT:=by
 intro a s b H d c Q I r h
 let#[e,h]:=h
 subst e
 cases r
 exact assignInOrder_nil #[b,H,I,h]
def u6{e:Expr}{b:List Expr}{t:TG}{u:xB}(d:PG X e t)(f:xj X b u)
  (o:autoParam ((assignEach (e::b) X.env).map (·.2)=assign e X.env::(assignEach b X.env).map (·.2)) ad._auto_1):xj X (e::b) (CA t u):=by
 intro a s n H x q Q I r h
 let#[v,w,p,h]:=h
 subst p
 cases r with
 | cons r j=>
   rw[o]
   refine assignInOrder_cons (cu (d a s n H _ _ _ I r h) λ_ l k=>?_)
   let#[c,m,g,i]:=k
   exact f a l c m _ _ Q g j i
def Dd(K:X1)(n:Nat)(t:xB):TG:=λv c H Q=>∃a b,v=.ref a/\fL K H a b/\b.length=n/\t b c H Q
def zr{d:List Expr}{k:Nat}{t:xB}{n:Nat}(l:X.calm=true)(h:xj X d t)
  (q:autoParam ((assignEach d X.env).length=n) ad._auto_1) (f:autoParam ((assignEach d X.env).findIdx? (·.1)=none) ad._auto_1):PG X (.Tuple d k pos) (Dd X.K n t):=by
 intro c s j H v u Q I r g
 let#[a,B,A,z,x,g]:=g
 subst A
 cases r
 let#[p,i,m,F]:=I.tuple z
 refine assign_Tuple_tuple (I.ok.hd l) m (by simp[q,<-x,i.length]) f λC y=>?_
 have w:Inv X c j H {s with heap:=C}:=I.kept (t':=s.toks) λb o e=>y b o (Qwq (Qiq e)) e
 exact h c _ j H B _ Q w (by simpa using i) g
def Bn(d f:TE)(t:Ak):TG:=λv a H Q=>d a H λo c=>f a c λi b=>t o i v b λe=>Q a e
def zo{o i:Expr}{f g:TE}{t:Ak}(k:PE X o f)(hi:PE X i g)(M:BU X t)
  (z:autoParam (∀v,assign (.Subscript o i pos) X.env v=(do
   let b<-holding [v] (eval o X.env)
   let c<-holding [v,b] (eval i X.env)
   standAt pos
   holding [v,b,c] (setItem b c v)
   release [v,b,c] [])) ae._auto_1):PG X (.Subscript o i pos) (Bn f g t):=by
 intro a s e H v u Q I r h
 rw[z]
 refine Qaq (QLq (cu (k a s e H _ I h) λb B d=>?_))
 let#[x,F,m,K,w]:=d
 refine Qaq (QLq (cu (hi a B e F _ m w) λc p d=>?_))
 let#[y,J,q,l,j]:=d
 refine Qaq (wpAny_standAt (Qaq (QLq (cu (M a p e J x y v b c u _ q K l r j) λ_ N d=>?_))))
 let#[C,n,A]:=d
 exact wpAny_release #[e,C,n,A]
def vf(b:TE)(g:TG):TS:=λD a H=>b a H λx c=>g x a c D.nx
def Ae{b e:Expr}{c:TE}{g:TG}(he:PE X e c)(i:PG X b g)(o:autoParam (swapsWithSole [b] e pos.line X.env=pure false) ad._auto_1)(p:autoParam (swappedStores [b] e X.env=pure none) ad._auto_1)
  (f:autoParam ((assignEach [b] X.env).map (·.2)= [assign b X.env]) ad._auto_1):PS X (.Assign [b] e pos) (vf c g):=by
 intro a s d H D I h
 refine wpAny_Assign_stores (cu (he a s d H _ I h) λv l ⟨x,m,j,n,k⟩=>?_) o p
 rw[f]
 exact cu (i a l d m x v _ j n k) λ_ r q=>q
def zL{i:Nat}{x:Str}{e:Expr}{c:TE}{a:Pos}(f:X.N.Nodup)(hi:X.N[i]?=some x)(l:Loc X.env.scope x)(he:PE X e c)(p:autoParam (swapsWith e (some (.Name x a)) pos.line X.env=pure false) ad._auto_1)(d:autoParam (X.fn x=true\/X.env.scope.names.lookup x=some .local) ab._auto_1):
  PS X (.Assign [.Name x a] e pos) (vf c (oa i)):=by
 intro b s n H D I h
 refine wpAny_Assign_Name (cu (he b s n H _ I h) λv r ⟨y,m,g,o,k⟩=>?_) p
 exact jF g f hi l o (λq j=>#[_,m,j,k]) d
def B4(i j:Nat)(b:TA):TS:=λD a H=>b a H λd c=>∃v w,d= [v,w]/\D.nx ((a.set i (some v)).set j (some w)) c
def oZ{i j:Nat}{x y:Str}{a b:Expr}{B:TA}{m r t:Pos}{kt k2 pt2}(P:X.calm=true)(u:X.N.Nodup)(hi:X.N[i]?=some x)(Q:X.N[j]?=some y)(l:i≠j)
  (C:X.env.scope.names.lookup x=some .local) (z:X.env.scope.names.lookup y=some .local) (Z:PA X [a,b] B)
  (hw:swappedStores [.Tuple [.Name x m,.Name y r] kt t] (.Tuple [a,b] k2 pt2) X.env=pure (some [x,y]))
  (hs:autoParam (swapsWithSole [.Tuple [.Name x m,.Name y r] kt t] (.Tuple [a,b] k2 pt2) pos.line X.env=pure false) ad._auto_1):
  PS X (.Assign [.Tuple [.Name x m,.Name y r] kt t] (.Tuple [a,b] k2 pt2) pos) (B4 i j B):=by
 intro c s J H D I h
 rw[exec_Assign_arm]
 refine Qaq (wpAny_standAt ?_)
 rw[hs]
 refine Qaq (Qgq ?_)
 rw[Quq (!1)]
 refine Qaq (Tuple_ (cu (Z _ c s J H _ I h) λM g qr=>?_))
 let#[vs,F,U,r1,n]:=qr
 let#[v,w,e1,n]:=n
 subst e1
 obtain⟨d,f,rfl,rv,rw'⟩:∃d f,M= [d,f]/\RelV v d/\RelV w f:=by
  cases r1 with
  | cons p q=>
    cases q with
    | cons p' S=>
      cases S
      exact#[_,_,L,p,p']
 refine QhQ ?_ (by show 2<=_;decide)
 have Y:Inv X c J F {g with heap:=g.heap.push {cls:=.type "tuple",data:=.seq [d,f].toArray}}:=U.kept (t':=g.toks) λb o e=>Qcq _ e
 rw[hw]
 refine Qaq (Qgq ?_)
 show wpAny (model X.prog X.w) X.A (do rule "assign.swapped-stores";let items<-unpackItems (.ref g.heap.objs.size) 2 none;assignInOrder [λv=>bindName X.env y v,λv=>bindName X.env x v] items.reverse;pure Flow.next) _ _ _
 refine Qaq (wpAny_rule (Qaq (unpackItems_tuple (items:= (List.toArray [d,f])) (I.ok.hd P) (IsTup.new g.heap _) λh' k=>?_)))
 let W:=Y.kept (h':=h') (t':=g.toks) λb o e=>k b o (Qwq (Qiq e)) e
 show wpAny _ _ (assignInOrder [λv=>bindName X.env y v,λv=>bindName X.env x v] [f,d] >>= λ_=>pure Flow.next) _ _ _
 refine Qaq (assignInOrder_cons (wpAny_bindName (jF W u Q (.inl z) rw' (λs2 R=>?_) (.inr z))))
 refine assignInOrder_cons (wpAny_bindName (jF R u hi (.inl C) rv (λs3 K=>assignInOrder_nil (Qgq ?_)) (.inr C)))
 rw[List.set_comm _ _ (Ne.symm l)] at K
 exact#[_,F,K,n]
end
section
variable{X:Cx}{pos:Pos}
def zH(c:TT)(h:TS):TS:=λD a H=>∃W:Nat->St->Hp->Prop,(∃m,W m a H)/\∀m a H,W m a H->
 c a H λb g=>if b=true then∃N:St->Hp->Prop,(∀d e,N d e->∃f,f<m/\W f d e)/\h {D with nx:=N,ct:=N,bk:=D.nx} a g else D.nx a g
def wy{c:Expr}{g:List Stmt}{u:TT}{z:TS}(y:PassesOwn (model X.prog X.w) X.A X.env X.xe)(M:PT X c u)(S:kQ X g z):PS X (.While c g [] pos) (zH u z):=by
 intro d s σ H D I h
 let#[W,#[Z,R],k]:=h
 refine wpAny_While (codeAny_whileLoop (λn K=>∃j J,Inv X d j J K/\W n j J) ?_ Z #[σ,H,I,R])
 rintro n Y ⟨e,C,P,w1⟩
 refine wpAny_passesOwn y (cu (M d Y e C _ P (k n e C w1)) λb Q U=>?_)
 let#[F,B,l]:=U
 cases b with
 | true=>
   let#[N,x,l]:=l
   rw[Qhq L]
   refine wpAny_passesOwn y (cu (S d Q e F _ B l) λf s3 m=>?_)
   cases f with
   | next=>
     let#[a,i,q,p]:=m
     let#[t,r,o]:=x a i p
     exact#[t,r,a,i,q,o]
   | cont=>
     let#[a,i,q,p]:=m
     let#[t,r,o]:=x a i p
     exact#[t,r,a,i,q,o]
   |brk=>exact m
   |ret v=>exact m
 | false=>
   rw[Quq Qtq]
   exact wpAny_execs_nil #[e,F,B,l]
end
structure It where
 go:Nat->Hp->Prop
 yld:Nat->Hp->V->Hp->Prop
 stop:Nat->Hp->Prop
def pV(X:Cx)(a:X2)(H:Hp)(b:X8):Prop:=
 H b=none/\b≠X.env.locals/\b∉X.fs/\(b∈X.ex\/X.s₀.heap.objs.size<=b)/\(∀x c,X.env.cells.lookup x=some c->c≠b)/\∀p∈X.pn++a,p.1≠b
def Inv.fpOk{X:Cx}{a:X2}{h:St}{H f:Hp}{s:X4}{b:X8}(I:Inv X a h H s)(d:s.heap.objs.size<=b)(g:f b=none):pV X a f b:=by
 refine#[g,Nat.ne_of_gt (Qqq I.lt d),I.nofs d,.inr (QAq I.sz d),λx c e z=>?_,λp i z=>?_]
 ·let#[v,q]:=I.cell x c e
  exact absurd (Qqq q.lt (by rw[z];exact d)) (Nat.lt_irrefl _)
 ·exact absurd (Qqq (Qiq (I.pin p i).1) (by rw[z];exact d)) (Nat.lt_irrefl _)
structure Turn(P:X9)(w:Xc)(K:X1)(tg:Expr)(J:It)(fp:X7)(it:X8)(tn:Nat->Heap->Prop):Prop where
 mem:it∈fp
 obj:∀i h,tn i h->∀b∈fp,∃o,h.get? b=some o/\∀v,o.data≠.cell v
 keep:∀i h h',tn i h->(∀b∈fp,∀o,h.get? b=some o->h'.get? b=some o)->tn i h'
 item:∀(X:Cx),X.prog=P->X.w=w->X.K=K->X.calm=true->∀(i:Nat) (pins:X2) (s:X4) (σ:St) (H:Hp) (E:X0),Inv X pins σ H s->(∀b∈fp,pV X pins H b)->tn i s.heap->J.go i H->
  wpAny (model P w) X.A (pyNext (.ref it)) (λr s1=>∃u,r=some u∧
   wpAny (model P w) X.A (letOwnedTupleGo tg (.ref it) u) (λ_ s2=>∃x H',Inv X pins σ H' s2/\RelV x u/\J.yld i H x H'/\tn (i+1) s2.heap/\∀b∈fp,H' b=none) E s1) E s
 done:∀(X:Cx),X.prog=P->X.w=w->X.K=K->X.calm=true->∀(i:Nat) (pins:X2) (s:X4) (σ:St) (H:Hp) (E:X0),Inv X pins σ H s->(∀b∈fp,pV X pins H b)->tn i s.heap->J.stop i H->
  wpAny (model P w) X.A (pyNext (.ref it)) (λr s1=>r=none/\Inv X pins σ H s1) E s
 self:∀(A:X_) (i:Nat) (s:X4) (Q:X0) (E:X0),tn i s.heap->Q (.ref it) s->wpAny (model P w) A (pyIter (.ref it)) Q E s
abbrev TI:=St->Hp->(It->Hp->Prop)->Prop
def D6(X:Cx)(a:X2)(j:St)(i:Expr)(R:It->Hp->Prop)(c:Xd)(g:X4):Prop:=
 ∃(h:X8) (e:X7) (f:Nat->Heap->Prop) (J:It) (d:Hp),c=.ref h/\Inv X a j d g/\Turn X.prog X.w X.K i J e h f/\f 0 g.heap/\(∀b∈e,pV X a d b)/\R J d
def PI(X:Cx)(f b:Expr)(d:TI):Prop:=
 ∀ (a:X2) (s:X4) (c:St) (H:Hp) (R:It->Hp->Prop),Inv X a c H s->d c H R->
   wpAny (model X.prog X.w) X.A (eval b X.env) (λv e=>wpAny (model X.prog X.w) X.A (pyIter v) (D6 X a c f R) X.xe e) X.xe s
def vw{M:Model}{A:X_}{E:X0}{s:X4}{b:Expr}{it:X8}{u:Xd}{o:Obj}{n:String}{c:Xa}{Q:Unit->Shared->Prop}(g:s.heap.get? it=some o)(d:o.cls=.type n)(e:o.data=.fields c)
    (f: ["enumerate","zip","dict_itemiterator","dict_reverseitemiterator","odict_iterator","itertools.zip_longest","itertools.pairwise"].contains n=false) (a:Q () s):wpAny M A (letOwnedTupleGo b (.ref it) u) Q E s:=by
  unfold letOwnedTupleGo
  cases b <;>first
    |exact Qgq a
    |(cases u <;>first
        |exact Qgq a
        |(refine Qaq (wpAny_load g ?_)
          rw[d,e]
          show wpAny M A (if (["enumerate","zip","dict_itemiterator","dict_reverseitemiterator","odict_iterator","itertools.zip_longest","itertools.pairwise"].contains n&&c[0]? ==some (rawInt _))=true then _ else _) Q E s
          rw[Quq (by intro h;rw[f,Bool.false_and] at h;cases h)]
          exact Qgq a))
def Ee(K:X1)(a:X8):It:=
 #[λi H=>∃b x,fJ K H a b/\b[i]?=some x,λi H x c=>c=H/\∀b,fJ K H a b->b[i]?=some x,λi H=>∃b,fJ K H a b/\b.length<=i]
def Ea(K:X1)(a:X8):It:=
 #[λi H=>∃b x,fL K H a b/\b[i]?=some x,λi H x c=>c=H/\∀b,fL K H a b->b[i]?=some x,λi H=>∃b,fL K H a b/\b.length<=i]
def C7(lo:Int)(n:Nat):It:=#[λi _=>i<n,λi H x a=>a=H/\x=.int (lo+i),λi _=>n<=i]
def uD{P:X9}{w:Xc}{K:X1}{tg:Expr}(a it:X8):Turn P w K tg (Ee K a) [it] it (λi h=>h.IsListIter it a i) where
 mem:=by simp
 obj:=λi h f b j=>by
  have e:b=it:=by simpa using j
  subst e
  let#[o,e,c,d]:=f
  exact#[o,e,λv z=>by rw[d] at z;cases z]
 keep:=λi h q f k=>f.at λo e=>k it (by simp) o e
 item:=by
  intro X N Q C S i g s U H E I m f t
  subst N Q C
  let#[xs,x,n,F]:=t
  let#[y,r,p,hz]:=I.list n
  let#[u,hu,ru]:=r.get F
  let#[A,B,f2,J,R,M]:=m it (by simp)
  refine wpAny_pyNext_list_item f p.isList (x:=u) (by simpa using hu) λq l sb=>?_
  have I1:Inv X g U H {s with heap:=q}:=I.turned (t':=s.toks) (λb o j e=>(sb.2 b j).trans e) A B J R M
  let#[o,e,c,d]:=id l
  exact#[u,L,vw (s:={s with heap:=q}) e c d (!1) #[x,H,I1,ru,#[L,λys Z=>by rw[I.list_inj Z n];exact F],l,λb j=>(m b j).1]]
 done:=by
  intro X N Q C S i g s U H E I m f t
  subst N Q C
  let#[xs,n,F]:=t
  let#[y,r,p,hz]:=I.list n
  let#[A,B,f2,J,R,M]:=m it (by simp)
  let hl:=r.length
  exact wpAny_pyNext_list_end (I.ok.hd S) f p.isList (by simp;omega) λq Y=>#[L,I.turned (t':=s.toks) (λb o j e=>Y b o j e) A B J R M]
 self:=λ_ _ _ _ _ f h=>wpAny_pyIter_listiter f h
def rJ{P:X9}{w:Xc}{K:X1}{tg:Expr}(a it:X8):Turn P w K tg (Ea K a) [it] it (λi h=>h.IsTupleIter it a i) where
 mem:=by simp
 obj:=λi h f b l=>by
  have e:b=it:=by simpa using l
  subst e
  let#[o,e,c,d]:=f
  exact#[o,e,λv z=>by rw[d] at z;cases z]
 keep:=λi h r f k=>f.at λo e=>k it (by simp) o e
 item:=by
  intro X N Q C S i g s U H E I n f y
  subst N Q C
  let#[xs,x,q,F]:=y
  let#[j,t,p,hz]:=I.tuple q
  let#[u,hu,ru]:=t.get F
  let#[A,B,f2,J,R,M]:=n it (by simp)
  refine wpAny_pyNext_tuple_item f (show s.heap.IsTuple a j.toArray from p) (x:=u) (by simpa using hu) λr m sb=>?_
  have I1:Inv X g U H {s with heap:=r}:=I.turned (t':=s.toks) (λb o l e=>(sb.2 b l).trans e) A B J R M
  let#[o,e,c,d]:=id m
  exact#[u,L,vw (s:={s with heap:=r}) e c d (!1) #[x,H,I1,ru,#[L,λys Z=>by rw[I.tuple_inj Z q];exact F],m,λb l=>(n b l).1]]
 done:=by
  intro X N Q C S i g s U H E I n f y
  subst N Q C
  let#[xs,q,F]:=y
  let#[j,t,p,hz]:=I.tuple q
  let#[A,B,f2,J,R,M]:=n it (by simp)
  let hl:=t.length
  exact wpAny_pyNext_tuple_end (I.ok.hd S) f (show s.heap.IsTuple a j.toArray from p) (by simp;omega) λr Y=>#[L,I.turned (t':=s.toks) (λb o l e=>Y b o l e) A B J R M]
 self:=λ_ _ _ _ _ f h=>wpAny_pyIter_tupleiter f h
def rE{P:X9}{w:Xc}{K:X1}{N:Expr}(it:X8)(lo:Int)(n:Nat):Turn P w K N (C7 lo n) [it] it (λi h=>IsRangeIter h it (lo+(i:Nat)*1) ((n:Int)-(i:Nat)) 1) where
 mem:=by simp
 obj:=λi h a b d=>by
  have e:b=it:=by simpa using d
  subst e
  exact⟨_,a,λv z=>by
   have R:Data.fields _=Data.cell v:=z
   cases R⟩
 keep:=λi h j a k=>k it (by simp) _ a
 item:=by
  intro X y A r l i c s F H E I g a m
  subst y A r
  let#[p,q,S,u,B,x]:=g it (by simp)
  let W:=Walks.range (prog:=X.prog) (w:=X.w) (I.ok.hd l) it lo 1 n
  refine W.item i s _ _ m a λv j C U f M=>?_
  let#[t,rfl]:=U
  have Q:Inv X c F H {s with heap:=j,toks:=C}:=I.turned (λb o d e=>M b o (by simpa using d) e) p q u B x
  refine#[_,L,vw (s:={s with heap:=j,toks:=C}) (n:="range_iterator") f L L (!1) #[.int (lo+i),H,Q,#[t,?_],#[L,L],f,λb d=>(g b d).1]]
  rw[Int.mul_one]
 done:=by
  intro X y A r l i c s F H E I g a m
  subst y A r
  let#[p,q,S,u,B,x]:=g it (by simp)
  exact wpAny_pyNext_range_end (I.ok.hd l) a (by have:n<=i:=m;omega) λj J=>#[L,I.turned (t':=s.toks) (λb o d e=>J b o d e) p q u B x]
 self:=λ_ _ _ _ _ a h=>wpAny_pyIter_rangeiter a h
section
variable{X:Cx}{tg:Expr}
def vX{a:X2}{f:St}{H:Hp}{s:X4}{R:It->Hp->Prop}{E:X0}{lo hi:Int}{t u v:Tok}{d:Nat}(I:Inv X a f H s)(g: -(2^62)<=lo)(j:lo<2^62)(i: -(2^62)<=hi)(m:hi<2^62)
  (q:R (C7 lo (hi-lo).toNat) H):wpAny (model X.prog X.w) X.A (pyIter (.ref s.heap.objs.size)) (D6 X a f tg R) E {s with heap:=s.heap.push {cls:=.type "range",data:=.fields (List.toArray [.int lo t,.int hi u,.int 1 v])},toks:=d}:=by
 refine wpAny_pyIter_range (IsRange.new ..) (small_one g j i m) ?_
 have c:Inv X a f H {s with heap:=s.heap.push {cls:=.type "range",data:=.fields (List.toArray [.int lo t,.int hi u,.int 1 v])},toks:=d}:=I.kept λb o e=>Qcq _ e
 refine⟨(s.heap.push {cls:=.type "range",data:=.fields (List.toArray [.int lo t,.int hi u,.int 1 v])}).objs.size,[(s.heap.push {cls:=.type "range",data:=.fields (List.toArray [.int lo t,.int hi u,.int 1 v])}).objs.size],_,_,H,L,
  c.kept (t':=d) λb o e=>Qcq _ e,rE _ lo (hi-lo).toNat,?_,λb k=>?_,q⟩
 ·have l:lo+((0:Nat):Int)*1=lo:=by simp
  have h:(((hi-lo).toNat:Nat):Int)-((0:Nat):Int)=Builtin.Range.rangeSize lo hi 1:=by rw[rangeSize_one];split <;>omega
  show IsRangeIter _ _ (lo+((0:Nat):Int)*1) ((((hi-lo).toNat:Nat):Int)-((0:Nat):Int)) 1
  rw[l,h]
  exact Qrq _ L
 ·have e:b=(s.heap.push {cls:=.type "range",data:=.fields (List.toArray [.int lo t,.int hi u,.int 1 v])}).objs.size:=by simpa using k
  subst e
  exact c.fpOk (Qmq _) (c.hok.fresh (Qmq _))
def Bo(a:TA):TI:=λc H R=>a c H λd b=>∃j:Int,d= [.int j]/\ -(2^62)<=j/\j<2^62/\R (C7 0 j.toNat) b
def uN{a:Expr}{f:TA}{p b:Pos}(i:Gl X "range")(l:X.mg "range"=none)(m:PA X [a] f)(v:autoParam (starEach [a] X.env= [(false,eval a X.env)]) ad._auto_1):PI X tg (.Call (.Name "range" p) [a] [] b) (Bo f):=by
 intro c s o H R I h
 refine Call_ (oV I i l boot_range (PyProof.Rows.callWith_type1 (cu (m b c s o H _ I h) λw x ⟨z,y,k,u,d⟩=>?_) v L))
 let#[j,e,d,g,q]:=d
 subst e
 cases u with
 | cons r n=>
   cases n
   let#[t,rfl]:=r
   exact call_range_1 (vX k (!0) (!0) d g (by simpa using q))
def Dt(h:TI)(g:TG)(f:TS):TS:=λD a H=>h a H λJ k=>∃W:Nat->Nat->St->Hp->Prop,(∃m,W 0 m a k)/\∀i m a H,W i m a H->
 (J.stop i H/\D.nx a H)\/(J.go i H/\∃N:St->Hp->Prop,(∀b c,N b c->∃e,e<m/\W (i+1) e b c)/\∀x c,J.yld i H x c->g x a c λd j=>f {D with nx:=N,ct:=N,bk:=D.nx} d j)
def jY(fp:X7)(h:Xe):List (Addr×Obj):=fp.filterMap λb=>(h.get? b).map λo=>(b,o)
def dr{fp:X7}{h:Xe}{b:X8}{o:Obj}(a:b∈fp)(e:h.get? b=some o):(b,o)∈jY fp h:=List.mem_filterMap.mpr #[b,a,by rw[e];rfl]
def uI{fp:X7}{h:Xe}{p:Addr×Obj}(d:p∈jY fp h):p.1∈fp/\h.get? p.1=some p.2:=by
 let#[b,a,e]:=List.mem_filterMap.mp d
 cases q:h.get? b with
 |none=>rw[q] at e;cases e
 | some o=>
   rw[q] at e
   have c:(b,o)=p:=QdQ e
   subst c
   exact#[a,q]
def Inv.pinned{a:X2}{g:St}{H:Hp}{s:X4}{fp:X7}(I:Inv X a g H s)(h:∀b∈fp,pV X a H b)(i:∀b∈fp,∃o,s.heap.get? b=some o/\∀v,o.data≠.cell v):Inv X (a++jY fp s.heap) g H s:=
 I.pins_of λp j=>(mQa.mp j).elim (λz=>I.pin p (Qoq _ z)) λz=>by
  let#[f,e]:=uI z
  let#[k,l,m,_]:=h p.1 f
  let#[o,c,d]:=i p.1 f
  rw[e] at c;cases c
  exact#[e,k,l,m,d]
def Inv.unpinned{a c:X2}{b:St}{H:Hp}{s:X4}(I:Inv X (a++c) b H s):Inv X a b H s:=I.pins_of λp d=>I.pin p (Qoq _ (List.mem_append_left _ d))
def AJ{q:Expr}{F:List Stmt}{wi:TI}{g:TG}{tb:TS}{a4:Pos}(Q:PassesOwn (model X.prog X.w) X.A X.env X.xe)(hc:X.calm=true)(hi:PI X tg q wi)(hg:PG X tg g)(t:kQ X F tb)
  (hs:autoParam (∀x,foldedSetIterable q X.env x=pure x) ae._auto_1):PS X (.For tg q F [] a4) (Dt wi g tb):=by
 intro a s σ H D I h
 refine wpAny_For (cu (hi a s σ H _ I h) λv s1 h1=>cu h1 λb0 s2 h2=>?_) hs
 let#[it,fp,tn,J,H2,e,I2,T,a5,f2,W,#[m0,w0],Y]:=h2
 subst e
 have p:∀{B:Hp},(∀b∈fp,B b=none)->∀b∈fp,pV X a B b:=λhn b t=>#[hn b t,(f2 b t).2]
 refine codeAny_forLoop_any (λn s'=>∃i z B,Inv X a z B s'/\tn i s'.heap/\(∀b∈fp,B b=none)/\W i n z B) ?_ m0 #[0,σ,H2,I2,a5,λb t=>(f2 b t).1,w0]
 rintro n s3 ⟨i,y,H3,I3,P,U,w3⟩
 rcases Y i n y H3 w3 with⟨Z,qn⟩|⟨go,N,hN,R⟩
 ·refine wpAny_passesOwn Q (cu (T.done X L L L hc i a s3 y H3 X.xe I3 (p U) P Z) λr s4 K=>?_)
  let#[hr,I4]:=K
  subst hr
  exact wpAny_execs_nil #[y,H3,I4,qn]
 ·refine wpAny_passesOwn Q (cu (T.item X L L L hc i a s3 y H3 X.xe I3 (p U) P go) λr s4 K=>?_)
  let#[u,hr,h4]:=K
  subst hr
  refine wpAny_passesOwn Q (cu h4 λ_ s5 K=>?_)
  let#[x,H5,I5,r5,y5,M,a2]:=K
  let a3:=I5.pinned (p a2) (T.obj _ _ M)
  refine wpAny_passesOwn Q (cu (hg _ s5 y H5 x u _ a3 r5 (R x H5 y5)) λ_ s6 K=>?_)
  let#[a1,H6,I6,q6]:=K
  refine wpAny_passesOwn Q (cu (t _ s6 a1 H6 _ I6 q6) λf s7 C=>?_)
  have j:∀{c:St} {k:Hp},Inv X (a++jY fp s5.heap) c k s7->N c k->∃m,m<n/\∃i z B,Inv X a z B s7/\tn i s7.heap/\(∀b∈fp,B b=none)/\W i m z B:=λ{c k} l S=>by
   let#[m',hm,w7]:=hN c k S
   refine#[m',hm,i+1,c,k,l.unpinned,T.keep _ _ _ M λb t o e=>(l.pin (b,o) (Qoq _ (Qoq _ (dr t e)))).1,λb t=>?_,w7]
   let#[o,e,d]:=T.obj _ _ M b t
   exact(l.pin (b,o) (Qoq _ (Qoq _ (dr t e)))).2.1
  cases f with
  |next=>let#[c,k,l,S]:=C;exact j l S
  |cont=>let#[c,k,l,S]:=C;exact j l S
  |brk=>let#[c,k,l,C]:=C;exact#[c,k,l.unpinned,C]
  |ret v=>let#[x7,c,k,l,r7,C]:=C;exact#[x7,c,k,l.unpinned,r7,C]
end
abbrev R2:=V->V->Hp->VK->Prop
def iK(X:Cx)(f:Value->Value->Sem Value)(r:R2):Prop:=
 ∀ (a:X2) (s:X4) (b:St) (H:Hp) (x y:V) (v u:Xd) (Q:VK),Inv X a b H s->RelV x v->RelV y u->r x y H Q->
   wpAny (model X.prog X.w) X.A (f v u) (EP X a b Q) X.xe s
def Dg(X:Cx)(f:Value->Sem Value)(r:V->Hp->VK->Prop):Prop:=
 ∀ (a:X2) (s:X4) (b:St) (H:Hp) (x:V) (v:Xd) (Q:VK),Inv X a b H s->RelV x v->r x H Q->
   wpAny (model X.prog X.w) X.A (f v) (EP X a b Q) X.xe s
def gJ(X:Cx)(f:Xd)(r:List V->Hp->VK->Prop):Prop:=
 ∀ (a:X2) (s:X4) (d:St) (H:Hp) (c:List V) (b:X5) (Q:VK),Inv X a d H s->aU c b->r c H Q->
   wpAny (model X.prog X.w) X.A (call f b) (EP X a d Q) X.xe s
def DB(X:Cx)(r:V->Hp->(Bool->Hp->Prop)->Prop):Prop:=
 ∀ (a:X2) (s:X4) (b:St) (H:Hp) (x:V) (v:Xd) (Q:Bool->Hp->Prop),Inv X a b H s->RelV x v->r x H Q->
   wpAny (model X.prog X.w) X.A (truthy v) (TP X a b Q) X.xe s
def y1(r:R2)(c d:TE):TE:=λa H Q=>c a H λx e=>d a e λy b=>r x y b Q
def EB(r:V->Hp->VK->Prop)(a:TE):TE:=λc H Q=>a c H λx b=>r x b Q
def rI(C:Int->Int->Prop)(g:Int->Int->V):R2:=λx y H Q=>∃i j,x=.int i/\y=.int j/\C i j/\Q (g i j) H
def ya(g:Int->Int->V):R2:=λx y H Q=>∃i j,x=.int i/\y=.int j/\Q (g i j) H
def rU(g:Int->V):V->Hp->VK->Prop:=λx H Q=>∃i,x=.int i/\Q (g i) H
section
variable{X:Cx}{a b c:Expr}{ta tb tc:TE}{pos:Pos}
def zv(z:PE X a ta)(B:PE X b tb){d:X2}{s:X4}{g:St}{H:Hp}{R:V->V->Hp->Prop}(I:Inv X d g H s)
  (h:ta g H λx m=>tb g m λy e=>R x y e) {Q:X0} {f:Value->Value->Sem Value}
  (n:∀v u k x y e,Inv X d g e k->RelV x v->RelV y u->R x y e->wpAny (model X.prog X.w) X.A (f v u) Q X.xe k):
  wpAny (model X.prog X.w) X.A (eval a X.env) (λv j=>wpAny (model X.prog X.w) X.A (eval b X.env) (λu i=>wpAny (model X.prog X.w) X.A (f v u) Q X.xe i) X.xe j) X.xe s:=by
 refine cu (z d s g H _ I h) λv C l=>?_
 let#[x,m,q,F,t]:=l
 refine cu (B d C g m _ q t) λu k l=>?_
 let#[y,e,r,p,o]:=l
 exact n v u k x y e r F p o
def kn{e:Operator}{r:R2}(f:iK X (binaryOp e) r)(j:PE X a ta)(k:PE X b tb):PE X (.BinOp a e b pos) (y1 r ta tb):=by
 intro d s n H Q I h
 exact wpAny_BinOp (zv j k I h λv u g x y m i o l q=>f d g n m x y v u Q i o l q)
def B9{e:UnaryOp}{r:V->Hp->VK->Prop}(m:Dg X (unaryOp e) r)(i:PE X a ta):PE X (.UnaryOp e a pos) (EB r ta):=by
 intro d s f H Q I h
 exact UnaryOp_ (cu (i d s f H _ I h) λv j ⟨x,l,k,n,g⟩=>m d j f l x v Q k n g)
def C3{f:Value->Value->Sem Value}{C:Int->Int->Prop}{g:Int->Int->Int}
  (d:∀(i j:Int) (t u:Tok) (s:X4) (Q:X0) (E:X0),C i j->Q (.int (g i j) s.toks) {s with toks:=s.toks+1}->wpAny (model X.prog X.w) X.A (f (.int i t) (.int j u)) Q E s):
  iK X f (rI C λi j=>.int (g i j)):=by
 intro e s n H x y v u Q I m k h
 let#[i,j,rfl,rfl,hc,q]:=h
 let#[t,rfl]:=m
 let#[l,rfl]:=k
 exact d i j t l s _ _ hc #[.int (g i j),H,I.tok _,#[_,L],q]
def Ck{f:Value->Value->Sem Value}{g:Int->Int->Int}
  (d:∀(i j:Int) (t u:Tok) (s:X4) (Q:X0) (E:X0),Q (.int (g i j) s.toks) {s with toks:=s.toks+1}->wpAny (model X.prog X.w) X.A (f (.int i t) (.int j u)) Q E s):
  iK X f (ya λi j=>.int (g i j)):=by
 intro e s n H x y v u Q I m k h
 let#[i,j,rfl,rfl,q]:=h
 let#[t,rfl]:=m
 let#[l,rfl]:=k
 exact d i j t l s _ _ #[.int (g i j),H,I.tok _,#[_,L],q]
def CY{f:Value->Value->Sem Value}{g:Int->Int->Bool}
  (d:∀(i j:Int) (t u:Tok) (s:X4) (Q:X0) (E:X0),Q (.bool (g i j)) s->wpAny (model X.prog X.w) X.A (f (.int i t) (.int j u)) Q E s):
  iK X f (ya λi j=>.bl (g i j)):=by
 intro e s n H x y v u Q I m k h
 let#[i,j,rfl,rfl,q]:=h
 let#[t,rfl]:=m
 let#[l,rfl]:=k
 exact d i j t l s _ _ #[.bl (g i j),H,I,L,q]
def vI(i j:Int):Prop:=0<j/\j<1073741824
def vD(i j:Int):Prop:=0<=j/\j<=1000000/\i.natAbs<2^64
def AF(i j:Int):Prop:=(-(2^64)<i/\i<2^64)\/(-(2^64)<j/\j<2^64)
def AF.ok{i j:Int}(h:AF i j):IntMulOk i j:=by
 rcases h with⟨d,e⟩|⟨d,e⟩
 ·exact .of_left (intBits_le_64 d e)
 ·exact .of_right (intBits_le_64 d e)
def zO:iK X (binaryOp .Add) (ya λi j=>.int (i+j)):=Ck λ_ _ _ _ _ _ _ q=>add_int q
def zT:iK X (binaryOp .Sub) (ya λi j=>.int (i-j)):=Ck λ_ _ _ _ _ _ _ q=>sub_int q
def yB:iK X (binaryOp .FloorDiv) (rI vI λi j=>.int (i/j)):=C3 λi j _ _ _ _ _ d q=>by
 have e:(0:Int)<j:=d.1
 have f:j<1073741824:=d.2
 exact floordiv_int (!0) (by rw[Int.fdiv_eq_ediv_of_nonneg i (!0)];exact q) (.inl (PyProof.noPylong_small (!0)))
def AE:iK X (binaryOp .Mod) (rI (λ_ j=>0<j) λi j=>.int (i%j)):=C3 λi j _ _ _ _ _ d q=>by
 have e:(0:Int)<j:=d
 exact mod_int' (!0) (by rw[Int.fmod_eq_emod_of_nonneg i (!0)];exact q)
def zR:iK X (binaryOp .Pow) (rI vD λi j=>.int (i^j.toNat)):=C3 λ_ _ _ _ _ _ _ d q=>pow_int_small d.1 d.2.1 d.2.2 q
def EK{f:Value->Sem Value}{g:Int->Int}
  (d:∀(i:Int) (t:Tok) (s:X4) (Q:X0) (E:X0),Q (.int (g i) s.toks) {s with toks:=s.toks+1}->wpAny (model X.prog X.w) X.A (f (.int i t)) Q E s):
  Dg X f (rU λi=>.int (g i)):=by
 intro e s k H x v Q I j h
 let#[i,rfl,q]:=h
 let#[t,rfl]:=j
 exact d i t s _ _ #[.int (g i),H,I.tok _,#[_,L],q]
def zC:Dg X (unaryOp .USub) (rU λi=>.int (-i)):=EK λ_ _ _ _ _ q=>neg_int q
end
def vR:V->V->Bool
 |.non,.non=>true|.non,.int _=>true|.int _,.non=>true|.non,.bl _=>true|.bl _,.non=>true|.non,.str _=>true|.str _,.non=>true
 |.int _,.int _=>true|.bl _,.bl _=>true|.str _,.str _=>true|.byt _,.byt _=>true
 |.int _,.str _=>true|.str _,.int _=>true|.bl _,.str _=>true|.str _,.bl _=>true
 |_,_=>false
def D3:R2:=λx y H Q=>vR x y=true/\Q (.bl (decide (x=y))) H
def xp{i j:Int}:decide (V.int i=V.int j)=(i==j):=by
 rw[Bool.eq_iff_iff]
 simp
def zD{i j:Bool}:decide (V.bl i=V.bl j)=(i==j):=by
 rw[Bool.eq_iff_iff]
 simp
def yj{i j:Str}:decide (V.str i=V.str j)=(i==j):=by
 rw[Bool.eq_iff_iff]
 simp
def xO{i j:Array UInt8}:decide (V.byt i=V.byt j)=(i.toList==j.toList):=by
 rw[Bool.eq_iff_iff]
 cases i
 cases j
 simp
section
variable{X:Cx}{a b c:Expr}{ta tb tc:TE}{pos:Pos}
def df{d:X2}{g:St}{H:Hp}{s:X4}{Q:VK}{k f:Bool}(I:Inv X d g H s)(q:Q (.bl k) H)(e:k=f):EP X d g Q (.bool f) s:=by
 subst e
 exact#[.bl k,H,I,L,q]
def eg:iK X (compareOp .Eq) D3:=by
 intro k s l H x y v u Q I g d h
 let#[f,q]:=h
 cases x with
 | non=>
   cases g
   cases y with
   |non=>cases d;exact PySem.EqNone.eq_none_none (df I q (by simp))
   |bl j=>cases d;exact PySem.EqNone.eq_none_bool (df I q (by simp))
   |int j=>let#[e,rfl]:=d;exact PySem.EqNone.eq_none_int (df I q (by simp))
   |str j=>let#[e,rfl]:=d;exact PySem.EqNone.eq_none_str (df I q (by simp))
   |_=>exact absurd (show false=true from f) Qtq
 | bl i=>
   cases g
   cases y with
   |non=>cases d;exact PySem.EqNone.eq_bool_none (df I q (by simp))
   |bl j=>cases d;exact eq_bool (df I q zD)
   |str j=>let#[e,rfl]:=d;exact PySem.EqMixed.eq_bool_str (df I q (by simp))
   |_=>exact absurd (show false=true from f) Qtq
 | int i=>
   let#[t,rfl]:=g
   cases y with
   |non=>cases d;exact PySem.EqNone.eq_int_none (df I q (by simp))
   |int j=>let#[e,rfl]:=d;exact eq_int (df I q xp)
   |str j=>let#[e,rfl]:=d;exact PySem.EqMixed.eq_int_str (df I q (by simp))
   |_=>exact absurd (show false=true from f) Qtq
 | str i=>
   let#[t,rfl]:=g
   cases y with
   |non=>cases d;exact PySem.EqNone.eq_str_none (df I q (by simp))
   |bl j=>cases d;exact PySem.EqMixed.eq_str_bool (df I q (by simp))
   |int j=>let#[e,rfl]:=d;exact PySem.EqMixed.eq_str_int (df I q (by simp))
   |str j=>let#[e,rfl]:=d;exact eq_str (df I q yj)
   |_=>exact absurd (show false=true from f) Qtq
 | byt i=>
   let#[t,rfl]:=g
   cases y with
   |byt j=>let#[e,rfl]:=d;exact PySem.W.eq_bytes (df I q xO)
   |_=>exact absurd (show false=true from f) Qtq
 |_=>cases y <;>exact absurd (show false=true from f) Qtq
def vP:iK X (compareOp .Lt) (ya λi j=>.bl (decide (i<j))):=CY λ_ _ _ _ _ _ _ q=>lt_int q
def BK:iK X (compareOp .GtE) (ya λi j=>.bl (decide (j<=i))):=CY λ_ _ _ _ _ _ _ q=>ge_int q
def wJ:iK X (compareOp .Is) (λx y H Q=>y=.non/\Q (.bl (decide (x=.non))) H):=by
 intro e s g H x y v u Q I d f h
 let#[rfl,q]:=h
 cases f
 refine is_none_gen (df I q ?_)
 cases x <;>first
  |(cases d;rfl)
  |(let#[t,rfl]:=d;rfl)
def iK.or{f:Value->Value->Sem Value}{r g:R2}(h:iK X f r)(h':iK X f g):iK X f (λx y H Q=>r x y H Q\/g x y H Q):=by
 intro d s j H x y v u Q I e i q
 rcases q with q|q
 ·exact h d s j H x y v u Q I e i q
 ·exact h' d s j H x y v u Q I e i q
def bJ(b:Expr){d:CmpOp}(h:autoParam (d≠.In) ac._auto_1)(g:autoParam (d≠.NotIn) ac._auto_1):behindInMarks d b=false:=by
 have e:(d==CmpOp.In)=false:=by cases d <;>first|rfl|exact absurd L h
 have f:(d==CmpOp.NotIn)=false:=by cases d <;>first|rfl|exact absurd L g
 cases b <;>simp[behindInMarks,e,f]
def sA{e:CmpOp}{r:R2}(f:iK X (compareOp e) r)(k:PE X a ta)(l:PE X b tb)(i:behindInMarks e b=false):PE X (.Compare a [e] [b] pos) (y1 r ta tb):=by
 intro d s o H Q I h
 exact wpAny_Compare1 (zv k l I h λv u g x y n j p m q=>f d g o n x y v u Q j p m q) i
def wq(t:TE):TT:=λe H Q=>t e H λx d=>∃k,x=.bl k/\Q k d
def lx{f:CmpOp}{r:R2}(j:iK X (compareOp f) r)(w:PE X a ta)(A:PE X b tb)(p:behindInMarks f b=false):PT X (.Compare a [f] [b] pos) (wq (y1 r ta tb)):=by
 intro d s g H Q I h
 refine wpAny_isTrue_Compare1 (cu (w d s g H _ I h) λv C ⟨x,K,m,N,t⟩=>cu (A d C g K _ m t) λu o ⟨y,M,q,l,i⟩=>
  cu (j d o g M x y v u _ q N l i) λc P ⟨z,J,n,F,k,e,B⟩=>?_) p
 subst e
 cases F
 exact wpAny_truthy_bool #[J,n,B]
def AN(K:X1)(x:V)(H:Hp)(k:Bool):Prop:=
 match x with
 |.non=>k=false
 |.bl b=>k=b
 |.int i=>k=(i !=0)
 |.str y=>y.length<=sizeLine/\k=((y.length:Int) !=0)
 |.byt y=>y.size<=sizeLine/\k=((y.size:Int) !=0)
 |.ref p=>(∃e,fJ K H p e/\k= !e.isEmpty)\/(∃e,fL K H p e/\k= !e.isEmpty)\/∃d,H p=some (.dK d)/\k= !d.isEmpty
 |_=>False
def rq{d:Type}{kvs:List (d×V)}{e:List (d×Value)}(r:KV kvs e):(!e.isEmpty)= !kvs.isEmpty:=by
 cases r <;>rfl
def my{xs:List V}{d:X5}(r:aU xs d):(!d.toArray.isEmpty)= !xs.isEmpty:=by
 cases r <;>simp
def ja:(sizeLine:Nat)<2^63:=by rw[sizeLine_eq];decide
def Ao:DB X (λx H Q=>∃k,AN X.K x H k/\Q k H):=by
 intro B s M H x v Q I l h
 let#[k,e,q]:=h
 let J:=ja
 have N:sizeLine=16777216:=sizeLine_eq
 cases x with
 | non=>
   cases l
   have d:k=false:=e
   subst d
   exact truthy_none #[H,I,q]
 | bl b=>
   cases l
   have d:k=b:=e
   subst d
   exact wpAny_truthy_bool #[H,I,q]
 | int i=>
   let#[t,rfl]:=l
   have d:k=(i !=0):=e
   subst d
   exact PySem.P.truthy_int #[H,I,q]
 | str y=>
   let#[t,rfl]:=l
   obtain⟨C,d⟩:y.length<=sizeLine/\k=((y.length:Int) !=0):=e
   subst d
   exact PySem.P.truthy_str (!0) #[H,I.tok _,q]
 | byt y=>
   let#[t,rfl]:=l
   obtain⟨C,d⟩:y.size<=sizeLine/\k=((y.size:Int) !=0):=e
   subst d
   exact PySem.W.truthy_bytes (!0) #[H,I.tok _,q]
 | ref p=>
   cases l
   have d:(∃j,fJ X.K H p j/\k= !j.isEmpty)\/(∃j,fL X.K H p j/\k= !j.isEmpty)\/∃f,H p=some (.dK f)/\k= !f.isEmpty:=e
   rcases d with⟨j,n,d⟩|⟨j,n,d⟩|⟨f,n,d⟩
   · subst d
     let#[z,r,u,A]:=I.list n
     let g:=r.length
     exact wpAny_truthy_list u.isList (by erw[Qjq];omega) #[H,I.tok _,by rw[my r];exact q]
   · subst d
     let#[z,r,u,A]:=I.tuple n
     let g:=r.length
     exact truthy_tuple u (by erw[Qjq];omega) ⟨H,I.tok _,by rw[my r];exact q⟩
   · subst d
     obtain⟨A,F,o,r,m⟩:f.length<=sizeLine/\(p==sysModules)=false/\∃o,KV f o/\s.heap.DictOf (bD X.prog X.w) p o:=I.hok p _ n
     have g:f.length=o.length:=Paired.length r
     exact wpAny_truthy_dict F m (!0) #[H,I.tok _,by rw[rq r];exact q]
 |_=>exact(show False from e).elim
def wX(l:PE X a ta)(he:∀d,isTrue a X.env d=(do let v<-d;standAt a.pos;holding [v] (truthy v))):
  PT X a (λf H Q=>ta f H λx g=>∃k,AN X.K x g k/\Q k g):=by
 intro e s f H Q I h
 exact isTrue_plain (cu (l e s f H _ I h) λv m ⟨x,n,i,o,j⟩=>Ao e m f n x v Q i o j) (he _)
def rT:iK X (binaryOp .Add) (λx y H Q=>∃i j,x=.str i/\y=.str j/\i.length+j.length<=sizeLine/\Q (.str (i++j)) H):=by
 intro d s l H x y v u Q I e f h
 let#[i,j,rfl,rfl,hz,q]:=h
 let#[t,rfl]:=e
 let#[g,rfl]:=f
 exact add_str (λg k=>#[.str (i++j),H,I.tok _,#[_,L],q]) hz
def vals1{x:V}{d:X5}(r:aU [x] d):∃u,d= [u]/\RelV x u:=by
 cases r with
 |cons f e=>cases e;exact#[_,L,f]
def vals2{x y:V}{d:X5}(r:aU [x,y] d):∃u e,d= [u,e]/\RelV x u/\RelV y e:=by
 cases r with
 | cons i f=>
   cases f with
   |cons g h=>cases h;exact#[_,_,L,i,g]
def uH(f:X.calm=true):gJ X (.builtin "max") (λxs H Q=>∃i j,xs= [.int i,.int j]/\Q (.int (if j>i then j else i)) H):=by
 intro e s n H xs g Q I r h
 let#[i,j,rfl,q]:=h
 let#[u,m,rfl,#[t,rfl],#[t',rfl]]:=vals2 r
 refine max_two_ints (I.ok.hd f) λo l k=>#[_,H,I.kept k,?_,q]
 by_cases d:j>i
 ·rw[Qhq d,Qhq d];exact#[_,L]
 ·rw[Quq d,Quq d];exact#[_,L]
def nP(f:X.calm=true):gJ X (.builtin "min") (λxs H Q=>∃i j,xs= [.int i,.int j]/\Q (.int (if j<i then j else i)) H):=by
 intro e s n H xs g Q I r h
 let#[i,j,rfl,q]:=h
 let#[u,m,rfl,#[t,rfl],#[t',rfl]]:=vals2 r
 refine min_two_ints (I.ok.hd f) λo l k=>#[_,H,I.kept k,?_,q]
 by_cases d:j<i
 ·rw[Qhq d,Qhq d];exact#[_,L]
 ·rw[Quq d,Quq d];exact#[_,L]
def dW:gJ X (.type "int") (λxs H Q=>(∃i,xs= [.int i]/\Q (.int i) H)\/∃k,xs= [.bl k]/\Q (.int (if k then 1 else 0)) H):=by
 intro d s f H xs e Q I r h
 rcases h with⟨i,rfl,q⟩|⟨k,rfl,q⟩
 ·let#[u,rfl,t,rfl]:=vals1 r
  exact call_int_int #[.int i,H,I,#[_,L],q]
 ·let#[u,rfl,r1]:=vals1 r
  cases r1
  exact call_int_bool #[.int (if k then 1 else 0),H,I.tok _,#[_,L],q]
end
structure z3(h:Xe)(x dx C:X8)(mA:X3):Prop where
 obj:h.get? x=some (PySem.W.instObj C dx)
 ns:h.Ns1 dx mA
 ne:dx≠x
def ug{h:Xe}{c:X8}{f:X3}(n:h.Ns1 c f):∃od,h.get? c=some od/\∀name,PySem.W.lookIn name od=some (f name):=by
 let#[o,d,p,i,k,m,_,l]:=n
 refine#[o,i,λname=>?_]
 let e:=l name
 unfold nsFind findBy at e
 rw[<-Array.find?_toList] at e
 unfold PySem.W.lookIn
 rw[k]
 dsimp only
 split
 ·rename_i y q
  rw[q] at e
  exact congrArg some e
 ·rename_i q
  rw[q] at e
  have a:d.toList.any (·.refKey)=false:=by
   rw[List.any_eq_false]
   intro y j
   let#[z,t,b]:=m y (Array.mem_toList_iff.mp j)
   simp[DictEntry.refKey,b]
  have g:¬d.toList.any (·.refKey)=true:=by rw[a];exact Qtq
  rw[Quq g]
  exact congrArg some e
def z3.look{h:Xe}{x a C:X8}{b:X3}(I:z3 h x a C b):∃od,PySem.W.InstAt h x (PySem.W.instObj C a) C (some od)/\∀name,PySem.W.lookIn name od=some (b name):=
 let ⟨od,ho,hl⟩:=ug I.ns
 #[od,#[I.obj,L,L,ho],hl]
def lL.some_of{v:V}{o:Option Value}(r:lL (some v) o):∃u,o=some u/\RelV v u:=by
 cases o with
 |none=>exact(show False from r).elim
 |some u=>exact#[u,L,r]
section
variable{P:X9}{w:Xc}{H H':Hp}{h h':Xe}{a C dx:X8}{fs fs':List (Str×V)}
def yr(c:jz P w H h)(e:H a=some (.ins C dx fs)):∃b,z3 h a dx C b/\(∀f,lL (fs.lookup f) (b f))/\PySem.Within b (fs.map (·.1))/\fs.length<=1000/\H dx=some (.own a):=by
 let#[d,z,ne,g,b,n,r,q]:=(show cm P w H h a (.ins C dx fs) from c a _ e)
 exact#[b,#[g,n,ne],r,q,z,d]
end
structure Dv(K:X1)(C:X8):Prop where
 pg:PySem.W.plainGet K C Str.empty=true
 hd:PySem.W.hasDictIn K C=true
 po:PySem.W.plainOver K C=true
 sa:PySem.W.findIn K (.ref C) "__setattr__"=some (some (.builtin "object.__setattr__"))
def Dv.get{K:X1}{C:X8}(c:Dv K C)(f:Str):PySem.W.plainGet K C f=true:=c.pg
section
variable{X:Cx}{pins:X2}{σ:St}{H:Hp}{s:X4}{A:X_}{E:X0}{Q:X0}{c:Xd}{b:Bool}
inductive jR(K:X1)(H:Hp):V->Value->Prop where
 |non:jR K H .non (.type "NoneType")
 |bl (x:Bool):jR K H (.bl x) (.type "bool")
 |int (i:Int):jR K H (.int i) (.type "int")
 |str (x:Str):jR K H (.str x) (.type "str")
 |flt (x:UInt64):jR K H (.flt x) (.type "float")
 |lst {a:X8} {xs:List V} (e:H a=some (.lst xs)):jR K H (.ref a) (.type "list")
 |frz {a:X8} {o:Obj} {xs:List V} (e:H a=some (.frz o (.lst xs))):jR K H (.ref a) (.type "list")
 |tup {a:X8} {xs:List V} (e:H a=some (.tup xs)):jR K H (.ref a) (.type "tuple")
 |dK {a:X8} {kvs:List (Key×V)} (e:H a=some (.dK kvs)):jR K H (.ref a) (.type "dict")
 |dT {a:X8} {kvs:List (List Key×V)} (e:H a=some (.dT kvs)):jR K H (.ref a) (.type "dict")
 |ins {a C dx:X8} {fs:List (Str×V)} (e:H a=some (.ins C dx fs)) (cl:Dv K C) (ha:PySem.W.findIn K (.ref C) "__class__"=some (some (.builtin "object.__class__")))
   (hn:PySem.W.specialIn K (.builtin "object.__class__") "__get__"=some (some (.builtin "getset_descriptor.__get__"))) (htk:PySem.W.takesIn K (.builtin "object.__class__")=some true)
   (hm:PySem.W.mroIn K C (.type "object")=some true):jR K H (.ref a) (.ref C)
def uj{x:V}{u t:Xd}(I:Inv X pins σ H s)(d:RelV x u)(l:jR X.K H x t)(e:PySem.W.kitOne X.K t c=some b)(h:∀m,Q (.bool b) {s with toks:=m}):
  wpAny (model X.prog X.w) A (call (.builtin "isinstance") [u,c]) Q E s:=by
 cases l with
 |non=>cases (show u=Value.none from d);exact PySem.W.kia_one PySem.W.kitx_none I.kIn True.intro e (λz=>nomatch z) h
 |bl y=>cases (show u=Value.bool y from d);exact PySem.W.kia_one PySem.W.kitx_bool I.kIn True.intro e (λz=>nomatch z) h
 |int i=>let#[t,q]:=(show∃t,u=Value.int i t from d);cases q;exact PySem.W.kia_one PySem.W.kitx_int I.kIn True.intro e (λz=>nomatch z) h
 |str y=>let#[t,q]:=(show∃t,u=Value.str y t from d);cases q;exact PySem.W.kia_one PySem.W.kitx_str I.kIn True.intro e (λz=>nomatch z) h
 |flt y=>let#[t,q]:=(show∃t,u=Value.float y t from d);cases q;exact PySem.W.kia_one PySem.W.kitx_float I.kIn True.intro e (λz=>nomatch z) h
 | @lst a g ea=>
   cases (show u=Value.ref a from d)
   let#[_,_,n,_,f]:=(show cm X.prog X.w H s.heap a (.lst g) from I.hok a _ ea)
   exact PySem.W.kia_one PySem.W.kitx_list I.kIn #[_,f,L] e (λz=>nomatch z) h
 | @frz a ob g ea=>
   cases (show u=Value.ref a from d)
   let#[_,_,_,n,_,f]:=(show cm X.prog X.w H s.heap a (.frz ob (.lst g)) from I.hok a _ ea)
   exact PySem.W.kia_one PySem.W.kitx_list I.kIn #[_,f,L] e (λz=>nomatch z) h
 | @tup a g ea=>
   cases (show u=Value.ref a from d)
   let#[_,_,_,p]:=(show cm X.prog X.w H s.heap a (.tup g) from I.hok a _ ea)
   let#[o,f,j,_]:=p
   exact PySem.W.kia_one PySem.W.kitx_tuple I.kIn #[o,f,j] e (λz=>nomatch z) h
 | @dK a kvs ea=>
   cases (show u=Value.ref a from d)
   let#[_,_,F,_,p]:=(show cm X.prog X.w H s.heap a (.dK kvs) from I.hok a _ ea)
   let#[o,k,r,f,j,_]:=p
   exact PySem.W.kia_one PySem.W.kitx_dict I.kIn #[o,f,j.1] e (λz=>nomatch z) h
 | @dT a kvs ea=>
   cases (show u=Value.ref a from d)
   let#[_,_,g,_,o,k,r,f,j,_]:=(show cm X.prog X.w H s.heap a (.dT kvs) from I.hok a _ ea)
   exact PySem.W.kia_one PySem.W.kitx_dict I.kIn #[o,f,j.1] e (λz=>nomatch z) h
 | @ins a C dx fs ea cl ha hn htk hm=>
   cases (show u=Value.ref a from d)
   let#[v,O,_]:=yr I.hok ea
   let#[B,J,_]:=O.look
   exact PySem.W.kia_one (PySem.W.kitx_own (cl.get _) cl.hd ha hn htk hm) I.kIn J e (λz=>nomatch z) h
end
structure dv(k:Nat)(A:X_):Prop where
 hd:A.handled=none
 dp:A.depth+3*k+5<recursionLimit
 un:A.units+16*k+200<cLine
 gd:A.guards=some []
def dv.mono{j k:Nat}{A:X_}(r:dv k A)(h:j<=k):dv j A:=#[r.hd,by have:=r.dp;omega,by have:=r.un;omega,r.gd]
def dv.deeper{k:Nat}{A:X_}(r:dv (k+1) A)(env:Env):dv k (A.deeper env):=
 #[r.hd,by have:=r.dp;show A.depth+1+3*k+5<_;omega,by have:=r.un;show A.units+3+16*k+200<_;omega,r.gd]
def dv.depth{k:Nat}{A:X_}(r:dv k A):A.depth<recursionLimit:=by have:=r.dp;omega
def dv.units{k:Nat}{A:X_}(r:dv k A):A.units+64<cLine:=by have:=r.un;omega
def dv.units0{k:Nat}{A:X_}(r:dv k A):A.units<cLine:=by have:=r.un;omega
def BL:TA:=λ_ H Q=>Q [] H
def y_(c:TE)(e:TA):TA:=λa H Q=>c a H λx f=>e a f λd b=>Q (x::d) b
section
variable{X:Cx}{e:Expr}{es:List Expr}{te:TE}{t:TA}{pos:Pos}
def gz:PA X [] BL:=λ_ _ _ _ H Q I h=>Calls.spliced_nil #[[],H,I,.nil,h]
def d_(k:PE X e te)(c:PA X es t)(q:autoParam (starEach (e::es) X.env=(false,eval e X.env)::starEach es X.env) ad._auto_1):PA X (e::es) (y_ te t):=by
 intro pos a s b H Q I h
 rw[q]
 show wpAny _ _ (spliced ((false,eval e X.env)::backTo pos (starEach es X.env))) _ _ s
 refine Calls.spliced_cons (cu (k a s b H _ I h) λu m l=>?_)
 let#[x,n,g,p,j]:=l
 exact cu (c pos a m b n _ g j) λv w ⟨r,o,i,f,d⟩=>#[x::r,o,i,.cons p f,d]
def D1(t:TA):TE:=λc H Q=>t c H λa b=>a.length<=sizeLine/\∀p,b p=none->Q (.ref p) (upd b p (.tup a))
def Dr(t:TA):TE:=λc H Q=>t c H λa b=>a.length<=sizeLine/\∀p,b p=none->Q (.ref p) (upd b p (.lst a))
def zY{x1}(h:PA X es t):PE X (.Tuple es x1 pos) (D1 t):=by
 intro a s k H Q I j
 refine wpAny_Tuple_spliced (cu (h pos a s k H _ I j) λi c ⟨l,f,d,r,z,q⟩=>#[by rw[<-r.length];exact z,?_])
 have g:f c.heap.objs.size=none:=d.hok.fresh (Qmq _)
 refine#[.ref c.heap.objs.size,upd f c.heap.objs.size (.tup l),d.laid (t':=c.toks) (λb u e=>Qcq _ e) (Qmq _) ?_,L,q _ g]
 exact#[z,i,r,#[_,Qrq _ L,L,L,_,L]]
def zW(h:PA X es t):PE X (.List es pos) (Dr t):=by
 intro a s k H Q I j
 refine wpAny_List_spliced (cu (h pos a s k H _ I j) λi c ⟨l,f,d,r,z,q⟩=>#[by rw[<-r.length];exact z,?_])
 have g:f c.heap.objs.size=none:=d.hok.fresh (Qmq _)
 refine#[.ref c.heap.objs.size,upd f c.heap.objs.size (.lst l),d.laid (t':=c.toks) (λb u e=>Qcq _ e) (Qmq _) ?_,L,q _ g]
 exact#[z,i,0,r,Qrq _ L]
end
abbrev Sp:=List V->Hp->VK->XK->Prop
abbrev wz:=List Env->Hp->Shared->XK->Value->Shared->Prop
structure xZ(P:X9)(w:Xc)(K:X1)(mg:X3)(base:Xe)(A:X_)(outer:List Env)(s:X4)(H:Hp):Prop where
 frames:A.frames=some outer
 mod:Mod K mg base
 bs:∀b o,base.get? b=some o->s.heap.get? b=some o/\H b=none
 bsz:base.objs.size<=s.heap.objs.size
 funs:s.heap.FunFrames base outer
 frf:∀b∈v8 outer,H b=none
 hok:jz P w H s.heap
 bare:AllBare s.gens
def CE(outer:List Env)(P:X9)(w:Xc)(H:Hp)(s:X4)(Q:VK)(u:Xd)(a:X4):Prop:=
 ∃v b,a.os=s.os/\AllBare a.gens/\Un (v8 outer) [] H b s.heap a.heap/\jz P w b a.heap/\RelV v u/\Q v b
def CR(CX:wz)(outer:List Env)(P:X9)(w:Xc)(H:Hp)(s:X4)(Q:VK)(E:XK)(r:Result)(a:X4):Prop:=
 match r with
 |.ok (.ret u)=>CE outer P w H s Q u a
 |.ok _=>False
 |.error e=>CX outer H s E e a
structure bT(P:X9)(w:Xc)(K:X1)(mg:X3)(base:Xe)(CX:wz)(k:Nat)(f:X8)(fd:FuncData)(ps:X6)(sp:Sp):Prop where
 len:∀vs H Q E,sp vs H Q E->vs.length=ps.length
 run:∀(A:X_) (outer:List Env) (s:X4) (H:Hp) (args:Args) (us:X5) (vs:List V) (Q:VK) (E:XK),dv k A->xZ P w K mg base A outer s H->BindsTo s fd args (ps.zip us)->aU vs us->sp vs H Q E->
  codeAny (model P w) A (.call (.ref f) args) (CR CX outer P w H s Q E) s
def bT.imp{P:X9}{w:Xc}{K:X1}{mg:X3}{base:Xe}{CX:wz}{k:Nat}{f:X8}{e:FuncData}{ps:X6}{sp d:Sp}(F:bT P w K mg base CX k f e ps sp)
  (h:∀b H Q E,d b H Q E->sp b H Q E):bT P w K mg base CX k f e ps d:=
 #[λb H Q E q=>F.len b H Q E (h _ _ _ _ q),λA a s H c i b Q E j g l n m=>F.run A a s H c i b Q E j g l n (h _ _ _ _ m)]
section
variable{X:Cx}{pins:X2}{σ:St}{H:Hp}{s s':X4}
def Inv.env0(I:Inv X pins σ H s):xZ X.prog X.w X.K X.mg X.base X.A X.stack s H:=
 #[I.ok.frames,I.ok.mod,I.bs,QAq I.ok.bsz I.sz,I.stack,I.stkFree,I.hok,I.bare]
def Inv.after{Q:VK}{u:Xd}(I:Inv X pins σ H s)(h:CE X.stack X.prog X.w H s Q u s'):EP X pins σ Q u s':=by
 let#[v,i,f,a,j,c,r,q]:=h
 let#[k,g,d,t,e]:=s'
 obtain rfl:e=s.os:=f
 exact#[v,i,I.call (h':=k) (g':=g) (d':=d) (t':=t) (ch:= []) j c a (λb z=>absurd z (by simp)),r,q]
end
def wj(sp:Sp)(a:List V)(E:XK)(t:TA):TE:=λc H Q=>t c H λd b=>sp (d++a) b Q E
def Binds(K:X1)(c:FuncData)(ps:X6)(b:X5):Prop:=
 ∀(s:X4) (a:X5),K.In s.heap->(a++b).length=ps.length->BindsTo s c #[a,[]] (ps.zip (a++b))
def Binds.all{K:X1}{c:FuncData}{ps:X6}(h:∀a:List Value,a.length=ps.length->bindArgs c #[a,[]]=pure (ps.zip a)):Binds K c ps []:=λs a _ b=>by
 rw[List.append_nil] at b|-
 exact .of_eq (h a b)
def se(CX:wz)(X:Cx)(E:XK):Prop:=∀(a:X2) (c:St) (H:Hp) (s:X4) (e:Xd) (b:X4),Inv X a c H s->CX X.stack H s E e b->X.xe e b
section
variable{X:Cx}{CX:wz}{k:Nat}{f C:X8}{fd:FuncData}{ps:X6}{sp:Sp}{dvs:List V}{ds:X5}{E:XK}{x m:Str}{p pos apos:Pos}{e o:Expr}{es:List Expr}{ta:TE}{t:TA}
def A0{a:X2}{g:St}{H:Hp}{s:X4}{Q:VK}{b:X5}{d:List V}(F:bT X.prog X.w X.K X.mg X.base CX k f fd ps sp)(n:dv k X.A)(y:Binds X.K fd ps ds)(q:aU dvs ds)(z:se CX X E)
  (I:Inv X a g H s) (r:aU d b) (h:sp (d++dvs) H Q E):wpAny (model X.prog X.w) X.A (call (.ref f) b) (EP X a g Q) X.xe s:=by
 have i:aU (d++dvs) (b++ds):=r.append q
 have v:(b++ds).length=ps.length:=by rw[<-i.length];exact F.len _ _ _ _ h
 refine wpAny_call (codeAny_mono (F.run X.A X.stack s H #[b,[]] (b++ds) (d++dvs) Q E n I.env0 (y s b I.kIn v) i h) λr j c=>?_)
 cases r with
 |error e=>exact z a g H s e j I c
 | ok l=>
   cases l with
   |ret u=>exact I.after c
   |next=>exact False.elim c
   |brk=>exact False.elim c
   |cont=>exact False.elim c
def sH(F:bT X.prog X.w X.K X.mg X.base CX k f fd ps sp)(d:dv k X.A)(g:Gl X x)(j:X.mg x=some (.ref f))(n:PySem.W.keepIn X.K (.ref f)=true)(u:Binds X.K fd ps ds)(i:aU dvs ds)(v:se CX X E)
  (l:PA X (e::es) t) (b:autoParam ((x==("__debug__":Str))=false) ac._auto_1) (he:autoParam (starEach (e::es) X.env=(false,eval e X.env)::starEach es X.env) ad._auto_1) (hpl:autoParam ((backTo pos (starEach es X.env)).any (·.1)=false) ad._auto_1):
  PE X (.Call (.Name x p) (e::es) [] pos) (wj sp dvs E t):=by
 intro a s y H Q I h
 refine wpAny_Call_Name_kw (tK I g j ?_ b)
 refine PySem.W.callWith_K (h₀:=X.base) I.ok.mod.kin n (cu (l pos a s y H _ I h) λz B ⟨M,J,c,r,q⟩=>#[c.kIn,?_]) he hpl
 exact A0 F d u i v c r q
end
structure aX(N P:X6)(sc:Scope):Prop where
 kind:sc.kind=.function
 co:sc.isCoroutine=false
 gen:sc.isGenerator=false
 nd:N.Nodup
 pre:N.take P.length=P
 par:∀x∈P,sc.names.lookup x=some .local\/sc.names.lookup x=some .cell
 nofree:∀y∈sc.names,y.2≠.free
theorem nM{b:Str->Option NameKind}{x:Str}:∀{a:List (Str×Value)} {m:X3},(∀v,(x,v)∉a)->bindL b a m x=m x
 | [],_,_=>rfl
 | (n,v)::r,m,h=>by
   unfold bindL
   rw[nM λw c=>h w (Qpq _ c)]
   split
   · have:x≠n:=by rintro rfl;exact h v QBq
     simp[this]
   · rfl
theorem nz{b:Str->Option NameKind}{x:Str}:∀{a:List (Str×Value)} {m:X3},(∀v,(x,v)∉a)->bindC b a m x=m x
 | [],_,_=>rfl
 | (n,v)::r,m,h=>by
   unfold bindC
   rw[nz λw c=>h w (Qpq _ c)]
   split
   · rfl
   · have:x≠n:=by rintro rfl;exact h v QBq
     simp[this]
theorem n_{a:Str->Option NameKind}{x:Str}{v:Xd}:∀{P:X6} {b:X5} {i:Nat} {m:X3},P.Nodup->P[i]?=some x->b[i]?=some v->a x=some .local->
  bindL a (P.zip b) m x=some v
 | [],_,_,_,_,h,_,_=>by simp at h
 |_::_,[],_,_,_,_,h,_=>by simp at h
 | p::P,w::b,0,m,nd,h1,h2,hk=>by
   simp at h1 h2;subst h1;subst h2
   show bindL a ((p,w)::P.zip b) m p=_
   unfold bindL
   rw[nM λv c=>(List.nodup_cons.mp nd).1 (QeQ c).1,Qhq hk]
   simp
 | p::P,w::b,i+1,m,nd,h1,h2,hk=>by
   show bindL a ((p,w)::P.zip b) m x=_
   unfold bindL
   exact n_ (i:=i) (List.nodup_cons.mp nd).2 (by simpa using h1) (by simpa using h2) hk
theorem nj{a:Str->Option NameKind}{x:Str}{v:Xd}:∀{P:X6} {b:X5} {i:Nat} {m:X3},P.Nodup->P[i]?=some x->b[i]?=some v->a x≠some .local->
  bindC a (P.zip b) m x=some v
 | [],_,_,_,_,h,_,_=>by simp at h
 |_::_,[],_,_,_,_,h,_=>by simp at h
 | p::P,w::b,0,m,nd,h1,h2,hk=>by
   simp at h1 h2;subst h1;subst h2
   show bindC a ((p,w)::P.zip b) m p=_
   unfold bindC
   rw[nz λv c=>(List.nodup_cons.mp nd).1 (QeQ c).1,Quq hk]
   simp
 | p::P,w::b,i+1,m,nd,h1,h2,hk=>by
   show bindC a ((p,w)::P.zip b) m x=_
   unfold bindC
   exact nj (i:=i) (List.nodup_cons.mp nd).2 (by simpa using h1) (by simpa using h2) hk
def start(N:X6)(a:List V):St:=a.map some++List.replicate (N.length-a.length) none
def qf(CX:wz)(P:X9)(w:Xc)(K:X1)(mg:X3)(base:Xe)(N:X6)(b:Str)(a:Scope)(f:X8)(d:Xd)(A:X_)(outer:List Env)(s:X4)(H:Hp)(E:XK):Cx where
 prog:=P
 w:=w
 K:=K
 mg:=mg
 base:=base
 A:=A.deeper (envOfC b a s.heap.objs.size f d)
 N:=N
 s₀:=s
 H₀:=H
 env:=envOfC b a s.heap.objs.size f d
 outer:=outer
 stack:=envOfC b a s.heap.objs.size f d::outer
 ex:= []
 calm:=true
 fn:=λ_=>true
 pn:= []
 xe:=λe g=>wpAny (model P w) (A.deeper (envOfC b a s.heap.objs.size f d)) (leaving (envOfC b a s.heap.objs.size f d) e) (λ_ c=>CX outer H s E e c) (λh c=>CX outer H s E h c) g
def qT{a:Scope}{n:Nat}{x:Str}(h:a.names.lookup x=some .cell):∃c,(cellsFrom n a.names []).lookup x=some c:=by
 let q:=PySem.W.cellsFrom_some a.names n [] (.inl h)
 exact Option.isSome_iff_exists.mp q
def uG{CX:wz}{P:X9}{w:Xc}{K:X1}{mg:X3}{base:Xe}{N ps:X6}{g:Str}{d:Scope}{f:X8}{I:Xd}{A:X_}{outer:List Env}{s R:X4}{H:Hp}{E:XK}{M:X5}{o:List V}
  (S:aX N ps d) (X:A.handled=none) (l:xZ P w K mg base A outer s H) (hl:o.length=ps.length) (r:aU o M)
  (x:InCallC s s.heap.objs.size (bindL (envOfC g d s.heap.objs.size f I).kindOf (ps.zip M) λ_=>none) (cellsFrom (s.heap.objs.size+1) d.names []) (bindC (envOfC g d s.heap.objs.size f I).kindOf (ps.zip M) λ_=>none) R):
  Inv (qf CX P w K mg base N g d f I A outer s H E) [] (start N o) H R:=by
 have Z:ps.length<=N.length:=by have:=congrArg List.length S.pre;rw[Qxq] at this;omega
 let#[F,tk,rfl,hk]:=x.done
 have t:∀b:Addr,b∉(qf CX P w K mg base N g d f I A outer s H E).ex:=λb z=>absurd (show b∈([]:List Addr) from z) (by simp)
 refine⟨⟨l.mod,S.kind,L,L,Qmq _,λy z c F j=>?_,λy m=>?_,λy c _ h=>?_,λ_=>X,Around.frames_deeper l.frames,.inr ⟨rfl,L⟩,λb z=>absurd z (t b),l.bs,l.bsz,λb _ _=>t b,λb z=>absurd z (t b),l.funs,l.frf⟩,
  rfl,l.bare,Un.kept hk,#[_,x.toInCall.ns,λi y v F j h3=>?_],λy c h=>#[_,x.cell y c h],l.hok.fresh (Qmq _),λy c h=>?_,λp B=>absurd (show p∈([]:List (Addr×Obj)) from B) (by simp),l.hok.kept hk,?_⟩
 ·exact name_of_addr x.apart (PySem.mem_of_lookup F) (PySem.mem_of_lookup j)
 ·have m:d.names.lookup y=some .cell\/d.names.lookup y=some .free:=m
  rcases m with m|m
  ·exact qT m
  ·exact absurd L (S.nofree _ (PySem.mem_of_lookup m))
 ·exact nQl (x.above y c (PySem.mem_of_lookup h))
 ·have J:i<o.length:=by
   unfold start at j
   by_cases J:i<o.length
   ·exact J
   ·rw[QQq (by simpa using J)] at j
    rw[List.getElem?_replicate] at j
    split at j <;>cases j
  have Y:o[i]?=some v:=by
   unfold start at j
   rw[QHq (by simpa using J),gQm] at j
   cases e:o[i]? with
   |none=>rw[e] at j;cases j
   |some a=>rw[e] at j;cases j;rfl
  let#[u,Q,U]:=r.get Y
  have B:ps[i]?=some y:=by
   rw[<-S.pre,List.getElem?_take_of_lt (!0)];exact F
  have C:ps.Nodup:=by rw[<-S.pre];exact S.nd.sublist (List.take_sublist _ _)
  refine#[u,U,?_]
  rcases S.par y (mQg B) with k|k
  ·exact .inl #[k,n_ C B Q k]
  ·let#[c,e]:=qT (n:=s.heap.objs.size+1) k
   refine .inr #[.inl k,c,e,?_]
   let q:=x.cell y c e
   rw[nj C B Q (by show d.names.lookup y≠_;rw[k];decide)] at q
   exact q
 ·exact l.hok.fresh (nQl (x.above y c (PySem.mem_of_lookup h)))
 ·unfold start
  show _=N.length
  rw[lQa,lQm,QIq]
  omega
def Cq{CX:wz}{P:X9}{w:Xc}{K:X1}{mg:X3}{base:Xe}{k:Nat}{f:X8}{name c:Str}{g:Arguments}{h:List Stmt}{a:Scope}{dV kV F pm d ct oc:Xd}{an od:Option Addr}
  {Z:Array (Option Value)} {N ps:X6} {sp:Sp} (lk:K.lookup f=some #[oc,od,.func (PySem.W.fnOf name c g h a dV kV F pm an d ct),Z]) (Y:PySem.W.codeIn K d c=true) (S:aX N ps a)
  (len:∀i H Q E,sp i H Q E->i.length=ps.length)
  (p:∀(A:X_) (outer:List Env) (s:X4) (H:Hp) (i:List V) (Q:VK) (E:XK),dv k (A.deeper (envOfC c a s.heap.objs.size f d))->sp i H Q E->
   ∃t,kQ (qf CX P w K mg base N c a f d A outer s H E) h t/\t {nx:=λ_ l=>Q .non l,rt:=Q} (start N i) H):
  bT P w K mg base CX (k+1) f (PySem.W.fnOf name c g h a dV kV F pm an d ct) ps sp:=by
 refine#[len,λA outer s H a2 us i Q E U M hb r C=>?_]
 let hl:=len _ _ _ _ C
 have KX:K.In s.heap:=M.mod.kin.keeps λb o e=>(M.bs b o e).1
 have a1:s.heap.NoLimit:=M.mod.nolimit.keeps λb o e=>(M.bs b o e).1
 have m:∀y∈ps.zip us,a.names.lookup y.1=some .local\/(a.names.lookup y.1=some .cell/\((cellsFrom (s.heap.objs.size+1) a.names []).lookup y.1).isSome=true):=λ⟨n,v⟩ hy=>by
  rcases S.par n (QeQ hy).1 with q|q
  ·exact .inl q
  ·exact .inr #[q,PySem.W.cellsFrom_some _ _ _ (.inl q)]
 refine codeAny_call_function U.depth (KX _ _ lk) L S.co S.gen L (PySem.W.codeRec_of KX Y) (hb _ _ _ _ ?_)
 refine wpAny_newFunctionEnv_cells S.kind m λa3 he s1 x=>?_
 subst he
 refine#[a1.keeps x.toInCall.keep,codeAny_func ?_]
 let#[t,ht,hq]:=p A outer s H i Q E (U.deeper _) C
 have I:Inv (qf CX P w K mg base N c a f d A outer s H E) [] (start N i) H s1:=uG S U.hd M hl r x
 refine QRq (ht [] s1 (start N i) H _ I hq) (λfl R z=>?_) λe R z=>z
 have B:∀{j:St} {l:Hp} {v:V} {u:Xd},Inv (qf CX P w K mg base N c a f d A outer s H E) [] j l R->RelV v u->Q v l->CE outer P w H s Q u R:=
  λ{j l v u} J X q=>#[v,l,J.os,J.bare,J.base,J.hok,X,q]
 cases fl with
 | ret u=>
   let#[v,j,l,J,X,q]:=z
   exact B J X q
 | next=>
   let#[j,l,J,q]:=z
   exact B (v:=V.non) (u:=Value.none) J L q
 | brk=>
   let#[_,_,_,q]:=z
   exact False.elim q
 | cont=>
   let#[_,_,_,q]:=z
   exact False.elim q
section
variable{X:Cx}{x:Str}{p pos:Pos}{e:Expr}{es:List Expr}{t:TA}{id T:String}{r:List V->Hp->VK->Prop}
def DP(r:List V->Hp->VK->Prop)(t:TA):TE:=λb H Q=>t b H λc a=>r c a Q
def e_(f:gJ X (.builtin id) r)(g:Gl X x)(k:X.mg x=none)(v:bootBuiltins x=some (.builtin id))(m:PA X (e::es) t)(i:autoParam (x≠"__name__") ac._auto_1)(b:autoParam ((x==("__debug__":Str))=false) ac._auto_1)
  (he:autoParam (starEach (e::es) X.env=(false,eval e X.env)::starEach es X.env) ad._auto_1) (hpl:autoParam ((backTo pos (starEach es X.env)).any (·.1)=false) ad._auto_1):PE X (.Call (.Name x p) (e::es) [] pos) (DP r t):=by
 intro a s c H Q I h
 refine wpAny_Call_Name_kw (oV I g k v ?_ i b)
 exact PyProof.Rows.callWith_builtin1 (cu (m pos a s c H _ I h) λd n ⟨q,o,j,u,l⟩=>f a n c o q d Q j u l) he hpl
def bG(f:gJ X (.type T) r)(g:Gl X x)(k:X.mg x=none)(v:bootBuiltins x=some (.type T))(m:PA X (e::es) t)(i:autoParam (x≠"__name__") ac._auto_1)(b:autoParam ((x==("__debug__":Str))=false) ac._auto_1)
  (he:autoParam (starEach (e::es) X.env=(false,eval e X.env)::starEach es X.env) ad._auto_1) (hpl:autoParam ((backTo pos (starEach es X.env)).any (·.1)=false) ad._auto_1):PE X (.Call (.Name x p) (e::es) [] pos) (DP r t):=by
 intro a s c H Q I h
 refine wpAny_Call_Name_kw (oV I g k v ?_ i b)
 exact PyProof.Rows.callWith_type1 (cu (m pos a s c H _ I h) λd n ⟨q,o,j,u,l⟩=>f a n c o q d Q j u l) he hpl
end
section
variable{κ:Type}[DecidableEq κ]
def jD(kvs:List (κ×V))(k:κ):Option V:=(kvs.find? λa=>decide (a.1=k)).map (·.2)
def putK(kvs:List (κ×V))(k:κ)(v:V):List (κ×V):=
 if (kvs.any λa=>decide (a.1=k))=true then kvs.map (λa=>if a.1=k then(a.1,v) else a) else kvs++ [(k,v)]
def qN{p:κ×V}{r:List (κ×V)}{k:κ}(e:p.1=k):jD (p::r) k=some p.2:=by simp[jD,List.find?_cons,e]
def pZ{p:κ×V}{r:List (κ×V)}{k:κ}(e:¬p.1=k):jD (p::r) k=jD r k:=by simp[jD,List.find?_cons,e]
def qQ(kvs:List (κ×V))(k:κ)(v:V):(putK kvs k v).length<=kvs.length+1:=by
 unfold putK
 split
 ·rw[lQm];omega
 ·rw[lQa,Qnq,QGq];omega
theorem lL.getD{o:Option V}{u:Option Value}{d:V}{d':Xd}(r:lL o u)(a:RelV d d'):RelV (o.getD d) (u.getD d'):=by
 cases o with
 | none=>cases u with
   |none=>exact a
   |some _=>exact(show False from r).elim
 | some _=>cases u with
   |none=>exact(show False from r).elim
   |some _=>exact r
def KV.val{kvs:List (κ×V)}{d:List (κ×Value)}(r:KV kvs d)(k:κ):lL (jD kvs k) (valueAt d k):=by
 unfold KV at r
 induction r with
 |nil=>exact True.intro
 | @cons p q ps qs h t ih=>
   let#[c,f]:=h
   by_cases e:p.1=k
   · have a:q.1=k:=c.symm.trans e
     have b:valueAt (q::qs) k=some q.2:=by simp[valueAt,List.find?_cons,a]
     rw[qN e,b];exact f
   · have a:¬q.1=k:=λz=>e (c.trans z)
     have b:valueAt (q::qs) k=valueAt qs k:=by simp[valueAt,List.find?_cons,a]
     rw[pZ e,b];exact ih
theorem KV.any{kvs:List (κ×V)}{b:List (κ×Value)}(r:KV kvs b)(k:κ):(kvs.any λa=>decide (a.1=k))=b.any λa=>decide (a.1=k):=by
 unfold KV at r
 induction r with
 |nil=>rfl
 |cons h t c=>rw[List.any_cons,List.any_cons,c,h.1]
def KV.repl{kvs:List (κ×V)}{c:List (κ×Value)}(r:KV kvs c)(k:κ){y:V}{u:Xd}(f:RelV y u):
  KV (kvs.map λa=>if a.1=k then(a.1,y) else a) (c.map λa=>if a.1=k then(a.1,u) else a):=by
 unfold KV at r|-
 induction r with
 |nil=>exact .nil
 | @cons p q ps qs h t ih=>
   rw[QDq,QDq]
   refine .cons ?_ ih
   let#[b,d]:=h
   by_cases e:p.1=k
   · rw[Qhq e,Qhq (b.symm.trans e)];exact#[b,f]
   · rw[Quq e,Quq (λz=>e (b.trans z))];exact#[b,d]
def KV.put{kvs:List (κ×V)}{a:List (κ×Value)}(r:KV kvs a)(k:κ){y:V}{u:Xd}(b:RelV y u):KV (putK kvs k y) (stored a k u):=by
 unfold putK stored
 rw[r.any k]
 by_cases e:(a.any λc=>decide (c.1=k))=true
 ·rw[Qhq e,Qhq e];exact r.repl k b
 ·rw[Quq e,Quq e];exact Paired.snoc r #[L,b]
end
def qL{P:X9}{w:Xc}{k:Key}{u:Xd}(r:RelV (kV k) u):(bD P w).is k u=true:=by
 cases k with
 |inl i=>let#[t,e]:=(show∃t,u=Value.int i t from r);subst e;exact qX P w i t
 |inr x=>let#[t,e]:=(show∃t,u=Value.str x t from r);subst e;exact qS P w x t
theorem nU{P:X9}{w:Xc}:∀{a:List Key} {b:X5},aU (a.map kV) b->ItemsAre (bD P w) a b
 | [],_,r=>by rw[List.map_nil] at r;cases r;exact .nil
 | k::a,_,r=>by
   rw[QDq] at r
   cases r with
   |cons h t=>exact .cons (qL h) (nU t)
abbrev KT(H:Hp):List (List Key×V)->List (List Key×Addr×Value)->Prop:=Paired λp q=>p.1=q.1/\H q.2.1=some (.tup (p.1.map kV))/\RelV p.2 q.2.2
def KT.val{H:Hp}{kvs:List (List Key×V)}{xs:List (List Key×Addr×Value)}(r:KT H kvs xs)(k:List Key):lL (jD kvs k) ((atKey xs k).map (·.2)):=by
 induction r with
 |nil=>exact True.intro
 | @cons p q ps qs h t ih=>
   let#[c,_,d]:=h
   by_cases e:p.1=k
   · have a:q.1=k:=c.symm.trans e
     have b:atKey (q::qs) k=some q.2:=by simp[atKey,List.find?_cons,a]
     rw[qN e,b];exact d
   · have a:¬q.1=k:=λz=>e (c.trans z)
     have b:atKey (q::qs) k=atKey qs k:=by simp[atKey,List.find?_cons,a]
     rw[pZ e,b];exact ih
section
variable{P:X9}{w:Xc}{H:Hp}{h:Xe}{a:X8}
def zf{u:HO}(ok:jz P w H h)(e:Rd H a u):cm P w H h a u:=e.ok ok
def p0{kvs:List (Key×V)}(ok:jz P w H h)(e:Rd H a (.dK kvs)):kvs.length<=sizeLine/\(a==sysModules)=false/\∃b,KV kvs b/\h.DictOf (bD P w) a b:=
 show cm P w H h a (.dK kvs) from zf ok e
def zc{kvs:List (Key×V)}(ok:jz P w H h)(e:H a=some (.dK kvs)):kvs.length<=sizeLine/\(a==sysModules)=false/\∃b,KV kvs b/\h.DictOf (bD P w) a b:=p0 ok (.inl e)
def rD{c:List Key}(ok:jz P w H h)(e:H a=some (.tup (c.map kV))):(tupleKind (bD P w)).is h c a:=by
 let#[_,b,r,o,d,g,_,n,f]:=(show cm P w H h a (.tup (c.map kV)) from ok a _ e)
 exact#[o,b.toArray,n,d,g,f,by simpa using nU r]
def sF{kvs:List (List Key×V)}(ok:jz P w H h)(e:Rd H a (.dT kvs)):kvs.length<=sizeLine/\(a==sysModules)=false∧
  ∃xs,KT H kvs xs/\h.DictOfH (tupleKind (bD P w)) a xs:=by
 let#[z,y,xs,r,o,f,k,d,i,g,n,j]:=(show cm P w H h a (.dT kvs) from zf ok e)
 refine#[z,y,xs,r,o,f,k,d,i,g,n,λx b=>?_,j]
 have c:∀{l:List (List Key×V)} {m:List (List Key×Addr×Value)},KT H l m->∀x∈m,(tupleKind (bD P w)).is h x.1 x.2.1:=by
  intro l m q
  induction q with
  |nil=>intro x b;exact nomatch b
  | @cons p q ps qs hq t ih=>
    intro x b
    rcases Qsq.mp b with e|b
    · subst e
      exact rD ok (by rw[<-hq.1];exact hq.2.1)
    · exact ih x b
 exact c r x b
end
def pT(H:Hp)(a:X8)(y:V)(r:Option V):Prop:=
 (∃c k,Rd H a (.dK c)/\y=kV k/\r=jD c k)\/∃c k b,Rd H a (.dT c)/\y=.ref b/\H b=some (.tup (k.map kV))/\r=jD c k
def pT.k{H:Hp}{a:X8}{kvs:List (Key×V)}{k:Key}(e:H a=some (.dK kvs)):pT H a (kV k) (jD kvs k):=.inl #[kvs,k,.inl e,L,L]
section
variable{X:Cx}{pins:X2}{σ:St}{H:Hp}{s:X4}{a:X8}{y v:V}{u r:Xd}{o:Option V}{A:X_}{E:X0}
def Inv.big(I:Inv X pins σ H s):sysModules<s.heap.objs.size:=by
 have h:mainGlobals<s.heap.objs.size:=(I.mod.glob.keeps I.bk).lt
 exact Nat.lt_trans (!1) h
def ux{Q:X0}(J:A.units+1<cLine)(I:Inv X pins σ H s)(g:pT H a y (some v))(x:RelV y u)(h:∀f t,Inv X pins σ H t->RelV v f->Q f t):
  wpAny (model X.prog X.w) A (getItem (.ref a) u) Q E s:=by
 rcases g with⟨i,k,e,n,l⟩|⟨i,k,b,e,n,B,l⟩
 ·subst n
  let#[z,F,K,d,j]:=p0 I.hok e
  let#[f,q,c]:=lL.some_of (v:=v) (o:=valueAt K k) (by rw[l];exact d.val k)
  exact wpAny_getItem_of (qL x) j.mapOf q (h f _ (I.tok _) c)
 ·subst n
  cases (show u=Value.ref b from x)
  let#[z,F,M,d,j]:=sF I.hok e
  let#[f,q,c]:=lL.some_of (v:=v) (o:=(atKey M k).map (·.2)) (by rw[l];exact d.val k)
  let#[p,C,m]:=oQm.mp q
  refine wpAny_getItem_heap (tupleKind_room_in1 J) (rD I.hok B) j C ?_
  rw[m]
  exact h f _ (I.tok _) c
def yC{h':Xe}{t':Nat}{c:HO}(I:Inv X pins σ H s)(g:Bp (H a))(d:Heap.SameBut a s.heap h')(he:∃q,h'.get? a=some q)(new:cm X.prog X.w (upd H a c) h' a c):
  Inv X pins σ (upd H a c) {s with heap:=h',toks:=t'}:=
 I.write (x:=a) (e:=a) g (.inl L) (λb q f z=>(d.2 b f).trans z) he new
def z8{P:X9}{w:Xc}{f:Hp}{h':Xe}{kvs:List (Key×V)}{c:List (Key×Value)}(z:kvs.length<=sizeLine)(d:(a==sysModules)=false)(b:KV kvs c)(e:h'.DictOf (bD P w) a c):
  cm P w f h' a (.dK kvs):=#[z,d,c,b,e]
end
def yd(i:Expr):Prop:=∀a b,subscripted i false a b=operate [a,b] (getItem a b)
def tf{prog:X9}{w:Xc}{A:X_}{E:X0}{s:X4}{env:Env}{b a:Expr}{l:Pos}{T id:String}{Q:X0}
  (n:typeLookup (.type T) "__getitem__"=pure (some (.builtin id))) (p:yd a)
  (h:wpAny (model prog w) A (eval b env) (λo f=>wpAny (model prog w) A (eval a env) (λi c=>c.TypeIs o T/\wpAny (model prog w) A (getItem o i) Q E c) E f) E s):
  wpAny (model prog w) A (eval (.Subscript b a l) env) Q E s:=by
 refine Subscript_ (QRq h (λo f j=>QRq j (λi c d=>?_) λ_ _ x=>x) λ_ _ x=>x)
 let#[m,d]:=d
 unfold subscriptTail
 refine Qaq ?_
 rw[getitemInPython_of_ne m.not_modules]
 refine Qaq (wpAny_specialOf m n ?_)
 have g:wpAny (model prog w) A (subscripted a false o i) (λr e=>wpAny (model prog w) A (letTemporaryGo b o r >>= λ_=>pure r) Q E e) E c:=by
  rw[p o i]
  exact wpAny_operating (QRq d (λr e k=>Qaq (wpAny_letTemporaryGo (Qgq k))) λ_ _ x=>x)
 first
  |exact Qgq (Qaq g)
  |exact Qaq (Qgq (Qaq g))
  |exact Qaq g
def p9{X:Cx}{c:X2}{h:St}{H:Hp}{s:X4}{a:X8}{y:V}{o:Option V}(I:Inv X c h H s)(g:pT H a y o):s.TypeIs (.ref a) "dict":=by
 rcases g with⟨d,k,e,_,_⟩|⟨d,k,b,e,_,_,_⟩
 ·let#[_,_,j,_,f]:=p0 I.hok e
  exact f.typeIs
 ·let#[_,_,i,_,f]:=sF I.hok e
  exact f.typeIs
def Cc(e d:TE):TE:=λc H Q=>e c H λx f=>d c f λy b=>∃a v,x=.ref a/\pT b a y (some v)/\Q v b
section
variable{X:Cx}{o i e value:Expr}{pos pos' tpos:Pos}{td ty tv:TE}
def xG(l:X.A.units+1<cLine)(k:PE X o td)(hi:PE X i ty)(J:yd i):PE X (.Subscript o i pos) (Cc td ty):=by
 intro b s f H Q I h
 refine tf PySem.F.slot_dict_getitem.lookup J (cu (k b s f H _ I h) λu r ⟨x,w,m,C,p⟩=>cu (hi b r f w _ m p) λK M q=>?_)
 let#[y,z,d,t,a,v,B,g,j]:=q
 subst B
 obtain rfl:u=Value.ref a:=C
 exact#[p9 d g,ux l d g t λN P n c=>#[v,z,n,c,j]]
end
def vA{P:X9}{w:Xc}{H:Hp}(h:Xe)(a:sysModules<h.objs.size):cm P w H (h.push {cls:=.type "dict",data:=.dict (List.toArray [])}) h.objs.size (.dK []):=
 #[Nat.zero_le _,beq_eq_false_iff_ne.mpr (Ne.symm (Qwq a)),[],.nil,Heap.DictOf.new h]
def oP:List (TE×TE)->St->Hp->(List (V×V)->Hp->Prop)->Prop
 | [],_,H,Q=>Q [] H
 |(tk,tv)::r,σ,H,Q=>tk σ H λx d=>tv σ d λy a=>oP r σ a λb c=>Q ((x,y)::b) c
abbrev VV:List (V×V)->List (Value×Value)->Prop:=Paired λp q=>RelV p.1 q.1/\RelV p.2 q.2
def Bq(X:Cx)(f:Pos)(c:List (Option Expr))(a:List Expr)(d:List (TE×TE)):Prop:=
 ∀ (b:X2) (s:X4) (e:St) (H:Hp) (Q:List (V×V)->Hp->Prop),Inv X b e H s->oP d e H Q->
   wpAny (model X.prog X.w) X.A (evalPairs (pairTrees c a X.env f)) (λj i=>∃h g,Inv X b e g i/\VV h j/\Q h g) X.xe s
def xR{X:Cx}{a:Pos}:Bq X a [] [] []:=λb s c H Q I h=>pairTrees_nil_walk #[[],H,I,.nil,h]
def uV{X:Cx}{c:Pos}{k v:Expr}{g:List (Option Expr)}{j:List Expr}{i f:TE}{b:List (TE×TE)}(t:PE X k i)(M:PE X v f)(l:Bq X c g j b):
  Bq X c (some k::g) (v::j) ((i,f)::b):=λa s d H Q I h=>
 pairTrees_cons_walk (cu (t a s d H _ I h) λu w ⟨x,F,n,K,r⟩=>cu (M a w d F _ n r) λN p ⟨y,J,q,A,m⟩=>
  cu (l a p d J _ q m) λP R ⟨B,C,o,e,z⟩=>#[(x,y)::B,C,o,.cons #[K,A] e,z])
def fE(kvs a:List (Key×V)):List (Key×V):=a.foldl (λb c=>putK b c.1 c.2) kvs
def KV.merge:∀{a:List (Key×V)} {c:List (Key×Value)} {kvs:List (Key×V)} {b:List (Key×Value)},KV a c->KV kvs b->KV (fE kvs a) (merged b c):=by
 intro a c kvs b r
 unfold KV at r
 induction r generalizing kvs b with
 |nil=>intro q;exact q
 | @cons p q ps qs h t ih=>
   intro d
   have e:KV (putK kvs p.1 p.2) (stored b q.1 q.2):=by
     have:=d.put p.1 h.2
     rw[<-h.1];exact this
   exact ih e
theorem iM:∀(a kvs:List (Key×V)),(fE kvs a).length<=kvs.length+a.length
 | [],kvs=>by show kvs.length<=kvs.length+0;omega
 | p::r,kvs=>by
   let b:=iM r (putK kvs p.1 p.2)
   let c:=qQ kvs p.1 p.2
   show(fE (putK kvs p.1 p.2) r).length<=_
   rw[Qnq];omega
theorem lZ{P:X9}{w:Xc}:∀{kvs:List (Key×V)} {ws:List (Value×Value)},VV (kvs.map λe=>(kV e.1,e.2)) ws->∃d,Carries (bD P w) ws d/\KV kvs d
 | [],_,r=>by rw[List.map_nil] at r;cases r;exact#[[],True.intro,.nil]
 | p::kvs,_,r=>by
   rw[QDq] at r
   cases r with
   | @cons a b as bs h t=>
     let#[d,c,q]:=lZ (P:=P) (w:=w) t
     let#[g,f]:=b
     exact#[(p.1,f)::d,#[qL h.1,L,c],.cons #[L,h.2] q]
def Bu(b:List (TE×TE)):TE:=λf H Q=>∀p,H p=none->oP b f (upd H p (.dK [])) λe d=>d p=some (.dK [])/\∃a:List (Key×V),e=a.map (λc=>(kV c.1,c.2))/\a.length<=15/\Q (.ref p) (upd d p (.dK (fE [] a)))
def xF{X:Cx}{j:Pos}{b:List (Option Expr)}{d:List Expr}{i:List (TE×TE)}(h:Bq X j b d i)(k:b.all (·.isSome)=true)(J:b.length=d.length)(R:b≠[])
  (m:b.length<=15):PE X (.Dict b d j) (Bu i):=by
 intro l s N H Q I q
 let A:=I.hok.fresh (Qmq s.heap.objs.size)
 let B:=I.laid (a:=s.heap.objs.size) (o:=.dK []) (h':=s.heap.push {cls:=.type "dict",data:=.dict (List.toArray [])}) (t':=s.toks) (λ_ _ q=>Qcq _ q) (Qmq _) (vA s.heap I.big)
 refine wpAny_Dict_walk (knd:=bD X.prog X.w) k J R m (cu (h l _ N _ _ B (q _ A)) λws Z K=>?_)
 let#[ps,H2,p,n,e,f,S,Y,v]:=K
 subst S
 let#[u,c,M]:=lZ (P:=X.prog) (w:=X.w) n
 let#[z,y,U,x,C]:=zc p.hok e
 cases x
 refine#[u,c,C,λh' g W=>#[.ref s.heap.objs.size,_,?_,L,v]]
 have F:(fE [] f).length<=sizeLine:=by
  let t:=iM f []
  rw[QGq] at t
  rw[sizeLine_eq];omega
 have r:∃q,h'.get? s.heap.objs.size=some q:=let ⟨q,_,_,hq,_⟩:=g;#[q,hq]
 exact yC p (by rw[e];exact True.intro) W r (z8 F y (M.merge .nil) g)
structure M2(X:Cx)(o:Expr)(m:Str)(apos:Pos)(e f:Expr)(cpos:Pos):Prop where
 base:attributeBase o m X.env (eval o X.env)=eval o X.env
 few:((backTo cpos (starEach [e,f] X.env)).all (λx=> !x.1)&&(backToKw cpos (keywordEach [] X.env)).all (λx=>x.1.isSome)
  &&decide (([e,f]:List Expr).length+([]:List Keyword).length+(if ([]:List Keyword).isEmpty then 0 else 1)<30))=true
 line:(apos.endLine==cpos.line)=true
 trees:backTo cpos (starEach [e,f] X.env)= [(false,eval e X.env),(false,eval f X.env)]
def D8(H:Hp)(a:X8):Prop:=(∃b,Rd H a (.dK b))\/∃b,Rd H a (.dT b)
def Bb{X:Cx}{g:X2}{l:St}{H:Hp}{s:X4}{a:X8}(I:Inv X g l H s)(d:D8 H a):
  s.TypeIs (.ref a) "dict" /\(∀b,Value.ref a=.ref b->∃c,s.heap.get? b=some c/\c.dict=none)/\(a==sysModules)=false:=by
 rcases d with⟨i,e⟩|⟨i,e⟩
 ·let#[_,j,m,_,f]:=p0 I.hok e
  refine#[f.typeIs,λb q=>?_,j]
  cases q
  let#[c,_,_,h,k,_]:=f
  exact#[c,h,k.2.1]
 ·let#[_,j,n,_,f]:=sF I.hok e
  refine#[f.typeIs,λb q=>?_,j]
  cases q
  let#[c,_,_,h,k,_]:=f
  exact#[c,h,k.2.1]
section
variable{X:Cx}{pins:X2}{σ:St}{H:Hp}{s:X4}{a:X8}{y d:V}{u r:Xd}{o:Option V}{A:X_}{E:X0}
def zI{Q:X0}(x:A.units+1<cLine)(I:Inv X pins σ H s)(g:pT H a y o)(p:RelV y u)(t:RelV d r)(h:∀q n,Inv X pins σ H n->RelV (o.getD d) q->Q q n):
  wpAny (model X.prog X.w) A (call (.builtin "dict.get") [.ref a,u,r]) Q E s:=by
 rcases g with⟨i,k,e,m,l⟩|⟨i,k,b,e,m,v,l⟩
 ·subst m
  let#[z,j,C,c,f]:=p0 I.hok e
  refine call_meetsIn PySem.F.slot_dict_get f.typeIs PySem.F.entry_dict_get (PySem.F.args_dict_get_3 _ _ _) (meets_dict_get_default (bD X.prog X.w) a (qL p) j r) #[_,f.mapOf,h _ _ (I.tok _) ?_]
  rw[l]
  exact(c.val k).getD t
 ·subst m
  cases (show u=Value.ref b from p)
  let#[z,j,B,c,f]:=sF I.hok e
  refine call_meetsIn PySem.F.slot_dict_get f.typeIs PySem.F.entry_dict_get (PySem.F.args_dict_get_3 _ _ _) (meetsH_dict_get_default (tupleKind (bD X.prog X.w)) a b j r) #[tupleKind_room_in1 x,k,B,rD I.hok v,f,h _ _ (I.tok _) ?_]
  rw[l]
  exact(c.val k).getD t
end
def Al(f e g:TE):TE:=λb H Q=>f b H λx d=>∃a,x=.ref a/\D8 d a/\e b d λy h=>g b h λz c=>∃o,pT c a y o/\Q (o.getD z) c
section
variable{X:Cx}{o e f:Expr}{apos cpos:Pos}{td ty tx:TE}
def vc(r:X.A.units+1<cLine)(p:PE X o td)(he:PE X e ty)(k:PE X f tx)(m:M2 X o "get" apos e f cpos):PE X (.Call (.Attribute o "get" apos) [e,f] [] cpos) (Al td ty tx):=by
 intro b s i H Q I h
 refine wpAny_Call_method m.base m.few m.line PySem.F.plainAttrs_dict PySem.F.slot_dict_get PySem.F.type_dict_get (cu (p b s i H _ I h) λu K C=>?_)
 let#[x,R,j,W,a,U,d,B]:=C
 subst U
 obtain rfl:u=Value.ref a:=W
 let#[Y,N,_]:=Bb j d
 refine#[Y,N,?_]
 rw[m.trees]
 refine Calls.callWith_builtin L (Calls.evalArgs_plain (Calls.spliced_cons (cu (he b K i R _ j B) λZ v ⟨y,S,w,M,n⟩=>
  Calls.spliced_cons (cu (k b v i S _ w n) λfv s3 ⟨z,P,t,l,ov,g,J⟩=>Calls.spliced_nil ?_))))
 exact zI r t g M l λw' s4 q c=>#[_,P,q,c,J]
end
end L2
namespace HT
open PySem PyProof.Rows
section
open PySem.SeqAt
open PySem.AutoSeq1 (wpAny_loadPart')
open PySem.MeetsSeq PySem.MeetsSeq2 PySem.MeetsSeq3
end
section
variable{prog:X9}{w:Xc}{A:X_}{E:X0}{s:X4}
def xu{t b:X8}{c ws:X5}{Q:X0}(ht:IsTup s.heap t c.toArray)(y:IsTup s.heap b ws.toArray)(u:c≠[])
  (v:ws= []->Q (.ref t) s) (x:ws≠[]->Q (.ref s.heap.objs.size) {s with heap:=s.heap.push {cls:=.type "tuple",data:=.seq (c++ws).toArray}})
  (l:c.length+ws.length<=sizeLine):wpAny (model prog w) A (binaryOp .Add (.ref t) (.ref b)) Q E s:=by
 let#[#[cls,p,data,sl],i,m,n,o]:=id ht
 let#[#[q,d,k,h],a,g,r,f]:=id y
 simp only at m o g f
 subst m o g f
 have e:c.toArray++ws.toArray=(c++ws).toArray:=by simp
 by_cases j:ws= []
 ·exact concat_meets #[_,i,L] #[_,a,L] noFill_tuple_add seq_tuple_add PySem.F.slot_tuple_add PySem.F.entry_tuple_add (PySem.F.args_tuple_add_2 _ _)
   (tuple_addW1 t b c.toArray ws.toArray n r p d sl h (by simpa using u) (by simp[j])) #[i,a,v j]
 ·refine concat_meets #[_,i,L] #[_,a,L] noFill_tuple_add seq_tuple_add PySem.F.slot_tuple_add PySem.F.entry_tuple_add (PySem.F.args_tuple_add_2 _ _)
   (tuple_addW2 t b c.toArray ws.toArray n r p d sl h (by simpa using u) (by simpa using j) (by rw[Qjq,Qjq];exact l)) #[i,a,?_]
  rw[e]
  exact x j
def cV(n d:Nat):Option Int->Nat
 |none=>d
 |some v=>if v<0 then(v+(n:Int)).toNat else min v.toNat n
def qh(n d:Nat):cV n d none=d:=rfl
def tE(n d k:Nat):cV n d (some (k:Int))=min k n:=by
 show(if (k:Int)<0 then((k:Int)+(n:Int)).toNat else min (k:Int).toNat n)=min k n
 rw[Quq (!0),Int.toNat_natCast]
def z1(n d:Nat)(b:d<=n)(o:Xb):cV n d o<=n:=by
 cases o with
 |none=>exact b
 | some v=>
   show(if v<0 then(v+(n:Int)).toNat else min v.toNat n)<=n
   by_cases a:v<0
   · rw[Qhq a];omega
   · rw[Quq a];exact Nat.min_le_right _ _
def tP(v:Int)(n d:Nat):(if v<0 then max (v+(n:Int)) 0 else min v (n:Int))=((cV n d (some v):Nat):Int):=by
 show(if v<0 then max (v+(n:Int)) 0 else min v (n:Int))=(((if v<0 then(v+(n:Int)).toNat else min v.toNat n):Nat):Int)
 by_cases a:v<0
 ·erw[Qhq a];omega
 ·erw[Quq a];omega
def rX(lo hi:Xb)(n:Nat):Builtin.Slice.sliceAdjust lo hi 1 (n:Int)=(((cV n 0 lo:Nat):Int),((cV n n hi:Nat):Int)):=by
 have a:¬((1:Int)<0):=by omega
 unfold Builtin.Slice.sliceAdjust
 erw[a,if_false]
 refine Prod.ext ?_ ?_
 ·cases lo with
  |none=>rfl
  |some v=>exact tP v n 0
 ·cases hi with
  |none=>rfl
  |some v=>exact tP v n n
def rB(i j:Nat):Builtin.Slice.slicePlaces (i:Int) (j:Int) 1=j-i:=by
 unfold Builtin.Slice.slicePlaces
 have a:(1:Int)>0:=by omega
 erw[a,if_true,Int.ediv_one]
 split <;>omega
def lP{v:Xd}{o:Xb}{Q:Option Int->Shared->Prop}(p:IsPart v o)(h:Q o s):wpAny (model prog w) A (Builtin.Slice.slicePartIndex v) Q E s:=by
 cases p with
 |none=>exact slicePart_none h
 |int i t=>exact slicePart_int h
def fQ{sl:X8}{c d:Xd}{lo hi:Xb}{n:Nat}{Q:Int×Int×Nat->Shared->Prop}(f:s.heap.IsSliceOf sl c d .none)(g:IsPart c lo)(i:IsPart d hi)
  (h:Q (((cV n 0 lo:Nat):Int),1,cV n n hi-cV n 0 lo) s):wpAny (model prog w) A (Builtin.Slice.sliceApplied (.ref sl) (pure (n:Int))) Q E s:=by
 let#[j,a,e,b]:=id f
 unfold Builtin.Slice.sliceApplied Builtin.Slice.sliceFields
 refine Qaq (Qaq (QMq a b (x:=c) L (Qaq (QMq a b (x:=d) L (Qaq (QMq a b (x:=.none) L (Qgq ?_)))))))
 refine Qaq (slicePart_none ?_)
 show wpAny _ _ (if ((1:Int)==0)=true then _ else _) _ _ s
 rw[Quq (!1)]
 refine Qaq (lP g (Qaq (lP i (Qaq (Qgq ?_)))))
 show wpAny _ _ (match Builtin.Slice.sliceAdjust lo hi 1 (n:Int) with|(lo,hi)=>pure (lo,(1:Int),Builtin.Slice.slicePlaces lo hi 1)) _ _ s
 rw[rX lo hi n]
 show wpAny _ _ (pure (((cV n 0 lo:Nat):Int),(1:Int),Builtin.Slice.slicePlaces ((cV n 0 lo:Nat):Int) ((cV n n hi:Nat):Int) 1)) _ _ s
 rw[rB]
 exact Qgq h
def wI(xs:Xa)(i k:Nat):((List.range k).filterMap λ(m:Nat)=>xs[((i:Int)+(m:Int)*1).toNat]?).toArray=((xs.toList.drop i).take k).toArray:=by
 have e:(λ(m:Nat)=>xs[((i:Int)+(m:Int)*1).toNat]?)=λm=>xs[i+m]? :=by
  funext m
  have:((i:Int)+(m:Int)*1).toNat=i+m:=by omega
  rw[this]
 rw[e]
 have:=pick_run xs i k
 rw[List.filterMap_map] at this
 have a:((λx=>xs[x]?)∘λx=>i+x)=λm=>xs[i+m]? :=rfl
 rw[a] at this
 rw[this]
def jy{t sl:X8}{items:Xa}{i f:Xd}{lo hi:Xb}{Q:X0}(ht:IsTup s.heap t items)(g:s.heap.IsSliceOf sl i f .none)(j:IsPart i lo)(n:IsPart f hi)
  (p:¬(cV items.size 0 lo=0/\cV items.size items.size hi=items.size))
  (h:Q (.ref s.heap.objs.size) {s with heap:=s.heap.push {cls:=.type "tuple",data:=.seq ((items.toList.drop (cV items.size 0 lo)).take (cV items.size items.size hi-cV items.size 0 lo)).toArray}})
  (o:items.size<=sizeLine):wpAny (model prog w) A (getItem (.ref t) (.ref sl)) Q E s:=by
 have a:sizeOk (.seq ((items.toList.drop (cV items.size 0 lo)).take (cV items.size items.size hi-cV items.size 0 lo)).toArray):=by
  show((items.toList.drop (cV items.size 0 lo)).take (cV items.size items.size hi-cV items.size 0 lo)).toArray.size<=sizeLine
  rw[Qjq,Qxq,List.length_drop,Array.length_toList]
  omega
 have u:cV items.size items.size hi<=items.size:=z1 _ _ (Qmq _) hi
 let#[l,b,c,k]:=id g
 have e:s.TypeIs (.ref sl) "slice":=#[l,b,c]
 unfold getItem
 try with_reducible refine QLq ?_
 first|refine Qaq (Qgq ?_)|skip
 refine Qaq (wpAny_sequenceKey ht.typeIs (!1) ?_)
 refine Qaq (QiQ (name:=Str.ofString "__getitem__") ht.typeIs PyProof.Rows.slot_tuple_getitem
  (wpAny_call_entry PyProof.Rows.slot_tuple_getitem ht.typeIs entry_tuple_getitem ?_ (args_tuple_getitem _ _)))
 show wpAny _ _ (Builtin.Tuple.tupleItemsOf (.ref t) >>= _) _ _ s
 refine Qaq (tupleItemsOf_ ht ?_)
 refine Qaq (wpAny_typeOf e ?_)
 rw[Qhq (!1)]
 refine Qaq (fQ g j n ?_)
 have d:¬((((cV items.size 0 lo:Nat):Int)==0&&(1:Int)==1&&(cV items.size items.size hi-cV items.size 0 lo)==items.size)=true):=by
  intro q
  rw[QCq,QCq] at q
  have v:((cV items.size 0 lo:Nat):Int)=0:=eq_of_beq q.1.1
  have r:cV items.size items.size hi-cV items.size 0 lo=items.size:=eq_of_beq q.2
  exact p #[by omega,by omega]
 show wpAny _ _ (if (((cV items.size 0 lo:Nat):Int)==0&&(1:Int)==1&&(cV items.size items.size hi-cV items.size 0 lo)==items.size)=true then _ else _) _ _ s
 rw[Quq d,wI]
 first
  |exact Qaq (m:=Builtin.Tuple.tupleExact _) (QhQ (Qgq #[_,L,Qgq h]) a)
  |exact Qaq (m:=Builtin.Tuple.tupleExact _) (QhQ (Qaq (Qgq (Qgq #[_,L,Qgq h]))) a)
  |exact Qaq (Qaq (m:=Builtin.Tuple.tupleExact _) (QhQ (Qgq (Qgq #[_,L,Qgq h])) a))
  |exact Qaq (Qaq (m:=Builtin.Tuple.tupleExact _) (QhQ (Qgq #[_,L,Qgq h]) a))
end
end HT
namespace L2
open PySem PySem.Spec PyProof.Rows
abbrev TO:=St->Hp->(Option Int->Hp->Prop)->Prop
def PO(X:Cx)(e:Option Expr)(t:TO):Prop:=
 ∀ (a:X2) (s:X4) (b:St) (H:Hp) (Q:Option Int->Hp->Prop),Inv X a b H s->t b H Q->
   wpAny (model X.prog X.w) X.A (evalPart e X.env) (λu d=>∃o c,Inv X a b c d/\IsPart u o/\Q o c) X.xe s
def xT:TO:=λ_ H Q=>Q none H
def Cb(t:TE):TO:=λb H Q=>t b H λx a=>∃i,x=.int i/\Q (some i) a
section
variable{X:Cx}{e:Expr}{te:TE}{lo hi:Option Expr}{tl th:TO}{pos p2:Pos}
def yE:PO X none xT:=by
 intro a s b H Q I h
 rw[evalPart_none]
 exact Qgq #[none,H,I,.none,h]
def ym(h:PE X e te):PO X (some e) (Cb te):=by
 intro a s g H Q I k
 rw[evalPart_some]
 refine cu (h a s g H _ I k) λu l c=>?_
 let#[x,f,d,j,b]:=c
 let#[i,rfl,q]:=b
 let#[t,rfl]:=j
 exact#[some i,f,d,.int i t,q]
def C9(X:Cx)(r:V->Option Int->Option Int->Hp->VK->Prop):Prop:=
 ∀ (a:X2) (s:X4) (d:St) (H:Hp) (x:V) (v b c:Xd) (lo hi:Xb) (sl:X8) (Q:VK),Inv X a d H s->RelV x v->s.heap.IsSliceOf sl b c .none->IsPart b lo->IsPart c hi->r x lo hi H Q->
   ∃T id,typeLookup (.type T) "__getitem__"=pure (some (.builtin id))/\s.TypeIs v T/\wpAny (model X.prog X.w) X.A (getItem v (.ref sl)) (EP X a d Q) X.xe s
def Ez(r:V->Option Int->Option Int->Hp->VK->Prop)(te:TE)(tl th:TO):TE:=λa H Q=>te a H λx d=>tl a d λl b=>th a b λu c=>r x l u c Q
def qm{r:V->Option Int->Option Int->Hp->VK->Prop}(m:C9 X r)(he:PE X e te)(F:PO X lo tl)(p:PO X hi th):PE X (.Subscript e (.Slice lo hi none p2) pos) (Ez r te tl th):=by
 intro a s d H Q I h
 refine Subscript_ (cu (he a s d H _ I h) λv K i=>?_)
 let#[x,N,t,R,C]:=i
 refine wpAny_Slice (cu (F a K d N _ t C) λg z ⟨l,P,B,k,n⟩=>cu (p a z d P _ B n) λf c i=>?_)
 let#[u,j,y,J,M]:=i
 rw[evalPart_none]
 refine Qgq ?_
 have o:Inv X a d j {c with heap:=c.heap.push {cls:=.type "slice",data:=.fields (List.toArray [g,f,.none])}}:=y.kept (t':=c.toks) λb S q=>Qcq _ q
 let#[T,id,hT,ht,hg]:=m a {c with heap:=c.heap.push {cls:=.type "slice",data:=.fields (List.toArray [g,f,.none])}} d j x v g f l u c.heap.objs.size Q o R (Heap.IsSliceOf.new ..) k J M
 show wpAny (model X.prog X.w) X.A (subscriptTail e (.Slice lo hi none p2) v (.ref c.heap.objs.size)) (EP X a d Q) X.xe {c with heap:=c.heap.push {cls:=.type "slice",data:=.fields (List.toArray [g,f,.none])}}
 exact tail_any (ops:= [.ref c.heap.objs.size,v]) ht hT hg (by with_unfolding_all rfl)
def pj(xs:List V)(lo hi:Xb):List V:=(xs.drop (HT.cV xs.length 0 lo)).take (HT.cV xs.length xs.length hi-HT.cV xs.length 0 lo)
def ki(xs:List V)(lo hi:Xb):(pj xs lo hi).length<=xs.length:=by
 unfold pj
 rw[Qxq,List.length_drop]
 omega
def D0(K:X1):V->Option Int->Option Int->Hp->VK->Prop:=λx lo hi H Q=>∃a b,x=.ref a/\fL K H a b∧
 ¬(HT.cV b.length 0 lo=0/\HT.cV b.length b.length hi=b.length)/\∀p,H p=none->Q (.ref p) (upd H p (.tup (pj b lo hi)))
def z0:C9 X (D0 X.K):=by
 intro j s t H x v w p lo hi sl Q I m n k l h
 let#[a,d,rfl,hx,hw,q]:=h
 cases m
 let#[f,r,g,i]:=I.tuple hx
 have c:f.toArray.size=d.length:=by rw[Qjq];exact r.length.symm
 refine#["tuple",_,PyProof.Rows.slot_tuple_getitem.lookup,g.typeIs,?_]
 refine HT.jy g n k l (by rw[c];exact hw) ?_ (by rw[c];exact i)
 rw[c]
 refine#[.ref s.heap.objs.size,_,I.laid (t':=s.toks) (o:=.tup (pj d lo hi)) (λb u q=>Qcq _ q) (Qmq _) ?_,L,q _ (I.hok.fresh (Qmq _))]
 exact#[QAq (ki d lo hi) i,_,(r.drop (HT.cV d.length 0 lo)).take (HT.cV d.length d.length hi-HT.cV d.length 0 lo),p8.new _ _]
def yR(K:X1):R2:=λx y H Q=>∃a b d c,x=.ref a/\y=.ref b/\fL K H a d/\fL K H b c/\d≠[]/\d.length+c.length<=sizeLine∧
 (c= []->Q (.ref a) H)/\(c≠[]->∀p,H p=none->Q (.ref p) (upd H p (.tup (d++c))))
def aU.nil_iff{xs:List V}{a:X5}(r:aU xs a):a= []↔xs= []:=by
 cases r with
 |nil=>simp
 |cons _ _=>simp
def yt:iK X (binaryOp .Add) (yR X.K):=by
 intro g s p H x y v u Q I l k h
 let#[a,b,n,m,rfl,rfl,ha,hb,hx,hz,q1,q2]:=h
 cases l
 cases k
 let#[i,d,j,_]:=I.tuple ha
 let#[f,c,p2,_]:=I.tuple hb
 refine HT.xu j p2 (λz=>hx (d.nil_iff.mp z)) (λz=>#[.ref a,H,I,L,q1 (c.nil_iff.mp z)]) (λz=>?_) (by rw[<-d.length,<-c.length];exact hz)
 refine#[.ref s.heap.objs.size,_,I.laid (t':=s.toks) (o:=.tup (n++m)) (λb r q=>Qcq _ q) (Qmq _) ?_,L,q2 (λw=>z (c.nil_iff.mpr w)) _ (I.hok.fresh (Qmq _))]
 exact#[by rw[lQa];exact hz,_,d.append c,p8.new _ _]
end
def ud(n:Nat)(i:Int):Option Nat:=if 0<=i then(if i<n then some i.toNat else none) else if -(n:Int)<=i then some (i+n).toNat else none
def j4{α:Type}(xs:List α)(i:Int):Option α:=(ud xs.length i).bind λj=>xs[j]?
def ll{n:Nat}{i:Int}{j:Nat}(h:ud n i=some j):seqIndex? i n=some j/\j<n/\ -(n:Int)<=i/\i<n:=by
 unfold ud at h
 by_cases b:0<=i
 ·rw[Qhq b] at h
  by_cases a:i<n
  ·rw[Qhq a] at h
   have e:i.toNat=j:=QdQ h
   exact#[by rw[seqIndex_of b a,e],by omega,by omega,a]
  ·rw[Quq a] at h;cases h
 ·rw[Quq b] at h
  by_cases a: -(n:Int)<=i
  ·rw[Qhq a] at h
   have e:(i+n).toNat=j:=QdQ h
   exact#[by rw[seqIndex_neg (!0) a,e],by omega,a,by omega]
  ·rw[Quq a] at h;cases h
def pN{α:Type}{xs:List α}{i:Int}{v:α}(h:j4 xs i=some v):∃j,seqIndex? i xs.length=some j/\xs[j]?=some v/\j<xs.length/\ -(xs.length:Int)<=i/\i<xs.length:=by
 unfold j4 at h
 cases e:ud xs.length i with
 |none=>rw[e] at h;cases h
 | some j=>
   rw[e] at h
   let#[a,c,b,d]:=ll e
   exact#[j,a,h,c,b,d]
def tY(b:Expr):Prop:=∀o i,subscripted b false o i=operate [o,i] (getItem o i)
def yD(X:Cx)(r:R2):Prop:=
 ∀ (c a:Expr) (b:X2) (s:X4) (d:St) (H:Hp) (x y:V) (v u:Xd) (Q:VK),Inv X b d H s->RelV x v->RelV y u->r x y H Q->
   subscripted a false v u=operate [v,u] (getItem v u)->wpAny (model X.prog X.w) X.A (subscriptTail c a v u) (EP X b d Q) X.xe s
def C1(X:Cx)(id:String)(r:V->List V->Hp->VK->Prop):Prop:=
 ∀ (a:X2) (s:X4) (d:St) (H:Hp) (x:V) (c:List V) (v:Xd) (b:X5) (Q:VK),Inv X a d H s->RelV x v->aU c b->r x c H Q->
   wpAny (model X.prog X.w) X.A (call (.builtin id) (v::b)) (EP X a d Q) X.xe s
section
variable{X:Cx}{a b:Expr}{ta tb:TE}{pos:Pos}
def yD.or{r f:R2}(h:yD X r)(h':yD X f):yD X (λx y H Q=>r x y H Q\/f x y H Q):=by
 intro d c e s i H x y v u Q I j g q k
 rcases q with q|q
 ·exact h d c e s i H x y v u Q I j g q k
 ·exact h' d c e s i H x y v u Q I j g q k
def Cp{r:R2}(d:yD X r)(g:PE X a ta)(i:PE X b tb)(n:tY b):PE X (.Subscript a b pos) (y1 r ta tb):=by
 intro c s l H Q I h
 exact Subscript_ (zv g i I h λv u e x y k f m j q=>d a b c e l k x y v u Q f m j q (n _ _))
def B_(K:X1):R2:=λx y H Q=>∃p c i v,x=.ref p/\y=.int i/\fJ K H p c/\j4 c i=some v/\Q v H
def CJ(K:X1):R2:=λx y H Q=>∃p c i v,x=.ref p/\y=.int i/\fL K H p c/\j4 c i=some v/\Q v H
def Cw:R2:=λx y H Q=>∃z i c,x=.str z/\y=.int i/\z.length<=sizeLine/\j4 z.cps.toList i=some c/\Q (.str #[(List.toArray [c])]) H
def x_:yD X (B_ X.K):=by
 intro n f c s A H x y v u Q I R N h C
 let#[p,Z,i,z,rfl,rfl,hq,he,q]:=h
 cases R
 let#[t,rfl]:=N
 let#[l,r,g,Y]:=I.list hq
 let#[j,e,J,U,S,P]:=pN he
 let#[w,o,m]:=r.get J
 let M:=r.length
 let W:=ja
 have d:EP X c A Q w s:=#[z,H,I,m,q]
 by_cases B:0<=i
 ·have k:i.toNat=j:=by
   rw[seqIndex_of B P] at e
   exact QdQ e
  exact item_listR g.isList B (!0) (by rw[k];simpa using o) d C
 ·have k:(i+(l.toArray.size:Int)).toNat=j:=by
   rw[seqIndex_neg (!0) S] at e
   rw[Qjq,<-M]
   exact QdQ e
  exact subscriptTail_builtinR (x:=w) g.isList.typeIs slot_list_getitem.lookup
   (wpAny_getItem_list_neg (Q:=λr F=>r=w/\EP X c A Q r F) g.isList (!0) (by rw[Qjq] <;>omega) (!0) (by rw[k];simpa using o) #[L,d]) C
def A3:yD X (CJ X.K):=by
 intro g d c s l H x y v u Q I J F h M
 let#[p,W,i,z,rfl,rfl,hq,he,q]:=h
 cases J
 let#[t,rfl]:=F
 let#[o,r,k,R]:=I.tuple hq
 let#[j,n,A,N,U,S]:=pN he
 let#[w,C,f]:=r.get A
 let B:=r.length
 let P:=ja
 have e:EP X c l Q w s:=#[z,H,I,f,q]
 exact subscriptTail_builtinR (x:=w) k.typeIs slot_tuple_getitem.lookup
  (getItem_tuple (j:=j) (Q:=λr m=>r=w/\EP X c l Q r m) k (!0) (!0) (by rw[Qjq,<-B];exact n) (by simpa using C) #[L,e]) M
def zz:yD X Cw:=by
 intro e d g s F H x y v u Q I p n h r
 let#[z,i,c,rfl,rfl,hz,he,q]:=h
 let#[t,rfl]:=p
 let#[J,rfl]:=n
 let#[j,f,l,B,A,o]:=pN he
 have m:z.cps.toList.length=z.length:=by simp[Str.length]
 rw[m] at f A o
 let C:=ja
 exact tail_any (typeIs_str s z t) slot_str_getitem.lookup (getItem_str (c:=c) (by
  have w:decide (i< -(2^63:Int))=false:=Qdq (!0)
  have k:decide (i>=2^63)=false:=Qdq (!0)
  rw[w,k,Bool.or_false]) (by rw[f];simpa using l) #[.str #[(List.toArray [c])],H,I.tok _,#[_,L],q]) r
def Em(K:X1):R2:=λx y H Q=>B_ K x y H Q\/CJ K x y H Q\/Cw x y H Q
def Ax:yD X (Em X.K):=x_.or (A3.or zz)
def rR(c:X5)(n j:Nat)(u:Xd):Obj.mapSeq (·.setIfInBounds j u) {cls:=.type "list",data:=.seq c.toArray n}={cls:=.type "list",data:=.seq (c.set j u).toArray n}:=by
 simp[Obj.mapSeq]
def Inv.lst{d:X2}{f:St}{H:Hp}{s:X4}{p:X8}{xs:List V}(I:Inv X d f H s)(h:H p=some (.lst xs)):
  ∃(c:X5) (n:Nat),aU xs c/\s.heap.get? p=some {cls:=.type "list",data:=.seq c.toArray n}/\xs.length<=sizeLine:=by
 let#[z,c,n,r,e]:=I.hok p _ h
 exact#[c,n,r,e,z]
def Inv.lstUpd{c:X2}{j:St}{H:Hp}{s:X4}{p:X8}{xs ys:List V}{d its':X5}{n g:Nat}{f:Obj->Obj}(I:Inv X c j H s)(h:H p=some (.lst xs))
  (k:s.heap.get? p=some {cls:=.type "list",data:=.seq d.toArray n}) (i:f {cls:=.type "list",data:=.seq d.toArray n}={cls:=.type "list",data:=.seq its'.toArray g}) (r:aU ys its') (l:ys.length<=sizeLine) (t:Nat):
  Inv X c j (upd H p (.lst ys)) {s with heap:=s.heap.update p f,toks:=t}:=by
 have e:(s.heap.update p f).get? p=some {cls:=.type "list",data:=.seq its'.toArray g}:=by
  rw[Heap.get?_update_self f k (by rw[i] <;>rfl),i]
 refine I.write (x:=p) (e:=p) (by rw[h];trivial) (.inl L) (λb u m q=>(Heap.get?_update_other _ _ (Ne.symm m)).trans q) #[_,e] ?_
 exact#[l,its',g,r,e]
def yY:V->V->V->Hp->(Hp->Prop)->Prop:=λo i v H Q=>∃p c k j,o=.ref p/\i=.int k/\H p=some (.lst c)/\ud c.length k=some j/\Q (upd H p (.lst (c.set j v)))
def set_list:BU X yY:=by
 intro d s C H o i v P K u Q I B F z h
 let#[p,J,k,j,rfl,rfl,hp,hj,q]:=h
 cases B
 let#[t,rfl]:=F
 let#[c,n,r,f,A]:=I.lst hp
 let#[e,M,m,y]:=ll hj
 let g:=r.length
 let N:=ja
 have w:Inv X d C (upd H p (.lst (J.set j v))) {s with heap:=s.heap.update p (Obj.mapSeq (·.setIfInBounds j u))}:=
  I.lstUpd hp f (rR c n j u) (r.set z j) (by rw[List.length_set];exact A) s.toks
 by_cases x:0<=k
 ·have l:k.toNat=j:=by
   rw[seqIndex_of x y] at e
   exact QdQ e
  exact PySem.W.ki_setAt f x (!0) (by rw[Qjq,<-g];exact y) (by rw[l];exact#[_,w,q])
 ·have l:(k+(c.toArray.size:Int)).toNat=j:=by
   rw[seqIndex_neg (!0) m] at e
   rw[Qjq,<-g]
   exact QdQ e
  exact PySem.W.ki_setBack f (!0) (by rw[Qjq,<-g];exact m) (!0) (by rw[l];exact#[_,w,q])
def pF(lo hi:Xb)(n:Nat):(sliceBounds lo hi none n).1=((HT.cV n 0 lo:Nat):Int)/\(sliceBounds lo hi none n).2.1=((HT.cV n n hi:Nat):Int)/\(sliceBounds lo hi none n).2.2=1:=by
 refine#[?_,?_,L]
 ·cases lo with
  |none=>simp[sliceBounds,HT.cV]
  | some i=>
    erw[sliceBounds,HT.cV,Option.getD_none,show(1:Int)>0 by decide,if_true]
    by_cases h:i<0
    · erw[h,if_true] <;>omega
    · erw[h,if_false] <;>omega
 ·cases hi with
  |none=>simp[sliceBounds,HT.cV]
  | some i=>
    erw[sliceBounds,HT.cV,Option.getD_none,show(1:Int)>0 by decide,if_true]
    by_cases h:i<0
    · erw[h,if_true] <;>omega
    · erw[h,if_false] <;>omega
def mR(c:X5)(lo hi:Xb):slicePick c.toArray lo hi none=((c.drop (HT.cV c.length 0 lo)).take (HT.cV c.length c.length hi-HT.cV c.length 0 lo)).toArray:=by
 let#[d,f,e]:=pF lo hi c.toArray.size
 unfold slicePick
 rw[d,f,e]
 erw[sliceRange_one,pick_run,Qjq] <;>rfl
def Dj(K:X1):V->Option Int->Option Int->Hp->VK->Prop:=λx d e H Q=>∃a c,x=.ref a/\fJ K H a c/\∀p,H p=none->Q (.ref p) (upd H p (.lst (pj c d e)))
def xN:C9 X (Dj X.K):=by
 intro i s u H x v y t e f sl Q I n p j m h
 let#[a,c,rfl,hx,q]:=h
 cases n
 let#[k,r,g,l]:=I.list hx
 let d:=r.length
 refine#["list",_,slot_list_getitem.lookup,g.isList.typeIs,?_]
 refine wpAny_getItem_list_slice g.isList p j m .none (by simp) ?_ (by rw[Qjq] <;>omega)
 rw[mR,<-d]
 refine#[.ref s.heap.objs.size,_,I.laid (t':=s.toks) (o:=.lst (pj c e f)) (λb w q=>Qcq _ q) (Qmq _) ?_,L,q _ (I.hok.fresh (Qmq _))]
 exact#[QAq (ki c e f) l,_,0,(r.drop (HT.cV c.length 0 e)).take (HT.cV c.length c.length f-HT.cV c.length 0 e),Qrq _ L]
def ft:V->Bool
 |.non=>true
 |.bl _=>true
 |.int _=>true
 |.str _=>true
 |_=>false
def qx:V->V->Bool
 |.non,.non=>true
 |.bl a,.bl b=>a==b
 |.bl a,.int b=>(if a then 1 else 0)==b
 |.int a,.bl b=>a==(if b then 1 else 0)
 |.int a,.int b=>a==b
 |.str a,.str b=>a==b
 |_,_=>false
def vb{A:X_}{s:X4}{y x:V}{u v:Xd}(f:RelV y u)(c:RelV x v)(g:ft y=true)(e:ft x=true):SeqAt.EqAt A s u v (qx y x):=by
 cases y with
 | non=>
   cases f
   cases x with
   |non=>cases c;exact SeqAt.EqAt.same _
   |bl b=>cases c;exact SeqAt.EqAt.none_bool b
   |int b=>let#[t,rfl]:=c;exact SeqAt.EqAt.none_int b t
   |str b=>let#[t,rfl]:=c;exact SeqAt.EqAt.none_str b t
   |_=>exact absurd (show false=true from e) Qtq
 | bl a=>
   cases f
   cases x with
   |non=>cases c;exact SeqAt.EqAt.bool_none a
   |bl b=>cases c;exact SeqAt.EqAt.bool_bool a b
   |int b=>let#[t,rfl]:=c;exact SeqAt.EqAt.bool_int a b t
   |str b=>let#[t,rfl]:=c;exact SeqAt.EqAt.bool_str a b t
   |_=>exact absurd (show false=true from e) Qtq
 | int a=>
   let#[d,rfl]:=f
   cases x with
   |non=>cases c;exact SeqAt.EqAt.int_none a d
   |bl b=>cases c;exact SeqAt.EqAt.int_bool a d b
   |int b=>let#[t,rfl]:=c;exact SeqAt.EqAt.int_int a d b t
   |str b=>let#[t,rfl]:=c;exact SeqAt.EqAt.int_str a d b t
   |_=>exact absurd (show false=true from e) Qtq
 | str a=>
   let#[d,rfl]:=f
   cases x with
   |non=>cases c;exact SeqAt.EqAt.str_none a d
   |bl b=>cases c;exact SeqAt.EqAt.str_bool a d b
   |int b=>let#[t,rfl]:=c;exact SeqAt.EqAt.str_int a d b t
   |str b=>let#[t,rfl]:=c;exact SeqAt.EqAt.str_str a d b t
   |_=>exact absurd (show false=true from e) Qtq
 |_=>exact absurd (show false=true from g) Qtq
def q_(x:V)(u:Xd):Bool:=match u with
 |.none=>qx .non x
 |.bool b=>qx (.bl b) x
 |.int i _=>qx (.int i) x
 |.str z _=>qx (.str z) x
 |_=>false
def vK{x y:V}{u:Xd}(r:RelV y u)(f:ft y=true):q_ x u=qx y x:=by
 cases y with
 |non=>cases r;rfl
 |bl b=>cases r;rfl
 |int i=>let#[t,rfl]:=r;rfl
 |str z=>let#[t,rfl]:=r;rfl
 |_=>exact absurd (show false=true from f) Qtq
theorem jh{x:V}:∀{xs:List V} {c:X5},aU xs c->xs.all ft=true->c.any (q_ x)=xs.any λy=>qx y x
 |_,_,.nil,_=>rfl
 | y::xs,u::c,.cons r t,f=>by
   rw[List.all_cons,QCq] at f
   rw[List.any_cons,List.any_cons,vK r f.1,jh t f.2]
theorem gU{A:X_}{s:X4}{x:V}{v:Xd}(e:RelV x v)(g:ft x=true):∀{xs:List V} {d:X5},aU xs d->xs.all ft=true->∀u∈d,SeqAt.EqAt A s u v (q_ x u)
 |_,_,.nil,_=>λu c=>by cases c
 | y::xs,u::d,.cons r t,f=>λh c=>by
   rw[List.all_cons,QCq] at f
   rcases Qsq.mp c with rfl|c
   · rw[vK r f.1];exact vb r e f.1 g
   · exact gU e g t f.2 h c
def za(x:V)(xs:List V):Bool:=xs.any λy=>qx y x
def Dh(K:X1)(d:Bool):R2:=λx y H Q=>∃p c,y=.ref p/\(fJ K H p c\/fL K H p c)/\ft x=true/\c.all ft=true/\Q (.bl (if d then !za x c else za x c)) H
def uE:iK X (compareOp .In) (Dh X.K false):=by
 intro i s l H x y v u Q I g k h
 let#[p,m,rfl,d,fx,fs,q]:=h
 cases k
 rcases d with d|d
 ·let#[c,r,e,j]:=I.list d
  refine SeqAt.in_listAt (q_ x) e.isList (λw f=>gU g fx r fs w (by simpa using f)) #[.bl _,H,I,L,?_]
  rw[show c.toArray.any (q_ x)=c.any (q_ x) by simp,jh r fs]
  exact q
 ·let#[c,r,e,j]:=I.tuple d
  refine SeqAt.in_tupleAt (q_ x) e (λw f=>gU g fx r fs w (by simpa using f)) #[.bl _,H,I,L,?_]
  rw[show c.toArray.any (q_ x)=c.any (q_ x) by simp,jh r fs]
  exact q
def pK:iK X (compareOp .NotIn) (Dh X.K true):=by
 intro i s l H x y v u Q I g k h
 let#[p,m,rfl,d,fx,fs,q]:=h
 cases k
 rcases d with d|d
 ·let#[c,r,e,j]:=I.list d
  refine SeqAt.notIn_listAt (q_ x) e.isList (λw f=>gU g fx r fs w (by simpa using f)) #[.bl _,H,I,L,?_]
  rw[show c.toArray.any (q_ x)=c.any (q_ x) by simp,jh r fs]
  exact q
 ·let#[c,r,e,j]:=I.tuple d
  refine SeqAt.notIn_tupleAt (q_ x) e (λw f=>gU g fx r fs w (by simpa using f)) #[.bl _,H,I,L,?_]
  rw[show c.toArray.any (q_ x)=c.any (q_ x) by simp,jh r fs]
  exact q
def pW:gJ X (.builtin "len") (λxs H Q=>∃p ys,xs= [.ref p]/\(fJ X.K H p ys\/fL X.K H p ys)/\Q (.int ys.length) H):=by
 intro i s m H xs k Q I r h
 let#[p,ys,rfl,d,q]:=h
 let#[u,rfl,rx]:=vals1 r
 cases rx
 let l:=ja
 rcases d with d|d
 ·let#[g,f,e,j]:=I.list d
  let c:=f.length
  exact Calls.call_len_list e.isList (by erw[Qjq] <;>omega) #[.int ys.length,H,I.tok _,#[s.toks+1,by rw[Qjq,c]],q]
 ·let#[g,f,e,j]:=I.tuple d
  let c:=f.length
  exact len_tuple e (by erw[Qjq] <;>omega) #[.int ys.length,H,I.tok _,#[s.toks+1,by rw[Qjq,c]],q]
def ph:gJ X (.type "list") (λxs H Q=>∃p ys,xs= [.ref p]/\(fJ X.K H p ys\/fL X.K H p ys)/\∀l,H l=none->Q (.ref l) (upd H l (.lst ys))):=by
 intro v s C H xs F Q I r h
 let#[p,ys,rfl,m,q]:=h
 let#[u,rfl,rx]:=vals1 r
 cases rx
 have j:∀(c:X5),aU ys c->ys.length<=sizeLine->∀(d:Xe) (g:Nat),(∀b B,s.heap.get? b=some B->d.get? b=some B)->
   d.get? s.heap.objs.size=some {cls:=.type "list",dict:=none,data:=.seq c.toArray g,slots:= (List.toArray [])}->EP X v C Q (.ref s.heap.objs.size) {s with heap:=d}:=λc f k d g t e=>
  #[.ref s.heap.objs.size,_,I.laid (t':=s.toks) t (Qmq _) (show cm X.prog X.w _ d _ (.lst ys) from#[k,c,g,f,e]),L,q _ (I.hok.fresh (Qmq _))]
 rcases m with m|m
 ·let#[c,f,y,k]:=I.list m
  let i:=f.length
  let#[o,z,x,n,A]:=y.isList
  exact call_list_seq p (.inl L) z x A (λd g t e=>j c f k d g t e) (by erw[Qjq] <;>omega)
 ·let#[c,f,y,k]:=I.tuple m
  let i:=f.length
  let#[o,z,x,n,A]:=y
  exact call_list_seq p (.inr L) z x A (λd g t e=>j c f k d g t e) (by erw[Qjq] <;>omega)
def mK:gJ X (.type "tuple") (λxs H Q=>∃p ys,xs= [.ref p]/\((fJ X.K H p ys/\∀l,H l=none->Q (.ref l) (upd H l (.tup ys)))\/(fL X.K H p ys/\Q (.ref p) H))):=by
 intro c s t H xs y Q I r h
 let#[p,ys,rfl,h]:=h
 let#[u,rfl,rx]:=vals1 r
 cases rx
 rcases h with⟨j,q⟩|⟨j,q⟩
 ·let#[d,i,g,m]:=I.list j
  let k:=i.length
  refine call_tuple_list g.isList (λf x=>?_) (by erw[Qjq] <;>omega)
  have n:Inv X c t H {s with heap:=f}:=I.kept (t':=s.toks) x
  have v:Inv X c t (upd H f.objs.size (.tup ys)) {s with heap:=f.push {cls:=.type "tuple",data:=.seq d.toArray}}:=
   n.laid (t':=s.toks) (λb o e=>Qcq _ e) (Qmq _) (show cm X.prog X.w _ _ _ (.tup ys) from#[m,d,i,p8.new _ _])
  exact#[.ref f.objs.size,_,v,L,q _ (n.hok.fresh (Qmq _))]
 ·let#[d,i,g,m]:=I.tuple j
  exact call_tuple_same g #[.ref p,H,I,L,q]
def Dw(K:X1)(T:String)(x:V)(H:Hp):Prop:=match x with
 |.str _=>T="str"
 |.int _=>T="int"
 |.ref p=>(T="list" /\∃d,fJ K H p d)\/(T="tuple" /\∃o,K.lookup p=some o/\o.cls=.type "tuple" /\o.dict=none)∨
   (T="dict" /\((∃c,H p=some (.dK c))\/∃c,H p=some (.dT c)))\/(T="set" /\∃S n,H p=some (.set S n))
 |_=>False
def vU{g:X2}{w:St}{H:Hp}{s:X4}{T:String}{x:V}{v:Xd}(I:Inv X g w H s)(r:RelV x v)(h:Dw X.K T x H):
  s.TypeIs v T/\∀a,v=.ref a->∃q,s.heap.get? a=some q/\q.dict=none:=by
 cases x with
 | str z=>
   let#[t,rfl]:=r
   cases (show T="str" from h)
   exact#[typeIs_str s z t,λ_ e=>nomatch e]
 | int i=>
   let#[t,rfl]:=r
   cases (show T="int" from h)
   exact#[typeIs_int s i t,λ_ e=>nomatch e]
 | ref p=>
   cases r
   rcases h with⟨rfl,xs,hq⟩|⟨rfl,o,d,hc,l⟩|⟨rfl,d⟩|⟨rfl,S,n,d⟩
   · let#[u,_,m,_]:=I.list hq
     refine#[m.isList.typeIs,λa e=>?_]
     cases e
     let#[o,n,e,c,l,_]:=m
     exact#[o,e,l]
   · refine#[#[o,I.kIn p o d,hc],λa e=>?_]
     cases e
     exact#[o,I.kIn _ o d,l]
   · have z:∃o,s.heap.get? p=some o/\o.ExactDict:=by
       rcases d with⟨j,d⟩|⟨j,d⟩
       · let#[_,_,_,_,o,_,_,e,f,_]:=I.hok p _ d
         exact#[o,e,f]
       · let#[_,_,_,_,o,_,_,e,f,_]:=I.hok p _ d
         exact#[o,e,f]
     let#[o,e,f]:=z
     refine#[#[o,e,f.1],λa k=>?_]
     cases k
     exact#[o,e,f.2.1]
   · let#[o,_,_,_,e,f,_]:=I.hok p _ d
     refine#[#[o,e,f.1],λa k=>?_]
     cases k
     exact#[o,e,f.2.1]
 |_=>exact False.elim h
def BI(K:X1)(T:String)(r:V->List V->Hp->VK->Prop)(d:TE):TE:=λe H Q=>d e H λx c=>Dw K T x c/\r x [] c Q
def Dm(K:X1)(T:String)(r:V->List V->Hp->VK->Prop)(g:TE)(t:TA):TE:=λd H Q=>g d H λx c=>Dw K T x c/\t d c λf e=>r x f e Q
variable{o e:Expr}{es:List Expr}{to:TE}{t:TA}{name:Str}{apos cpos:Pos}{T id:String}{r:V->List V->Hp->VK->Prop}
def zN(z:PlainAttrs T)(slot:Slot T name id)(g:typeOf (.builtin id)=pure (.type "method_descriptor"))(q:C1 X id r)(m:PE X o to)
  (d:autoParam (attributeBase o name X.env (eval o X.env)=eval o X.env) ad._auto_1) (f:autoParam ((apos.endLine==cpos.line)=true) ad._auto_1):PE X (.Call (.Attribute o name apos) [] [] cpos) (BI X.K T r to):=by
 intro c s j H Q I h
 refine wpAny_Call_method0_late d f (cu (m c s j H _ I h) λv y w=>?_)
 let#[x,A,i,k,n,u]:=w
 let#[l,p]:=vU i k n
 exact#[T,id,z,slot,g,l,p,Calls.callWith_builtin L (PySem.evalArgs_none (q c y j A x [] v [] Q i k .nil u))]
def nE(R:PlainAttrs T)(slot:Slot T name id)(j:typeOf (.builtin id)=pure (.type "method_descriptor"))(C:C1 X id r)(w:PE X o to)(M:PA X (e::es) t)
  (f:autoParam (attributeBase o name X.env (eval o X.env)=eval o X.env) ad._auto_1)
  (i:autoParam (((backTo cpos (starEach (e::es) X.env)).all (λx=> !x.1)&&(backToKw cpos (keywordEach [] X.env)).all (λx=>x.1.isSome)
   &&decide ((e::es).length+([]:List Keyword).length+(if ([]:List Keyword).isEmpty then 0 else 1)<30))=true) ad._auto_1)
  (g:autoParam ((apos.endLine==cpos.line)=true) ad._auto_1) (Y:autoParam (starEach (e::es) X.env=(false,eval e X.env)::starEach es X.env) ad._auto_1) (d:autoParam ((backTo cpos (starEach es X.env)).any (·.1)=false) ad._auto_1):
  PE X (.Call (.Attribute o name apos) (e::es) [] cpos) (Dm X.K T r to t):=by
 intro c s k H Q I h
 refine wpAny_Call_method_late f i g L (cu (w c s k H _ I h) λv P N=>?_)
 let#[x,S,l,m,y,J]:=N
 let#[q,A]:=vU l m y
 refine#[T,id,R,slot,j,q,A,?_]
 let n:=M cpos c P k S _ l J
 rw[Y] at n|-
 refine Calls.callWith_builtin (by show(false||(backTo cpos (starEach es X.env)).any (·.1))=false;rw[d] <;>rfl) (Calls.evalArgs_plain ?_)
 exact cu n λp B ⟨W,U,F,z,u⟩=>C c B k U x W v p Q F m z u
end
def BH(X:Cx)(id:String)(r:V->List V->Hp->VK->Prop):Prop:=
 ∀ (a:X2) (s:X4) (d:St) (H:Hp) (x:V) (c:List V) (v:Xd) (b:X5) (Q:VK),Inv X a d H s->RelV x v->aU c b->r x c H Q->
   wpAny (model X.prog X.w) X.A (call (.builtin id) (v::b)) (EP X a d Q) X.xe s
def aU.one:∀{x:V} {a:X5},aU [x] a->∃u,a= [u]/\RelV x u
 |_,_,.cons r .nil=>#[_,L,r]
def aU.two:∀{x y:V} {a:X5},aU [x,y] a->∃u v,a= [u,v]/\RelV x u/\RelV y v
 |_,_,_,.cons r (.cons q .nil)=>#[_,_,L,r,q]
def aU.zero:∀{a:X5},aU [] a->a= []
 |_,.nil=>rfl
theorem aU.dropLast{xs:List V}{a:X5}(h:aU xs a):aU xs.dropLast a.dropLast:=by
 induction h with
 |nil=>exact .nil
 | cons r t b=>
   cases t with
   |nil=>exact .nil
   |cons q c=>exact .cons r b
theorem aU.eraseIdx:∀{xs:List V} {a:X5} (i:Nat),aU xs a->aU (xs.eraseIdx i) (a.eraseIdx i)
 |_,_,_,.nil=>.nil
 |_,_,0,.cons _ t=>t
 |_,_,i+1,.cons r t=>.cons r (aU.eraseIdx i t)
theorem aU.reverse{xs:List V}{a:X5}(h:aU xs a):aU xs.reverse a.reverse:=by
 induction h with
 |nil=>exact .nil
 |cons r t b=>rw[List.reverse_cons,List.reverse_cons];exact aU.append b (.cons r .nil)
theorem aU.rep{xs:List V}{a:X5}(h:aU xs a):∀k:Nat,aU (List.replicate k xs).flatten (List.replicate k a).flatten
 |0=>.nil
 | k+1=>by
   rw[QNq,QNq,List.flatten_cons,List.flatten_cons]
   exact aU.append h (aU.rep h k)
def r_{α:Type}(l:List α):l.eraseIdx (l.length-1)=l.dropLast:=by
 induction l with
 |nil=>rfl
 | cons a r c=>
   cases r with
   |nil=>rfl
   | cons b r=>
     have e:(a::b::r).length-1=((b::r).length-1)+1:=by
       have d:(a::b::r).length=r.length+2:=rfl
       have f:(b::r).length=r.length+1:=rfl
       omega
     rw[e,List.eraseIdx_cons_succ,c]
     all_goals rfl
theorem nk{α:Type}:∀(l:List α) (i:Nat),(l.eraseIdx i).length<=l.length
 | [],_=>Qmq _
 |_::_,0=>Nat.le_succ _
 |_::r,i+1=>Nat.succ_le_succ (nk r i)
theorem foldl_rep(a:X5):∀(k:Nat) (b:X5),
  List.foldl (λc f=>c++f) b.toArray (List.replicate k a.toArray)=(b++(List.replicate k a).flatten).toArray
 |0,b=>by simp
 | k+1,b=>by
   have e:b.toArray++a.toArray=(b++a).toArray:=by simp
   have d:(b++a)++(List.replicate k a).flatten=b++(List.replicate (k+1) a).flatten:=by
     rw[QNq,List.flatten_cons,Qvq]
   rw[<-d,<-foldl_rep a k (b++a),<-e,QNq,List.foldl_cons]
section
variable{X:Cx}{pins:X2}{σ:St}{H:Hp}{s:X4}{l b:X8}{xs ys zs:List V}
def Inv.lset{a its':X5}{n:Nat}{f:Array Value->Array Value}{t':Nat}(I:Inv X pins σ H s)(i:H l=some (.lst xs))
  (e:s.heap.get? l=some {cls:=.type "list",data:=.seq a.toArray n}) (c:f a.toArray=its'.toArray) (j:aU ys its') (h:ys.length<=sizeLine):
  Inv X pins σ (upd H l (.lst ys)) {s with heap:=s.heap.update l (Obj.mapSeq f),toks:=t'}:=by
 let q:=PySem.IsL.update e f
 rw[c] at q
 refine I.write (x:=l) (e:=l) (by rw[i];exact trivial) (.inl L) (λk u d g=>(Heap.get?_update_other s.heap (Obj.mapSeq f) (Ne.symm d)).trans g) #[_,q] ?_
 exact#[h,its',_,j,q]
def Inv.lnew{a:X5}{t':Nat}(I:Inv X pins σ H s)(d:aU ys a)(c:ys.length<=sizeLine):
  Inv X pins σ (upd H s.heap.objs.size (.lst ys)) {s with heap:=s.heap.push {cls:=.type "list",data:=.seq a.toArray},toks:=t'}:=
 I.laid (λ_ _ q=>Qcq _ q) (Qmq _) #[c,a,0,d,Qrq _ L]
def Inv.fresh(I:Inv X pins σ H s):H s.heap.objs.size=none:=I.hok.fresh (Qmq _)
def Inv.lstM(I:Inv X pins σ H s)(c:H l=some (.lst xs)):xs.length<=sizeLine/\∃(a:X5) (n:Nat),aU xs a/\xs.length=a.length/\s.heap.get? l=some {cls:=.type "list",data:=.seq a.toArray n}:=by
 let#[z,a,n,r,e]:=I.hok l _ c
 exact#[z,a,n,r,r.length,e]
def qz{n:Nat}(h:n<=sizeLine):Builtin.List.listTooLong n=false:=by
 unfold Builtin.List.listTooLong
 exact Qdq (!0)
end
section
variable{X:Cx}
def sM:V->List V->Hp->VK->Prop:=λx b H Q=>∃l a y,x=.ref l/\b= [y]/\H l=some (.lst a)/\a.length<sizeLine/\Q .non (upd H l (.lst (a++ [y])))
def j8:BH X "list.append" sM:=by
 intro b s i H x j v f Q I d c h
 let#[l,k,y,rfl,rfl,hH,hz,q]:=h
 cases d
 let#[u,rfl,ru]:=c.one
 let#[z,a,n,r,g,e]:=I.lstM hH
 refine call_meets F.slot_list_append #[_,e,L] F.entry_list_append (F.args_list_append_2 _ _) (PySem.list_append l a.toArray n u (by rw[Qjq];omega)) #[e,?_]
 refine#[.non,_,I.lset (its':=a++ [u]) hH e (by simp) (r.append (.cons ru .nil)) ?_,L,q]
 rw[lQa,List.length_singleton]
 omega
def sQ:V->List V->Hp->VK->Prop:=λx d H Q=>∃l b c a,x=.ref l/\d= [.ref b]/\H l=some (.lst c)/\H b=some (.lst a)/\c.length+a.length<=sizeLine/\Q .non (upd H l (.lst (c++a)))
def uC:BH X "list.extend" sQ:=by
 intro g s B H x C v t Q I o i h
 let#[l,b,J,w,rfl,rfl,hH,hB,hz,q]:=h
 cases o
 let#[u,rfl,ru]:=i.one
 cases ru
 let#[z,c,n,r,A,e]:=I.lstM hH
 let#[y,a,p,j,k,m]:=I.lstM hB
 have f:c.toArray.size+a.toArray.size<=sizeLine:=by rw[Qjq,Qjq];omega
 have d:¬(!c.toArray.isEmpty&&Builtin.List.listTooLong (c.toArray.size+a.toArray.size))=true:=by
  rw[qz f,Bool.and_false]
  exact Qtq
 refine call_meets F.slot_list_extend #[_,e,L] F.entry_list_extend (F.args_list_extend_2 _ _)
  (AutoSeq1.list_extend_list_list_0 l c.toArray n b a.toArray p d (by rw[Qjq];omega) (!0)) #[e,m,?_]
 refine#[.non,_,I.lset (its':=c++a) hH e (by simp) (r.append j) ?_,L,q]
 rw[lQa]
 omega
def Cr:V->List V->Hp->VK->Prop:=λx b H Q=>∃l a y,x=.ref l/\b= []/\H l=some (.lst a)/\a[a.length-1]?=some y/\Q y (upd H l (.lst a.dropLast))
def zt:BH X "list.pop" Cr:=by
 intro d s o H x p v m Q I j f h
 let#[l,t,y,rfl,rfl,hH,hy,q]:=h
 cases j
 let b:=f.zero
 subst b
 let#[z,a,n,r,i,e]:=I.lstM hH
 let#[u,g,k]:=r.get hy
 have c:a.toArray[a.toArray.size-1]?=some u:=by
  show a.toArray[a.length-1]?=some u
  rw[<-Array.getElem?_toList,<-i]
  exact g
 refine call_meets F.slot_list_pop #[_,e,L] F.entry_list_pop (F.args_list_pop_1 _) (MeetsSeq.list_pop_last l a.toArray n u c (by rw[Qjq];omega)) #[e,?_]
 refine#[y,_,I.lset (its':=a.dropLast) hH e ?_ r.dropLast ?_,k,q]
 ·show a.toArray.eraseIdxIfInBounds (a.toArray.size-1)=a.dropLast.toArray
  rw[Qjq,List.eraseIdxIfInBounds_toArray,r_]
 ·rw[List.length_dropLast]
  omega
def v5:V->List V->Hp->VK->Prop:=λx b H Q=>∃l a i k y,x=.ref l/\b= [.int i]/\H l=some (.lst a)/\ -(2^63)<=i/\i<2^63/\seqIndex? i a.length=some k/\a[k]?=some y/\Q y (upd H l (.lst (a.eraseIdx k)))
def wV:BH X "list.pop" v5:=by
 intro c s p H x A v o Q I g d h
 let#[l,m,i,k,y,rfl,rfl,hH,h1,h2,hk,hy,q]:=h
 cases g
 let#[u,rfl,ru]:=d.one
 let#[t,rfl]:=ru
 let#[z,a,n,r,f,e]:=I.lstM hH
 let#[w,j,b]:=r.get hy
 refine call_meets F.slot_list_pop #[_,e,L] F.entry_list_pop (F.args_list_pop_2 _ _)
  (MeetsSeq.list_pop_at l a.toArray n i t k w (fitsIndex_both h1 h2) (by rw[Qjq,<-f];exact hk) (by rw[<-Array.getElem?_toList];exact j) (by rw[Qjq];omega)) #[e,?_]
 refine#[y,_,I.lset (its':=a.eraseIdx k) hH e ?_ (r.eraseIdx k) ?_,b,q]
 ·show a.toArray.eraseIdxIfInBounds k=(a.eraseIdx k).toArray
  rw[List.eraseIdxIfInBounds_toArray]
 ·have:=nk m k
  omega
def DZ:R2:=λx y H Q=>∃l b c a,x=.ref l/\y=.ref b/\H l=some (.lst c)/\H b=some (.lst a)/\c.length+a.length<=sizeLine/\∀p,H p=none->Q (.ref p) (upd H p (.lst (c++a)))
def Am:iK X (binaryOp .Add) DZ:=by
 intro d s w H x y v u Q I m k h
 let#[l,b,B,o,rfl,rfl,hH,hB,hz,q]:=h
 cases m
 cases k
 let#[z,c,n,r,t,e]:=I.lstM hH
 let#[p,a,A,g,i,j]:=I.lstM hB
 refine PySem.P.add_list e j ?_ (by rw[Qjq,Qjq];omega)
 have f:c.toArray++a.toArray=(c++a).toArray:=by simp
 rw[f]
 exact#[.ref _,_,I.lnew (t':=s.toks) (r.append g) (by rw[lQa];omega),L,q _ I.fresh]
def Dx:R2:=λx y H Q=>∃l k a,x=.ref l/\y=.int k/\H l=some (.lst a)/\ -(2^63)<=k/\k<2^63/\a.length*k.toNat<=sizeLine∧
 ∀p,H p=none->Q (.ref p) (upd H p (.lst (List.replicate k.toNat a).flatten))
def len_rep{α:Type}(xs:List α)(k:Nat):(List.replicate k xs).flatten.length=k*xs.length:=by
 induction k with
 |zero=>simp
 |succ k a=>rw[QNq,List.flatten_cons,lQa,a,Nat.succ_mul,Nat.add_comm]
def AL:iK X (binaryOp .Mult) Dx:=by
 intro p s M H x y v u Q I J C h
 let#[l,k,N,rfl,rfl,hH,h1,h2,hz,q]:=h
 cases J
 let#[t,rfl]:=C
 let#[z,b,n,r,B,e]:=I.lstM hH
 have d:b.toArray.size*k.toNat<=sizeLine:=by rw[Qjq,<-B];exact hz
 have g:¬b.toArray.size*k.toNat>(2^63-1)/8:=by
  have:(sizeLine:Nat)<=(2^63-1)/8:=by decide
  omega
 have f:¬(!Builtin.List.listFitsIndex k)=true:=by
  rw[fitsIndex_both h1 h2]
  exact Qtq
 have c:¬Builtin.List.listTooLong (b.toArray.size*k.toNat)=true:=by
  rw[qz d]
  exact Qtq
 have i:List.foldl (λo j=>o++j) (List.toArray []) (List.replicate (if b.toArray.isEmpty=true then 0 else k.toNat) b.toArray)=(List.replicate k.toNat b).flatten.toArray:=by
  have A:∀m:Nat,List.foldl (λo j=>o++j) (List.toArray []) (List.replicate m b.toArray)=(List.replicate m b).flatten.toArray:=λm=>by
   have:=foldl_rep b m []
   rw[List.nil_append] at this
   exact this
  rw[A]
  cases b with
  |nil=>simp
  |cons a K=>rw[Quq (by simp)]
 refine wpAny_binaryOp_repeat_ref (T:="list") (U:="int") (!1) #[_,e,L] (λw=>typeIs_int w k t) noFill_list_mul F.fills_int_mul F.slot_int_rmul repeat_list F.slot_int_index.lookup
  (call_meets F.slot_int_rmul (typeIs_int s k t) F.entry_int_rmul (F.args_int_rmul_2 _ _) (int___rmul___int_list k t l b.toArray n)
   #[e,L,#[_,e,L],call_meets F.slot_list_mul #[_,e,L] F.entry_list_mul (F.args_list_mul_2 _ _) (AutoListH.list___mul___list_int_3 l b.toArray n k t f g c) #[e,?_]])
 rw[i]
 exact#[.ref _,_,I.lnew (t':=s.toks) (r.rep k.toNat) (by rw[len_rep,Nat.mul_comm];exact hz),L,q _ I.fresh]
end
end L2
namespace Att
open PySem PySem.W PySem.Calls PyProof.Rows
def kU{P:Params}{h:Xe}:∀(ns:List Int) (c:X5),WellAll P h c (ns.map WData.int)->IntsAre c ns:=by
 intro ns
 induction ns with
 | nil=>
   intro c w
   rw[List.map_nil] at w
   cases w
   exact .nil
 | cons n ns d=>
   intro c w
   rw[QDq] at w
   cases w with
   | cons a b=>
     cases a
     exact .cons _ _ (d _ b)
def uo{l:OpenLaw}{n:Nat}(s:l.most=some n){P:Params}{h:Xe}{args:List WData}{c:X5}
  (b:l.row.toRowW.claim.pre args=true) (j:WellAll P h c args):
  ∃a m ns,c= [Value.ref a]/\args= [WData.list (ns.map WData.int)]/\h.get? a=some {cls:=.type "list",data:=.seq m.toArray}/\IntsAre m ns/\ns.length<=n:=by
 have Bf:WShape.hasAll [] args [.list .int]=true:=(pre_splitW b).1
 have k:l.pre.holds [] {args:=args}=true:=(pre_splitW b).2
 let#[d,r,rfl,h1,h2]:=hasAllW_cons Bf
 obtain rfl:=hasAllW_nil h2
 let#[v,rfl,h3]:=hasW_list h1
 let#[ns,rfl]:=items_int h3
 have e:ns.length<=n:=by
  unfold OpenLaw.pre at k
  have i:(WTm.not (.lt (.lit (.int (n:Int))) (.len (.arg 0)))).holds [] {args:= [.list (ns.map .int)]}=true:=by
   let i:=(holds_andW k).1
   rw[s] at i
   exact i
  let g:=condW_of i (w_not (w_lt w_lit (w_len_list (w_arg L))))
  rw[lQm] at g
  refine Nat.le_of_not_lt λq=>?_
  have p:(n:Int)<((ns.length:Nat):Int):=by omega
  first
   |(rw[Qeq p] at g;exact absurd g (!1))
   |(simp at g;omega)
 cases j with
 | cons u t=>
   cases t
   cases u with
   |list o f=>exact#[_,_,ns,L,L,o,kU ns _ f,e]
def t6(l:OpenLaw)(args:List WData):l.row.toRowW.claim.post args (.bool true) args=true:=
 postW_of (r:=l.row.toRowW) (X:=(true==true))
  (show WShape.has [] (.bool true) .bool=true by first|rfl|decide|simp[WShape.has,WShape.arms,WShape.armsAll])
  (show(WTm.eq .res (.lit (.bool true))).value [] {args:=args,res:=some (.bool true),after:=args}=some (.bool (true==true)) from w_eq_bool (w_res L) w_lit) L
def qJ{l:OpenLaw}{n:Nat}{q:X9}{c:X6}{F:(Str->Option Value)->Heap->Prop}{B:World->Heap->Prop}{d:DefRec}
  (K:l.most=some n) (p:d.params.defaults= [])
  (h:∀(w:Xc) (s₀ b:X4) (mg v:X3) (j:X8) (o:Obj) (u m e:Xd) (a:X8) (g:X5) (ns:List Int),
   Ground q c [] F w s₀ mg v b.heap->B w b.heap->
   b.heap.get? j=some o->o.data=.func (docDef d.name d.params d.body d.scope u m e)->b.heap.CodeRec m d.name->mg d.name=some (.ref j)->
   b.heap.get? a=some {cls:=.type "list",data:=.seq g.toArray}->IntsAre g ns->ns.length<=n->b.gens= (List.toArray [])->
   codeAny (model l.prog w) callerA (.call (.ref j) #[[.ref a],[]]) (λr k=>r=.ok (.ret (.bool true))/\OldK b.heap k.heap/\k.os=b.os/\AllBare k.gens) b):
  WalkO q c F B l.row.toRowW d [] (λf g=>PySem.call f g):=by
 intro w s₀ b mg v G Y j o u m e Q kV H J t C x I y z S i A R s M
 obtain rfl:Q=.none:=Dflts.none C p
 obtain rfl:kV=.none:=Dflts.noKw C
 let#[a,g,ns,rfl,rfl,hobj,hints,hlen]:=uo K i s
 refine enter_call (codeAny_mono (h w s₀ b mg v j o u m e a g ns G Y H (fd_plain J) t x hobj hints hlen I) λr k P=>?_)
 let#[rfl,h2,h3,h4]:=P
 exact#[.inl #[.bool true,.bool true,[],L,λ_=>rfl,.bool true,t6 l _,λ_=>#[List.Pairwise.nil,λ_ N=>(nomatch N)]],h2,h3,h4]
end Att
namespace L2
open PySem PySem.Spec PyProof.Rows
theorem oh:∀{a:X5} {ns:List Int},IntsAre a ns->aU (ns.map V.int) a
 |_,_,.nil=>.nil
 |_,_,.cons n t h=>.cons #[t,L] (oh h)
def yK(H:Hp):Prop:=∀b,H b=none\/∃o a,H b=some (.frz o (.lst a))
def vO{P:X9}{w:Xc}{K:X1}{mg Y:X3}{CX:wz}{k:Nat}{fa a:X8}{fd:FuncData}{x:Str}{sp:Sp}{c:X4}{p:X5}{ns:List Int}
  (KX:K.In c.heap) (B:c.heap.Ns mainGlobals mg) (g:c.heap.Ns builtinsNs Y) (a1:∀x:Str,x≠"__name__" ->Y x=bootBuiltins x) (N:c.heap.NoLimit) (hg:c.gens= (List.toArray []))
  (S:c.heap.get? a=some {cls:=.type "list",data:=.seq p.toArray}) (hi:IntsAre p ns) (hl:ns.length<=sizeLine) (hr:dv k callerA)
  (F:∀base:Heap,K.In base->base.Ns mainGlobals mg->bT P w K mg base CX k fa fd [x] sp) (t:∀(s:X4) (u:Xd),BindsTo s fd #[[u],[]] [(x,u)])
  (Z:∀H:Hp,yK H->fJ K H a (ns.map V.int)->sp [.ref a] H (λv _=>v=.bl true) λ_ _ _=>False)
  (X:∀H e i,CX [] H c (λ_ _ _=>False) e i->False):
  codeAny (model P w) callerA (.call (.ref fa) #[[.ref a],[]]) (λr i=>r=.ok (.ret (.bool true))/\OldK c.heap i.heap/\i.os=c.os/\AllBare i.gens) c:=by
 let rv:=oh hi
 let I:=hi.length
 have l:∀H:Hp,yK H->fJ K H a (ns.map V.int)->jz P w H c.heap->(∀b,H b≠none->b=a)->(H a≠none->K.lookup a=none)->
   codeAny (model P w) callerA (.call (.ref fa) #[[.ref a],[]]) (λr i=>r=.ok (.ret (.bool true))/\OldK c.heap i.heap/\i.os=c.os/\AllBare i.gens) c:=by
  intro H hO hS C hA hK
  have f:∀{b:X8} {o:Obj},c.heap.get? b=some o->H b=none->(oI c.heap H).get? b=some o:=λe n=>uU e n
  have a2:∀{b:X8} {o:Obj} {Q:Array DictEntry} {R:Nat},c.heap.get? b=some o->o.data=.dict Q R->H b=none:=λ{b o Q R} e d=>by
   cases q:H b with
   |none=>rfl
   | some u=>
     have e':b=a:=hA b (by rw[q];simp)
     subst e'
     rw[S] at e;cases e
     have d':Data.seq p.toArray _=Data.dict Q R:=d
     cases d'
  have j:∀{b:X8} {m:X3},c.heap.Ns b m->(oI c.heap H).Ns b m:=λ{b m} ⟨o,Q,R,e,d,r⟩=>#[o,Q,R,f e (a2 e d),d,r]
  have y:K.In (oI c.heap H):=λb o e=>f (KX b o e) (by
   cases q:H b with
   |none=>rfl
   | some u=>
     have e':b=a:=hA b (by rw[q];simp)
     subst e'
     rw[hK (by rw[q];simp)] at e;cases e)
  have hM:Mod K mg (oI c.heap H):=#[y,j B,#[Y,j g,a1],let ⟨mc,h1,h2⟩:=N;#[mc,j h1,h2]]
  have e0:xZ P w K mg (oI c.heap H) callerA [] c H:=#[L,hM,λb o e=>xH e,Nat.le_of_eq (uM _ _),trivial,λb g=>absurd (show b∈([]:List Addr) from g) (by simp),C,.of_eq hg]
  refine codeAny_mono ((F _ y (j B)).run callerA [] c H #[[.ref a],[]] [.ref a] [.ref a] _ _ hr e0 (t c (.ref a)) (.cons L .nil) (Z H hO hS)) λr i h=>?_
  cases r with
  |error e=>exact(X H e i h).elim
  | ok fl=>
    cases fl with
    |next=>exact False.elim h
    |brk=>exact False.elim h
    |cont=>exact False.elim h
    | ret u=>
      let#[v,H',os,A,un,M,r',q]:=h
      have q':v=.bl true:=q
      subst q'
      obtain rfl:u=Value.bool true:=r'
      refine#[L,OldK.of_keep λb o e=>?_,os,A]
      cases q:H b with
      |none=>exact un.keep b o e q (by intro z;exact absurd (show b∈([]:List Addr) from z) (by simp)) (by simp)
      | some u=>
        rcases hO b with z|⟨ob,xs,z⟩
        · rw[q] at z;cases z
        · have z2:=un.frzs b ob _ z
          let#[e1,_]:=C b _ z
          let#[e2,_]:=M b _ z2
          rw[e] at e1;cases e1
          exact e2
 cases U:K.lookup a with
 | some o=>
   let e:=KX a o U
   rw[S] at e
   cases e
   refine l (λ_=>none) (λ_=>.inl L) (.inr #[_,p.toArray,_,U,L,L,L,by rw[Qjq,I];exact hl,by simpa using rv]) (λb u z=>by have J:(none:Option HO)=some u:=z;cases J) (λb z=>absurd L z) λz=>absurd L z
 | none=>
   refine l (λb=>if b=a then some (.frz {cls:=.type "list",data:=.seq p.toArray} (.lst (ns.map V.int))) else none) (λb=>?_) (.inl (.inr #[{cls:=.type "list",data:=.seq p.toArray},Qhq L])) (λb u z=>?_) (λb z=>?_) λ_=>U
   · by_cases g:b=a
     · exact .inr #[_,_,Qhq g]
     · exact .inl (Quq g)
   · by_cases g:b=a
     · have J:=(Qhq g).symm.trans z
       cases J
       subst g
       exact#[S,by rw[lQm];exact hl,p,_,rv,S]
     · have J:=(Quq g).symm.trans z
       cases J
   · by_cases g:b=a
     · exact g
     · exact absurd (Quq g) z
def yG{l:PySem.W.OpenLaw}{n k:Nat}{q:X9}{i:X6}{XP:(Str->Option Value)->Heap->Prop}{M:World->Heap->Prop}{d:DefRec}{K:Params->PySem.W.Frag}{CX:World->wz}{sp:World->Sp}{x:Str}
  (U:l.most=some n) (C:n<=sizeLine) (y:d.params.defaults= []) (Q:dv k callerA)
  (X:∀(w:Xc) (h:Xe),M w h->(K w.params).In h)
  (F:∀(w:Xc) (mg:X3) (r:X8) (h:Xe),(K w.params).In h->h.Ns mainGlobals mg->mg d.name=some (.ref r)->
   ∃ A:FuncData,(∀(s:X4) (u:Xd),BindsTo s A #[[u],[]] [(x,u)])∧
     ∀base:Heap,(K w.params).In base->base.Ns mainGlobals mg->bT l.prog w (K w.params) mg base (CX w) k r A [x] (sp w))
  (z:∀(w:Xc) (H:Hp) (a:X8) (ns:List Int),ns.length<=n->yK H->fJ (K w.params) H a (ns.map V.int)->sp w [.ref a] H (λv _=>v=.bl true) λ_ _ _=>False)
  (B:∀(w:Xc) (H:Hp) (s:X4) (e:Xd) (t:X4),CX w [] H s (λ_ _ _=>False) e t->False):
  PySem.W.WalkO q i XP M l.row.toRowW d [] (λf N=>PySem.call f N):=by
 refine Att.qJ U y λw P m mg mb r o pm cd S a N ns G Y ho hd Z I p j c R=>?_
 let J:=X w _ Y
 let#[A,hb,hF]:=F w mg r _ J G.T.g I
 exact vO J G.T.g G.T.b G.T.builtins G.T.nolimit R p j (QAq c C) Q hF hb (λH hO hS=>z w H a ns c hO hS) λH e t=>B w H m e t
def eK(s:Stmt):Arguments:=match s with
 |.FunctionDef _ a _ _ _ _ _ _ _ _=>a
 |_=>{posonlyargs:= [],args:= [],vararg:=none,kwonlyargs:= [],kw_defaults:= [],kwarg:=none,defaults:= []}
def dq(s:Stmt):List Stmt:=match s with
 |.FunctionDef _ _ b _ _ _ _ _ _ _=>b
 |_=> []
def aE(s:Stmt):Scope:=match s with
 |.FunctionDef _ _ _ _ _ _ a _ _ _=>a
 |_=>{kind:=.function,names:= [],isGenerator:=false,isCoroutine:=false}
abbrev fj:wz:=λ_ _ _ _ _ _=>False
abbrev E0:XK:=λ_ _ _=>False
def y7{X:Cx}:se fj X E0:=λ_ _ _ _ _ _ _ h=>h.elim
structure gS(K:X1)(x qual:Str)(st:Stmt)(f:X8)(fd:FuncData):Prop where
 ex:∃(oc:Xd) (od:Option Addr) (kV doc pm:Xd) (an:Option Addr) (cdv ct:Xd) (osl:Array (Option Value)),
  fd=PySem.W.fnOf x qual (eK st) (dq st) (aE st) .none kV doc pm an cdv ct/\K.lookup f=some #[oc,od,.func fd,osl]/\PySem.W.codeIn K cdv qual=true
 kp:PySem.W.keepIn K (.ref f)=true
section
variable{P:X9}{w:Xc}{K:X1}{mg:X3}{base:Xe}
def gS.ok{x a:Str}{st:Stmt}{f:X8}{g:FuncData}{N ps:X6}{k:Nat}{sp:Sp}(F:gS K x a st f g)(S:aX N ps (aE st))(len:∀c H Q E,sp c H Q E->c.length=ps.length)
  (d:∀(b:Xd) (A:X_) (outer:List Env) (s:X4) (H:Hp) (c:List V) (Q:VK) (E:XK),dv k (A.deeper (envOfC a (aE st) s.heap.objs.size f b))->sp c H Q E->
   ∃t,kQ (qf fj P w K mg base N a (aE st) f b A outer s H E).nox (dq st) t/\t {nx:=λ_ m=>Q .non m,rt:=Q} (start N c) H):bT P w K mg base fj (k+1) f g ps sp:=by
 let#[p,n,kV,j,r,o,b,u,l,rfl,lk,hcd]:=F.ex
 refine Cq lk hcd S len λA outer s H c Q E i e=>?_
 let#[t,h,q]:=d b A outer s H c Q E i e
 exact#[t,h.nox,q]
def gS.binds{x a:Str}{st:Stmt}{f:X8}{i:FuncData}{ps:X6}(F:gS K x a st f i)
  (h:∀(kV b g:Xd) (e:Option Addr) (c ct:Xd) (d:X5),d.length=ps.length->bindArgs (PySem.W.fnOf x a (eK st) (dq st) (aE st) .none kV b g e c ct) #[d,[]]=pure (ps.zip d)):Binds K i ps []:=by
 let#[k,l,kV,b,g,e,c,ct,j,rfl,lk,hcd]:=F.ex
 exact .all (h kV b g e c ct)
def rM{x a:Str}{st:Stmt}{f:X8}{i:Xd}{od g:Option Addr}{e:Array (Option Value)}{kV d h b ct:Xd}(l:K.lookup f=some #[i,od,.func (PySem.W.fnOf x a (eK st) (dq st) (aE st) .none kV d h g b ct),e])
  (c:PySem.W.codeIn K b a=true) (k:PySem.W.keepIn K (.ref f)=true):gS K x a st f (PySem.W.fnOf x a (eK st) (dq st) (aE st) .none kV d h g b ct):=#[#[i,od,kV,d,h,g,b,ct,e,L,l,c],k]
end
def u9{A:X_}{k:Nat}(a:dv k A):A.units+1<cLine:=Nat.lt_of_le_of_lt (Nat.add_le_add_left (by decide:1<=64) _) a.units
def nV{n:Nat}(h:n<=1000):n<sizeLine:=Nat.lt_of_le_of_lt h (!1)
section
variable{X:Cx}
def pv(i:Nat){x:Str}{b:Pos}(d:autoParam (X.N[i]?=some x) ad._auto_1)(e:autoParam (Bg X.env.scope x) af._auto_1)(c:autoParam ((x==("__debug__":Str))=false) ac._auto_1)
  (a:autoParam ((x==("__classdict__":Str))=false) ac._auto_1):PE X (.Name x b) (zE i):=Aa d e c a
end
section
variable{prog:X9}{w:Xc}{A:X_}{s:X4}
def jq{p a j:Expr}{o:List Expr}{d:Scope}{B:Pos}{it t:Xd}{env:Env}{R:Result->Shared->Prop}(I:Nat->Shared->Prop)
  (C:∀n s,I n s->wpAny (model prog w) A (pyNext it) (λr b=>match r with
   |none=>R (.ok .next) b
   |some v=>wpAny (model prog w) A (letOwnedTupleGo a it v) (λ_ e=>wpAny (model prog w) A (assign a env v) (λ_ g=>
     wpAny (model prog w) A (forIn o true λc r=>if r=true then do let ok<-isTrue c env (eval c env);pure (ForInStep.yield ok) else pure (ForInStep.yield r)) (λok s₃=>
      if ok=true then wpAny (model prog w) A (eval p env) (λx i=>
       wpAny (model prog w) A (call (.builtin "list.append") [t,x]) (λ_ l=>∃m,m<n/\I m l) (λ_ _=>False) i) (λ_ _=>False) s₃
      else∃m,m<n/\I m s₃) (λ_ _=>False) g) (λ_ _=>False) e) (λ_ _=>False) b) (λ_ _=>False) s)
  (n:Nat) (h:I n s):codeAny (model prog w) A (.compLoop (.ListComp p [#[a,j,o,0]] d B) 0 it t env) R s:=by
 refine codeAny_loop L I (λn s F=>?_) n h
 show wpAny _ A ((compTurn (.ListComp p [#[a,j,o,0]] d B) 0 it t env).onRaise (λx=>do noteFrame x env;theTreesLotGoes x)) _ _ s
 refine wpAny_noted ?_
 rw[compTurn_list]
 refine Qaq (wpAny_standAt (Qaq (QRq (C n s F) (λr b k=>?_) λ_ _ f=>f.elim)))
 cases r with
 |none=>exact Qgq k
 | some v=>
   refine Qaq (QRq k (λ_ e q=>?_) λ_ _ f=>f.elim)
   refine Qaq (QRq q (λ_ g z=>Qaq (QRq z (λok s₃ h₃=>?_) λ_ _ f=>f.elim)) λ_ _ f=>f.elim)
   cases ok with
   |false=>exact Qgq #[L,h₃]
   | true=>
     exact Qaq (Qaq (QRq h₃ (λx i u=>Qaq (QRq u (λ_ l y=>Qgq (Qgq #[L,y])) λ_ _ f=>f.elim)) λ_ _ f=>f.elim))
end
def a7(X:Cx)(N:X6)(a:Scope)(b:List (Str×Addr))(C:X8)(s:X4)(H:Hp)(fp:X7):Cx where
 prog:=X.prog
 w:=X.w
 K:=X.K
 mg:=X.mg
 base:=X.base
 A:=X.A
 N:=N
 s₀:=s
 H₀:=H
 env:=compEnvC a b C X.env
 outer:=X.stack
 stack:=X.stack
 ex:=fp
 fn:=λ_=>false
 calm:=X.calm
 pn:= []
 xe:=λ_ _=>False
def j5(js:List (Option Nat))(a:St):St:=js.map λo=>o.bind λj=>a.getD j none
structure aG(X:Cx)(N:X6)(js:List (Option Nat))(scope:Scope)(cl:List (Str×Addr)):Prop where
 kind:scope.kind=.function
 nocell:∀y∈scope.names,y.2≠.cell
 names:∀y∈scope.names,y.2=.local->scope.names.lookup y.1=some .local
 clos:closureFor scope X.env=pure cl
 sub:∀x c,cl.lookup x=some c->X.env.cells.lookup x=some c
 has:∀x,((relabel scope X.env).names.lookup x=some .cell\/(relabel scope X.env).names.lookup x=some .free)->∃c,cl.lookup x=some c
 cap:∀(k j:Nat) (x:Str),js[k]?=some (some j)->N[k]?=some x->X.N[j]?=some x/\(X.env.kindOf x=some .cell\/X.env.kindOf x=some .free)/\((relabel scope X.env).names.lookup x=some .cell\/(relabel scope X.env).names.lookup x=some .free)
 len:js.length=N.length
def mY(X:Cx)(b:List Expr)(t:TT):Prop:=
 ∀ (a:X2) (s:X4) (d:St) (H:Hp) (Q:Bool->Hp->Prop),Inv X a d H s->t d H Q->
   wpAny (model X.prog X.w) X.A (forIn b true λc r=>if r=true then do let ok<-isTrue c X.env (eval c X.env);pure (ForInStep.yield ok) else pure (ForInStep.yield r)) (TP X a d Q) X.xe s
def AR{X:Cx}:mY X [] (λ_ H Q=>Q true H):=λ_ _ _ H _ I h=>wpAny_tests_nil #[H,I,h]
def zA{X:Cx}{c:Expr}{t:TT}(b:PT X c t):mY X [c] t:=λa s d H Q I h=>
 wpAny_tests_one (cu (b a s d H Q I h) λok s' h'=>h')
def B3(J:It)(g:TG)(q:TT)(n:TE)(Q:VK)(D:X8)(p:St)(H:Hp):Prop:=
 ∃ W:Nat->Nat->St->Hp->Prop,(∃m,W 0 m p H)/\∀i m d e,W i m d e->
   (J.stop i e/\Q (.ref D) e)\/(J.go i e/\∃f:St->Hp->Prop,(∀b c,f b c->∃k,k<m/\W (i+1) k b c)∧
     ∀ x l,J.yld i e x l->g x d l λa o=>q a o λok H4=>
       if ok=true then n a H4 λy j=>∃h,j D=some (.lst h)/\h.length<sizeLine/\f a (upd j D (.lst (h++ [y]))) else f a H4)
def u5(js:List (Option Nat))(c:TI)(g:TG)(d:TT)(e:TE):TE:=λb H Q=>c b H λJ a=>∀D,a D=none->B3 J g d e Q D (j5 js b) (upd a D (.lst []))
def yI{X:Cx}{N:X6}{js:List (Option Nat)}{a:Scope}{Y:List (Str×Addr)}{tg Z b8:Expr}{c4:List Expr}{d4:Pos}{wi:TI}{g:TG}{tt:TT}{te:TE}
  (S:aG X N js a Y) (hc:X.calm=true) (hi:PI X tg Z wi)
  (hg:∀C s H fp,PG (a7 X N a Y C s H fp) tg g) (ht:∀C s H fp,mY (a7 X N a Y C s H fp) c4 tt) (he:∀C s H fp,PE (a7 X N a Y C s H fp) b8 te)
  (hs:autoParam (∀x,foldedSetIterable Z X.env x=pure x) ae._auto_1):PE X (.ListComp b8 [⟨tg,Z,c4,0⟩] a d4) (u5 js wi g tt te):=by
 intro b3 s σ H Q I h
 rw[eval_ListComp]
 refine wpAny_comprehension_free (use:=none) L hs S.clos S.kind S.names (cu (hi b3 s σ H _ I h) λv s1 h1=>cu h1 λe0 f h2=>?_)
 let#[it,fp,tn,J,P,e,B,T,b7,f2,hD]:=h2
 subst e
 refine QhQ (wpAny_newFunctionEnv S.nocell (by intro y hy;simp at hy) (λR K t=>?_) S.kind)
 dsimp only at K t|-
 generalize b6:f.heap.push {cls:=.type "list",dict:=none,data:=.seq ([]:List Value).toArray}=P2 at K t|-
 have hC:P2.objs.size=f.heap.objs.size+1:=by rw[<-b6,Heap.size_push]
 have d5:f.heap.objs.size≠P2.objs.size:=by rw[hC];exact Qwq (Nat.lt_succ_self _)
 have b2:f.heap.objs.size<=P2.objs.size:=by rw[hC];exact Nat.le_succ _
 have F:∀b,b<f.heap.objs.size->b≠P2.objs.size:=λb k=>by rw[hC];exact Qwq (Nat.lt_succ_of_lt k)
 have a1:∀b o,f.heap.get? b=some o->R.get? b=some o:=λb o e=>t.extBut b o (F b (Qiq e)) (Qcq _ (b6▸Qcq _ e))
 have d1:R.get? f.heap.objs.size=some {cls:=.type "list",dict:=none,data:=.seq ([]:List Value).toArray}:=t.extBut _ _ d5 (Qcq _ (b6▸Qrq _ L))
 have nD:P f.heap.objs.size=none:=B.fresh
 have nC:P P2.objs.size=none:=B.hok.fresh b2
 have b5:∀b∈fp,b<f.heap.objs.size:=λb k=>by
  let#[o,e,_]:=T.obj _ _ b7 b k
  exact Qiq e
 let#[W,#[m0,w0],d2]:=hD f.heap.objs.size nD
 have c5:(a7 X N a Y P2.objs.size f P fp).Ok:=by
  refine⟨B.ok.mod,S.kind,B.ok.glob,B.ok.blt,b2,λx y c h1 h2=>B.ok.inj x y c (S.sub x c h1) (S.sub y c h2),S.has,(λx c h=>by cases h),B.ok.hd,B.ok.frames,.inl L,
   λb k=>#[F b (b5 b k),λx c h=>(f2 b k).2.2.2.2.1 x c (S.sub x c h)],B.bs,QAq B.ok.bsz B.sz,λb o e k=>?_,λb k z=>?_,B.stack,B.stkFree⟩
  ·rcases(f2 b k).2.2.2.1 with z|z
   ·exact B.ok.noex b o e z
   ·exact absurd (Qqq (Qqq (Qiq e) B.ok.bsz) z) (Nat.lt_irrefl _)
  ·rcases Qsq.mp (B.stkSub b z) with q|q
   ·exact(f2 b k).2.1 q
   ·exact(f2 b k).2.2.1 q
 have d6:cm X.prog X.w (upd P f.heap.objs.size (.lst [])) R f.heap.objs.size (.lst []):=#[Nat.zero_le _,[],0,.nil,d1]
 have I4:Inv (a7 X N a Y P2.objs.size f P fp) [] (j5 js σ) (upd P f.heap.objs.size (.lst [])) {f with heap:=R,toks:=f.toks+([]:List (Str×Value)).length}:=by
  refine#[c5,L,B.bare,Un.laid a1 (Qmq _) nD,#[_,K,λi x v h1 h2 h3=>?_],λx c h=>?_,by show upd P _ _ P2.objs.size=none;rw[aQ d5.symm];exact nC,λx c h=>?_,λp hp=>absurd (show p∈([]:List (Addr×Obj)) from hp) (by simp),B.hok.laid a1 (Qmq _) d6,by show(j5 js σ).length=N.length;unfold j5;rw[lQm];exact S.len]
  ·unfold j5 at h2
   rw[gQm] at h2
   cases e:js[i]? with
   |none=>rw[e] at h2;cases h2
   | some o=>
     rw[e] at h2
     cases o with
     |none=>cases h2
     | some j=>
       have a4:σ.getD j none=some v:=QdQ h2
       have hj:σ[j]?=some (some v):=by
         rw[Qlq] at a4
         cases q:σ[j]? with
         |none=>rw[q] at a4;cases a4
         |some y=>rw[q] at a4;exact congrArg some a4
       let#[c1,c2,c3]:=S.cap i j x e h1
       let#[m,hn,hl]:=B.loc
       have d9:Bg X.env.scope x:=by
         rcases c2 with z|z
         · exact .inr (.inl z)
         · exact .inr (.inr z)
       let#[u,r,l]:=hl j x v c1 hj d9
       refine#[u,r,.inr #[c3,?_]]
       let#[c,c8]:=S.has x c3
       refine#[c,c8,?_]
       rcases l with⟨z,_⟩|⟨_,c',e',z⟩
       · rcases c2 with y|y <;>rw[y] at z <;>cases z
       · rw[S.sub x c c8] at e'
         cases e'
         let#[o,ho,hd]:=z
         exact#[o,a1 _ _ ho,hd]
  ·let#[v,o,ho,hd]:=B.cell x c (S.sub x c h)
   exact#[v,o,a1 _ _ ho,hd]
  ·let#[v,o,ho,hd]:=B.cell x c (S.sub x c h)
   rw[aQ (Qwq (Qiq ho))]
   exact B.freeC x c (S.sub x c h)
 have a3:∀{U:X2} {H':Hp},U= []->(∀b∈fp,H' b=none)->∀b∈fp,pV (a7 X N a Y P2.objs.size f P fp) U H' b:=λ{U H'} ep hn b k=>by
  subst ep
  refine#[hn b k,F b (b5 b k),λz=>c5.exfs b k z,.inl k,λx c h=>(f2 b k).2.2.2.2.1 x c (S.sub x c h),λp hp=>absurd (show p∈([]:List (Addr×Obj)) from hp) (by simp)]
 have b4:codeAny (model X.prog X.w) X.A (.compLoop (.ListComp b8 [⟨tg,Z,c4,0⟩] a d4) 0 (.ref it) (.ref f.heap.objs.size) (compEnvC a Y P2.objs.size X.env))
   (compPost (model X.prog X.w) X.A X.xe none (EP X b3 σ Q) (.ref f.heap.objs.size) P2.objs.size) {f with heap:=R,toks:=f.toks+([]:List (Str×Value)).length}:=by
  refine jq (λn s'=>∃i a5 H',Inv (a7 X N a Y P2.objs.size f P fp) [] a5 H' s'/\tn i s'.heap/\(∀b∈fp,H' b=none)/\W i n a5 H') ?_ m0
   #[0,_,_,I4,T.keep _ _ _ b7 λb _ o e=>a1 b o e,λb k=>by rw[aQ (Qwq (b5 b k))];exact(f2 b k).1,w0]
  rintro n s3 ⟨i,b1,H3,I3,c6,c9,w3⟩
  rcases d2 i n b1 H3 w3 with⟨d3,q⟩|⟨go,Nx,hN,c7⟩
  ·refine cu (T.done (a7 X N a Y P2.objs.size f P fp) L L L hc i [] s3 b1 H3 _ I3 (a3 L c9) c6 d3) λr s4 qr=>?_
   let#[hr,I5]:=qr
   subst hr
   let#[m,hn,_]:=id I5.loc
   refine#[m,hn,λh' b0=>#[.ref f.heap.objs.size,H3,?_,L,q]]
   let u:=I5.base
   have ne:∀b o,f.heap.get? b=some o->b≠P2.objs.size:=λb o e=>F b (Qiq e)
   refine B.call' (ch:=fp) I5.os #[λb o e n k hx=>(b0.2 b (ne b o e)).trans (u.keep b o e n k hx),λb o e n k hx=>?_,u.free,λb o e hx=>?_,u.tups,u.frzs,u.tbls] (λb ob e=>?_) I5.bare λb k=>#[(f2 b k).2.2.2.1,(f2 b k).2.1,(f2 b k).2.2.2.2.1,(f2 b k).2.2.2.2.2]
   ·let#[sl,e1]:=u.slot b o e n k hx
    exact#[sl,(b0.2 b (ne b o e)).trans e1]
   ·let#[o',e1]:=u.there b o e hx
    exact#[o',(b0.2 b (ne b o e)).trans e1]
   ·refine(I5.hok b ob e).stay (λc w' hc q=>(b0.2 c ?_).trans q) (λ_ q=>q) λ_ _ q=>q
    have fC:H3 P2.objs.size=none:=I5.free
    rintro rfl
    rcases hc with z|z
    ·rw[<-z,fC] at e;cases e
    ·rw[fC] at z;cases z
  ·refine cu (T.item (a7 X N a Y P2.objs.size f P fp) L L L hc i [] s3 b1 H3 _ I3 (a3 L c9) c6 go) λr s4 qr=>?_
   let#[u,hr,h4]:=qr
   subst hr
   refine cu h4 λ_ s5 qr=>?_
   let#[x,H5,I5,r5,y5,b9,d7]:=qr
   let d8:=I5.pinned (a3 L d7) (T.obj _ _ b9)
   refine cu (hg P2.objs.size f P fp _ s5 b1 H5 x u _ d8 r5 (c7 x H5 y5)) λ_ s6 qr=>?_
   let#[M,H6,I6,q6]:=qr
   refine cu (ht P2.objs.size f P fp _ s6 M H6 _ I6 q6) λok s7 qr=>?_
   let#[H7,I7,q7]:=qr
   have a2:∀{s8:X4} {H8:Hp},Inv (a7 X N a Y P2.objs.size f P fp) ([]++jY fp s5.heap) M H8 s8->Nx M H8->∃m,m<n/\∃i a5 H',Inv (a7 X N a Y P2.objs.size f P fp) [] a5 H' s8/\tn i s8.heap/\(∀b∈fp,H' b=none)/\W i m a5 H':=λ{s8 H8} I8 n8=>by
    let#[m',hm,w8]:=hN M H8 n8
    refine#[m',hm,i+1,M,H8,I8.unpinned,T.keep _ _ _ b9 λb k o e=>(I8.pin (b,o) (Qoq _ (Qoq _ (dr k e)))).1,λb k=>?_,w8]
    let#[o,e,d]:=T.obj _ _ b9 b k
    exact(I8.pin (b,o) (Qoq _ (Qoq _ (dr k e)))).2.1
   cases ok with
   |false=>exact a2 I7 q7
   | true=>
     refine cu (he P2.objs.size f P fp _ s7 M H7 _ I7 q7) λyv s8 qr=>?_
     let#[y,H8,I8,ry,xs,hx,hl,n8]:=qr
     refine cu (j8 (X:=a7 X N a Y P2.objs.size f P fp) _ s8 M H8 (.ref f.heap.objs.size) [y] (.ref f.heap.objs.size) [yv] (λ_ H'=>Nx M H') I8 L (.cons ry .nil) #[_,xs,y,L,L,hx,hl,n8]) λ_ s9 qr=>?_
     let#[z,H9,I9,_,q9]:=qr
     exact a2 I9 q9
 exact codeAny_compStart_list b4 (T.self _ 0 _ _ _ (T.keep _ _ _ b7 λb _ o e=>a1 b o e) b4)
section
variable{X:Cx}
def xa:gJ X (.builtin "isinstance") (λxs H Q=>∃x T t b,xs= [x,.ty T]/\jR X.K H x t/\PySem.W.kitOne X.K t (.type T)=some b/\Q (.bl b) H):=by
 intro a s g H xs f Q I r h
 let#[x,T,t,b,rfl,ty,e,q]:=h
 let#[u,d,rfl,rx,rt]:=vals2 r
 cases (show d=Value.type T from rt)
 exact uj I rx ty e λc=>#[.bl b,H,I.tok c,L,q]
def yV:List V->List V->Bool
 | [],[]=>true
 |x::xs,y::ys=>qx x y&&yV xs ys
 |_,_=>false
theorem sD:∀{xs ys:List V},xs.length≠ys.length->yV xs ys=false
 | [],[],h=>absurd L h
 | [],_::_,_=>rfl
 |_::_,[],_=>rfl
 | x::xs,y::ys,h=>by
   have:=sD (xs:=xs) (ys:=ys) λe=>h (by simp[e])
   show(qx x y&&yV xs ys)=false
   rw[this,Bool.and_false]
theorem t5:∀{xs ys:List V},xs.length=ys.length->(List.range xs.length).all (λj=>qx (xs.getD j .non) (ys.getD j .non))=yV xs ys
 | [],[],_=>rfl
 | [],_::_,h=>by cases h
 |_::_,[],h=>by cases h
 | x::xs,y::ys,h=>by
   let a:=t5 (xs:=xs) (ys:=ys) (Nat.succ.inj h)
   rw[Qnq,List.range_succ_eq_map,List.all_cons,List.all_map]
   show(qx x y&&_)=(qx x y&&yV xs ys)
   rw[<-a]
   rfl
def zV{A:X_}{s:X4}{xs ys:List V}{a b:X5}(r:aU xs a)(e:aU ys b)(f:xs.all ft=true)(t:ys.all ft=true)(j:Nat)(g:j<a.toArray.size)(q:j<b.toArray.size):
  SeqAt.EqAt A s a.toArray[j] b.toArray[j] (qx (xs.getD j .non) (ys.getD j .non)):=by
 let k:=r.length
 let l:=e.length
 have d:j<xs.length:=by rw[k];simpa using g
 have c:j<ys.length:=by rw[l];simpa using q
 let#[u,x,w]:=r.get (gQe d)
 let#[v,o,i]:=e.get (gQe c)
 have m:xs.getD j .non=xs[j]:=by rw[Qlq,gQe d];rfl
 have n:ys.getD j .non=ys[j]:=by rw[Qlq,gQe c];rfl
 have p:a.toArray[j]=u:=by
  have:=(gQs.mp x).2
  simpa using this
 have h:b.toArray[j]=v:=by
  have:=(gQs.mp o).2
  simpa using this
 rw[p,h,m,n]
 exact vb w i (QUq.mp f _ (List.getElem_mem d)) (QUq.mp t _ (List.getElem_mem c))
def Df(K:X1)(e:Bool):R2:=λx y H Q=>∃a b d c,x=.ref a/\y=.ref b/\fJ K H a d/\fJ K H b c/\d.all ft=true/\c.all ft=true/\Q (.bl (if e then !yV d c else yV d c)) H
def zJ(p:X.A.units<cLine):iK X (compareOp .NotEq) (Df X.K true):=by
 intro t s M H x y v u Q I F C h
 let#[a,b,g,m,rfl,rfl,ha,hb,fa,fb,q]:=h
 cases F
 cases C
 let#[d,r,n,J]:=I.list ha
 let#[i,k,c,z]:=I.list hb
 by_cases f:g.length=m.length
 ·have l:d.toArray.size=i.toArray.size:=by simp[<-r.length,<-k.length,f]
  refine SeqAt.RcNeAt.lists (e:=λj=>qx (g.getD j .non) (m.getD j .non)) n.isList c.isList l p (λj w B=>zV r k fa fb j w B) _ _ _ _ #[.bl _,H,I,L,?_]
  rw[show d.toArray.size=g.length by simp[r.length],t5 f]
  exact q
 ·refine SeqAt.RcNeAt.lists_lengths n.isList c.isList (by simpa [<-r.length,<-k.length] using f) p _ _ _ _ #[.bl _,H,I,L,?_]
  have o:Q (.bl (!yV g m)) H:=q
  rw[sD f] at o
  exact o
end
theorem mz{α d:Type}{f g:α->Option d}:∀{l:List α},(∀a∈l,f a=g a)->l.filterMap f=l.filterMap g
 | [],_=>rfl
 | a::l,h=>by
   rw[List.filterMap_cons,List.filterMap_cons,h a QBq,mz λb c=>h b (Qpq _ c)]
def vE(a:X5):slicePick a.toArray none none (some (-1))=a.reverse.toArray:=by
 have e:sliceBounds none none (some (-1)) a.toArray.size=((a.length:Int)-1,-1,-1):=by
  unfold sliceBounds;simp
 unfold slicePick
 rw[e]
 show((sliceRange ((a.length:Int)-1) (-1) (-1)).filterMap λk=>a.toArray[k]?).toArray=_
 have f:sliceRange ((a.length:Int)-1) (-1) (-1)=(List.range a.length).map λ(k:Nat)=>((a.length:Int)-1+ -1*(k:Int)).toNat:=by
  unfold sliceRange
  have g:(if (-1:Int)>0 then(if ((a.length:Int)-1)< -1 then(-1-((a.length:Int)-1)+ -1-1)/ -1 else 0) else(if ((a.length:Int)-1)> -1 then(((a.length:Int)-1)- -1- -1-1)/(- -1) else 0))=(a.length:Int):=by
   rw[Quq (!1)]
   split
   ·rw[show(- -1:Int)=1 by decide,Int.ediv_one];omega
   ·omega
  show(List.range (if (-1:Int)>0 then(if ((a.length:Int)-1)< -1 then(-1-((a.length:Int)-1)+ -1-1)/ -1 else 0) else(if ((a.length:Int)-1)> -1 then(((a.length:Int)-1)- -1- -1-1)/(- -1) else 0)).toNat).map _=_
  rw[g]
  rfl
 rw[f,List.filterMap_map]
 have d:(List.range a.length).filterMap ((λk=>a.toArray[k]?)∘λ(k:Nat)=>((a.length:Int)-1+ -1*(k:Int)).toNat)=(List.range a.length).filterMap (λk=>a.reverse[k]?):=by
  refine mz λk c=>?_
  have b:k<a.length:=List.mem_range.mp c
  erw[Function.comp]
  have:((a.length:Int)-1+ -1*(k:Int)).toNat=a.length-1-k:=by omega
  rw[this,List.getElem?_reverse b]
  simp
 rw[d]
 have j:∀l:List Value,(List.range l.length).filterMap (λk=>l[k]?)=l:=by
  intro l
  have:(List.range l.length).filterMap (λk=>l[k]?)=(List.range l.length).filterMap (some∘λk=>l.getD k .none):=by
   refine mz λk c=>?_
   have b:k<l.length:=List.mem_range.mp c
   simp[Qlq,gQe b]
  rw[this,List.filterMap_eq_map]
  refine List.ext_getElem (by simp) λi m h=>?_
  simp[Qlq,gQe h]
 have:=j a.reverse
 rw[List.length_reverse] at this
 rw[this]
def DN(K:X1)(f e:TE):TE:=λd H Q=>f d H λx g=>e d g λy b=>y=.int (-1)/\∃a c,x=.ref a/\fJ K b a c/\∀p,b p=none->Q (.ref p) (upd b p (.lst c.reverse))
def z_{X:Cx}{e st:Expr}{m l:TE}{n j:Pos}(he:PE X e m)(Y:PE X st l):PE X (.Subscript e (.Slice none none (some st) n) j) (DN X.K m l):=by
 intro c s f H Q I h
 refine Subscript_ (cu (he c s f H _ I h) λv F i=>?_)
 let#[x,P,u,S,C]:=i
 refine wpAny_Slice ?_
 rw[evalPart_none,evalPart_some]
 refine Qgq (Qgq (cu (Y c F f P _ u C) λU d i=>?_))
 let#[y,N,B,J,Z,a,xs,R,M,q]:=i
 subst Z R
 cases (show v=Value.ref a from S)
 let#[t,rfl]:=(show∃t,U=Value.int (-1) t from J)
 have g:Inv X c f N {d with heap:=d.heap.push {cls:=.type "slice",data:=.fields (List.toArray [.none,.none,.int (-1) t])}}:=B.kept (t':=d.toks) λb W q=>Qcq _ q
 let#[p,r,k,z]:=g.list M
 show wpAny (model X.prog X.w) X.A (subscriptTail e (.Slice none none (some st) n) (.ref a) (.ref d.heap.objs.size)) (EP X c f Q) X.xe {d with heap:=d.heap.push {cls:=.type "slice",data:=.fields (List.toArray [.none,.none,.int (-1) t])}}
 refine tail_any (ops:= [.ref a,.ref d.heap.objs.size]) k.isList.typeIs slot_list_getitem.lookup (wpAny_getItem_list_slice (lo:=none) (hi:=none) (st:=some (-1)) k.isList (Heap.IsSliceOf.new ..) .none .none (.int _ _) (by simp) ?_ (by rw[Qjq];have:=r.length;omega)) (by with_unfolding_all rfl)
 rw[vE]
 refine#[.ref _,_,g.laid (t':=d.toks) (o:=.lst xs.reverse) (λb W q=>Qcq _ q) (Qmq _) ?_,L,q _ g.fresh]
 exact#[by rw[List.length_reverse];exact z,_,0,r.reverse,Qrq _ L]
section
variable{X:Cx}
theorem qe:∀{ys:X6} {a:X5},aU (ys.map V.str) a->StrsAre a ys
 | [],_,r=>by cases r;exact .nil
 | y::ys,_,r=>by
   cases r with
   | cons h t=>
     let#[b,rfl]:=h
     exact .cons y b (qe t)
def rJoin(K:X1):V->List V->Hp->VK->Prop:=λx d H Q=>∃b a c,x=.str b/\d= [.ref a]/\fJ K H a (c.map V.str)/\(c.map (λx=>x.length)).sum+c.length*b.length<=16777216/\Q (.str (Txt.join b c)) H
def yJ:C1 X "str.join" (rJoin X.K):=by
 intro d s m H x n v l Q I j g h
 let#[b,a,ys,rfl,rfl,ha,hz,q]:=h
 let#[t,rfl]:=j
 let#[u,rfl,ru]:=g.one
 cases (show u=Value.ref a from ru)
 let#[c,r,f,_]:=I.list ha
 refine PyProof.Rows.join_list (items:=c.toArray) (ys:=ys) f.isList (qe r) hz λi k=>#[.str (Txt.join b ys),H,I.kept (h':=s.heap) λ_ _ e=>e,#[i,L],q]
end
end L2
namespace Dk
open PySem
end Dk
namespace L2
open PySem PySem.Spec PyProof.Rows
end L2
namespace Dk
open PySem
end Dk
namespace L2
open PySem PySem.Spec PyProof.Rows
def xE{X:Cx}{N:X6}{js:List (Option Nat)}{a:Scope}{cl:List (Str×Addr)}{tg R b4 M:Expr}{b5:List Expr}{c5 b8:Pos}{wi:TI}{g gt:TG}{tt:TT}{te:TE}
  (S:aG X N js a cl) (hc:X.calm=true) (hi:PI X tg R wi)
  (hg:∀C s H fp,PG (a7 X N a cl C s H fp) tg g) (ht:∀C s H fp,mY (a7 X N a cl C s H fp) b5 tt) (he:∀C s H fp,PE (a7 X N a cl C s H fp) b4 te) (e3:PG X M gt)
  (hs:autoParam (∀x,foldedSetIterable R X.env x=pure x) ae._auto_1) (e8:autoParam (swapsWithSole [M] (.ListComp b4 [⟨tg,R,b5,0⟩] a c5) b8.line X.env=pure true) ad._auto_1)
  (h1:autoParam ((assignEach [M] X.env).map (·.2)= [assign M X.env]) ad._auto_1):PS X (.Assign [M] (.ListComp b4 [#[tg,R,b5,0]] a c5) b8) (vf (u5 js wi g tt te) gt):=by
 intro a1 s σ H Dn I h
 rw[exec_Assign_arm]
 refine Qaq (wpAny_standAt (Qaq (wpAny_of_eq e8 (wpAny_ite_true L (Qaq ?_)))))
 rw[h1]
 show wpAny _ _ (do let _<-comprehension _ _ _ _ _ _ _ (some λv=>assignAll v [assign M X.env]);pure ()) _ _ _
 refine Qaq ?_
 refine wpAny_comprehension_free (use:=some λv=>assignAll v [assign M X.env]) L hs S.clos S.kind S.names (cu (hi a1 s σ H _ I h) λv s1 h1=>cu h1 λf0 k h2=>?_)
 let#[it,fp,tn,J,Q,e,B,T,c6,f2,hD]:=h2
 subst e
 refine QhQ (wpAny_newFunctionEnv S.nocell (by intro y hy;simp at hy) (λU P t=>?_) S.kind)
 dsimp only at P t|-
 generalize c4:k.heap.push {cls:=.type "list",dict:=none,data:=.seq ([]:List Value).toArray}=P2 at P t|-
 have hC:P2.objs.size=k.heap.objs.size+1:=by rw[<-c4,Heap.size_push]
 have d8:k.heap.objs.size≠P2.objs.size:=by rw[hC];exact Qwq (Nat.lt_succ_self _)
 have a5:k.heap.objs.size<=P2.objs.size:=by rw[hC];exact Nat.le_succ _
 have K:∀b,b<k.heap.objs.size->b≠P2.objs.size:=λb f=>by rw[hC];exact Qwq (Nat.lt_succ_of_lt f)
 have a3:∀b o,k.heap.get? b=some o->U.get? b=some o:=λb o e=>t.extBut b o (K b (Qiq e)) (Qcq _ (c4▸Qcq _ e))
 have d5:U.get? k.heap.objs.size=some {cls:=.type "list",dict:=none,data:=.seq ([]:List Value).toArray}:=t.extBut _ _ d8 (Qcq _ (c4▸Qrq _ L))
 have nD:Q k.heap.objs.size=none:=B.fresh
 have nC:Q P2.objs.size=none:=B.hok.fresh a5
 have b9:∀b∈fp,b<k.heap.objs.size:=λb f=>by
  let#[o,e,_]:=T.obj _ _ c6 b f
  exact Qiq e
 let#[W,#[m0,w0],d6]:=hD k.heap.objs.size nD
 have c8:(a7 X N a cl P2.objs.size k Q fp).Ok:=by
  refine⟨B.ok.mod,S.kind,B.ok.glob,B.ok.blt,a5,λx y c h1 h2=>B.ok.inj x y c (S.sub x c h1) (S.sub y c h2),S.has,(λx c h=>by cases h),B.ok.hd,B.ok.frames,.inl L,
   λb f=>#[K b (b9 b f),λx c h=>(f2 b f).2.2.2.2.1 x c (S.sub x c h)],B.bs,QAq B.ok.bsz B.sz,λb o e f=>?_,λb f z=>?_,B.stack,B.stkFree⟩
  ·rcases(f2 b f).2.2.2.1 with z|z
   ·exact B.ok.noex b o e z
   ·exact absurd (Qqq (Qqq (Qiq e) B.ok.bsz) z) (Nat.lt_irrefl _)
  ·rcases Qsq.mp (B.stkSub b z) with q|q
   ·exact(f2 b f).2.1 q
   ·exact(f2 b f).2.2.1 q
 have d9:cm X.prog X.w (upd Q k.heap.objs.size (.lst [])) U k.heap.objs.size (.lst []):=#[Nat.zero_le _,[],0,.nil,d5]
 have I4:Inv (a7 X N a cl P2.objs.size k Q fp) [] (j5 js σ) (upd Q k.heap.objs.size (.lst [])) {k with heap:=U,toks:=k.toks+([]:List (Str×Value)).length}:=by
  refine#[c8,L,B.bare,Un.laid a3 (Qmq _) nD,#[_,P,λi x v h1 h2 h3=>?_],λx c h=>?_,by show upd Q _ _ P2.objs.size=none;rw[aQ d8.symm];exact nC,λx c h=>?_,λp hp=>absurd (show p∈([]:List (Addr×Obj)) from hp) (by simp),B.hok.laid a3 (Qmq _) d9,by show(j5 js σ).length=N.length;unfold j5;rw[lQm];exact S.len]
  ·unfold j5 at h2
   rw[gQm] at h2
   cases e:js[i]? with
   |none=>rw[e] at h2;cases h2
   | some o=>
     rw[e] at h2
     cases o with
     |none=>cases h2
     | some j=>
       have b1:σ.getD j none=some v:=QdQ h2
       have hj:σ[j]?=some (some v):=by
         rw[Qlq] at b1
         cases q:σ[j]? with
         |none=>rw[q] at b1;cases b1
         |some y=>rw[q] at b1;exact congrArg some b1
       let#[c1,c2,c3]:=S.cap i j x e h1
       let#[m,hn,hl]:=B.loc
       have e9:Bg X.env.scope x:=by
         rcases c2 with z|z
         · exact .inr (.inl z)
         · exact .inr (.inr z)
       let#[u,r,l]:=hl j x v c1 hj e9
       refine#[u,r,.inr #[c3,?_]]
       let#[c,d3]:=S.has x c3
       refine#[c,d3,?_]
       rcases l with⟨z,_⟩|⟨_,c',e',z⟩
       · rcases c2 with y|y <;>rw[y] at z <;>cases z
       · rw[S.sub x c d3] at e'
         cases e'
         let#[o,ho,hd]:=z
         exact#[o,a3 _ _ ho,hd]
  ·let#[v,o,ho,hd]:=B.cell x c (S.sub x c h)
   exact#[v,o,a3 _ _ ho,hd]
  ·let#[v,o,ho,hd]:=B.cell x c (S.sub x c h)
   rw[aQ (Qwq (Qiq ho))]
   exact B.freeC x c (S.sub x c h)
 have b0:∀{Y:X2} {H':Hp},Y= []->(∀b∈fp,H' b=none)->∀b∈fp,pV (a7 X N a cl P2.objs.size k Q fp) Y H' b:=λ{Y H'} ep hn b f=>by
  subst ep
  refine#[hn b f,K b (b9 b f),λz=>c8.exfs b f z,.inl f,λx c h=>(f2 b f).2.2.2.2.1 x c (S.sub x c h),λp hp=>absurd (show p∈([]:List (Addr×Obj)) from hp) (by simp)]
 have b7:codeAny (model X.prog X.w) X.A (.compLoop (.ListComp b4 [⟨tg,R,b5,0⟩] a c5) 0 (.ref it) (.ref k.heap.objs.size) (compEnvC a cl P2.objs.size X.env))
   (compPost (model X.prog X.w) X.A X.xe (some λv=>assignAll v [assign M X.env]) (λ_ s9=>wpAny (model X.prog X.w) X.A (pure ()) (λ_ e5=>wpAny (model X.prog X.w) X.A (pure Flow.next) (SP X a1 Dn) X.xe e5) X.xe s9) (.ref k.heap.objs.size) P2.objs.size) {k with heap:=U,toks:=k.toks+([]:List (Str×Value)).length}:=by
  refine jq (λn s'=>∃i b2 H',Inv (a7 X N a cl P2.objs.size k Q fp) [] b2 H' s'/\tn i s'.heap/\(∀b∈fp,H' b=none)/\W i n b2 H') ?_ m0
   #[0,_,_,I4,T.keep _ _ _ c6 λb _ o e=>a3 b o e,λb f=>by rw[aQ (Qwq (b9 b f))];exact(f2 b f).1,w0]
  rintro n s3 ⟨i,b6,H3,I3,c9,d4,w3⟩
  rcases d6 i n b6 H3 w3 with⟨d7,q⟩|⟨go,Nx,hN,d2⟩
  ·refine cu (T.done (a7 X N a cl P2.objs.size k Q fp) L L L hc i [] s3 b6 H3 _ I3 (b0 L d4) c9 d7) λr s4 Z=>?_
   let#[hr,I5]:=Z
   subst hr
   let#[m,hn,_]:=id I5.loc
   have e6:∀h',Heap.SameBut P2.objs.size s4.heap h'->Inv X a1 σ H3 {s4 with heap:=h'}:=by
    intro h' a2
    let u:=I5.base
    have ne:∀b o,k.heap.get? b=some o->b≠P2.objs.size:=λb o e=>K b (Qiq e)
    refine B.call' (ch:=fp) I5.os #[λb o e n f hx=>(a2.2 b (ne b o e)).trans (u.keep b o e n f hx),λb o e n f hx=>?_,u.free,λb o e hx=>?_,u.tups,u.frzs,u.tbls] (λb ob e=>?_) I5.bare λb f=>#[(f2 b f).2.2.2.1,(f2 b f).2.1,(f2 b f).2.2.2.2.1,(f2 b f).2.2.2.2.2]
    ·let#[sl,e1]:=u.slot b o e n f hx
     exact#[sl,(a2.2 b (ne b o e)).trans e1]
    ·let#[o',e1]:=u.there b o e hx
     exact#[o',(a2.2 b (ne b o e)).trans e1]
    ·refine(I5.hok b ob e).stay (λc w' hc q=>(a2.2 c ?_).trans q) (λ_ q=>q) λ_ _ q=>q
     have fC:H3 P2.objs.size=none:=I5.free
     rintro rfl
     rcases hc with z|z
     ·rw[<-z,fC] at e;cases e
     ·rw[fC] at z;cases z
   let IX:=e6 s4.heap #[L,λ_ _=>rfl]
   have b3:pV X a1 H3 P2.objs.size:=B.fpOk a5 I5.free
   let#[oC,es,ep,d1,e0,e2]:=hn
   let IP:=IX.pinned (fp:= [P2.objs.size]) (λb f=>by rw[Qfq] at f;rw[f];exact b3) (λb f=>by rw[Qfq] at f;rw[f];exact#[oC,d1,λv=>by rw[e0];simp])
   show wpAny _ _ (assignAll (.ref k.heap.objs.size) [assign M X.env]) _ _ _
   rw[assignAll.eq_2]
   refine cu (e3 _ s4 σ H3 (.ref k.heap.objs.size) (.ref k.heap.objs.size) _ IP L q) λ_ s6 Z=>?_
   let#[F,H6,I6,q6]:=Z
   let pC:=I6.pin (P2.objs.size,oC) (Qoq _ (Qoq _ (dr (Qfq.mpr L) d1)))
   refine#[m,#[oC,es,ep,pC.1,e0,e2],λh' a2=>Qgq (Qgq #[F,H6,?_,q6])]
   exact I6.unpinned.turned (it:=P2.objs.size) (t':=s6.toks) (λb o' f e=>(a2.2 b f).trans e) pC.2.1 pC.2.2.1 b3.2.2.2.1 b3.2.2.2.2.1 b3.2.2.2.2.2
  ·refine cu (T.item (a7 X N a cl P2.objs.size k Q fp) L L L hc i [] s3 b6 H3 _ I3 (b0 L d4) c9 go) λr s4 Z=>?_
   let#[u,hr,h4]:=Z
   subst hr
   refine cu h4 λ_ s5 Z=>?_
   let#[x,H5,I5,r5,y5,c7,e4]:=Z
   let e7:=I5.pinned (b0 L e4) (T.obj _ _ c7)
   refine cu (hg P2.objs.size k Q fp _ s5 b6 H5 x u _ e7 r5 (d2 x H5 y5)) λ_ s6 Z=>?_
   let#[F,H6,I6,q6]:=Z
   refine cu (ht P2.objs.size k Q fp _ s6 F H6 _ I6 q6) λok s7 Z=>?_
   let#[H7,I7,q7]:=Z
   have a4:∀{s8:X4} {H8:Hp},Inv (a7 X N a cl P2.objs.size k Q fp) ([]++jY fp s5.heap) F H8 s8->Nx F H8->∃m,m<n/\∃i b2 H',Inv (a7 X N a cl P2.objs.size k Q fp) [] b2 H' s8/\tn i s8.heap/\(∀b∈fp,H' b=none)/\W i m b2 H':=λ{s8 H8} I8 n8=>by
    let#[m',hm,w8]:=hN F H8 n8
    refine#[m',hm,i+1,F,H8,I8.unpinned,T.keep _ _ _ c7 λb f o e=>(I8.pin (b,o) (Qoq _ (Qoq _ (dr f e)))).1,λb f=>?_,w8]
    let#[o,e,d]:=T.obj _ _ c7 b f
    exact(I8.pin (b,o) (Qoq _ (Qoq _ (dr f e)))).2.1
   cases ok with
   |false=>exact a4 I7 q7
   | true=>
     refine cu (he P2.objs.size k Q fp _ s7 F H7 _ I7 q7) λyv s8 Z=>?_
     let#[y,H8,I8,ry,xs,hx,hl,n8]:=Z
     refine cu (j8 (X:=a7 X N a cl P2.objs.size k Q fp) _ s8 F H8 (.ref k.heap.objs.size) [y] (.ref k.heap.objs.size) [yv] (λ_ H'=>Nx F H') I8 L (.cons ry .nil) #[_,xs,y,L,L,hx,hl,n8]) λ_ s9 Z=>?_
     let#[z,H9,I9,_,q9]:=Z
     exact a4 I9 q9
 exact codeAny_compStart_list b7 (T.self _ 0 _ _ _ (T.keep _ _ _ c6 λb _ o e=>a3 b o e) b7)
end L2
namespace Dk
open PySem
end Dk
namespace L2
open PySem PySem.Spec PyProof.Rows
section
variable{X:Cx}
def xY(K:X1):List V->Hp->VK->Prop:=λd H Q=>∃(a:X8) (c:X6),d= [.ref a]/\fJ K H a (c.map V.str)/\c.length<64/\∀(l:X8) (b:X6),H l=none->sortedS b=true->b.Perm c->Q (.ref l) (upd H l (.lst (b.map V.str)))
theorem m9:∀{ys:X6} {a:X5},aU (ys.map V.str) a->StrsAre a ys
 | [],_,r=>by cases r;exact .nil
 | y::ys,_,r=>by
   cases r with
   | cons h t=>
     let#[b,rfl]:=h
     exact .cons y b (m9 t)
def oE{a:X6}{b:X5}(h:StrsAre b a):aU (a.map V.str) b:=by
 induction h with
 |nil=>exact .nil
 |cons y t _ c=>exact .cons #[t,L] c
def pd:gJ X (.builtin "sorted") (xY X.K):=by
 intro m s A H B y Q I r h
 let#[a,j,rfl,ha,h64,q]:=h
 let#[u,rfl,rx]:=vals1 r
 cases (show u=Value.ref a from rx)
 let#[f,k,p,z]:=I.list ha
 have t:f.length=j.length:=by have:=k.length;simpa using this.symm
 have i:s.heap.objs.size<=s.heap.objs.size+1:=Nat.le_succ _
 refine sorted_strs p.isList (m9 k) (!0) λc d x l w=>?_
 let#[e,n]:=sortedAll_at s.heap f c
 have g:d.length=j.length:=l.length_eq
 refine#[.ref (s.heap.objs.size+1),_,I.laid (a:=s.heap.objs.size+1) (o:=.lst (d.map V.str)) (h':=sortedAll s.heap f c) (t':=s.toks) (λb o v=>?_) i #[?_,c.toList,e,oE x,?_],L,q _ d (I.hok.fresh i) w l]
 ·exact sortedAll_old v
 ·rw[lQm,g]
  exact QAq (nQl h64) (!1)
 ·simpa using n
end
end L2
namespace Zp
open PySem
end Zp
namespace L2
open PySem PySem.Spec PyProof.Rows
end L2
namespace Zp
open PySem PySem.W PyProof.Rows
end Zp
namespace L2
open PySem PySem.Spec PyProof.Rows
mutual
inductive kR(N:Addr->Prop)(H:Hp):PyData->V->Prop
 |non:kR N H .none .non
 |bl (b:Bool):kR N H (.bool b) (.bl b)
 |int (i:Int):kR N H (.int i) (.int i)
 |str (x:Str):kR N H (.str x) (.str x)
 |tup {a:X8} {us:List V} {xs:List PyData}:H a=some (.tup us)->kG N H xs us->kR N H (.tuple xs) (.ref a)
 |lst {a:X8} {us:List V} {xs:List PyData}:H a=some (.lst us)->N a->kG N H xs us->kR N H (.list xs) (.ref a)
 |dct {a:X8}:H a=some (.dK [])->kR N H (.dict []) (.ref a)
inductive kG(N:Addr->Prop)(H:Hp):List PyData->List V->Prop
 |nil:kG N H [] []
 |cons {x:PyData} {u:V} {xs:List PyData} {us:List V}:kR N H x u->kG N H xs us->kG N H (x::xs) (u::us)
end
section
variable{X:Cx}
mutual
theorem mw{g:X2}{M:St}{H:Hp}{s:X4}{N:Addr->Prop}(I:Inv X g M H s)(l:∀a,N a->a≠sysModules):∀{d:PyData} {v:V} {u:Xd},kR N H d v->RelV v u->∃as,Reads s.heap u d as/\sysModules∉as
 |_,_,_,.non,r=>by cases r;exact#[_,.none,by simp]
 |_,_,_,.bl b,r=>by cases r;exact#[_,.bool b,by simp]
 |_,_,_,.int i,r=>by let#[t,rfl]:=r;exact#[_,.int i t,by simp]
 |_,_,_,.str x,r=>by let#[t,rfl]:=r;exact#[_,.str x t,by simp]
 | _,_,_,.tup (a:=a) h hs,r=>by
   cases r
   let#[m,k,#[o,c,f,n,p],F]:=I.tuple (fL.of h)
   let#[as,q,j]:=ij I l hs k
   exact#[as,.tuple c f p (by simpa using q),j]
 | _,_,_,.lst (a:=a) h n hs,r=>by
   cases r
   let#[m,k,z,F]:=I.list (fJ.of h)
   let#[o,c,f,P,p]:=z.isList
   let#[as,q,j]:=ij I l hs k
   exact#[_,.list c f p (by simpa using q),by rw[Qsq];exact λe=>e.elim (λe=>l _ n e.symm) j]
 | _,_,_,.dct (a:=a) h,r=>by
   cases r
   let#[_,w,Q,J,C]:=zc I.hok h
   cases J
   let#[o,A,R,c,K,f,_,B,_]:=C
   have y:A.toList= []:=List.eq_nil_of_length_eq_zero B.length
   exact⟨_,.dict (as:= []) (bs:= []) (kvs:= []) c K.1 f (by rw[y];exact .nil) (by rw[y];exact .nil),by
     simp
     intro e
     rw[e] at w
     simp at w⟩
theorem ij{b:X2}{m:St}{H:Hp}{s:X4}{N:Addr->Prop}(I:Inv X b m H s)(d:∀a,N a->a≠sysModules):∀{xs:List PyData} {c:List V} {f:X5},kG N H xs c->aU c f->∃as,ReadsAll s.heap f xs as/\sysModules∉as
 |_,_,_,.nil,r=>by cases r;exact#[_,.nil,by simp]
 | _,_,_,.cons h hs,r=>by
   cases r with
   | cons r k=>
     let#[as,i,g]:=mw I d h r
     let#[n,l,j]:=ij I d hs k
     exact#[_,.cons i l,by rw[mQa];exact λe=>e.elim g j]
end
end
section
variable{X:Cx}
def yF:iK X (binaryOp .Mult) (rI IntMulOk λi j=>.int (i*j)):=C3 λ_ _ _ _ _ _ _ a q=>mul_int q a
end
section
variable{X:Cx}
def wx(K:X1):R2:=λx y H Q=>∃a b c,x=.ref a/\y=.ref b/\fJ K H a c/\fJ K H b []/\Q (.bl (!c.isEmpty)) H
def qM(e:X.A.units<cLine):iK X (compareOp .NotEq) (wx X.K):=by
 intro c s p H x y v u Q I g f h
 let#[a,b,t,rfl,rfl,ha,hb,q]:=h
 cases t with
 |nil=>exact zJ e c s p H _ _ v u Q I g f #[a,b,[],[],L,L,ha,hb,L,L,q]
 | cons z w=>
   cases g
   cases f
   let#[o,r,j,B]:=I.list ha
   let#[i,k,d,l]:=I.list hb
   let m:=r.length
   let n:=k.length
   exact SeqAt.RcNeAt.lists_lengths j.isList d.isList (by simp[<-m,<-n]) e _ _ _ _ #[.bl true,H,I,L,q]
end
end L2
namespace HT
open PySem PySem.Spec PyProof.Rows
section
variable{prog:X9}{w:Xc}{A:X_}{E:X0}{s:X4}
def iE{t sl:X8}{items:Xa}{g e:Xd}{lo hi:Xb}{Q:X0}(ht:IsTup s.heap t items)(f:s.heap.IsSliceOf sl g e .none)(j:IsPart g lo)(n:IsPart e hi)
  (i:cV items.size 0 lo=0/\cV items.size items.size hi=items.size) (h:Q (.ref t) s):wpAny (model prog w) A (getItem (.ref t) (.ref sl)) Q E s:=by
 let#[l,b,c,k]:=id f
 have d:s.TypeIs (.ref sl) "slice":=#[l,b,c]
 unfold getItem
 try with_reducible refine QLq ?_
 first|refine Qaq (Qgq ?_)|skip
 refine Qaq (wpAny_sequenceKey ht.typeIs (!1) ?_)
 refine Qaq (QiQ (name:=Str.ofString "__getitem__") ht.typeIs PyProof.Rows.slot_tuple_getitem
  (wpAny_call_entry PyProof.Rows.slot_tuple_getitem ht.typeIs entry_tuple_getitem ?_ (args_tuple_getitem _ _)))
 show wpAny _ _ (Builtin.Tuple.tupleItemsOf (.ref t) >>= _) _ _ s
 refine Qaq (tupleItemsOf_ ht ?_)
 refine Qaq (wpAny_typeOf d ?_)
 rw[Qhq (!1)]
 refine Qaq (fQ f j n ?_)
 have a:(((cV items.size 0 lo:Nat):Int)==0&&(1:Int)==1&&(cV items.size items.size hi-cV items.size 0 lo)==items.size)=true:=by
  rw[i.1,i.2]
  simp
 show wpAny _ _ (if (((cV items.size 0 lo:Nat):Int)==0&&(1:Int)==1&&(cV items.size items.size hi-cV items.size 0 lo)==items.size)=true then _ else _) _ _ s
 rw[Qhq a]
 have o:∀{A:X_} {E:X0} {R:Xf},R true s->wpAny (model prog w) A (Builtin.Tuple.tupleIsExact (.ref t)) R E s:=λ{A E R} h=>by
  unfold Builtin.Tuple.tupleIsExact
  exact Qaq (wpAny_typeOf ht.typeIs (Qgq h))
 refine Qaq (m:=Builtin.Tuple.tupleIsExact _) (o ?_)
 rw[Qhq L]
 refine Qaq (wpAny_rule ?_)
 exact Qgq #[_,L,Qgq h]
end
end HT
namespace L2
open PySem PySem.Spec PyProof.Rows
def Dp(K:X1):V->Option Int->Option Int->Hp->VK->Prop:=λx c d H Q=>∃a b,x=.ref a/\fL K H a b∧
 (HT.cV b.length 0 c=0/\HT.cV b.length b.length d=b.length->Q (.ref a) H)/\(¬(HT.cV b.length 0 c=0/\HT.cV b.length b.length d=b.length)->∀p,H p=none->Q (.ref p) (upd H p (.tup (pj b c d))))
def yh{X:Cx}:C9 X (Dp X.K):=by
 intro d s p H x v q o j l sl Q I m n g k h
 let#[a,b,rfl,hx,q1,q2]:=h
 by_cases e:HT.cV b.length 0 j=0/\HT.cV b.length b.length l=b.length
 ·cases m
  let#[f,r,i,t]:=I.tuple hx
  have c:f.toArray.size=b.length:=by rw[Qjq];exact r.length.symm
  refine#["tuple",_,PyProof.Rows.slot_tuple_getitem.lookup,i.typeIs,?_]
  exact HT.iE i n g k (by rw[c];exact e) #[.ref a,H,I,L,q1 e]
 ·exact z0 d s p H _ v q o j l sl Q I m n g k #[a,b,L,hx,e,q2 e]
end L2
namespace ST
open PySem
end ST
namespace ST
open PySem PySem.SetTable
def rn(m:Nat)(h:Int):Nat->Nat×Nat
 |0=>(bits h%(m+1),bits h)
 |n+1=>leap m (rn m h n).1 (rn m h n).2
def L(m i:Nat):Nat:=runEnd m i-i
def sl(m:Nat)(h:Int)(n r:Nat):Nat:=(rn m h n).1+r
def EC(m:Nat)(h:Int)(n r:Nat)(V:Nat->Prop):Prop:=(∀b a,b<n->a<=L m (rn m h b).1->V (sl m h b a))/\∀a,a<r->V (sl m h n a)
def EH(m:Nat)(h:Int)(V:Nat->Prop)(j:Nat):Prop:=∃n r,r<=L m (rn m h n).1/\j=sl m h n r/\EC m h n r V
structure TI(t:SetTable)(es:Array (Int×Value)):Prop where
 pw:∃k,t.mask+1=2^k/\1<=k
 dm:t.dummies= (List.toArray [])
 rise:t.place.toList.Pairwise (·<·)
 sz:t.place.size=es.size
 room:es.size<=t.mask
 rch:∀(i:Nat) (h:Int) (v:Xd) (j:Nat),es[i]?=some (h,v)->t.place[i]?=some j->EH t.mask h (·∈t.place.toList) j
mutual
def nu:Nat->PyData->Bool
 |_,.int _=>true
 |n+1,.tuple ps=>C2 n ps
 |_,_=>false
def C2:Nat->List PyData->Bool
 |_,[]=>true
 |n,p::ps=>nu n p&&C2 n ps
end
mutual
def Bf:PyData->Int
 |.int i=>hashInt i
 |.tuple a=>reduceHash (Builtin.Tuple.tupleHashOf (CD a))
 |_=>0
def CD:List PyData->List Int
 | []=> []
 |p::ps=>Bf p::CD ps
end
def Cn(a:X8)(c:List (PyData×Addr))(h:Xe):Prop:=∃o b d t,h.get? a=some o/\o.ExactSet/\o.data=.set b d t/\TI t b/\b.size*5<t.mask*3/\b.toList.Perm (c.map λe=>(Bf e.1,.ref e.2))
end ST
namespace L2
open PySem PySem.Spec PyProof.Rows
abbrev DM:=PyData×Addr×V
def EE(e:DM)(x:PyData×Addr×Value):Prop:=e.1=x.1/\e.2.1=x.2.1/\RelV e.2.2 x.2.2
def BA(x:PyData×Addr×Value):DictEntry:=#[ST.Bf x.1,.ref x.2.1,x.2.2]
def Dz(a:X8)(b:List DM)(h:Xe):Prop:=(a==sysModules)=false/\∃o d e c,h.get? a=some o/\o.ExactDict/\o.data=.dict d e/\d.toList=c.map BA/\Paired EE b c/\(b.map (·.1)).Nodup
end L2
namespace DL
open PySem PySem.Spec PyProof.Rows L2
inductive D where
 |non|bl (b:Bool)|int (i:Int)|str (x:Str)|tup (xs:List D)|ref (k:Nat)|fn (x:Str)
inductive O where
 |lst (xs:List D)|frz (xs:List D)|dct (kvs:List (Key×D))|sett (xs:List D)|dctN (ks vs:List D)
abbrev aB:=List O
mutual
def DR:D->Option PyData
 |.int i=>some (.int i)
 |.tup a=>(sC a).map .tuple
 |_=>none
def sC:List D->Option (List PyData)
 | []=>some []
 |d::ds=>(DR d).bind λp=>(sC ds).map (p::·)
end
abbrev bV:=List (Option D)
structure Md where
 K:PySem.W.Frag
 mg:Str->Option Value
mutual
inductive Rel(M:Md)(ρ:X7)(H:Hp):D->V->Prop
 |non:Rel M ρ H .non .non
 |bl (b:Bool):Rel M ρ H (.bl b) (.bl b)
 |int (i:Int):Rel M ρ H (.int i) (.int i)
 |str (x:Str):Rel M ρ H (.str x) (.str x)
 |tup {a:X8} {vs:List V} {ds:List D}:H a=some (.tup vs)->aO M ρ H ds vs->Rel M ρ H (.tup ds) (.ref a)
 |ref {k:Nat} {a:X8}:ρ[k]?=some a->Rel M ρ H (.ref k) (.ref a)
 |fn {x:Str} {a:X8}:M.mg x=some (.ref a)->Rel M ρ H (.fn x) (.ref a)
inductive aO(M:Md)(ρ:X7)(H:Hp):List D->List V->Prop
 |nil:aO M ρ H [] []
 |cons {d:D} {v:V} {ds:List D} {vs:List V}:Rel M ρ H d v->aO M ρ H ds vs->aO M ρ H (d::ds) (v::vs)
end
section
variable{M:Md}{ρ ρ':X7}{H H':Hp}
def D7:HO->Prop
 |.tup _=>True
 |.frz _ _=>True
 |_=>False
structure bz(ρ:X7)(H:Hp)(ρ':X7)(H':Hp):Prop where
 pre:ρ <+: ρ'
 new:∀a∈ρ',a∈ρ\/H a=none
 keep:∀a o,H a=some o->a∉ρ\/D7 o->H' a=some o
 grow:∀a,H' a=none->H a=none
def bz.refl:bz ρ H ρ H:=#[List.prefix_refl _,λ_ h=>.inl h,λ_ _ h _=>h,λ_ h=>h]
def bz.trans{d b:X7}{i g:Hp}(e:bz ρ H d i)(f:bz d i b g):bz ρ H b g where
 pre:=e.pre.trans f.pre
 new:=λa h=>(f.new a h).elim (λh=>e.new a h) λh=>.inr (e.grow a h)
 keep:=λa o h c=>f.keep a o (e.keep a o h c) (c.imp (λn m=>(e.new a m).elim n λz=>by rw[z] at h;cases h) id)
 grow:=λa h=>e.grow a (f.grow a h)
def bz.laid{a:X8}{o:HO}(h:H a=none):bz ρ H ρ (upd H a o) where
 pre:=List.prefix_refl _
 new:=λ_ h=>.inl h
 keep:=λb c e _=>by rw[aQ];exact e;intro z;subst z;rw[h] at e;cases e
 grow:=λb e=>by
  by_cases z:b=a
  ·subst z;exact h
  ·rw[aQ z] at e;exact e
theorem mr{α:Type}:∀{l:List α},l.Nodup->∀{i j:Nat} {a:α},l[i]?=some a->l[j]?=some a->i=j
 | [],_,_,_,_,h,_=>by simp at h
 |x::l,n,0,0,_,_,_=>rfl
 | x::l,n,0,j+1,a,h1,h2=>by
   rw[List.nodup_cons] at n
   simp at h1 h2
   subst h1
   exact absurd (mQg h2) n.1
 | x::l,n,i+1,0,a,h1,h2=>by
   rw[List.nodup_cons] at n
   simp at h1 h2
   subst h2
   exact absurd (mQg h1) n.1
 | x::l,n,i+1,j+1,a,h1,h2=>by
   rw[List.nodup_cons] at n
   simp at h1 h2
   exact congrArg (·+1) (mr n.2 h1 h2)
def bt{α e:Type}{a c:α}{b d:e}(h:some (a,b)=some (c,d)):a=c/\b=d:=by cases h;exact#[L,L]
def cH{α:Type}{l b:List α}(h:l <+: b){k:Nat}{a:α}(e:l[k]?=some a):b[k]?=some a:=by
 let#[t,rfl]:=h
 rw[QHq (gQs.mp e).1]
 exact e
mutual
theorem Rel.ext(e:bz ρ H ρ' H'):∀{d:D} {v:V},Rel M ρ H d v->Rel M ρ' H' d v
 |_,_,.non=>.non
 |_,_,.bl b=>.bl b
 |_,_,.int i=>.int i
 |_,_,.str x=>.str x
 |_,_,.tup h hs=>.tup (e.keep _ _ h (.inr trivial)) (aO.ext e hs)
 |_,_,.ref h=>.ref (cH e.pre h)
 |_,_,.fn h=>.fn h
theorem aO.ext(e:bz ρ H ρ' H'):∀{b:List D} {a:List V},aO M ρ H b a->aO M ρ' H' b a
 |_,_,.nil=>.nil
 |_,_,.cons h hs=>.cons (Rel.ext e h) (aO.ext e hs)
end
mutual
theorem Rel.pre(e:ρ <+: ρ'):∀{d:D} {v:V},Rel M ρ H d v->Rel M ρ' H d v
 |_,_,.non=>.non
 |_,_,.bl b=>.bl b
 |_,_,.int i=>.int i
 |_,_,.str x=>.str x
 |_,_,.tup h hs=>.tup h (aO.pre e hs)
 |_,_,.ref h=>.ref (cH e h)
 |_,_,.fn h=>.fn h
theorem aO.pre(e:ρ <+: ρ'):∀{b:List D} {a:List V},aO M ρ H b a->aO M ρ' H b a
 |_,_,.nil=>.nil
 |_,_,.cons h hs=>.cons (Rel.pre e h) (aO.pre e hs)
end
theorem aO.length:∀{b:List D} {a:List V},aO M ρ H b a->b.length=a.length
 |_,_,.nil=>rfl
 |_,_,.cons _ h=>congrArg (·+1) h.length
theorem aO.append:∀{c a:List D} {b ws:List V},aO M ρ H c b->aO M ρ H a ws->aO M ρ H (c++a) (b++ws)
 |_,_,_,_,.nil,h=>h
 |_,_,_,_,.cons h hs,h'=>.cons h (hs.append h')
theorem aO.get:∀{a:List D} {b:List V} {i:Nat} {d:D},aO M ρ H a b->a[i]?=some d->∃v,b[i]?=some v/\Rel M ρ H d v
 |_,_,0,_,.cons h _,e=>by cases e;exact#[_,L,h]
 |_,_,i+1,_,.cons _ hs,e=>hs.get (i:=i) (by simpa using e)
 |_,_,_,_,.nil,e=>by simp at e
theorem aO.set{d:D}{v:V}(h:Rel M ρ H d v):∀{a:List D} {b:List V} (i:Nat),aO M ρ H a b->aO M ρ H (a.set i d) (b.set i v)
 |_,_,_,.nil=>.nil
 |_,_,0,.cons _ t=>.cons h t
 |_,_,i+1,.cons q t=>.cons q (aO.set h i t)
theorem aO.take:∀{b:List D} {a:List V} (n:Nat),aO M ρ H b a->aO M ρ H (b.take n) (a.take n)
 |_,_,0,_=>.nil
 |_,_,_+1,.nil=>.nil
 |_,_,n+1,.cons h hs=>.cons h (hs.take n)
theorem aO.drop:∀{b:List D} {a:List V} (n:Nat),aO M ρ H b a->aO M ρ H (b.drop n) (a.drop n)
 |_,_,0,h=>h
 |_,_,_+1,.nil=>.nil
 |_,_,n+1,.cons _ hs=>hs.drop n
theorem aO.eraseIdx:∀{b:List D} {a:List V} (n:Nat),aO M ρ H b a->aO M ρ H (b.eraseIdx n) (a.eraseIdx n)
 |_,_,_,.nil=>.nil
 |_,_,0,.cons _ h=>h
 |_,_,n+1,.cons h hs=>.cons h (hs.eraseIdx n)
def aO.dropLast{b:List D}{a:List V}(h:aO M ρ H b a):aO M ρ H b.dropLast a.dropLast:=by
 rw[List.dropLast_eq_take,List.dropLast_eq_take,h.length]
 exact h.take _
theorem aO.rep{b:List D}{a:List V}(h:aO M ρ H b a):∀k:Nat,aO M ρ H (List.replicate k b).flatten (List.replicate k a).flatten
 |0=>.nil
 |k+1=>by rw[QNq,QNq,List.flatten_cons,List.flatten_cons];exact h.append (h.rep k)
def bL(M:Md)(ρ:X7)(H:Hp):List (Key×D)->List (Key×V)->Prop
 | [],kv=>kv= []
 |(k,d)::r,kv=>∃v t,kv=(k,v)::t/\Rel M ρ H d v/\bL M ρ H r t
theorem bL.imp{ρ':X7}{H':Hp}(f:∀d v,Rel M ρ H d v->Rel M ρ' H' d v):∀{l:List (Key×D)} {a:List (Key×V)},bL M ρ H l a->bL M ρ' H' l a
 | [],_,h=>h
 |(_,_)::_,_,#[v,t,e,h,hs]=>#[v,t,e,f _ _ h,bL.imp f hs]
def jM(M:Md)(ρ:X7)(H:Hp)(a:X8):O->Prop
 |.lst d=>∃c,H a=some (.lst c)/\aO M ρ H d c
 |.frz d=>∃c o,H a=some (.frz o (.lst c))/\aO M ρ H d c
 |.dct f=>∃h,H a=some (.dK h)/\bL M ρ H f h
 |.sett d=>∃(i:X7) (g:List PyData),H a=some (.ext (ST.Cn a (List.zip g i)))/\aO M ρ H d (i.map V.ref)/\sC d=some g/\ST.C2 8 g=true
 |.dctN j c=>∃b:List DM,H a=some (.ext (Dz a b))/\aO M ρ H j (b.map λe=>V.ref e.2.1)/\aO M ρ H c (b.map (·.2.2))/\sC j=some (b.map (·.1))/\ST.C2 8 (b.map (·.1))=true
structure ez(M:Md)(ρ:X7)(S:aB)(H:Hp):Prop where
 len:ρ.length=S.length
 nd:ρ.Nodup
 obj:∀(k:Nat) (a:X8) (o:O),ρ[k]?=some a->S[k]?=some o->jM M ρ H a o
def jM.lay{a b:X8}{o:O}{u:HO}(h:jM M ρ H a o)(j:H b=none):jM M ρ (upd H b u) a o:=by
 have e:bz ρ H ρ (upd H b u):=bz.laid j
 have ne:∀{x},H a=some x->upd H b u a=some x:=λ{x} h=>by rw[aQ];exact h;intro z;subst z;rw[j] at h;cases h
 cases o with
 |lst k=>let#[f,c,d]:=h;exact#[f,ne c,d.ext e]
 |frz k=>let#[f,o,c,d]:=h;exact#[f,o,ne c,d.ext e]
 |dct m=>let#[n,c,d]:=h;exact#[n,ne c,d.imp λ_ _ r=>r.ext e]
 |sett k=>let#[l,p,c,d,i]:=h;exact#[l,p,ne c,d.ext e,i]
 |dctN s f=>let#[g,c,d,i,q]:=h;exact#[g,ne c,d.ext e,i.ext e,q]
def ez.lay{S:aB}{b:X8}{u:HO}(h:ez M ρ S H)(c:H b=none):ez M ρ S (upd H b u):=#[h.len,h.nd,λk a o d e=>(h.obj k a o d e).lay c]
theorem jM.pre{a:X8}{o:O}(e:ρ <+: ρ')(h:jM M ρ H a o):jM M ρ' H a o:=by
 cases o with
 |lst i=>let#[d,b,c]:=h;exact#[d,b,c.pre e]
 |frz i=>let#[d,o,b,c]:=h;exact#[d,o,b,c.pre e]
 |dct j=>let#[k,b,c]:=h;exact#[k,b,c.imp λ_ _ r=>r.pre e]
 |sett i=>let#[n,m,b,c,f]:=h;exact#[n,m,b,c.pre e,f]
 |dctN p d=>let#[g,b,c,f,l]:=h;exact#[g,b,c.pre e,f.pre e,l]
def ez.box{S:aB}{a:X8}{o:O}(h:ez M ρ S H)(g:a∉ρ)(j:jM M (ρ++ [a]) H a o):ez M (ρ++ [a]) (S++ [o]) H where
 len:=by rw[lQa,lQa,h.len];rfl
 nd:=by rw[List.nodup_append];exact#[h.nd,by simp,λx i y f=>by rw[Qfq] at f;subst f;exact λz=>g (z▸i)]
 obj:=λk b u d e=>by
  by_cases c:k<ρ.length
  ·rw[QHq c] at d
   rw[QHq (h.len▸c)] at e
   exact(h.obj k b u d e).pre (List.prefix_append _ _)
  ·have c:ρ.length<=k:=Nat.le_of_not_lt c
   rw[QQq c] at d
   rw[QQq (h.len▸c)] at e
   have z:k-ρ.length=0:=by
    have:=(gQs.mp d).1
    simp at this
    omega
   have l:k-S.length=0:=by rw[<-h.len];exact z
   rw[z] at d
   rw[l] at e
   cases d
   cases e
   exact j
def ez.put{S:aB}{k:Nat}{a:X8}{o o':O}{u:HO}(h:ez M ρ S H)(s:ρ[k]?=some a)(I:S[k]?=some o)(K:jM M ρ (upd H a u) a o')(ne:∀x,H a=some x->¬D7 x):ez M ρ (S.set k o') (upd H a u)/\bz ρ H ρ (upd H a u):=by
 have N:a∈ρ:=mQg s
 have e:bz ρ H ρ (upd H a u):=by
  refine#[List.prefix_refl _,λ_ h=>.inl h,λb x C c=>?_,λb m=>?_]
  ·rw[aQ]
   ·exact C
   ·intro z
    subst z
    exact c.elim (λn=>n N) λU=>ne _ C U
  ·by_cases z:b=a
   ·subst z;rw[bj] at m;cases m
   ·rw[aQ z] at m;exact m
 refine#[#[by rw[List.length_set];exact h.len,h.nd,λj b p g l=>?_],e]
 by_cases c:j=k
 ·subst c
  rw[s] at g
  cases g
  rw[Qyq (gQs.mp I).1] at l
  cases l
  exact K
 ·rw[QKq (Ne.symm c)] at l
  have i:b≠a:=by
   intro z
   subst z
   let y:=(gQs.mp g)
   let A:=(gQs.mp s)
   let#[y,Y]:=y
   let#[A,W]:=A
   exact c (mr h.nd g s)
  let q:=h.obj j b p g l
  cases p with
  |lst B=>let#[t,f,d]:=q;exact#[t,by rw[aQ i];exact f,d.ext e]
  |frz B=>let#[t,o,f,d]:=q;exact#[t,o,by rw[aQ i];exact f,d.ext e]
  |dct J=>let#[P,f,d]:=q;exact#[P,by rw[aQ i];exact f,d.imp λ_ _ r=>r.ext e]
  |sett B=>let#[F,R,f,d,w]:=q;exact#[F,R,by rw[aQ i];exact f,d.ext e,w]
  |dctN X t=>let#[v,f,d,w,Q]:=q;exact#[v,by rw[aQ i];exact f,d.ext e,w.ext e,Q]
end
structure En(M:Md)(ρ:X7)(H:Hp)(Γ:bV)(σ:L2.St):Prop where
 len:σ.length=Γ.length
 get:∀(i:Nat) (d:D),Γ[i]?=some (some d)->∃v,σ[i]?=some (some v)/\Rel M ρ H d v
def En.ext{M:Md}{ρ a:X7}{H f:Hp}{b:bV}{c:L2.St}(h:En M ρ H b c)(e:bz ρ H a f):En M a f b c:=#[h.len,λi d q=>by let#[v,g,j]:=h.get i d q;exact#[v,g,j.ext e]]
def En.set{M:Md}{ρ:X7}{H:Hp}{a:bV}{b:L2.St}{i:Nat}{d:D}{v:V}(h:En M ρ H a b)(r:Rel M ρ H d v):En M ρ H (a.set i (some d)) (b.set i (some v)) where
 len:=by rw[List.length_set,List.length_set];exact h.len
 get:=λj e q=>by
  by_cases c:i=j
  ·subst c
   have l:i<a.length:=by
    have:=(gQs.mp q).1
    rwa [List.length_set] at this
   rw[Qyq l] at q
   cases q
   exact#[v,Qyq (h.len▸l),r]
  ·rw[QKq c] at q|-
   exact h.get j e q
structure Ok(M:Md)(ρ:X7)(Γ:bV)(S:aB)(σ:L2.St)(H:Hp):Prop where
 en:En M ρ H Γ σ
 st:ez M ρ S H
def Ok.to{M:Md}{ρ a:X7}{c:bV}{S d:aB}{f:L2.St}{H b:Hp}(h:Ok M ρ c S f H)(e:bz ρ H a b)(s:ez M a d b):Ok M a c d f b:=#[h.en.ext e,s]
abbrev a0:=bV->aB->Option (D×aB)
abbrev dM:=bV->aB->Option (List D×aB)
abbrev ia:=bV->aB->Option (Bool×aB)
def tD(M:Md)(f:a0):TE:=λh H Q=>∃e c S d g,Ok M e c S h H/\f c S=some (d,g)/\∀a v b,bz e H a b->ez M a g b->Rel M a b d v->Q v b
def tL(M:Md)(f:dM):TE:=λj H Q=>∃g d S e h,Ok M g d S j H/\f d S=some (e,h)∧
 ∀b a i c,bz g H b c->ez M b h c->H a=none->a∉b->c a=some (.lst i)->aO M b c e i->Q (.ref a) c
def qv(M:Md)(f:dM):TA:=λi H Q=>∃e c S d g,Ok M e c S i H/\f c S=some (d,g)/\∀a h b,bz e H a b->ez M a g b->aO M a b d h->Q h b
def tB(M:Md)(f:ia):TT:=λh H Q=>∃e d S b g,Ok M e d S h H/\f d S=some (b,g)/\∀a c,bz e H a c->ez M a g c->Q b c
section
variable{X:Cx}
abbrev md(X:Cx):Md:=#[X.K,X.mg]
def f_{e:Expr}{t t':TE}(h:PE X e t)(w:∀b H Q,t' b H Q->t b H Q):PE X e t':=λa s b H Q I q=>h a s b H Q I (w _ _ _ q)
def CZ{e:Expr}{t t':TT}(h:PT X e t)(w:∀b H Q,t' b H Q->t b H Q):PT X e t':=λa s b H Q I q=>h a s b H Q I (w _ _ _ q)
def D2{e:Expr}{t t':TT}(h:PW X e t)(w:∀b H Q,t' b H Q->t b H Q):PW X e t':=λc a s b H Q I q=>h c a s b H Q I (w _ _ _ q)
def Ep{d:List Expr}{t t':TA}(h:PA X d t)(w:∀b H Q,t' b H Q->t b H Q):PA X d t':=λc a s b H Q I q=>h c a s b H Q I (w _ _ _ q)
def xo{e:Stmt}{t t':TS}(h:PS X e t)(w:∀D b H,t' D b H->t D b H):PS X e t':=λa s b H D I q=>h a s b H D I (w _ _ _ q)
def Bt{e:List Stmt}{t t':TS}(h:kQ X e t)(w:∀D b H,t' D b H->t D b H):kQ X e t':=λa s b H D I q=>h a s b H D I (w _ _ _ q)
noncomputable def aw(i:Nat):a0:=λa S=>match a[i]? with
 |some (some d)=>some (d,S)
 |_=>none
def ue{i:Nat}{a:bV}{S:aB}{d:D}{b:aB}(h:aw i a S=some (d,b)):a[i]?=some (some d)/\b=S:=by
 unfold aw at h
 split at h
 ·cases h;exact#[by assumption,L]
 ·cases h
def CV{e:Expr}{i:Nat}(h:PE X e (zE i)):PE X e (tD (md X) (aw i)):=f_ h λl H Q a=>by
 let#[g,j,S,d,k,ok,e,q]:=a
 let#[b,rfl]:=ue e
 let#[v,c,f]:=ok.en.get i d b
 exact#[v,c,q g v H bz.refl ok.st f]
noncomputable def cF(d:D):a0:=λ_ S=>some (d,S)
def lr{e:Expr}{v:V}{d:D}(h:PE X e (tC v))(r:∀ρ H,Rel (md X) ρ H d v):PE X e (tD (md X) (cF d)):=f_ h λg H Q a=>by
 let#[ρ,b,S,c,f,ok,e,q]:=a
 cases e
 exact q ρ v H bz.refl ok.st (r _ _)
def ay{i:Int}{j pos}:PE X (.Constant (.int i) j pos) (tD (md X) (cF (.int i))):=lr AH λ_ _=>.int i
def DV{b:Bool}{j pos}:PE X (.Constant (.bool b) j pos) (tD (md X) (cF (.bl b))):=lr BD λ_ _=>.bl b
def xb{j pos}:PE X (.Constant .none j pos) (tD (md X) (cF .non)):=lr Ab λ_ _=>.non
def aC{x:Str}{j pos}:PE X (.Constant (.str x) j pos) (tD (md X) (cF (.str x))):=lr wO λ_ _=>.str x
def bo(f:dM):a0:=λb S=>(f b S).bind λ(c,a)=>some (.ref a.length,a++ [.lst c])
def a8{e:Expr}{f:dM}(h:PE X e (tL (md X) f)):PE X e (tD (md X) (bo f)):=f_ h λA H Q m=>by
 let#[v,l,S,d,z,ok,e,q]:=m
 unfold bo at e
 cases j:f l S with
 |none=>rw[j] at e;cases e
 | some p=>
   let#[t,u]:=p
   rw[j] at e
   let#[rfl,rfl]:=bt e
   refine#[v,l,S,t,u,ok,j,λg a w y x k o r s n=>?_]
   let i:=n.pre (List.prefix_append g [a])
   refine q (g++ [a]) (.ref a) y #[x.pre.trans (List.prefix_append _ _),λb c=>?_,x.keep,x.grow] (k.box r #[w,s,i]) (.ref ?_)
   · rcases mQa.mp c with c|c
     · exact x.new b c
     · rw[Qfq] at c;subst c;exact .inr o
   · rw[<-k.len,QQq (Qmq _)]
     simp
noncomputable def ax:dM:=λ_ S=>some ([],S)
noncomputable def au(f:a0)(g:dM):dM:=λa S=>(f a S).bind λ(d,c)=>(g a c).bind λ(e,b)=>some (d::e,b)
def ar{α c:Type}{o:Option α}{f:α->Option c}{b:c}(h:o.bind f=some b):∃a,o=some a/\f a=some b:=by
 cases o with
 |none=>cases h
 |some a=>exact#[a,L,h]
def av:PA X [] (qv (md X) ax):=Ep gz λg H Q a=>by
 let#[b,c,S,d,f,ok,e,q]:=a
 cases e
 exact q b [] H bz.refl ok.st .nil
def aq{e:Expr}{a:List Expr}{f:a0}{g:dM}(t:PE X e (tD (md X) f))(o:PA X a (qv (md X) g))(A:autoParam (starEach (e::a) X.env=(false,eval e X.env)::starEach a X.env) ad._auto_1):PA X (e::a) (qv (md X) (au f g)):=
 Ep (d_ t o A) λJ H Q n=>by
  let#[u,k,S,d,I,ok,e,q]:=n
  let#[#[x,l],B,e]:=ar e
  let#[#[C,p],s,e]:=ar e
  let#[rfl,rfl]:=bt e
  refine#[u,k,S,x,l,ok,B,λc v F m b y=>#[c,k,l,C,p,ok.to m b,s,λi z w j h r=>?_]]
  exact q i (v::z) w (m.trans j) h (.cons (y.ext j) r)
def a9(f:dM):a0:=λb S=>(f b S).bind λ(a,c)=>if a.length<=sizeLine then some (.tup a,c) else none
def bg{i:List Expr}{f:dM}{k pos}(h:PA X i (qv (md X) f)):PE X (.Tuple i k pos) (tD (md X) (a9 f)):=f_ (zY h) λw H Q l=>by
 let#[r,m,S,d,v,ok,e,q]:=l
 let#[#[n,o],s,e]:=ar e
 dsimp only at e
 split at e
 ·rename_i c
  let#[rfl,rfl]:=bt e
  refine#[r,m,S,n,o,ok,s,λg x u t a j=>#[j.length▸c,λp b=>?_]]
  exact q g (.ref p) _ (t.trans (bz.laid b)) (a.lay b) (.tup bj (j.ext (bz.laid b)))
 ·cases e
def aV(f:dM):dM:=λb S=>(f b S).bind λ(a,c)=>if a.length<=sizeLine then some (a,c) else none
def cj{M:Md}{ρ a:X7}{S:aB}{H f:Hp}{p:X8}(x:bz ρ H a f)(st:ez M a S f)(b:f p=none):p∉a:=λm=>by
 let#[k,g]:=List.getElem?_of_mem m
 have l:k<S.length:=st.len▸(gQs.mp g).1
 have:=st.obj k p _ g (gQe l)
 cases e:S[k] with
 |lst c=>rw[e] at this;let#[d,h,_]:=this;rw[b] at h;cases h
 |frz c=>rw[e] at this;let#[d,o,h,_]:=this;rw[b] at h;cases h
 |dct c=>rw[e] at this;let#[d,h,_]:=this;rw[b] at h;cases h
 |sett c=>rw[e] at this;let#[_,_,h,_]:=this;rw[b] at h;cases h
 |dctN i d=>rw[e] at this;let#[_,h,_]:=this;rw[b] at h;cases h
def a_{j:List Expr}{f:dM}{pos}(h:PA X j (qv (md X) f)):PE X (.List j pos) (tL (md X) (aV f)):=f_ (zW h) λw H Q l=>by
 let#[r,m,S,d,v,ok,e,q]:=l
 let#[#[n,o],t,e]:=ar e
 dsimp only at e
 split at e
 ·rename_i c
  let#[rfl,rfl]:=bt e
  refine#[r,m,S,n,o,ok,t,λg s u i a k=>#[k.length▸c,λp b=>?_]]
  exact q g p s _ (i.trans (bz.laid b)) (a.lay b) (i.grow p b) (cj i a b) bj (k.ext (bz.laid b))
 ·cases e
end
section
variable{X:Cx}{a b c e:Expr}{pos:Pos}
def wC:iK X (binaryOp .Add) (λx y H Q=>∃a b ys,x=.ref a/\y=.ref b/\fL X.K H a []/\fL X.K H b ys/\Q (.ref b) H):=by
 intro z s U H x y v u Q I P M h
 let#[a,b,ys,rfl,rfl,ha,m,q]:=h
 cases P
 cases M
 let#[C,N,A,_]:=I.tuple ha
 let#[f,S,m,_]:=I.tuple m
 cases N
 let#[#[B,J,w,sl],p,o,n,r]:=id A
 let#[#[t,j,k,l],i,g,R,d]:=id m
 simp only at o r g d
 subst o r g d
 exact concat_meets #[_,p,L] #[_,i,L] noFill_tuple_add seq_tuple_add PySem.F.slot_tuple_add PySem.F.entry_tuple_add (PySem.F.args_tuple_add_2 _ _)
   (tuple_addW0 a b _ f.toArray n R J j sl l (by simp)) #[p,i,.ref b,H,I,L,q]
abbrev pQ:=aB->D->D->Option D
def kY(M:Md)(r:R2)(o:pQ):Prop:=∀{f:X7} {S:aB} {H:Hp} {x y d:D} {u v:V} {Q:VK},ez M f S H->Rel M f H x u->Rel M f H y v->o S x y=some d->(∀w g,bz f H f g->ez M f S g->Rel M f g d w->Q w g)->r u v H Q
noncomputable def bp(o:pQ)(f g:a0):a0:=λi S=>(f i S).bind λ(x,j)=>(g i j).bind λ(y,h)=>(o h x y).bind λd=>some (d,h)
def kM{r:R2}{o:pQ}{f g:a0}(A:kY (md X) r o)(h:PE X e (y1 r (tD (md X) f) (tD (md X) g))):PE X e (tD (md X) (bp o f g)):=f_ h λσ H Q u=>by
 let#[J,p,S,d,Z,ok,e,q]:=u
 let#[#[x,s],R,e]:=ar e
 let#[#[y,B],F,e]:=ar e
 let#[U,P,e]:=ar e
 let#[rfl,rfl]:=bt e
 refine#[J,p,S,x,s,ok,R,λj v W t i N=>#[j,p,s,y,B,ok.to t i,F,λl w Y n k C=>?_]]
 exact A k (N.ext n) C P λK M z m I=>q l K M ((t.trans n).trans z) m I
def cQ:pQ:=λ_ x y=>match x,y with
 |.int i,.int j=>some (.int (i+j))
 |.str i,.str j=>if i.length+j.length<=sizeLine then some (.str (i++j)) else none
 |.tup i,.tup j=>if i.length+j.length<=sizeLine then some (.tup (i++j)) else none
 |_,_=>none
abbrev Ci(K:X1):R2:=λx y H Q=>(∃i j,x=.int i/\y=.int j/\Q (.int (i+j)) H)\/(∃i j,x=.str i/\y=.str j/\i.length+j.length<=sizeLine/\Q (.str (i++j)) H)∨
 (∃a b d,x=.ref a/\y=.ref b/\fL K H a []/\fL K H b d/\Q (.ref b) H)\/yR K x y H Q
def xA:iK X (binaryOp .Add) (Ci X.K):=zO.or (rT.or (wC.or yt))
def z6{M:Md}:kY M (Ci M.K) cQ:=by
 intro w S H x y d u v Q g t m e q
 cases t with
 |int i=>cases m <;>erw[cQ,reduceCtorEq] at e;cases e;exact .inl #[_,_,L,L,q _ _ bz.refl g (.int _)]
 | str i=>
   cases m <;>erw[cQ,reduceCtorEq] at e
   split at e <;>cases e
   exact .inr (.inl #[_,_,L,L,by assumption,q _ _ bz.refl g (.str _)])
 | tup k h=>
   cases m with
   | tup n j=>
     erw[cQ] at e
     split at e <;>cases e
     rename_i s
     let o:=h.length
     let r:=j.length
     cases h with
     |nil=>exact .inr (.inr (.inl #[_,_,_,L,L,fL.of k,fL.of n,q _ _ bz.refl g (.tup n j)]))
     | cons h f=>
       refine .inr (.inr (.inr #[_,_,_,_,L,L,fL.of k,fL.of n,by simp,by rw[<-o,<-r];exact s,λz=>?_,λz p l=>?_]))
       · subst z
         cases j
         rw[List.append_nil] at q
         exact q _ _ bz.refl g (.tup k (.cons h f))
       · exact q _ _ (bz.laid l) (g.lay l) (.tup bj ((aO.append (.cons h f) j).ext (bz.laid l)))
   |_=>erw[cQ,reduceCtorEq] at e
 |_=>erw[cQ,reduceCtorEq] at e
def da{f g:a0}(h:PE X a (tD (md X) f))(d:PE X b (tD (md X) g)):PE X (.BinOp a .Add b pos) (tD (md X) (bp cQ f g)):=kM z6 (kn xA h d)
def intD(C:Int->Int->Prop)[∀i j,Decidable (C i j)](k:Int->Int->D):pQ:=λ_ x y=>match x,y with
 |.int i,.int j=>if C i j then some (k i j) else none
 |_,_=>none
def pJ{M:Md}{C:Int->Int->Prop}[∀i j,Decidable (C i j)]{k:Int->Int->D}{g:Int->Int->V}(l:∀i j ρ H,Rel M ρ H (k i j) (g i j)):kY M (rI C g) (intD C k):=by
 intro ρ S H x y d u v Q h m f e q
 cases m <;>cases f <;>erw[intD,reduceCtorEq] at e
 split at e <;>cases e
 exact#[_,_,L,L,by assumption,q _ _ bz.refl h (l _ _ _ _)]
def oO{M:Md}{k:Int->Int->D}{g:Int->Int->V}(l:∀i j ρ H,Rel M ρ H (k i j) (g i j)):kY M (ya g) (intD (λ_ _=>True) k):=by
 intro ρ S H x y d u v Q h m f e q
 cases m <;>cases f <;>erw[intD,reduceCtorEq] at e
 rw[Qhq trivial] at e
 cases e
 exact#[_,_,L,L,q _ _ bz.refl h (l _ _ _ _)]
instance{i j:Int}:Decidable (vI i j):=by unfold vI;infer_instance
instance{i j:Int}:Decidable (vD i j):=by unfold vD;infer_instance
open Classical in
noncomputable instance{i j:Int}:Decidable (IntMulOk i j):=Classical.propDecidable _
abbrev xK:pQ:=intD (λ_ _=>True) λi j=>.int (i-j)
noncomputable abbrev lQ:pQ:=intD IntMulOk λi j=>.int (i*j)
abbrev la:pQ:=intD (λ_ j=>0<j) λi j=>.int (i%j)
abbrev lR:pQ:=intD vI λi j=>.int (i/j)
abbrev vi:pQ:=intD vD λi j=>.int (i^j.toNat)
def vv{f g:a0}(d:PE X a (tD (md X) f))(h:PE X b (tD (md X) g)):PE X (.BinOp a .Sub b pos) (tD (md X) (bp xK f g)):=kM (oO λi j _ _=>.int _) (kn zT d h)
def kh{f g:a0}(d:PE X a (tD (md X) f))(h:PE X b (tD (md X) g)):PE X (.BinOp a .Mult b pos) (tD (md X) (bp lQ f g)):=kM (pJ λi j _ _=>.int _) (kn yF d h)
def jB{f g:a0}(d:PE X a (tD (md X) f))(h:PE X b (tD (md X) g)):PE X (.BinOp a .Mod b pos) (tD (md X) (bp la f g)):=kM (pJ λi j _ _=>.int _) (kn AE d h)
def ox{f g:a0}(d:PE X a (tD (md X) f))(h:PE X b (tD (md X) g)):PE X (.BinOp a .FloorDiv b pos) (tD (md X) (bp lR f g)):=kM (pJ λi j _ _=>.int _) (kn yB d h)
def zj{f g:a0}(d:PE X a (tD (md X) f))(h:PE X b (tD (md X) g)):PE X (.BinOp a .Pow b pos) (tD (md X) (bp vi f g)):=kM (pJ λi j _ _=>.int _) (kn zR d h)
def yy(f:a0):a0:=λg S=>(f g S).bind λ(d,h)=>match d with
 |.int i=>some (.int (-i),h)
 |_=>none
def CQ{f:a0}(i:PE X a (tD (md X) f)):PE X (.UnaryOp .USub a pos) (tD (md X) (yy f)):=f_ (B9 zC i) λt H Q h=>by
 let#[l,j,S,d,s,ok,e,q]:=h
 let#[#[x,k],o,e]:=ar e
 dsimp only at e
 split at e
 ·let#[rfl,rfl]:=bt e
  refine#[l,j,S,_,k,ok,o,λm v r p g n=>?_]
  cases n
  exact#[_,L,q _ _ _ p g (.int _)]
 ·cases e
def uw:D->Option V
 |.non=>some .non
 |.bl b=>some (.bl b)
 |.int i=>some (.int i)
 |.str x=>some (.str x)
 |_=>none
def oy{M:Md}{ρ:X7}{H:Hp}{d:D}{u v:V}(r:Rel M ρ H d u)(e:uw d=some v):u=v:=by
 cases r <;>simp[uw] at e <;>exact e
def lh(d:Bool):pQ:=λ_ x y=>match uw x,uw y with
 |some u,some v=>if vR u v=true then some (.bl (if d then !decide (u=v) else decide (u=v))) else none
 |_,_=>none
def vh{f:Bool}{S:aB}{x y d:D}(e:lh f S x y=some d):∃u v,uw x=some u/\uw y=some v/\vR u v=true/\d=.bl (if f then !decide (u=v) else decide (u=v)):=by
 unfold lh at e
 split at e
 ·split at e <;>cases e
  exact#[_,_,by assumption,by assumption,by assumption,L]
 ·cases e
def eh{M:Md}:kY M D3 (lh false):=by
 intro n S H x y d u v Q h k g e q
 let#[l,m,f,j,i,rfl]:=vh e
 cases oy k f
 cases oy g j
 exact#[i,q _ _ bz.refl h (.bl _)]
abbrev C0:pQ:=intD (λ_ _=>True) λi j=>.bl (decide (i<j))
abbrev Ef:pQ:=intD (λ_ _=>True) λi j=>.bl (decide (j<=i))
def vZ{M:Md}:kY M (ya λi j=>.bl (decide (i<j))) C0:=oO λi j _ _=>.bl _
def Co{M:Md}:kY M (ya λi j=>.bl (decide (j<=i))) Ef:=oO λi j _ _=>.bl _
def isNone:D->Bool
 |.non=>true
 |_=>false
def wZ(d:Bool):pQ:=λ_ x y=>match y with
 |.non=>some (.bl (if d then !isNone x else isNone x))
 |_=>none
def uF{M:Md}{ρ:X7}{H:Hp}{d:D}{u:V}(r:Rel M ρ H d u):decide (u=V.non)=isNone d:=by
 cases r <;>simp[isNone]
def vW{M:Md}:kY M (λx y H Q=>y=.non/\Q (.bl (decide (x=.non))) H) (wZ false):=by
 intro i S H x y d u v Q g h f e q
 cases f <;>erw[wZ,reduceCtorEq] at e
 cases e
 rw[uF h]
 exact#[L,q _ _ bz.refl g (.bl _)]
def tO{d:CmpOp}{r:R2}{o:pQ}{f g:a0}(k:iK X (compareOp d) r)(j:kY (md X) r o)(h:PE X a (tD (md X) f))(i:PE X b (tD (md X) g))(l:behindInMarks d b=false):PE X (.Compare a [d] [b] pos) (tD (md X) (bp o f g)):=kM j (sA k h i l)
noncomputable def br(f:a0):ia:=λg S=>(f g S).bind λ(d,h)=>match d with
 |.bl k=>some (k,h)
 |_=>none
def lF{f:a0}{g:bV}{S h:aB}{k:Bool}(e:br f g S=some (k,h)):f g S=some (.bl k,h):=by
 let#[#[d,j],i,e]:=ar e
 dsimp only at e
 split at e
 ·cases e;exact i
 ·cases e
def Cg{r:R2}{o:pQ}{f g:a0}(A:kY (md X) r o)(h:PT X e (wq (y1 r (tD (md X) f) (tD (md X) g)))):PT X e (tB (md X) (br (bp o f g))):=CZ h λσ H Q u=>by
 let#[J,p,S,d,Z,ok,e,q]:=u
 let e:=lF e
 let#[#[x,s],P,e]:=ar e
 let#[#[y,B],F,e]:=ar e
 let#[R,N,e]:=ar e
 let#[rfl,rfl]:=bt e
 refine#[J,p,S,x,s,ok,P,λj v W t i M=>#[j,p,s,y,B,ok.to t i,F,λl w Y n k C=>?_]]
 exact A k (M.ext n) C N λU K z m I=>by cases I;exact#[_,L,q l K ((t.trans n).trans z) m]
def dG{d:CmpOp}{r:R2}{o:pQ}{f g:a0}(k:iK X (compareOp d) r)(j:kY (md X) r o)(h:PE X a (tD (md X) f))(i:PE X b (tD (md X) g))(l:behindInMarks d b=false):PT X (.Compare a [d] [b] pos) (tB (md X) (br (bp o f g))):=Cg j (lx k h i l)
def wc(S:aB):D->Option Bool
 |.non=>some false
 |.bl b=>some b
 |.int i=>some (i !=0)
 |.str y=>if y.length<=sizeLine then some ((y.length:Int) !=0) else none
 |.tup d=>some (!d.isEmpty)
 | .ref k=>match S[k]? with
   |some (.lst d)=>some (!d.isEmpty)
   |some (.dct d)=>some (!d.isEmpty)
   |_=>none
 |.fn _=>none
def aO.isEmpty{M:Md}{ρ:X7}{H:Hp}{d:List D}{f:List V}(h:aO M ρ H d f):d.isEmpty=f.isEmpty:=by cases h <;>rfl
theorem bL.isEmpty{M:Md}{ρ:X7}{H:Hp}{d:List (Key×D)}{f:List (Key×V)}(h:bL M ρ H d f):d.isEmpty=f.isEmpty:=by
 cases d with
 |nil=>cases h;rfl
 |cons p r=>let#[v,t,e,_]:=h;subst e;rfl
def xQ{M:Md}{ρ:X7}{S:aB}{H:Hp}{d:D}{u:V}{k:Bool}(st:ez M ρ S H)(r:Rel M ρ H d u)(e:wc S d=some k):AN M.K u H k:=by
 cases r with
 |non=>cases e;rfl
 |bl=>cases e;rfl
 |int=>cases e;rfl
 |str=>erw[wc] at e;split at e <;>cases e;exact#[by assumption,L]
 |tup h j=>cases e;exact .inr (.inl #[_,fL.of h,by rw[j.isEmpty]])
 |fn=>cases e
 | ref h=>
   erw[wc] at e
   split at e
   · cases e
     let#[i,f,g]:=st.obj _ _ _ h (by assumption)
     exact .inl #[i,fJ.of f,by rw[g.isEmpty]]
   · cases e
     let#[i,f,g]:=st.obj _ _ _ h (by assumption)
     exact .inr (.inr #[i,f,by rw[g.isEmpty]])
   · cases e
def oW(f:a0):ia:=λh S=>(f h S).bind λ(d,g)=>(wc g d).bind λk=>some (k,g)
def nW{f:a0}(j:PE X a (tD (md X) f))(he:autoParam (∀d,isTrue a X.env d=(do let v<-d;standAt a.pos;holding [v] (truthy v))) ae._auto_1):PT X a (tB (md X) (oW f)):=CZ (wX j he) λy H Q h=>by
 let#[o,l,S,k,w,ok,e,q]:=h
 let#[#[x,n],s,e]:=ar e
 let#[m,i,e]:=ar e
 let#[rfl,rfl]:=bt e
 exact#[o,l,S,x,n,ok,s,λp v u t g r=>#[m,xQ g r i,q _ _ t g]]
def sv(f:ia):ia:=λd S=>(f d S).bind λ(k,g)=>some (!k,g)
def sL{f:ia}(h:PT X a (tB (md X) f)):PT X (.UnaryOp .Not a pos) (tB (md X) (sv f)):=CZ (Ap h) λt H Q g=>by
 let#[l,i,S,k,s,ok,e,q]:=g
 let#[#[p,j],n,e]:=ar e
 let#[rfl,rfl]:=bt e
 exact#[l,i,S,p,j,ok,n,λm r o d=>q _ _ o d]
def rG(f g:ia):ia:=λd S=>(f d S).bind λ(k,h)=>if k=true then g d h else some (false,h)
def AW(f g:ia):ia:=λd S=>(f d S).bind λ(k,h)=>if k=true then some (true,h) else g d h
def sk{f:ia}(d:PT X a (tB (md X) f)):PW X (.BoolOp .And [a] pos) (tB (md X) f):=yu d
def yW{f:ia}(d:PT X a (tB (md X) f)):PW X (.BoolOp .Or [a] pos) (tB (md X) f):=Ai d
def w_and{d:List Expr}{f g:ia}(r:PT X a (tB (md X) f))(s:PW X (.BoolOp .And (b::d) pos) (tB (md X) g)):PW X (.BoolOp .And (a::b::d) pos) (tB (md X) (rG f g)):=D2 (Az r s) λA H Q o=>by
 let#[t,m,S,k,u,ok,e,q]:=o
 let#[#[x,n],v,e]:=ar e
 refine#[t,m,S,x,n,ok,v,λi y j h=>?_]
 dsimp only at e
 split at e
 ·rename_i c
  rw[Qhq c]
  exact#[i,m,n,k,u,ok.to j h,e,λw z p l=>q _ _ (j.trans p) l]
 ·rename_i c
  rw[Quq c]
  let#[rfl,rfl]:=bt e
  exact q _ _ j h
def w_or{d:List Expr}{f g:ia}(r:PT X a (tB (md X) f))(s:PW X (.BoolOp .Or (b::d) pos) (tB (md X) g)):PW X (.BoolOp .Or (a::b::d) pos) (tB (md X) (AW f g)):=D2 (BP r s) λA H Q o=>by
 let#[t,m,S,k,u,ok,e,q]:=o
 let#[#[x,n],v,e]:=ar e
 refine#[t,m,S,x,n,ok,v,λi y j h=>?_]
 dsimp only at e
 split at e
 ·rename_i c
  rw[Qhq c]
  let#[rfl,rfl]:=bt e
  exact q _ _ j h
 ·rename_i c
  rw[Quq c]
  exact#[i,m,n,k,u,ok.to j h,e,λw z p l=>q _ _ (j.trans p) l]
def rC(f g:a0):a0:=λh S=>(f h S).bind λ(d,i)=>match d with
 |.bl true=>g h i
 |.bl false=>some (.bl false,i)
 |_=>none
def yO{op}{f:a0}(h:PE X a (tD (md X) f)):PE X (.BoolOp op [a] pos) (tD (md X) f):=z5 h
def u7{h:List Expr}{f g:a0}(t:PE X a (tD (md X) f))(u:PE X (.BoolOp .And (b::h) pos) (tD (md X) g)):PE X (.BoolOp .And (a::b::h) pos) (tD (md X) (rC f g)):=f_ (Ay t u) λI H Q p=>by
 let#[y,m,S,d,z,ok,e,q]:=p
 let#[#[x,n],A,e]:=ar e
 refine#[y,m,S,x,n,ok,A,λj v C k i o=>?_]
 dsimp only at e
 split at e
 ·cases o
  refine#[_,L,?_]
  rw[Qhq L]
  exact#[j,m,n,d,z,ok.to k i,e,λB w F s l r=>q _ _ _ (k.trans s) l r]
 ·cases o
  refine#[_,L,?_]
  rw[Quq Qtq]
  let#[rfl,rfl]:=bt e
  exact q _ _ _ k i (.bl _)
 ·cases e
def su(c:ia)(f g:a0):a0:=λd S=>(c d S).bind λ(k,h)=>if k=true then f d h else g d h
def wW{h:ia}{f g:a0}(u:PT X c (tB (md X) h))(v:PE X a (tD (md X) f))(x:PE X b (tD (md X) g)):PE X (.IfExp c a b pos) (tD (md X) (su h f g)):=f_ (v7 u v x) λF H Q t=>by
 let#[y,o,S,d,s,ok,e,q]:=t
 let#[#[B,p],A,e]:=ar e
 refine#[y,o,S,B,p,ok,A,λk C l j=>?_]
 dsimp only at e
 split at e
 ·rename_i c
  rw[Qhq c]
  exact#[k,o,p,d,s,ok.to l j,e,λr w z n i m=>q _ _ _ (l.trans n) i m]
 ·rename_i c
  rw[Quq c]
  exact#[k,o,p,d,s,ok.to l j,e,λr w z n i m=>q _ _ _ (l.trans n) i m]
def eJ:pQ:=λS x y=>match x,y with
 |.tup xs,.int i=>j4 xs i
 |.str z,.int i=>if z.length<=sizeLine then(j4 z.cps.toList i).map λc=>.str #[(List.toArray [c])] else none
 | .ref k,.int i=>match S[k]? with
   |some (.lst xs)=>j4 xs i
   |some (.frz xs)=>j4 xs i
   |_=>none
 |_,_=>none
def xr{α d:Type}{xs:List α}{ys:List d}{i:Int}{x:α}(h:j4 xs i=some x)(l:xs.length=ys.length):∃j:Nat,xs[j]?=some x/\∀y,ys[j]?=some y->j4 ys i=some y:=by
 unfold j4 at h
 let#[j,e,h]:=ar h
 exact#[j,h,λy f=>by unfold j4;rw[<-l,e];exact f]
def aO.atI{M:Md}{ρ:X7}{H:Hp}{f:List D}{g:List V}{i:Int}{d:D}(h:aO M ρ H f g)(e:L2.j4 f i=some d):∃v,L2.j4 g i=some v/\Rel M ρ H d v:=by
 let#[j,k,n]:=xr e h.length
 let#[v,l,m]:=h.get k
 exact#[v,n v l,m]
def BR{M:Md}:kY M (Em M.K) eJ:=by
 intro r S H x y d u v Q i n l e q
 cases l <;>cases n <;>erw[eJ,reduceCtorEq] at e
 ·split at e
  ·let#[c,f,g]:=oQm.mp e
   subst g
   exact .inr (.inr #[_,_,c,L,L,by assumption,f,q _ _ bz.refl i (.str _)])
  ·cases e
 ·rename_i h p
  let#[v,f,g]:=p.atI e
  exact .inr (.inl #[_,_,_,v,L,L,fL.of h,f,q _ _ bz.refl i g])
 ·rename_i h
  split at e
  ·let#[m,k,j]:=i.obj _ _ _ h (by assumption)
   let#[v,f,g]:=j.atI e
   exact .inl #[_,_,_,v,L,L,fJ.of k,f,q _ _ bz.refl i g]
  ·let#[m,o,k,j]:=i.obj _ _ _ h (by assumption)
   let#[v,f,g]:=j.atI e
   exact .inl #[_,_,_,v,L,L,.inl (.inr #[o,k]),f,q _ _ bz.refl i g]
  ·cases e
def cD{f g:a0}(h:PE X a (tD (md X) f))(i:PE X b (tD (md X) g))(d:autoParam (tY b) ag._auto_1):PE X (.Subscript a b pos) (tD (md X) (bp eJ f g)):=kM BR (Cp Ax h i d)
end
inductive Tag where
 |tu|fr|st (k:Nat)|fz (k:Nat)
def uq(M:Md)(ρ:X7)(H:Hp)(a:X8)(b:List V):Tag->Prop
 |.tu=>fL M.K H a b
 |.fr=>H a=some (.lst b)/\a∉ρ
 |.st k=>ρ[k]?=some a/\H a=some (.lst b)
 |.fz k=>ρ[k]?=some a/\∃o,H a=some (.frz o (.lst b))
abbrev dP:=bV->aB->Option ((List D×Tag)×aB)
def tQ(M:Md)(f:dP):TE:=λj H Q=>∃g d S e t h,Ok M g d S j H/\f d S=some ((e,t),h)∧
 ∀b a i c,bz g H b c->ez M b h c->uq M b c a i t->aO M b c e i->Q (.ref a) c
def uq.sq{M:Md}{ρ:X7}{H:Hp}{a:X8}{b:List V}{t:Tag}(h:uq M ρ H a b t):fJ M.K H a b\/fL M.K H a b:=by
 cases t with
 |tu=>exact .inr h
 |fr=>exact .inl (fJ.of h.1)
 |st k=>exact .inl (fJ.of h.2)
 |fz k=>let#[_,o,h]:=h;exact .inl (.inl (.inr #[o,h]))
def Tag.isL:Tag->Bool
 |.tu=>false
 |_=>true
def Tag.isM:Tag->Bool
 |.fr=>true
 |.st _=>true
 |_=>false
def uq.sqL{M:Md}{ρ:X7}{H:Hp}{a:X8}{b:List V}{t:Tag}(h:uq M ρ H a b t)(c:t.isL=true):fJ M.K H a b:=by
 cases t with
 |tu=>cases c
 |fr=>exact fJ.of h.1
 |st k=>exact fJ.of h.2
 |fz k=>let#[_,o,h]:=h;exact .inl (.inr #[o,h])
def uq.sqM{M:Md}{ρ:X7}{H:Hp}{a:X8}{b:List V}{t:Tag}(h:uq M ρ H a b t)(c:t.isM=true):H a=some (.lst b):=by
 cases t with
 |tu=>cases c
 |fr=>exact h.1
 |st k=>exact h.2
 |fz k=>cases c
def uq.sqT{M:Md}{ρ:X7}{H:Hp}{a:X8}{b:List V}{t:Tag}(h:uq M ρ H a b t)(c:t.isL=false):fL M.K H a b:=by
 cases t with
 |tu=>exact h
 |fr=>cases c
 |st k=>cases c
 |fz k=>cases c
def Tag.stays(S:aB)(a:List D):Tag->Prop
 |.st k=>S[k]?=some (.lst a)
 |.fz k=>S[k]?=some (.frz a)
 |_=>True
def fL.ext{K:X1}{ρ b:X7}{H c:Hp}{a:X8}{d:List V}(e:bz ρ H b c)(h:fL K H a d):fL K c a d:=by
 rcases h with(h|⟨o,h⟩)|h
 ·exact .inl (.inl (e.keep _ _ h (.inr trivial)))
 ·exact .inl (.inr #[o,e.keep _ _ h (.inr trivial)])
 ·exact .inr h
def uq.to{M:Md}{ρ d:X7}{S:aB}{H j:Hp}{a:X8}{i:List V}{n:List D}{t:Tag}(h:uq M ρ H a i t)(r:aO M ρ H n i)(e:bz ρ H d j)(st:ez M d S j)(c:t.stays S n):∃b,uq M d j a b t/\aO M d j n b:=by
 cases t with
 |tu=>exact#[i,fL.ext e h,r.ext e]
 |fr=>exact#[i,#[e.keep _ _ h.1 (.inl h.2),λm=>(e.new a m).elim h.2 λz=>by have f:=h.1;rw[z] at f;cases f],r.ext e]
 | st k=>
   let g:=cH e.pre h.1
   let#[b,f,l]:=st.obj k a _ g c
   exact#[b,#[g,f],l]
 | fz k=>
   let g:=cH e.pre h.1
   let#[b,o,f,l]:=st.obj k a _ g c
   exact#[b,#[g,o,f],l]
section
variable{X:Cx}{a b c e:Expr}{pos:Pos}
def b_(f:dM):dP:=λd S=>(f d S).bind λ(h,g)=>some ((h,.fr),g)
def cT{f:dM}(h:PE X e (tL (md X) f)):PE X e (tQ (md X) (b_ f)):=f_ h λy H Q g=>by
 let#[r,n,S,v,t,w,ok,e,q]:=g
 let#[#[d,p],s,e]:=ar e
 let#[j,rfl]:=bt e
 let#[rfl,rfl]:=Prod.mk.inj j
 exact#[r,n,S,d,p,ok,s,λm a z A x k u l o i=>q _ _ _ _ x k #[o,l] i]
def ly(S:aB):D->Option (List D×Tag)
 |.tup d=>some (d,.tu)
 | .ref k=>match S[k]? with
   |some (.lst d)=>some (d,.st k)
   |some (.frz d)=>some (d,.fz k)
   |_=>none
 |_=>none
def aS(f:a0):dP:=λh S=>(f h S).bind λ(d,g)=>(ly g d).bind λp=>some (p,g)
def x8{M:Md}{ρ:X7}{S:aB}{H:Hp}{d:D}{v:V}{j:List D}{t:Tag}(st:ez M ρ S H)(r:Rel M ρ H d v)(e:ly S d=some (j,t)):∃a f,v=.ref a/\uq M ρ H a f t/\aO M ρ H j f:=by
 cases r with
 |tup h k=>erw[ly] at e;cases e;exact#[_,_,L,fL.of h,k]
 | ref h=>
   erw[ly] at e
   split at e
   · rename_i q
     cases e
     let#[f,g,i]:=st.obj _ _ _ h q
     exact#[_,f,L,#[h,g],i]
   · rename_i q
     cases e
     let#[f,o,g,i]:=st.obj _ _ _ h q
     exact#[_,f,L,#[h,o,g],i]
   · cases e
 |_=>erw[ly,reduceCtorEq] at e
def cR{f:a0}(h:PE X e (tD (md X) f)):PE X e (tQ (md X) (aS f)):=f_ h λy H Q i=>by
 let#[n,l,S,u,t,w,ok,e,q]:=i
 let#[#[d,m],s,e]:=ar e
 let#[#[o,z],j,e]:=ar e
 let#[p,rfl]:=bt e
 let#[rfl,rfl]:=Prod.mk.inj p
 refine#[n,l,S,d,m,ok,s,λk v B x g r=>?_]
 let#[a,A,rfl,h1,h2]:=x8 g r j
 exact q _ _ _ _ x g h1 h2
def nH{f:dP}{p:Pos}(m:Gl X "len")(s:X.mg "len"=none)(u:PE X a (tQ (md X) f))(k:autoParam (starEach [a] X.env= [(false,eval a X.env)]) ad._auto_1):
  PE X (.Call (.Name "len" p) [a] [] pos) (tD (md X) λg S=>(f g S).bind λ(p,i)=>some (.int p.1.length,i)):=
 f_ (e_ pW m s PySem.boot_len (d_ u gz k) (he:=k)) λA H Q l=>by
  let#[w,g,S,d,z,ok,e,q]:=l
  let#[#[#[v,t],i],y,e]:=ar e
  let#[rfl,rfl]:=bt e
  refine#[w,g,S,v,t,i,ok,y,λo a j B x n h r=>#[a,j,L,h.sq,?_]]
  have:=q _ (.int j.length) _ x n (by rw[<-r.length];exact .int _)
  exact this
def ow(f:dP):a0:=λd S=>(f d S).bind λ(p,g)=>some (.int p.1.length,g)
def tupQ(f:dP):a0:=λd S=>(f d S).bind λ(p,g)=>some (.tup p.1,g)
def ir{f:dP}{p:Pos}(s:Gl X "tuple")(w:X.mg "tuple"=none)(y:PE X a (tQ (md X) f))(m:autoParam (starEach [a] X.env= [(false,eval a X.env)]) ad._auto_1)(ht:∀i S j t k,f i S=some ((j,t),k)->t.isL=true):
  PE X (.Call (.Name "tuple" p) [a] [] pos) (tD (md X) (tupQ f)):=
 f_ (bG mK s w (by rfl) (d_ y gz m) (he:=m)) λC H Q o=>by
  let#[A,i,S,d,k,ok,e,q]:=o
  let#[#[#[j,t],z],n,e]:=ar e
  let#[rfl,rfl]:=bt e
  refine#[A,i,S,j,t,z,ok,n,λv a B F x u h r=>#[a,B,L,.inl #[h.sqL (ht _ _ _ _ _ n),λl g=>?_]]]
  exact q _ _ _ (x.trans (bz.laid g)) (u.lay g) (.tup bj (r.ext (bz.laid g)))
def sO{f:dM}:∀d S g t h,b_ f d S=some ((g,t),h)->t.isL=true:=λd S g t h e=>by
 let#[#[i,k],j,e]:=ar e
 cases e
 rfl
def dZ(f:dP):dP:=λd S=>(f d S).bind λ(p,g)=>if p.2.isL=true then some (p,g) else none
def fk{f:dP}:∀d S g t h,dZ f d S=some ((g,t),h)->t.isL=true:=λd S g t h e=>by
 let#[#[#[i,l],k],j,e]:=ar e
 dsimp only at e
 split at e <;>cases e
 assumption
def tX{f:dP}(h:PE X e (tQ (md X) f)):PE X e (tQ (md X) (dZ f)):=f_ h λr H Q g=>by
 let#[m,j,S,o,t,p,ok,e,q]:=g
 let#[#[#[d,n],l],k,e]:=ar e
 dsimp only at e
 split at e
 ·let#[i,rfl]:=bt e
  let#[rfl,rfl]:=Prod.mk.inj i
  exact#[m,j,S,d,n,l,ok,k,q]
 ·cases e
def wG{f:dP}{p:Pos}(o:Gl X "list")(u:X.mg "list"=none)(v:PE X a (tQ (md X) f))(m:autoParam (starEach [a] X.env= [(false,eval a X.env)]) ad._auto_1):
  PE X (.Call (.Name "list" p) [a] [] pos) (tL (md X) λi S=>(f i S).bind λ(p,j)=>some (p.1,j)):=
 f_ (bG ph o u (by rfl) (d_ v gz m) (he:=m)) λC H Q n=>by
  let#[y,i,S,d,B,ok,e,q]:=n
  let#[#[#[w,t],j],A,e]:=ar e
  let#[rfl,rfl]:=bt e
  refine#[y,i,S,w,t,j,ok,A,λs a z F x k h r=>#[a,z,L,h.sq,λl g=>?_]]
  exact q _ _ _ _ (x.trans (bz.laid g)) (k.lay g) (x.grow _ g) (cj x k g) bj (r.ext (bz.laid g))
def tq(f:dP):dM:=λd S=>(f d S).bind λ(p,g)=>some (p.1,g)
def AO(S:aB)(T:String):D->Option Bool
 |.non=>some (T=="NoneType")
 |.bl _=>some (T=="bool" ||T=="int")
 |.int _=>some (T=="int")
 |.str _=>some (T=="str")
 |.tup _=>some (T=="tuple")
 | .ref k=>match S[k]? with
   |some (.lst _)=>some (T=="list")
   |some (.frz _)=>some (T=="list")
   |some (.dct _)=>some (T=="dict")
   |_=>none
 |.fn _=>none
def Bm(K:X1)(T:String):Prop:=(PySem.W.kitOne K (.type "NoneType") (.type T)=some (T=="NoneType"))/\(PySem.W.kitOne K (.type "bool") (.type T)=some (T=="bool" ||T=="int"))/\(PySem.W.kitOne K (.type "int") (.type T)=some (T=="int"))/\(PySem.W.kitOne K (.type "str") (.type T)=some (T=="str"))∧
 (PySem.W.kitOne K (.type "tuple") (.type T)=some (T=="tuple"))/\(PySem.W.kitOne K (.type "list") (.type T)=some (T=="list"))/\(PySem.W.kitOne K (.type "dict") (.type T)=some (T=="dict"))
def rh(T:String)(f:a0):a0:=λh S=>(f h S).bind λ(d,g)=>(AO g T d).bind λk=>some (.bl k,g)
def s_{T:String}{l:Expr}{f:a0}{p:Pos}(N:Bm X.K T)(B:Gl X "isinstance")(I:X.mg "isinstance"=none)(J:PE X a (tD (md X) f))(ht:PE X l (tC (.ty T)))(t:autoParam (starEach [a,l] X.env= [(false,eval a X.env),(false,eval l X.env)]) ad._auto_1)(j:autoParam (starEach [l] X.env= [(false,eval l X.env)]) ad._auto_1):
  PE X (.Call (.Name "isinstance" p) [a,l] [] pos) (tD (md X) (rh T f)):=
 f_ (e_ xa B I boot_isinstance (d_ J (d_ ht gz j) (by rw[t,j])) (he:=by rw[t,j]) (hpl:=by rw[j];rfl)) λσ H Q y=>by
  let#[R,M,S,d,S',ok,e,q]:=y
  let#[#[A,P],Y,e]:=ar e
  let#[k,i,e]:=ar e
  let#[rfl,rfl]:=bt e
  let#[Z,z,W,k4,U,u,C]:=N
  refine#[R,M,S,A,P,ok,Y,λF v H' x s r=>?_]
  let g:=q _ _ _ x s (.bl _)
  cases r with
  |non=>cases i;exact#[_,_,_,_,L,.non,Z,g]
  |bl=>cases i;exact#[_,_,_,_,L,.bl _,z,g]
  |int=>cases i;exact#[_,_,_,_,L,.int _,W,g]
  |str=>cases i;exact#[_,_,_,_,L,.str _,k4,g]
  |tup h t=>cases i;exact#[_,_,_,_,L,.tup h,U,g]
  |fn=>cases i
  | ref h=>
    erw[AO] at i
    split at i
    · rename_i n;cases i;let#[w,m,_]:=s.obj _ _ _ h n;exact#[_,_,_,_,L,.lst m,u,g]
    · rename_i n;cases i;let#[w,o,m,_]:=s.obj _ _ _ h n;exact#[_,_,_,_,L,.frz m,u,g]
    · rename_i n;cases i;let#[w,m,_]:=s.obj _ _ _ h n;exact#[_,_,_,_,L,.dK m,C,g]
    · cases i
abbrev zd:=List D->Option D
def wD(M:Md)(r:List V->Hp->VK->Prop)(o:zd):Prop:=∀{f:X7} {S:aB} {H:Hp} {h:List D} {d:D} {g:List V} {Q:VK},ez M f S H->aO M f H h g->o h=some d->(∀w,Rel M f H d w->Q w H)->r g H Q
def nF(o:zd)(f:dM):a0:=λg S=>(f g S).bind λ(i,h)=>(o i).bind λd=>some (d,h)
def iZ{r:List V->Hp->VK->Prop}{o:zd}{f:dM}(k:wD (md X) r o)(h:PE X e (DP r (qv (md X) f))):PE X e (tD (md X) (nF o f)):=f_ h λB H Q j=>by
 let#[p,l,S,d,A,ok,e,q]:=j
 let#[#[y,m],v,e]:=ar e
 let#[z,u,e]:=ar e
 let#[rfl,rfl]:=bt e
 exact#[p,l,S,y,m,ok,v,λi C s x g t=>k g t u λw n=>q i w s x g n]
def maxD:zd
 | [.int i,.int j]=>some (.int (if j>i then j else i))
 |_=>none
def minD:zd
 | [.int i,.int j]=>some (.int (if j<i then j else i))
 |_=>none
def intOfD:zd
 | [.int i]=>some (.int i)
 | [.bl k]=>some (.int (if k then 1 else 0))
 |_=>none
def zS{M:Md}:wD M (λxs H Q=>∃i j,xs= [.int i,.int j]/\Q (.int (if j>i then j else i)) H) maxD:=by
 intro l S H xs d h Q k r e q
 unfold maxD at e
 split at e <;>cases e
 cases r with|cons r f=>cases f with|cons g f=>cases f;cases r;cases g;exact#[_,_,L,q _ (.int _)]
def va{M:Md}:wD M (λxs H Q=>∃i j,xs= [.int i,.int j]/\Q (.int (if j<i then j else i)) H) minD:=by
 intro l S H xs d h Q k r e q
 unfold minD at e
 split at e <;>cases e
 cases r with|cons r f=>cases f with|cons g f=>cases f;cases r;cases g;exact#[_,_,L,q _ (.int _)]
def eT{M:Md}:wD M (λxs H Q=>(∃i,xs= [.int i]/\Q (.int i) H)\/∃k,xs= [.bl k]/\Q (.int (if k then 1 else 0)) H) intOfD:=by
 intro j S H xs d g Q h r e q
 unfold intOfD at e
 split at e <;>cases e
 ·cases r with|cons r f=>cases f;cases r;exact .inl #[_,L,q _ (.int _)]
 ·cases r with|cons r f=>cases f;cases r;exact .inr #[_,L,q _ (.int _)]
def nS:List D->Option (List V)
 | []=>some []
 |d::r=>(uw d).bind λv=>(nS r).bind λf=>some (v::f)
def qj{d:D}{v:V}(e:uw d=some v):ft v=true:=by
 cases d <;>simp[uw] at e <;>subst e <;>rfl
theorem qi{M:Md}{ρ:X7}{H:Hp}:∀{i:List D} {f d:List V},aO M ρ H i f->nS i=some d->f=d/\d.all ft=true
 |_,_,_,.nil,e=>by cases e;exact#[L,L]
 | _,_,_,.cons h hs,e=>by
   let#[v,g,e]:=ar e
   let#[d,j,e]:=ar e
   cases e
   let#[k,l]:=qi hs j
   rw[oy h g,k]
   exact#[L,by rw[List.all_cons,qj g,l];rfl]
def uS(d:Bool)(f:a0)(g:dP):a0:=λh S=>(f h S).bind λ(x,k)=>(g h k).bind λ(p,j)=>(uw x).bind λv=>(nS p.1).bind λi=>some (.bl (if d then !za v i else za v i),j)
def rS{f:a0}{t:TE}(n:∀d H Q,tD (md X) f d H Q->t d H Q)(h:PT X e (wq t)):PT X e (tB (md X) (br f)):=CZ h λd H Q ⟨l,g,S,k,m,ok,e,q⟩=>
 n _ _ _ #[l,g,S,.bl k,m,ok,lF e,λj v o x i r=>by cases r;exact#[k,L,q _ _ x i]]
def yN{h:Bool}{f:a0}{g:dP}:∀j H Q,tD (md X) (uS h f g) j H Q->y1 (Dh X.K h) (tD (md X) f) (tQ (md X) g) j H Q:=λj H Q r=>by
 let#[I,m,S,d,Y,ok,e,q]:=r
 let#[#[x,n],M,e]:=ar e
 let#[#[#[F,t],w],z,e]:=ar e
 let#[v,o,e]:=ar e
 let#[Z,R,e]:=ar e
 let#[rfl,rfl]:=bt e
 refine#[I,m,S,x,n,ok,M,λk u U p i J=>#[k,m,n,F,t,w,ok.to p i,z,λP a s W C l B y=>?_]]
 cases oy J o
 let#[A,N]:=qi y R
 subst A
 exact#[a,s,L,B.sq,qj o,N,q _ _ _ (p.trans C) l (.bl _)]
def x9{f:a0}{g:dP}(d:PE X a (tD (md X) f))(h:PE X b (tQ (md X) g))(i:autoParam (behindInMarks .In b=false) ad._auto_1):PT X (.Compare a [.In] [b] pos) (tB (md X) (br (uS false f g))):=rS yN (lx uE d h i)
def tV{f:a0}{g:dP}(d:PE X a (tD (md X) f))(h:PE X b (tQ (md X) g))(i:autoParam (behindInMarks .NotIn b=false) ad._auto_1):PT X (.Compare a [.NotIn] [b] pos) (tB (md X) (br (uS true f g))):=rS yN (lx pK d h i)
end
inductive Out where
 |nx (Γ:bV) (S:aB)|bk (Γ:bV) (S:aB)|ct (Γ:bV) (S:aB)|rt (d:D) (S:aB)|rl (ds:List D) (S:aB)
abbrev dy:=bV->aB->Option Out
def pR(M:Md)(ρ:X7)(H:Hp)(D:Ends):Out->Prop
 |.nx f g=>∀b e c,bz ρ H b c->Ok M b f g e c->D.nx e c
 |.bk f g=>∀b e c,bz ρ H b c->Ok M b f g e c->D.bk e c
 |.ct f g=>∀b e c,bz ρ H b c->Ok M b f g e c->D.ct e c
 |.rt d g=>∀b v c,bz ρ H b c->ez M b g c->Rel M b c d v->D.rt v c
 |.rl i g=>∀b a h c,bz ρ H b c->ez M b g c->H a=none->a∉b->c a=some (.lst h)->aO M b c i h->D.rt (.ref a) c
def pR.to{M:Md}{ρ d:X7}{H i:Hp}{D:Ends}{o:Out}(h:pR M ρ H D o)(e:bz ρ H d i):pR M d i D o:=by
 cases o with
 |nx=>exact λb c f x ok=>h _ _ _ (e.trans x) ok
 |bk=>exact λb c f x ok=>h _ _ _ (e.trans x) ok
 |ct=>exact λb c f x ok=>h _ _ _ (e.trans x) ok
 |rt=>exact λb v f x g r=>h _ _ _ (e.trans x) g r
 |rl=>exact λb a m f x g j k l r=>h _ _ _ _ (e.trans x) g (e.grow _ j) k l r
def tS(M:Md)(g:dy):TS:=λD c H=>∃b a S o,Ok M b a S c H/\g a S=some o/\pR M b H D o
section
variable{X:Cx}{a b c e:Expr}{pos:Pos}{st:Stmt}{rest body other:List Stmt}
def pY:dy:=λd S=>some (.nx d S)
def ef:kQ X [] (tS (md X) pY):=Bt xP λD g H ⟨f,d,S,o,ok,e,q⟩=>by cases e;exact q _ _ _ bz.refl ok
noncomputable def aJ(f g:dy):dy:=λh S=>(f h S).bind λo=>match o with
 |.nx d i=>g d i
 |o=>some o
def az{f g:dy}(l:PS X st (tS (md X) f))(m:kQ X rest (tS (md X) g)):kQ X (st::rest) (tS (md X) (aJ f g)):=Bt (vF l m) λD w H k=>by
 let#[r,n,S,o,ok,e,q]:=k
 let#[j,s,e]:=ar e
 refine#[r,n,S,j,ok,s,?_]
 cases j with
 |nx d p=>exact λh u v t i=>#[h,d,p,o,i,e,q.to t]
 |bk=>cases e;exact q
 |ct=>cases e;exact q
 |rt=>cases e;exact q
 |rl=>cases e;exact q
def aL{f:dy}(d:PS X st (tS (md X) f)):kQ X [st] (tS (md X) f):=yp d
def jl(f:a0):dy:=λd S=>(f d S).bind λ(_,g)=>some (.nx d g)
def bW{f:a0}(h:PE X e (tD (md X) f))(m:autoParam (swapsWith e none pos.line X.env=pure false) ad._auto_1):PS X (.Expr e pos) (tS (md X) (jl f)):=xo (yb h m) λD p H g=>by
 let#[l,j,S,o,ok,e,q]:=g
 let#[#[d,k],n,e]:=ar e
 cases e
 exact#[l,j,S,d,k,ok,n,λi v s x st r=>q _ _ _ x (ok.to x st)]
noncomputable def eQ(f:a0):dy:=λg S=>(f g S).bind λ(d,h)=>some (.rt d h)
def bq{f:a0}(h:PE X e (tD (md X) f)):PS X (.Return (some e) pos) (tS (md X) (eQ f)):=xo (vB h) λD m H g=>by
 let#[l,i,S,o,ok,e,q]:=g
 let#[#[d,k],j,e]:=ar e
 cases e
 exact#[l,i,S,d,k,ok,j,q]
noncomputable def AX(f:dM):dy:=λd S=>(f d S).bind λ(h,g)=>some (.rl h g)
def oj{f:dM}(h:PE X e (tL (md X) f)):PS X (.Return (some e) pos) (tS (md X) (AX f)):=xo (vB h) λD m H g=>by
 let#[l,i,S,o,ok,e,q]:=g
 let#[#[d,k],j,e]:=ar e
 cases e
 exact#[l,i,S,d,k,ok,j,q]
def kE(c:ia)(f g:dy):dy:=λd S=>(c d S).bind λ(k,h)=>if k=true then f d h else g d h
def ff{h:ia}{f g:dy}(p:PT X c (tB (md X) h))(r:kQ X body (tS (md X) f))(s:kQ X other (tS (md X) g)):PS X (.If c body other pos) (tS (md X) (kE h f g)):=xo (Bk p r s) λD w H n=>by
 let#[t,l,S,o,ok,e,q]:=n
 let#[#[k,m],u,e]:=ar e
 refine#[t,l,S,k,m,ok,u,λi v j d=>?_]
 dsimp only at e
 split at e
 ·rename_i c
  rw[Qhq c]
  exact#[i,l,m,o,ok.to j d,e,q.to j]
 ·rename_i c
  rw[Quq c]
  exact#[i,l,m,o,ok.to j d,e,q.to j]
abbrev lB:=D->bV->aB->Option (bV×aB)
abbrev kX:=List D->bV->aB->Option (bV×aB)
def tG(M:Md)(g:lB):TG:=λv n H Q=>∃k l S d h m,Ok M k l S n H/\Rel M k H d v/\g d l S=some (h,m)/\∀i f j,bz k H i j->Ok M i h m f j->Q f j
def C_(M:Md)(g:kX):xB:=λo n H Q=>∃i k S l f m,Ok M i k S n H/\aO M i H l o/\g l k S=some (f,m)/\∀h d j,bz i H h j->Ok M h f m d j->Q d j
def DA{t t':TG}(h:PG X e t)(w:∀v f H Q,t' v f H Q->t v f H Q):PG X e t':=λd s f H v u Q I r q=>h d s f H v u Q I r (w _ _ _ _ q)
def BG{g:List Expr}{t t':xB}(h:xj X g t)(w:∀v f H Q,t' v f H Q->t v f H Q):xj X g t':=λd s f H v u Q I r q=>h d s f H v u Q I r (w _ _ _ _ q)
def cf(i:Nat):lB:=λd f S=>some (f.set i (some d),S)
def vQ{i:Nat}(h:PG X e (oa i)):PG X e (tG (md X) (cf i)):=DA h λv m H Q f=>by
 let#[k,j,S,d,g,l,ok,r,e,q]:=f
 cases e
 exact q _ _ _ bz.refl #[ok.en.set r,ok.st]
def fF:kX:=λf d S=>match f with
 | []=>some (d,S)
 |_=>none
def aY(f:lB)(g:kX):kX:=λj i S=>match j with
 |d::r=>(f d i S).bind λ(h,k)=>g r h k
 | []=>none
def cX:xj X [] (C_ (md X) fF):=BG yf λl k H Q d=>by
 let#[i,g,S,h,f,j,ok,r,e,q]:=d
 cases r with
 |nil=>cases e;exact#[L,q _ _ _ bz.refl ok]
 |cons=>cases e
def aH{h:List Expr}{f:lB}{g:kX}(p:PG X e (tG (md X) f))(u:xj X h (C_ (md X) g))(z:autoParam ((assignEach (e::h) X.env).map (·.2)=assign e X.env::(assignEach h X.env).map (·.2)) ad._auto_1):xj X (e::h) (C_ (md X) (aY f g)):=
 BG (u6 p u z) λM K H Q o=>by
  let#[x,w,S,F,j,y,ok,r,e,q]:=o
  cases r with
  |nil=>cases e
  | cons r s=>
    let#[#[d,m],A,e]:=ar e
    refine#[_,_,L,x,w,S,_,d,m,ok,r,A,λk B I n l=>#[k,d,m,_,j,y,l,s.ext n,e,λC t J v i=>q _ _ _ (n.trans v) i]]
def mJ(g:kX):lB:=λd f S=>match d with
 |.tup h=>g h f S
 |_=>none
def nG(n:Nat)(g:kX):kX:=λd f S=>if d.length=n then g d f S else none
def eu{f:List Expr}{k:Nat}{g:kX}{n:Nat}(m:X.calm=true)(h:xj X f (C_ (md X) g))(o:autoParam ((assignEach f X.env).length=n) ad._auto_1)(i:autoParam ((assignEach f X.env).findIdx? (·.1)=none) ad._auto_1):
  PG X (.Tuple f k pos) (tG (md X) (mJ (nG n g))):=DA (zr m h o i) λv u H Q ⟨s,p,S,d,j,t,ok,r,e,q⟩=>by
 cases r with
 | tup h l=>
   erw[mJ,nG] at e
   split at e
   · rename_i c
     exact#[_,_,L,fL.of h,by rw[<-l.length];exact c,s,p,S,_,j,t,ok,l,e,q]
   · cases e
 |_=>cases e
def xl(f:a0)(g:lB):dy:=λi S=>(f i S).bind λ(d,k)=>(g d i k).bind λ(h,j)=>some (.nx h j)
def B2{f:a0}{g:lB}:∀D l H,tS (md X) (xl f g) D l H->vf (tD (md X) f) (tG (md X) g) D l H:=λD l H r=>by
 let#[x,m,S,o,ok,e,q]:=r
 let#[#[d,n],z,e]:=ar e
 let#[#[j,s],t,e]:=ar e
 cases e
 exact#[x,m,S,d,n,ok,z,λk v B p i y=>#[k,m,n,d,j,s,ok.to p i,y,t,λA u C w h=>q _ _ _ (p.trans w) h]]
def oe{d:Expr}{f:a0}{g:lB}(he:PE X e (tD (md X) f))(h:PG X d (tG (md X) g))(i:autoParam (swapsWithSole [d] e pos.line X.env=pure false) ad._auto_1)(j:autoParam (swappedStores [d] e X.env=pure none) ad._auto_1)
  (k:autoParam ((assignEach [d] X.env).map (·.2)= [assign d X.env]) ad._auto_1):PS X (.Assign [d] e pos) (tS (md X) (xl f g)):=xo (Ae he h i j k) B2
noncomputable def bf(i:Nat)(f:a0):dy:=λg S=>(f g S).bind λ(d,h)=>some (.nx (g.set i (some d)) h)
def BQ{i:Nat}{f:a0}(h:PS X st (vf (tD (md X) f) (oa i))):PS X st (tS (md X) (bf i f)):=xo h λD u H k=>by
 let#[n,l,S,o,ok,e,q]:=k
 let#[#[d,m],s,e]:=ar e
 cases e
 exact#[n,l,S,d,m,ok,s,λp v t j g r=>q _ _ _ j #[(ok.en.ext j).set r,g]]
abbrev q8:=bV->aB->Option ((List D×(aB->Prop))×aB)
def Walks(M:Md)(J:It)(ρ:X7)(H:Hp)(k:List D)(W:aB->Prop):Prop:=∀(i:Nat) (f:X7) (j:aB) (h:Hp),bz ρ H f h->ez M f j h->W j->
 (∀d,k[i]?=some d->J.go i h/\∀x g,J.yld i h x g->bz f h f g/\ez M f j g/\Rel M f g d x)/\(i=k.length->J.stop i h)
def tI(M:Md)(f:q8):TI:=λl H R=>∃j h S i W k,Ok M j h S l H/\f h S=some ((i,W),k)/\∀d J g,bz j H d g->ez M d k g->Walks M J d g i W->R J g
def D_{g:Expr}{t t':TI}(h:PI X g e t)(w:∀f H R,t' f H R->t f H R):PI X g e t':=λd s f H R I q=>h d s f H R I (w _ _ _ q)
def AU{w l:Expr}{t:TE}(z:PE X l t):PI X w l (λr H R=>t r H λx g=>∃a,x=.ref a/\((∃xs,fJ X.K g a xs)/\R (Ee X.K a) g\/(∃xs,fL X.K g a xs)/\R (Ea X.K a) g)):=by
 intro j s r H R I h
 refine cu (z j s r H _ I h) λv d A=>?_
 let#[x,g,f,B,k]:=A
 let#[a,e,k]:=k
 subst e
 cases B
 rcases k with⟨⟨xs,n⟩,q⟩|⟨⟨xs,n⟩,q⟩
 ·let#[i,u,p,y]:=f.list n
  refine wpAny_pyIter_list p.isList ?_
  refine#[d.heap.objs.size,[d.heap.objs.size],_,_,g,L,f.kept (t':=d.toks) λb o e=>Qcq _ e,uD a _,#[_,Qrq _ L,L,L],λb m=>?_,q]
  have e:b=d.heap.objs.size:=by simpa using m
  subst e
  exact f.fpOk (Qmq _) (f.hok.fresh (Qmq _))
 ·let#[i,u,p,y]:=f.tuple n
  refine wpAny_pyIter_tuple (show d.heap.IsTuple a i.toArray from p) ?_
  refine#[d.heap.objs.size,[d.heap.objs.size],_,_,g,L,f.kept (t':=d.toks) λb o e=>Qcq _ e,rJ a _,#[_,Qrq _ L,L,L],λb m=>?_,q]
  have e:b=d.heap.objs.size:=by simpa using m
  subst e
  exact f.fpOk (Qmq _) (f.hok.fresh (Qmq _))
def fg(f:dP):q8:=λd S=>(f d S).bind λ(p,g)=>some ((p.1,λh=>p.2.stays h p.1),g)
def bw{M l:Expr}{f:dP}(N:PE X l (tQ (md X) f)):PI X M l (tI (md X) (fg f)):=D_ (AU N) λσ H R F=>by
 let#[U,P,S,ds,W,S',ok,e,q]:=F
 let#[#[#[y,t],Q],e1,e]:=ar e
 let#[J,rfl]:=bt e
 let#[rfl,rfl]:=Prod.mk.inj J
 refine#[U,P,S,y,t,Q,ok,e1,λK a C H' x st h r=>#[a,L,?_]]
 cases c:t.isL with
 | true=>
   refine .inl #[#[C,h.sqL c],q _ _ _ x st λi A I Z u j w=>?_]
   let#[g,B,n]:=h.to r u j w
   let m:=B.sqL c
   refine#[λd s=>?_,λz=>#[g,m,by rw[z,n.length];exact Qmq _]]
   let#[v,o,p]:=n.get s
   refine#[#[g,v,m,o],λx Y k=>?_]
   let#[rfl,k]:=k
   have:=k g m
   rw[o] at this
   cases this
   exact#[bz.refl,j,p]
 | false=>
   refine .inr #[#[C,h.sqT c],q _ _ _ x st λi A I Z u j w=>?_]
   let#[g,B,n]:=h.to r u j w
   let m:=B.sqT c
   refine#[λd s=>?_,λz=>#[g,m,by rw[z,n.length];exact Qmq _]]
   let#[v,o,p]:=n.get s
   refine#[#[g,v,m,o],λx Y k=>?_]
   let#[rfl,k]:=k
   have:=k g m
   rw[o] at this
   cases this
   exact#[bz.refl,j,p]
def kZ(lo hi:Int):List D:=(List.range (hi-lo).toNat).map λ(i:Nat)=>D.int (lo+(i:Int))
def qo(f:a0):q8:=λg S=>(f g S).bind λ(d,h)=>match d with
 |.int j=>if -(2^62)<=j/\j<2^62 then some ((kZ 0 j,λ_=>True),h) else none
 |_=>none
def uA{M:Md}{ρ:X7}{H:Hp}{lo hi:Int}:Walks M (C7 lo (hi-lo).toNat) ρ H (kZ lo hi) (λ_=>True):=λi n o r p g w=>by
 unfold kZ
 refine#[λd j=>?_,λhi=>by rw[lQm,QVq] at hi;exact Nat.le_of_eq hi.symm]
 rw[gQm] at j
 let#[k,m,rfl]:=oQm.mp j
 let f:=(gQs.mp m)
 let#[f,h]:=f
 rw[List.getElem_range] at h
 subst h
 rw[QVq] at f
 refine#[f,λx q l=>?_]
 let#[rfl,rfl]:=l
 exact#[bz.refl,g,.int _]
def mf{n a:Expr}{f:a0}{p:Pos}(l:Gl X "range")(o:X.mg "range"=none)(s:PE X a (tD (md X) f))(i:autoParam (starEach [a] X.env= [(false,eval a X.env)]) ad._auto_1):PI X n (.Call (.Name "range" p) [a] [] pos) (tI (md X) (qo f)):=
 D_ (uN l o (aq s av i) i) λB H R k=>by
  let#[ρ,t,S,z,W,A,ok,e,q]:=k
  let#[#[d,v],w,e]:=ar e
  dsimp only at e
  split at e
  ·rename_i j
   split at e
   ·rename_i h
    let#[m,rfl]:=bt e
    let#[rfl,rfl]:=Prod.mk.inj m
    refine#[ρ,t,S,[.int j],v,ok,by unfold au ax;rw[w];rfl,λg C y x st r=>?_]
    cases r with
    | cons r u=>
      cases u
      cases r
      refine#[j,L,h.1,h.2,q _ _ _ x st ?_]
      have:=uA (M:=md X) (ρ:=g) (H:=y) (lo:=0) (hi:=j)
      rw[Int.sub_zero] at this
      exact this
   ·cases e
  ·cases e
open Classical in
def forL(g:lB)(b:dy)(W:aB->Prop):List D->bV->aB->Option Out
 | [],Γ,S=>if W S then some (.nx Γ S) else none
 |d ::ds,Γ,S=>if W S then(g d Γ S).bind λ(i,j)=>(b i j).bind λo=>match o with
    |.nx f h=>forL g b W ds f h
    |.ct f h=>forL g b W ds f h
    |.bk f h=>some (.nx f h)
    |.rt x h=>some (.rt x h)
    |.rl x h=>some (.rl x h)
  else none
def fW(i:q8)(g:lB)(b:dy):dy:=λd S=>(i d S).bind λ(p,f)=>forL g b p.2 p.1 d f
def eP{tg k:Expr}{i:q8}{g:lB}{f:dy}(hp:PassesOwn (model X.prog X.w) X.A X.env X.xe)(hc:X.calm=true)(hi:PI X tg k (tI (md X) i))(hg:PG X tg (tG (md X) g))(hb:kQ X body (tS (md X) f))
  (hs:autoParam (∀x,foldedSetIterable k X.env x=pure x) ae._auto_1):PS X (.For tg k body [] pos) (tS (md X) (fW i g f)):=xo (AJ hp hc hi hg hb hs) λD σ H ⟨ρ,Γ,S,o,ok,e,q⟩=>by
 let#[#[#[h,W],S1],e1,e]:=ar e
 refine#[ρ,Γ,S,h,W,S1,ok,e1,λv J H1 x1 Z wk=>?_]
 let N:=q.to x1
 let U:=ok.to x1 Z
 refine#[λi m t y=>m=h.length-i/\i<=h.length/\∃d n z,bz v H1 d y/\Ok (md X) d n z t y/\forL g f W (h.drop i) n z=some o,#[h.length,by simp,Nat.zero_le _,v,Γ,S1,bz.refl,U,e],?_]
 rintro i m a3 H2 ⟨rfl,hi,d,n,z,x2,ok2,e2⟩
 by_cases u:i<h.length
 ·have hd:h[i]?=some h[i]:=gQe u
  rw[QWq u] at e2
  unfold forL at e2
  split at e2
  ·rename_i w
   let#[w1,w2]:=wk i d z H2 x2 ok2.st w
   let#[go,Y]:=w1 _ hd
   refine .inr #[go,λt y=>∃s r P,bz v H1 s y/\Ok (md X) s r P t y/\forL g f W (h.drop (i+1)) r P=some o,λt y ⟨s,r,P,h1,h2,h3⟩=>#[h.length-(i+1),by omega,L,u,s,r,P,h1,h2,h3],λx H3 hy=>?_]
   let#[x3,R,r3]:=Y x H3 hy
   let#[#[K,S4],e4,e5]:=ar e2
   refine#[d,n,z,_,K,S4,ok2.to x3 R,r3,e4,λQ a2 H4 x4 a1=>?_]
   let#[o5,e6,M]:=ar e5
   let C:=(x2.trans x3).trans x4
   refine#[Q,K,S4,o5,a1,e6,?_]
   cases o5 with
   |nx l B=>exact λp F H6 I j=>#[p,l,B,C.trans I,j,M]
   |ct l B=>exact λp F H6 I j=>#[p,l,B,C.trans I,j,M]
   |bk l B=>cases M;exact λp F H6 I j=>N _ _ _ (C.trans I) j
   |rt d6 B=>cases M;exact N.to C
   |rl d6 B=>cases M;exact N.to C
  ·cases e2
 ·have e3:i=h.length:=by omega
  subst e3
  rw[List.drop_length] at e2
  unfold forL at e2
  split at e2
  ·rename_i w
   cases e2
   let#[w1,w2]:=wk h.length d z H2 x2 ok2.st w
   exact .inl #[w2 L,N _ _ _ x2 ok2]
  ·cases e2
end
section
variable{M:Md}{ρ:X7}{H:Hp}{b:X8}{us ws:List V}
mutual
theorem Rel.off(a:H b=some (.lst us)):∀{d:D} {v:V},Rel M ρ H d v->Rel M ρ (upd H b (.lst ws)) d v
 |_,_,.non=>.non
 |_,_,.bl x=>.bl x
 |_,_,.int i=>.int i
 |_,_,.str x=>.str x
 |_,_,.tup h hs=>.tup (by rw[aQ (yU h a (by intro z;cases z))];exact h) (aO.off a hs)
 |_,_,.ref h=>.ref h
 |_,_,.fn h=>.fn h
theorem aO.off(a:H b=some (.lst us)):∀{d:List D} {c:List V},aO M ρ H d c->aO M ρ (upd H b (.lst ws)) d c
 |_,_,.nil=>.nil
 |_,_,.cons h hs=>.cons (Rel.off a h) (aO.off a hs)
end
theorem ez.off{S:aB}(st:ez M ρ S H)(e:H b=some (.lst us))(n:b∉ρ):ez M ρ S (upd H b (.lst ws)):=⟨st.len,st.nd,λk a o j s=>by
 let q:=st.obj k a o j s
 have f:a≠b:=λz=>n (z▸mQg j)
 cases o with
 |lst l=>let#[g,d,c]:=q;exact#[g,by rw[aQ f];exact d,c.off e]
 |frz l=>let#[g,o,d,c]:=q;exact#[g,o,by rw[aQ f];exact d,c.off e]
 |dct p=>let#[t,d,c]:=q;exact#[t,by rw[aQ f];exact d,c.imp λ_ _ r=>r.off e]
 |sett l=>let#[m,v,d,c,i]:=q;exact#[m,v,by rw[aQ f];exact d,c.off e,i]
 |dctN w g=>let#[h,d,c,i,u]:=q;exact#[h,by rw[aQ f];exact d,c.off e,i.off e,u]⟩
def En.off{a:bV}{c:L2.St}(h:En M ρ H a c)(e:H b=some (.lst us)):En M ρ (upd H b (.lst ws)) a c:=#[h.len,λi d q=>by let#[v,f,g]:=h.get i d q;exact#[v,f,g.off e]]
def bz.off{d:X7}{f:Hp}(e:bz d f ρ H)(g:f b=none)(u:HO):bz d f ρ (upd H b u):=⟨e.pre,e.new,λa o h c=>by rw[aQ (dX h g)];exact e.keep a o h c,λa h=>by
 by_cases z:a=b
 ·subst z;exact g
 ·rw[aQ z] at h;exact e.grow a h⟩
end
def sj(js:List (Option Nat))(a:bV):bV:=js.map λo=>o.bind λj=>a.getD j none
def En.sig{M:Md}{ρ:X7}{H:Hp}{b:bV}{c:L2.St}(js:List (Option Nat))(h:En M ρ H b c):En M ρ H (sj js b) (j5 js c) where
 len:=by unfold sj j5;rw[lQm,lQm]
 get:=λi d q=>by
  unfold sj at q
  unfold j5
  rw[gQm] at q|-
  cases e:js[i]? with
  |none=>rw[e] at q;cases q
  | some o=>
    rw[e] at q
    cases o with
    |none=>cases q
    | some j=>
      have a:b.getD j none=some d:=QdQ q
      have g:b[j]?=some (some d):=by
        rw[Qlq] at a
        cases z:b[j]? with
        |none=>rw[z] at a;cases a
        |some y=>rw[z] at a;exact congrArg some a
      let#[v,f,k]:=h.get j d g
      refine#[v,?_,k]
      show some (c.getD j none)=some (some v)
      rw[Qlq,f]
      rfl
open Classical in
def iT(g:lB)(t:ia)(f:a0)(W:aB->Prop):List D->bV->aB->List D->Option (List D×aB)
 | [],Γ,S,acc=>if W S then some (acc,S) else none
 |d ::ds,Γ,S,acc=>if W S then(g d Γ S).bind λ(a,c)=>(t a c).bind λ(k,b)=>
    if k=true then(f a b).bind λ(y,e)=>if acc.length<sizeLine then iT g t f W ds a e (acc++ [y]) else none
    else iT g t f W ds a b acc
  else none
def bu(js:List (Option Nat))(i:q8)(g:lB)(t:ia)(f:a0):dM:=λa S=>(i a S).bind λ(p,b)=>iT g t f p.2 p.1 (sj js a) b []
section
variable{M:Md}
def vj{js:List (Option Nat)}{i:q8}{g:lB}{t:ia}{f:a0}:∀σ H Q,tL M (bu js i g t f) σ H Q->u5 js (tI M i) (tG M g) (tB M t) (tD M f) σ H Q:=λσ H Q qq=>by
 let#[ρ,Γ,S,rs,S',ok,e,q]:=qq
 let#[#[#[j,W],S1],e1,e]:=ar e
 refine#[ρ,Γ,S,j,W,S1,ok,e1,λl J H1 x1 R wk D P=>?_]
 have n1:D∉l:=cj x1 R P
 have a4:Ok M l (sj js Γ) S1 (j5 js σ) (upd H1 D (.lst [])):=#[((ok.en.ext x1).ext (bz.laid P)).sig js,R.lay P]
 refine⟨λi m B d=>m=j.length-i/\i<=j.length/\∃a o N b h,bz l H1 a d/\Ok M a o N B d/\D∉a/\d D=some (.lst h)/\aO M a d b h/\iT g t f W (j.drop i) o N b=some (rs,S'),
  #[j.length,by simp,Nat.zero_le _,l,_,S1,[],[],bz.laid P,a4,n1,bj,.nil,e],?_⟩
 rintro i m b3 Z ⟨rfl,hi,a,o,N,b,h,x2,ok2,n2,hD2,racc,e2⟩
 by_cases F:i<j.length
 ·have hd:j[i]?=some j[i]:=gQe F
  rw[QWq F] at e2
  unfold iT at e2
  split at e2
  ·rename_i w
   let#[w1,w2]:=wk i a N Z x2 ok2.st w
   let#[go,a5]:=w1 _ hd
   refine .inr ⟨go,λB d=>∃c p A b h,bz l H1 c d/\Ok M c p A B d/\D∉c/\d D=some (.lst h)/\aO M c d b h/\iT g t f W (j.drop (i+1)) p A b=some (rs,S'),
    λB d ⟨c,p,A,b,h,h1,h2,h3,h4,h5,h6⟩=>#[j.length-(i+1),by omega,L,F,c,p,A,b,h,h1,h2,h3,h4,h5,h6],λx H3 hy=>?_⟩
   let#[x3,a3,r3]:=a5 x H3 hy
   let#[#[n,S4],e4,e5]:=ar e2
   refine#[a,o,N,_,n,S4,ok2.to x3 a3,r3,e4,λa1 b2 H4 x4 u=>?_]
   let#[#[k,S5],e6,e7]:=ar e5
   refine#[a1,n,S4,k,S5,u,e6,λX H5 Y U=>?_]
   let r:=(x3.trans x4).trans Y
   have C:∀{c d},bz a Z c d->d D=some (.lst h)/\D∉c:=λ{c d} x=>#[x.keep _ _ hD2 (.inl n2),λm=>(x.new _ m).elim n2 λz=>by rw[z] at hD2;cases hD2]
   dsimp only at e7|-
   split at e7
   ·rename_i ck
    rw[Qhq ck]
    let#[#[y,S6],e8,e9]:=ar e7
    refine#[X,n,S5,y,S6,u.to Y U,e8,λb0 v H6 x6 a2 r6=>?_]
    let I:=r.trans x6
    let#[s,n6]:=C I
    let K:=racc.ext I
    dsimp only at e9
    split at e9
    ·rename_i cl
     refine#[h,s,by rw[<-racc.length];exact cl,b0,n,S6,b++ [y],h++ [v],(x2.trans I).off P _,#[((u.en.ext Y).ext x6).off s,a2.off s n6],n6,bj,(K.append (.cons r6 .nil)).off s,e9]
    ·cases e9
   ·rename_i ck
    rw[Quq ck]
    let#[b1,n5]:=C r
    exact#[X,n,S5,b,h,x2.trans r,u.to Y U,n5,b1,racc.ext r,e7]
  ·cases e2
 ·have e3:i=j.length:=by omega
  subst e3
  rw[List.drop_length] at e2
  unfold iT at e2
  split at e2
  ·rename_i w
   let#[rfl,rfl]:=bt e2
   let#[w1,w2]:=wk j.length a N Z x2 ok2.st w
   exact .inl #[w2 L,q a D h Z (x1.trans x2) ok2.st (x1.grow _ P) n2 hD2 racc]
  ·cases e2
end
section
variable{X:Cx}{a b c e:Expr}{pos:Pos}{st:Stmt}{rest body other:List Stmt}
def bP:ia:=λ_ S=>some (true,S)
def Ca{d:List Expr}{t t':TT}(h:mY X d t)(w:∀g H Q,t' g H Q->t g H Q):mY X d t':=λf s g H Q I q=>h f s g H Q I (w _ _ _ q)
def cJ:mY X [] (tB (md X) bP):=Ca AR λh H Q ⟨f,d,S,k,g,ok,e,q⟩=>by cases e;exact q _ _ bz.refl ok.st
def vg{f:ia}(d:PT X c (tB (md X) f)):mY X [c] (tB (md X) f):=zA d
def bZ{N:X6}{js:List (Option Nat)}{d:Scope}{l:List (Str×Addr)}{m h k:Expr}{j:List Expr}{i:q8}{g:lB}{t:ia}{f:a0}
  (S:aG X N js d l) (n:X.calm=true) (hi:PI X m h (tI (md X) i))
  (o:∀C s H fp,PG (a7 X N d l C s H fp) m (tG (md X) g)) (ht:∀C s H fp,mY (a7 X N d l C s H fp) j (tB (md X) t)) (he:∀C s H fp,PE (a7 X N d l C s H fp) k (tD (md X) f))
  (p:autoParam (∀x,foldedSetIterable h X.env x=pure x) ae._auto_1):PE X (.ListComp k [⟨m,h,j,0⟩] d pos) (tL (md X) (bu js i g t f)):=f_ (yI S n hi o ht he p) vj
def jV{N:X6}{js:List (Option Nat)}{h:Scope}{w:List (Str×Addr)}{v j r k:Expr}{p:List Expr}{i:q8}{g:lB}{t:ia}{f:a0}{n:Nat}{l:Pos}
  (S:aG X N js h w) (P:X.calm=true) (hi:PI X v j (tI (md X) i))
  (U:∀C s H fp,PG (a7 X N h w C s H fp) v (tG (md X) g)) (ht:∀C s H fp,mY (a7 X N h w C s H fp) p (tB (md X) t)) (he:∀C s H fp,PE (a7 X N h w C s H fp) r (tD (md X) f)) (z:PG X k (oa n))
  (hs:autoParam (∀x,foldedSetIterable j X.env x=pure x) ae._auto_1) (B:autoParam (swapsWithSole [k] (.ListComp r [⟨v,j,p,0⟩] h pos) l.line X.env=pure true) ad._auto_1)
  (Q:autoParam ((assignEach [k] X.env).map (·.2)= [assign k X.env]) ad._auto_1):PS X (.Assign [k] (.ListComp r [#[v,j,p,0]] h pos) l) (tS (md X) (bf n (bo (bu js i g t f)))):=
 xo (xE S P hi U ht he z hs B Q) λD σ H M=>by
  let#[J,Γ,S,o,ok,e,q]:=M
  let#[#[d,S1],e1,e]:=ar e
  cases e
  let#[#[I,W],Z,e3]:=ar e1
  let#[rfl,rfl]:=bt e3
  refine vj σ H _ #[J,Γ,S,I,W,ok,Z,λm a vs K x st Y nr ha R=>?_]
  let y:=R.pre (List.prefix_append m [a])
  let A:=st.box (o:=.lst I) nr #[vs,ha,y]
  have F:bz J H (m++ [a]) K:=⟨x.pre.trans (List.prefix_append _ _),λb u=>by
   rcases mQa.mp u with u|u
   ·exact x.new b u
   ·rw[Qfq] at u;subst u;exact .inr Y,x.keep,x.grow⟩
  refine q (m++ [a]) _ K F #[((ok.en.ext F).set (.ref ?_)),A]
  rw[<-st.len,QQq (Qmq _)]
  simp
def uP(c:ia)(b:dy):Nat->bV->aB->Option Out
 |0,_,_=>none
 |n +1,Γ,S=>(c Γ S).bind λ(k,g)=>if k=true then(b Γ g).bind λo=>match o with
    |.nx d f=>uP c b n d f
    |.ct d f=>uP c b n d f
    |.bk d f=>some (.nx d f)
    |.rt x f=>some (.rt x f)
    |.rl x f=>some (.rl x f)
  else some (.nx Γ g)
def sR{h:ia}{f:dy}(n:Nat)(Z:PassesOwn (model X.prog X.w) X.A X.env X.xe)(W:PT X c (tB (md X) h))(hb:kQ X body (tS (md X) f)):PS X (.While c body [] pos) (tS (md X) (uP h f n)):=xo (wy Z W hb) λD σ H U=>by
 let#[I,Γ,S,o,ok,e,q]:=U
 refine#[λm r v=>∃d g t,bz I H d v/\Ok (md X) d g t r v/\uP h f m g t=some o,#[n,I,Γ,S,bz.refl,ok,e],?_]
 rintro m a1 H1 ⟨J,B,S1,x1,C,i⟩
 cases m with
 |zero=>cases i
 | succ m=>
   unfold uP at i
   let#[#[k,N],e2,i]:=ar i
   refine#[J,B,S1,k,N,C,e2,λM H2 Q K=>?_]
   dsimp only at i|-
   let x:=C.to Q K
   let j:=x1.trans Q
   split at i
   · rename_i F
     rw[Qhq F]
     let#[P,e3,i]:=ar i
     refine#[λr v=>∃d g t,bz I H d v/\Ok (md X) d g t r v/\uP h f m g t=some o,λr v ⟨d,g,t,Y,h2,h3⟩=>#[m,Nat.lt_succ_self _,d,g,t,Y,h2,h3],M,B,N,P,x,e3,?_]
     cases P with
     |nx s u=>exact λp z R y l=>#[p,s,u,j.trans y,l,i]
     |ct s u=>exact λp z R y l=>#[p,s,u,j.trans y,l,i]
     |bk s u=>cases i;exact λp z R y l=>q _ _ _ (j.trans y) l
     |rt d6 u=>cases i;exact q.to j
     |rl d6 u=>cases i;exact q.to j
   · rename_i F
     rw[Quq F]
     cases i
     exact q _ _ _ j x
end
inductive Res where
 |d (x:D)|l (ds:List D)
abbrev fH:=List D->aB->Option (Res×aB)
def AD(M:Md)(ρ:X7)(H b:Hp)(v:V):Res->Prop
 |.d x=>Rel M ρ b x v
 |.l e=>∃a c,v=.ref a/\H a=none/\a∉ρ/\b a=some (.lst c)/\aO M ρ b e c
def gQ(M:Md)(n:Nat)(F:fH):Sp:=λf H Q _=>∃d S c r e,c.length=n/\aO M d H c f/\ez M d S H/\F c S=some (r,e)/\∀a v b,bz d H a b->ez M a e b->AD M a H b v r->Q v b
mutual
def bx(m:Nat):D->Bool
 |.ref k=>decide (k<m)
 |.tup a=>a6 m a
 |_=>true
def a6(m:Nat):List D->Bool
 | []=>true
 |d::ds=>bx m d&&a6 m ds
end
def mO(m:Nat):O->Bool
 |.lst a=>a6 m a
 |.frz a=>a6 m a
 |.dct b=>a6 m (b.map (·.2))
 |.sett a=>a6 m a
 |.dctN c d=>a6 m c&&a6 m d
section
variable{M:Md}{ρ ρ':X7}{H:Hp}
mutual
theorem Rel.cut(e:ρ <+: ρ'):∀{d:D} {v:V},Rel M ρ' H d v->bx ρ.length d=true->Rel M ρ H d v
 |_,_,.non,_=>.non
 |_,_,.bl x,_=>.bl x
 |_,_,.int i,_=>.int i
 |_,_,.str x,_=>.str x
 |_,_,.tup h hs,b=>.tup h (aO.cut e hs (by simpa [bx] using b))
 | _,_,.ref (k:=k) (a:=a) h,b=>.ref (by
   let#[t,rfl]:=e
   have c:k<ρ.length:=by simpa [bx] using b
   rwa [QHq c] at h)
 |_,_,.fn h,_=>.fn h
theorem aO.cut(e:ρ <+: ρ'):∀{c:List D} {d:List V},aO M ρ' H c d->a6 ρ.length c=true->aO M ρ H c d
 |_,_,.nil,_=>.nil
 | _,_,.cons h hs,b=>by
   let a:=b
   erw[a6,QDq,QCq] at a
   exact .cons (Rel.cut e h a.1) (aO.cut e hs a.2)
end
theorem bL.cut(e:ρ <+: ρ'):∀{l:List (Key×D)} {c:List (Key×V)},bL M ρ' H l c->a6 ρ.length (l.map (·.2))=true->bL M ρ H l c
 | [],_,h,_=>h
 | (_,_)::_,_,#[v,t,q,h,hs],b=>by
   let a:=b
   erw[a6,QDq,QCq] at a
   exact#[v,t,q,h.cut e a.1,bL.cut e hs a.2]
theorem jM.cut{a:X8}{o:O}(e:ρ <+: ρ')(h:jM M ρ' H a o)(b:mO ρ.length o=true):jM M ρ H a o:=by
 cases o with
 |lst j=>let#[f,c,d]:=h;exact#[f,c,d.cut e b]
 |frz j=>let#[f,o,c,d]:=h;exact#[f,o,c,d.cut e b]
 |dct k=>let#[l,c,d]:=h;exact#[l,c,d.cut e b]
 |sett j=>let#[p,n,c,d,g]:=h;exact#[p,n,c,d.cut e b,g]
 |dctN q f=>let#[i,c,d,g,m]:=h;erw[mO,QCq] at b;exact#[i,c,d.cut e b.1,g.cut e b.2,m]
mutual
theorem Rel.low:∀{d:D} {v:V},Rel M ρ H d v->bx ρ.length d=true
 |_,_,.non=>rfl
 |_,_,.bl x=>rfl
 |_,_,.int i=>rfl
 |_,_,.str x=>rfl
 |_,_,.tup h hs=>by erw[bx];exact aO.low hs
 |_,_,.ref h=>by erw[bx];exact Qeq (gQs.mp h).1
 |_,_,.fn h=>rfl
theorem aO.low:∀{a:List D} {b:List V},aO M ρ H a b->a6 ρ.length a=true
 |_,_,.nil=>rfl
 |_,_,.cons h hs=>by erw[a6];rw[Rel.low h,aO.low hs];rfl
end
theorem bL.low:∀{l:List (Key×D)} {a:List (Key×V)},bL M ρ H l a->a6 ρ.length (l.map (·.2))=true
 | [],_,_=>rfl
 |(_,_)::_,_,#[v,t,q,h,hs]=>by erw[QDq,a6];rw[h.low,bL.low hs];rfl
theorem jM.low{a:X8}{o:O}(h:jM M ρ H a o):mO ρ.length o=true:=by
 cases o with
 |lst e=>let#[f,c,b]:=h;exact b.low
 |frz e=>let#[f,o,c,b]:=h;exact b.low
 |dct g=>let#[j,c,b]:=h;exact b.low
 |sett e=>let#[m,l,c,b,d]:=h;exact b.low
 |dctN n f=>let#[i,c,b,d,k]:=h;erw[mO,QCq];exact#[b.low,d.low]
end
def hZ(S a:aB):Prop:=S.length<=a.length/\∀k o,k<S.length->a[k]?=some o->S[k]?=some o\/mO S.length o=true
open Classical in
def settle(S:aB)(d:D)(a:aB):Option (Res×aB):=if hZ S a then match d with
  | .ref k=>if k<S.length then some (.d (.ref k),a.take S.length) else match a[k]? with
    |some (.lst ds)=>if a6 S.length ds=true then some (.l ds,a.take S.length) else none
    |_=>none
  |d=>if bx S.length d=true then some (.d d,a.take S.length) else none
 else none
open Classical in
def dJ(S:aB)(b:List D)(a:aB):Option (Res×aB):=if hZ S a/\a6 S.length b=true then some (.l b,a.take S.length) else none
noncomputable def jg(n:Nat)(b:dy):fH:=λc S=>(b (c.map some++List.replicate (n-c.length) none) S).bind λo=>match o with
 |.nx _ a=>settle S .non a
 |.rt d a=>settle S d a
 |.rl l a=>dJ S l a
 |_=>none
noncomputable def z7(n:Nat)(b:dy):fH:=λc S=>(b (c.map some++List.replicate (n-c.length) none) S).bind λo=>match o with
 |.nx _ a=>some (.d .non,a)
 |.rt d a=>some (.d d,a)
 |.rl l a=>some (.l l,a)
 |_=>none
def ez.clean{M:Md}{ρ b:X7}{S j:aB}{H e:Hp}(st:ez M ρ S H)(x:bz ρ H b e)(i:ez M b j e)(c:hZ S j):ez M ρ (j.take S.length) e/\bz ρ H ρ e:=by
 refine#[#[?_,st.nd,λk a o f g=>?_],List.prefix_refl _,λ_ h=>.inl h,x.keep,x.grow]
 ·rw[Qxq,st.len]
  have:=c.1
  omega
 ·have l:k<ρ.length:=(gQs.mp f).1
  have d:k<S.length:=st.len▸l
  rw[List.getElem?_take_of_lt d] at g
  refine(i.obj k a o (cH x.pre f) g).cut x.pre ?_
  rcases c.2 k o d g with z|z
  ·exact(st.obj k a o f z).low
  ·rw[st.len];exact z
def nR{M:Md}{ρ b:X7}{S u h:aB}{H g:Hp}{d:D}{v:V}{r:Res}(st:ez M ρ S H)(x:bz ρ H b g)(f:ez M b u g)(p:Rel M b g d v)(e:settle S d u=some (r,h)):
  bz ρ H ρ g/\ez M ρ h g/\AD M ρ H g v r:=by
 unfold settle at e
 split at e
 ·rename_i c
  let#[o,q]:=st.clean x f c
  cases d with
  | ref k=>
    dsimp only at e
    split at e
    · rename_i n
      let#[rfl,rfl]:=bt e
      exact#[q,o,p.cut x.pre (by erw[bx];rw[st.len];exact Qeq n)]
    · rename_i n
      split at e
      · rename_i B A
        split at e
        · rename_i l
          let#[rfl,rfl]:=bt e
          cases p with
          | ref i=>
            rename_i a
            let#[z,w,y]:=f.obj k a _ i A
            have s:a∉ρ:=λm=>by
              let#[j,t]:=List.getElem?_of_mem m
              have:=mr f.nd (cH x.pre t) i
              subst this
              exact n (st.len▸(gQs.mp t).1)
            refine#[q,o,a,z,L,(x.new a (mQg i)).resolve_left s,s,w,y.cut x.pre (by rw[st.len];exact l)]
        · cases e
      · cases e
  | _=>
    dsimp only at e
    split at e
    · rename_i l
      let#[rfl,rfl]:=bt e
      exact#[q,o,p.cut x.pre (by rw[st.len];exact l)]
    · cases e
 ·cases e
def rA{M:Md}{ρ b:X7}{S j f:aB}{H d:Hp}{i:List D}{a:X8}{h:List V}{r:Res}(st:ez M ρ S H)(x:bz ρ H b d)(g:ez M b j d)(l:H a=none)(k:a∉b)(n:d a=some (.lst h))(p:aO M b d i h)(e:dJ S i j=some (r,f)):
  bz ρ H ρ d/\ez M ρ f d/\AD M ρ H d (.ref a) r:=by
 unfold dJ at e
 split at e
 ·rename_i c
  let#[o,q]:=st.clean x g c.1
  let#[rfl,rfl]:=bt e
  exact#[q,o,a,h,L,l,λm=>k (x.pre.subset m),n,p.cut x.pre (by rw[st.len];exact c.2)]
 ·cases e
def qc{M:Md}{ρ:X7}{H:Hp}{a:List D}{b:List V}{N:X6}(r:aO M ρ H a b):En M ρ H (a.map some++List.replicate (N.length-a.length) none) (L2.start N b) where
 len:=by unfold L2.start;simp[r.length]
 get:=λi d q=>by
  unfold L2.start
  by_cases c:i<a.length
  ·rw[QHq (by rw[lQm];exact c),gQm] at q
   let#[j,e,h]:=oQm.mp q
   cases h
   let#[v,f,g]:=r.get e
   exact#[v,by rw[QHq (by rw[lQm,<-r.length];exact c),gQm,f];rfl,g]
  ·rw[QQq (by rw[lQm];omega)] at q
   have:=mQg q
   rw[List.mem_replicate] at this
   cases this.2
section
variable{P:X9}{w:Xc}{K:X1}{mg:X3}{base:Xe}
def cK{x c:Str}{st:Stmt}{f:X8}{J:FuncData}{N ps:X6}{k:Nat}{b:dy}(F:gS K x c st f J)(S:aX N ps (aE st))
  (i:∀(g:Xd) (A:X_) (outer:List Env) (s:X4) (H:Hp) (E:XK),dv k (A.deeper (envOfC c (aE st) s.heap.objs.size f g))->
   kQ (qf fj P w K mg base N c (aE st) f g A outer s H E).nox (dq st) (tS #[K,mg] b)):bT P w K mg base fj (k+1) f J ps (gQ #[K,mg] ps.length (jg N.length b)):=by
 refine F.ok S (λM H Q E ⟨I,S,Z,r,S',B,y,_⟩=>by rw[<-y.length];exact B) λg A outer s H M Q E W ⟨I,S,Z,r,S',B,y,t,h4,q⟩=>#[_,i g A outer s H E W,?_]
 let#[o,e1,e]:=ar h4
 refine#[I,_,S,o,#[qc y,t],e1,?_]
 cases o with
 |nx a1 C=>exact λl a2 R m z=>by let#[n,p,j]:=nR t m z.st .non e;exact q _ _ _ n p j
 |rt d C=>exact λl v R m h u=>by let#[n,p,j]:=nR t m h u e;exact q _ _ _ n p j
 |rl d C=>exact λl a M R m h X U Y u=>by let#[n,p,j]:=rA t m h X U Y u e;exact q _ _ _ n p j
 |bk=>cases e
 |ct=>cases e
def w_{x c:Str}{st:Stmt}{f:X8}{B:FuncData}{N ps:X6}{k:Nat}{b:dy}(F:gS K x c st f B)(S:aX N ps (aE st))
  (i:∀(g:Xd) (A:X_) (outer:List Env) (s:X4) (H:Hp) (E:XK),dv k (A.deeper (envOfC c (aE st) s.heap.objs.size f g))->
   kQ (qf fj P w K mg base N c (aE st) f g A outer s H E).nox (dq st) (tS #[K,mg] b)):bT P w K mg base fj (k+1) f B ps (gQ #[K,mg] ps.length (z7 N.length b)):=by
 refine F.ok S (λt H Q E ⟨z,S,W,r,Y,u,n,_⟩=>by rw[<-n.length];exact u) λg A outer s H t Q E J ⟨z,S,W,r,Y,u,n,R,h4,q⟩=>#[_,i g A outer s H E J,?_]
 let#[o,e1,e]:=ar h4
 refine#[z,_,S,o,#[qc n,R],e1,?_]
 cases o with
 |nx X y=>cases e;exact λj Z C l p=>q _ _ _ l p.st .non
 |rt d y=>cases e;exact λj v C l h m=>q _ _ _ l h m
 |rl d y=>cases e;exact λj a t C l h M I U m=>q _ _ _ l h #[a,t,L,M,I,U,m]
 |bk=>cases e
 |ct=>cases e
end
section
variable{X:Cx}{x:Str}{k n:Nat}{f:X8}{fd:FuncData}{ps:X6}{F:fH}{e:Expr}{es:List Expr}{g:dM}{p pos:Pos}
noncomputable def aF(F:fH)(g:dM):a0:=λb S=>(g b S).bind λ(c,h)=>(F c h).bind λ(r,a)=>match r with
 |.d x=>some (x,a)
 |.l _=>none
def cq(F:fH)(g:dM):dM:=λc S=>(g c S).bind λ(a,h)=>(F a h).bind λ(r,b)=>match r with
 |.d _=>none
 |.l a=>some (a,b)
def nA(n:Nat)(g:dM):Prop:=∀b S a c,g b S=some (a,c)->a.length=n
def vx:nA 0 ax:=λ_ _ _ _ e=>by cases e;rfl
def tp{n:Nat}{f:a0}{g:dM}(h:nA n g):nA (n+1) (au f g):=λi S l o e=>by
 let#[#[d,m],j,e]:=ar e
 let#[#[b,c],a,e]:=ar e
 cases e
 rw[Qnq,h _ _ _ _ a]
def yq{M:Md}(w:nA n g):∀h H Q,tD M (aF F g) h H Q->wj (gQ M n F) [] E0 (qv M g) h H Q:=λh H Q o=>by
 let#[A,z,S,d,N,ok,e,q]:=o
 let#[#[b,j],m,e]:=ar e
 let#[#[r,s],u,e]:=ar e
 refine#[A,z,S,b,j,ok,m,λc P J C a B=>#[c,j,b,r,s,w _ _ _ _ m,by rw[List.append_nil];exact B,a,u,λI v K y i t=>?_]]
 cases r with
 |d x=>let#[rfl,rfl]:=bt e;exact q _ _ _ (C.trans y) i t
 |l b=>cases e
def xU{M:Md}(z:nA n g):∀i H Q,tL M (cq F g) i H Q->wj (gQ M n F) [] E0 (qv M g) i H Q:=λi H Q t=>by
 let#[C,B,S,d,R,ok,e,q]:=t
 let#[#[c,m],o,e]:=ar e
 let#[#[r,u],y,e]:=ar e
 refine#[C,B,S,c,m,ok,o,λh I N s b J=>#[h,m,c,r,u,z _ _ _ _ o,by rw[List.append_nil];exact J,b,y,λK v P A j w=>?_]]
 cases r with
 |d x=>cases e
 | l c=>
   let#[rfl,rfl]:=bt e
   let#[a,I,rfl,fr,na,ha,rr]:=w
   exact q _ _ _ _ (s.trans A) j (s.grow _ fr) na ha rr
def zl(G:bT X.prog X.w X.K X.mg X.base fj k f fd ps (gQ (md X) n F))(i:dv k X.A)(b:Gl X x)(l:X.mg x=some (.ref f))(h:PySem.W.keepIn X.K (.ref f)=true)(d:Binds X.K fd ps [])(c:PA X (e::es) (qv (md X) g))(j:nA n g)
  (a:autoParam ((x==("__debug__":Str))=false) ac._auto_1) (he:autoParam (starEach (e::es) X.env=(false,eval e X.env)::starEach es X.env) ad._auto_1) (hpl:autoParam ((backTo pos (starEach es X.env)).any (·.1)=false) ad._auto_1):
  PE X (.Call (.Name x p) (e::es) [] pos) (tD (md X) (aF F g)):=f_ (sH G i b l h d .nil y7 c a he hpl) (yq j)
def Ac(G:bT X.prog X.w X.K X.mg X.base fj k f fd ps (gQ (md X) n F))(i:dv k X.A)(b:Gl X x)(l:X.mg x=some (.ref f))(h:PySem.W.keepIn X.K (.ref f)=true)(d:Binds X.K fd ps [])(c:PA X (e::es) (qv (md X) g))(j:nA n g)
  (a:autoParam ((x==("__debug__":Str))=false) ac._auto_1) (he:autoParam (starEach (e::es) X.env=(false,eval e X.env)::starEach es X.env) ad._auto_1) (hpl:autoParam ((backTo pos (starEach es X.env)).any (·.1)=false) ad._auto_1):
  PE X (.Call (.Name x p) (e::es) [] pos) (tL (md X) (cq F g)):=f_ (sH G i b l h d .nil y7 c a he hpl) (xU j)
end
def j6{α:Type}(xs:List α)(lo hi:Xb):List α:=(xs.drop (HT.cV xs.length 0 lo)).take (HT.cV xs.length xs.length hi-HT.cV xs.length 0 lo)
def aO.cut3{M:Md}{ρ:X7}{H:Hp}{a:List D}{b:List V}{lo hi:Xb}(h:aO M ρ H a b):aO M ρ H (j6 a lo hi) (pj b lo hi):=by
 unfold j6 pj
 rw[h.length]
 exact(h.drop _).take _
def yL{α:Type}{xs:List α}{lo hi:Xb}(a:HT.cV xs.length 0 lo=0)(b:HT.cV xs.length xs.length hi=xs.length):j6 xs lo hi=xs:=by
 unfold j6
 rw[a,b]
 simp
abbrev xJ:=bV->aB->Option (Option Int×aB)
def Bc(M:Md)(f:xJ):TO:=λg H Q=>∃d c S o e,Ok M d c S g H/\f c S=some (o,e)/\∀a b,bz d H a b->ez M a e b->Q o b
section
variable{X:Cx}{a b c e:Expr}{pos:Pos}{st:Stmt}
def xk:xJ:=λ_ S=>some (none,S)
def uY(f:a0):xJ:=λg S=>(f g S).bind λ(d,h)=>match d with
 |.int i=>some (some i,h)
 |_=>none
def Ed{o:Option Expr}{t t':TO}(h:PO X o t)(w:∀f H Q,t' f H Q->t f H Q):PO X o t':=λd s f H Q I q=>h d s f H Q I (w _ _ _ q)
def i9:PO X none (Bc (md X) xk):=Ed yE λh H Q ⟨f,d,S,o,g,ok,e,q⟩=>by cases e;exact q _ _ bz.refl ok.st
def i5{f:a0}(h:PE X e (tD (md X) f)):PO X (some e) (Bc (md X) (uY f)):=Ed (ym h) λp H Q g=>by
 let#[l,j,S,o,n,ok,e,q]:=g
 let#[#[d,k],m,e]:=ar e
 dsimp only at e
 split at e
 ·let#[rfl,rfl]:=bt e
  refine#[l,j,S,_,k,ok,m,λi v s x st r=>?_]
  cases r
  exact#[_,L,q _ _ x st]
 ·cases e
def zm(f:a0)(lo hi:xJ):a0:=λg S=>(f g S).bind λ(d,j)=>(lo g j).bind λ(l,i)=>(hi g i).bind λ(h,m)=>match d with
 |.tup k=>some (.tup (j6 k l h),m)
 |_=>none
def lg{lo hi:Option Expr}{Z:Pos}{f:a0}{l h:xJ}(he:PE X e (tD (md X) f))(K:PO X lo (Bc (md X) l))(hh:PO X hi (Bc (md X) h)):PE X (.Subscript e (.Slice lo hi none Z) pos) (tD (md X) (zm f l h)):=
 f_ (qm yh he K hh) λσ H Q I=>by
  let#[N,o,S,d,S',ok,e,q]:=I
  let#[#[x,B],Y,e]:=ar e
  let#[#[A,y],J,e]:=ar e
  let#[#[F,P],U,e]:=ar e
  cases x with
  | tup C=>
    dsimp only at e
    let#[rfl,rfl]:=bt e
    refine#[N,o,S,_,B,ok,Y,λr v H1 s g R=>#[r,o,B,A,y,ok.to s g,J,λu H2 n t=>#[u,o,y,F,P,(ok.to s g).to n t,U,λW H3 w j=>?_]]]
    let i:=(s.trans n).trans w
    let M:=R.ext (n.trans w)
    cases M with
    | tup z k=>
      refine#[_,_,L,fL.of z,λc=>?_,λc p m=>?_]
      · have:j6 C A F=C:=yL (by rw[k.length];exact c.1) (by rw[k.length];exact c.2)
        rw[this] at q
        exact q _ _ _ i j (.tup z k)
      · exact q _ _ _ (i.trans (bz.laid m)) (j.lay m) (.tup bj (k.cut3.ext (bz.laid m)))
  |_=>cases e
open Classical in
def AG(f:dP)(lo hi:xJ):dM:=λd S=>(f d S).bind λ(p,j)=>(lo d j).bind λ(l,i)=>(hi d i).bind λ(h,g)=>if p.2.isL=true/\p.2.stays g p.1 then some (j6 p.1 l h,g) else none
def oX{lo hi:Option Expr}{Y:Pos}{f:dP}{l h:xJ}(he:PE X e (tQ (md X) f))(I:PO X lo (Bc (md X) l))(hh:PO X hi (Bc (md X) h)):PE X (.Subscript e (.Slice lo hi none Y) pos) (tL (md X) (AG f l h)):=
 f_ (qm xN he I hh) λσ H Q z=>by
  let#[N,n,S,d,S',ok,e,q]:=z
  let#[#[#[K,t],y],W,e]:=ar e
  let#[#[J,x],C,e]:=ar e
  let#[#[Z,P],R,e]:=ar e
  dsimp only at e
  split at e
  ·rename_i c
   let#[rfl,rfl]:=bt e
   refine#[N,n,S,K,t,y,ok,W,λo a vs H1 r j A U=>#[o,n,y,J,x,ok.to r j,C,λv H2 m s=>#[v,n,x,Z,P,(ok.to r j).to m s,R,λB H3 w i=>?_]]]
   let g:=(r.trans m).trans w
   let#[u,F,M]:=A.to U (m.trans w) i c.2
   refine#[_,u,L,F.sqL c.1,λp k=>?_]
   exact q _ _ _ _ (g.trans (bz.laid k)) (i.lay k) (g.grow _ k) (cj g i k) bj (M.cut3.ext (bz.laid k))
  ·cases e
open Classical in
def dw(f g:dP):dM:=λh S=>(f h S).bind λ(p,i)=>(g h i).bind λ(r,d)=>if p.2.isM=true/\r.2.isM=true/\p.2.stays d p.1/\p.1.length+r.1.length<=sizeLine then some (p.1++r.1,d) else none
def cM{f g:dP}(F:PE X a (tQ (md X) f))(I:PE X b (tQ (md X) g)):PE X (.BinOp a .Add b pos) (tL (md X) (dw f g)):=f_ (kn Am F I) λσ H Q w=>by
 let#[K,r,S,d,Z,ok,e,q]:=w
 let#[#[#[J,t],s],R,e]:=ar e
 let#[#[#[y,M],z],A,e]:=ar e
 dsimp only at e
 split at e
 ·rename_i c
  let#[rfl,rfl]:=bt e
  refine#[K,r,S,J,t,s,ok,R,λl a vs W v k x P=>#[l,r,s,y,M,z,ok.to v k,A,λU b N Y o i C n=>?_]]
  let#[m,B,u]:=x.to P o i c.2.2.1
  let h:=v.trans o
  refine#[_,_,m,N,L,L,B.sqM c.1,C.sqM c.2.1,by rw[<-u.length,<-n.length];exact c.2.2.2,λp j=>?_]
  exact q _ _ _ _ (h.trans (bz.laid j)) (i.lay j) (h.grow _ j) (cj h i j) bj ((u.append n).ext (bz.laid j))
 ·cases e
open Classical in
def lb(f:dP)(g:a0):dM:=λh S=>(f h S).bind λ(p,i)=>(g h i).bind λ(r,d)=>match r with
 |.int k=>if p.2.isM=true/\p.2.stays d p.1/\ -(2^63)<=k/\k<2^63/\p.1.length*k.toNat<=sizeLine then some ((List.replicate k.toNat p.1).flatten,d) else none
 |_=>none
def lM{f:dP}{g:a0}(I:PE X a (tQ (md X) f))(J:PE X b (tD (md X) g)):PE X (.BinOp a .Mult b pos) (tL (md X) (lb f g)):=f_ (kn AL I J) λZ H Q y=>by
 let#[M,s,S,d,Y,ok,e,q]:=y
 let#[#[#[K,t],u],P,e]:=ar e
 let#[#[r,A],C,e]:=ar e
 cases r with
 | int k=>
   dsimp only at e
   split at e
   · rename_i c
     let#[rfl,rfl]:=bt e
     refine#[M,s,S,K,t,u,ok,P,λm a vs U x l z N=>#[m,s,u,_,A,ok.to x l,C,λR w W o i B=>?_]]
     let#[n,F,v]:=z.to N o i c.2.1
     let h:=x.trans o
     cases B
     refine#[_,k,n,L,L,F.sqM c.1,c.2.2.1,c.2.2.2.1,by rw[<-v.length];exact c.2.2.2.2,λp j=>?_]
     exact q _ _ _ _ (h.trans (bz.laid j)) (i.lay j) (h.grow _ j) (cj h i j) bj ((v.rep _).ext (bz.laid j))
   · cases e
 |_=>cases e
open Classical in
def cI(f:dP):a0:=λg S=>(f g S).bind λ(p,d)=>if p.2.isL=true/\p.2.stays d p.1 then some (.bl (!p.1.isEmpty),d) else none
def sW{f:dP}:∀l H Q,tD (md X) (cI f) l H Q->y1 (wx X.K) (tQ (md X) f) (tL (md X) (aV ax)) l H Q:=λl H Q p=>by
 let#[y,n,S,d,P,ok,e,q]:=p
 let#[#[#[w,t],j],A,e]:=ar e
 dsimp only at e
 split at e
 ·rename_i c
  let#[rfl,rfl]:=bt e
  refine#[y,n,S,w,t,j,ok,A,λk a J M o h r z=>#[k,n,j,[],j,ok.to o h,L,λB b C N m g F I v s=>?_]]
  let#[i,u,x]:=r.to z m g c.2
  cases s
  refine#[a,b,i,L,L,u.sqL c.1,fJ.of v,?_]
  rw[<-x.isEmpty]
  exact q _ _ _ (o.trans m) g (.bl _)
 ·cases e
def yX:PE X (.List [] pos) (tL (md X) (aV ax)):=a_ av
def gE{f:dP}{p:Pos}(d:X.A.units<cLine)(g:PE X a (tQ (md X) f)):PE X (.Compare a [.NotEq] [.List [] p] pos) (tD (md X) (cI f)):=f_ (sA (qM d) g yX (bJ _)) sW
def jw{f:dP}{p:Pos}(d:X.A.units<cLine)(g:PE X a (tQ (md X) f)):PT X (.Compare a [.NotEq] [.List [] p] pos) (tB (md X) (br (cI f))):=rS sW (lx (qM d) g yX (bJ _))
def ez.putL{M:Md}{ρ:X7}{S:aB}{H:Hp}{k:Nat}{a:X8}{j i:List D}{ws:List V}(st:ez M ρ S H)(f:ρ[k]?=some a)(d:S[k]?=some (.lst j))(r:aO M ρ H i ws):ez M ρ (S.set k (.lst i)) (upd H a (.lst ws))/\bz ρ H ρ (upd H a (.lst ws)):=by
 let#[m,g,l]:=st.obj k a _ f d
 exact st.put f d #[ws,bj,r.off g] λx h=>by rw[g] at h;cases h;exact id
def ku(m:List D->List D->Option (List D×D))(f:a0)(g:dM):a0:=λi S=>(f i S).bind λ(x,j)=>match x with
 | .ref k=>(g i j).bind λ(l,h)=>match j[k]?,h[k]? with
   |some (.lst _),some (.lst ds)=>(m ds l).bind λ(n,d)=>some (d,h.set k (.lst n))
   |_,_=>none
 |_=>none
def t7(M:Md)(r:V->List V->Hp->VK->Prop)(m:List D->List D->Option (List D×D)):Prop:=∀{f:X7} {H:Hp} {a:X8} {h i k:List D} {d:D} {l g:List V} {Q:VK},H a=some (.lst l)->aO M f H h l->aO M f H i g->m h i=some (k,d)->
 (∀j w,aO M f H k j->Rel M f H d w->Q w (upd H a (.lst j)))->r (.ref a) g H Q
def zw{m:List D->List D->Option (List D×D)}{r:V->List V->Hp->VK->Prop}{f:a0}{g:dM}(J:t7 (md X) r m):∀o H Q,tD (md X) (ku m f g) o H Q->Dm X.K "list" r (tD (md X) f) (qv (md X) g) o H Q:=λo H Q F=>by
 let#[W,z,S,d,S',ok,e,q]:=F
 let#[#[x,B],e1,e]:=ar e
 cases x with
 | ref k=>
   dsimp only at e
   let#[#[ys,M],P,e]:=ar e
   dsimp only at e
   split at e
   · rename_i U ds s i
     let#[#[es,d'],e3,e]:=ar e
     let#[rfl,rfl]:=bt e
     refine#[W,z,S,_,B,ok,e1,λp v H1 C h Z=>?_]
     cases Z with
     | ref A=>
       rename_i a
       let#[n,Y,_]:=h.obj k a _ A s
       refine#[.inl #[L,n,fJ.of Y],p,z,B,ys,M,ok.to C h,P,λa1 us H2 y j N=>?_]
       let l:=cH y.pre A
       let#[vs,I,R]:=j.obj k a _ l i
       refine J I R N e3 λws w rw rd=>?_
       let#[t,u]:=j.putL l i rw
       exact q _ _ _ ((C.trans y).trans u) t (rd.ext u)
   · cases e
 |_=>cases e
def gR:List D->List D->Option (List D×D):=λd f=>match f with
 | [y]=>if d.length<sizeLine then some (d++ [y],.non) else none
 |_=>none
def A9{M:Md}:t7 M sM gR:=by
 intro o H a m n p d k l Q i g f e q
 unfold gR at e
 split at e
 ·split at e
  ·rename_i h
   let#[rfl,rfl]:=bt e
   cases f with
   | cons f j=>
     cases j
     exact#[a,k,_,L,L,i,by rw[<-g.length];exact h,q _ _ (g.append (.cons f .nil)) .non]
  ·cases e
 ·cases e
def dk{f:a0}{g:a0}{o:Expr}{h d:Pos}(n:PE X o (tD (md X) f))(m:PE X e (tD (md X) g))(i:autoParam (attributeBase o "append" X.env (eval o X.env)=eval o X.env) ad._auto_1) (k:autoParam (((backTo d (starEach [e] X.env)).all (λx=> !x.1)&&(backToKw d (keywordEach [] X.env)).all (λx=>x.1.isSome)
   &&decide ([e].length+([]:List Keyword).length+(if ([]:List Keyword).isEmpty then 0 else 1)<30))=true) ad._auto_1)
  (j:autoParam ((h.endLine==d.line)=true) ad._auto_1) (l:autoParam (starEach [e] X.env= [(false,eval e X.env)]) ad._auto_1):PE X (.Call (.Attribute o "append" h) [e] [] d) (tD (md X) (ku gR f (au g ax))):=
 f_ (nE PySem.F.plainAttrs_list PySem.F.slot_list_append PySem.F.type_list_append j8 n (aq m av l) i k j l) (zw A9)
end
section
variable{X:Cx}{a b c e:Expr}{pos:Pos}{st:Stmt}
def BF{m:List D->List D->Option (List D×D)}{r:V->List V->Hp->VK->Prop}{f:a0}(s:t7 (md X) r m):∀i H Q,tD (md X) (ku m f ax) i H Q->BI X.K "list" r (tD (md X) f) i H Q:=λi H Q p=>by
 let#[B,z,S,d,S',ok,e,q]:=p
 let#[#[x,A],M,e]:=ar e
 cases x with
 | ref k=>
   dsimp only at e
   let#[#[ys,W],t,e]:=ar e
   cases t
   dsimp only at e
   split at e
   · rename_i y Y N h
     let#[#[U,R],J,e]:=ar e
     let#[rfl,rfl]:=bt e
     refine#[B,z,S,_,A,ok,M,λC v Z P g F=>?_]
     cases F with
     | ref o=>
       rename_i a
       let#[I,l,u]:=g.obj k a _ o h
       refine#[.inl #[L,I,fJ.of l],s l u .nil J λws w rw rd=>?_]
       let#[j,n]:=g.putL o h rw
       exact q _ _ _ (P.trans n) j (rd.ext n)
   · cases e
 |_=>cases e
def uv:List D->List D->Option (List D×D):=λd f=>match f with
 | []=>(d[d.length-1]?).bind λy=>some (d.dropLast,y)
 |_=>none
def AQ{M:Md}:t7 M Cr uv:=by
 intro p H a o r n d k m Q h f i e q
 unfold uv at e
 split at e
 ·let#[y,l,e]:=ar e
  let#[rfl,rfl]:=bt e
  cases i
  let#[v,g,j]:=f.get l
  rw[f.length] at g
  exact#[a,k,v,L,L,h,g,q _ _ f.dropLast j]
 ·cases e
def zy{f:a0}{o:Expr}{g d:Pos}(j:PE X o (tD (md X) f))(h:autoParam (attributeBase o "pop" X.env (eval o X.env)=eval o X.env) ad._auto_1)(i:autoParam ((g.endLine==d.line)=true) ad._auto_1):PE X (.Call (.Attribute o "pop" g) [] [] d) (tD (md X) (ku uv f ax)):=
 f_ (zN PySem.F.plainAttrs_list PySem.F.slot_list_pop PySem.F.type_list_pop zt j h i) (BF AQ)
def gV:List D->List D->Option (List D×D):=λd f=>match f with
 | [.int i]=>if -(2^63)<=i/\i<2^63 then(seqIndex? i d.length).bind λk=>(d[k]?).bind λy=>some (d.eraseIdx k,y) else none
 |_=>none
def uW{M:Md}:t7 M v5 gV:=by
 intro w H a u x t d p s Q l g f e q
 unfold gV at e
 split at e
 ·split at e
  ·rename_i i h
   let#[k,j,e]:=ar e
   let#[y,m,e]:=ar e
   let#[rfl,rfl]:=bt e
   cases f with
   | cons f r=>
     cases r
     cases f
     let#[v,o,n]:=g.get m
     rw[g.length] at j
     exact#[a,p,i,k,v,L,L,l,h.1,h.2,j,o,q _ _ (g.eraseIdx k) n]
  ·cases e
 ·cases e
def sJ{f:a0}{g:a0}{o:Expr}{h d:Pos}(n:PE X o (tD (md X) f))(m:PE X e (tD (md X) g))(i:autoParam (attributeBase o "pop" X.env (eval o X.env)=eval o X.env) ad._auto_1) (k:autoParam (((backTo d (starEach [e] X.env)).all (λx=> !x.1)&&(backToKw d (keywordEach [] X.env)).all (λx=>x.1.isSome)
   &&decide ([e].length+([]:List Keyword).length+(if ([]:List Keyword).isEmpty then 0 else 1)<30))=true) ad._auto_1)
  (j:autoParam ((h.endLine==d.line)=true) ad._auto_1) (l:autoParam (starEach [e] X.env= [(false,eval e X.env)]) ad._auto_1):PE X (.Call (.Attribute o "pop" h) [e] [] d) (tD (md X) (ku gV f (au g ax))):=
 f_ (nE PySem.F.plainAttrs_list PySem.F.slot_list_pop PySem.F.type_list_pop wV n (aq m av l) i k j l) (zw uW)
def jH(f:a0)(g:dP):a0:=λh S=>(f h S).bind λ(x,i)=>match x with
 | .ref k=>(g h i).bind λ(p,d)=>match i[k]?,d[k]? with
   |some (.lst _),some (.lst ds)=>if p.2.isM=true/\ds.length+p.1.length<=sizeLine then some (.non,d.set k (.lst (ds++p.1))) else none
   |_,_=>none
 |_=>none
def BO{f:a0}{g:dP}:∀n H Q,tD (md X) (jH f g) n H Q->Dm X.K "list" sQ (tD (md X) f) (y_ (tQ (md X) g) BL) n H Q:=λn H Q C=>by
 let#[U,w,S,d,S',ok,e,q]:=C
 let#[#[x,z],e1,e]:=ar e
 cases x with
 | ref k=>
   dsimp only at e
   let#[#[#[ys,t],J],M,e]:=ar e
   dsimp only at e
   split at e
   · rename_i R ds p i
     split at e
     · rename_i c
       let#[rfl,rfl]:=bt e
       refine#[U,w,S,_,z,ok,e1,λo v H1 A h Y=>?_]
       cases Y with
       | ref y=>
         rename_i a
         let#[m,W,_]:=h.obj k a _ y p
         refine#[.inl #[L,m,fJ.of W],o,w,z,ys,t,J,ok.to A h,M,λa1 b F H2 u j P s=>?_]
         let l:=cH u.pre y
         let#[Z,N,B]:=j.obj k a _ l i
         refine#[a,b,Z,F,L,L,N,P.sqM c.1,by rw[<-B.length,<-s.length];exact c.2,?_]
         let#[r,I]:=j.putL l i (B.append s)
         exact q _ _ _ ((A.trans u).trans I) r .non
     · cases e
   · cases e
 |_=>cases e
def dg{f:a0}{g:dP}{o:Expr}{h d:Pos}(n:PE X o (tD (md X) f))(m:PE X e (tQ (md X) g))(i:autoParam (attributeBase o "extend" X.env (eval o X.env)=eval o X.env) ad._auto_1) (k:autoParam (((backTo d (starEach [e] X.env)).all (λx=> !x.1)&&(backToKw d (keywordEach [] X.env)).all (λx=>x.1.isSome)
   &&decide ([e].length+([]:List Keyword).length+(if ([]:List Keyword).isEmpty then 0 else 1)<30))=true) ad._auto_1)
  (j:autoParam ((h.endLine==d.line)=true) ad._auto_1) (l:autoParam (starEach [e] X.env= [(false,eval e X.env)]) ad._auto_1):PE X (.Call (.Attribute o "extend" h) [e] [] d) (tD (md X) (jH f g)):=
 f_ (nE PySem.F.plainAttrs_list PySem.F.slot_list_extend PySem.F.type_list_extend uC n (d_ m gz l) i k j l) BO
def Bj(f g:a0):lB:=λd h S=>(f h S).bind λ(x,m)=>(g h m).bind λ(y,l)=>match x,y with
 | .ref k,.int i=>match l[k]? with
   |some (.lst ds)=>(ud ds.length i).bind λj=>some (h,l.set k (.lst (ds.set j d)))
   |_=>none
 |_,_=>none
def DW{f g:a0}:∀v n H Q,tG (md X) (Bj f g) v n H Q->Bn (tD (md X) f) (tD (md X) g) yY v n H Q:=λv n H Q I=>by
 let#[R,w,S,d,P,S',ok,r,e,q]:=I
 let#[#[x,A],Y,e]:=ar e
 let#[#[y,J],M,e]:=ar e
 cases x with
 | ref k=>
   cases y with
   | int i=>
     dsimp only at e
     split at e
     · rename_i ds B
       let#[j,W,e]:=ar e
       let#[rfl,rfl]:=bt e
       refine#[R,w,S,_,A,ok,Y,λo v1 H1 C m p=>#[o,w,A,_,J,ok.to C m,M,λZ v2 H2 u l K=>?_]]
       cases K
       let p:=p.ext u
       cases p with
       | ref z=>
         let#[U,N,F]:=l.obj k _ _ z B
         let h:=C.trans u
         let#[s,t]:=l.putL z B (aO.set (r.ext h) j F)
         exact#[_,U,i,j,L,L,N,by rw[<-F.length];exact W,q _ _ _ (h.trans t) ((ok.to h l).to t s)]
     · cases e
   |_=>cases e
 |_=>cases e
def y4{o i:Expr}{f g:a0}(h:PE X o (tD (md X) f))(hi:PE X i (tD (md X) g))
  (d:autoParam (∀v,assign (.Subscript o i pos) X.env v=(do
   let ov<-holding [v] (eval o X.env)
   let iv<-holding [v,ov] (eval i X.env)
   standAt pos
   holding [v,ov,iv] (setItem ov iv v)
   release [v,ov,iv] [])) ae._auto_1):PG X (.Subscript o i pos) (tG (md X) (Bj f g)):=DA (zo h hi set_list d) DW
def rY(i j:Nat)(f:dM):dy:=λd S=>(f d S).bind λ(g,h)=>match g with
 | [v,w]=>some (.nx ((d.set i (some v)).set j (some w)) h)
 |_=>none
def t4{i j:Nat}{f:dM}(h:PS X st (B4 i j (qv (md X) f))):PS X st (tS (md X) (rY i j f)):=xo h λD u H g=>by
 let#[p,m,S,o,ok,e,q]:=g
 let#[#[t,n],s,e]:=ar e
 dsimp only at e
 split at e
 ·cases e
  refine#[p,m,S,_,n,ok,s,λl v w x st r=>?_]
  cases r with
  | cons r d=>
    cases d with
    | cons k d=>
      cases d
      exact#[_,_,L,q _ _ _ x #[((ok.en.ext x).set r).set k,st]]
 ·cases e
end
def cO(cells:List (Str×Addr)):List (Str×NameKind)->List (Str×Addr)->List (Str×Addr)
 | [],acc=>acc
 |(n,k)::r,acc=>if (k==.free)=true then cO cells r ((n,(cells.lookup n).getD 0)::acc) else cO cells r acc
theorem jT{env:Env}:∀(names:List (Str×NameKind)) (b:List (Str×Addr)),(∀y∈names,y.2=.free->(env.cells.lookup y.1).isSome=true)->
  (forIn names b λ(x:Str×NameKind) (f:List (Str×Addr))=>(do
   if (x.2==NameKind.free)=true then do
    let c<-cellOf env x.1
    pure (ForInStep.yield ((x.1,c)::f))
   else pure (ForInStep.yield f):Sem (ForInStep (List (Str×Addr)))))=(pure (cO env.cells names b):Sem _)
 | [],b,_=>rfl
 | (n,k)::r,b,h=>by
   rw[List.forIn_cons]
   unfold cO
   by_cases c:(k==NameKind.free)=true
   · let#[a,e]:=Option.isSome_iff_exists.mp (h (n,k) QBq (by simpa using c))
     erw[c,if_true]
     have g:cellOf env n=pure a:=by
       unfold cellOf
       rw[e]
     rw[g,pure_bind,pure_bind,e]
     exact jT r _ λy d=>h y (Qpq _ d)
   · erw[c,Bool.false_eq_true,if_false]
     rw[pure_bind]
     exact jT r _ λy d=>h y (Qpq _ d)
def wm{a:Scope}{env:Env}(h:∀y∈a.names,y.2=.free->(env.cells.lookup y.1).isSome=true):closureFor a env=pure (cO env.cells a.names []):=by
 unfold closureFor
 have:=jT a.names [] h
 rw[bind_pure]
 exact this
theorem lV{cells:List (Str×Addr)}:∀(names:List (Str×NameKind)) (a:List (Str×Addr)) (p:Str×Addr),p∈cO cells names a->p∈a\/∃n,(n,NameKind.free)∈names/\p=(n,(cells.lookup n).getD 0)
 | [],a,p,h=>.inl h
 | (n,k)::r,a,p,h=>by
   unfold cO at h
   split at h
   · rename_i c
     rcases lV r _ p h with h|⟨m,b,d⟩
     · rcases Qsq.mp h with h|h
       · exact .inr #[n,by rw[show k=NameKind.free by simpa using c];exact QBq,h]
       · exact .inl h
     · exact .inr #[m,Qpq _ b,d]
   · rcases lV r _ p h with h|⟨m,b,d⟩
     · exact .inl h
     · exact .inr #[m,Qpq _ b,d]
theorem lO{cells:List (Str×Addr)}{x:Str}:∀(names:List (Str×NameKind)) (a:List (Str×Addr)),((x,NameKind.free)∈names\/∃c,(x,c)∈a)->∃c,(x,c)∈cO cells names a
 | [],a,h=>by
   rcases h with h|h
   · cases h
   · exact h
 | (n,k)::r,a,h=>by
   unfold cO
   split
   · rename_i c
     refine lO r _ ?_
     rcases h with h|⟨c,h⟩
     · rcases Qsq.mp h with h|h
       · cases h;exact .inr #[_,QBq]
       · exact .inl h
     · exact .inr #[c,Qpq _ h]
   · rename_i c
     refine lO r _ ?_
     rcases h with h|h
     · rcases Qsq.mp h with h|h
       · cases h;exact absurd L c
       · exact .inl h
     · exact .inr h
theorem iR{x:Str}{c:X8}:∀{l:List (Str×Addr)},(x,c)∈l->∃a,l.lookup x=some a
 | [],h=>by cases h
 | (n,d)::r,h=>by
   unfold List.lookup
   by_cases e:(x==n)=true
   · rw[e];exact#[d,L]
   · have b:(x==n)=false:=by simpa using e
     rw[b]
     rcases Qsq.mp h with h|h
     · cases h;simp at e
     · exact iR h
def mG(b:X6)(a:Str->Option NameKind)(names:List (Str×NameKind)):List (Option Nat)->List Str->Bool
 |some j::js,x::N=>(b[j]? ==some x)&&(a x==some .cell||a x==some .free)&&(names.lookup x==some .free)&&mG b a names js N
 |none::js,_::N=>mG b a names js N
 |_,_=>true
theorem lS{b:X6}{a:Str->Option NameKind}{names:List (Str×NameKind)}:∀{js:List (Option Nat)} {N:X6} {k j:Nat} {x:Str},mG b a names js N=true->js[k]?=some (some j)->N[k]?=some x->b[j]?=some x/\(a x=some .cell\/a x=some .free)/\names.lookup x=some .free
 | some i::js,y::N,0,j,x,h,h1,h2=>by
   cases h1
   cases h2
   erw[mG,QCq,Bool.or_eq_true,beq_iff_eq] at h
   exact#[h.1.1.1,h.1.1.2,h.1.2]
 | some i::js,y::N,k+1,j,x,h,h1,h2=>by
   erw[mG,QCq] at h
   exact lS h.2 (by simpa using h1) (by simpa using h2)
 |none::js,y::N,0,j,x,h,h1,h2=>by cases h1
 |none::js,y::N,k+1,j,x,h,h1,h2=>lS (k:=k) (by simpa [mG] using h) (by simpa using h1) (by simpa using h2)
 | [],N,k,j,x,h,h1,h2=>by simp at h1
 |some i::js,[],k,j,x,h,h1,h2=>by simp at h2
 |none::js,[],k,j,x,h,h1,h2=>by simp at h2
theorem jo{env:Env}{x:Str}:∀{names:List (Str×NameKind)},names.lookup x=some .free->(names.map λ(n,k)=>if (k==NameKind.free&&env.scope.kind==.function&&env.kindOf n==some .cell) then(n,NameKind.cell) else(n,k)).lookup x=some .cell∨
  (names.map λ(n,k)=>if (k==NameKind.free&&env.scope.kind==.function&&env.kindOf n==some .cell) then(n,NameKind.cell) else(n,k)).lookup x=some .free
 | [],h=>by cases h
 | (n,k)::r,h=>by
   unfold List.lookup at h
   rw[QDq]
   by_cases e:(x==n)=true
   · rw[e] at h
     cases h
     dsimp only
     split
     · left;unfold List.lookup;rw[e]
     · right;unfold List.lookup;rw[e]
   · have a:(x==n)=false:=by simpa using e
     rw[a] at h
     let b:=jo (env:=env) h
     dsimp only
     split <;>(unfold List.lookup;rw[a];exact b)
def aG.gen{X:Cx}{N:X6}{js:List (Option Nat)}{d:Scope}(k:d.kind=.function)(o:d.names.all (λy=>y.2 !=.cell)=true)(t:d.names.all (λy=>y.2 !=.local||d.names.lookup y.1==some .local)=true)
  (p:d.names.all (λy=>y.2 !=.free||(X.env.cells.lookup y.1).isSome)=true) (A:mG X.N X.env.kindOf d.names js N=true) (v:js.length=N.length):aG X N js d (cO X.env.cells d.names []) where
 kind:=k
 nocell:=λy f=>by
  have:=QUq.mp o y f
  simpa using this
 names:=λy f e=>by
  have:=QUq.mp t y f
  rw[e] at this
  simpa using this
 clos:=wm λy f e=>by
  have:=QUq.mp p y f
  rw[e] at this
  simpa using this
 sub:=λx c h=>by
  rcases lV _ _ _ (PySem.mem_of_lookup h) with h|⟨n,l,e⟩
  ·cases h
  ·cases e
   have:=QUq.mp p _ l
   have w:(X.env.cells.lookup x).isSome=true:=by simpa using this
   let#[c,g]:=Option.isSome_iff_exists.mp w
   rw[g]
   rfl
 has:=λx h=>by
  have m:(x,NameKind.free)∈d.names:=by
   have:∃k,(relabel d X.env).names.lookup x=some k/\(k=.cell\/k=.free):=by
    rcases h with h|h
    ·exact#[_,h,.inl L]
    ·exact#[_,h,.inr L]
   let#[B,u,g]:=this
   let q:=PySem.mem_of_lookup u
   unfold relabel at q
   let#[#[n,r],f,i]:=Qkq.mp q
   dsimp only at i
   split at i
   ·rename_i c
    cases i
    erw[QCq] at c
    have:r=NameKind.free:=by simpa using c.1.1
    rw[<-this]
    exact f
   ·cases i
    rcases g with z|z
    ·have:=QUq.mp o _ f
     rw[z] at this
     simp at this
    ·rw[<-z];exact f
  let#[c,g]:=lO (cells:=X.env.cells) d.names [] (.inl m)
  exact iR g
 cap:=λk j x s l=>by
  let#[a,b,c]:=lS A s l
  refine#[a,b,?_]
  unfold relabel
  exact jo c
 len:=v
structure iH(P:X9)(w:Xc)(K:X1)(mg:X3)(base:Xe)(k:Nat)(x:Str)(ps:X6)(F:fH):Prop where
 ex:∃f fd,bT P w K mg base fj k f fd ps (gQ #[K,mg] ps.length F)/\Binds K fd ps []/\PySem.W.keepIn K (.ref f)=true/\mg x=some (.ref f)
section
variable{X:Cx}{x:Str}{k n:Nat}{ps:X6}{F:fH}{e:Expr}{es:List Expr}{g:dM}{p pos:Pos}
def B5(C:iH X.prog X.w X.K X.mg X.base k x ps F)(i:dv k X.A)(c:Gl X x)(d:PA X (e::es) (qv (md X) g))(j:nA ps.length g)
  (a:autoParam ((x==("__debug__":Str))=false) ac._auto_1) (he:autoParam (starEach (e::es) X.env=(false,eval e X.env)::starEach es X.env) ad._auto_1) (hpl:autoParam ((backTo pos (starEach es X.env)).any (·.1)=false) ad._auto_1):
  PE X (.Call (.Name x p) (e::es) [] pos) (tD (md X) (aF F g)):=by
 let#[f,l,G,b,h,m]:=C.ex
 exact zl G i c m h b d j a he hpl
def Ce(C:iH X.prog X.w X.K X.mg X.base k x ps F)(i:dv k X.A)(c:Gl X x)(d:PA X (e::es) (qv (md X) g))(j:nA ps.length g)
  (a:autoParam ((x==("__debug__":Str))=false) ac._auto_1) (he:autoParam (starEach (e::es) X.env=(false,eval e X.env)::starEach es X.env) ad._auto_1) (hpl:autoParam ((backTo pos (starEach es X.env)).any (·.1)=false) ad._auto_1):
  PE X (.Call (.Name x p) (e::es) [] pos) (tL (md X) (cq F g)):=by
 let#[f,l,G,b,h,m]:=C.ex
 exact Ac G i c m h b d j a he hpl
end
structure Bl(mg:X3):Prop where
 len:mg "len"=none
 tuple:mg "tuple"=none
 list:mg "list"=none
 dict:mg "dict"=none
 set:mg "set"=none
 int:mg "int"=none
 str:mg "str"=none
 bool:mg "bool"=none
 all:mg "all"=none
 any:mg "any"=none
 range:mg "range"=none
 zip:mg "zip"=none
 sorted:mg "sorted"=none
 isi:mg "isinstance"=none
 min:mg "min"=none
 max:mg "max"=none
 abs:mg "abs"=none
 enum:mg "enumerate"=none
 reversed:mg "reversed"=none
end DL
namespace Zq
open PySem
end Zq
namespace Zq
open PySem Dk
end Zq
namespace L2
open PySem PySem.Spec PyProof.Rows Zq
end L2
namespace Zq
open PySem
end Zq
namespace L2
open PySem PySem.Spec PyProof.Rows Zq
end L2
namespace DL
open PySem PySem.Spec PyProof.Rows L2
def rV:D->Option Key
 |.int i=>some (.inl i)
 |.str x=>some (.inr x)
 |_=>none
def sP{M:Md}{ρ:X7}{H:Hp}{d:D}{v:V}{k:Key}(r:Rel M ρ H d v)(e:rV d=some k):v=kV k:=by
 cases r <;>simp[rV] at e <;>subst e <;>rfl
def gP(kvs:List (Key×D))(k:Key):Option D:=(kvs.find? λa=>decide (a.1=k)).map (·.2)
def putD(kvs:List (Key×D))(k:Key)(v:D):List (Key×D):=
 if (kvs.any λa=>decide (a.1=k))=true then kvs.map (λa=>if a.1=k then(a.1,v) else a) else kvs++ [(k,v)]
def c0(kvs a:List (Key×D)):List (Key×D):=a.foldl (λb c=>putD b c.1 c.2) kvs
section
variable{M:Md}{ρ:X7}{H:Hp}
theorem bL.append:∀{l m:List (Key×D)} {a kw:List (Key×V)},bL M ρ H l a->bL M ρ H m kw->bL M ρ H (l++m) (a++kw)
 | [],_,_,_,h,h'=>by cases h;exact h'
 |(_,_)::_,_,_,_,#[v,t,e,h,hs],h'=>by subst e;exact#[v,_,L,h,bL.append hs h']
theorem bL.any:∀{l:List (Key×D)} {a:List (Key×V)} (k:Key),bL M ρ H l a->(l.any λp=>decide (p.1=k))=a.any λp=>decide (p.1=k)
 | [],_,_,h=>by cases h;rfl
 |(_,_)::_,_,k,#[v,t,e,h,hs]=>by subst e;erw[List.any_cons,bL.any k hs]
theorem bL.mapP{d:D}{v:V}{k:Key}(r:Rel M ρ H d v):∀{l:List (Key×D)} {a:List (Key×V)},bL M ρ H l a->bL M ρ H (l.map λp=>if p.1=k then(p.1,d) else p) (a.map λp=>if p.1=k then(p.1,v) else p)
 | [],_,h=>by cases h;rfl
 | (k',_)::_,_,#[u,t,e,h,hs]=>by
   subst e
   erw[QDq]
   by_cases c:k'=k
   · erw[c,if_true];exact#[v,_,L,r,bL.mapP r hs]
   · erw[c,if_false];exact#[u,_,L,h,bL.mapP r hs]
def bL.put{l:List (Key×D)}{a:List (Key×V)}{k:Key}{d:D}{v:V}(h:bL M ρ H l a)(r:Rel M ρ H d v):bL M ρ H (putD l k d) (putK a k v):=by
 unfold putD putK
 rw[h.any k]
 split
 ·exact h.mapP r
 ·exact h.append #[v,[],L,r,L]
theorem bL.merge:∀{m:List (Key×D)} {kw:List (Key×V)} {l:List (Key×D)} {a:List (Key×V)},bL M ρ H m kw->bL M ρ H l a->bL M ρ H (c0 l m) (fE a kw)
 | [],_,_,_,h,h'=>by cases h;exact h'
 | (k,d)::m,_,_,_,#[v,t,e,h,hs],h'=>by
   subst e
   unfold c0 fE
   rw[List.foldl_cons,List.foldl_cons]
   exact bL.merge (m:=m) (kw:=t) hs (h'.put h)
theorem bL.zip:∀{a:List Key} {c:List D} {b:List V},aO M ρ H c b->bL M ρ H (a.zip c) (a.zip b)
 | [],_,_,_=>rfl
 |_::_,_,_,.nil=>rfl
 |k::a,_,_,.cons h hs=>#[_,_,L,h,bL.zip hs]
theorem bL.val:∀{l:List (Key×D)} {a:List (Key×V)} {k:Key} {d:D},bL M ρ H l a->gP l k=some d->∃v,jD a k=some v/\Rel M ρ H d v
 | [],_,_,_,_,e=>by cases e
 | (k',d')::_,_,k,d,#[v,t,e,h,hs],e'=>by
   subst e
   unfold gP at e'
   unfold jD
   rw[List.find?_cons] at e'|-
   by_cases c:k'=k
   · erw[c,decide_true] at e'|-
     cases e'
     exact#[v,L,h]
   · erw[c,decide_false] at e'|-
     exact bL.val hs e'
theorem bL.noval:∀{l:List (Key×D)} {a:List (Key×V)} {k:Key},bL M ρ H l a->gP l k=none->jD a k=none
 | [],_,_,h,_=>by cases h;rfl
 | (k',d')::_,_,k,#[v,t,e,h,hs],e'=>by
   subst e
   unfold gP at e'
   unfold jD
   rw[List.find?_cons] at e'|-
   by_cases c:k'=k
   · erw[c,decide_true] at e';cases e'
   · erw[c,decide_false] at e'|-
     exact bL.noval hs e'
def bL.pre'{a:X7}{l:List (Key×D)}{b:List (Key×V)}(h:bL M ρ H l b)(e:ρ <+: a):bL M a H l b:=h.imp λ_ _ r=>r.pre e
end
section
variable{X:Cx}{a b c e:Expr}{pos:Pos}{st:Stmt}
def uQ(f g:a0):a0:=λi S=>(f i S).bind λ(x,j)=>(g i j).bind λ(y,h)=>match x with
 | .ref k=>match h[k]? with
   |some (.dct l)=>(rV y).bind λm=>(gP l m).bind λd=>some (d,h)
   |_=>none
 |_=>none
def gp{f g:a0}(J:X.A.units+1<cLine)(j:PE X a (tD (md X) f))(K:PE X b (tD (md X) g))(o:yd b):PE X (.Subscript a b pos) (tD (md X) (uQ f g)):=f_ (xG J j K o) λσ H Q u=>by
 let#[M,r,S,d,S',ok,e,q]:=u
 let#[#[x,s],P,e]:=ar e
 let#[#[y,z],C,e]:=ar e
 cases x with
 | ref k=>
   dsimp only at e
   split at e
   · rename_i l o
     let#[ky,N,e]:=ar e
     let#[Y,W,e]:=ar e
     let#[rfl,rfl]:=bt e
     refine#[M,r,S,_,s,ok,P,λm Z H1 t i n=>#[m,r,s,y,z,ok.to t i,C,λU v2 H2 p h B=>?_]]
     cases sP B N
     let n:=n.ext p
     cases n with
     | ref j=>
       let#[kv,w,I]:=h.obj k _ _ j o
       let#[v,F,R]:=I.val W
       exact#[_,v,L,by rw[<-F];exact pT.k w,q _ _ _ (t.trans p) h R]
   · cases e
 |_=>cases e
mutual
theorem Rel.offK{M:Md}{ρ:X7}{H:Hp}{b:X8}{g:List (Key×V)}{o:HO}(f:H b=some (.dK g)):∀{d:D} {v:V},Rel M ρ H d v->Rel M ρ (upd H b o) d v
 |_,_,.non=>.non
 |_,_,.bl x=>.bl x
 |_,_,.int i=>.int i
 |_,_,.str x=>.str x
 |_,_,.tup h hs=>.tup (by rw[aQ (yU h f (by intro z;cases z))];exact h) (aO.offK f hs)
 |_,_,.ref h=>.ref h
 |_,_,.fn h=>.fn h
theorem aO.offK{M:Md}{ρ:X7}{H:Hp}{b:X8}{i:List (Key×V)}{o:HO}(d:H b=some (.dK i)):∀{f:List D} {g:List V},aO M ρ H f g->aO M ρ (upd H b o) f g
 |_,_,.nil=>.nil
 |_,_,.cons h hs=>.cons (Rel.offK d h) (aO.offK d hs)
end
end
end DL
namespace L2
open PySem PySem.Spec PyProof.Rows
end L2
namespace DL
open PySem PySem.Spec PyProof.Rows L2
end DL
namespace Zp
open PySem PySem.W PyProof.Rows
end Zp
namespace L2
open PySem PySem.Spec PyProof.Rows
end L2
namespace DL
open PySem PySem.Spec PyProof.Rows L2
def mI(a b:Str):Prop:=¬(b.cps.toList<a.cps.toList)
instance(a b:Str):Decidable (mI a b):=by unfold mI;infer_instance
def uf(a b:Str):mI a b\/mI b a:=by
 by_cases h:b.cps.toList<a.cps.toList
 ·exact .inr λc=>List.lt_asymm h c
 ·exact .inl h
def nI{a b c:Str}(d:mI a b)(e:mI b c):mI a c:=by
 unfold mI at *
 rw[List.not_lt] at *
 exact List.le_trans d e
def vC{a b:Str}(c:mI a b)(d:mI b a):a=b:=by
 unfold mI at *
 rw[List.not_lt] at *
 have:=List.le_antisymm c d
 cases a
 cases b
 erw[Str.mk.injEq]
 exact Array.toList_inj.mp this
def rZ(x:Str):List Str->List Str
 | []=> [x]
 |y::r=>if mI x y then x::y::r else y::rZ x r
def jd:List Str->List Str
 | []=> []
 |x::r=>rZ x (jd r)
theorem jX(x:Str):∀l:List Str,(rZ x l).Perm (x::l)
 | []=>List.Perm.refl _
 | y::r=>by
   unfold rZ
   split
   · exact List.Perm.refl _
   · exact((jX x r).cons y).trans (List.Perm.swap _ _ _)
theorem gX:∀l:List Str,(jd l).Perm l
 | []=>List.Perm.refl _
 |x::r=>(jX x _).trans ((gX r).cons x)
theorem kA{x:Str}:∀{l:X6},l.Pairwise mI->(rZ x l).Pairwise mI
 | [],_=>by simp[rZ]
 | y::r,h=>by
   rw[List.pairwise_cons] at h
   unfold rZ
   split
   · rename_i c
     refine List.pairwise_cons.mpr #[λz a=>?_,List.pairwise_cons.mpr h]
     rcases Qsq.mp a with rfl|a
     · exact c
     · exact nI c (h.1 z a)
   · rename_i c
     refine List.pairwise_cons.mpr #[λz a=>?_,kA h.2]
     rcases Qsq.mp ((jX x r).mem_iff.mp a) with rfl|a
     · exact(uf _ _).resolve_left c
     · exact h.1 z a
theorem fG:∀l:List Str,(jd l).Pairwise mI
 | []=>List.Pairwise.nil
 |x::r=>kA (fG r)
def oQ:∀{l:X6},sortedS l=true->l.Pairwise mI
 | [],_=>List.Pairwise.nil
 | x::r,h=>by
   have e:∀(r:X6) (x:Str),risingS x r=true->(x::r).Pairwise mI:=by
     intro r
     induction r with
     |nil=>intro x _;simp
     | cons y r d=>
       intro x h
       unfold risingS at h
       erw[QCq] at h
       let b:=d y h.2
       have c:mI x y:=by
         have:=h.1
         unfold mI
         rw[ltCps_eq] at this
         simpa using this
       refine List.pairwise_cons.mpr #[λz a=>?_,b]
       rcases Qsq.mp a with rfl|a
       · exact c
       · exact nI c ((List.pairwise_cons.mp b).1 z a)
   exact e r x h
def uz{c d:X6}(h:sortedS c=true)(p:c.Perm d):c=jd d:=
 List.Perm.eq_of_pairwise (le:=mI) (λa b _ _ e f=>vC e f) (oQ h) (fG d) (p.trans (gX d).symm)
end DL
namespace L2
open PySem PySem.Spec PyProof.Rows
end L2
namespace DL
open PySem PySem.Spec L2
section
variable{X:Cx}{a b e:Expr}{pos:Pos}
def nO:List D->Option (List Str)
 | []=>some []
 |.str x::r=>(nO r).bind λc=>some (x::c)
 |_::_=>none
theorem qR{M:Md}{ρ:X7}{H:Hp}:∀{c:List D} {f:List V} {xs:X6},aO M ρ H c f->nO c=some xs->f=xs.map V.str
 | [],_,_,h,e=>by cases h;cases e;rfl
 | d::c,_,_,h,e=>by
   cases d with
   | str b=>
     erw[nO] at e
     let#[j,g,e]:=ar e
     cases e
     cases h with
     | cons h i=>
       cases h
       rw[qR i g]
       rfl
   |_=>cases e
theorem nq{M:Md}{ρ:X7}{H:Hp}:∀c:List Str,aO M ρ H (c.map D.str) (c.map V.str)
 | []=>.nil
 |s::c=>.cons (.str s) (nq c)
def tR(f:dP):dM:=λd S=>(f d S).bind λ(p,g)=>if p.2.isL=true then(nO p.1).bind λc=>if c.length<64 then some ((jd c).map D.str,g) else none else none
def wb{f:dP}{p:Pos}(u:Gl X "sorted")(z:X.mg "sorted"=none)(A:PE X a (tQ (md X) f))(j:autoParam (starEach [a] X.env= [(false,eval a X.env)]) ad._auto_1):
  PE X (.Call (.Name "sorted" p) [a] [] pos) (tL (md X) (tR f)):=
 f_ (e_ pd u z PyProof.Rows.boot_sorted (d_ A gz j) (he:=j)) λM H Q k=>by
  let#[I,B,S,d,K,ok,e,q]:=k
  let#[#[#[C,t],F],J,e]:=ar e
  dsimp only at e
  split at e
  ·rename_i c
   let#[n,v,e]:=ar e
   split at e
   ·rename_i m
    let#[rfl,rfl]:=bt e
    refine#[I,B,S,C,t,F,ok,J,λw a N P x i h r=>#[a,n,L,?_,m,λl o g s y=>?_]]
    ·rw[<-qR r v];exact h.sqL c
    ·cases uz s y
     exact q _ _ _ _ (x.trans (bz.laid g)) (i.lay g) (x.grow _ g) (cj x i g) bj (nq _)
   ·cases e
  ·cases e
end
def tW{P:X9}{w:Xc}{K:X1}{mg:X3}{base:Xe}{f:X8}{c:FuncData}{ps:X6}{k n:Nat}:bT P w K mg base fj k f c ps (gQ #[K,mg] n λ_ _=>none):=
 {len:=λd H Q E h=>by
   let#[_,_,_,_,_,_,_,_,e,_]:=h
   cases e
  run:=λA a s H b g d Q E _ _ _ _ h=>by
   let#[_,_,_,_,_,_,_,_,e,_]:=h
   cases e}
end DL
namespace Zq
open PySem PyProof.Rows
end Zq
namespace L2
open PySem PyProof.Rows Zq
end L2
namespace DL
open PySem PySem.Spec L2
def r8(w:Xc)(x:Str):PyData.keyHash w.params x=hashStr w x:=by
 unfold PyData.keyHash hashStr
 first|rfl|simp
def qy:Sp:=λd H Q _=>∃(a:X8) (b:List Int) (o:Obj),d= [.ref a]/\H a=some (.frz o (.lst (b.map V.int)))/\b.length<=63/\∀c,Q (.bl true) c
theorem n0{M:Md}{ρ:X7}{H:Hp}:∀ns:List Int,aO M ρ H (ns.map D.int) (ns.map V.int)
 | []=>.nil
 |s::ss=>.cons (.int s) (n0 ss)
def yo{P:X9}{w:Xc}{K:X1}{mg:X3}{base:Xe}{k:Nat}{f:X8}{i:FuncData}{ps:X6}{F:fH}(G:bT P w K mg base fj k f i ps (gQ #[K,mg] 1 F))
  (h:∀ns:List Int,ns.length<=63->∃c,F [.ref 0] [.frz (ns.map D.int)]=some (.d (.bl true),c)):bT P w K mg base fj k f i ps qy:=
 G.imp λu H Q E j=>by
  let#[a,ns,o,e,p,n,q]:=j
  subst e
  let#[c,e]:=h ns n
  refine#[[a],[.frz (ns.map D.int)],[.ref 0],_,c,L,.cons (.ref L) .nil,#[L,by simp,λk b y g l=>?_],e,λm v s x t r=>?_]
  ·cases k with
   |zero=>cases g;cases l;exact#[_,o,p,n0 ns]
   |succ k=>simp at g
  ·cases r
   exact q s
def rj(K:X1):Bool:=K.all λp=>match p.2.data with|.seq _ _=>(match p.2.cls with|.type s=>s !="list" |_=>true)|_=>true
def t9{K:X1}(h:rj K=true){a:X8}{o:Obj}(e:K.lookup a=some o){d:Xa}{n:Nat}(k:o.data=.seq d n):o.cls≠.type "list":=by
 intro i
 have f:∀(K:X2),K.all (λp=>match p.2.data with|.seq _ _=>(match p.2.cls with|.type s=>s !="list" |_=>true)|_=>true)=true->K.lookup a=some o->False:=by
  intro K
  induction K with
  |nil=>intro _ e;cases e
  | cons p K j=>
    intro h e
    rw[List.all_cons,QCq] at h
    let#[b,q]:=p
    rw[List.lookup_cons] at e
    by_cases c:a=b
    · subst c
      erw[BEq.rfl] at e
      cases e
      let g:=h.1
      erw[k,i] at g
      simp at g
    · have l:(a==b)=false:=by simpa using c
      rw[l] at e
      exact j h.2 e
 exact f K h e
def BW{K:X1}{H:Hp}{a:X8}{ns:List Int}(d:rj K=true)(c:ns.length<=63)(e:yK H)(b:fJ K H a (ns.map V.int)):qy [.ref a] H (λv _=>v=.bl true) λ_ _ _=>False:=by
 rcases b with(h|⟨o,h⟩)|⟨o,its,n,h,hc,_,hd,_⟩
 ·rcases e a with z|⟨o,f,z⟩
  ·rw[h] at z;cases z
  ·rw[h] at z;cases z
 ·exact#[a,ns,o,L,h,c,λ_=>rfl]
 ·exact absurd hc (t9 d h hd)
def CW{l:PySem.W.OpenLaw}{q:X9}{b:X6}{A:(Str->Option Value)->Heap->Prop}{e:World->Heap->Prop}{d:DefRec}{K:Params->PySem.W.Frag}{k:Nat}(m:l.most=some 63)(c:d.params.defaults= [])(j:dv k PySem.callerA)
  (o:∀(w:Xc) (h:Xe),e w h->(K w.params).In h) (p:∀w:World,rj (K w.params)=true)
  (F:∀(w:Xc) (mg:X3) (i:X8) (h:Xe),(K w.params).In h->h.Ns mainGlobals mg->mg d.name=some (.ref i)->
   ∃g:FuncData,(∀(s:X4) (u:Xd),BindsTo s g #[[u],[]] [("_law_script",u)])/\∀base:Heap,(K w.params).In base->base.Ns mainGlobals mg->bT l.prog w (K w.params) mg base fj k i g ["_law_script"] qy):
  PySem.W.WalkO q b A e l.row.toRowW d [] (λf y=>PySem.call f y):=
 L2.yG (n:=63) (k:=k) (x:="_law_script") (CX:=λ_=>fj) (sp:=λ_=>qy) m (!1) c j o F (λw H a B t v r=>BW (p w) t v r) λ_ _ _ _ _ z=>z
end DL
namespace DL
open PySem PySem.Spec L2 PyProof.Rows
section
variable{X:Cx}{x:Str}{e:Expr}{f:a0}{pos pos':Pos}
def bI(i:Nat)(d:X.N.Nodup)(he:PE X e (tD (md X) f))(hi:autoParam (X.N[i]?=some x) ad._auto_1)(c:autoParam (Loc X.env.scope x) ah._auto_1)(b:autoParam (swapsWith e (some (.Name x pos')) pos.line X.env=pure false) ad._auto_1)
  (a:autoParam (X.fn x=true\/X.env.scope.names.lookup x=some .local) ab._auto_1):PS X (.Assign [.Name x pos'] e pos) (tS (md X) (bf i f)):=BQ (zL d hi c he b a)
def uu(i:Nat)(c:X.N.Nodup)(hi:autoParam (X.N[i]?=some x) ad._auto_1)(b:autoParam (Loc X.env.scope x) ah._auto_1)(a:autoParam (X.fn x=true\/X.env.scope.names.lookup x=some .local) ab._auto_1):PG X (.Name x pos) (oa i):=pG c hi b a
def cv(i:Nat)(c:X.N.Nodup)(hi:autoParam (X.N[i]?=some x) ad._auto_1)(b:autoParam (Loc X.env.scope x) ah._auto_1)(a:autoParam (X.fn x=true\/X.env.scope.names.lookup x=some .local) ab._auto_1):PG X (.Name x pos) (tG (md X) (cf i)):=vQ (pG c hi b a)
def cY{N:X6}{a:Scope}{b:List (Str×Addr)}{C:X8}{s:X4}{H:Hp}{fp:X7}(i:Nat)(g:autoParam (N.Nodup) ai._auto_1)(hi:autoParam ((a7 X N a b C s H fp).N[i]?=some x) ad._auto_1)(d:autoParam (Loc (a7 X N a b C s H fp).env.scope x) ah._auto_1)
  (c:autoParam ((a7 X N a b C s H fp).fn x=true\/(a7 X N a b C s H fp).env.scope.names.lookup x=some .local) ab._auto_1):PG (a7 X N a b C s H fp) (.Name x pos) (tG (md (a7 X N a b C s H fp)) (cf i)):=vQ (pG g hi d c)
def v_(i:Nat)(c:autoParam (X.N[i]?=some x) ad._auto_1)(d:autoParam (Bg X.env.scope x) af._auto_1)(b:autoParam ((x==("__debug__":Str))=false) ac._auto_1)(a:autoParam ((x==("__classdict__":Str))=false) ac._auto_1):PE X (.Name x pos) (tD (md X) (aw i)):=CV (pv i c d b a)
end
section
variable{X:Cx}{x:Str}{k k':Nat}{ps:X6}{F:fH}{e:Expr}{es:List Expr}{g:dM}{p pos:Pos}
def bh(C:iH X.prog X.w X.K X.mg X.base k x ps F)(f:dv k' X.A)(c:PA X (e::es) (qv (md X) g))(d:autoParam (k<=k') aj._auto_1)(b:autoParam (Gl X x) ad._auto_1)
  (h:autoParam (nA ps.length g) ak._auto_1)
  (a:autoParam ((x==("__debug__":Str))=false) ac._auto_1) (he:autoParam (starEach (e::es) X.env=(false,eval e X.env)::starEach es X.env) ad._auto_1) (hpl:autoParam ((backTo pos (starEach es X.env)).any (·.1)=false) ad._auto_1):
  PE X (.Call (.Name x p) (e::es) [] pos) (tD (md X) (aF F g)):=B5 C (f.mono d) b c h a he hpl
def gw(C:iH X.prog X.w X.K X.mg X.base k x ps F)(f:dv k' X.A)(c:PA X (e::es) (qv (md X) g))(d:autoParam (k<=k') aj._auto_1)(b:autoParam (Gl X x) ad._auto_1)
  (h:autoParam (nA ps.length g) ak._auto_1)
  (a:autoParam ((x==("__debug__":Str))=false) ac._auto_1) (he:autoParam (starEach (e::es) X.env=(false,eval e X.env)::starEach es X.env) ad._auto_1) (hpl:autoParam ((backTo pos (starEach es X.env)).any (·.1)=false) ad._auto_1):
  PE X (.Call (.Name x p) (e::es) [] pos) (tL (md X) (cq F g)):=Ce C (f.mono d) b c h a he hpl
end
def jS{N P:X6}{h:Scope}(a:autoParam (h.kind=.function) ad._auto_1)(b:autoParam (h.isCoroutine=false) ad._auto_1)(c:autoParam (h.isGenerator=false) ad._auto_1)(d:autoParam (N.Nodup) ai._auto_1)(e:autoParam (N.take P.length=P) ad._auto_1)
  (f:autoParam (∀x∈P,h.names.lookup x=some .local\/h.names.lookup x=some .cell) ai._auto_1) (g:autoParam (∀y∈h.names,y.2≠.free) ai._auto_1):aX N P h:=#[a,b,c,d,e,f,g]
structure bS(K:X1)(x:Str)(st:Stmt)(f:X8):Prop where
 ex:∃(oc:Xd) (od:Option Addr) (kV dc pm:Xd) (an:Option Addr) (cd ct:Xd) (sl:Array (Option Value)),PySem.W.nsIn K mainGlobals x=some (some (.ref f))∧
  K.lookup f=some #[oc,od,.func (PySem.W.fnOf x x (eK st) (dq st) (aE st) .none kV dc pm an cd ct),sl]/\PySem.W.codeIn K cd x=true/\PySem.W.keepIn K (.ref f)=true
def bS.of{K:X1}{x:Str}{st:Stmt}{f:X8}{g:Xd}{od:Option Addr}{kV d h:Xd}{e:Option Addr}{b ct:Xd}{sl:Array (Option Value)}(a:PySem.W.nsIn K mainGlobals x=some (some (.ref f)))
  (l:K.lookup f=some #[g,od,.func (PySem.W.fnOf x x (eK st) (dq st) (aE st) .none kV d h e b ct),sl]) (c:PySem.W.codeIn K b x=true) (k:PySem.W.keepIn K (.ref f)=true):bS K x st f:=#[g,od,kV,d,h,e,b,ct,sl,a,l,c,k]
structure Dl(K:X1)(mg:X3)(x:Str)(st:Stmt)(ps:X6)(f:X8):Prop where
 ex:∃fd,gS K x x st f fd/\Binds K fd ps []/\PySem.W.keepIn K (.ref f)=true
 m:mg x=some (.ref f)
noncomputable abbrev zlz(ps:List PySem.Str):(List PySem.Value->Prop)->Prop:=List.rec (motive:=fun _=>(List PySem.Value->Prop)->Prop) (fun P=>P []) (fun _ _ r P=>∀a,r fun u=>P (a::u)) ps
theorem zlf:∀{ps:List PySem.Str}{P:List PySem.Value->Prop},zlz ps P->∀us:List PySem.Value,us.length=ps.length->P us:=by
 intro ps
 induction ps with
 |nil=>intro P h us e;exact List.eq_nil_of_length_eq_zero e▸h
 |cons p ps ih=>
  intro P h us e
  cases us with
  |nil=>cases e
  |cons a us=>exact ih (P:=fun u=>P (a::u)) (h a) us (Nat.succ.inj e)
def bS.ok1{K:X1}{mg:X3}{x:Str}{st:Stmt}{ps:X6}{f:X8}{h:Xe}(D:bS K x st f)(X:K.In h)(G:h.Ns mainGlobals mg)
  (m:autoParam (∀(kV b j:Xd) (i:Option Addr) (c ct:Xd),zlz ps fun a:X5=>bindArgs (PySem.W.fnOf x x (eK st) (dq st) (aE st) .none kV b j i c ct) #[a,[]]=pure (ps.zip a)) al._auto_1):Dl K mg x st ps f:=by
 let#[q,o,kV,n,j,i,p,ct,sl,k,g,e,d]:=D.ex
 exact#[#[_,rM g e d,(rM g e d).binds (λkV b j i c ct=>zlf (m kV b j i c ct)),d],PySem.W.mg_of X G k]
structure Pk(P:X9)(w:Xc)(base:Xe):Prop where
def Dl.cal{P:X9}{w:Xc}{base:Xe}{K:X1}{mg:X3}{x:Str}{st:Stmt}{ps:X6}{f:X8}{k:Nat}{F:fH}(O:Dl K mg x st ps f)(Z:Pk P w base)
  (h:∀a,gS K x x st f a->Binds K a ps []->PySem.W.keepIn K (.ref f)=true->mg x=some (.ref f)->bT P w K mg base fj k f a ps (gQ #[K,mg] ps.length F)):iH P w K mg base k x ps F:=by
 let#[a,d,b,c]:=O.ex
 exact#[f,a,h a d b c O.m,b,c,O.m]
end DL
namespace DL
open PySem PySem.Spec L2
def E{α:Type}(f:bV->aB->Option (α×aB))(c:bV)(S:aB)(Q:α->aB->Prop):Prop:=∃a b,f c S=some (a,b)/\Q a b
def T(f:dy)(a:bV)(S:aB)(Q:Out->Prop):Prop:=∃o,f a S=some o/\Q o
def Fn(F:fH)(b:List D)(S:aB)(Q:Res->aB->Prop):Prop:=∃r a,F b S=some (r,a)/\Q r a
def Tg(g:lB)(d:D)(c:bV)(S:aB)(Q:bV->aB->Prop):Prop:=∃a b,g d c S=some (a,b)/\Q a b
def C6(g:kX)(d:List D)(c:bV)(S:aB)(Q:bV->aB->Prop):Prop:=∃a b,g d c S=some (a,b)/\Q a b
def Op{α:Type}(o:Option α)(Q:α->Prop):Prop:=∃d,o=some d/\Q d
section
variable{Γ:bV}{S:aB}
def E.mono{α:Type}{f:bV->aB->Option (α×aB)}{Q R:α->aB->Prop}(h:E f Γ S Q)(i:∀a S,Q a S->R a S):E f Γ S R:=by
 let#[a,b,e,q]:=h
 exact#[a,b,e,i _ _ q]
def T.mono{f:dy}{Q R:Out->Prop}(h:T f Γ S Q)(i:∀o,Q o->R o):T f Γ S R:=by
 let#[a,e,q]:=h
 exact#[a,e,i _ q]
def di{i:Nat}{d:D}{Q:D->aB->Prop}(h:Γ[i]?=some (some d))(q:Q d S):E (aw i) Γ S Q:=#[d,S,by unfold aw;rw[h],q]
def zh{d:D}{Q:D->aB->Prop}(q:Q d S):E (cF d) Γ S Q:=#[d,S,L,q]
def yQ{Q:List D->aB->Prop}(q:Q [] S):E ax Γ S Q:=#[[],S,L,q]
def si{f:a0}{g:dM}{Q:List D->aB->Prop}(h:E f Γ S λd b=>E g Γ b λc a=>Q (d::c) a):E (au f g) Γ S Q:=by
 let#[d,b,e,c,a,i,q]:=h
 exact#[_,_,by unfold au;rw[e];erw[Qbq];rw[i];rfl,q]
def EA{o:pQ}{f g:a0}{Q:D->aB->Prop}(h:E f Γ S λx b=>E g Γ b λy a=>Op (o a x y) λd=>Q d a):E (bp o f g) Γ S Q:=by
 let#[x,b,e,y,a,i,d,c,q]:=h
 exact#[d,a,by unfold bp;rw[e];erw[Qbq];rw[i];erw[Qbq];rw[c];rfl,q]
def Ek{f:dM}{Q:D->aB->Prop}(h:E f Γ S λa b=>a.length<=sizeLine/\Q (.tup a) b):E (a9 f) Γ S Q:=by
 let#[a,b,c,l,q]:=h
 exact#[_,_,by unfold a9;rw[c];erw[Qbq];rw[Qhq l],q]
def yc{f:dM}{Q:List D->aB->Prop}(h:E f Γ S λa b=>a.length<=sizeLine/\Q a b):E (aV f) Γ S Q:=by
 let#[a,b,c,l,q]:=h
 exact#[_,_,by unfold aV;rw[c];erw[Qbq];rw[Qhq l],q]
def D9{f:dM}{Q:D->aB->Prop}(h:E f Γ S λb a=>Q (.ref a.length) (a++ [.lst b])):E (bo f) Γ S Q:=by
 let#[b,a,c,q]:=h
 exact#[_,_,by unfold bo;rw[c];rfl,q]
def DE{o:zd}{f:dM}{Q:D->aB->Prop}(h:E f Γ S λb a=>Op (o b) λd=>Q d a):E (nF o f) Γ S Q:=by
 let#[b,a,c,d,e,q]:=h
 exact#[d,a,by unfold nF;rw[c];erw[Qbq];rw[e];rfl,q]
def fO{f:a0}{Q:(List D×Tag)->aB->Prop}(h:E f Γ S λd a=>Op (ly a d) λp=>Q p a):E (aS f) Γ S Q:=by
 let#[e,a,b,d,c,q]:=h
 exact#[d,a,by unfold aS;rw[b];erw[Qbq];rw[c];rfl,q]
def eI{f:dM}{Q:(List D×Tag)->aB->Prop}(h:E f Γ S λb a=>Q (b,.fr) a):E (b_ f) Γ S Q:=by
 let#[b,a,c,q]:=h
 exact#[_,a,by unfold b_;rw[c];rfl,q]
def Es{f:dP}{Q:D->aB->Prop}(h:E f Γ S λp a=>Q (.int p.1.length) a):E (ow f) Γ S Q:=by
 let#[p,a,b,q]:=h
 exact#[_,a,by unfold ow;rw[b];rfl,q]
def DH{f:dP}{Q:D->aB->Prop}(h:E f Γ S λp a=>Q (.tup p.1) a):E (tupQ f) Γ S Q:=by
 let#[p,a,b,q]:=h
 exact#[_,a,by unfold tupQ;rw[b];rfl,q]
def Bi{f:dP}{Q:(List D×Tag)->aB->Prop}(h:E f Γ S λp a=>p.2.isL=true/\Q p a):E (dZ f) Γ S Q:=by
 let#[p,a,b,l,q]:=h
 exact#[_,a,by unfold dZ;rw[b];erw[Qbq];rw[Qhq l],q]
def yx{f:dP}{Q:D->aB->Prop}(h:E f Γ S λp a=>(p.2.isL=true/\p.2.stays a p.1)/\Q (.bl (!p.1.isEmpty)) a):E (cI f) Γ S Q:=by
 let#[p,a,b,l,q]:=h
 exact#[_,a,by unfold cI;rw[b];erw[Qbq];rw[Qhq l],q]
def Dq{F:fH}{g:dM}{Q:D->aB->Prop}(h:E g Γ S λb c=>Fn F b c λr a=>match r with|.d x=>Q x a|.l _=>False):E (aF F g) Γ S Q:=by
 let#[b,c,e,r,a,f,q]:=h
 cases r with
 |d x=>exact#[x,a,by unfold aF;rw[e];erw[Qbq];rw[f];rfl,q]
 |l x=>exact q.elim
def C8{F:fH}{g:dM}{Q:List D->aB->Prop}(h:E g Γ S λb c=>Fn F b c λr a=>match r with|.d _=>False|.l x=>Q x a):E (cq F g) Γ S Q:=by
 let#[b,c,e,r,a,f,q]:=h
 cases r with
 |d x=>exact q.elim
 |l x=>exact#[x,a,by unfold cq;rw[e];erw[Qbq];rw[f];rfl,q]
def Du{f:a0}{Q:Bool->aB->Prop}(h:E f Γ S λd a=>match d with|.bl k=>Q k a|_=>False):E (br f) Γ S Q:=by
 let#[d,a,b,q]:=h
 cases d with
 |bl k=>exact#[k,a,by unfold br;rw[b];rfl,q]
 |_=>exact q.elim
def Ec{f:a0}{Q:Bool->aB->Prop}(h:E f Γ S λd a=>Op (wc a d) λk=>Q k a):E (oW f) Γ S Q:=by
 let#[d,a,b,k,c,q]:=h
 exact#[k,a,by unfold oW;rw[b];erw[Qbq];rw[c];rfl,q]
def DG{f:ia}{Q:Bool->aB->Prop}(h:E f Γ S λk a=>Q (!k) a):E (sv f) Γ S Q:=by
 let#[k,a,b,q]:=h
 exact#[_,a,by unfold sv;rw[b];rfl,q]
def z4{f g:ia}{Q:Bool->aB->Prop}(h:E f Γ S λk a=>if k=true then E g Γ a Q else Q false a):E (rG f g) Γ S Q:=by
 let#[k,a,b,q]:=h
 cases k with
 |true=>let#[j,c,d,q]:=(q:E g Γ a Q);exact#[j,c,by unfold rG;rw[b];exact d,q]
 |false=>exact#[false,a,by unfold rG;rw[b];rfl,q]
def El{f g:ia}{Q:Bool->aB->Prop}(h:E f Γ S λk a=>if k=true then Q true a else E g Γ a Q):E (AW f g) Γ S Q:=by
 let#[k,a,b,q]:=h
 cases k with
 |true=>exact#[true,a,by unfold AW;rw[b];rfl,q]
 |false=>let#[j,c,d,q]:=(q:E g Γ a Q);exact#[j,c,by unfold AW;rw[b];exact d,q]
def Er{c:ia}{f g:a0}{Q:D->aB->Prop}(h:E c Γ S λk a=>if k=true then E f Γ a Q else E g Γ a Q):E (su c f g) Γ S Q:=by
 let#[k,a,e,q]:=h
 cases k with
 |true=>let#[j,b,d,q]:=(q:E f Γ a Q);exact#[j,b,by unfold su;rw[e];exact d,q]
 |false=>let#[j,b,d,q]:=(q:E g Γ a Q);exact#[j,b,by unfold su;rw[e];exact d,q]
def Ei{i:Nat}{f:a0}{Q:Out->Prop}(h:E f Γ S λd a=>Q (.nx (Γ.set i (some d)) a)):T (bf i f) Γ S Q:=by
 let#[d,a,b,q]:=h
 exact#[_,by unfold bf;rw[b];rfl,q]
def Eb{f:a0}{Q:Out->Prop}(h:E f Γ S λd a=>Q (.rt d a)):T (eQ f) Γ S Q:=by
 let#[d,a,b,q]:=h
 exact#[_,by unfold eQ;rw[b];rfl,q]
def zP{f:dM}{Q:Out->Prop}(h:E f Γ S λd a=>Q (.rl d a)):T (AX f) Γ S Q:=by
 let#[d,a,b,q]:=h
 exact#[_,by unfold AX;rw[b];rfl,q]
def Ey{f:a0}{Q:Out->Prop}(h:E f Γ S λd a=>Q (.nx Γ a)):T (jl f) Γ S Q:=by
 let#[d,a,b,q]:=h
 exact#[_,by unfold jl;rw[b];rfl,q]
def Ew{Q:Out->Prop}(q:Q (.nx Γ S)):T pY Γ S Q:=#[_,L,q]
def EG{f:a0}{g:lB}{Q:Out->Prop}(h:E f Γ S λd c=>Tg g d Γ c λa b=>Q (.nx a b)):T (xl f g) Γ S Q:=by
 let#[d,c,e,a,b,i,q]:=h
 exact#[_,by unfold xl;rw[e];erw[Qbq];rw[i];rfl,q]
def fY{f g:dy}{Q:Out->Prop}(h:T f Γ S λo=>match o with|.nx a b=>T g a b Q|o=>Q o):T (aJ f g) Γ S Q:=by
 let#[o,c,q]:=h
 cases o with
 |nx a b=>let#[o,d,q]:=(q:T g a b Q);exact#[o,by unfold aJ;rw[c];exact d,q]
 |_=>exact#[_,by unfold aJ;rw[c];rfl,q]
def EF{c:ia}{f g:dy}{Q:Out->Prop}(h:E c Γ S λk a=>if k=true then T f Γ a Q else T g Γ a Q):T (kE c f g) Γ S Q:=by
 let#[k,a,d,q]:=h
 cases k with
 |true=>let#[j,b,q]:=(q:T f Γ a Q);exact#[j,by unfold kE;rw[d];exact b,q]
 |false=>let#[j,b,q]:=(q:T g Γ a Q);exact#[j,by unfold kE;rw[d];exact b,q]
def bc{i:Nat}{d:D}{Q:bV->aB->Prop}(q:Q (Γ.set i (some d)) S):Tg (cf i) d Γ S Q:=#[_,_,L,q]
def ED{f g:a0}{d:D}{Q:bV->aB->Prop}(h:E f Γ S λx c=>E g Γ c λy b=>∃k i a j,x=.ref k/\y=.int i/\b[k]?=some (.lst a)/\ud a.length i=some j/\Q Γ (b.set k (.lst (a.set j d)))):Tg (Bj f g) d Γ S Q:=by
 let#[x,c,e,y,b,l,k,i,a,j,rfl,rfl,h1,h2,q]:=h
 exact#[_,_,by unfold Bj;rw[e];erw[Qbq];rw[l];erw[Qbq,h1,h2],q]
def eV{i:q8}{g:lB}{b:dy}{Q:Out->Prop} (h:E i Γ S λp v=>∃I:Nat->bV->aB->Prop,I 0 Γ v/\(∀n a e,I n a e->p.2 e)∧
   (∀(n:Nat) (d:D) (a:bV) (e:aB),p.1[n]?=some d->I n a e->Tg g d a e λs w=>T b s w λo=>match o with|.nx c f=>I (n+1) c f|.ct c f=>I (n+1) c f|.bk c f=>Q (.nx c f)|o=>Q o)∧
   ∀a e,I p.1.length a e->Q (.nx a e)):T (fW i g b) Γ S Q:=by
 let#[#[r,W],v,F,I,B,z,j,l]:=h
 have A:∀(k n:Nat) (a:bV) (e:aB),n+k=r.length->I n a e->∃o,forL g b W (r.drop n) a e=some o/\Q o:=by
  intro k
  induction k with
  | zero=>
    intro n a e y t
    rw[List.drop_of_length_le (!0)]
    refine#[.nx a e,by erw[forL];rw[Qhq (z _ _ _ t)],l _ _ (by rw[<-y];exact t)]
  | succ k x=>
    intro n a e y t
    have m:n<r.length:=by omega
    rw[QWq m]
    let#[s,w,u,o,C,q]:=j n r[n] a e (gQe m) t
    erw[forL]
    rw[Qhq (z _ _ _ t),u]
    erw[Qbq]
    rw[C]
    erw[Qbq]
    cases o with
    |nx c f=>exact x (n+1) c f (!0) q
    |ct c f=>exact x (n+1) c f (!0) q
    |bk c f=>exact#[_,L,q]
    |rt d f=>exact#[_,L,q]
    |rl d f=>exact#[_,L,q]
 let#[o,u,q]:=A r.length 0 Γ v (!0) B
 exact#[o,by unfold fW;rw[F];exact u,q]
def ml{js:List (Option Nat)}{i:q8}{g:lB}{t:ia}{f:a0}{Q:List D->aB->Prop} (h:E i Γ S λp A=>∃I:Nat->bV->aB->List D->Prop,I 0 (sj js Γ) A []/\(∀n b j a,I n b j a->p.2 j)∧
   (∀(n:Nat) (d:D) (b:bV) (j:aB) (a:List D),p.1[n]?=some d->I n b j a->Tg g d b j λe B=>E t e B λk w=>if k=true then E f e w λy x=>a.length<sizeLine/\I (n+1) e x (a++ [y]) else I (n+1) e w a)∧
   ∀b j a,I p.1.length b j a->Q a j):E (bu js i g t f) Γ S Q:=by
 let#[#[u,W],A,P,I,M,H,m,o]:=h
 have K:∀(k n:Nat) (b:bV) (j:aB) (a:List D),n+k=u.length->I n b j a->∃r l,iT g t f W (u.drop n) b j a=some (r,l)/\Q r l:=by
  intro k
  induction k with
  | zero=>
    intro n b j a F v
    rw[List.drop_of_length_le (!0)]
    refine#[a,j,by erw[iT];rw[Qhq (H _ _ _ _ v)],o _ _ _ (by rw[<-F];exact v)]
  | succ k C=>
    intro n b j a F v
    have s:n<u.length:=by omega
    rw[QWq s]
    let#[e,B,z,c,w,N,q]:=m n u[n] b j a (gQe s) v
    erw[iT]
    rw[Qhq (H _ _ _ _ v),z]
    erw[Qbq]
    rw[N]
    erw[Qbq]
    cases c with
    | true=>
      rw[Qhq L] at q|-
      let#[y,x,R,J,q]:=q
      rw[R]
      erw[Qbq]
      rw[Qhq J]
      exact C (n+1) e x _ (!0) q
    | false=>
      rw[Quq (!1)] at q|-
      exact C (n+1) e w _ (!0) q
 let#[r,l,z,q]:=K u.length 0 _ A [] (!0) M
 exact#[r,l,by unfold bu;rw[P];exact z,q]
def Eg{f:a0}{Q:(List D×(aB->Prop))->aB->Prop}(h:E f Γ S λd a=>∃j,d=.int j/\(-(2^62)<=j/\j<2^62)/\Q (kZ 0 j,λ_=>True) a):E (qo f) Γ S Q:=by
 let#[d,a,b,j,rfl,hj,q]:=h
 exact#[_,a,by unfold qo;rw[b];erw[Qbq];rw[Qhq hj],q]
def ed{f:dP}{Q:(List D×(aB->Prop))->aB->Prop}(h:E f Γ S λp a=>Q (p.1,λc=>p.2.stays c p.1) a):E (fg f) Γ S Q:=by
 let#[p,a,b,q]:=h
 exact#[_,a,by unfold fg;rw[b];rfl,q]
def i4{m:List D->List D->Option (List D×D)}{f:a0}{g:dM}{Q:D->aB->Prop}(h:E f Γ S λx c=>∃k a,x=.ref k/\c[k]?=some (.lst a)/\E g Γ c λys b=>∃d,b[k]?=some (.lst d)/\Op (m d ys) λp=>Q p.2 (b.set k (.lst p.1))):E (ku m f g) Γ S Q:=by
 let#[x,c,e,k,a,rfl,h1,ys,b,e2,d,h2,p,e3,q]:=h
 exact#[_,_,by unfold ku;rw[e];erw[Qbq,e2,h1,h2,e3],q]
end
def dN{n:Nat}{b:dy}{g:List D}{S:aB}{Q:Res->aB->Prop} (h:T b (g.map some++List.replicate (n-g.length) none) S λo=>match o with
   |.nx _ a=>Op (settle S .non a) λp=>Q p.1 p.2|.rt d a=>Op (settle S d a) λp=>Q p.1 p.2|.rl l a=>Op (dJ S l a) λp=>Q p.1 p.2|_=>False):Fn (jg n b) g S Q:=by
 let#[o,f,q]:=h
 cases o with
 |nx i a=>let#[#[r,c],e,q]:=q;exact#[r,c,by unfold jg;rw[f];exact e,q]
 |rt d a=>let#[#[r,c],e,q]:=q;exact#[r,c,by unfold jg;rw[f];exact e,q]
 |rl d a=>let#[#[r,c],e,q]:=q;exact#[r,c,by unfold jg;rw[f];exact e,q]
 |bk=>exact q.elim
 |ct=>exact q.elim
def fN{S a b:aB}{d:D}{Q:Res×aB->Prop}(e:hZ S a)(ht:a.take S.length=b)(f:∀k,d≠.ref k)(c:bx S.length d=true)(q:Q (.d d,b)):Op (settle S d a) Q:=by
 refine#[_,?_,q]
 unfold settle
 rw[Qhq e,ht]
 cases d with
 |ref k=>exact absurd L (f k)
 |_=>erw[c,if_true]
def mi{S b c:aB}{a:List D}{Q:Res×aB->Prop}(e:hZ S b)(ht:b.take S.length=c)(d:a6 S.length a=true)(q:Q (.l a,c)):Op (dJ S a b) Q:=by
 refine#[_,?_,q]
 unfold dJ
 rw[Qhq #[e,d],ht]
def gg{S:aB}:hZ S S:=#[Qmq _,λk o _ h=>.inl h]
def uO{S:aB}{k:Nat}{o:O}(h:mO S.length o=true):hZ S (S.set k o):=by
 refine#[by simp,λj u _ e=>?_]
 rw[List.getElem?_set] at e
 split at e
 ·split at e
  ·cases e;exact .inr h
  ·cases e
 ·exact .inl e
def ke{S a G:aB}(h:hZ S a):hZ S (a++G):=by
 refine#[by rw[lQa];have:=h.1;omega,λk o b e=>?_]
 rw[QHq (by have:=h.1;omega)] at e
 exact h.2 k o b e
end DL
namespace L2
open PySem PySem.Spec PyProof.Rows
end L2
namespace DL
open PySem PySem.Spec L2
mutual
def fU:D->Option PyData
 |.non=>some .none
 |.bl b=>some (.bool b)
 |.int i=>some (.int i)
 |.str x=>if PyData.strOk x=true then some (.str x) else none
 |.tup a=>(fT a).map .tuple
 |.ref _=>none
 |.fn _=>none
def fT:List D->Option (List PyData)
 | []=>some []
 |d::ds=>(fU d).bind λp=>(fT ds).map (p::·)
end
mutual
theorem qI:∀{d:D} {p:PyData},fU d=some p->p.canLay0=true
 |.non,_,e=>by cases e;rfl
 |.bl _,_,e=>by cases e;rfl
 |.int _,_,e=>by cases e;rfl
 | .str x,_,e=>by
   erw[fU] at e
   split at e
   · rename_i c;cases e;exact c
   · cases e
 | .tup ds,_,e=>by
   erw[fU] at e
   let#[b,a,rfl]:=oQm.mp e
   exact jU a
 |.ref _,_,e=>by cases e
 |.fn _,_,e=>by cases e
theorem jU:∀{a:List D} {ps:List PyData},fT a=some ps->PyData.canLayAll0 ps=true
 | [],_,e=>by cases e;rfl
 | d::a,_,e=>by
   erw[fT] at e
   let#[p,b,e]:=ar e
   let#[ps,c,rfl]:=oQm.mp e
   erw[PyData.canLayAll0,QCq]
   exact#[qI b,jU c]
end
mutual
theorem rQ{M:Md}{ρ:X7}{H:Hp}:∀{d:D} {p:PyData} {v:V},Rel M ρ H d v->fU d=some p->kR (λ_=>False) H p v
 |.non,_,_,.non,e=>by cases e;exact .non
 |.bl _,_,_,.bl _,e=>by cases e;exact .bl _
 |.int _,_,_,.int _,e=>by cases e;exact .int _
 | .str _,_,_,.str _,e=>by
   erw[fU] at e
   split at e
   · cases e;exact .str _
   · cases e
 | .tup ds,_,_,.tup h hs,e=>by
   erw[fU] at e
   let#[b,a,rfl]:=oQm.mp e
   exact .tup h (oJ hs a)
 |.ref _,_,_,_,e=>by cases e
 |.fn _,_,_,_,e=>by cases e
theorem oJ{M:Md}{ρ:X7}{H:Hp}:∀{a:List D} {ps:List PyData} {b:List V},aO M ρ H a b->fT a=some ps->kG (λ_=>False) H ps b
 | [],_,_,.nil,e=>by cases e;exact .nil
 | d::a,_,_,.cons h hs,e=>by
   erw[fT] at e
   let#[p,c,e]:=ar e
   let#[ps,f,rfl]:=oQm.mp e
   exact .cons (rQ h c) (oJ hs f)
end
end DL
namespace L2
open PySem PySem.Spec
section
variable{X:Cx}
def zp(s:X4)(p:PyData)(u:Xd):Bool:= @decide (∃d a,d.canLay0=true/\Reads s.heap u d a/\PyData.eqv d p=true) (Classical.propDecidable _)
def pP{s:X4}{p d:PyData}{u:Xd}{as:X7}(l:d.canLay0=true)(r:Reads s.heap u d as):zp s p u=PyData.eqv d p:=by
 unfold zp
 cases h:PyData.eqv d p with
 |true=>exact @Qeq _ (Classical.propDecidable _) #[d,as,l,r,h]
 | false=>
   refine @Qdq _ (Classical.propDecidable _) ?_
   rintro⟨c,a,f,e,b⟩
   rw[SeqAt.Reads.unique d c u as a l r e] at h
   rw[h] at b
   cases b
theorem nh{s:X4}{p:PyData}:∀{b:X5} {ps:List PyData} {as:X7},ReadsAll s.heap b ps as->PyData.canLayAll0 ps=true->b.any (zp s p)=ps.any (PyData.eqv · p)/\∀u∈b,∃d as,d.canLay0=true/\Reads s.heap u d as
 |_,_,_,.nil,_=>#[L,λu a=>by cases a]
 | _,d::ps,_,.cons r rs,l=>by
   have c:d.canLay0=true/\PyData.canLayAll0 ps=true:=by simpa [PyData.canLayAll0] using l
   let#[e,f]:=nh (p:=p) rs c.2
   refine#[by rw[List.any_cons,List.any_cons,e,pP c.1 r],λu a=>?_]
   rcases Qsq.mp a with rfl|a
   · exact#[_,_,c.1,r]
   · exact f u a
def A8{A:X_}{s:X4}{p:PyData}{v:Xd}{bs:X7}(e:A.units+63<cLine)(rp:Reads s.heap v p bs)(b:p.canLay0=true)(c:p.depth<=60){u:Xd}(h:∃d as,d.canLay0=true/\Reads s.heap u d as):SeqAt.EqAt A s u v (zp s p u):=by
 let#[d,as,l,r]:=h
 rw[pP l r]
 intro a w E Q q
 exact SeqAt.eqBoolOverData a w A E s _ _ _ _ _ _ Q r rp l b (!0) q
end
end L2
namespace DL
open PySem PySem.Spec L2
end DL
namespace L2
open PySem PySem.Spec PyProof.Rows
section
variable{X:Cx}
def CF:V->List V->Hp->VK->Prop:=λx b H Q=>∃(l:X8) (a:List V) (i:Int) (y:V),x=.ref l/\b= [.int i,y]/\H l=some (.lst a)/\0<=i/\i<1000000/\i.toNat<=a.length/\a.length<sizeLine/\Q .non (upd H l (.lst (a.take i.toNat++y::a.drop i.toNat)))
def yA{a:X5}{i:Int}{u:Xd}(c:0<=i)(b:i.toNat<=a.length):(a.toArray.extract 0 (if i<0 then(i+(a.toArray.size:Int)).toNat else min i.toNat a.toArray.size)).push u++a.toArray.extract (if i<0 then(i+(a.toArray.size:Int)).toNat else min i.toNat a.toArray.size)=(a.take i.toNat++u::a.drop i.toNat).toArray:=by
 rw[Quq (!0),Qjq,Nat.min_eq_left b]
 apply Array.toList_inj.mp
 simp
 exact List.take_of_length_le (by rw[List.length_drop];exact Qmq _)
def uK:BH X "list.insert" CF:=by
 intro f s p H x w v m Q I k j h
 let#[l,A,i,y,rfl,rfl,hH,h0,h1,hk,hz,q]:=h
 cases k
 let#[o,u,rfl,r1,ru]:=j.two
 let#[t,rfl]:=r1
 let#[z,a,n,r,d,e]:=I.lstM hH
 have g:Builtin.List.listFitsIndex i=true:=fitsIndex_both (Int.le_trans (!1) h0) (Int.lt_trans h1 (!1))
 have b:a.toArray.size<=sizeLine:=by rw[Qjq,<-d];exact nQl hz
 have c:¬(!Builtin.List.listFitsIndex i)=true:=by rw[g];exact Qtq
 refine call_meets F.slot_list_insert #[_,e,L] F.entry_list_insert (F.args_list_insert_3 _ _ _) (AutoSeq1.list_insert_list_int_val_1 l a.toArray n i t u c b) #[e,?_]
 refine#[.non,_,I.lset (its':=a.take i.toNat++u::a.drop i.toNat) hH e (yA h0 (d▸hk)) ((r.take _).append (.cons ru (r.drop _))) ?_,L,q]
 erw[lQa,Qxq,Qnq,List.length_drop]
 omega
end
end L2
namespace DL
open PySem PySem.Spec PyProof.Rows L2
section
variable{X:Cx}{e e2:Expr}
def rf:List D->List D->Option (List D×D):=λa b=>match b with
 | [.int i,y]=>if 0<=i/\i<1000000/\i.toNat<=a.length/\a.length<sizeLine then some (a.take i.toNat++y::a.drop i.toNat,.non) else none
 |_=>none
def z9{M:Md}:t7 M CF rf:=by
 intro p H a o r n d l m Q h f c e q
 unfold rf at e
 split at e
 ·split at e
  ·rename_i i y b
   let#[rfl,rfl]:=bt e
   cases c with
   | cons c g=>
     cases g with
     | cons g k=>
       cases k
       cases c
       let j:=f.length
       rw[j] at b
       exact#[a,l,i,_,L,L,h,b.1,b.2.1,b.2.2.1,b.2.2.2,q _ _ ((f.take _).append (.cons g (f.drop _))) .non]
  ·cases e
 ·cases e
def wM{f g k:a0}{o:Expr}{b a:Pos}(n:PE X o (tD (md X) f))(l:PE X e (tD (md X) g))(m:PE X e2 (tD (md X) k))(c:autoParam (attributeBase o "insert" X.env (eval o X.env)=eval o X.env) ad._auto_1) (h:autoParam (((backTo a (starEach [e,e2] X.env)).all (λx=> !x.1)&&(backToKw a (keywordEach [] X.env)).all (λx=>x.1.isSome)
   &&decide ([e,e2].length+([]:List Keyword).length+(if ([]:List Keyword).isEmpty then 0 else 1)<30))=true) ad._auto_1)
  (d:autoParam ((b.endLine==a.line)=true) ad._auto_1) (j:autoParam (starEach [e,e2] X.env=(false,eval e X.env)::starEach [e2] X.env) ad._auto_1) (i:autoParam (starEach [e2] X.env= [(false,eval e2 X.env)]) ad._auto_1) (p:autoParam ((backTo a (starEach [e2] X.env)).any (·.1)=false) ad._auto_1):PE X (.Call (.Attribute o "insert" b) [e,e2] [] a) (tD (md X) (ku rf f (au g (au k ax)))):=
 f_ (nE PySem.F.plainAttrs_list PySem.F.slot_list_insert PySem.F.type_list_insert uK n (aq l (aq m av i) j) c h d j p) (zw z9)
end
end DL
namespace L2
open PySem PySem.Spec PyProof.Rows
end L2
namespace DL
open PySem PySem.Spec PyProof.Rows L2
end DL
namespace L2
open PySem PySem.Spec PyProof.Rows
end L2
namespace DL
open PySem PySem.Spec L2
end DL
namespace PySem
namespace F
end F
end PySem
namespace L2
open PySem PySem.Spec PyProof.Rows
end L2
namespace DL
open PySem PySem.Spec PyProof.Rows L2
section
variable{X:Cx}{a:Expr}{c1 c2 p1 p2:Pos}
theorem qa{M:Md}{ρ:X7}{H:Hp}:∀{b:List D} {c:List V},aO M ρ H b c->aO M ρ H b.reverse c.reverse
 |_,_,.nil=>.nil
 | _,_,.cons h hs=>by
   rw[List.reverse_cons,List.reverse_cons]
   exact(qa hs).append (.cons h .nil)
def xw(f:dP)(g:a0):dM:=open Classical in λc S=>(f c S).bind λ(p,d)=>(g c d).bind λ(y,b)=>match y with
 |.int z=>if z= -1/\p.2.isL=true/\p.2.stays b p.1 then some (p.1.reverse,b) else none
 |_=>none
def CN{b:Expr}{f:dP}{g:a0}{p2 m:Pos}(he:PE X a (tQ (md X) f))(M:PE X b (tD (md X) g)):PE X (.Subscript a (.Slice none none (some b) p2) m) (tL (md X) (xw f g)):=
 f_ (z_ he M) λY H Q v=>by
  let#[J,r,S,d,W,ok,e,q]:=v
  let#[#[#[F,t],s],N,e]:=ar e
  let#[#[y,x],B,e]:=ar e
  cases y with
  | int z=>
    dsimp only at e
    split at e
    · rename_i c
      let#[rfl,rfl]:=bt e
      refine#[J,r,S,F,t,s,ok,N,λl a Z R u k w K=>#[l,r,s,_,x,ok.to u k,B,λP v2 U o i A=>?_]]
      let#[n,C,I]:=w.to K o i c.2.2
      cases A
      refine#[by rw[c.1],_,n,L,C.sqL c.2.1,λp j=>?_]
      let h:=u.trans o
      exact q _ _ _ _ (h.trans (bz.laid j)) (i.lay j) (h.grow _ j) (cj h i j) bj ((qa I).ext (bz.laid j))
    · cases e
  |_=>cases e
def BZ{c:bV}{S:aB}{f:dP}{g:a0}{Q:List D->aB->Prop}(h:E f c S λp d=>E g c d λy b=>y=.int (-1)/\p.2.isL=true/\p.2.stays b p.1/\Q p.1.reverse b):E (xw f g) c S Q:=by
 let#[p,d,e,y,b,i,rfl,h1,h2,q]:=h
 exact#[_,b,by unfold xw;rw[e];erw[Qbq];rw[i];erw[Qbq];rw[Qhq #[L,h1,h2]],q]
end
end DL
namespace L2
open PySem PySem.Spec PyProof.Rows
def eE(i:Int):Str:=Str.ofString (toString i)
def yS:V->Option Str
 |.str x=>if x.length<=sizeLine then some x else none
 |.int i=>if i.natAbs.log2<1920 then some (eE i) else none
 |_=>none
def DC(t:TE):TE:=λb H Q=>t b H λx a=>∃y,yS x=some y/\Q (.str y) a
section
variable{X:Cx}
def A4{v:Expr}{t:TE}{b:Pos}(h:PE X v t):PE X (.FormattedValue v (-1) none b) (DC t):=by
 intro a s k H Q I q
 refine PyProof.Rows.FormattedValue_plain (cu (h a s k H _ I q) λu m j=>?_)
 let#[x,g,d,r,y,e,f]:=j
 cases x with
 | str z=>
   erw[yS] at e
   split at e
   · rename_i c
     cases e
     let#[t,rfl]:=r
     exact PyProof.Rows.formatField_str (λn l=>#[.str _,g,d.tok _,#[_,L],f]) c
   · cases e
 | int i=>
   erw[yS] at e
   split at e
   · rename_i c
     cases e
     let#[t,rfl]:=r
     exact PyProof.Rows.formatField_int_small c #[.str _,g,d.tok _,#[_,L],f]
   · cases e
 |_=>cases e
def PJ(X:Cx)(d:List Expr)(t:Str->TE):Prop:=∀(b:Str) (a:X2) (s:X4) (c:St) (H:Hp) (Q:VK),Inv X a c H s->b.length<=sizeLine->t b c H Q->
 wpAny (model X.prog X.w) X.A (joinParts b (evalEach d X.env)) (EP X a c Q) X.xe s
def Ad:PJ X [] (λa _ H Q=>Q (.str a) H):=λa b s c H Q I z q=>PyProof.Rows.joinParts_nil #[.str a,H,I.tok _,#[_,L],q] z
def xI{e:Expr}{f:List Expr}{t:TE}{g:Str->TE}(he:PE X e t)(i:PJ X f g):PJ X (e::f) (λa d H Q=>t d H λx h=>∃y,x=.str y/\(a++y).length<=sizeLine/\g (a++y) d h Q):=λa b s d H Q I z q=>by
 refine PyProof.Rows.joinParts_cons (cu (he b s d H _ I q) λu m l=>?_)
 let#[x,h,j,r,y,e,c,k]:=l
 subst e
 let#[t,rfl]:=r
 exact#[c,i _ _ _ _ _ _ j c k]
def BX{e f:Expr}{d:List Expr}{b:Str->TE}{a:Pos}(h:PJ X (e::f::d) b):PE X (.JoinedStr (e::f::d) a) (b Str.empty):=λc s g H Q I q=>
 PyProof.Rows.JoinedStr_many (h _ _ _ _ _ _ I (!1) q)
def fX:gJ X (.type "str") (λxs H Q=>∃x y,xs= [x]/\yS x=some y/\Q (.str y) H):=by
 intro a s d H xs b Q I r h
 let#[x,y,rfl,e,q]:=h
 let#[u,rfl,rx]:=vals1 r
 cases x with
 | str z=>
   erw[yS] at e
   split at e
   · cases e
     let#[t,rfl]:=rx
     exact PySem.P.str_of_str #[.str _,H,I,#[_,L],q]
   · cases e
 | int i=>
   erw[yS] at e
   split at e
   · rename_i c
     cases e
     let#[t,rfl]:=rx
     exact PySem.P.str_of_int c #[.str _,H,I.tok _,#[_,L],q]
   · cases e
 |_=>cases e
end
end L2
namespace DL
open PySem PySem.Spec PyProof.Rows L2
section
variable{X:Cx}{a b c e:Expr}{pos:Pos}
def qW:D->Option Str
 |.str x=>if x.length<=sizeLine then some x else none
 |.int i=>if i.natAbs.log2<1920 then some (eE i) else none
 |_=>none
def xf{M:Md}{ρ:X7}{H:Hp}{d:D}{v:V}(r:Rel M ρ H d v){y:Str}(e:qW d=some y):yS v=some y:=by
 cases r <;>first|exact e|cases e
def gN(f:a0):a0:=λg S=>(f g S).bind λ(d,h)=>(qW d).bind λy=>some (.str y,h)
def hV{f:a0}(h:PE X a (tD (md X) f)):PE X (.FormattedValue a (-1) none pos) (tD (md X) (gN f)):=f_ (A4 h) λu H Q i=>by
 let#[m,k,S,d,t,ok,e,q]:=i
 let#[#[x,l],p,e]:=ar e
 let#[y,j,e]:=ar e
 let#[rfl,rfl]:=bt e
 exact#[m,k,S,x,l,ok,p,λn v s r g o=>#[y,xf o j,q _ _ _ r g (.str _)]]
abbrev xn:=Str->bV->aB->Option (Str×aB)
def tJ(M:Md)(g:xn):Str->TE:=λf l H Q=>∃j i S y k,Ok M j i S l H/\g f i S=some (y,k)/\∀d h,bz j H d h->ez M d k h->Q (.str y) h
def xm:xn:=λd _ S=>some (d,S)
def iG(f:a0)(g:xn):xn:=λh i S=>(f i S).bind λ(d,j)=>match d with
 |.str y=>if (h++y).length<=sizeLine then g (h++y) i j else none
 |_=>none
def wY(g:xn):a0:=λd S=>(g Str.empty d S).bind λ(y,f)=>some (.str y,f)
def D5{i:List Expr}{t u:Str->TE}(h:PJ X i t)(w:∀d g H Q,u d g H Q->t d g H Q):PJ X i u:=λd f s g H Q I z q=>h d f s g H Q I z (w _ _ _ _ q)
def ni:PJ X [] (tJ (md X) xm):=D5 Ad λg k H Q f=>by
 let#[i,h,S,d,j,ok,e,q]:=f
 let#[rfl,rfl]:=bt e
 exact q _ _ bz.refl ok.st
def bX{k:List Expr}{f:a0}{g:xn}(t:PE X e (tD (md X) f))(r:PJ X k (tJ (md X) g)):PJ X (e::k) (tJ (md X) (iG f g)):=D5 (xI t r) λp I H Q o=>by
 let#[u,l,S,d,w,ok,e,q]:=o
 let#[#[x,m],A,e]:=ar e
 cases x with
 | str y=>
   dsimp only at e
   split at e
   · rename_i c
     exact#[u,l,S,.str y,m,ok,A,λi v C n h z=>by cases z;exact#[y,L,c,i,l,m,d,w,ok.to n h,e,λB F s j=>q _ _ (n.trans s) j]]
   · cases e
 |_=>cases e
def uy{j:List Expr}{g:xn}{f:Expr}(h:PJ X (e::f::j) (tJ (md X) g)):PE X (.JoinedStr (e::f::j) pos) (tD (md X) (wY g)):=f_ (BX h) λu H Q k=>by
 let#[n,l,S,d,t,ok,e,q]:=k
 let#[#[y,m],p,e]:=ar e
 let#[rfl,rfl]:=bt e
 exact#[n,l,S,y,m,ok,p,λo s r i=>q _ _ _ r i (.str _)]
def jc:zd
 | [d]=>(qW d).map .str
 |_=>none
def lJ:wD (md X) (λxs H Q=>∃x y,xs= [x]/\yS x=some y/\Q (.str y) H) jc:=λ{ρ S H xs d us Q} st r e q=>by
 match xs,e with
 | [x],e=>
   let#[y,f,rfl]:=oQm.mp e
   cases r with
   |cons h t=>cases t;exact#[_,y,L,xf h f,q _ (.str _)]
def u_:List D->Option (List Str)
 | []=>some []
 |.str x::r=>(u_ r).map (x::·)
 |_::_=>none
theorem qO{M:Md}{ρ:X7}{H:Hp}:∀{d:List D} {f:List V} {ys:X6},aO M ρ H d f->u_ d=some ys->f=ys.map V.str
 |_,_,_,.nil,e=>by cases e;rfl
 | .str x::_,_,_,.cons h hs,e=>by
   let#[ys,g,rfl]:=oQm.mp e
   cases h
   rw[qO hs g]
   rfl
def gI(f:a0)(g:dP):a0:=λi S=>(f i S).bind λ(x,k)=>match x with
 |.str d=>(g i k).bind λ(p,j)=>if p.2.isL=true then(u_ p.1).bind λh=>if (h.map (·.length)).sum+h.length*d.length<=16777216 then some (.str (Txt.join d h),j) else none else none
 |_=>none
def jQ{f:a0}{g:dP}{o:Expr}{i h:Pos}(B:PE X o (tD (md X) f))(P:PE X e (tQ (md X) g))(j:autoParam (attributeBase o "join" X.env (eval o X.env)=eval o X.env) ad._auto_1) (m:autoParam (((backTo h (starEach [e] X.env)).all (λx=> !x.1)&&(backToKw h (keywordEach [] X.env)).all (λx=>x.1.isSome)
   &&decide ([e].length+([]:List Keyword).length+(if ([]:List Keyword).isEmpty then 0 else 1)<30))=true) ad._auto_1)
  (k:autoParam ((i.endLine==h.line)=true) ad._auto_1) (w:autoParam (starEach [e] X.env= [(false,eval e X.env)]) ad._auto_1):PE X (.Call (.Attribute o "join" i) [e] [] h) (tD (md X) (gI f g)):=
 f_ (nE PySem.F.plainAttrs_str PySem.F.slot_str_join PySem.F.type_str_join yJ B (d_ P gz w) j m k w) λσ H Q z=>by
  let#[U,s,S,d,S',ok,e,q]:=z
  let#[#[x,u],Z,e]:=ar e
  cases x with
  | str l=>
    dsimp only at e
    let#[#[#[R,t],I],K,e]:=ar e
    dsimp only at e
    split at e
    · rename_i c
      let#[ys,Y,e]:=ar e
      split at e
      · rename_i A
        let#[rfl,rfl]:=bt e
        refine#[U,s,S,.str l,u,ok,Z,λp v H1 y n W=>?_]
        cases W
        refine#[L,p,s,u,R,t,I,ok.to y n,K,λa1 b us H2 N r M J=>?_]
        let C:=qO J Y
        subst C
        exact#[l,b,ys,L,L,M.sqL c,A,q _ _ _ (y.trans N) r (.str _)]
      · cases e
    · cases e
  |_=>cases e
def xq(f g h:a0):a0:=λd S=>(f d S).bind λ(x,i)=>(g d i).bind λ(y,m)=>(h d m).bind λ(z,j)=>match x with
 | .ref k=>match i[k]?,j[k]? with
   |some (.dct _),some (.dct l)=>(rV y).bind λn=>some ((gP l n).getD z,j)
   |_,_=>none
 |_=>none
def yi{f g h:a0}{o:Expr}{j i:Pos}(hu:X.A.units+1<cLine)(W:PE X o (tD (md X) f))(r:PE X a (tD (md X) g))(hb:PE X b (tD (md X) h))(hm:autoParam (M2 X o "get" j a b i) am._auto_1):
  PE X (.Call (.Attribute o "get" j) [a,b] [] i) (tD (md X) (xq f g h)):=f_ (vc hu W r hb hm) λσ H Q ⟨ρ,C,S,d,S',ok,e,q⟩=>by
 let#[#[x,P],e1,e]:=ar e
 let#[#[y,M],Z,e]:=ar e
 let#[#[z,S3],e3,e]:=ar e
 cases x with
 | ref k=>
   dsimp only at e
   split at e
   · rename_i l0 l I hs
     let#[ky,e4,e]:=ar e
     let#[rfl,rfl]:=bt e
     refine#[ρ,C,S,_,P,ok,e1,λF v1 H1 s m r1=>?_]
     cases r1 with
     | ref r=>
       rename_i a1
       let#[B,h0,_]:=m.obj k _ _ r I
       refine#[a1,L,.inl #[B,.inl h0],F,C,P,y,M,ok.to s m,Z,λK v2 H2 p J Y=>#[K,C,M,z,S3,(ok.to s m).to p J,e3,λU v3 H3 u n r3=>?_]]
       cases sP Y e4
       let w:=cH (p.trans u).pre r
       let#[kv,R,N]:=n.obj k _ _ w hs
       refine#[_,pT.k R,?_]
       cases t:gP l ky with
       |none=>rw[N.noval t];rw[t] at q;exact q _ _ _ ((s.trans p).trans u) n r3
       | some d'=>
         let#[v,h3,h4]:=N.val t
         rw[h3]
         rw[t] at q
         exact q _ _ _ ((s.trans p).trans u) n h4
   · cases e
 |_=>cases e
structure nv(P:X9)(w:Xc)(K:X1)(mg:X3)(x:Str)(tbl:List (Str×Str)):Prop where
 at_:∃a,mg x=some (.ref a)/\∀h:Heap,K.In h->∃vs,h.DictOf (bD P w) a vs/\∀k y,tbl.lookup k=some y->∃t,valueAt vs (Sum.inr k:Key)=some (.str y t)
def BN(d:List (Str×Str))(g:a0):a0:=λf S=>(g f S).bind λ(y,h)=>match y with
 |.str x=>(d.lookup x).bind λz=>some (.str z,h)
 |_=>none
def sI{x:Str}{h:List (Str×Str)}{g:a0}{p:Pos}(hD:nv X.prog X.w X.K X.mg x h)(M:Gl X x)(hb:PE X b (tD (md X) g))(hs:yd b)(W:autoParam ((x==("__debug__":Str))=false) ac._auto_1):
  PE X (.Subscript (.Name x p) b pos) (tD (md X) (BN h g)):=by
 rintro i s σ H Q I ⟨A,Γ,S,d,S',ok,e,q⟩
 let#[a,hm,hK]:=hD.at_
 let#[#[y,u],e1,e]:=ar e
 cases y with
 | str z=>
   let#[nm,R,e]:=ar e
   let#[rfl,rfl]:=bt e
   refine tf PySem.F.slot_dict_getitem.lookup hs (tK I M hm ?_ W)
   refine cu (hb i s σ H (λv j=>∃f,bz A H f j/\ez (md X) f u j/\Rel (md X) f j (.str z) v) I #[A,Γ,S,_,u,ok,e1,λf v j x U r=>#[f,x,U,r]]) λiv s2 qr=>?_
   let#[v,H2,n,J,f,Z,l,N]:=qr
   let#[vs,m,hv]:=hK _ n.kIn
   let#[t,B]:=hv z nm R
   cases N
   have P:s2.TypeIs (.ref a) "dict":=by
     let#[o,es,ep,C,Y,h3,_]:=m
     exact#[o,C,Y.1]
   refine#[P,wpAny_getItem_of (qL (k:=Sum.inr z) J) m.mapOf B ?_]
   exact#[.str nm,H2,n.tok _,#[_,L],q _ _ _ Z l (.str _)]
 |_=>cases e
def C5(X:Cx)(pos:Pos)(d:List (Option Expr))(i:List Expr)(h:X6)(g:dM):Prop:=∃f,Bq X pos d i f/\d.all (·.isSome)=true/\d.length=i.length/\h.length=d.length∧
 (∀l S j n,g l S=some (j,n)->j.length=h.length)/\∀k H Q,qv (md X) g k H (λo m=>Q ((h.map V.str).zip o) m)->oP f k H Q
def jW:C5 X pos [] [] [] ax:=#[[],xR,L,L,L,λf S i h e=>by cases e;rfl,λj H Q ⟨g,f,S,d,h,ok,e,q⟩=>by cases e;exact q g [] H bz.refl ok.st .nil]
def cw{k:Str}{v:Expr}{h:List (Option Expr)}{s:List Expr}{w:X6}{f:a0}{g:dM}{C:Nat}{p:Pos}(hv:PE X v (tD (md X) f))(F:C5 X pos h s w g):C5 X pos (some (.Constant (.str k) C p)::h) (v::s) (k::w) (au f g):=by
 let#[M,B,K,J,h4,P,N]:=F
 refine#[_,uV wO hv B,by simpa using K,by simp[J],by simp[h4],λl S ds W e=>?_,λσ H Q ⟨R,l,S,d,W,ok,e,q⟩=>?_]
 ·let#[#[x,m],y,e]:=ar e
  let#[#[A,t],j,e]:=ar e
  let#[rfl,rfl]:=bt e
  simp[P _ _ _ _ j]
 ·let#[#[x,m],y,e]:=ar e
  let#[#[A,t],j,e]:=ar e
  let#[rfl,rfl]:=bt e
  refine#[R,l,S,x,m,ok,y,λn v H1 z i Y=>N _ _ _ #[n,l,m,A,t,ok.to z i,j,λr Z U u o I=>?_]]
  exact q r (v::Z) U (z.trans u) o (.cons (Y.ext u) I)
def ez.offD{M:Md}{ρ:X7}{H:Hp}{b:X8}{S:aB}{t:List (Key×V)}{o:HO}(st:ez M ρ S H)(g:H b=some (.dK t))(n:b∉ρ):ez M ρ S (upd H b o):=⟨st.len,st.nd,λk a p m w=>by
 let q:=st.obj k a p m w
 have h:a≠b:=λz=>n (z▸mQg m)
 cases p with
 |lst s=>let#[i,f,d]:=q;exact#[i,by rw[aQ h];exact f,d.offK g]
 |frz s=>let#[i,o,f,d]:=q;exact#[i,o,by rw[aQ h];exact f,d.offK g]
 |dct v=>let#[x,f,d]:=q;exact#[x,by rw[aQ h];exact f,d.imp λ_ _ r=>r.offK g]
 |sett s=>let#[u,A,f,d,l]:=q;exact#[u,A,by rw[aQ h];exact f,d.offK g,l]
 |dctN B i=>let#[j,f,d,l,y]:=q;exact#[j,by rw[aQ h];exact f,d.offK g,l.offK g,y]⟩
def zx(i:X6)(g:dM):a0:=λf S=>(g f S).bind λ(h,d)=>some (.ref d.length,d++ [.dct (c0 [] ((i.map Sum.inr).zip h))])
theorem wQ:∀{d:X6} {f:List V},f.length=d.length->(d.map V.str).zip f=((d.map (Sum.inr:Str->Key)).zip f).map λg=>(kV g.1,g.2)
 | [],[],_=>rfl
 | k::d,v::f,h=>by
   erw[QDq,List.zip_cons_cons]
   rw[wQ (Nat.succ.inj h)]
   rfl
 | [],_::_,h=>by cases h
 |_::_,[],h=>by cases h
def iB{i:List (Option Expr)}{F:List Expr}{j:X6}{g:dM}(h:C5 X pos i F j g)(h0:autoParam (i≠[]) ao._auto_1)(s:autoParam (i.length<=15) ac._auto_1):PE X (.Dict i F pos) (tD (md X) (zx j g)):=by
 let#[a1,W,Z,Y,h4,h5,h6]:=h
 refine f_ (xF W Z Y h0 s) λσ H Q qr=>?_
 let#[u,M,S,d,S',ok,e,q]:=qr
 let#[#[y,S1],R,e]:=ar e
 let#[rfl,rfl]:=bt e
 intro t p
 have w:bz u H u (upd H t (.dK [])):=bz.laid p
 have U:t∉u:=cj bz.refl ok.st p
 have A:Ok (md X) u M S σ (upd H t (.dK [])):=#[ok.en.ext w,ok.st.lay p]
 refine h6 _ _ _ #[u,M,S,y,S1,A,R,λk v N n r P=>?_]
 have C:N t=some (.dK []):=n.keep t _ bj (.inl U)
 have J:t∉k:=λm=>(n.new _ m).elim U λz=>by rw[bj] at z;cases z
 have K:v.length=j.length:=by rw[<-P.length];exact h5 _ _ _ _ R
 refine#[C,(j.map Sum.inr).zip v,wQ K,by rw[List.length_zip,lQm,K,h4,Nat.min_self];exact s,?_]
 let B:=r.offD (o:=.dK (fE [] ((j.map (Sum.inr:Str->Key)).zip v))) C J
 have kr:bL (md X) k (upd N t (.dK (fE [] ((j.map (Sum.inr:Str->Key)).zip v)))) (c0 [] ((j.map (Sum.inr:Str->Key)).zip y)) (fE [] ((j.map (Sum.inr:Str->Key)).zip v)):=bL.merge (l:= []) (bL.zip (P.offK C)) L
 let x:=B.box (o:=.dct (c0 [] ((j.map (Sum.inr:Str->Key)).zip y))) J #[_,bj,kr.pre' (List.prefix_append _ _)]
 refine q (k++ [t]) (.ref t) _ #[n.pre.trans (List.prefix_append _ _),λc f=>?_,λc o f I=>?_,λc f=>?_] x (.ref ?_)
 ·rcases mQa.mp f with f|f
  ·rcases n.new c f with h|h
   ·exact .inl h
   ·exact .inr (w.grow c h)
  ·rw[Qfq] at f;subst f;exact .inr p
 ·have ne:c≠t:=by intro z;subst z;rw[p] at f;cases f
  rw[aQ ne]
  exact n.keep c o (w.keep c o f I) I
 ·have ne:c≠t:=by intro z;subst z;rw[bj] at f;cases f
  rw[aQ ne] at f
  exact w.grow c (n.grow c f)
 ·rw[<-r.len,QQq (Qmq _)]
  simp
end
inductive At(w:Xc):List DictEntry->List (Str×Str)->Prop
 |nil:At w [] []
 |cons {x y:Str} {t u:Tok} {es:List DictEntry} {tbl:List (Str×Str)}:At w es tbl->At w (#[PyData.keyHash w.params x,.str x t,.str y u]::es) ((x,y)::tbl)
def At.keys{P:X9}{w:Xc}{b:List DictEntry}{a:List (Str×Str)}(c:At w b a):∀e∈b,∃k,(bD P w).is k e.key=true/\e.hash=(bD P w).hash k:=by
 induction c with
 |nil=>intro e h;cases h
 | @cons x y t u b a c ih=>
   intro e h
   rcases Qsq.mp h with rfl|h
   · exact#[Sum.inr x,jN x t,r8 w x]
   · exact ih e h
def At.pairs{P:X9}{w:Xc}{d:List DictEntry}{a:List (Str×Str)}(e:At w d a):∃b:List (Key×Value),Pairs (bD P w) d b/\b.map (·.1)=a.map (λp=>Sum.inr p.1)∧
  ∀k y,a.lookup k=some y->∃t,valueAt b (Sum.inr k:Key)=some (.str y t):=by
 induction e with
 |nil=>exact#[[],.nil,L,λk nm h=>by cases h]
 | @cons x y t u d a e ih=>
   let#[b,i,l,j]:=ih
   refine#[(Sum.inr x,.str y u)::b,.cons (jN x t) L i,by simp[l],λk n h=>?_]
   by_cases c:k=x
   · subst c
     rw[List.lookup_cons_self] at h
     cases h
     refine#[u,?_]
     unfold valueAt
     rw[List.find?_cons_of_pos (by simp)]
     rfl
   · have m:(k==x)=false:=by simpa using c
     rw[List.lookup_cons,m] at h
     let#[g,f]:=j k n h
     refine#[g,?_]
     unfold valueAt at f|-
     rw[List.find?_cons_of_neg]
     · exact f
     · intro z
       have:(Sum.inr x:Key)=Sum.inr k:=by simpa using z
       exact c (Sum.inr.inj this).symm
def qd{P:X9}{w:Xc}{K:X1}{mg:X3}{x:Str}{c:List (Str×Str)}{a:X8}{d:List DictEntry}{r:Nat}(m:mg x=some (.ref a))(l:K.lookup a=some #[.type "dict",none,.dict d.toArray r,(List.toArray [])])(f:At w d c)(nd:(c.map (·.1)).Nodup):nv P w K mg x c:=by
 let#[q,i,k,j]:=f.pairs (P:=P)
 refine#[a,m,λh o=>#[q,#[_,_,_,o _ _ l,#[L,L,L],L,λe g=>f.keys e (by simpa using g),by simpa using i,?_],j]]
 rw[k]
 have:c.map (λp=>(Sum.inr p.1:Key))=(c.map (·.1)).map Sum.inr:=by rw[QPq];rfl
 rw[this]
 exact List.Pairwise.map _ (λa b n e=>n (Sum.inr.inj e)) nd
end DL
namespace L2
open PySem PySem.Spec PyProof.Rows
section
variable{X:Cx}
def Ah:List V->Hp->VK->Prop:=λb H Q=>∃(v:V) (d:PyData) (N:Addr->Prop),b= [v]/\kR N H d v/\(∀a,N a->a≠sysModules)/\d.showable=true/\d.depth<=100/\d.shown.length<=sizeLine/\Q (.str d.shown) H
def rK(o:X.A.guards=some [])(F:X.A.units+150<cLine):gJ X (.builtin "repr") Ah:=by
 intro f s k H K B Q I r h
 let#[v,d,N,rfl,hd,hN,hs,hp,hz,q]:=h
 let#[u,rfl,rx]:=vals1 r
 have c:∀(t:Tok) (j:X4),Inv X f k H j->EP X f k Q (.str d.shown t) j:=λt j y=>#[.str d.shown,H,y,#[t,L],q]
 let#[C,p,m]:=mw I hN hd rx
 have g:∀a,u=.ref a->wpAny (model X.prog X.w) X.A (call (.builtin "repr") [u]) (EP X f k Q) X.xe s:=λa e=>by
  subst e
  refine repr_of_reads' p hs (λ_=>m) o (!0) (λ_ _ e=>e) (λM u J z=>c u _ (I.kept z)) hz
 cases hd with
 |non=>cases rx;exact PySem.P.repr_of_none (c _ _ (I.tok _))
 |bl b=>cases rx;exact PySem.P.repr_of_bool (c _ _ (I.tok _))
 |int i=>let#[t,rfl]:=rx;exact PySem.P.repr_of_int (by simpa [PyData.showable] using hs) (c _ _ (I.tok _))
 |str x=>let#[t,rfl]:=rx;exact PySem.P.repr_of_str (c _ _ (I.tok _)) hz
 |tup h l=>exact g _ rx
 |lst h n l=>exact g _ rx
 |dct h=>exact g _ rx
end
section
variable{X:Cx}
def km(p:PyData):List PyData->Option Nat
 | []=>none
 |q::r=>if PyData.eqv q p=true then some 0 else(km p r).map (·+1)
theorem qk{s:X4}{p:PyData}:∀{a:X5} {ps:List PyData} {as:X7} {j:Nat},ReadsAll s.heap a ps as->PyData.canLayAll0 ps=true->km p ps=some j->(∃u,a[j]?=some u/\zp s p u=true)/\∀m u,m<j->a[m]?=some u->zp s p u=false
 |_,_,_,j,.nil,_,h=>by cases h
 | _,d::ps,_,j,.cons r rs,l,h=>by
   have b:d.canLay0=true/\PyData.canLayAll0 ps=true:=by simpa [PyData.canLayAll0] using l
   unfold km at h
   split at h
   · rename_i c
     cases h
     exact#[#[_,L,by rw[pP b.1 r];exact c],λm y e=>absurd e (Nat.not_lt_zero _)]
   · rename_i c
     let#[i,o,rfl]:=oQm.mp h
     let#[#[z,g,n],k]:=qk rs b.2 o
     refine#[#[z,by simpa using g,n],λm w e f=>?_]
     cases m with
     |zero=>cases f;rw[pP b.1 r];simpa using c
     |succ m=>exact k m w (!0) (by simpa using f)
def uc(hu:X.A.units+64<cLine):C1 X "list.index" (λx J H Q=>∃a xs y j p ps,x=.ref a/\J= [y]/\fJ X.K H a xs/\kR (λ_=>False) H p y/\kG (λ_=>False) H ps xs/\p.canLay0=true/\PyData.canLayAll0 ps=true/\p.depth<=60/\km p ps=some j/\Q (.int (j:Nat)) H):=by
 intro M s σ H x J v us Q I rx P h
 let#[a,xs,y,j,p,ps,rfl,rfl,hq,dp,dps,lp,lps,hd,hj,q]:=h
 cases rx
 let#[u,rfl,ru]:=P.one
 let#[b,r,N,hz]:=I.list hq
 let#[#[R,dd,a2,sl],n,e,t,d,c]:=N
 simp only at t d c
 subst t d c
 let#[bs,Z,_]:=mw I (λa z=>z.elim) dp ru
 let#[as,C,_]:=ij I (λa z=>z.elim) dps r
 let#[h1,W]:=nh (p:=p) C lps
 let#[#[w,f,l],U]:=qk C lps hj
 let hl:=r.length
 have a1:j<b.length:=(gQs.mp f).1
 have i:b.toArray[j]'(by rw[Qjq];omega)=w:=by
  have:=(gQs.mp f).2
  simpa using this
 let B:=ja
 have o:X.A.in1.units+63<cLine:=by show X.A.units+1+63<cLine;omega
 refine call_meets PySem.F.slot_list_index #[_,e,L] PySem.F.entry_list_index (PySem.F.args_list_index_2 _ _)
  (SeqAt.list_indexAt a b.toArray n none sl u (zp s p) j (by rw[Qjq];omega) (!0) (by rw[i];exact l) λm Y k=>?_)
  #[e,λw f=>A8 o Z lp hd (W w (by simpa using f)),#[.int j,H,I.tok _,#[_,L],q]]
 have g:m<b.length:=by rw[Qjq] at Y;omega
 have S:b.toArray[m]=b[m]:=by simp
 rw[S]
 exact U m _ k (gQe g)
end
end L2
namespace DL
open PySem PySem.Spec PyProof.Rows L2
section
variable{X:Cx}{a b c e:Expr}{pos:Pos}
open Classical in
def vn(f:dP)(g:a0):a0:=λh S=>(f h S).bind λ(p,k)=>if p.2.isL=true then(g h k).bind λ(y,d)=>if p.2.stays d p.1 then(fU y).bind λi=>(fT p.1).bind λl=>if i.depth<=60 then(km i l).bind λj=>some (.int (j:Nat),d) else none else none else none
def vJ{f:dP}{g:a0}{o:Expr}{n:Nat}{i h:Pos}(Y:dv n X.A)(Z:PE X o (tQ (md X) f))(ha:PE X e (tD (md X) g))(k:autoParam (attributeBase o "index" X.env (eval o X.env)=eval o X.env) ad._auto_1) (m:autoParam (((backTo h (starEach [e] X.env)).all (λx=> !x.1)&&(backToKw h (keywordEach [] X.env)).all (λx=>x.1.isSome)
   &&decide ([e].length+([]:List Keyword).length+(if ([]:List Keyword).isEmpty then 0 else 1)<30))=true) ad._auto_1)
  (l:autoParam ((i.endLine==h.line)=true) ad._auto_1) (M:autoParam (starEach [e] X.env= [(false,eval e X.env)]) ad._auto_1):PE X (.Call (.Attribute o "index" i) [e] [] h) (tD (md X) (vn f g)):=
 f_ (nE PySem.F.plainAttrs_list PySem.F.slot_list_index PySem.F.type_list_index (uc Y.units) Z (aq ha av M) k m l M) λσ H Q R=>by
  let#[ρ,I,S,d,S',ok,e,q]:=R
  let#[#[#[ds,t],J],e1,e]:=ar e
  dsimp only at e
  split at e
  ·rename_i B
   let#[#[y,S2],e2,e]:=ar e
   dsimp only at e
   split at e
   ·rename_i cS
    let#[p,K,e]:=ar e
    let#[ps,P,e]:=ar e
    split at e
    ·rename_i cd
     let#[j,U,e]:=ar e
     let#[rfl,rfl]:=bt e
     refine#[ρ,I,S,ds,t,J,ok,e1,λw a W H1 N s z r1=>#[.inl #[L,W,z.sqL B],w,I,J,[y],S2,ok.to N s,by erw[au,ax,e2,Qbq],λa1 ws H2 C r u=>?_]]
     let#[v,h3,r3]:=z.to r1 C r cS
     cases u with
     | cons u rr=>
       cases rr
       exact#[a,v,_,j,p,ps,L,L,h3.sqL B,rQ u K,oJ r3 P,qI K,jU P,cd,U,q _ _ _ (N.trans C) r (.int _)]
    ·cases e
   ·cases e
  ·cases e
def wK{k:bV}{S:aB}{f:dP}{g:a0}{Q:D->aB->Prop}(h:E f k S λp m=>p.2.isL=true/\E g k m λy d=>p.2.stays d p.1/\∃i ps j,fU y=some i/\fT p.1=some ps/\i.depth<=60/\km i ps=some j/\Q (.int (j:Nat)) d):E (vn f g) k S Q:=by
 let#[p,m,u,l,y,d,o,r,i,ps,j,n,t,s,v,q]:=h
 exact#[_,d,by unfold vn;rw[u];erw[Qbq];rw[Qhq l,o];erw[Qbq];rw[Qhq r,n,t];erw[Qbq];rw[Qhq s,v];rfl,q]
def mD{i:bV}{S:aB}{f:a0}{Q:D->aB->Prop}(h:E f i S λd g=>Op (qW d) λy=>Q (.str y) g):E (gN f) i S Q:=by
 let#[d,g,j,y,k,q]:=h
 exact#[_,g,by unfold gN;rw[j];erw[Qbq];rw[k];rfl,q]
def Ej(g:xn)(d:Str)(h:bV)(S:aB)(Q:Str->aB->Prop):Prop:=∃y f,g d h S=some (y,f)/\Q y f
def oi{f:bV}{S:aB}{d:Str}{Q:Str->aB->Prop}(q:Q d S):Ej xm d f S Q:=#[_,_,L,q]
def cU{j:bV}{S:aB}{i:Str}{f:a0}{g:xn}{Q:Str->aB->Prop}(h:E f j S λd k=>∃y,d=.str y/\(i++y).length<=sizeLine/\Ej g (i++y) j k Q):Ej (iG f g) i j S Q:=by
 let#[d,k,m,y,rfl,l,z,S2,e2,q]:=h
 exact#[z,S2,by unfold iG;rw[m];erw[Qbq];rw[Qhq l];exact e2,q]
def xt{f:bV}{S:aB}{g:xn}{Q:D->aB->Prop}(h:Ej g Str.empty f S λy d=>Q (.str y) d):E (wY g) f S Q:=by
 let#[y,d,i,q]:=h
 exact#[_,d,by unfold wY;rw[i];rfl,q]
theorem qP:∀ys:List Str,u_ (ys.map D.str)=some ys
 | []=>rfl
 |y::ys=>by erw[QDq,u_];rw[qP ys];rfl
def kd{i:bV}{S:aB}{f:a0}{g:dP}{Q:D->aB->Prop}(h:E f i S λx j=>∃sep,x=.str sep/\E g i j λp d=>p.2.isL=true/\∃ys:List Str,p.1=ys.map D.str/\(ys.map (·.length)).sum+ys.length*sep.length<=16777216/\Q (.str (Txt.join sep ys)) d):E (gI f g) i S Q:=by
 let#[x,j,k,sep,rfl,p,d,e2,l,ys,h1,h2,q]:=h
 exact#[_,d,by unfold gI;rw[k];erw[Qbq];rw[e2];erw[Qbq];rw[Qhq l,h1,qP];erw[Qbq];rw[Qhq h2],q]
def Cu{d:bV}{S:aB}{f g h:a0}{Q:D->aB->Prop}(w:E f d S λx j=>∃k o,x=.ref k/\j[k]?=some (.dct o)/\E g d j λy n=>E h d n λz i=>∃l m,i[k]?=some (.dct l)/\rV y=some m/\Q ((gP l m).getD z) i):E (xq f g h) d S Q:=by
 let#[x,j,p,k,o,rfl,h0,y,n,e2,z,i,e3,l,m,h1,h2,q]:=w
 exact#[_,i,by unfold xq;rw[p];erw[Qbq];rw[e2];erw[Qbq];rw[e3];erw[Qbq,h0,h1,h2],q]
def CO{i:bV}{S:aB}{d:List (Str×Str)}{g:a0}{Q:D->aB->Prop}(h:E g i S λy f=>∃x z,y=.str x/\d.lookup x=some z/\Q (.str z) f):E (BN d g) i S Q:=by
 let#[y,f,j,x,z,rfl,h1,q]:=h
 exact#[_,f,by unfold BN;rw[j];erw[Qbq];rw[h1];rfl,q]
def yk{f:bV}{S:aB}{j:X6}{g:dM}{Q:D->aB->Prop}(h:E g f S λi d=>Q (.ref d.length) (d++ [.dct (c0 [] ((j.map Sum.inr).zip i))])):E (zx j g) f S Q:=by
 let#[i,d,k,q]:=h
 exact#[_,_,by unfold zx;rw[k];rfl,q]
def Bd(f:a0):a0:=λg S=>(f g S).bind λ(d,h)=>(fU d).bind λp=>if p.showable=true/\p.depth<=100/\p.shown.length<=sizeLine then some (.str p.shown,h) else none
def uZ{f:a0}{n:Nat}{p:Pos}(h:dv n X.A)(k:Gl X "repr")(m:X.mg "repr"=none)(o:PE X a (tD (md X) f))(i:autoParam (starEach [a] X.env= [(false,eval a X.env)]) ad._auto_1):PE X (.Call (.Name "repr" p) [a] [] pos) (tD (md X) (Bd f)):=
 f_ (e_ (rK h.gd (by have:=h.un;omega)) k m boot_repr (d_ o gz i) (he:=i)) λJ H Q j=>by
  let#[t,r,S,d,I,ok,e,q]:=j
  let#[#[x,s],B,e]:=ar e
  let#[y,l,e]:=ar e
  split at e
  ·rename_i c
   let#[rfl,rfl]:=bt e
   exact#[t,r,S,x,s,ok,B,λu v F C g w=>#[v,y,λ_=>False,L,rQ w l,λ_ z=>z.elim,c.1,c.2.1,c.2.2,q _ _ _ C g (.str _)]]
  ·cases e
def DD{i:bV}{S:aB}{f:a0}{Q:D->aB->Prop}(h:E f i S λd g=>∃p,fU d=some p/\p.showable=true/\p.depth<=100/\p.shown.length<=sizeLine/\Q (.str p.shown) g):E (Bd f) i S Q:=by
 let#[d,g,j,p,k,n,l,m,q]:=h
 exact#[_,g,by unfold Bd;rw[j];erw[Qbq];rw[k];erw[Qbq];rw[Qhq #[n,l,m]],q]
end
end DL
namespace W28
open PySem PySem.Spec L2 DL
abbrev cB(k:Int):=cF (.int k)
abbrev aW(k:Nat):=au (aw k)
abbrev eA(k:Int):=au (cF (.int k))
def dU:List (Str×Str):= [("plus","+"),("minus","-"),("less","<"),("same","="),("both","&"),("not","!"),("waits","?")]
def eZ:List (Str×Str):= [("at once","at-once"),("when free","when-free")]
def nN:dy:=
 (aJ (bf 1 (bp cQ (ow (aS (aw 0))) (cB 7)))
 (aJ (fW (fg (b_ (AG (aS (aw 0)) xk (uY (cB 63))))) (cf 2) (bf 1 (bp la (bp cQ (bp cQ (bp lQ (aw 1) (cB 1000003)) (bp la (aw 2) (bp vi (cB 10) (cB 30)))) (cB 13)) (cB 2305843009213693951))))
 (AX (aV (au (bo (bu [none] (fg (b_ (AG (aS (aw 0)) xk (uY (cB 63))))) (cf 0) (br (bp Ef (aw 0) (bp vi (cB 10) (cB 18)))) (aw 0))) (aW 1 (eA 0 ax)))))))
def iq:fH:=z7 3 nN
def mv:dy:=
 (aJ (uP (rG (br (cI (aS (bp eJ (aw 0) (cB 0))))) (br (bp (lh false) (bp eJ (bp eJ (aw 0) (cB 0)) (cB 0)) (cB 0)))) (jl (ku gV (bp eJ (aw 0) (cB 0)) (eA 0 ax))) 64)
 (aJ (kE (br (cI (aS (bp eJ (aw 0) (cB 0))))) (aJ (bf 2 (bp la (bp eJ (bp eJ (aw 0) (cB 0)) (cB 0)) (aw 1)))
 (aJ (xl (bp lR (bp eJ (bp eJ (aw 0) (cB 0)) (cB 0)) (aw 1)) (Bj (bp eJ (aw 0) (cB 0)) (cB 0)))
 (eQ (aw 2)))) pY)
 (aJ (xl (bp cQ (bp eJ (aw 0) (cB 2)) (cB 1)) (Bj (aw 0) (cB 2)))
 (aJ (bf 3 (bp la (bp lQ (bp cQ (bp cQ (bp eJ (aw 0) (cB 1)) (bp lQ (bp lQ (cB 65537) (bp eJ (aw 0) (cB 2))) (bp eJ (aw 0) (cB 2)))) (cB 11)) (cB 48271)) (cB 2305843009213693921)))
 (aJ (bf 3 (bp la (bp lQ (aw 3) (bp cQ (bp la (aw 3) (cB 1000003)) (bp lQ (cB 99991) (bp eJ (aw 0) (cB 2))))) (cB 2305843009213693907)))
 (eQ (bp la (bp cQ (bp lR (aw 3) (cB 97)) (bp lR (aw 3) (cB 1000033))) (aw 1))))))))
def aK:fH:=jg 4 mv
def qV:dy:=
 (eQ (bp eJ (aw 1) (aF aK (aW 0 (au (ow (aS (aw 1))) ax)))))
def aZ:fH:=jg 2 qV
def kF:dy:=
 (aJ (bf 2 (cF (.str "abcdefghijklmnopqrstuvwxyz")))
 (aJ (rY 3 4 (au (aF aK (aW 0 (eA 26 ax))) (au (aF aZ (aW 0 (au (bo (aV (eA 1 (eA 3 (eA 5 (eA 7 (eA 9 (eA 11 ax)))))))) ax))) ax)))
 (aJ (bf 5 (bo (aV (au (cF (.str "")) (au (cF (.str "zq")) (au (cF (.str "x")) (au (cF (.str "qqzzx")) (au (cF (.str "zqzqzqz")) ax))))))))
 (aJ (bf 6 (bo (aV ax)))
 (aJ (fW (qo (aw 1)) (cf 7) (aJ (bf 8 (bp eJ (aw 2) (bp la (bp cQ (aw 3) (bp lQ (aw 4) (aw 7))) (cB 26))))
 (jl (ku gR (aw 6) (au (bp cQ (aw 8) (bp eJ (aw 5) (bp la (bp cQ (aw 3) (bp lQ (aw 7) (aw 7))) (cB 5)))) ax)))))
 (eQ (aw 6)))))))
def fB:fH:=jg 9 kF
def mB:dy:=
 (aJ (bf 3 (bo (tq (aS (aw 1)))))
 (AX (tR (b_ (bu [none,some 0,some 3] (qo (nF minD (aW 2 (au (ow (aS (aw 3))) ax)))) (cf 0) bP (ku gV (aw 2) (au (aF aK (aW 1 (au (ow (aS (aw 2))) ax))) ax)))))))
def bA:fH:=jg 4 mB
def jL:dy:=
 (eQ (tupQ (b_ (bu [none,some 0] (fg (aS (aw 1))) (cf 0) bP (a9 (aW 0 (au (aF aK (aW 1 (eA 10 ax))) ax)))))))
def cn:fH:=jg 2 jL
def lN:dy:=
 (aJ (bf 3 (aF aK (aW 0 (eA 6 ax))))
 (aJ (kE (rG (br (bp C0 (aw 3) (cB 2))) (br (cI (aS (aw 1))))) (eQ (aF aZ (aW 0 (aW 1 ax)))) pY)
 (aJ (kE (rG (br (bp (lh false) (aw 3) (cB 2))) (br (cI (aS (aw 2))))) (eQ (a9 (au (cF (.str "waits")) (au (aF aZ (aW 0 (aW 2 ax))) ax)))) pY)
 (eQ (aF aK (aW 0 (au (bp eJ (bo (aV (eA 3 (eA 10 ax)))) (aF aK (aW 0 (eA 2 ax)))) ax)))))))
def eW:fH:=jg 4 lN
def nY(self:fH):dy:=
 (aJ (bf 4 (aF aK (aW 0 (eA 8 ax))))
 (aJ (kE (AW (br (bp C0 (aw 3) (cB 2))) (br (bp C0 (aw 4) (cB 2)))) (eQ (aF eW (aW 0 (aW 1 (aW 2 ax))))) pY)
 (aJ (kE (br (bp (lh false) (aw 4) (cB 2))) (eQ (a9 (au (cF (.str "not")) (au (aF self (aW 0 (aW 1 (aW 2 (au (bp xK (aw 3) (cB 1)) ax))))) ax)))) pY)
 (aJ (bf 5 (aF aZ (aW 0 (au (bo (aV (au (cF (.str "plus")) (au (cF (.str "minus")) (au (cF (.str "less")) (au (cF (.str "same")) (au (cF (.str "both")) ax))))))) ax))))
 (eQ (a9 (aW 5 (au (aF self (aW 0 (aW 1 (aW 2 (au (bp xK (aw 3) (cB 1)) ax))))) (au (aF self (aW 0 (aW 1 (aW 2 (au (bp xK (aw 3) (cB 1)) ax))))) ax)))))))))
def eN:Nat->fH
 |0=>λ_ _=>none
 |n+1=>jg 6 (nY (eN n))
def nK:dy:=
 (aJ (bf 3 (aF aZ (aW 0 (au (bo (dw (b_ (aV (au (cF (.str "unless")) (au (cF (.str "go")) ax)))) (aS (uQ (aw 1) (cF (.str "kinds")))))) ax))))
 (aJ (rY 4 5 (au (uQ (aw 1) (cF (.str "goals"))) (au (uQ (aw 1) (cF (.str "bells"))) ax)))
 (aJ (bf 6 (aF (eN 5) (aW 0 (au (uQ (aw 1) (cF (.str "words"))) (aW 5 (au (bp cQ (cB 1) (aF aK (aW 0 (eA 5 ax)))) ax))))))
 (aJ (kE (br (bp (lh false) (aw 3) (cF (.str "unless")))) (eQ (a9 (aW 3 (aW 6 (au (aF aK (aW 0 (au (bp cQ (aw 2) (cB 1)) ax))) ax))))) pY)
 (aJ (kE (br (bp (lh false) (aw 3) (cF (.str "go")))) (eQ (a9 (aW 3 (au (aF aK (aW 0 (au (bp cQ (aw 2) (cB 1)) ax))) ax)))) pY)
 (aJ (kE (br (uS false (aw 3) (aS (a9 (au (cF (.str "tell")) (au (cF (.str "say")) ax)))))) (eQ (a9 (aW 3 (aW 6 ax)))) pY)
 (aJ (kE (br (bp (lh false) (aw 3) (cF (.str "put")))) (eQ (a9 (aW 3 (au (aF aZ (aW 0 (aW 4 ax))) (aW 6 ax))))) pY)
 (aJ (kE (br (bp (lh false) (aw 3) (cF (.str "do")))) (eQ (bp cQ (bp cQ (a9 (aW 3 (au (aF aZ (aW 0 (au (bo (dw (aS (aw 4)) (b_ (aV (au (cF .non) ax))))) ax))) ax))) (aF aZ (aW 0 (au (uQ (aw 1) (cF (.str "does"))) ax)))) (a9 (aW 6 ax)))) pY)
 (aJ (kE (br (bp (lh false) (aw 3) (cF (.str "wait")))) (eQ (a9 (aW 3 (au (aF aZ (aW 0 (aW 5 ax))) (aW 6 ax))))) pY)
 (aJ (kE (br (uS false (aw 3) (aS (a9 (au (cF (.str "call")) (au (cF (.str "all")) ax)))))) (eQ (a9 (aW 3 (au (aF aZ (aW 0 (aW 5 ax))) ax)))) pY)
 (aJ (kE (br (bp (lh false) (aw 3) (cF (.str "pass")))) (eQ (a9 (aW 3 (au (aF aZ (aW 0 (au (uQ (aw 1) (cF (.str "passes"))) ax))) (au (aF aZ (aW 0 (au (uQ (aw 1) (cF (.str "passes"))) ax))) ax))))) pY)
 (eQ (a9 (aW 3 (au (aF aZ (aW 0 (au (uQ (aw 1) (cF (.str "passes"))) ax))) ax)))))))))))))))
def iu:fH:=jg 7 nK
def iO:dy:=
 (aJ (bf 2 (bp eJ (bo (aV (eA 1 (au (bp cQ (cB 1) (aF aK (aW 0 (eA 3 ax)))) (au (bp cQ (cB 1) (aF aK (aW 0 (eA 8 ax)))) (eA 40 ax)))))) (bp lR (aF aK (aW 0 (eA 13 ax))) (cB 4))))
 (eQ (tupQ (b_ (bu [none,some 0,some 1,some 2] (qo (aw 2)) (cf 0) bP (aF iu (aW 1 (aW 2 (aW 3 ax)))))))))
def cP:fH:=jg 3 iO
def fR:dy:=
 (aJ (bf 4 (bo (bu [none,none] (fg (aS (aw 1))) (mJ (nG 2 (aY (cf 0) (aY (cf 1) fF)))) bP (aw 0))))
 (aJ (bf 5 (bo (bu [none,none] (fg (aS (aw 2))) (mJ (nG 2 (aY (cf 0) (aY (cf 1) fF)))) bP (aw 0))))
 (aJ (bf 6 (bo (dw (b_ (dw (b_ (aV (au (cF (.str "tell")) ax))) (b_ (lb (b_ (aV (au (cF (.str "put")) (au (cF (.str "put")) ax)))) (nF intOfD (au (cI (aS (aw 4))) ax)))))) (b_ (lb (b_ (aV (au (cF (.str "do")) ax))) (nF intOfD (au (cI (aS (aw 3))) ax)))))))
 (aJ (bf 6 (bo (dw (b_ (dw (aS (aw 6)) (b_ (lb (b_ (aV (au (cF (.str "wait")) (au (cF (.str "call")) ax)))) (nF intOfD (au (cI (aS (aw 5))) ax)))))) (b_ (lb (b_ (aV (au (cF (.str "all")) ax))) (nF intOfD (au (rC (cI (aS (aw 5))) (bp (lh false) (aw 0) (cF (.str "when free")))) ax)))))))
 (eQ (zx ["words","goals","bells","does","kinds"] (au (bo (dw (aS (aw 4)) (b_ (aV (au (cF (.str "given")) ax))))) (aW 4 (aW 5 (aW 3 (aW 6 ax)))))))))))
def cA:fH:=z7 7 fR
def kH:dy:=
 (aJ (rY 2 3 (au (bo (aV ax)) (au (bo (aV ax)) ax)))
 (aJ (fW (fg (b_ (cq bA (aW 0 (aW 1 (au (aF aZ (aW 0 (au (bo (aV (eA 0 (eA 1 (eA 1 (eA 2 (eA 2 (eA 3 (eA 4 ax))))))))) ax))) ax)))))) (cf 4) (aJ (bf 5 (aF cn (aW 0 (au (bo (cq bA (aW 0 (aW 1 (au (aF aK (aW 0 (eA 5 ax))) ax))))) ax))))
 (aJ (bf 6 (bo (bu [none,some 0] (fg (b_ (cq bA (aW 0 (aW 1 (au (aF aK (aW 0 (eA 4 ax))) ax)))))) (cf 0) bP (a9 (aW 0 (au (aF aZ (aW 1 (au (bo (aV (au (cF (.str "row")) (au (cF (.str "turns")) ax)))) ax))) ax))))))
 (aJ (bf 7 (bo (cq bA (aW 0 (aW 1 (au (bp cQ (cB 1) (aF aK (aW 0 (eA 4 ax)))) ax))))))
 (aJ (jl (ku gR (aw 2) (au (a9 (aW 4 (au (aF aZ (aW 0 (au (bo (aV (au (cF (.str "at once")) (au (cF (.str "when free")) ax)))) ax))) (aW 5 (au (tupQ (dZ (aS (aw 6)))) (aW 7 ax)))))) ax)))
 (fW (fg (aS (aw 7))) (cf 8) (jl (ku rf (aw 3) (au (aF aK (aW 0 (au (bp cQ (ow (aS (aw 3))) (cB 1)) ax))) (au (a9 (aW 4 (aW 8 ax))) ax))))))))))
 (aJ (bf 9 (bo (aV ax)))
 (aJ (fW (fg (aS (aw 2))) (mJ (nG 5 (aY (cf 4) (aY (cf 10) (aY (cf 5) (aY (cf 6) (aY (cf 7) fF))))))) (aJ (bf 11 (bo (aV ax)))
 (aJ (fW (fg (aS (aw 7))) (cf 8) (aJ (bf 12 (bo (AG (aS (aw 3)) (uY (bp cQ (vn (aS (aw 3)) (a9 (aW 4 (aW 8 ax)))) (cB 1))) xk)))
 (jl (ku gR (aw 11) (au (a9 (aW 8 (au (aF cP (aW 0 (au (aF cA (aW 10 (aW 5 (aW 6 (aW 12 ax))))) ax))) ax))) ax)))))
 (jl (ku gR (aw 9) (au (a9 (aW 4 (aW 10 (aW 5 (aW 6 (au (tupQ (dZ (aS (aw 11)))) ax)))))) ax))))))
 (eQ (tupQ (dZ (aS (aw 9)))))))))
def fh:fH:=jg 13 kH
def kI:dy:=
 (aJ (bf 2 (aF fh (aW 0 (aW 1 ax))))
 (aJ (bf 3 (bo (aV ax)))
 (aJ (fW (fg (aS (aw 2))) (cf 4) (jl (jH (aw 3) (b_ (bu [none,none,some 4] (fg (aS (bp eJ (aw 4) (cB 4)))) (mJ (nG 2 (aY (cf 0) (aY (cf 1) fF)))) bP (a9 (au (bp eJ (aw 2) (cB 0)) (aW 0 ax))))))))
 (aJ (bf 5 (bo (bu [none,some 2] (fg (aS (aw 1))) (cf 0) (br (uS true (aw 0) (b_ (bu [none] (fg (aS (aw 1))) (cf 0) bP (bp eJ (aw 0) (cB 0)))))) (aw 0))))
 (aJ (bf 6 (bo (cq bA (aW 0 (aW 5 (au (aF aZ (aW 0 (au (bo (aV (eA 0 (eA 0 (eA 1 (eA 2 (eA 3 (eA 16 ax)))))))) ax))) ax))))))
 (aJ (bf 7 (bo (cq bA (aW 0 (aW 1 (au (aF aZ (aW 0 (au (bo (aV (eA 0 (eA 0 (eA 1 (eA 2 (eA 16 ax))))))) ax))) ax))))))
 (aJ (bf 8 (bo (aV ax)))
 (aJ (fW (qo (bp cQ (cB 1) (aF aK (aW 0 (eA 4 ax))))) (cf 9) (aJ (bf 10 (bo (cq bA (aW 0 (au (bo (bu [none,some 7] (fg (aS (aw 1))) (cf 0) (br (uS true (aw 0) (aS (aw 1)))) (aw 0))) (au (aF aZ (aW 0 (au (bo (aV (eA 0 (eA 1 (eA 2 (eA 8 ax)))))) ax))) ax))))))
 (aJ (bf 11 (bo (dw (aS (aw 10)) (aS (aw 7)))))
 (aJ (bf 12 (bo (dw (b_ (dw (b_ (aV (au (cF (.str "say")) ax))) (b_ (lb (b_ (aV (au (cF (.str "put")) ax))) (nF intOfD (au (cI (aS (aw 11))) ax)))))) (b_ (lb (b_ (aV (au (cF (.str "do")) (au (cF (.str "do")) ax)))) (nF intOfD (au (cI (aS (aw 3))) ax)))))))
 (aJ (bf 12 (bo (dw (aS (aw 12)) (b_ (lb (b_ (aV (au (cF (.str "take")) (au (cF (.str "give")) (au (cF (.str "pass")) ax))))) (nF intOfD (au (cI (aS (aw 6))) ax)))))))
 (aJ (bf 13 (zx ["words","goals","bells","does","kinds","passes"] (aW 11 (aW 11 (au (bo (aV ax)) (aW 3 (aW 12 (aW 6 ax))))))))
 (jl (ku gR (aw 8) (au (a9 (au (aF cn (aW 0 (aW 10 ax))) (au (aF cP (aW 0 (aW 13 ax))) ax))) ax)))))))))
 (eQ (a9 (aW 2 (au (aF cn (aW 0 (aW 6 ax))) (au (aF cn (aW 0 (aW 7 ax))) (au (tupQ (dZ (aS (aw 8)))) ax))))))))))))))
def fq:fH:=jg 14 kI
def iX:dy:=
 (AX (bu [none,none] (fg (aS (aw 0))) (mJ (nG 2 (aY (cf 0) (aY (cf 1) fF)))) bP (wY (iG (cF (.str "thing ")) (iG (gN (aw 0)) (iG (cF (.str " ")) (iG (gN (aw 1)) xm)))))))
def dj:fH:=jg 1 iX
def eL(self:fH):dy:=
 (aJ (kE (oW (rh "str" (aw 0))) (eQ (aw 0)) pY)
 (aJ (kE (sv (oW (rh "tuple" (aw 0)))) (eQ (nF jc (aW 0 ax))) pY)
 (eQ (gI (cF (.str " ")) (b_ (dw (b_ (aV (au (BN dU (bp eJ (aw 0) (cB 0))) ax))) (b_ (bu [none] (fg (aS (zm (aw 0) (uY (cB 1)) xk))) (cf 0) bP (aF self (aW 0 ax))))))))))
def bC:Nat->fH
 |0=>λ_ _=>none
 |n+1=>jg 1 (eL (bC n))
def kq:dy:=
 (eQ (su (br (bp (wZ false) (aw 0) (cF .non))) (cF (.str "-")) (aF (bC 6) (aW 0 ax))))
def ee:fH:=jg 1 kq
def lA:dy:=
 (aJ (bf 1 (su (br (bp (lh false) (bp eJ (aw 0) (cB 0)) (cF (.str "unless")))) (a9 (au (bp eJ (aw 0) (cB 2)) (au (bp eJ (aw 0) (cB 1)) ax))) (zm (aw 0) (uY (cB 1)) xk)))
 (eQ (gI (cF (.str " ")) (b_ (dw (b_ (aV (au (bp eJ (aw 0) (cB 0)) ax))) (b_ (bu [none] (fg (aS (aw 1))) (cf 0) bP (aF ee (aW 0 ax)))))))))
def gf:fH:=jg 2 lA
def h_:dy:=
 (AX (bu [none] (fg (aS (aw 0))) (cf 0) bP (aF gf (aW 0 ax))))
def cW:fH:=jg 1 h_
def kx:dy:=
 (aJ (xl (aw 0) (mJ (nG 5 (aY (cf 1) (aY (cf 2) (aY (cf 3) (aY (cf 4) (aY (cf 5) fF))))))))
 (aJ (bf 6 (bo (dw (b_ (aV (au (wY (iG (cF (.str "room ")) (iG (gN (aw 1)) (iG (cF (.str " ")) (iG (gN (BN eZ (aw 2))) xm))))) ax))) (b_ (cq dj (aW 3 ax))))))
 (aJ (jl (jH (aw 6) (b_ (bu [none,none] (fg (aS (aw 4))) (mJ (nG 2 (aY (cf 0) (aY (cf 1) fF)))) bP (wY (iG (cF (.str "bell ")) (iG (gN (aw 0)) (iG (cF (.str " ")) (iG (gN (aw 1)) xm)))))))))
 (aJ (fW (fg (aS (aw 5))) (mJ (nG 2 (aY (cf 7) (aY (cf 8) fF)))) (jl (jH (aw 6) (b_ (dw (b_ (aV (au (wY (iG (cF (.str "deed ")) (iG (gN (aw 7)) xm))) ax))) (b_ (cq cW (aW 8 ax))))))))
 (eQ (aw 6))))))
def fA:fH:=jg 9 kx
def kg:dy:=
 (aJ (xl (aw 0) (mJ (nG 4 (aY (cf 1) (aY (cf 2) (aY (cf 3) (aY (cf 4) fF)))))))
 (aJ (bf 5 (bo (bu [none,none] (fg (aS (aw 2))) (mJ (nG 2 (aY (cf 0) (aY (cf 1) fF)))) bP (wY (iG (cF (.str "pass ")) (iG (gN (aw 0)) (iG (cF (.str " ")) (iG (gN (aw 1)) xm))))))))
 (aJ (jl (jH (aw 5) (b_ (bu [none,none] (fg (aS (aw 3))) (mJ (nG 2 (aY (cf 0) (aY (cf 1) fF)))) bP (wY (iG (cF (.str "open ")) (iG (gN (aw 0)) (iG (cF (.str " ")) (iG (gN (aw 1)) xm)))))))))
 (aJ (fW (fg (aS (aw 1))) (cf 6) (jl (jH (aw 5) (b_ (cq fA (aW 6 ax))))))
 (aJ (fW (fg (aS (aw 4))) (mJ (nG 2 (aY (cf 7) (aY (cf 8) fF)))) (jl (jH (aw 5) (b_ (dw (b_ (dw (b_ (aV (au (cF (.str "hand")) ax))) (b_ (cq dj (aW 7 ax))))) (b_ (cq cW (aW 8 ax))))))))
 (eQ (gI (cF (.str "\n")) (aS (aw 5)))))))))
def eo:fH:=jg 9 kg
def gM:dy:=
 (aJ (bf 1 (zx ["plus","minus","less","same","both","not","waits"] (au (cF (.str "+")) (au (cF (.str "-")) (au (cF (.str "<")) (au (cF (.str "=")) (au (cF (.str "&")) (au (cF (.str "!")) (au (cF (.str "?")) ax)))))))))
 (aJ (rY 2 3 (au (bo (aV ax)) (au (bo (aV (aW 0 ax))) ax)))
 (aJ (uP (br (cI (aS (aw 3)))) (aJ (bf 4 (ku uv (aw 3) ax))
 (kE (oW (rh "tuple" (aw 4))) (aJ (jl (ku gR (aw 2) (au (uQ (aw 1) (bp eJ (aw 4) (cB 0))) ax)))
 (jl (jH (aw 3) (b_ (xw (b_ (tq (aS (zm (aw 4) (uY (cB 1)) xk)))) (yy (cB 1))))))) (jl (ku gR (aw 2) (au (nF jc (aW 4 ax)) ax))))) 64)
 (eQ (aw 2)))))
def bH:fH:=jg 5 gM
def gW:dy:=
 (aJ (bf 1 (bp eJ (aw 0) (cB 0)))
 (aJ (kE (br (uS false (aw 1) (aS (a9 (au (cF (.str "say")) (au (cF (.str "tell")) ax)))))) (bf 2 (bo (cq bH (au (bp eJ (aw 0) (cB 1)) ax)))) (kE (br (uS false (aw 1) (aS (a9 (au (cF (.str "put")) (au (cF (.str "wait")) ax)))))) (bf 2 (bo (dw (b_ (aV (au (bp eJ (aw 0) (cB 1)) ax))) (b_ (cq bH (au (bp eJ (aw 0) (cB 2)) ax)))))) (kE (br (bp (lh false) (aw 1) (cF (.str "unless")))) (bf 2 (bo (dw (b_ (aV (au (nF jc (au (bp eJ (aw 0) (cB 2)) ax)) ax))) (b_ (cq bH (au (bp eJ (aw 0) (cB 1)) ax)))))) (kE (br (bp (lh false) (aw 1) (cF (.str "do")))) (bf 2 (bo (dw (b_ (aV (au (su (br (bp (wZ false) (bp eJ (aw 0) (cB 1)) (cF .non))) (cF (.str "-")) (bp eJ (aw 0) (cB 1))) (au (bp eJ (aw 0) (cB 2)) (au (bp eJ (aw 0) (cB 3)) ax))))) (b_ (cq bH (au (bp eJ (aw 0) (cB 4)) ax)))))) (bf 2 (bo (bu [none] (fg (aS (zm (aw 0) (uY (cB 1)) xk))) (cf 0) bP (nF jc (aW 0 ax)))))))))
 (eQ (gI (cF (.str " ")) (b_ (dw (b_ (aV (aW 1 ax))) (aS (aw 2))))))))
def dD:fH:=jg 3 gW
def eF:dy:=
 (aJ (xl (aw 0) (mJ (nG 2 (aY (cf 1) (aY (cf 2) fF)))))
 (aJ (kE (br (bp (lh false) (aw 1) (cF (.str "row")))) (eQ (aF dD (aW 2 ax))) pY)
 (aJ (bf 3 (zx ["at once","when free"] (au (cF (.str "at-once")) (au (cF (.str "when-free")) ax))))
 (eQ (gI (cF (.str " ")) (b_ (dw (b_ (aV (aW 1 ax))) (b_ (bu [none,some 3] (fg (aS (aw 2))) (cf 0) bP (xq (aw 1) (aw 0) (nF jc (aW 0 ax))))))))))))
def dn:fH:=jg 4 eF
def kz:dy:=
 (aJ (xl (aw 0) (mJ (nG 4 (aY (cf 1) (aY (cf 2) (aY (cf 3) (aY (cf 4) fF)))))))
 (aJ (bf 5 (bo (dw (b_ (bu [none] (fg (aS (aw 2))) (cf 0) bP (a9 (au (cF (.str "pass")) (aW 0 ax))))) (b_ (bu [none] (fg (aS (aw 3))) (cf 0) bP (a9 (au (cF (.str "open")) (aW 0 ax))))))))
 (aJ (fW (fg (aS (aw 1))) (mJ (nG 5 (aY (cf 6) (aY (cf 7) (aY (cf 8) (aY (cf 9) (aY (cf 10) fF))))))) (aJ (jl (ku gR (aw 5) (au (a9 (au (cF (.str "room")) (au (a9 (aW 6 (aW 7 ax))) ax))) ax)))
 (aJ (jl (jH (aw 5) (b_ (dw (b_ (bu [none] (fg (aS (aw 8))) (cf 0) bP (a9 (au (cF (.str "thing")) (aW 0 ax))))) (b_ (bu [none] (fg (aS (aw 9))) (cf 0) bP (a9 (au (cF (.str "bell")) (aW 0 ax)))))))))
 (fW (fg (aS (aw 10))) (mJ (nG 2 (aY (cf 11) (aY (cf 12) fF)))) (aJ (jl (ku gR (aw 5) (au (a9 (au (cF (.str "deed")) (au (a9 (aW 11 ax)) ax))) ax)))
 (jl (jH (aw 5) (b_ (bu [none] (fg (aS (aw 12))) (cf 0) bP (a9 (au (cF (.str "row")) (aW 0 ax))))))))))))
 (aJ (fW (fg (aS (aw 4))) (mJ (nG 2 (aY (cf 8) (aY (cf 12) fF)))) (aJ (jl (ku gR (aw 5) (au (a9 (au (cF (.str "hand")) (au (a9 ax) ax))) ax)))
 (jl (jH (aw 5) (b_ (dw (b_ (bu [none] (fg (aS (aw 8))) (cf 0) bP (a9 (au (cF (.str "thing")) (aW 0 ax))))) (b_ (bu [none] (fg (aS (aw 12))) (cf 0) bP (a9 (au (cF (.str "row")) (aW 0 ax)))))))))))
 (eQ (aw 5))))))
def fo:fH:=jg 13 kz
def me:dy:=
 (eQ (gI (cF (.str "\n")) (b_ (bu [none] (fg (b_ (cq fo (aW 0 ax)))) (cf 0) bP (aF dn (aW 0 ax))))))
def gm:fH:=jg 1 me
def kB:dy:=
 (aJ (bf 1 (Bd (aw 0)))
 (aJ (bf 2 (aF eo (aW 0 ax)))
 (eQ (rC (rh "str" (aw 2)) (rC (bp (lh false) (aw 2) (aF gm (aW 0 ax))) (bp (lh false) (Bd (aw 0)) (aw 1)))))))
def dz:fH:=jg 3 kB
def Ct:dy:=
 (aJ (bf 1 (bo (cq iq (aW 0 ax))))
 (aJ (bf 2 (bo (cq fB (aW 1 (eA 26 ax)))))
 (aJ (bf 3 (a9 (au (a9 ax) (au (a9 ax) (au (a9 ax) (au (a9 (au (a9 (au (a9 ax) (au (a9 (au (a9 (au (cF (.str "go")) (eA 1 ax))) ax)) ax))) ax)) ax))))))
 (aJ (fW (qo (nF maxD (eA 4 (au (nF minD (eA 8 (au (ow (aS (aw 0))) ax))) ax)))) (cf 4) (aJ (bf 5 (aF fq (aW 1 (aW 2 ax))))
 (aJ (kE (AW (sv (oW (aF dz (aW 5 ax)))) (AW (sv (oW (aF dz (aW 3 ax)))) (sv (oW (aF dz (aW 5 ax)))))) (eQ (cF (.bl false))) pY)
 (bf 3 (aw 5)))))
 (eQ (bp (lh false) (aF eo (au (a9 (au (a9 ax) (au (a9 ax) (au (a9 ax) (au (a9 (au (a9 (au (a9 ax) (au (a9 (au (a9 (au (cF (.str "go")) (eA 1 ax))) ax)) ax))) ax)) ax))))) ax)) (cF (.str "hand\ngo 1"))))))))
def xM:fH:=jg 6 Ct
def top(i:Nat):Stmt:=PySem.Challenge.pw_calledroom_k74_worlds_written.main.body.getD i (.Pass #[0,0,0,0])
abbrev i7:Stmt:=top 12
abbrev gY:Stmt:=top 13
abbrev jO:Stmt:=top 14
abbrev gk:Stmt:=top 15
abbrev hR:Stmt:=top 18
abbrev fI:Stmt:=top 19
abbrev hE:Stmt:=top 16
abbrev i_:Stmt:=top 17
abbrev je:Stmt:=top 20
abbrev eS:Stmt:=top 21
abbrev dF:Stmt:=top 22
abbrev gA:Stmt:=top 23
abbrev gx:Stmt:=top 24
abbrev eR:Stmt:=top 7
abbrev fK:Stmt:=top 2
abbrev gy:Stmt:=top 10
abbrev hJ:Stmt:=top 9
abbrev eB:Stmt:=top 8
abbrev gc:Stmt:=top 6
abbrev gb:Stmt:=top 5
abbrev dQ:Stmt:=top 25
abbrev eC:Stmt:=top 26
abbrev dY:Stmt:=top 28
abbrev gB:Stmt:=top 27
abbrev hX:Stmt:=top 29
abbrev gD:Stmt:=top 30
abbrev jG:Stmt:=top 31
end W28
namespace W28
open PySem PySem.Spec L2 DL PyProof.Rows
abbrev vV:List Str:= ["_law_item"]
abbrev yg:List Str:= ["_law_manner","_law_things","_law_bells","_law_does"]
abbrev qA:List Str:= ["_law_one"]
abbrev kL:List Str:= ["_law_pot_here","_law_many"]
abbrev qg:List Str:= ["_law_pot_here","_law_scope","_law_many"]
abbrev tM:List Str:= ["_law_pot_here","_law_scope"]
abbrev ql:List Str:= ["_law_pot_here","_law_some_here"]
abbrev nc:List Str:= ["_law_pot_here","_law_words_here","_law_bells","_law_deep"]
abbrev tU:List Str:= ["_law_pot_here","_law_words_here","_law_bells"]
abbrev sZ:List Str:= ["_law_pot_here","_law_words_here","_law_many"]
abbrev fP:List Str:= ["_law_pot_here","_law_words_here"]
abbrev nJ:List Str:= ["_law_row_here"]
abbrev mF:List Str:= ["_law_script"]
abbrev tm:List Str:= ["_law_told"]
abbrev fM:List Str:= ["_law_world_here"]
abbrev lK:List Str:= ["part"]
abbrev qH:List Str:= ["program"]
abbrev tF:List Str:= ["room"]
abbrev qw:List Str:= ["row"]
abbrev qB:List Str:= ["things"]
abbrev mm:List Str:= ["tree"]
abbrev y0:List Str:= ["word","value"]
abbrev sS:List Str:= ["world"]
section
variable(P:X9)(w:Xc)(K:X1)(mg:X3)(base:Xe)
abbrev r9:Prop:=iH P w K mg base 1 "_law_pot" mF iq
abbrev bQ:Prop:=iH P w K mg base 1 "_law_take" kL aK
abbrev eO:Prop:=iH P w K mg base 2 "_law_of" ql aZ
abbrev oY:Prop:=iH P w K mg base 3 "_law_words" kL fB
abbrev kK:Prop:=iH P w K mg base 2 "_law_some" sZ bA
abbrev iY:Prop:=iH P w K mg base 2 "_law_values" fP cn
abbrev qp:Prop:=iH P w K mg base 3 "_law_bare" tU eW
abbrev rL:Prop:=iH P w K mg base 9 "_law_sum" nc (eN 5)
abbrev sy:Prop:=iH P w K mg base 10 "_law_row" qg iu
abbrev ic:Prop:=iH P w K mg base 11 "_law_program" tM cP
abbrev jK:Prop:=iH P w K mg base 1 "_law_deed_scope" yg cA
abbrev oG:Prop:=iH P w K mg base 12 "_law_rooms" fP fh
abbrev oH:Prop:=iH P w K mg base 13 "_law_world" fP fq
abbrev gZ:Prop:=iH P w K mg base 1 "things_shown" qB dj
abbrev m8:Prop:=iH P w K mg base 7 "sum_written" mm (bC 6)
abbrev oz:Prop:=iH P w K mg base 8 "part_shown" lK ee
abbrev qK:Prop:=iH P w K mg base 9 "row_shown" qw gf
abbrev gG:Prop:=iH P w K mg base 10 "program_shown" qH cW
abbrev oT:Prop:=iH P w K mg base 11 "room_shown" tF fA
abbrev ji:Prop:=iH P w K mg base 12 "show_world" sS eo
abbrev j0:Prop:=iH P w K mg base 1 "_law_sum_words" tm bH
abbrev kT:Prop:=iH P w K mg base 2 "_law_row_text" nJ dD
abbrev j7:Prop:=iH P w K mg base 3 "_law_item_text" vV dn
abbrev pI:Prop:=iH P w K mg base 1 "_law_items" fM fo
abbrev p_:Prop:=iH P w K mg base 4 "_law_text" fM gm
abbrev pO:Prop:=iH P w K mg base 13 "_law_right" fM dz
end
section
variable{P:X9}{w:Xc}{K:X1}{mg:X3}{base:Xe}{f:X8}{fd:FuncData}
def kJ:aX ["_law_script","_law_seed","_law_cell"] mF (aE i7):=jS
def qU(F:gS K "_law_pot" "_law_pot" i7 f fd)(B:Bl mg):bT P w K mg base fj 1 f fd mF (gQ #[K,mg] 1 iq):=by
 let a:=kJ.nd
 refine w_ F kJ λc A b s H E d=>?_
 exact(az (bI 1 a (da (nH L B.len (cR (v_ 0))) ay))
  (az (eP PassesOwn.never L (bw (cT (oX (cR (v_ 0)) i9 (i5 ay)))) (cv 2 a) (aL (bI 1 a (jB (da (da (kh (v_ 1) ay) (jB (v_ 2) (zj ay ay))) ay) ay))))
  (aL (oj (a_ (aq (a8 (bZ (N:= ["_law_cell"]) (js:= [none]) (aG.gen L L L L L L) L (bw (cT (oX (cR (v_ 0)) i9 (i5 ay)))) (λ_ _ _ _=>(cY 0)) (λ_ _ _ _=>(vg (dG BK Co (v_ 0) (zj ay ay) (bJ _)))) (λ_ _ _ _=>(v_ 0)))) (aq (v_ 1) (aq ay av))))))))
def jA:aX ["_law_pot_here","_law_many","_law_digit","_law_mixed"] kL (aE gY):=jS
def pb(F:gS K "_law_take" "_law_take" gY f fd)(B:Bl mg):bT P w K mg base fj 1 f fd kL (gQ #[K,mg] 2 aK):=by
 let a:=jA.nd
 refine cK F jA λe A b s H E d=>?_
 let c:=d.units0
 exact(az (sR 64 PassesOwn.never (PW.pt (w_and (jw c (cR (cD (v_ 0) ay))) (sk (dG eg eh (cD (cD (v_ 0) ay) ay) ay (bJ _))))) (aL (bW (sJ (cD (v_ 0) ay) ay))))
  (az (ff (jw c (cR (cD (v_ 0) ay))) (az (bI 2 a (jB (cD (cD (v_ 0) ay) ay) (v_ 1)))
  (az (oe (ox (cD (cD (v_ 0) ay) ay) (v_ 1)) (y4 (cD (v_ 0) ay) ay))
  (aL (bq (v_ 2))))) ef)
  (az (oe (da (cD (v_ 0) ay) ay) (y4 (v_ 0) ay))
  (az (bI 3 a (jB (kh (da (da (cD (v_ 0) ay) (kh (kh ay (cD (v_ 0) ay)) (cD (v_ 0) ay))) ay) ay) ay))
  (az (bI 3 a (jB (kh (v_ 3) (da (jB (v_ 3) ay) (kh ay (cD (v_ 0) ay)))) ay))
  (aL (bq (jB (da (ox (v_ 3) ay) (ox (v_ 3) ay)) (v_ 1)))))))))
def sx:aX ql ql (aE jO):=jS
def rg(F:gS K "_law_of" "_law_of" jO f fd)(B:Bl mg)(d:bQ P w K mg base):bT P w K mg base fj 2 f fd ql (gQ #[K,mg] 2 aZ):=by
 refine cK F sx λc A a s H E b=>?_
 exact(aL (bq (cD (v_ 1) (bh d b (aq (v_ 0) (aq (nH L B.len (cR (v_ 1))) av))))))
def iJ:aX ["_law_pot_here","_law_many","_law_letters","_law_first","_law_turn","_law_ends","_law_found","_law_k","_law_sign"] kL (aE gk):=jS
def mP(F:gS K "_law_words" "_law_words" gk f fd)(B:Bl mg)(e:eO P w K mg base)(g:bQ P w K mg base):bT P w K mg base fj 3 f fd kL (gQ #[K,mg] 2 fB):=by
 let a:=iJ.nd
 refine cK F iJ λd A b s H E c=>?_
 exact(az (bI 2 a aC)
  (az (t4 (oZ (i:=3) (j:=4) L a L L (!1) L L (aq (bh g c (aq (v_ 0) (aq ay av))) (aq (bh e c (aq (v_ 0) (aq (a8 (a_ (aq ay (aq ay (aq ay (aq ay (aq ay (aq ay av)))))))) av))) av)) L))
  (az (bI 5 a (a8 (a_ (aq aC (aq aC (aq aC (aq aC (aq aC av))))))))
  (az (bI 6 a (a8 (a_ av)))
  (az (eP PassesOwn.never L (mf L B.range (v_ 1)) (cv 7 a) (az (bI 8 a (cD (v_ 2) (jB (da (v_ 3) (kh (v_ 4) (v_ 7))) ay)))
  (aL (bW (dk (v_ 6) (da (v_ 8) (cD (v_ 5) (jB (da (v_ 3) (kh (v_ 7) (v_ 7))) ay))))))))
  (aL (bq (v_ 6))))))))
def jv:aX ["_law_pot_here","_law_words_here","_law_many","_law_left"] sZ (aE hR):=jS
def oK(F:gS K "_law_some" "_law_some" hR f fd)(B:Bl mg)(e:bQ P w K mg base):bT P w K mg base fj 2 f fd sZ (gQ #[K,mg] 3 bA):=by
 let b:=jv.nd
 refine cK F jv λd A a s H E c=>?_
 exact(az (bI 3 b (a8 (wG L B.list (cR (v_ 1)))))
  (aL (oj (wb L B.sorted (cT (bZ (N:= ["_law_k","_law_pot_here","_law_left"]) (js:= [none,some 0,some 3]) (aG.gen L L L L L L) L (mf L B.range (iZ va (e_ (nP L) L B.min (by rfl) (aq (v_ 2) (aq (nH L B.len (cR (v_ 3))) av))))) (λ_ _ _ _=>(cY 0)) (λ_ _ _ _=>cJ) (λ_ _ _ _=>(sJ (v_ 2) (bh e c (aq (v_ 1) (aq (nH L B.len (cR (v_ 2))) av)))))))))))
def mq:aX fP fP (aE fI):=jS
def lD(F:gS K "_law_values" "_law_values" fI f fd)(B:Bl mg)(d:bQ P w K mg base):bT P w K mg base fj 2 f fd fP (gQ #[K,mg] 2 cn):=by
 refine cK F mq λc A a s H E b=>?_
 exact(aL (bq (ir L B.tuple (cT (bZ (N:= ["_law_word","_law_pot_here"]) (js:= [none,some 0]) (aG.gen L L L L L L) L (bw (cR (v_ 1))) (λ_ _ _ _=>(cY 0)) (λ_ _ _ _=>cJ) (λ_ _ _ _=>(bg (aq (v_ 0) (aq (bh d b (aq (v_ 1) (aq ay av))) av)))))) (ht:=sO))))
def ju:aX ["_law_pot_here","_law_words_here","_law_bells","_law_way"] tU (aE hE):=jS
def pD(F:gS K "_law_bare" "_law_bare" hE f fd)(B:Bl mg)(c:bQ P w K mg base)(e:eO P w K mg base):bT P w K mg base fj 3 f fd tU (gQ #[K,mg] 3 eW):=by
 let g:=ju.nd
 refine cK F ju λh A b s H E a=>?_
 let d:=a.units0
 exact(az (bI 3 g (bh c a (aq (v_ 0) (aq ay av))))
  (az (ff (PW.pt (w_and (dG vP vZ (v_ 3) ay (bJ _)) (sk (jw d (cR (v_ 1)))))) (aL (bq (bh e a (aq (v_ 0) (aq (v_ 1) av))))) ef)
  (az (ff (PW.pt (w_and (dG eg eh (v_ 3) ay (bJ _)) (sk (jw d (cR (v_ 2)))))) (aL (bq (bg (aq aC (aq (bh e a (aq (v_ 0) (aq (v_ 2) av))) av))))) ef)
  (aL (bq (bh c a (aq (v_ 0) (aq (cD (a8 (a_ (aq ay (aq ay av)))) (bh c a (aq (v_ 0) (aq ay av)))) av))))))))
def ko:aX ["_law_pot_here","_law_words_here","_law_bells","_law_deep","_law_way","_law_word"] nc (aE i_):=jS
theorem kO(F:gS K "_law_sum" "_law_sum" i_ f fd)(B:Bl mg)(j:bQ P w K mg base)(g:qp P w K mg base)(h:eO P w K mg base)(b:Binds K fd nc [])(i:PySem.W.keepIn K (.ref f)=true)(m:mg "_law_sum"=some (.ref f)):∀n,bT P w K mg base fj (4+n) f fd nc (gQ #[K,mg] 4 (eN n))
 |0=>tW
 | n+1=>by
   have d:iH P w K mg base (4+n) "_law_sum" nc (eN n):=#[f,fd,kO F B j g h b i m n,b,i,m]
   let e:=ko.nd
   refine cK (k:=4+n) F ko λl A c s H E a=>?_
   exact(az (bI 4 e (bh j a (aq (v_ 0) (aq ay av))))
   (az (ff (PW.pt (w_or (dG vP vZ (v_ 3) ay (bJ _)) (yW (dG vP vZ (v_ 4) ay (bJ _))))) (aL (bq (bh g a (aq (v_ 0) (aq (v_ 1) (aq (v_ 2) av)))))) ef)
   (az (ff (dG eg eh (v_ 4) ay (bJ _)) (aL (bq (bg (aq aC (aq (bh d a (aq (v_ 0) (aq (v_ 1) (aq (v_ 2) (aq (vv (v_ 3) ay) av))))) av))))) ef)
   (az (bI 5 e (bh h a (aq (v_ 0) (aq (a8 (a_ (aq aC (aq aC (aq aC (aq aC (aq aC av))))))) av))))
   (aL (bq (bg (aq (v_ 5) (aq (bh d a (aq (v_ 0) (aq (v_ 1) (aq (v_ 2) (aq (vv (v_ 3) ay) av))))) (aq (bh d a (aq (v_ 0) (aq (v_ 1) (aq (v_ 2) (aq (vv (v_ 3) ay) av))))) av))))))))))
def kC:aX ["_law_pot_here","_law_scope","_law_many","_law_kind","_law_goals","_law_bells","_law_told"] qg (aE je):=jS
def qD(F:gS K "_law_row" "_law_row" je f fd)(B:Bl mg)(c:eO P w K mg base)(k:rL P w K mg base)(g:bQ P w K mg base):bT P w K mg base fj 10 f fd qg (gQ #[K,mg] 3 iu):=by
 let d:=kC.nd
 refine cK F kC λh A e s H E b=>?_
 let a:=u9 b
 exact(az (bI 3 d (bh c b (aq (v_ 0) (aq (a8 (cM (cT (a_ (aq aC (aq aC av)))) (cR (gp a (v_ 1) aC (λ_ _=>rfl))))) av))))
  (az (t4 (oZ (i:=4) (j:=5) L d L L (!1) L L (aq (gp a (v_ 1) aC (λ_ _=>rfl)) (aq (gp a (v_ 1) aC (λ_ _=>rfl)) av)) L))
  (az (bI 6 d (bh k b (aq (v_ 0) (aq (gp a (v_ 1) aC (λ_ _=>rfl)) (aq (v_ 5) (aq (da ay (bh g b (aq (v_ 0) (aq ay av)))) av))))))
  (az (ff (dG eg eh (v_ 3) aC (bJ _)) (aL (bq (bg (aq (v_ 3) (aq (v_ 6) (aq (bh g b (aq (v_ 0) (aq (da (v_ 2) ay) av))) av)))))) ef)
  (az (ff (dG eg eh (v_ 3) aC (bJ _)) (aL (bq (bg (aq (v_ 3) (aq (bh g b (aq (v_ 0) (aq (da (v_ 2) ay) av))) av))))) ef)
  (az (ff (x9 (v_ 3) (cR (bg (aq aC (aq aC av))))) (aL (bq (bg (aq (v_ 3) (aq (v_ 6) av))))) ef)
  (az (ff (dG eg eh (v_ 3) aC (bJ _)) (aL (bq (bg (aq (v_ 3) (aq (bh c b (aq (v_ 0) (aq (v_ 4) av))) (aq (v_ 6) av)))))) ef)
  (az (ff (dG eg eh (v_ 3) aC (bJ _)) (aL (bq (da (da (bg (aq (v_ 3) (aq (bh c b (aq (v_ 0) (aq (a8 (cM (cR (v_ 4)) (cT (a_ (aq xb av))))) av))) av))) (bh c b (aq (v_ 0) (aq (gp a (v_ 1) aC (λ_ _=>rfl)) av)))) (bg (aq (v_ 6) av))))) ef)
  (az (ff (dG eg eh (v_ 3) aC (bJ _)) (aL (bq (bg (aq (v_ 3) (aq (bh c b (aq (v_ 0) (aq (v_ 5) av))) (aq (v_ 6) av)))))) ef)
  (az (ff (x9 (v_ 3) (cR (bg (aq aC (aq aC av))))) (aL (bq (bg (aq (v_ 3) (aq (bh c b (aq (v_ 0) (aq (v_ 5) av))) av))))) ef)
  (az (ff (dG eg eh (v_ 3) aC (bJ _)) (aL (bq (bg (aq (v_ 3) (aq (bh c b (aq (v_ 0) (aq (gp a (v_ 1) aC (λ_ _=>rfl)) av))) (aq (bh c b (aq (v_ 0) (aq (gp a (v_ 1) aC (λ_ _=>rfl)) av))) av)))))) ef)
  (aL (bq (bg (aq (v_ 3) (aq (bh c b (aq (v_ 0) (aq (gp a (v_ 1) aC (λ_ _=>rfl)) av))) av))))))))))))))))
end
section
variable{P:X9}{w:Xc}{K:X1}{mg:X3}{base:Xe}{f:X8}{fd:FuncData}
def gL:aX qg tM (aE eS):=jS
def k_(F:gS K "_law_program" "_law_program" eS f fd)(B:Bl mg)(c:bQ P w K mg base)(e:sy P w K mg base):bT P w K mg base fj 11 f fd tM (gQ #[K,mg] 2 cP):=by
 let d:=gL.nd
 refine cK F gL λg A b s H E a=>?_
 exact(az (bI 2 d (cD (a8 (a_ (aq ay (aq (da ay (bh c a (aq (v_ 0) (aq ay av)))) (aq (da ay (bh c a (aq (v_ 0) (aq ay av)))) (aq ay av)))))) (ox (bh c a (aq (v_ 0) (aq ay av))) ay)))
  (aL (bq (ir L B.tuple (cT (bZ (N:= ["_law_k","_law_pot_here","_law_scope","_law_many"]) (js:= [none,some 0,some 1,some 2]) (aG.gen L L L L L L) L (mf L B.range (v_ 2)) (λ_ _ _ _=>(cY 0)) (λ_ _ _ _=>cJ) (λ_ _ _ _=>(bh e a (aq (v_ 1) (aq (v_ 2) (aq (v_ 3) av))))))) (ht:=sO)))))
def eU:aX ["_law_manner","_law_things","_law_bells","_law_does","_law_goals","_law_rung","_law_kinds"] yg (aE dF):=jS
def jf(F:gS K "_law_deed_scope" "_law_deed_scope" dF f fd)(B:Bl mg):bT P w K mg base fj 1 f fd yg (gQ #[K,mg] 4 cA):=by
 let a:=eU.nd
 refine w_ F eU λe A c s H E d=>?_
 let b:=d.units0
 exact(az (jV (n:=4) (N:= ["_law_word","_law_value"]) (js:= [none,none]) (aG.gen L L L L L L) L (bw (cR (v_ 1))) (λ_ _ _ _=>(eu L (aH (cY 0) (aH (cY 1) cX)))) (λ_ _ _ _=>cJ) (λ_ _ _ _=>(v_ 0)) (uu 4 a))
  (az (jV (n:=5) (N:= ["_law_bell","_law_sort"]) (js:= [none,none]) (aG.gen L L L L L L) L (bw (cR (v_ 2))) (λ_ _ _ _=>(eu L (aH (cY 0) (aH (cY 1) cX)))) (λ_ _ _ _=>cJ) (λ_ _ _ _=>(v_ 0)) (uu 5 a))
  (az (bI 6 a (a8 (cM (cT (cM (cT (a_ (aq aC av))) (cT (lM (cT (a_ (aq aC (aq aC av)))) (iZ eT (bG dW L B.int (by rfl) (aq (gE b (cR (v_ 4))) av))))))) (cT (lM (cT (a_ (aq aC av))) (iZ eT (bG dW L B.int (by rfl) (aq (gE b (cR (v_ 3))) av))))))))
  (az (bI 6 a (a8 (cM (cT (cM (cR (v_ 6)) (cT (lM (cT (a_ (aq aC (aq aC av)))) (iZ eT (bG dW L B.int (by rfl) (aq (gE b (cR (v_ 5))) av))))))) (cT (lM (cT (a_ (aq aC av))) (iZ eT (bG dW L B.int (by rfl) (aq (u7 (gE b (cR (v_ 5))) (yO (tO eg eh (v_ 0) aC (bJ _)))) av))))))))
  (aL (bq (iB (cw (a8 (cM (cR (v_ 4)) (cT (a_ (aq aC av))))) (cw (v_ 4) (cw (v_ 5) (cw (v_ 3) (cw (v_ 6) jW))))))))))))
def iL:aX ["_law_pot_here","_law_words_here","_law_shells","_law_order","_law_name","_law_things","_law_bells","_law_deeds","_law_deed","_law_rooms_here","_law_manner","_law_made","_law_later"] fP (aE gA):=jS
def mL(F:gS K "_law_rooms" "_law_rooms" gA f fd)(B:Bl mg)(c:kK P w K mg base)(g:eO P w K mg base)(k:iY P w K mg base)(d:bQ P w K mg base)(h:ic P w K mg base)(m:jK P w K mg base):bT P w K mg base fj 12 f fd fP (gQ #[K,mg] 2 fh):=by
 let a:=iL.nd
 refine cK F iL λl A e s H E b=>?_
 exact(az (t4 (oZ (i:=2) (j:=3) L a L L (!1) L L (aq (a8 (a_ av)) (aq (a8 (a_ av)) av)) L))
  (az (eP PassesOwn.never L (bw (cT (gw c b (aq (v_ 0) (aq (v_ 1) (aq (bh g b (aq (v_ 0) (aq (a8 (a_ (aq ay (aq ay (aq ay (aq ay (aq ay (aq ay (aq ay av))))))))) av))) av)))))) (cv 4 a) (az (bI 5 a (bh k b (aq (v_ 0) (aq (a8 (gw c b (aq (v_ 0) (aq (v_ 1) (aq (bh d b (aq (v_ 0) (aq ay av))) av))))) av))))
  (az (jV (n:=6) (N:= ["_law_bell","_law_pot_here"]) (js:= [none,some 0]) (aG.gen L L L L L L) L (bw (cT (gw c b (aq (v_ 0) (aq (v_ 1) (aq (bh d b (aq (v_ 0) (aq ay av))) av)))))) (λ_ _ _ _=>(cY 0)) (λ_ _ _ _=>cJ) (λ_ _ _ _=>(bg (aq (v_ 0) (aq (bh g b (aq (v_ 1) (aq (a8 (a_ (aq aC (aq aC av)))) av))) av)))) (uu 6 a))
  (az (bI 7 a (a8 (gw c b (aq (v_ 0) (aq (v_ 1) (aq (da ay (bh d b (aq (v_ 0) (aq ay av)))) av))))))
  (az (bW (dk (v_ 2) (bg (aq (v_ 4) (aq (bh g b (aq (v_ 0) (aq (a8 (a_ (aq aC (aq aC av)))) av))) (aq (v_ 5) (aq (ir L B.tuple (tX (cR (v_ 6))) (ht:=fk)) (aq (v_ 7) av))))))))
  (aL (eP PassesOwn.never L (bw (cR (v_ 7))) (cv 8 a) (aL (bW (wM (v_ 3) (bh d b (aq (v_ 0) (aq (da (nH L B.len (cR (v_ 3))) ay) av))) (bg (aq (v_ 4) (aq (v_ 8) av)))))))))))))
  (az (bI 9 a (a8 (a_ av)))
  (az (eP PassesOwn.never L (bw (cR (v_ 2))) (eu L (aH (cv 4 a) (aH (cv 10 a) (aH (cv 5 a) (aH (cv 6 a) (aH (cv 7 a) cX)))))) (az (bI 11 a (a8 (a_ av)))
  (az (eP PassesOwn.never L (bw (cR (v_ 7))) (cv 8 a) (az (bI 12 a (a8 (oX (cR (v_ 3)) (i5 (da (vJ b (cR (v_ 3)) (bg (aq (v_ 4) (aq (v_ 8) av)))) ay)) i9)))
  (aL (bW (dk (v_ 11) (bg (aq (v_ 8) (aq (bh h b (aq (v_ 0) (aq (bh m b (aq (v_ 10) (aq (v_ 5) (aq (v_ 6) (aq (v_ 12) av))))) av))) av))))))))
  (aL (bW (dk (v_ 9) (bg (aq (v_ 4) (aq (v_ 10) (aq (v_ 5) (aq (v_ 6) (aq (ir L B.tuple (tX (cR (v_ 11))) (ht:=fk)) av))))))))))))
  (aL (bq (ir L B.tuple (tX (cR (v_ 9))) (ht:=fk))))))))
def iS:aX ["_law_pot_here","_law_words_here","_law_rooms_here","_law_does","_law_room","_law_free","_law_passes","_law_opened","_law_hands","_law_k","_law_own","_law_goals","_law_kinds","_law_scope"] fP (aE gx):=jS
def mW(F:gS K "_law_world" "_law_world" gx f fd)(B:Bl mg)(l:oG P w K mg base)(c:kK P w K mg base)(h:eO P w K mg base)(k:bQ P w K mg base)(i:ic P w K mg base)(g:iY P w K mg base):bT P w K mg base fj 13 f fd fP (gQ #[K,mg] 2 fq):=by
 let a:=iS.nd
 refine cK F iS λj A d s H E b=>?_
 let e:=b.units0
 exact(az (bI 2 a (bh l b (aq (v_ 0) (aq (v_ 1) av))))
  (az (bI 3 a (a8 (a_ av)))
  (az (eP PassesOwn.never L (bw (cR (v_ 2))) (cv 4 a) (aL (bW (dg (v_ 3) (cT (bZ (N:= ["_law_deed","_law_program_here","_law_room"]) (js:= [none,none,some 4]) (aG.gen L L L L L L) L (bw (cR (cD (v_ 4) ay))) (λ_ _ _ _=>(eu L (aH (cY 0) (aH (cY 1) cX)))) (λ_ _ _ _=>cJ) (λ_ _ _ _=>(bg (aq (cD (v_ 2) ay) (aq (v_ 0) av))))))))))
  (az (jV (n:=5) (N:= ["_law_word","_law_rooms_here"]) (js:= [none,some 2]) (aG.gen L L L L L L) L (bw (cR (v_ 1))) (λ_ _ _ _=>(cY 0)) (λ_ _ _ _=>(vg (tV (v_ 0) (cT (bZ (N:= ["_law_room"]) (js:= [none]) (aG.gen L L L L L L) L (bw (cR (v_ 1))) (λ_ _ _ _=>(cY 0)) (λ_ _ _ _=>cJ) (λ_ _ _ _=>(cD (v_ 0) ay))))))) (λ_ _ _ _=>(v_ 0)) (uu 5 a))
  (az (bI 6 a (a8 (gw c b (aq (v_ 0) (aq (v_ 5) (aq (bh h b (aq (v_ 0) (aq (a8 (a_ (aq ay (aq ay (aq ay (aq ay (aq ay (aq ay av)))))))) av))) av))))))
  (az (bI 7 a (a8 (gw c b (aq (v_ 0) (aq (v_ 1) (aq (bh h b (aq (v_ 0) (aq (a8 (a_ (aq ay (aq ay (aq ay (aq ay (aq ay av))))))) av))) av))))))
  (az (bI 8 a (a8 (a_ av)))
  (az (eP PassesOwn.never L (mf L B.range (da ay (bh k b (aq (v_ 0) (aq ay av))))) (cv 9 a) (az (bI 10 a (a8 (gw c b (aq (v_ 0) (aq (a8 (bZ (N:= ["_law_word","_law_opened"]) (js:= [none,some 7]) (aG.gen L L L L L L) L (bw (cR (v_ 1))) (λ_ _ _ _=>(cY 0)) (λ_ _ _ _=>(vg (tV (v_ 0) (cR (v_ 1))))) (λ_ _ _ _=>(v_ 0)))) (aq (bh h b (aq (v_ 0) (aq (a8 (a_ (aq ay (aq ay (aq ay (aq ay av)))))) av))) av))))))
  (az (bI 11 a (a8 (cM (cR (v_ 10)) (cR (v_ 7)))))
  (az (bI 12 a (a8 (cM (cT (cM (cT (a_ (aq aC av))) (cT (lM (cT (a_ (aq aC av))) (iZ eT (bG dW L B.int (by rfl) (aq (gE e (cR (v_ 11))) av))))))) (cT (lM (cT (a_ (aq aC (aq aC av)))) (iZ eT (bG dW L B.int (by rfl) (aq (gE e (cR (v_ 3))) av))))))))
  (az (bI 12 a (a8 (cM (cR (v_ 12)) (cT (lM (cT (a_ (aq aC (aq aC (aq aC av))))) (iZ eT (bG dW L B.int (by rfl) (aq (gE e (cR (v_ 6))) av))))))))
  (az (bI 13 a (iB (cw (v_ 11) (cw (v_ 11) (cw (a8 (a_ av)) (cw (v_ 3) (cw (v_ 12) (cw (v_ 6) jW))))))))
  (aL (bW (dk (v_ 8) (bg (aq (bh g b (aq (v_ 0) (aq (v_ 10) av))) (aq (bh i b (aq (v_ 0) (aq (v_ 13) av))) av))))))))))))
  (aL (bq (bg (aq (v_ 2) (aq (bh g b (aq (v_ 0) (aq (v_ 6) av))) (aq (bh g b (aq (v_ 0) (aq (v_ 7) av))) (aq (ir L B.tuple (tX (cR (v_ 8))) (ht:=fk)) av)))))))))))))))
end
section
variable{P:X9}{w:Xc}{K:X1}{mg:X3}{base:Xe}{f:X8}{fd:FuncData}
def kW:aX qB qB (aE eR):=jS
def kP(F:gS K "things_shown" "things_shown" eR f fd)(B:Bl mg):bT P w K mg base fj 1 f fd qB (gQ #[K,mg] 1 dj):=by
 refine cK F kW λb A a s H E c=>?_
 exact(aL (oj (bZ (N:=y0) (js:= [none,none]) (aG.gen L L L L L L) L (bw (cR (v_ 0))) (λ_ _ _ _=>(eu L (aH (cY 0) (aH (cY 1) cX)))) (λ_ _ _ _=>cJ) (λ_ _ _ _=>(uy (bX aC (bX (hV (v_ 0)) (bX aC (bX (hV (v_ 1)) ni)))))))))
def lY:aX mm mm (aE fK):=jS
theorem hU(F:gS K "sum_written" "sum_written" fK f fd)(B:Bl mg)(c:nv P w K mg "SIGN_OF" dU)(b:Binds K fd mm [])(d:PySem.W.keepIn K (.ref f)=true)(m:mg "sum_written"=some (.ref f)):∀n,bT P w K mg base fj (1+n) f fd mm (gQ #[K,mg] 1 (bC n))
 |0=>tW
 | n+1=>by
   have g:iH P w K mg base (1+n) "sum_written" mm (bC n):=#[f,fd,hU F B c b d m n,b,d,m]
   refine cK (k:=1+n) F lY λh A a s H E e=>?_
   exact(az (ff (nW (s_ (T:="str") #[L,L,L,L,L,L,L] L B.isi (v_ 0) (lj (v:=.ty "str") L B.str PyProof.Rows.boot_str L))) (aL (bq (v_ 0))) ef)
   (az (ff (sL (nW (s_ (T:="tuple") #[L,L,L,L,L,L,L] L B.isi (v_ 0) (lj (v:=.ty "tuple") L B.tuple PyProof.Rows.boot_tuple L)))) (aL (bq (iZ lJ (bG fX L B.str (by rfl) (aq (v_ 0) av))))) ef)
   (aL (bq (jQ aC (cT (cM (cT (a_ (aq (sI c L (cD (v_ 0) ay) (λ_ _=>rfl)) av))) (cT (bZ (N:=lK) (js:= [none]) (aG.gen L L L L L L) L (bw (cR (lg (v_ 0) (i5 ay) i9))) (λ_ _ _ _=>(cY 0)) (λ_ _ _ _=>cJ) (λ_ _ _ _=>(bh g e (aq (v_ 0) av))))))))))))
def mT:aX lK lK (aE gy):=jS
def mN(F:gS K "part_shown" "part_shown" gy f fd)(B:Bl mg)(c:m8 P w K mg base):bT P w K mg base fj 8 f fd lK (gQ #[K,mg] 1 ee):=by
 refine cK F mT λd A a s H E b=>?_
 exact(aL (bq (wW (dG wJ vW (v_ 0) xb (bJ _)) aC (bh c b (aq (v_ 0) av)))))
def jm:aX ["row","parts"] qw (aE hJ):=jS
def ot(F:gS K "row_shown" "row_shown" hJ f fd)(B:Bl mg)(c:oz P w K mg base):bT P w K mg base fj 9 f fd qw (gQ #[K,mg] 1 gf):=by
 let b:=jm.nd
 refine cK F jm λe A a s H E d=>?_
 exact(az (bI 1 b (wW (dG eg eh (cD (v_ 0) ay) aC (bJ _)) (bg (aq (cD (v_ 0) ay) (aq (cD (v_ 0) ay) av))) (lg (v_ 0) (i5 ay) i9)))
  (aL (bq (jQ aC (cT (cM (cT (a_ (aq (cD (v_ 0) ay) av))) (cT (bZ (N:=lK) (js:= [none]) (aG.gen L L L L L L) L (bw (cR (v_ 1))) (λ_ _ _ _=>(cY 0)) (λ_ _ _ _=>cJ) (λ_ _ _ _=>(bh c d (aq (v_ 0) av)))))))))))
def j9:aX qH qH (aE eB):=jS
def ka(F:gS K "program_shown" "program_shown" eB f fd)(B:Bl mg)(b:qK P w K mg base):bT P w K mg base fj 10 f fd qH (gQ #[K,mg] 1 cW):=by
 refine cK F j9 λd A a s H E c=>?_
 exact(aL (oj (bZ (N:=qw) (js:= [none]) (aG.gen L L L L L L) L (bw (cR (v_ 0))) (λ_ _ _ _=>(cY 0)) (λ_ _ _ _=>cJ) (λ_ _ _ _=>(bh b c (aq (v_ 0) av))))))
def iV:aX ["room","name","manner","things","bells","deeds","rows","deed","program"] tF (aE gc):=jS
def mZ(F:gS K "room_shown" "room_shown" gc f fd)(B:Bl mg)(h:gZ P w K mg base)(d:gG P w K mg base)(e:nv P w K mg "TEXT_OF" eZ):bT P w K mg base fj 11 f fd tF (gQ #[K,mg] 1 fA):=by
 let a:=iV.nd
 refine cK F iV λg A b s H E c=>?_
 exact(az (oe (v_ 0) (eu L (aH (cv 1 a) (aH (cv 2 a) (aH (cv 3 a) (aH (cv 4 a) (aH (cv 5 a) cX)))))))
  (az (bI 6 a (a8 (cM (cT (a_ (aq (uy (bX aC (bX (hV (v_ 1)) (bX aC (bX (hV (sI e L (v_ 2) (λ_ _=>rfl))) ni))))) av))) (cT (gw h c (aq (v_ 3) av))))))
  (az (bW (dg (v_ 6) (cT (bZ (N:= ["bell","sort"]) (js:= [none,none]) (aG.gen L L L L L L) L (bw (cR (v_ 4))) (λ_ _ _ _=>(eu L (aH (cY 0) (aH (cY 1) cX)))) (λ_ _ _ _=>cJ) (λ_ _ _ _=>(uy (bX aC (bX (hV (v_ 0)) (bX aC (bX (hV (v_ 1)) ni))))))))))
  (az (eP PassesOwn.never L (bw (cR (v_ 5))) (eu L (aH (cv 7 a) (aH (cv 8 a) cX))) (aL (bW (dg (v_ 6) (cT (cM (cT (a_ (aq (uy (bX aC (bX (hV (v_ 7)) ni))) av))) (cT (gw d c (aq (v_ 8) av)))))))))
  (aL (bq (v_ 6)))))))
def iQ:aX ["world","rooms","passes","shared","hands","rows","room","things","program"] sS (aE gb):=jS
def mS(F:gS K "show_world" "show_world" gb f fd)(B:Bl mg)(e:oT P w K mg base)(h:gZ P w K mg base)(d:gG P w K mg base):bT P w K mg base fj 12 f fd sS (gQ #[K,mg] 1 eo):=by
 let a:=iQ.nd
 refine cK F iQ λg A b s H E c=>?_
 exact(az (oe (v_ 0) (eu L (aH (cv 1 a) (aH (cv 2 a) (aH (cv 3 a) (aH (cv 4 a) cX))))))
  (az (jV (n:=5) (N:= ["name","value"]) (js:= [none,none]) (aG.gen L L L L L L) L (bw (cR (v_ 2))) (λ_ _ _ _=>(eu L (aH (cY 0) (aH (cY 1) cX)))) (λ_ _ _ _=>cJ) (λ_ _ _ _=>(uy (bX aC (bX (hV (v_ 0)) (bX aC (bX (hV (v_ 1)) ni)))))) (uu 5 a))
  (az (bW (dg (v_ 5) (cT (bZ (N:=y0) (js:= [none,none]) (aG.gen L L L L L L) L (bw (cR (v_ 3))) (λ_ _ _ _=>(eu L (aH (cY 0) (aH (cY 1) cX)))) (λ_ _ _ _=>cJ) (λ_ _ _ _=>(uy (bX aC (bX (hV (v_ 0)) (bX aC (bX (hV (v_ 1)) ni))))))))))
  (az (eP PassesOwn.never L (bw (cR (v_ 1))) (cv 6 a) (aL (bW (dg (v_ 5) (cT (gw e c (aq (v_ 6) av)))))))
  (az (eP PassesOwn.never L (bw (cR (v_ 4))) (eu L (aH (cv 7 a) (aH (cv 8 a) cX))) (aL (bW (dg (v_ 5) (cT (cM (cT (cM (cT (a_ (aq aC av))) (cT (gw h c (aq (v_ 7) av))))) (cT (gw d c (aq (v_ 8) av)))))))))
  (aL (bq (jQ aC (cR (v_ 5))))))))))
def fu:aX ["_law_told","_law_signs","_law_found","_law_pile","_law_part"] tm (aE dQ):=jS
def jj(F:gS K "_law_sum_words" "_law_sum_words" dQ f fd)(B:Bl mg):bT P w K mg base fj 1 f fd tm (gQ #[K,mg] 1 bH):=by
 let a:=fu.nd
 refine cK F fu λg A c s H E d=>?_
 let e:=d.units0
 let b:=u9 d
 refine az ?st ?_
 case st=>
  with_reducible refine bI ?_ ?_ ?dd ?_ ?_ ?hsz ?_
  case hsz=>exact L
  case dd=>repeat (first|with_reducible exact av|with_reducible exact jW|with_reducible exact aC|with_reducible exact ay|with_reducible refine aq ?_ ?_ ?_|with_reducible refine cw ?_ ?_|with_reducible refine bg ?_|with_reducible refine iB ?_ ?_ ?_|((with_reducible change _=_);exact L)|(intro z;cases z;done)|decide)
  all_goals first|exact a|exact L|exact Or.inl L|exact Or.inr L
 refine az (t4 (oZ (i:=2) (j:=3) L a L L (!1) L L (aq (a8 (a_ av)) (aq (a8 (a_ (aq (v_ 0) av))) av)) L)) ?_
 refine az (sR 64 PassesOwn.never (jw e (cR (v_ 3))) (az (bI 4 a (zy (v_ 3)))
  (aL (ff (nW (s_ (T:="tuple") #[L,L,L,L,L,L,L] L B.isi (v_ 4) (lj (v:=.ty "tuple") L B.tuple PyProof.Rows.boot_tuple L))) (az (bW (dk (v_ 2) (gp b (v_ 1) (cD (v_ 4) ay) (λ_ _=>rfl))))
  (aL (bW (dg (v_ 3) (cT (CN (cT (wG L B.list (cR (lg (v_ 4) (i5 ay) i9)))) (CQ ay))))))) (aL (bW (dk (v_ 2) (iZ lJ (bG fX L B.str (by rfl) (aq (v_ 4) av)))))))))) ?_
 exact aL (bq (v_ 2))
def fZ:aX ["_law_row_here","_law_word","_law_parts"] nJ (aE eC):=jS
def jP(F:gS K "_law_row_text" "_law_row_text" eC f fd)(B:Bl mg)(c:j0 P w K mg base):bT P w K mg base fj 2 f fd nJ (gQ #[K,mg] 1 dD):=by
 let a:=fZ.nd
 refine cK F fZ λe A d s H E b=>?_
 exact(az (bI 1 a (cD (v_ 0) ay))
  (az (ff (x9 (v_ 1) (cR (bg (aq aC (aq aC av))))) (aL (bI 2 a (a8 (gw c b (aq (cD (v_ 0) ay) av))))) (aL (ff (x9 (v_ 1) (cR (bg (aq aC (aq aC av))))) (aL (bI 2 a (a8 (cM (cT (a_ (aq (cD (v_ 0) ay) av))) (cT (gw c b (aq (cD (v_ 0) ay) av))))))) (aL (ff (dG eg eh (v_ 1) aC (bJ _)) (aL (bI 2 a (a8 (cM (cT (a_ (aq (iZ lJ (bG fX L B.str (by rfl) (aq (cD (v_ 0) ay) av))) av))) (cT (gw c b (aq (cD (v_ 0) ay) av))))))) (aL (ff (dG eg eh (v_ 1) aC (bJ _)) (aL (bI 2 a (a8 (cM (cT (a_ (aq (wW (dG wJ vW (cD (v_ 0) ay) xb (bJ _)) aC (cD (v_ 0) ay)) (aq (cD (v_ 0) ay) (aq (cD (v_ 0) ay) av))))) (cT (gw c b (aq (cD (v_ 0) ay) av))))))) (aL (jV (n:=2) (N:= ["_law_part"]) (js:= [none]) (aG.gen L L L L L L) L (bw (cR (lg (v_ 0) (i5 ay) i9))) (λ_ _ _ _=>(cY 0)) (λ_ _ _ _=>cJ) (λ_ _ _ _=>(iZ lJ (bG fX L B.str (by rfl) (aq (v_ 0) av)))) (uu 2 a))))))))))
  (aL (bq (jQ aC (cT (cM (cT (a_ (aq (v_ 1) av))) (cR (v_ 2)))))))))
end
section
variable{P:X9}{w:Xc}{K:X1}{mg:X3}{base:Xe}{f:X8}{fd:FuncData}
def fD:aX ["_law_item","_law_sort","_law_thing","_law_manners"] vV (aE dY):=jS
def jC(F:gS K "_law_item_text" "_law_item_text" dY f fd)(B:Bl mg)(e:kT P w K mg base):bT P w K mg base fj 3 f fd vV (gQ #[K,mg] 1 dn):=by
 let a:=fD.nd
 refine cK F fD λg A c s H E d=>?_
 let b:=u9 d
 exact(az (oe (v_ 0) (eu L (aH (cv 1 a) (aH (cv 2 a) cX))))
  (az (ff (dG eg eh (v_ 1) aC (bJ _)) (aL (bq (bh e d (aq (v_ 2) av)))) ef)
  (az (bI 3 a (iB (cw aC (cw aC jW))))
  (aL (bq (jQ aC (cT (cM (cT (a_ (aq (v_ 1) av))) (cT (bZ (N:= ["_law_one","_law_manners"]) (js:= [none,some 3]) (aG.gen L L L L L L) L (bw (cR (v_ 2))) (λ_ _ _ _=>(cY 0)) (λ_ _ _ _=>cJ) (λ_ _ _ _=>(yi b (v_ 1) (v_ 0) (iZ lJ (bG fX L B.str (by rfl) (aq (v_ 0) av)))))))))))))))
def iP:aX ["_law_world_here","_law_rooms_here","_law_passes","_law_opened","_law_hands","_law_items_here","_law_name","_law_manner","_law_things","_law_bells","_law_deeds","_law_deed","_law_program_here"] fM (aE gB):=jS
def mX(F:gS K "_law_items" "_law_items" gB f fd)(B:Bl mg):bT P w K mg base fj 1 f fd fM (gQ #[K,mg] 1 fo):=by
 let a:=iP.nd
 refine cK F iP λc A b s H E d=>?_
 exact(az (oe (v_ 0) (eu L (aH (cv 1 a) (aH (cv 2 a) (aH (cv 3 a) (aH (cv 4 a) cX))))))
  (az (bI 5 a (a8 (cM (cT (bZ (N:=qA) (js:= [none]) (aG.gen L L L L L L) L (bw (cR (v_ 2))) (λ_ _ _ _=>(cY 0)) (λ_ _ _ _=>cJ) (λ_ _ _ _=>(bg (aq aC (aq (v_ 0) av)))))) (cT (bZ (N:=qA) (js:= [none]) (aG.gen L L L L L L) L (bw (cR (v_ 3))) (λ_ _ _ _=>(cY 0)) (λ_ _ _ _=>cJ) (λ_ _ _ _=>(bg (aq aC (aq (v_ 0) av)))))))))
  (az (eP PassesOwn.never L (bw (cR (v_ 1))) (eu L (aH (cv 6 a) (aH (cv 7 a) (aH (cv 8 a) (aH (cv 9 a) (aH (cv 10 a) cX)))))) (az (bW (dk (v_ 5) (bg (aq aC (aq (bg (aq (v_ 6) (aq (v_ 7) av))) av)))))
  (az (bW (dg (v_ 5) (cT (cM (cT (bZ (N:=qA) (js:= [none]) (aG.gen L L L L L L) L (bw (cR (v_ 8))) (λ_ _ _ _=>(cY 0)) (λ_ _ _ _=>cJ) (λ_ _ _ _=>(bg (aq aC (aq (v_ 0) av)))))) (cT (bZ (N:=qA) (js:= [none]) (aG.gen L L L L L L) L (bw (cR (v_ 9))) (λ_ _ _ _=>(cY 0)) (λ_ _ _ _=>cJ) (λ_ _ _ _=>(bg (aq aC (aq (v_ 0) av))))))))))
  (aL (eP PassesOwn.never L (bw (cR (v_ 10))) (eu L (aH (cv 11 a) (aH (cv 12 a) cX))) (az (bW (dk (v_ 5) (bg (aq aC (aq (bg (aq (v_ 11) av)) av)))))
  (aL (bW (dg (v_ 5) (cT (bZ (N:=nJ) (js:= [none]) (aG.gen L L L L L L) L (bw (cR (v_ 12))) (λ_ _ _ _=>(cY 0)) (λ_ _ _ _=>cJ) (λ_ _ _ _=>(bg (aq aC (aq (v_ 0) av)))))))))))))))
  (az (eP PassesOwn.never L (bw (cR (v_ 4))) (eu L (aH (cv 8 a) (aH (cv 12 a) cX))) (az (bW (dk (v_ 5) (bg (aq aC (aq (bg av) av)))))
  (aL (bW (dg (v_ 5) (cT (cM (cT (bZ (N:=qA) (js:= [none]) (aG.gen L L L L L L) L (bw (cR (v_ 8))) (λ_ _ _ _=>(cY 0)) (λ_ _ _ _=>cJ) (λ_ _ _ _=>(bg (aq aC (aq (v_ 0) av)))))) (cT (bZ (N:=nJ) (js:= [none]) (aG.gen L L L L L L) L (bw (cR (v_ 12))) (λ_ _ _ _=>(cY 0)) (λ_ _ _ _=>cJ) (λ_ _ _ _=>(bg (aq aC (aq (v_ 0) av)))))))))))))
  (aL (bq (v_ 5)))))))
def pB:aX fM fM (aE hX):=jS
def oF(F:gS K "_law_text" "_law_text" hX f fd)(B:Bl mg)(d:pI P w K mg base)(c:j7 P w K mg base):bT P w K mg base fj 4 f fd fM (gQ #[K,mg] 1 gm):=by
 refine cK F pB λe A a s H E b=>?_
 exact(aL (bq (jQ aC (cT (bZ (N:=vV) (js:= [none]) (aG.gen L L L L L L) L (bw (cT (gw d b (aq (v_ 0) av)))) (λ_ _ _ _=>(cY 0)) (λ_ _ _ _=>cJ) (λ_ _ _ _=>(bh c b (aq (v_ 0) av))))))))
def iU:aX ["_law_world_here","_law_kept","_law_found"] fM (aE gD):=jS
def mV(F:gS K "_law_right" "_law_right" gD f fd)(B:Bl mg)(g:ji P w K mg base)(e:p_ P w K mg base)(a:mg "repr"=none):bT P w K mg base fj 13 f fd fM (gQ #[K,mg] 1 dz):=by
 let d:=iU.nd
 refine cK F iU λh A c s H E b=>?_
 exact(az (bI 1 d (uZ b L a (v_ 0)))
  (az (bI 2 d (bh g b (aq (v_ 0) av)))
  (aL (bq (u7 (s_ (T:="str") #[L,L,L,L,L,L,L] L B.isi (v_ 2) (lj (v:=.ty "str") L B.str PyProof.Rows.boot_str L)) (u7 (tO eg eh (v_ 2) (bh e b (aq (v_ 0) av)) (bJ _)) (yO (tO eg eh (uZ b L a (v_ 0)) (v_ 1) (bJ _)))))))))
def vk:aX ["_law_script","_law_pot_here","_law_words_here","_law_ahead","_law_k","_law_world_here"] mF (aE jG):=jS
def Av(F:gS K "law" "law" jG f fd)(B:Bl mg)(e:r9 P w K mg base)(j:oY P w K mg base)(g:oH P w K mg base)(d:pO P w K mg base)(h:ji P w K mg base):bT P w K mg base fj 14 f fd mF (gQ #[K,mg] 1 xM):=by
 let b:=vk.nd
 refine cK F vk λi A c s H E a=>?_
 refine az (bI 1 b (a8 (gw e a (aq (v_ 0) av)))) ?_
 refine az (bI 2 b (a8 (gw j a (aq (v_ 1) (aq ay av))))) ?_
 refine az ?st ?_
 case st=>
  with_reducible refine bI ?_ ?_ ?dd ?_ ?_ ?hsz ?_
  case hsz=>exact L
  case dd=>repeat (first|with_reducible exact av|with_reducible exact jW|with_reducible exact aC|with_reducible exact ay|with_reducible refine aq ?_ ?_ ?_|with_reducible refine cw ?_ ?_|with_reducible refine bg ?_|with_reducible refine iB ?_ ?_ ?_|((with_reducible change _=_);exact L)|(intro z;cases z;done)|decide)
  all_goals first|exact b|exact L|exact Or.inl L|exact Or.inr L
 refine az (eP PassesOwn.never L (mf L B.range (iZ zS (e_ (uH L) L B.max (by rfl) (aq ay (aq (iZ va (e_ (nP L) L B.min (by rfl) (aq ay (aq (nH L B.len (cR (v_ 0))) av)))) av))))) (cv 4 b) (az (bI 5 b (bh g a (aq (v_ 1) (aq (v_ 2) av))))
  (az (ff (PW.pt (w_or (sL (nW (bh d a (aq (v_ 5) av)))) (w_or (sL (nW (bh d a (aq (v_ 3) av)))) (yW (sL (nW (bh d a (aq (v_ 5) av)))))))) (aL (bq DV)) ef)
  (aL (bI 3 b (v_ 5)))))) ?_
 refine aL ?rt
 with_reducible refine bq ?_
 with_reducible refine tO eg eh ?cl aC (bJ _)
 refine bh h a ?_
 with_reducible refine aq ?dd av ?_
 case dd=>repeat (first|with_reducible exact av|with_reducible exact jW|with_reducible exact aC|with_reducible exact ay|with_reducible refine aq ?_ ?_ ?_|with_reducible refine cw ?_ ?_|with_reducible refine bg ?_|with_reducible refine iB ?_ ?_ ?_|((with_reducible change _=_);exact L)|(intro z;cases z;done)|decide)
 exact L
end
def all_mk{l:PySem.W.OpenLaw}{w:Xc}{K:X1}{h:Xe}{mg:X3}{fa f1 f2 f3 f4 f5 f6 f7 f8 f9 a4 g4 c7 c4 a2 A g2 e4 c9 u a3 Q e2 g0 b5 a1 M r:X8}(X:K.In h)(G:h.Ns mainGlobals mg)(g1:mg "law"=some (.ref fa))
  (d1:bS K "_law_pot" i7 f1)
  (d2:bS K "_law_take" gY f2)
  (d3:bS K "_law_of" jO f3)
  (d4:bS K "_law_words" gk f4)
  (d5:bS K "_law_some" hR f5)
  (d6:bS K "_law_values" fI f6)
  (d7:bS K "_law_bare" hE f7)
  (d8:bS K "_law_sum" i_ f8)
  (d9:bS K "_law_row" je f9)
  (e3:bS K "_law_program" eS a4)
  (R:bS K "_law_deed_scope" dF g4)
  (J:bS K "_law_rooms" gA c7)
  (Y:bS K "_law_world" gx c4)
  (f0:bS K "things_shown" eR a2)
  (b3:bS K "sum_written" fK A)
  (e5:bS K "part_shown" gy g2)
  (H:bS K "row_shown" hJ e4)
  (c8:bS K "program_shown" eB c9)
  (b4:bS K "room_shown" gc u)
  (C:bS K "show_world" gb a3)
  (S:bS K "_law_sum_words" dQ Q)
  (c1:bS K "_law_row_text" eC e2)
  (U:bS K "_law_item_text" dY g0)
  (e6:bS K "_law_items" gB b5)
  (y:bS K "_law_text" hX a1)
  (c5:bS K "_law_right" gD M)
  {oc kV dc pm cd ct:Xd} {od an:Option Addr} {sl:Array (Option Value)} (x:PySem.W.nsIn K mainGlobals "law"=some (some (.ref r))) (e7:K.lookup r=some #[oc,od,.func (PySem.W.fnOf "law" "law" (eK jG) (dq jG) (aE jG) .none kV dc pm an cd ct),sl]) (P:PySem.W.codeIn K cd "law"=true) (a5:PySem.W.keepIn K (.ref r)=true)
  {ng rN:Nat} {pq g oD a pf p ou j pz c oB o o9 i:Tok} (t_:PySem.W.nsIn K mainGlobals "SIGN_OF"=some (some (.ref ng))) (rO:K.lookup ng=some #[.type "dict",none,.dict (List.toArray [#[PyData.keyHash w.params "plus",.str "plus" pq,.str "+" g],#[PyData.keyHash w.params "minus",.str "minus" oD,.str "-" a],#[PyData.keyHash w.params "less",.str "less" pf,.str "<" p],#[PyData.keyHash w.params "same",.str "same" ou,.str "=" j],#[PyData.keyHash w.params "both",.str "both" pz,.str "&" c],#[PyData.keyHash w.params "not",.str "not" oB,.str "!" o],#[PyData.keyHash w.params "waits",.str "waits" o9,.str "?" i]]) rN,(List.toArray [])])
  {nB sf:Nat} {pS n pA f:Tok} (ui:PySem.W.nsIn K mainGlobals "TEXT_OF"=some (some (.ref nB))) (qY:K.lookup nB=some #[.type "dict",none,.dict (List.toArray [#[PyData.keyHash w.params "at once",.str "at once" pS,.str "at-once" n],#[PyData.keyHash w.params "when free",.str "when free" pA,.str "when-free" f]]) sf,(List.toArray [])])
  (CL:PySem.W.nsIn K mainGlobals "len"=some none) (ye:PySem.W.nsIn K mainGlobals "tuple"=some none) (AS:PySem.W.nsIn K mainGlobals "list"=some none) (zX:PySem.W.nsIn K mainGlobals "dict"=some none) (BJ:PySem.W.nsIn K mainGlobals "set"=some none) (B0:PySem.W.nsIn K mainGlobals "int"=some none) (Bv:PySem.W.nsIn K mainGlobals "str"=some none) (zF:PySem.W.nsIn K mainGlobals "bool"=some none) (Br:PySem.W.nsIn K mainGlobals "all"=some none) (BS:PySem.W.nsIn K mainGlobals "any"=some none) (yw:PySem.W.nsIn K mainGlobals "range"=some none) (BV:PySem.W.nsIn K mainGlobals "zip"=some none) (u0:PySem.W.nsIn K mainGlobals "sorted"=some none) (oM:PySem.W.nsIn K mainGlobals "isinstance"=some none) (CK:PySem.W.nsIn K mainGlobals "min"=some none) (B8:PySem.W.nsIn K mainGlobals "max"=some none) (CT:PySem.W.nsIn K mainGlobals "abs"=some none) (qt:PySem.W.nsIn K mainGlobals "enumerate"=some none) (rH:PySem.W.nsIn K mainGlobals "reversed"=some none) (Aj:PySem.W.nsIn K mainGlobals "repr"=some none)
  (T:∀ns:List Int,ns.length<=63->∃S',xM [.ref 0] [.frz (ns.map D.int)]=some (.d (.bl true),S')):
  ∃fd:FuncData,(∀(s:X4) (v:Xd),BindsTo s fd #[[v],[]] [("_law_script",v)])/\∀base:Heap,K.In base->base.Ns mainGlobals mg->bT l.prog w K mg base fj 14 fa fd mF qy:=by
 let e:=g1.symm.trans (PySem.W.mg_of X G x)
 cases e
 let b2:=rM (st:=jG) e7 P a5
 let O1:=d1.ok1 (ps:=mF) X G
 let O2:=d2.ok1 (ps:=kL) X G
 let O3:=d3.ok1 (ps:=ql) X G
 let O4:=d4.ok1 (ps:=kL) X G
 let O5:=d5.ok1 (ps:=sZ) X G
 let O6:=d6.ok1 (ps:=fP) X G
 let O7:=d7.ok1 (ps:=tU) X G
 let O8:=d8.ok1 (ps:=nc) X G
 let O9:=d9.ok1 (ps:=qg) X G
 let g3:=e3.ok1 (ps:=tM) X G
 let N:=R.ok1 (ps:=yg) X G
 let e8:=J.ok1 (ps:=fP) X G
 let b9:=Y.ok1 (ps:=fP) X G
 let b8:=f0.ok1 (ps:=qB) X G
 let z:=b3.ok1 (ps:=mm) X G
 let e0:=e5.ok1 (ps:=lK) X G
 let b7:=H.ok1 (ps:=qw) X G
 let c3:=c8.ok1 (ps:=qH) X G
 let c2:=b4.ok1 (ps:=tF) X G
 let e9:=C.ok1 (ps:=sS) X G
 let b0:=S.ok1 (ps:=tm) X G
 let b6:=c1.ok1 (ps:=nJ) X G
 let c6:=U.ok1 (ps:=vV) X G
 let I:=e6.ok1 (ps:=fM) X G
 let e1:=y.ok1 (ps:=fM) X G
 let b1:=c5.ok1 (ps:=fM) X G
 have iz:nv l.prog w K mg "SIGN_OF" dU:=qd (PySem.W.mg_of X G t_) rO (.cons (.cons (.cons (.cons (.cons (.cons (.cons .nil))))))) (by decide +kernel)
 have jZ:nv l.prog w K mg "TEXT_OF" eZ:=qd (PySem.W.mg_of X G ui) qY (.cons (.cons .nil)) (by decide +kernel)
 have B:Bl mg:=#[QFq X G CL,QFq X G ye,QFq X G AS,QFq X G zX,QFq X G BJ,QFq X G B0,QFq X G Bv,QFq X G zF,QFq X G Br,QFq X G BS,QFq X G yw,QFq X G BV,QFq X G u0,QFq X G oM,QFq X G CK,QFq X G B8,QFq X G CT,QFq X G qt,QFq X G rH]
 refine#[PySem.W.fnOf "law" "law" (eK jG) (dq jG) (aE jG) .none kV dc pm an cd ct,λs v=>.of_eq L,λbase _ _=>?_]
 have Z:Pk l.prog w base:=#[]
 let i6:=O1.cal Z λ_ F _ _ _=>qU F B
 let q:=O2.cal Z λ_ F _ _ _=>pb F B
 let t:=O3.cal Z λ_ F _ _ _=>rg F B q
 let gF:=O4.cal Z λ_ F _ _ _=>mP F B t q
 let bE:=O5.cal Z λ_ F _ _ _=>oK F B q
 let bO:=O6.cal Z λ_ F _ _ _=>lD F B q
 let fm:=O7.cal Z λ_ F _ _ _=>pD F B q t
 let dt:=O8.cal Z λ_ F b k m=>kO F B q fm t b k m 5
 let jb:=O9.cal Z λ_ F _ _ _=>qD F B t dt q
 let cC:=g3.cal Z λ_ F _ _ _=>k_ F B q jb
 let dI:=N.cal Z λ_ F _ _ _=>jf F B
 let gv:=e8.cal Z λ_ F _ _ _=>mL F B bE t bO q cC dI
 let gu:=b9.cal Z λ_ F _ _ _=>mW F B gv bE t q cC bO
 let cz:=b8.cal Z λ_ F _ _ _=>kP F B
 let dh:=z.cal Z λ_ F b k m=>hU F B iz b k m 6
 let gi:=e0.cal Z λ_ F _ _ _=>mN F B dh
 let g_:=b7.cal Z λ_ F _ _ _=>ot F B gi
 let cb:=c3.cal Z λ_ F _ _ _=>ka F B g_
 let gq:=c2.cal Z λ_ F _ _ _=>mZ F B cz cb jZ
 let c_:=e9.cal Z λ_ F _ _ _=>mS F B gq cz cb
 let bR:=b0.cal Z λ_ F _ _ _=>jj F B
 let eD:=b6.cal Z λ_ F _ _ _=>jP F B bR
 let dS:=c6.cal Z λ_ F _ _ _=>jC F B eD
 let gC:=I.cal Z λ_ F _ _ _=>mX F B
 let hG:=e1.cal Z λ_ F _ _ _=>oF F B gC dS
 let dA:=b1.cal Z λ_ F _ _ _=>mV F B c_ hG (QFq X G Aj)
 exact yo (Av b2 B i6 gF gu dA c_) T
end W28
namespace DL
open PySem PySem.Spec L2
def du{a:bV}{S:aB}{Q:Bool->aB->Prop}(q:Q true S):E bP a S Q:=#[_,_,L,q]
section
variable{S:aB}
def Eo{i j:Int}{Q:D->Prop}(q:Q (.int (i+j))):Op (cQ S (.int i) (.int j)) Q:=#[_,L,q]
def zU{i j:Str}{Q:D->Prop}(h:i.length+j.length<=sizeLine)(q:Q (.str (i++j))):Op (cQ S (.str i) (.str j)) Q:=#[_,by erw[cQ];rw[Qhq h],q]
def wH{i j:List D}{Q:D->Prop}(h:i.length+j.length<=sizeLine)(q:Q (.tup (i++j))):Op (cQ S (.tup i) (.tup j)) Q:=#[_,by erw[cQ];rw[Qhq h],q]
def De{k:Int->Int->D}{i j:Int}{Q:D->Prop}(q:Q (k i j)):Op (intD (λ_ _=>True) k S (.int i) (.int j)) Q:=#[_,by erw[intD,if_true],q]
def jr{i j:Int}{Q:D->Prop}(h:0<j)(q:Q (.int (i%j))):Op (la S (.int i) (.int j)) Q:=#[_,by erw[la,intD];rw[Qhq h],q]
def o_{i j:Int}{Q:D->Prop}(h:vI i j)(q:Q (.int (i/j))):Op (lR S (.int i) (.int j)) Q:=#[_,by erw[lR,intD];rw[Qhq h],q]
def kD{i j:Int}{Q:D->Prop}(h:AF i j)(q:Q (.int (i*j))):Op (lQ S (.int i) (.int j)) Q:=#[_,by erw[lQ,intD];rw[Qhq h.ok],q]
def bM{a:List D}{i:Int}{d:D}{Q:D->Prop}(h:j4 a i=some d)(q:Q d):Op (eJ S (.tup a) (.int i)) Q:=#[_,h,q]
def dE{k:Nat}{a:List D}{i:Int}{d:D}{Q:D->Prop}(b:S[k]?=some (.lst a))(h:j4 a i=some d)(q:Q d):Op (eJ S (.ref k) (.int i)) Q:=#[_,by erw[eJ,b];exact h,q]
def fe{a:List D}{Q:List D×Tag->Prop}(q:Q (a,.tu)):Op (ly S (.tup a)) Q:=#[_,L,q]
def bb{k:Nat}{a:List D}{Q:List D×Tag->Prop}(b:S[k]?=some (.lst a))(q:Q (a,.st k)):Op (ly S (.ref k)) Q:=#[_,by erw[ly,b],q]
def cp{α:Type}{o:Option α}{d:α}{Q:α->Prop}(h:o=some d)(q:Q d):Op o Q:=#[d,h,q]
end
def aN{b:Bool}{p q:Prop}(a:b=true->p)(c:b=false->q):if b=true then p else q:=by
 cases b with
 |true=>exact a L
 |false=>exact c L
theorem wA{c:ia}{b:dy}{Q:Out->Prop}(I:Nat->bV->aB->Prop)(l:∀m a S,I m a S->E c a S λk i=>if k=true then T b a i λo=>match o with|.nx e f=>∃g,m=g+1/\I g e f|.rt d f=>Q (.rt d f)|_=>False else Q (.nx a i)):
  ∀(n m:Nat) (a:bV) (S:aB),m<n->I m a S->T (uP c b n) a S Q
 |0,_,_,_,h,_=>absurd h (Nat.not_lt_zero _)
 | n+1,m,a,S,h,hi=>by
   let#[k,i,j,q]:=l m a S hi
   cases k with
   |false=>exact#[_,by erw[uP];rw[j];rfl,q]
   | true=>
     let#[o,p,q]:=(q:T b a i _)
     cases o with
     | nx e f=>
       let#[g,rfl,q]:=(q:∃g,m=g+1/\I g e f)
       let#[o,r,q]:=wA I l n g e f (!0) q
       exact#[o,by erw[uP];rw[j];erw[Qbq,if_true];rw[p];exact r,q]
     |rt d f=>exact#[_,by erw[uP];rw[j];erw[Qbq,if_true];rw[p];rfl,q]
     |_=>exact q.elim
def CM{n:Nat}{b:dy}{c:List D}{S:aB}{Q:Res->aB->Prop}(h:T b (c.map some++List.replicate (n-c.length) none) S λo=>match o with|.nx _ a=>Q (.d .non) a|.rt d a=>Q (.d d) a|.rl l a=>Q (.l l) a|_=>False):Fn (z7 n b) c S Q:=by
 let#[o,e,q]:=h
 cases o with
 |nx _ a=>exact#[_,_,by unfold z7;rw[e];rfl,q]
 |rt d a=>exact#[_,_,by unfold z7;rw[e];rfl,q]
 |rl l a=>exact#[_,_,by unfold z7;rw[e];rfl,q]
 |_=>exact q.elim
def jJ{b:bV}{S:aB}{f g:a0}{Q:D->aB->Prop}(h:E f b S λx c=>E g b c λy a=>∃k l z v,x=.ref k/\y=.str z/\a[k]?=some (.dct l)/\gP l (.inr z)=some v/\Q v a):E (uQ f g) b S Q:=by
 let#[x,c,d,y,a,e,k,l,z,v,rfl,rfl,h1,h2,q]:=h
 exact#[_,_,by unfold uQ;rw[d];erw[Qbq];rw[e];erw[Qbq,h1,rV];rw[h2];rfl,q]
def v9{S:aB}{i j:Int}{Q:D->Prop}(q:Q (.bl (decide (i=j)))):Op (lh false S (.int i) (.int j)) Q:=#[_,by refine((if_pos (c:=vR (.int i) (.int j)=true) (e:=none) rfl).trans ?_);simp,q]
def cZ{S:aB}{i j:Str}{Q:D->Prop}(q:Q (.bl (decide (i=j)))):Op (lh false S (.str i) (.str j)) Q:=#[_,by refine((if_pos (c:=vR (.str i) (.str j)=true) (e:=none) rfl).trans ?_);simp,q]
def mU{x:D}{xs:List D}:j4 (x::xs) 0=some x:=by
 unfold j4 ud
 rw[Qhq (!0),Qhq (by erw[Qnq];omega)]
 rfl
def EI{n:Nat}:ud (n+1) 0=some 0:=by
 unfold ud
 rw[Qhq (!0),Qhq (!0)]
 rfl
def B1{x:D}{xs:List D}(h:xs.length<999):gV (x::xs) [.int 0]=some (xs,x):=by
 have e:seqIndex? ((0:Nat):Int) (xs.length+1)=some 0:=(ll (j:=0) (by unfold ud;rw[Qhq (!0),Qhq (!0)];simp)).1
 erw[gV]
 rw[Qhq (!0)]
 show(seqIndex? ((0:Nat):Int) (xs.length+1)).bind _=_
 rw[e]
 rfl
end DL
local macro_rules(kind:=Lean.Parser.Tactic.injection)|s=>t2 s 6
local macro_rules(kind:=Lean.Parser.Tactic.injection)|s=>match s[1].isNatLit? with|none=>t1|some k=>do
 let l:=(("fY|EF|Eb|zP|Ei|EG|Ey|Ew|t_auS|EA|zh|si|yQ|Ek|yc|D9|DE|fO|eI|Es|DH|Bi|yx|Dq|C8|Du|Ec|DG|z4|El|Er|du|bc|ED|Eg|ed|Eo|De|fe".splitOn "|").drop (7*k)).take 7
 pure<|x5<|if k=6 then Z5 else
  "'with_reducible 'first"++String.join (l.map λx=>" 'refine $DL."++x++" Y A1,null E2,app T2,refine G")++" A"++toString l.length++",null T2,first S T2,withReducible"
local macro_rules|`(tactic|symm)=>`(tactic|repeat injection 0)
local macro_rules|`(tactic|apply $e)=>`(tactic|(refine $e;symm))
namespace W28
open PySem PySem.Spec L2 DL
def k9(j:Nat)(b c:Int):O:=.lst [.ref j,.int b,.int c]
def gj(a:List Int):O:=.lst (a.map D.int)
def bF{S:aB}{j:Nat}{o o':O}(h:S[j]?=some o):(S.set j o')[j]?=some o':=Qyq (gQs.mp h).1
def bB{S:aB}{k j:Nat}{o o':O}(n:j≠k)(h:S[j]?=some o):(S.set k o')[j]?=some o:=by
 rw[QKq (Ne.symm n)]
 exact h
def lX{S:aB}{k j:Nat}{o o':O}(h:mO S.length o=true)(h':mO S.length o'=true):hZ S ((S.set j o').set k o):=by
 refine#[by simp,λi u _ e=>?_]
 rw[List.getElem?_set] at e
 split at e
 ·split at e
  ·cases e;exact .inr h
  ·cases e
 ·exact(uO h').2 i u (by assumption) e
def oU(m:Nat)(a:List Int):mO m (gj a)=true:=by
 show a6 m (a.map D.int)=true
 induction a with
 |nil=>rfl
 |cons c a b=>exact b
def uX{S:aB}{j:Nat}{o:O}(h:S[j]?=some o):S.set j o=S:=List.ext_getElem? λi=>by
 by_cases z:i=j
 ·subst z;rw[Qyq (gQs.mp h).1,h]
 ·rw[QKq (Ne.symm z)]
def ub{S:aB}{k j:Nat}{r:List Int}{b c m:Int}{Q:Res->aB->Prop}(C:S[k]?=some (k9 j b c))(s:S[j]?=some (gj r))(P:k≠j)(F:r.length<64)(N:0<=c)(U:c<1000000000)(n:0<m)(R:m<1000000)
  (h:∀(d B:Int) (a:List Int),0<=d->d<m->0<=B->B<=c+1->a.length<64->Q (.d (.int d)) ((S.set j (gj a)).set k (k9 j b B))):Fn aK [.ref k,.int m] S Q:=by
 have W:k<S.length:=(gQs.mp C).1
 have w:j<S.length:=(gQs.mp s).1
 have f:∀a,(S.set j (gj a))[k]?=some (k9 j b c):=λa=>bB P C
 have g:∀a,(S.set j (gj a))[j]?=some (gj a):=λa=>bF s
 refine dN ?_
 unfold mv
 have H:∀o A:O,((S.set j A).set k o).take S.length=(S.set j A).set k o:=λo A=>by rw[List.take_of_length_le];simp
 have p:∀x y:Int,mO S.length (k9 j x y)=true:=λx y=>by
  show a6 S.length [D.ref j,.int x,.int y]=true
  simp[a6,bx,w]
 refine fY (T.mono (Q:=λo=>∃a:List Int,a.length<64/\o=.nx [some (.ref k),some (.int m),none,none] (S.set j (gj a))) (wA (λI l J=>∃a:List Int,a.length=I/\a.length<64/\l= [some (.ref k),some (.int m),none,none]/\J=S.set j (gj a)) (λI l J ⟨a,M,e,u,v⟩=>?_) 64 r.length _ _ F #[r,L,F,L,?_]) λo ⟨a,e,K⟩=>?_)
 ·subst u v
  refine z4 ?_
  symm
  refine dE (f _) mU ?_
  refine bb (g _) #[#[L,g _],?_]
  cases a with
  |nil=>exact#[[],e,L]
  | cons z a=>
    refine aN (λ_=>?_) (λz=>by cases z)
    symm
    refine dE (f _) mU ?_
    symm
    refine dE (g _) mU ?_
    symm
    refine v9 ?_
    symm
    refine aN (λ_=>?_) (λ_=>#[_,e,L])
    symm
    refine i4 ?_
    symm
    refine dE (f _) mU ?_
    refine#[j,_,L,g _,?_]
    symm
    refine#[_,g _,cp (d:=(a.map D.int,D.int z)) (B1 (x:=.int z) (xs:=a.map D.int) (by rw[lQm];erw[Qnq] at e;omega)) ?_]
    symm
    exact#[_,M.symm,a,L,Nat.lt_of_succ_lt e,L,by rw[List.set_set];rfl]
 ·exact(uX s).symm
 subst K
 symm
 refine dE (f _) mU ?_
 refine bb (g _) #[#[L,g _],?_]
 refine aN (λt=>?_) (λ_=>?_)
 ·cases a with
  |nil=>cases t
  | cons z a=>
    symm
    refine dE (f _) mU ?_
    symm
    refine dE (g _) mU ?_
    symm
    refine jr n ?_
    symm
    refine dE (f _) mU ?_
    symm
    refine dE (g _) mU ?_
    symm
    refine o_ #[n,by omega] ?_
    symm
    refine dE (f _) mU ?_
    symm
    refine#[j,0,_,0,L,L,g _,by rw[QDq,Qnq];exact EI,?_]
    symm
    rw[show((S.set j (gj (z::a))).set j (.lst (((z::a).map D.int).set 0 (.int (z/m)))))=(S.set j (gj (z/m::a))).set k (k9 j b c) by rw[List.set_set,uX (f _)];rfl]
    refine fN (lX (p _ _) (oU _ _)) (H _ _) (λ_ z=>by cases z) L ?_
    exact h _ _ _ (Int.emod_nonneg _ (!0)) (Int.emod_lt_of_pos _ n) N (!0) e
 ·have q:∀o:O,((S.set j (gj a)).set k o)[k]?=some o:=λo=>bF (f a)
  symm
  refine dE (f _) L ?_
  symm
  refine#[k,2,_,2,L,L,f _,L,?_]
  symm
  refine dE (q _) L ?_
  symm
  refine dE (q _) L ?_
  refine kD (.inl #[by decide,by decide]) ?_
  symm
  refine dE (q _) L ?_
  refine kD (.inr #[by omega,by omega]) ?_
  symm
  refine kD (.inr #[by decide,by decide]) ?_
  symm
  refine jr (!1) ?_
  generalize i:(_:Int)%2305843009213693921=mx
  have X:0<=mx:=by rw[<-i];exact Int.emod_nonneg _ (!1)
  have Y:mx<2305843009213693921:=by rw[<-i];exact Int.emod_lt_of_pos _ (!1)
  symm
  refine jr (!1) ?_
  symm
  refine dE (q _) L ?_
  refine kD (.inl #[by decide,by decide]) ?_
  symm
  refine kD (.inl #[by omega,by omega]) ?_
  symm
  refine jr (!1) ?_
  symm
  refine o_ #[by decide,by decide] ?_
  symm
  refine o_ #[by decide,by decide] ?_
  symm
  refine jr n ?_
  symm
  refine fN (lX (p _ _) (oU _ _)) (H _ _) (λ_ z=>by cases z) L ?_
  exact h _ _ _ (Int.emod_nonneg _ (!0)) (Int.emod_lt_of_pos _ n) (!0) (!0) e
end W28
namespace DL
open PySem PySem.Spec L2
mutual
theorem jt{m:Nat}:∀{d:D},bx 0 d=true->bx m d=true
 |.non,_=>rfl
 |.bl _,_=>rfl
 |.int _,_=>rfl
 |.str _,_=>rfl
 |.tup ds,h=>by erw[bx] at h|-;exact eM h
 |.ref k,h=>by simp[bx] at h
 |.fn _,_=>rfl
theorem eM{m:Nat}:∀{a:List D},a6 0 a=true->a6 m a=true
 | [],_=>rfl
 | d::a,h=>by
   erw[a6,QCq] at h|-
   exact#[jt h.1,eM h.2]
end
theorem iA{m:Nat}:∀{a:List D},(∀d∈a,bx m d=true)->a6 m a=true
 | [],_=>rfl
 | d::a,h=>by
   erw[a6,QCq]
   exact#[h d (QBq ..),iA λe b=>h e (Qpq _ b)]
def cN{α:Type}{m:Nat}{f:α->D}{l:List α}(h:∀a∈l,bx m (f a)=true):a6 m (l.map f)=true:=iA λd c=>by
 let#[a,b,rfl]:=Qkq.mp c
 exact h a b
def no_ref{d:D}(h:bx 0 d=true):∀k,d≠.ref k:=λk e=>by subst e;simp[bx] at h
end DL
namespace W28
open PySem PySem.Spec L2 DL
structure Ex(k j n:Nat)(S S':aB):Prop where
 len:S.length<=S'.length
 jk:j<k
 keep:∀(i:Nat) (o:O),i≠k->i≠j->S[i]?=some o->S'[i]?=some o
 pot:∃cs b c,S'[k]?=some (k9 j b c)/\S'[j]?=some (gj cs)/\cs.length<64/\0<=c/\c<=n
section
variable{k j n m:Nat}{S S0 S1 S':aB}
def Ex.at(x:Ex k j n S S'){i:Nat}{o:O}(hi:k<i)(h:S[i]?=some o):S'[i]?=some o:=x.keep i o (!0) (by have:=x.jk;omega) h
def Ex.here(x:Ex k j n S0 S):Ex k j n S S:=#[Qmq _,x.jk,λ_ _ _ _ h=>h,x.pot]
def Ex.mono(x:Ex k j n S S')(h:n<=m):Ex k j m S S':=#[x.len,x.jk,x.keep,by let#[g,b,c,a,f,d,e,i]:=x.pot;exact#[g,b,c,a,f,d,e,by omega]]
def Ex.trans(x:Ex k j n S S1)(y:Ex k j m S1 S'):Ex k j m S S':=#[QAq x.len y.len,x.jk,λi o b a h=>y.keep i o b a (x.keep i o b a h),y.pot]
def Ex.lt(x:Ex k j n S S'):k<S'.length:=by
 let#[_,_,_,h,_]:=x.pot
 exact(gQs.mp h).1
def Ex.set{a:List Int}{b c:Int}(x:Ex k j n S S')(h:a.length<64)(g:0<=c)(f:c<=m):Ex k j m S ((S'.set j (gj a)).set k (k9 j b c)):=by
 have:=x.jk
 have:=x.lt
 refine#[by simpa using x.len,x.jk,λi o e d h=>?_,a,b,c,?_,?_,h,g,f]
 ·rw[QKq (Ne.symm e),QKq (Ne.symm d)]
  exact x.keep i o e d h
 ·rw[Qyq (by simpa using x.lt)]
 ·rw[QKq (!0),Qyq (!0)]
def aM{G:aB}{i:Nat}{o:O}(h:S[i]?=some o):(S++G)[i]?=some o:=by
 rw[QHq (gQs.mp h).1]
 exact h
def aR{o:O}:(S++ [o])[S.length]?=some o:=by simp
def Ex.app{G:aB}(x:Ex k j n S S'):Ex k j n S (S'++G):=by
 let#[q,b,c,a,f,d,e,p]:=x.pot
 exact#[by rw[lQa];have:=x.len;omega,x.jk,λi o g l h=>aM (x.keep i o g l h),q,b,c,aM a,aM f,d,e,p]
def Ex.put{r:Nat}{o:O}(x:Ex k j n S S')(t:S.length<=r)(u:k<S.length):Ex k j n S (S'.set r o):=by
 let#[d,b,c,a,f,e,q,l]:=x.pot
 have:=x.jk
 refine#[by simpa using x.len,x.jk,λi p g s h=>?_,d,b,c,bB (!0) a,bB (!0) f,e,q,l]
 let v:=(gQs.mp h).1
 exact bB (!0) (x.keep i p g s h)
def Ex.clean(x:Ex k j n S S')(p:k<S.length):hZ S S'/\∃g,∃b c:Int,g.length<64/\0<=c/\c<=n/\S'.take S.length=(S.set j (gj g)).set k (k9 j b c):=by
 let#[g,b,c,h,l,q,r,s]:=x.pot
 let t:=x.jk
 refine#[#[x.len,λi o a e=>?_],g,b,c,q,r,s,?_]
 ·by_cases d:i=k
  ·subst d;rw[h] at e;cases e
   refine .inr ?_
   show a6 S.length [D.ref j,.int b,.int c]=true
   erw[a6,bx,Bool.and_true,decide_eq_true_eq]
   omega
  ·by_cases f:i=j
   ·subst f;rw[l] at e;cases e;exact .inr (oU _ _)
   ·rw[x.keep i _ d f (gQe a)] at e
    rw[gQe a]
    exact .inl e
 ·apply List.ext_getElem?
  intro i
  by_cases a:i<S.length
  ·rw[List.getElem?_take_of_lt a]
   by_cases d:i=k
   ·subst d;rw[h,Qyq (by simpa using p)]
   ·rw[QKq (Ne.symm d)]
    by_cases f:i=j
    ·subst f;rw[l,Qyq a]
    ·rw[QKq (Ne.symm f),x.keep i _ d f (gQe a),gQe a]
  ·rw[List.getElem?_eq_none (by rw[Qxq];omega),List.getElem?_eq_none (by simp;omega)]
def gH{d:D}{Q:Res->aB->Prop}(e:Ex k j n S S')(x:Ex k j m S0 S)(f:bx 0 d=true)(q:∀a,Ex k j n S0 a->Ex k j n S a->a.length=S.length->Q (.d d) a):Op (settle S d S') λp=>Q p.1 p.2:=by
 let#[l,r,b,c,h,i,g,o]:=e.clean x.lt
 exact fN l o (no_ref f) (jt f) (q _ (x.set h i g) (x.here.set h i g) (by simp))
def Bz{f:List D}{Q:Res->aB->Prop}(e:Ex k j n S S')(x:Ex k j m S0 S)(o:∀d∈f,bx 0 d=true)(q:∀a,Ex k j n S0 a->Ex k j n S a->a.length=S.length->Q (.l f) a):Op (dJ S f S') λp=>Q p.1 p.2:=by
 let#[r,t,b,c,h,i,g,s]:=e.clean x.lt
 exact mi r s (eM (iA o)) (q _ (x.set h i g) (x.here.set h i g) (by simp))
def Cf{r:Nat}{f:List D}{Q:Res->aB->Prop}(e:Ex k j n S S')(x:Ex k j m S0 S)(v:S.length<=r)(t:S'[r]?=some (.lst f))(u:∀d∈f,bx 0 d=true)(q:∀a,Ex k j n S0 a->Ex k j n S a->a.length=S.length->Q (.l f) a):Op (settle S (.ref r) S') λp=>Q p.1 p.2:=by
 let#[o,w,b,c,h,i,g,s]:=e.clean x.lt
 refine#[(.l f,S'.take S.length),?_,?_]
 ·unfold DL.settle
  rw[Qhq o]
  erw[t]
  rw[Quq (!0),Qhq (eM (iA u))]
 ·rw[s]
  exact q _ (x.set h i g) (x.here.set h i g) (by simp)
def bN{m:Int}{Q:Res->aB->Prop}(x:Ex k j n S0 S)(v:n<1000000000)(q:0<m)(l:m<1000000)
  (h:∀(d:Nat) (S':aB),(d:Int)<m->Ex k j (n+1) S0 S'->Ex k j (n+1) S S'->S'.length=S.length->Q (.d (.int d)) S'):Fn aK [.ref k,.int m] S Q:=by
 let#[u,b,c,f,o,g,s,y]:=x.pot
 refine ub f o (by have:=x.jk;omega) g s (!0) q l λd z p t r e w a=>?_
 obtain⟨i,rfl⟩:∃i:Nat,d=i:=#[d.toNat,by omega]
 exact h i _ r (x.set a e (!0)) (x.here.set a e (!0)) (by simp)
def aP{α:Type}{xs:List α}{i:Nat}{x:α}(h:xs[i]?=some x):j4 xs (i:Int)=some x:=by
 let a:=(gQs.mp h).1
 unfold j4 ud
 rw[Qhq (!0),Qhq (!0)]
 simpa using h
def nX{i:Nat}{xs:List D}{Q:Res->aB->Prop}(x:Ex k j n S0 S)(q:n<1000000000)(hi:k<i)(g:S[i]?=some (.lst xs))(v:0<xs.length)(s:xs.length<1000)(r:∀d∈xs,bx 0 d=true)
  (h:∀(d:D) (S':aB),d∈xs->Ex k j (n+1) S0 S'->Ex k j (n+1) S S'->S'.length=S.length->Q (.d d) S'):Fn aZ [.ref k,.ref i] S Q:=by
 refine dN ?_
 unfold qV
 symm
 apply bb g ?_
 refine bN x.here q (by show(0:Int)<xs.length;omega) (by show(xs.length:Int)<1000000;omega) λd S' p l u o=>?_
 dsimp only
 have e:d<xs.length:=by have:(d:Int)<(xs.length:Int):=p;omega
 refine dE (l.at hi g) (aP (gQe e)) ?_
 let f:=List.getElem_mem e
 exact gH l x (r _ f) λt a b c=>h _ _ f a b c
end
end W28
namespace DL
open PySem PySem.Spec L2
theorem nL:∀a:List Str,nO (a.map D.str)=some a
 | []=>rfl
 |s::a=>by erw[QDq,nO];rw[nL a];rfl
def Ba{c:bV}{S:aB}{f:dP}{Q:List D->aB->Prop}(h:E f c S λp b=>p.2.isL=true/\∃a:List Str,p.1=a.map D.str/\a.length<64/\Q ((jd a).map D.str) b):E (tR f) c S Q:=by
 let#[p,b,d,l,a,e,g,q]:=h
 exact#[_,b,by unfold tR;rw[d];erw[Qbq];rw[Qhq l,e,nL];erw[Qbq];rw[Qhq g],q]
def eY{a:List D}{y:D}{Q:List D×D->Prop}(h:a.length<sizeLine)(q:Q (a++ [y],.non)):Op (gR a [y]) Q:=#[_,by erw[gR];rw[Qhq h],q]
theorem ny{α a:Type}(g:α->a):∀(l:List α) (k:Nat),(l.map g).eraseIdx k=(l.eraseIdx k).map g
 | [],_=>rfl
 |_::_,0=>rfl
 |x::l,k+1=>congrArg (g x::·) (ny g l k)
def we{α:Type}{b a c:List α}{j:Nat}(d:j<a.length)(h:(b++a).Perm c):((b++ [a[j]])++a.eraseIdx j).Perm c:=by
 refine List.Perm.trans ?_ h
 rw[Qvq]
 refine List.Perm.append_left b ?_
 show(a[j]::a.eraseIdx j).Perm a
 rw[List.eraseIdx_eq_take_drop_succ]
 have e:a=a.take j++a[j]::a.drop (j+1):=by rw[<-QWq d,List.take_append_drop]
 refine List.Perm.trans ?_ (List.Perm.of_eq e.symm)
 exact List.perm_middle.symm
def Cz{n j:Nat}(h:j<n)(a:n<1000):seqIndex? (j:Int) n=some j:=(ll (by unfold ud;rw[Qhq (!0),Qhq (!0)];simp)).1
def lz{m:Int}{i:Nat}{d:D}(h:(kZ 0 m)[i]?=some d):(i:Int)<m/\d=.int i:=by
 let b:=(gQs.mp h).1
 erw[kZ,lQm,QVq] at b
 erw[kZ,gQm] at h
 let#[j,a,rfl]:=oQm.mp h
 have:=(gQs.mp a).2
 simp at this
 subst this
 exact#[by omega,by simp]
def pM{m:Int}(h:0<=m):((kZ 0 m).length:Int)=m:=by
 erw[kZ,lQm,QVq]
 omega
def Cm{S:aB}{z:Str}{i:Int}{c:Nat}{Q:D->Prop}(a:z.length<=sizeLine)(h:j4 z.cps.toList i=some c)(q:Q (.str #[(List.toArray [c])])):Op (eJ S (.str z) (.int i)) Q:=#[_,by erw[eJ];rw[Qhq a,h];rfl,q]
def tH{c:bV}{S:aB}{i j:Nat}{f:dM}{Q:Out->Prop}(h:E f c S λd e=>∃a b,d= [a,b]/\Q (.nx ((c.set i (some a)).set j (some b)) e)):T (rY i j f) c S Q:=by
 let#[d,e,g,a,b,rfl,q]:=h
 exact#[_,by unfold rY;rw[g];rfl,q]
def sG{b:bV}{S:aB}{f:dP}{Q:List D->aB->Prop}(h:E f b S λp a=>Q p.1 a):E (tq f) b S Q:=by
 let#[p,a,c,q]:=h
 exact#[_,a,by unfold tq;rw[c];rfl,q]
def zg{i j:Int}{Q:D->Prop}(q:Q (.int (if j<i then j else i))):Op (minD [.int i,.int j]) Q:=#[_,L,q]
end DL
namespace W28
open PySem PySem.Spec L2 DL
def lets:Str:="abcdefghijklmnopqrstuvwxyz"
def let1(i:Nat):Str:=#[(List.toArray [lets.cps.toList.getD i 0])]
def A_:List Str:= ["","zq","x","qqzzx","zqzqzqz"]
def nm(i j:Nat):Str:=let1 i++A_.getD j ""
def i8(x:Str):Prop:=∃i j,i<26/\j<5/\x=nm i j
def zk(f s a:Nat):List Str:=(List.range a).map λk=>nm ((f+s*k)%26) ((f+k*k)%5)
def lH:∀i,i<26->∀j,j<5->PyData.strOk (nm i j)=true/\(nm i j).length<=8/\(let1 i).length+(A_.getD j "").length<=8:=by decide +kernel
def i8.ok{x:Str}(h:i8 x):PyData.strOk x=true:=by let#[i,j,b,a,rfl]:=h;exact(lH i b j a).1
def i8.len{x:Str}(h:i8 x):x.length<=8:=by let#[i,j,b,a,rfl]:=h;exact(lH i b j a).2.1
def zK{f s m:Nat}:∀x∈zk f s m,i8 x:=λx a=>by
 let#[k,_,rfl]:=Qkq.mp a
 exact⟨_,_,Nat.mod_lt _ (!1),Nat.mod_lt _ (!1),L⟩
def AB:∀i:Nat,i<26->j4 lets.cps.toList (i:Int)=some (lets.cps.toList.getD i 0):=by decide +kernel
def AY(j:Nat)(a:j<5):j4 (([.str "",.str "zq",.str "x",.str "qqzzx",.str "zqzqzqz"]:List D)) (j:Int)=some (.str (A_.getD j "")):=by
 rcases j with _|_|_|_|_|j
 ·rfl
 ·rfl
 ·rfl
 ·rfl
 ·rfl
 ·omega
section
variable{k j n:Nat}{S S0:aB}{Q:Res->aB->Prop}
def vq{e:Nat}(x:Ex k j n S0 S)(Y:n<999999990)(Z:e<=26)
  (h:∀(f s:Nat) (m:aB),f<26->s∈([1,3,5,7,9,11]:List Nat)->Ex k j (n+2) S0 m->Ex k j (n+2) S m->m.length=S.length->Q (.l ((zk f s e).map D.str)) m):Fn fB [.ref k,.int e] S Q:=by
 let J:=x.lt
 refine dN ?_
 unfold kF
 symm
 apply tH ?_
 apply bN x.here (!0) (!1) (!1) λf S1 R F _ W=>?_
 apply⟨by decide,?_⟩
 refine nX (F.app (G:= [O.lst [.int 1,.int 3,.int 5,.int 7,.int 9,.int 11]])) (!0) (by have:=F.lt;omega) aR (!1) (!1) (!1) λd g q A P X=>?_
 obtain⟨s,H,rfl⟩:∃s:Nat,s∈([1,3,5,7,9,11]:List Nat)/\d=.int s:=by
  erw[Qsq,QXq,or_false] at q
  rcases q with rfl|rfl|rfl|rfl|rfl|rfl
  ·exact#[1,by decide,L]
  ·exact#[3,by decide,L]
  ·exact#[5,by decide,L]
  ·exact#[7,by decide,L]
  ·exact#[9,by decide,L]
  ·exact#[11,by decide,L]
 have B:s<12:=by
  erw[Qsq,QXq,or_false] at H
  omega
 dsimp only
 symm
 apply#[_,_,L,?_]
 apply#[by decide,?_]
 apply#[by decide,?_]
 have y:S.length<=g.length:=A.len
 have C:Ex k j (n+2) S ((g++ [O.lst [.str "",.str "zq",.str "x",.str "qqzzx",.str "zqzqzqz"]])++ [O.lst []]):=A.app.app
 have u:((g++ [O.lst [.str "",.str "zq",.str "x",.str "qqzzx",.str "zqzqzqz"]])++ [O.lst []])[g.length]?=some (O.lst [.str "",.str "zq",.str "x",.str "qqzzx",.str "zqzqzqz"]):=aM aR
 have v:((g++ [O.lst [.str "",.str "zq",.str "x",.str "qqzzx",.str "zqzqzqz"]])++ [O.lst []])[g.length+1]?=some (.lst []):=by
  have:=aR (S:=g++ [O.lst [.str "",.str "zq",.str "x",.str "qqzzx",.str "zqzqzqz"]]) (o:=O.lst [])
  simpa using this
 rw[show(g++ [O.lst [.str "",.str "zq",.str "x",.str "qqzzx",.str "zqzqzqz"]]).length=g.length+1 by simp]
 generalize ((g++ [O.lst [.str "",.str "zq",.str "x",.str "qqzzx",.str "zqzqzqz"]])++ [O.lst []])=S3 at C u v|-
 generalize U:g.length=r at u v y|-
 apply eV ?_
 refine#[_,L,#[by omega,by omega],?_]
 refine#[λi p m=>∃o w:Option D,p= [some (.ref k),some (.int e),some (.str "abcdefghijklmnopqrstuvwxyz"),some (.int f),some (.int s),some (.ref r),some (.ref (r+1)),o,w]/\Ex k j (n+2) S m/\m[r]?=some (O.lst [.str "",.str "zq",.str "x",.str "qqzzx",.str "zqzqzqz"])/\m[r+1]?=some (.lst ((zk f s i).map D.str)),#[none,none,L,C,u,v],λ_ _ _ _=>trivial,?_,?_]
 ·rintro i d p m q ⟨o,w,rfl,e4,g3,g4⟩
  let#[hi,rfl]:=lz q
  apply bc ?_
  apply kD (.inl #[by omega,by omega]) ?_
  refine jr (!1) ?_
  have K:((f:Int)+(s:Int)*(i:Int))%26=(((f+s*i)%26:Nat):Int):=by push_cast;rfl
  rw[K]
  have t:(f+s*i)%26<26:=Nat.mod_lt _ (!1)
  apply Cm (!1) (AB _ t) ?_
  apply i4 ?_
  apply#[_,_,L,g4,?_]
  apply kD (.inl #[by omega,by omega]) ?_
  refine jr (!1) ?_
  have M:((f:Int)+(i:Int)*(i:Int))%5=(((f+i*i)%5:Nat):Int):=by push_cast;rfl
  rw[M]
  have I:(f+i*i)%5<5:=Nat.mod_lt _ (!1)
  refine dE g3 (AY _ I) ?_
  apply zU (QAq (lH _ t _ I).2.2 (!1)) ?_
  refine#[_,g4,eY (by erw[zk,lQm,QVq];exact Qqq (show i<26 by omega) (!1)) ?_]
  refine#[_,_,L,e4.put (!0) J,bB (!0) g3,?_]
  rw[bF g4]
  erw[zk,List.range_succ,Qzq,QDq,List.map_nil]
  rfl
 ·rintro p m ⟨o,w,rfl,e4,g3,g4⟩
  have N:(kZ 0 (e:Int)).length=e:=by erw[kZ,lQm,QVq];omega
  rw[N] at g4
  symm
  refine Cf e4 x (!0) g4 (λd q=>by let#[z,_,rfl]:=Qkq.mp q;rfl) λg a b c=>?_
  exact h _ _ _ (!0) H a b c
def gh{i:Nat}{ws:X6}{e:Int}(x:Ex k j n S0 S)(Z:n<999999000)(hi:k<i)(N:S[i]?=some (.lst (ws.map D.str)))(hw:ws.length<60)(hm:0<=e)(R:e<1000)
  (h:∀(u:X6) (A:aB),(∃l,(u++l).Perm ws)->(u.length:Int)<=e->u.Pairwise mI->Ex k j (n+ws.length) S0 A->Ex k j (n+ws.length) S A->A.length=S.length->Q (.l (u.map D.str)) A):Fn bA [.ref k,.ref i,.int e] S Q:=by
 let I:=x.lt
 refine dN ?_
 unfold mB
 symm
 apply sG ?_
 apply bb N ?_
 apply Ba ?_
 apply ml ?_
 apply bb aR ?_
 refine zg ?_
 erw[lQm]
 refine#[_,L,#[by split <;>omega,by split <;>omega],λt p y r=>∃(m f:X6),(∃o,p= [o,some (.ref k),some (.ref S.length)])/\Ex k j (n+t) S y/\y[S.length]?=some (.lst (f.map D.str))/\r=m.map D.str/\m.length=t/\(m++f).Perm ws,?_,λ_ _ _ _ _=>trivial,?_,?_]
 ·exact#[[],ws,#[none,L],x.here.app,aR,L,L,List.Perm.refl _]
 ·rintro t d p y r H ⟨m,f,⟨o,rfl⟩,F,w,rfl,hn2,hp⟩
  let#[K,rfl]:=lz H
  let g:=hp.length_eq
  erw[lQa] at g
  have M:t<ws.length:=by split at K <;>omega
  have W:0<f.length:=by omega
  symm
  rw[Qhq L]
  apply i4 ?_
  apply#[_,_,L,w,?_]
  apply bb w ?_
  refine bN F (!0) (by erw[lQm];omega) (by erw[lQm];omega) λv S3 X U C P=>?_
  dsimp only
  symm
  have q:v<f.length:=by simpa using X
  let s:=C.at I w
  refine#[_,s,?_]
  refine cp (d:=((f.map D.str).eraseIdx v,D.str f[v])) ?_ ?_
  ·erw[gV]
   rw[Qhq #[by omega,by omega],lQm,Cz q (!0)]
   simp[gQe q]
  ·refine#[?_,m++ [f[v]],f.eraseIdx v,#[_,L],U.put (Qmq _) I,?_,by simp,by simp[hn2],we q hp]
   ·erw[lQm]
    exact Nat.lt_of_le_of_lt (show m.length<=60 by omega) (!1)
   ·rw[bF s,ny]
 ·rintro p y r ⟨m,f,_,F,w,rfl,hn2,hp⟩
  let g:=hp.length_eq
  erw[lQa] at g
  refine#[L,m,L,by omega,?_]
  let J:=gX m
  refine Bz (F.mono (show _<=n+ws.length by omega)) x (λd H=>by let#[z,_,rfl]:=Qkq.mp H;rfl) λY a b c=>?_
  refine h _ _ #[f,(QJq f J).trans hp] ?_ (fG _) a b c
  have B:(((jd m).length:Nat):Int)=(kZ 0 (if (ws.length:Int)<e then(ws.length:Int) else e)).length:=by rw[J.length_eq,hn2]
  rw[B,pM (by split <;>omega)]
  split <;>omega
def iD{i:Nat}{ws:X6}(x:Ex k j n S0 S)(M:n<999999000)(hi:k<i)(A:S[i]?=some (.lst (ws.map D.str)))(P:ws.length<60)
  (h:∀(f:List (Str×Nat)) (s:aB),f.map (·.1)=ws->(∀v∈f,v.2<10)->Ex k j (n+ws.length) S0 s->Ex k j (n+ws.length) S s->s.length=S.length->Q (.d (.tup (f.map λv=>.tup [.str v.1,.int v.2]))) s):Fn cn [.ref k,.ref i] S Q:=by
 let I:=x.lt
 refine dN ?_
 unfold jL
 symm
 apply ml ?_
 refine bb A ?_
 refine#[λt g q l=>∃(f:List (Str×Nat)),(∃o,g= [o,some (.ref k)])/\Ex k j (n+t) S q/\l=f.map (λv=>.tup [.str v.1,.int v.2])/\f.map (·.1)=ws.take t/\∀v∈f,v.2<10,?_,λt g q l ⟨_,_,e,_⟩=>e.at hi A,?_,?_]
 ·exact#[[],#[none,L],x.here,L,L,λ_ B=>by cases B]
 ·rintro t d g q l z ⟨f,⟨o,rfl⟩,r,rfl,hv1,hv2⟩
  dsimp only at z
  rw[gQm] at z
  let#[w,p,rfl]:=oQm.mp z
  have K:t<ws.length:=(gQs.mp p).1
  symm
  rw[Qhq L]
  symm
  refine bN r (!0) (!1) (!1) λv N B H C F=>?_
  dsimp only
  symm
  have u:f.length=t:=by have:=congrArg List.length hv1;rw[lQm,Qxq] at this;omega
  refine#[show 2<=sizeLine by decide,?_,f++ [(w,v)],#[_,L],H,by simp,?_,?_]
  ·rw[lQm,u]
   exact Qqq (show t<60 by omega) (!1)
  ·rw[Qzq,hv1,QYq,p]
   rfl
  ·intro y m
   rcases mQa.mp m with m|m
   ·exact hv2 y m
   ·rw[Qfq] at m;subst m;show v<10;omega
 ·rintro g q l ⟨f,_,r,rfl,hv1,hv2⟩
  erw[lQm] at r hv1
  symm
  refine gH r x ?_ λJ a b c=>?_
  ·erw[bx]
   exact cN λ_ _=>rfl
  ·exact h f _ (by rw[hv1,QEq]) hv2 a b c
end
inductive Tr where
 |wd (w:Str)|vl (v:Nat)|wt (b:Str)|nt (t:Tr)|tw (f:Str) (a b:Tr)
def Tr.d:Tr->D
 |.wd w=>.str w
 |.vl v=>.int v
 |.wt b=>.tup [.str "waits",.str b]
 |.nt t=>.tup [.str "not",t.d]
 |.tw f a b=>.tup [.str f,a.d,b.d]
def two:List Str:= ["plus","minus","less","same","both"]
def Tr.ok(ws bs:X6):Nat->Tr->Prop
 |_,.wd w=>w∈ws
 |_,.vl v=>v<10
 |n+1,.wt b=>b∈bs
 |n+1,.nt t=>t.ok ws bs n
 |n+1,.tw f a b=>f∈two/\a.ok ws bs n/\b.ok ws bs n
 |0,.wt _=>False
 |0,.nt _=>False
 |0,.tw _ _ _=>False
theorem Tr.low:∀t:Tr,bx 0 t.d=true
 |.wd _=>rfl
 |.vl _=>rfl
 |.wt _=>rfl
 |.nt t=>by erw[Tr.d,bx,a6,Tr.low t];rfl
 |.tw f a b=>by erw[Tr.d,bx,a6,Tr.low a,Tr.low b];rfl
theorem Tr.ok.mono{ws bs:X6}:∀{n m:Nat} {t:Tr},t.ok ws bs n->n<=m->t.ok ws bs m
 |0,0,.wd _,h,_=>h
 |0,_+1,.wd _,h,_=>h
 |_+1,_+1,.wd _,h,_=>h
 |0,0,.vl _,h,_=>h
 |0,_+1,.vl _,h,_=>h
 |_+1,_+1,.vl _,h,_=>h
 |n+1,m+1,.wt _,h,_=>h
 |n+1,m+1,.nt t,h,l=>Tr.ok.mono (t:=t) h (Nat.le_of_succ_le_succ l)
 |n+1,m+1,.tw f a b,h,l=>#[h.1,h.2.1.mono (Nat.le_of_succ_le_succ l),h.2.2.mono (Nat.le_of_succ_le_succ l)]
def uR:Nat->Nat
 |0=>4
 |d+1=>2*uR d+4
section
variable{k j n iw ib:Nat}{S S0:aB}{Q:Res->aB->Prop}{ws bs:X6}
def ie{l:X6}:∀d∈l.map D.str,bx 0 d=true:=λd a=>by
 let#[z,_,rfl]:=Qkq.mp a
 rfl
def dH(x:Ex k j n S0 S)(o:n<999999000)(hi:k<iw)(b:S[iw]?=some (.lst (ws.map D.str)))(i:ws≠[])(m:ws.length<60)
  (h:∀(w:Str) (a:aB),w∈ws->Ex k j (n+1) S0 a->Ex k j (n+1) S a->a.length=S.length->Q (.d (.str w)) a):Fn aZ [.ref k,.ref iw] S Q:=by
 refine nX x (!0) hi b (by rw[lQm];exact List.length_pos_iff.mpr i) (by rw[lQm];omega) ie λd p f c e g=>?_
 let#[w,l,rfl]:=Qkq.mp f
 exact h w _ l c e g
def sr{l:X6}(h:(!(l.map D.str).isEmpty)=true):l≠[]:=λe=>by subst e;cases h
def xx(x:Ex k j n S0 S)(R:n<999998000)(hi:k<iw)(i:k<ib)(r:S[iw]?=some (.lst (ws.map D.str)))(s:S[ib]?=some (.lst (bs.map D.str)))(C:ws.length<60)(F:bs.length<60)
  (h:∀(t:Tr) (f:aB),t.ok ws bs 1->Ex k j (n+3) S0 f->Ex k j (n+3) S f->f.length=S.length->Q (.d t.d) f):Fn eW [.ref k,.ref iw,.ref ib] S Q:=by
 refine dN ?_
 unfold lN
 symm
 refine bN x.here (!0) (!1) (!1) λv B Z e _ P=>?_
 dsimp only
 refine fY (T.mono (Q:=λo=>(∃w∈ws,∃f,Ex k j (n+2) S f/\o=.rt (.str w) f)\/o=.nx [some (.ref k),some (.ref iw),some (.ref ib),some (.int v)] B) ?_ λo q=>?_)
 ·symm
  refine aN (λc=>?_) (λc=>?_)
  ·symm
   refine bb (e.at hi r) ⟨⟨rfl,e.at hi r⟩,?_⟩
   refine aN (λc=>?_) (λc=>?_)
   ·symm
    refine dH e.here (!0) hi (e.at hi r) (sr c) C λw l p _ g A=>?_
    exact .inl ⟨w,p,l,e.trans g,L⟩
   ·symm
    exact .inr L
  ·rw[Quq (!1)]
   symm
   exact .inr L
 rcases q with⟨w,p,l,g,rfl⟩|rfl
 ·exact gH (g.mono (!0)) x L λI a b c=>h (.wd w) _ p a b c
 dsimp only
 refine fY (T.mono (Q:=λo=>(∃b∈bs,∃f,Ex k j (n+2) S f/\o=.rt (.tup [.str "waits",.str b]) f)\/o=.nx [some (.ref k),some (.ref iw),some (.ref ib),some (.int v)] B) ?_ λo q=>?_)
 ·symm
  apply v9 ?_
  refine aN (λc=>?_) (λc=>?_)
  ·symm
   refine bb (e.at i s) ⟨⟨rfl,e.at i s⟩,?_⟩
   refine aN (λc=>?_) (λc=>?_)
   ·symm
    apply dH e.here (!0) i (e.at i s) (sr c) F λw l p _ g A=>?_
    exact⟨show 2<=sizeLine by decide,.inl ⟨w,p,l,e.trans g,L⟩⟩
   ·symm
    exact .inr L
  ·rw[Quq (!1)]
   symm
   exact .inr L
 rcases q with⟨w,p,l,g,rfl⟩|rfl
 ·exact gH (g.mono (!0)) x L λI a b c=>h (.wt w) _ p a b c
 symm
 apply⟨by decide,?_⟩
 refine bN (e.here.app (G:= [O.lst [.int 3,.int 10]])) (!0) (!1) (!1) λu l U g y A=>?_
 dsimp only
 have J:Ex k j (n+2) S l:=e.trans g
 obtain⟨m,X,H⟩:∃m:Nat,(0<m/\m<=10)/\j4 ([.int 3,.int 10]:List D) (u:Int)=some (.int m):=by
  rcases u with _|_|u
  ·exact⟨3,by decide,L⟩
  ·exact⟨10,by decide,L⟩
  ·omega
 refine dE (y.at (by have:=e.lt;omega) aR) H ?_
 symm
 refine bN J (!0) (!0) (!0) λz N W K _ Y=>?_
 exact gH K x L λM a b c=>h (.vl z) _ (by show z<10;omega) a b c
theorem pX:∀(m d:Nat),1<=d->d<=m->m<6->∀(n:Nat) (S S0:aB) (Q:Res->aB->Prop),Ex k j n S0 S->n+uR d<999990000->k<iw->k<ib->S[iw]?=some (.lst (ws.map D.str))->S[ib]?=some (.lst (bs.map D.str))->ws.length<60->bs.length<60->
  (∀(t:Tr) (p:aB),t.ok ws bs d->Ex k j (n+uR d) S0 p->Ex k j (n+uR d) S p->p.length=S.length->Q (.d t.d) p)->Fn (eN m) [.ref k,.ref iw,.ref ib,.int d] S Q
 |0,d,B,A,_=>absurd A (!0)
 | m+1,d,hd1,hd2,hm=>λn S S0 Q x hn y i F I B A h=>by
   refine dN ?_
   unfold nY
   symm
   refine bN x.here (!0) (!1) (!1) λv H hv q _ l1=>?_
   obtain⟨g,rfl⟩:∃g,d=g+1:=⟨d-1,by omega⟩
   have hb:4<=uR g:=by cases g <;>erw[uR] <;>omega
   have Y:uR (g+1)=2*uR g+4:=rfl
   have Z:uR g<1000:=by
     rcases g with _|_|_|_|_|g
     · decide
     · decide
     · decide
     · decide
     · decide
     · omega
   dsimp only
   refine fY (T.mono (Q:=λo=>(∃t:Tr,t.ok ws bs 1/\∃p,Ex k j (n+4) S p/\o=.rt t.d p)\/(1<=g/\o=.nx [some (.ref k),some (.ref iw),some (.ref ib),some (.int ((g+1:Nat):Int)),some (.int v),none] H)) ?_ λo M=>?_)
   · have u:T (eQ (aF eW (au (aw 0) (au (aw 1) (au (aw 2) ax))))) [some (.ref k),some (.ref iw),some (.ref ib),some (.int ((g+1:Nat):Int)),some (.int v),none] H λo=>(∃t:Tr,t.ok ws bs 1/\∃p,Ex k j (n+4) S p/\o=.rt t.d p)\/(1<=g/\o=.nx [some (.ref k),some (.ref iw),some (.ref ib),some (.int ((g+1:Nat):Int)),some (.int v),none] H):=by
       symm
       exact xx q.here (!0) y i (q.at y F) (q.at i I) B A λt z r _ s R=>.inl ⟨t,r,z,q.trans s,L⟩
     symm
     apply aN (λc=>u) (λc=>?_)
     apply aN (λc=>u) (λc2=>?_)
     exact .inr ⟨by simp at c;omega,L⟩
   rcases M with⟨t,r,z,s,rfl⟩|⟨hd',rfl⟩
   · exact gH (s.mono (!0)) x t.low λS3 a b c=>h t _ (r.mono (!0)) a b c
   have N:((g+1:Nat):Int)-1=(g:Nat):=by omega
   dsimp only
   refine fY (T.mono (Q:=λo=>(∃t:Tr,t.ok ws bs g/\∃p,Ex k j (n+1+uR g) S p/\o=.rt (.tup [.str "not",t.d]) p)\/o=.nx [some (.ref k),some (.ref iw),some (.ref ib),some (.int ((g+1:Nat):Int)),some (.int v),none] H) ?_ λo M=>?_)
   · symm
     apply v9 ?_
     refine aN (λc=>?_) (λc=>?_)
     · symm
       rw[N]
       apply pX m g hd' (!0) (!0) _ _ _ _ q.here (!0) y i (q.at y F) (q.at i I) B A λt z r _ s R=>?_
       exact⟨show 2<=sizeLine by decide,.inl ⟨t,r,z,q.trans s,L⟩⟩
     · symm
       exact .inr L
   rcases M with⟨t,r,z,s,rfl⟩|rfl
   · exact gH (s.mono (!0)) x (Tr.nt t).low λS3 a b c=>h (.nt t) _ r a b c
   symm
   apply⟨by decide,?_⟩
   refine nX (q.here.app (G:= [O.lst [.str "plus",.str "minus",.str "less",.str "same",.str "both"]])) (!0) (by have:=q.lt;omega) aR (!1) (!1) (ie (l:=two)) λf z W s a1 R=>?_
   obtain⟨f,P,rfl⟩:∃w∈two,f=D.str w:=by let#[w,hw,e]:=Qkq.mp (show f∈two.map D.str from W);exact#[w,hw,e.symm]
   have J:Ex k j (n+2) S z:=q.trans s
   symm
   rw[N]
   refine pX m g hd' (!0) (!0) _ _ _ _ J.here (!0) y i (J.at y F) (J.at i I) B A λt X r _ e4 l4=>?_
   have C:Ex k j (n+2+uR g) S X:=J.trans e4
   symm
   rw[N]
   apply pX m g hd' (!0) (!0) _ _ _ _ C.here (!0) y i (C.at y F) (C.at i I) B A λU S6 K _ e6 l6=>?_
   refine#[show 3<=sizeLine by decide,?_]
   exact gH ((C.trans e6).mono (!0)) x (Tr.tw f t U).low λS7 a b c=>h (.tw f t U) _ #[P,r,K] a b c
end
end W28
namespace DL
open PySem PySem.Spec L2
def DQ{d:bV}{S:aB}{a:Bool}{f:a0}{g:dP}{Q:D->aB->Prop}(h:E f d S λx e=>E g d e λp c=>∃v b,uw x=some v/\nS p.1=some b/\Q (.bl (if a then !za v b else za v b)) c):E (uS a f g) d S Q:=by
 let#[x,e,i,p,c,j,v,b,k,l,q]:=h
 exact#[_,c,by unfold uS;rw[i];erw[Qbq];rw[j];erw[Qbq];rw[k,l];rfl,q]
def yl{x:Str}{b:X6}:za (.str x) (b.map V.str)=decide (x∈b):=by
 induction b with
 |nil=>rfl
 | cons a b d=>
   show(qx (.str a) (.str x)||za (.str x) (b.map V.str))=_
   rw[d]
   erw[qx,Qsq]
   by_cases c:a=x
   · subst c;simp
   · have e:¬x=a:=λz=>c z.symm
     simp[c,e]
def uL(b:X6):nS (b.map D.str)=some (b.map V.str):=by
 induction b with
 |nil=>rfl
 |cons a b c=>erw[QDq,nS,c];rfl
def dC{d:bV}{S:aB}{a:Bool}{f:a0}{g:dP}{Q:D->aB->Prop}(h:E f d S λx e=>E g d e λp c=>∃(v:Str) (b:X6),x=.str v/\p.1=b.map D.str/\Q (.bl (if a then !decide (v∈b) else decide (v∈b))) c):E (uS a f g) d S Q:=by
 let#[x,e,i,p,c,j,v,b,rfl,h2,q]:=h
 exact DQ #[_,e,i,p,c,j,.str v,b.map V.str,L,by rw[h2,uL],by rw[yl];exact q]
def cE{b:bV}{S:aB}{f g:dP}{Q:List D->aB->Prop}(h:E f b S λp c=>E g b c λr a=>(p.2.isM=true/\r.2.isM=true/\p.2.stays a p.1/\p.1.length+r.1.length<=sizeLine)/\Q (p.1++r.1) a):E (dw f g) b S Q:=by
 let#[p,c,d,r,a,e,l,q]:=h
 exact#[_,a,by unfold dw;rw[d];erw[Qbq];rw[e];erw[Qbq];rw[Qhq l],q]
end DL
namespace W28
open PySem PySem.Spec L2 DL
structure Sc where
 ws:List Str
 gs:List Str
 bs:List Str
 ds:List (Str×Str)
 ks:List Str
 ps:List Str
inductive Rw where
 |un (t:Tr) (n:Nat)|go (n:Nat)|te (k:Str) (t:Tr)|pu (w:Str) (t:Tr)|dd (w:Option Str) (r d:Str) (t:Tr)|wa (b:Str) (t:Tr)|on (k b:Str)|pa (p q:Str)
def xX:Option Str->D
 |none=>.non
 |some w=>.str w
def Rw.d:Rw->D
 |.un t n=>.tup [.str "unless",t.d,.int n]
 |.go n=>.tup [.str "go",.int n]
 |.te k t=>.tup [.str k,t.d]
 |.pu w t=>.tup [.str "put",.str w,t.d]
 |.dd w r d t=>.tup [.str "do",xX w,.str r,.str d,t.d]
 |.wa b t=>.tup [.str "wait",.str b,t.d]
 |.on k b=>.tup [.str k,.str b]
 |.pa p q=>.tup [.str "pass",.str p,.str q]
def Rw.ok(c:Sc)(m:Nat):Rw->Prop
 |.un t n=>t.ok c.ws c.bs 5/\n<=m
 |.go n=>n<=m
 |.te k t=>k∈c.ks/\(k="tell" \/k="say")/\t.ok c.ws c.bs 5
 |.pu w t=>("put":Str)∈c.ks/\w∈c.gs/\t.ok c.ws c.bs 5
 |.dd w r d t=>("do":Str)∈c.ks/\(∀x,w=some x->x∈c.gs)/\(r,d)∈c.ds/\t.ok c.ws c.bs 5
 |.wa b t=>("wait":Str)∈c.ks/\b∈c.bs/\t.ok c.ws c.bs 5
 |.on k b=>k∈c.ks/\((k="call" \/k="all")/\b∈c.bs\/(k="take" \/k="give")/\b∈c.ps)
 |.pa p q=>("pass":Str)∈c.ks/\p∈c.ps/\q∈c.ps
theorem Rw.low:∀r:Rw,bx 0 r.d=true
 |.un t n=>by erw[Rw.d,bx,a6,t.low];rfl
 |.go n=>rfl
 |.te k t=>by erw[Rw.d,bx,a6,t.low];rfl
 |.pu w t=>by erw[Rw.d,bx,a6,t.low];rfl
 |.dd w r d t=>by cases w <;>erw[Rw.d,xX,bx,a6,t.low] <;>rfl
 |.wa b t=>by erw[Rw.d,bx,a6,t.low];rfl
 |.on k b=>rfl
 |.pa p q=>rfl
structure At(S:aB)(c iw ig ib id ik:Nat)(ip:Option Nat)(s:Sc):Prop where
 dct:∃l,S[c]?=some (.dct l)/\gP l (.inr "words")=some (.ref iw)/\gP l (.inr "goals")=some (.ref ig)/\gP l (.inr "bells")=some (.ref ib)/\gP l (.inr "does")=some (.ref id)/\gP l (.inr "kinds")=some (.ref ik)/\∀i,ip=some i->gP l (.inr "passes")=some (.ref i)
 w:S[iw]?=some (.lst (s.ws.map D.str))
 g:S[ig]?=some (.lst (s.gs.map D.str))
 b:S[ib]?=some (.lst (s.bs.map D.str))
 d:S[id]?=some (.lst (s.ds.map λp=>.tup [.str p.1,.str p.2]))
 k:S[ik]?=some (.lst (s.ks.map D.str))
 p:∀i,ip=some i->S[i]?=some (.lst (s.ps.map D.str))
def pL:List Str:= ["tell","say","put","do","wait","call","all","take","give","pass"]
structure Sc.fit(s:Sc)(ip:Option Nat):Prop where
 l:s.ws.length<60/\s.gs.length<50/\s.bs.length<60/\s.ds.length<60/\s.ks.length<20/\s.ps.length<60
 k:∀k∈s.ks,k∈pL
 put:("put":Str)∈s.ks->s.gs≠[]
 dod:("do":Str)∈s.ks->s.ds≠[]
 bel:∀k:Str,k="wait" \/k="call" \/k="all" ->k∈s.ks->s.bs≠[]
 pas:∀k:Str,k="take" \/k="give" \/k="pass" ->k∈s.ks->s.ps≠[]/\ip.isSome=true
def At.ex{k j n:Nat}{S t:aB}{c e q m id o:Nat}{f:Option Nat}{s:Sc}(a:At S c e q m id o f s)(x:Ex k j n S t)(v:k<c)(y:k<e)(A:k<q)(z:k<m)(F:k<id)(C:k<o)(B:∀i,f=some i->k<i):At t c e q m id o f s:=
 #[by let#[l,h,r]:=a.dct;exact#[l,x.at v h,r],x.at y a.w,x.at A a.g,x.at z a.b,x.at F a.d,x.at C a.k,λi u=>x.at (B i u) (a.p i u)]
section
variable{k j n:Nat}{S S0:aB}{Q:Res->aB->Prop}{c iw ig ib id ik:Nat}{ip:Option Nat}{s:Sc}
def A7:∀d,d<=5->uR d<=252:=by decide
def Ag{m:Nat}(x:Ex k j n S0 S)(hn:n<999900000)(a:At S c iw ig ib id ik ip s)(f:s.fit ip)(hc:k<c)(h1:k<iw)(h2:k<ig)(h3:k<ib)(h4:k<id)(h5:k<ik)(Y:∀i,ip=some i->k<i)(hm:m<=40)
  (h:∀(r:Rw) (S':aB),r.ok s m->Ex k j (n+300) S0 S'->Ex k j (n+300) S S'->S'.length=S.length->Q (.d r.d) S'):Fn iu [.ref k,.ref c,.int m] S Q:=by
 let kl:=x.lt
 refine dN ?_
 unfold nK
 symm
 apply cE ?_
 apply#[by decide,?_]
 let#[l,N,d2,d3,d4,d5,d6,d7]:=a.dct
 apply jJ ?_
 refine#[c,l,_,_,L,L,N,d6,?_]
 refine bb a.k #[#[L,L,trivial,?_],?_]
 ·erw[Qnq,QGq,lQm]
  exact QAq (show 0+1+1+s.ks.length<=22 by have:=f.l.2.2.2.2.1;omega) (!1)
 symm
 refine dH (ws:="unless"::"go"::s.ks) (x.here.app) (!0) kl aR (by simp) (by have:=f.l.2.2.2.2.1;erw[Qnq];omega) λJ S1 K e1 _ l1=>?_
 let a1:=a.ex e1 hc h1 h2 h3 h4 h5 Y
 let#[l,N,d2,d3,d4,d5,d6,d7]:=a1.dct
 dsimp only
 refine fY (tH (si ?_))
 apply jJ ?_
 apply#[c,l,_,_,L,L,N,d3,?_]
 apply jJ ?_
 apply#[c,l,_,_,L,L,N,d4,?_]
 apply#[_,_,L,?_]
 apply jJ ?_
 apply#[c,l,_,_,L,L,N,d2,?_]
 refine bN e1.here (!0) (!1) (!1) λv S2 hv e2 _ l2=>?_
 let e2:=e1.trans e2
 let a2:=a.ex e2 hc h1 h2 h3 h4 h5 Y
 symm
 rw[show(1:Int)+(v:Int)=((v+1:Nat):Int) by omega]
 let hb:=A7 (v+1) (!0)
 refine pX 5 (v+1) (!0) (!0) (!0) _ _ _ _ e2.here (!0) h1 h3 a2.w a2.b f.l.1 f.l.2.2.1 λt S3 X A _ l3=>?_
 have A:Ex k j (n+255) S S3:=(e2.trans A).mono (!0)
 let X:=X.mono (show v+1<=5 by omega)
 let P:=a.ex A hc h1 h2 h3 h4 h5 Y
 let#[l,N,d2,d3,d4,d5,d6,d7]:=P.dct
 have B:∀(r:Rw) {M:aB},Ex k j (n+300) S M->r.ok s m->Op (DL.settle S r.d M) λp=>Q p.1 p.2:=λr M u hr=>gH u x r.low λS5 b1 b2 b3=>h r _ hr b1 b2 b3
 clear a a1 a2 e1 e2 l1 l2 hb
 symm
 apply cZ ?_
 refine aN (λC=>?_) (λc1=>?_)
 ·have:=QZq C;subst this
  symm
  apply bN A.here (!0) (!0) (!0) λz M hz u _ Z=>?_
  exact⟨show 3<=sizeLine by decide,B (.un t z) ((A.trans u).mono (!0)) ⟨X,by omega⟩⟩
 symm
 apply cZ ?_
 refine aN (λC=>?_) (λc2=>?_)
 ·have:=QZq C;subst this
  symm
  apply bN A.here (!0) (!0) (!0) λz M hz u _ Z=>?_
  exact⟨show 2<=sizeLine by decide,B (.go z) ((A.trans u).mono (!0)) (by show z<=m;omega)⟩
 have I:J∈s.ks:=by
  rcases Qsq.mp K with rfl|K
  ·simp at c1
  ·rcases Qsq.mp K with rfl|K
   ·simp at c2
   ·exact K
 symm
 apply dC ?_
 apply⟨by decide,?_⟩
 refine⟨J,["tell","say"],L,L,?_⟩
 refine aN (λC=>?_) (λc3=>?_)
 ·symm
  refine⟨show 2<=sizeLine by decide,B (.te J t) (A.mono (!0)) ⟨I,?_,X⟩⟩
  simpa using C
 symm
 apply cZ ?_
 refine aN (λC=>?_) (λc4=>?_)
 ·have:=QZq C;subst this
  symm
  refine dH (A.here) (!0) h2 P.g (f.put I) (by have:=f.l.2.1;omega) λw M H u _ Z=>?_
  symm
  exact⟨show 3<=sizeLine by decide,B (.pu w t) ((A.trans u).mono (!0)) ⟨I,H,X⟩⟩
 symm
 apply cZ ?_
 refine aN (λC=>?_) (λc5=>?_)
 ·have:=QZq C;subst this
  symm
  apply cE ?_
  apply bb P.g ?_
  refine⟨by decide,?_⟩
  refine⟨⟨rfl,L,P.g,QAq (show _<=51 by erw[Qnq,QGq,lQm];have:=f.l.2.1;omega) (!1)⟩,?_⟩
  symm
  refine nX (xs:=s.gs.map D.str++ [.non]) (A.here.app) (!0) A.lt aR (by simp) (by simp;have:=f.l.2.1;omega) (λd U=>by rcases mQa.mp U with U|U;exact ie _ U;rw[Qfq] at U;subst U;rfl) λw M H u _ Z=>?_
  obtain⟨w,W,rfl⟩:∃o,(∀x,o=some x->x∈s.gs)/\w=xX o:=by
   rcases mQa.mp H with H|H
   ·let#[y,hy,rfl]:=Qkq.mp H
    exact#[some y,λx e=>by cases e;exact hy,L]
   ·rw[Qfq] at H
    exact#[none,λx e=>(by cases e),H]
  symm
  apply#[show 2<=sizeLine by decide,?_]
  apply jJ ?_
  apply#[c,l,_,_,L,L,u.at hc N,d5,?_]
  refine nX (u.here) (!0) h4 (u.at h4 P.d) (by erw[lQm];exact List.length_pos_iff.mpr (f.dod I)) (by erw[lQm];have:=f.l.2.2.2.1;omega) (λd U=>by let#[y,_,rfl]:=Qkq.mp U;rfl) λy S5 hy e5 _ l5=>?_
  let#[#[r,d],a4,rfl]:=Qkq.mp hy
  symm
  apply wH (show 4<=sizeLine by decide) ?_
  refine#[show 1<=sizeLine by decide,?_]
  refine wH (show 5<=sizeLine by decide) ?_
  exact B (.dd w r d t) (((A.trans u).trans e5).mono (!0)) #[I,W,a4,X]
 symm
 apply cZ ?_
 refine aN (λC=>?_) (λc6=>?_)
 ·have:=QZq C;subst this
  symm
  apply dH (A.here) (!0) h3 P.b (f.bel _ (.inl L) I) f.l.2.2.1 λw M H u _ Z=>?_
  exact#[show 3<=sizeLine by decide,B (.wa w t) ((A.trans u).mono (!0)) #[I,H,X]]
 symm
 apply dC ?_
 apply#[by decide,?_]
 refine#[J,["call","all"],L,L,?_]
 refine aN (λC=>?_) (λc7=>?_)
 ·have C:J="call" \/J="all":=by simpa using C
  symm
  apply dH (A.here) (!0) h3 P.b (f.bel _ (.inr C) I) f.l.2.2.1 λw M H u _ Z=>?_
  exact#[show 2<=sizeLine by decide,B (.on J w) ((A.trans u).mono (!0)) #[I,.inl #[C,H]]]
 have hp:(J="take" \/J="give" \/J="pass")/\s.ps≠[]/\ip.isSome=true:=by
  let q:=f.k _ I
  simp at c3 c4 c5 c6 c7
  simp[pL,c3,c4,c5,c6,c7] at q
  exact#[q,f.pas _ q I]
 let#[R,F]:=Option.isSome_iff_exists.mp hp.2.2
 let dp:=d7 R F
 symm
 apply cZ ?_
 refine aN (λC=>?_) (λc8=>?_)
 ·have:=QZq C;subst this
  symm
  apply jJ ?_
  apply#[c,l,_,_,L,L,N,dp,?_]
  apply dH (A.here) (!0) (Y R F) (P.p R F) hp.2.1 f.l.2.2.2.2.2 λw M H u _ Z=>?_
  apply jJ ?_
  apply#[c,l,_,_,L,L,u.at hc N,dp,?_]
  apply dH (u.here) (!0) (Y R F) (u.at (Y R F) (P.p R F)) hp.2.1 f.l.2.2.2.2.2 λw2 S5 W e5 _ l5=>?_
  exact#[show 3<=sizeLine by decide,B (.pa w w2) (((A.trans u).trans e5).mono (!0)) #[I,H,W]]
 symm
 apply jJ ?_
 apply#[c,l,_,_,L,L,N,dp,?_]
 apply dH (A.here) (!0) (Y R F) (P.p R F) hp.2.1 f.l.2.2.2.2.2 λw M H u _ Z=>?_
 refine#[show 2<=sizeLine by decide,B (.on J w) ((A.trans u).mono (!0)) #[I,.inr #[?_,H]]]
 simp at c8
 rcases hp.1 with h|h|h
 ·exact .inl h
 ·exact .inr h
 ·exact absurd h c8
end
end W28
namespace DL
open PySem PySem.Spec L2
def BB{b:bV}{S:aB}{f:dP}{g:a0}{Q:List D->aB->Prop}(h:E f b S λp c=>E g b c λr a=>∃n:Nat,r=.int n/\(p.2.isM=true/\p.2.stays a p.1/\p.1.length*n<=1000/\n<=1)/\Q ((List.replicate n p.1).flatten) a):E (lb f g) b S Q:=by
 let#[p,c,d,r,a,e,n,rfl,#[h1,h2,h3,h4],q]:=h
 refine#[_,a,?_,q]
 unfold lb
 rw[d]
 erw[Qbq]
 rw[e]
 erw[Qbq]
 rw[Qhq #[h1,h2,by omega,by omega,by simpa using QAq h3 (!1)]]
 simp
def wu{a:bV}{S:aB}{f:dP}{lo hi:xJ}{Q:List D->aB->Prop}(h:E f a S λp d=>E lo a d λl c=>E hi a c λu b=>(p.2.isL=true/\p.2.stays b p.1)/\Q (j6 p.1 l u) b):E (AG f lo hi) a S Q:=by
 let#[p,d,g,l,c,i,u,b,e,j,q]:=h
 exact#[_,b,by unfold AG;rw[g];erw[Qbq];rw[i];erw[Qbq];rw[e];erw[Qbq];rw[Qhq j],q]
def eG{b:bV}{S:aB}{f:a0}{Q:Option Int->aB->Prop}(h:E f b S λd a=>∃i,d=.int i/\Q (some i) a):E (uY f) b S Q:=by
 let#[d,a,c,i,rfl,q]:=h
 exact#[_,a,by unfold uY;rw[c];rfl,q]
def eH{a:bV}{S:aB}{Q:Option Int->aB->Prop}(q:Q none S):E xk a S Q:=#[_,_,L,q]
def vy{b:Bool}{Q:D->Prop}(q:Q (.int (if b then 1 else 0))):Op (intOfD [.bl b]) Q:=#[_,L,q]
def iW{d:bV}{S:aB}{f:a0}{g:dP}{Q:D->aB->Prop}(h:E f d S λx e=>∃k a,x=.ref k/\e[k]?=some (.lst a)/\E g d e λp c=>∃b,c[k]?=some (.lst b)/\(p.2.isM=true/\b.length+p.1.length<=sizeLine)/\Q .non (c.set k (.lst (b++p.1)))):E (jH f g) d S Q:=by
 let#[x,e,i,k,a,rfl,h1,p,c,e2,b,h2,h3,q]:=h
 exact#[_,_,by unfold jH;rw[i];erw[Qbq,e2,h1,h2];rw[Qhq h3],q]
def AZ{a:List D}{y:D}{k:Nat}{Q:List D×D->Prop}(c:k<=a.length)(b:a.length<999)(q:Q (a.take k++y::a.drop k,.non)):Op (rf a [.int (k:Nat),y]) Q:=#[_,by unfold rf;exact Qhq #[by omega,by omega,by omega,nV (!0)],q]
def iI{b:bV}{S:aB}{n:Nat}{g:kX}{a:List D}{Q:bV->aB->Prop}(d:a.length=n)(h:C6 g a b S Q):Tg (mJ (nG n g)) (.tup a) b S Q:=by
 let#[c,f,e,q]:=h
 exact#[c,f,by show nG n g a b S=_;unfold nG;rw[Qhq d];exact e,q]
def qZ{b:bV}{S:aB}{f g:a0}{Q:D->aB->Prop}(h:E f b S λd a=>∃k,d=.bl k/\if k=true then E g b a Q else Q (.bl false) a):E (rC f g) b S Q:=by
 let#[d,a,c,k,rfl,q]:=h
 cases k with
 |true=>let#[j,e,i,q]:=(q:E g b a Q);exact#[j,e,by unfold rC;rw[c];exact i,q]
 |false=>exact#[_,a,by unfold rC;rw[c];rfl,q]
def bU{α:Type}{w:bV}{S:aB}{js:List (Option Nat)}{i:q8}{g:lB}{t:ia}{r:a0}{Q:List D->aB->Prop}(P:bV->Prop)(o G:α->D)(c:α->Bool)(N:P (sj js w)) (h:E i w S λp f=>∃xs:List α,p.1=xs.map o/\p.2 f/\xs.length<=1000∧
   (∀x∈xs,∀a,P a->Tg g (o x) a f λb v=>v=f/\P b/\E t b f λk F=>F=f/\k=c x/\(c x=true->E r b f λy A=>y=G x/\A=f))/\Q ((xs.filter c).map G) f):E (bu js i g t r) w S Q:=by
 refine ml (h.mono λp f J=>?_)
 let#[xs,C,U,Z,H,q]:=J
 refine#[λn a u j=>u=f/\j=((xs.take n).filter c).map G/\P a,#[L,L,N],λn a u j h=>by rw[h.1];exact U,λn d a u j s h=>?_,λa u j h=>?_]
 ·let#[rfl,rfl,h3]:=h
  have s:p.1[n]?=some d:=s
  rw[C,gQm] at s
  let#[x,m,rfl]:=oQm.mp s
  let#[b,v,W,rfl,h4,h5]:=H x (mQg m) a h3
  refine#[b,v,W,?_]
  refine h5.mono λk F z=>?_
  let#[K,R,M]:=z
  subst K R
  let Y:=(gQs.mp m).1
  have B:((xs.take (n+1)).filter c).map G=((xs.take n).filter c).map G++if c x=true then [G x] else []:=by
   rw[QYq,m]
   cases l:c x <;>simp[l]
  by_cases l:c x=true
  ·rw[Qhq l]
   refine(M l).mono λy A z=>?_
   let#[X,I]:=z
   subst X I
   refine#[?_,L,?_,h4]
   ·rw[lQm]
    have:=List.length_filter_le c (xs.take n)
    rw[Qxq] at this
    exact nV (!0)
   ·rw[B,Qhq l]
  ·rw[Quq l]
   refine#[L,?_,h4]
   rw[B,Quq l,List.append_nil]
 ·let#[rfl,rfl,_]:=h
  have e:p.1.length=xs.length:=by rw[C,lQm]
  show Q (((xs.take p.1.length).filter c).map G) _
  rw[e,QEq]
  exact q
def cy{a:bV}{S:aB}{Q:bV->aB->Prop}(q:Q a S):C6 fF [] a S Q:=#[_,_,L,q]
def aD{b:bV}{S:aB}{f:lB}{g:kX}{d:D}{e:List D}{Q:bV->aB->Prop}(h:Tg f d b S λa i=>C6 g e a i Q):C6 (aY f g) (d::e) b S Q:=by
 let#[a,i,k,c,j,l,q]:=h
 exact#[c,j,by show(f d b S).bind _=_;rw[k];exact l,q]
def i3{α:Type}(l:List α):l.filter (λ_=>true)=l:=List.filter_eq_self.mpr λ_ _=>rfl
end DL
namespace W28
open PySem PySem.Spec L2 DL
def rp(b:Bool)(l:X6):List Str:=(List.replicate (if b then 1 else 0) l).flatten
def AV(b:Bool)(l:X6):(List.replicate (if b then 1 else 0) (l.map D.str)).flatten=(rp b l).map D.str:=by cases b <;>simp[rp]
def vt(g d b a:Bool):List Str:=(((["tell"]:List Str)++rp g ["put","put"])++rp d ["do"])++rp b ["wait","call"]++rp a ["all"]
def ua:∀g d b a:Bool,(a=true->b=true)->(vt g d b a).length<20/\(∀k∈vt g d b a,k∈pL)/\(("put":Str)∈vt g d b a->g=true)/\(("do":Str)∈vt g d b a->d=true)/\(∀k∈(["wait","call","all"]:List Str),k∈vt g d b a->b=true)/\∀k∈(["take","give","pass"]:List Str),k∉vt g d b a:=by decide +kernel
def ne(l:X6):Bool:= !(l.map D.str).isEmpty
def ne_is{l:X6}(h:ne l=true):l≠[]:=sr h
section
variable{S:aB}{Q:Res->aB->Prop}
def gO(v:Str×Nat):D:=.tup [.str v.1,.int v.2]
def mH(v:Str×Str):D:=.tup [.str v.1,.str v.2]
def gT(p:Str×Str):D:=.tup [.str p.1,.str p.2]
def oN(a bs:X6)(b:List (Str×Str))(c:Bool):Sc:=#[a++ [("given":Str)],a,bs,b,vt (ne a) (!(b.map gT).isEmpty) (ne bs) (ne bs&&c),[]]
def vH{lits:X6}{b:Bool}{F:dM}{g:a0}{c:bV}{Q:List D×Tag->aB->Prop}(l:E F c S λi a=>i=lits.map D.str/\a=S)(m:lits.length<=5)(j:E g c S λd a=>d=.bl b/\a=S)(q:Q ((rp b lits).map D.str,.fr) S):
  E (b_ (lb (b_ F) (nF intOfD (au g ax)))) c S Q:=by
 refine eI (BB (eI (l.mono λi a k=>?_)))
 let#[f,h]:=k
 subst f h
 refine DE (si (j.mono λd a ⟨f,h⟩=>yQ ?_))
 subst f h
 refine vy ?_
 have e:(if b then(1:Int) else 0)=((if b then 1 else 0:Nat):Int):=by split <;>rfl
 rw[e]
 refine#[_,L,#[L,trivial,?_,by split <;>omega],?_]
 ·erw[lQm]
  split <;>omega
 ·rw[AV]
  exact q
def yT{i r:Nat}{a:bV}{xs:List D}(hi:a[i]?=some (some (.ref r)))(b:S[r]?=some (.lst xs)):E (cI (aS (aw i))) a S λd c=>d=.bl (!xs.isEmpty)/\c=S:=yx (fO (di hi (bb b #[#[L,b],L,L])))
def kb{lits:X6}{i r:Nat}{F:dM}{a:bV}{xs:List D}{Q:List D×Tag->aB->Prop}(e:E F a S λc d=>c=lits.map D.str/\d=S)(b:lits.length<=5)(hi:a[i]?=some (some (.ref r)))(f:S[r]?=some (.lst xs))(q:Q ((rp (!xs.isEmpty) lits).map D.str,.fr) S):
  E (b_ (lb (b_ F) (nF intOfD (au (cI (aS (aw i))) ax)))) a S Q:=vH e b (yT hi f) q
def dB(b:Bool){l:X6}:(rp b l).length<=l.length:=by cases b <;>simp[rp]
def sm{n:Nat}(h:n<=1000):n<=sizeLine:=QAq h (!1)
def i0{lits:X6}{h:bV}:∀{fs:X6},fs=lits->lits.length<=5->E (aV (fs.foldr (λx g=>au (cF (.str x)) g) ax)) h S λa b=>a=lits.map D.str/\b=S:=by
 intro fs e f
 subst e
 refine yc ?_
 have:E (fs.foldr (λx g=>au (cF (.str x)) g) ax) h S λa b=>a=fs.map D.str/\b=S:=by
  clear f
  induction fs with
  |nil=>exact yQ #[L,L]
  |cons x fs i=>exact si (zh (i.mono λa b ⟨c,d⟩=>#[by rw[c];rfl,d]))
 refine this.mono λa b ⟨c,d⟩=>#[?_,c,d]
 rw[c,lQm]
 exact QAq f (!1)
def AA{l:Str}{e:List (Str×Nat)}{f:List (Str×Str)}{j:List (Str×Str)}{id:Nat}(N:S[id]?=some (.lst (j.map gT)))(l1:e.length<50)(l2:f.length<50)(l3:j.length<50)
  (h:∀(B:aB) (c J Z R Y:Nat),(∃G,B=S++G)->S.length<=c->S.length<=J->S.length<=Z->S.length<=R->S.length<=Y->At B c J Z R id Y none (oN (e.map (·.1)) (f.map (·.1)) j (decide (l="when free")))->Q (.d (.ref c)) B):
  Fn cA [.str l,.tup (e.map gO),.tup (f.map mH),.ref id] S Q:=by
 refine CM ?_
 unfold fR
 symm
 apply bU (α:=Str×Nat) (λk=>∃a b,k= [a,b]) gO (λv=>.str v.1) (λ_=>true) #[none,none,L] (ed ?_)
 refine#[e,L,trivial,by omega,λv hv k n=>?_,?_]
 ·let#[a,b,rfl]:=n
  apply iI L (aD (bc (aD (bc (cy #[L,#[_,_,L],du #[L,L,λ_=>?_]])))))
  exact#[L,L]
 rw[i3,show e.map (λv=>D.str v.1)=(e.map (·.1)).map D.str by rw[QPq];rfl]
 symm
 let U:=aR (S:=S) (o:=.lst ((e.map (·.1)).map D.str))
 have z:∃G,S++ [.lst ((e.map (·.1)).map D.str)]=S++G:=#[_,L]
 generalize S++ [.lst ((e.map (·.1)).map D.str)]=S1 at U z|-
 apply bU (α:=Str×Str) (λk=>∃a b,k= [a,b]) mH (λv=>.str v.1) (λ_=>true) #[none,none,L] (ed ?_)
 refine#[f,L,trivial,by omega,λv hv k n=>?_,?_]
 ·let#[a,b,rfl]:=n
  apply iI L (aD (bc (aD (bc (cy #[L,#[_,_,L],du #[L,L,λ_=>?_]])))))
  exact#[L,L]
 rw[i3,show f.map (λv=>D.str v.1)=(f.map (·.1)).map D.str by rw[QPq];rfl]
 symm
 let w:=aR (S:=S1) (o:=.lst ((f.map (·.1)).map D.str))
 let y:=aM (G:= [.lst ((f.map (·.1)).map D.str)]) U
 have H:∃G,S1++ [.lst ((f.map (·.1)).map D.str)]=S++G:=by let#[G,rfl]:=z;exact#[_,Qvq _ _ _]
 have l4:S.length<=S1.length:=by let#[G,rfl]:=z;simp
 generalize S1++ [.lst ((f.map (·.1)).map D.str)]=S2 at w y H|-
 have l6:S1.length<S2.length:=(gQs.mp w).1
 apply cE ?_
 apply cE ?_
 refine#[by decide,?_]
 refine kb (lits:= ["put","put"]) (i0 (fs:= ["put","put"]) L (!1)) (!1) L y ?_
 refine#[#[L,L,trivial,?_],?_]
 ·exact sm (by have:= @dB (!(List.map D.str (List.map (λx=>x.1) e)).isEmpty) ["put","put"];erw[Qnq,QGq,lQm] at this|-;omega)
 refine kb (lits:= ["do"]) (i0 (fs:= ["do"]) L (!1)) (!1) L (by let#[G,rfl]:=H;exact aM N) ?_
 refine#[#[L,L,trivial,?_],?_]
 ·exact sm (by have:= @dB (!(List.map D.str (List.map (λx=>x.1) e)).isEmpty) ["put","put"];have:= @dB (!(j.map gT).isEmpty) ["do"];erw[Qnq,QGq,lQm,lQa] at *;omega)
 have ek:([D.str "tell"]++(rp (!(List.map D.str (List.map (λx=>x.1) e)).isEmpty) ["put","put"]).map D.str)++(rp (!(j.map gT).isEmpty) ["do"]).map D.str=((([("tell":Str)]++rp (ne (e.map (·.1))) ["put","put"])++rp (!(j.map gT).isEmpty) ["do"])).map D.str:=by erw[Qzq];rfl
 rw[ek]
 have lk:((([("tell":Str)]++rp (ne (e.map (·.1))) ["put","put"])++rp (!(j.map gT).isEmpty) ["do"])).length<=4:=by have:= @dB (ne (e.map (·.1))) ["put","put"];have:= @dB (!(j.map gT).isEmpty) ["do"];erw[Qnq,QGq,lQa] at *;omega
 generalize hK:((([("tell":Str)]++rp (ne (e.map (·.1))) ["put","put"])++rp (!(j.map gT).isEmpty) ["do"]))=K1 at lk|-
 symm
 let s:=aR (S:=S2) (o:=.lst (K1.map D.str))
 let r:=aM (G:= [.lst (K1.map D.str)]) w
 let q:=aM (G:= [.lst (K1.map D.str)]) y
 have K:∃G,S2++ [.lst (K1.map D.str)]=S++G:=by let#[G,rfl]:=H;exact#[_,Qvq _ _ _]
 generalize S2++ [.lst (K1.map D.str)]=S3 at s r q K|-
 have l8:S2.length<S3.length:=(gQs.mp s).1
 apply cE ?_
 apply cE ?_
 refine bb s ?_
 refine kb (lits:= ["wait","call"]) (i0 (fs:= ["wait","call"]) L (!1)) (!1) L r ?_
 refine#[#[L,L,s,?_],?_]
 ·exact sm (by have:= @dB (!(List.map D.str (List.map (λx=>x.1) f)).isEmpty) ["wait","call"];erw[Qnq,QGq,lQm] at *;omega)
 refine vH (lits:= ["all"]) (b:=ne (f.map (·.1))&&decide (l="when free")) (i0 (fs:= ["all"]) L (!1)) (!1) (qZ ((yT L r).mono λd m ⟨e1,e2⟩=>?_)) ?_
 ·subst e1 e2
  refine#[_,L,?_]
  refine aN (λc=>?_) (λc=>?_)
  ·symm
   refine cZ #[?_,L]
   have:ne (f.map (·.1))=true:=c
   rw[this]
   rfl
  ·have:ne (f.map (·.1))=false:=c
   rw[this]
   exact#[L,L]
 refine#[#[L,L,trivial,?_],?_]
 ·exact sm (by have:= @dB (!(List.map D.str (List.map (λx=>x.1) f)).isEmpty) ["wait","call"];have:= @dB (ne (f.map (·.1))&&decide (l="when free")) ["all"];erw[Qnq,QGq,lQm,lQa] at *;omega)
 have u:(K1.map D.str++(rp (!(List.map D.str (List.map (λx=>x.1) f)).isEmpty) ["wait","call"]).map D.str)++(rp (ne (f.map (·.1))&&decide (l="when free")) ["all"]).map D.str=(vt (ne (e.map (·.1))) (!(j.map gT).isEmpty) (ne (f.map (·.1))) (ne (f.map (·.1))&&decide (l="when free"))).map D.str:=by
  erw[vt,hK,Qzq]
  rfl
 rw[u]
 generalize A:vt (ne (e.map (·.1))) (!(j.map gT).isEmpty) (ne (f.map (·.1))) (ne (f.map (·.1))&&decide (l="when free"))=K2
 symm
 let F:=aR (S:=S3) (o:=.lst (K2.map D.str))
 let p:=aM (G:= [.lst (K2.map D.str)]) r
 let g:=aM (G:= [.lst (K2.map D.str)]) q
 have P:∃G,S3++ [.lst (K2.map D.str)]=S++G:=by let#[G,rfl]:=K;exact#[_,Qvq _ _ _]
 generalize S3++ [.lst (K2.map D.str)]=m at F p g P|-
 have l9:S3.length<m.length:=(gQs.mp F).1
 apply yk ?_
 apply cE ?_
 apply bb g ?_
 refine#[by decide,#[L,L,g,sm (by erw[Qnq,QGq,lQm];omega)],?_]
 have ew:(List.map D.str (List.map (λx=>x.1) e)++ [D.str "given"])=((e.map (·.1))++ [("given":Str)]).map D.str:=by rw[Qzq];rfl
 symm
 rw[ew]
 let I:=aR (S:=m) (o:=.lst (((e.map (·.1))++ [("given":Str)]).map D.str))
 let X:=aM (G:= [.lst (((e.map (·.1))++ [("given":Str)]).map D.str)]) g
 let M:=aM (G:= [.lst (((e.map (·.1))++ [("given":Str)]).map D.str)]) p
 let W:=aM (G:= [.lst (((e.map (·.1))++ [("given":Str)]).map D.str)]) F
 have t:∃G,m++ [.lst (((e.map (·.1))++ [("given":Str)]).map D.str)]=S++G:=by let#[G,rfl]:=P;exact#[_,Qvq _ _ _]
 generalize m++ [.lst (((e.map (·.1))++ [("given":Str)]).map D.str)]=S5 at I X M W t|-
 have a1:m.length<S5.length:=(gQs.mp I).1
 refine h _ S5.length m.length S.length S1.length S3.length (by let#[G,rfl]:=t;exact#[_,Qvq _ _ _]) (!0) (!0) (!0) (!0) (!0) #[#[_,aR,?_,?_,?_,?_,?_,λi C=>by cases C],aM I,aM X,aM M,?_,?_,λi C=>by cases C]
 ·rfl
 ·rfl
 ·rfl
 ·rfl
 ·rfl
 ·let#[G,rfl]:=t
  exact aM (aM N)
 ·rw[show(oN (e.map (·.1)) (f.map (·.1)) j (decide (l="when free"))).ks=K2 from A]
  exact aM W
def vz{b bs:X6}{a:List (Str×Str)}{d:Bool}(m:b.length<50)(p:bs.length<50)(o:a.length<50):(oN b bs a d).fit none:=by
 let#[i,g,l,n,f,j]:=ua (ne b) (!(a.map gT).isEmpty) (ne bs) (ne bs&&d) (by erw[QCq];exact λh=>h.1)
 refine⟨⟨by erw[oN,lQa,Qnq,QGq];omega,m,by erw[oN];omega,by erw[oN];omega,i,by simp[oN]⟩,g,λh=>ne_is (l h),λh=>?_,λk c h=>ne_is (f k (by simpa using c) h),λk c h=>absurd h (j k (by simpa using c))⟩
 have:=n h
 intro e
 have e:a= []:=e
 subst e
 cases this
end
section
variable{k j n:Nat}{S S0:aB}{Q:Res->aB->Prop}{c iw ig ib id ik:Nat}{ip:Option Nat}{s:Sc}
def sT(x:Ex k j n S0 S)(hn:n<999800000)(a:At S c iw ig ib id ik ip s)(f:s.fit ip)(J:k<c)(K:k<iw)(N:k<ig)(M:k<ib)(W:k<id)(R:k<ik)(P:∀i,ip=some i->k<i)
  (h:∀(b:List Rw) (e:aB),1<=b.length->b.length<=40->(∀r∈b,r.ok s b.length)->Ex k j (n+13000) S0 e->Ex k j (n+13000) S e->e.length=S.length->Q (.d (.tup (b.map Rw.d))) e):Fn cP [.ref k,.ref c] S Q:=by
 let kl:=x.lt
 refine dN ?_
 unfold iO
 symm
 apply bN x.here (!0) (!1) (!1) λw S1 a5 U _ l1=>?_
 refine bN U.here (!0) (!1) (!1) λz S2 X u _ l2=>?_
 let u:=U.trans u
 symm
 apply⟨show 4<=sizeLine by decide,?_⟩
 refine bN (u.here.app) (!0) (!1) (!1) λv S3 a1 H B l3=>?_
 dsimp only
 symm
 refine o_ ⟨by decide,by decide⟩ ?_
 obtain⟨m,a3,F,ha⟩:∃m:Nat,1<=m/\m<=40/\j4 [D.int 1,D.int (1+(w:Int)),D.int (1+(z:Int)),D.int 40] ((v:Int)/4)=some (.int m):=by
  have:v/4<4:=by omega
  rw[show((v:Int)/4)=((v/4:Nat):Int) by omega]
  rcases h:v/4 with _|_|_|_|q
  ·exact#[1,by omega,by omega,aP L]
  ·exact#[1+w,by omega,by omega,by rw[aP (x:=D.int (1+(w:Int))) L];rw[show(1:Int)+(w:Int)=((1+w:Nat):Int) by omega]]
  ·exact#[1+z,by omega,by omega,by rw[aP (x:=D.int (1+(z:Int))) L];rw[show(1:Int)+(z:Int)=((1+z:Nat):Int) by omega]]
  ·exact#[40,by omega,by omega,aP L]
  ·omega
 refine dE (B.at u.lt aR) ha ?_
 have H:Ex k j (n+3) S S3:=u.trans H
 symm
 apply ml ?_
 refine#[_,L,#[by omega,by omega],λt g e l=>∃b:List Rw,(∃o,g= [o,some (.ref k),some (.ref c),some (.int m)])/\Ex k j (n+3+300*t) S e/\l=b.map Rw.d/\b.length=t/\∀r∈b,r.ok s m,?_,λ_ _ _ _ _=>trivial,?_,?_]
 ·exact#[[],#[none,L],H,L,L,λ_ h=>by cases h]
 ·rintro t d g e l hd ⟨b,⟨o,rfl⟩,A,rfl,hl,hr⟩
  let#[ht,rfl]:=lz hd
  let a4:=a.ex A J K N M W R P
  symm
  rw[Qhq L]
  symm
  refine Ag A.here (!0) a4 f J K N M W R P F λr Z I _ Y l5=>?_
  dsimp only
  refine#[by rw[lQm,hl];exact Qqq (show t<40 by omega) (!1),b++ [r],#[_,L],(A.trans Y).mono (!0),by simp,by simp[hl],λy p=>?_]
  rcases mQa.mp p with p|p
  ·exact hr y p
  ·rw[Qfq] at p;subst p;exact I
 ·rintro g e l ⟨b,_,A,rfl,hl,hr⟩
  have a2:(b.length:Int)=m:=by rw[hl,pM (!0)]
  have C:b.length=m:=by omega
  refine gH (A.mono (show _<=n+13000 by rw[<-hl];omega)) x ?_ λZ b1 b2 b3=>h b _ (!0) (!0) (by rw[C];exact hr) b1 b2 b3
  erw[bx]
  exact cN λr _=>r.low
end
def oA:List Str:= ["at once","when free"]
def sorts:List Str:= ["row","turns"]
structure Rm where
 nm:Str
 mn:Str
 th:List (Str×Nat)
 be:List (Str×Str)
 de:List (Str×List Rw)
def yM(p:Str×List Rw):D:=.tup [.str p.1,.tup (p.2.map Rw.d)]
def Rm.d(r:Rm):D:=.tup [.str r.nm,.str r.mn,.tup (r.th.map gO),.tup (r.be.map mH),.tup (r.de.map yM)]
def Pr(s:Sc)(a:List Rw):Prop:=1<=a.length/\a.length<=40/\∀r∈a,r.ok s a.length
def Sub(ws a:X6)(m:Nat):Prop:=(∃l,(a++l).Perm ws)/\a.length<=m/\a.Pairwise mI
structure Rm.ok(ws:X6)(r:Rm):Prop where
 nm:r.nm∈ws
 mn:r.mn∈oA
 th:Sub ws (r.th.map (·.1)) 4/\∀v∈r.th,v.2<10
 be:Sub ws (r.be.map (·.1)) 3/\∀v∈r.be,v.2∈sorts
 de:Sub ws (r.de.map (·.1)) 4/\∀p∈r.de,∃ds:List (Str×Str),ds.length<=16/\(∀q∈ds,q.1∈ws/\q.2∈ws)/\Pr (oN (r.th.map (·.1)) (r.be.map (·.1)) ds (decide (r.mn="when free"))) p.2
def Sub.len{ws a:X6}{m:Nat}(h:Sub ws a m):a.length<=m:=h.2.1
def Sub.mem{ws a:X6}{m:Nat}(h:Sub ws a m){w:Str}(c:w∈a):w∈ws:=by
 let#[l,b]:=h.1
 exact b.subset (List.mem_append_left _ c)
def qC(a:List Rw):bx 0 (.tup (a.map Rw.d))=true:=by erw[bx];exact cN λr _=>r.low
def Rm.low(r:Rm):bx 0 r.d=true:=by
 have a:a6 0 (r.th.map gO)=true:=cN λ_ _=>rfl
 have c:a6 0 (r.be.map mH)=true:=cN λ_ _=>rfl
 have b:a6 0 (r.de.map yM)=true:=cN λp _=>by
  have:=qC p.2
  erw[yM,bx,a6] at this|-
  rw[this]
  rfl
 erw[Rm.d,bx,a6,a,c,b,Bool.and_true]
structure Sh where
 nm:Str
 mn:Str
 th:List (Str×Nat)
 be:List (Str×Str)
 ds:List Str
 at_:Nat
def Sh.d(r:Sh):D:=.tup [.str r.nm,.str r.mn,.tup (r.th.map gO),.tup (r.be.map mH),.ref r.at_]
structure Sh.ok(ws:X6)(r:Sh):Prop where
 nm:r.nm∈ws
 mn:r.mn∈oA
 th:Sub ws (r.th.map (·.1)) 4/\∀v∈r.th,v.2<10
 be:Sub ws (r.be.map (·.1)) 3/\∀v∈r.be,v.2∈sorts
 ds:Sub ws r.ds 4
section
variable{k j n iw:Nat}{S S0:aB}{Q:Res->aB->Prop}{ws:X6}
def fS{xs:List D}(x:Ex k j n S0 S)(l:n<999990000)(i:0<xs.length)(f:xs.length<1000)(b:∀d∈xs,bx 0 d=true)
  (h:∀(d:D) (a:aB),d∈xs->Ex k j (n+1) S0 a->Ex k j (n+1) S a->Q (.d d) a):Fn aZ [.ref k,.ref S.length] (S++ [.lst xs]) Q:=
 nX (x.app (G:= [.lst xs])) (!0) x.lt aR i f b λd a g c e _=>h d a g c (x.here.app.trans e)
end
def sN(p:Str×Str):PyData:=.tuple [.str p.1,.str p.2]
def Dy(p:Str×Str):PyData.eqv (sN p) (sN p)=true:=by
 simp[sN,PyData.eqv,PyData.eqvAll]
def yP{p:Str×Str}(h:PyData.strOk p.1=true/\PyData.strOk p.2=true):fU (gT p)=some (sN p):=by
 simp[gT,fU,fT,h.1,h.2,sN]
theorem vd:∀{a:List (Str×Str)},(∀q∈a,PyData.strOk q.1=true/\PyData.strOk q.2=true)->fT (a.map gT)=some (a.map sN)
 | [],_=>rfl
 | q::a,h=>by
   erw[QDq,fT]
   rw[yP (h q (QBq ..)),vd λq b=>h q (Qpq _ b)]
   rfl
theorem CS{p:Str×Str}:∀{a:List (Str×Str)},p∈a->∃j,j<a.length/\km (sN p) (a.map sN)=some j
 | [],h=>by cases h
 | q::a,h=>by
   erw[QDq,km]
   by_cases c:PyData.eqv (sN q) (sN p)=true
   · exact#[0,by simp,by rw[Qhq c]]
   · have e:p∈a:=by
       rcases Qsq.mp h with rfl|h
       · exact absurd (Dy _) c
       · exact h
     let#[j,b,d]:=CS e
     exact#[j+1,by simpa using b,by rw[Quq c,d];rfl]
def A6(p:Str×Str):(sN p).depth<=60:=by
 simp[sN,PyData.depth,PyData.depthAll]
def D4:dy:=(aJ (bf 5 (aF cn (au (aw 0) (au (bo (cq bA (au (aw 0) (au (aw 1) (au (aF aK (au (aw 0) (au (cF (.int 5)) ax))) ax))))) ax))))
 (aJ (bf 6 (bo (bu [none,some 0] (fg (b_ (cq bA (au (aw 0) (au (aw 1) (au (aF aK (au (aw 0) (au (cF (.int 4)) ax))) ax)))))) (cf 0) bP (a9 (au (aw 0) (au (aF aZ (au (aw 1) (au (bo (aV (au (cF (.str "row")) (au (cF (.str "turns")) ax)))) ax))) ax))))))
 (aJ (bf 7 (bo (cq bA (au (aw 0) (au (aw 1) (au (bp cQ (cF (.int 1)) (aF aK (au (aw 0) (au (cF (.int 4)) ax)))) ax))))))
 (aJ (jl (ku gR (aw 2) (au (a9 (au (aw 4) (au (aF aZ (au (aw 0) (au (bo (aV (au (cF (.str "at once")) (au (cF (.str "when free")) ax)))) ax))) (au (aw 5) (au (tupQ (dZ (aS (aw 6)))) (au (aw 7) ax)))))) ax)))
 (fW (fg (aS (aw 7))) (cf 8) (jl (ku rf (aw 3) (au (aF aK (au (aw 0) (au (bp cQ (ow (aS (aw 3))) (cF (.int 1))) ax))) (au (a9 (au (aw 4) (au (aw 8) ax))) ax)))))))))
structure Sg(ws:X6)(S:aB)(sh od:Nat)(i:Nat)(names:X6)(shs:List Sh)(os:List (Str×Str)):Prop where
 f1:S[sh]?=some (.lst (shs.map Sh.d))
 f2:S[od]?=some (.lst (os.map gT))
 nm:shs.map (·.nm)=names.take i
 ok:∀r∈shs,r.ok ws/\od<r.at_/\S[r.at_]?=some (.lst (r.ds.map D.str))
 len:os.length<=4*i
 all:∀r∈shs,∀d∈r.ds,(r.nm,d)∈os
 mem:∀q∈os,q.1∈ws/\q.2∈ws
section
variable{k j n iw:Nat}{S S0:aB}{ws:X6}
def B7{names:X6}{nm:Str}{i sh od:Nat}{a:Nat->Option D}{e:List Sh}{os:List (Str×Str)}{Q:Out->Prop}(x:Ex k j n S0 S)(hn:n<990000000)(hi:k<iw)(hS:S[iw]?=some (.lst (ws.map D.str)))(hw:ws.length<27)(d2:names[i]?=some nm)(a2:nm∈ws)(d9:i<4)
  (k1:k<sh) (k2:sh<od) (k0:S0.length<=sh) (kl:k<S0.length) (d7:iw<sh) (g:Sg ws S sh od i names e os)
  (q:∀(N:Nat->Option D) (A:aB) (a5:List Sh) (c:List (Str×Str)),Ex k j (n+200) S0 A->A[iw]?=some (.lst (ws.map D.str))->Sg ws A sh od (i+1) names a5 c->Q (.nx [some (.ref k),some (.ref iw),some (.ref sh),some (.ref od),N 4,N 5,N 6,N 7,N 8,N 9,N 10,N 11,N 12] A)):
  T D4 [some (.ref k),some (.ref iw),some (.ref sh),some (.ref od),some (.str nm),a 5,a 6,a 7,a 8,a 9,a 10,a 11,a 12] S Q:=by
 unfold D4
 let Bf:=(gQs.mp g.f2).1
 symm
 apply bN x.here (!0) (!1) (!1) λv S1 hv e1 _ l1=>?_
 refine gh e1.here (!0) hi (e1.at hi hS) (!0) (!0) (!0) λss S2 b0 d6 a3 e2 _ l2=>?_
 let e2:=e1.trans e2
 have J:Sub ws ss 4:=#[b0,by omega,a3]
 symm
 refine iD (i:=S2.length) (ws:=ss) e2.here.app (!0) e2.lt aR (by have:=J.len;omega) λF S3 d5 c1 _ I l3=>?_
 subst d5
 have e3:Ex k j (n+60) S S3:=(e2.trans #[by have:=I.len;erw[lQa] at this;omega,I.jk,λi o n1 n2 h=>I.keep i o n1 n2 (aM h),I.pot]).mono (by have:=J.len;omega)
 clear I l1 l2 l3 e1
 symm
 apply ml ?_
 refine bN e3.here (!0) (!1) (!1) λv2 S4 f0 e4 _ _=>?_
 let e4:=e3.trans e4
 symm
 refine gh e4.here (!0) hi (e4.at hi hS) (!0) (!0) (!0) λbs S5 d3 f3 c3 e5 _ _=>?_
 have e5:Ex k j (n+90) S S5:=(e4.trans e5).mono (!0)
 have M:Sub ws bs 3:=#[d3,by omega,c3]
 refine#[λt w A Z=>∃p:List (Str×Str),(∃o,w= [o,some (.ref k)])/\Ex k j (n+90+t) S A/\Z=p.map mH/\p.map (·.1)=bs.take t/\∀b∈p,b.2∈sorts,?_,λ_ _ _ _ _=>trivial,?_,?_]
 ·exact#[[],#[none,L],e5,L,L,λ_ h=>by cases h]
 ·rintro t d w A Z P ⟨p,⟨o,rfl⟩,U,rfl,hbe,hso⟩
  rw[gQm] at P
  let#[b,hb,rfl]:=oQm.mp P
  have ht:t<bs.length:=(gQs.mp hb).1
  have:=M.len
  symm
  rw[Qhq L]
  symm
  apply#[by decide,?_]
  refine fS U.here (!0) (!1) (!1) (ie (l:=sorts)) λz S7 hz e7 _=>?_
  let#[so,hs,rfl]:=Qkq.mp (show z∈sorts.map D.str from hz)
  symm
  have hl:p.length=t:=by have:=congrArg List.length hbe;rw[lQm,Qxq] at this;omega
  refine#[show 2<=sizeLine by decide,by rw[lQm,hl];exact Qqq (show t<60 by omega) (!1),p++ [(b,so)],#[_,L],U.trans e7,by simp[mH],?_,?_]
  ·rw[Qzq,hbe,QYq,hb]
   rfl
  ·intro y B
   rcases mQa.mp B with B|B
   ·exact hso y B
   ·rw[Qfq] at B;subst B;exact hs
 rintro w S6 Z ⟨p,_,U,rfl,hbe,hso⟩
 erw[lQm,QEq] at U hbe
 subst hbe
 have U:Ex k j (n+94) S S6:=U.mono (by have:=M.len;omega)
 clear e5 e4
 symm
 let b6:=aR (S:=S6) (o:=.lst (p.map mH))
 have e7:Ex k j (n+94) S (S6++ [.lst (p.map mH)]):=U.app
 have c6:S.length<=S6.length:=U.len
 generalize S6++ [.lst (p.map mH)]=S7 at b6 e7|-
 refine bN e7.here (!0) (!1) (!1) λv3 S8 f5 e8 _ _=>?_
 let b8:=e8.at (by have:=x.lt;omega) b6
 let e8:=e7.trans e8
 symm
 rw[show(1:Int)+(v3:Int)=((1+v3:Nat):Int) by omega]
 refine gh e8.here (!0) hi (e8.at hi hS) (!0) (!0) (!0) λu s d1 f4 c4 e9 _ _=>?_
 let b9:=e9.at (by have:=x.lt;omega) b8
 have e9:Ex k j (n+125) S s:=(e8.trans e9).mono (!0)
 have C:Sub ws u 4:=#[d1,by omega,c4]
 symm
 let a1:=aM (G:= [.lst (u.map D.str)]) b9
 let b5:=aR (S:=s) (o:=.lst (u.map D.str))
 have R:Ex k j (n+125) S (s++ [.lst (u.map D.str)]):=e9.app
 have c9:S.length<=s.length:=e9.len
 generalize s++ [.lst (u.map D.str)]=S10 at a1 b5 R|-
 apply i4 ?_
 apply#[sh,_,L,R.at k1 g.f1,?_]
 apply#[by decide,?_]
 refine fS R.here (!0) (!1) (!1) (ie (l:=oA)) λz W hz m _=>?_
 let#[K,c2,rfl]:=Qkq.mp (show z∈oA.map D.str from hz)
 let c8:=m.at (by have:=x.lt;omega) a1
 let c5:=m.at (by have:=x.lt;omega) b5
 let m:=R.trans m
 symm
 refine bb c8 ?_
 apply#[L,?_]
 apply#[show 5<=sizeLine by decide,?_]
 have d8:e.length<=i:=by have:=congrArg List.length g.nm;rw[lQm,Qxq] at this;omega
 refine#[_,m.at k1 g.f1,eY (by rw[lQm];exact Qqq (show e.length<60 by omega) (!1)) ?_]
 symm
 let kS:=x.lt
 have er:e.map Sh.d++ [D.tup [.str nm,.str K,.tup (F.map λv=>.tup [.str v.1,.int v.2]),.tup (p.map mH),.ref s.length]]=(e++ [Sh.mk nm K F p u s.length]).map Sh.d:=by rw[Qzq];rfl
 rw[er]
 let b2:=bF (o':=.lst ((e++ [Sh.mk nm K F p u s.length]).map Sh.d)) (m.at k1 g.f1)
 let X:=bB (k:=sh) (o':=.lst ((e++ [Sh.mk nm K F p u s.length]).map Sh.d)) (!0) c5
 let a4:=bB (k:=sh) (o':=.lst ((e++ [Sh.mk nm K F p u s.length]).map Sh.d)) (!0) (m.at (!0) g.f2)
 let b3:=bB (k:=sh) (o':=.lst ((e++ [Sh.mk nm K F p u s.length]).map Sh.d)) (!0) (m.at hi hS)
 have b7:Ex k j (n+126) S0 (W.set sh (.lst ((e++ [Sh.mk nm K F p u s.length]).map Sh.d))):=(x.trans m).put k0 kl
 have b4:∀r∈e,(W.set sh (.lst ((e++ [Sh.mk nm K F p u s.length]).map Sh.d)))[r.at_]?=some (.lst (r.ds.map D.str)):=λr f=>bB (by have:=(g.ok r f).2.1;omega) (m.at (by have:=(g.ok r f).2.1;omega) (g.ok r f).2.2)
 generalize W.set sh (.lst ((e++ [Sh.mk nm K F p u s.length]).map Sh.d))=S12 at b2 X a4 b3 b7 b4|-
 have d4:od<s.length:=by omega
 apply eV ?_
 refine bb X ?_
 refine#[λt w A=>∃(o:Option D) (c:List (Str×Str)),w= [some (.ref k),some (.ref iw),some (.ref sh),some (.ref od),some (.str nm),some (.tup (F.map λv=>.tup [.str v.1,.int v.2])),some (.ref S6.length),some (.ref s.length),o,a 9,a 10,a 11,a 12]/\Ex k j (n+126+t) S0 A/\A[iw]?=some (.lst (ws.map D.str))/\A[sh]?=some (.lst ((e++ [Sh.mk nm K F p u s.length]).map Sh.d))/\A[s.length]?=some (.lst (u.map D.str))/\(∀r∈e,A[r.at_]?=some (.lst (r.ds.map D.str)))/\A[od]?=some (.lst (c.map gT))/\c.length=os.length+t/\(∀q∈os,q∈c)/\(∀d∈u.take t,(nm,d)∈c)/\∀q∈c,q.1∈ws/\q.2∈ws,?_,λt w A h=>?_,?_,?_]
 ·exact#[_,os,L,b7,b3,b2,X,b4,a4,L,λ_ h=>h,λd h=>by simp at h,g.mem]
 ·let#[_,_,_,_,_,_,h,_]:=h;exact h
 ·rintro t d w A P ⟨o,c,rfl,e13,w13,h13,d13,a13,o13,hl13,m1,m2,m3⟩
  dsimp only at P
  rw[gQm] at P
  let#[d,Y,rfl]:=oQm.mp P
  have ht:t<u.length:=(gQs.mp Y).1
  have:=C.len
  have:=g.len
  apply bc ?_
  apply i4 ?_
  apply#[od,_,L,o13,?_]
  apply bb o13 ?_
  erw[lQm]
  refine bN e13.here (!0) (!0) (!0) λz e0 hz H _ _=>?_
  let b1:=H.at (!0) o13
  symm
  apply#[show 2<=sizeLine by decide,?_]
  refine#[_,b1,AZ (by rw[lQm];omega) (by rw[lQm];omega) ?_]
  symm
  refine#[_,c.take z++(nm,d)::c.drop z,L,(e13.trans H).put (!0) kl,bB (!0) (H.at hi w13),bB (!0) (H.at k1 h13),bB (!0) (H.at (!0) d13),λr f=>bB (by have:=(g.ok r f).2.1;omega) (H.at (by have:=(g.ok r f).2.1;omega) (a13 r f)),?_,?_,?_,?_,?_]
  ·rw[bF b1]
   erw[Qzq,QDq,List.map_take,List.map_drop]
   rfl
  ·erw[lQa,Qnq,Qxq,List.length_drop]
   omega
  ·intro q hq
   have:q∈c.take z++c.drop z:=by rw[List.take_append_drop];exact m1 q hq
   rcases mQa.mp this with h|h
   ·exact List.mem_append_left _ h
   ·exact Qoq _ (Qpq _ h)
  ·intro y B
   rw[QYq,Y] at B
   rcases mQa.mp B with B|B
   ·have:(nm,y)∈c.take z++c.drop z:=by rw[List.take_append_drop];exact m2 y B
    rcases mQa.mp this with h|h
    ·exact List.mem_append_left _ h
    ·exact Qoq _ (Qpq _ h)
   ·obtain rfl:y=d:=by simpa using B
    exact Qoq _ (QBq ..)
  ·intro y B
   have:y∈c\/y=(nm,d):=by
    rcases mQa.mp B with h|h
    ·exact .inl (List.mem_of_mem_take h)
    ·rcases Qsq.mp h with h|h
     ·exact .inr h
     ·exact .inl (List.mem_of_mem_drop h)
   rcases this with h|rfl
   ·exact m3 y h
   ·exact#[a2,C.mem (mQg Y)]
 rintro w c7 ⟨o,c,rfl,e13,w13,h13,d13,a13,o13,hl13,m1,m2,m3⟩
 erw[lQm] at e13 hl13 m2
 have:=C.len
 refine q (λz=>([none,none,none,none,some (.str nm),some (.tup (F.map λv=>.tup [.str v.1,.int v.2])),some (.ref S6.length),some (.ref s.length),o,a 9,a 10,a 11,a 12]:List (Option D)).getD z none) c7 (e++ [Sh.mk nm K F p u s.length]) c (e13.mono (!0)) w13 #[h13,o13,?_,?_,by have:=g.len;omega,?_,m3]
 ·rw[Qzq,g.nm,QYq,d2]
  rfl
 ·intro r f
  rcases mQa.mp f with f|f
  ·exact#[(g.ok r f).1,(g.ok r f).2.1,a13 r f]
  ·rw[Qfq] at f
   subst f
   exact#[#[a2,c2,#[J,c1],#[M,hso],C],d4,d13]
 ·intro r f d P
  rcases mQa.mp f with f|f
  ·exact m1 _ (g.all r f d P)
  ·rw[Qfq] at f
   subst f
   exact m2 d (by rw[QEq];exact P)
end
def eX{α:Type}(xs:List α)(i:Nat):j6 xs (some (i:Int)) none=xs.drop i:=by
 unfold j6
 rw[HT.tE,HT.qh]
 by_cases h:i<=xs.length
 ·rw[Nat.min_eq_left h,List.take_of_length_le (by rw[List.length_drop];omega)]
 ·rw[Nat.min_eq_right (!0),List.drop_length,List.drop_of_length_le (!0)]
  simp
def Eh:dy:=(aJ (bf 11 (bo (aV ax)))
 (aJ (fW (fg (aS (aw 7))) (cf 8) (aJ (bf 12 (bo (AG (aS (aw 3)) (uY (bp cQ (vn (aS (aw 3)) (a9 (au (aw 4) (au (aw 8) ax)))) (cF (.int 1)))) xk)))
 (jl (ku gR (aw 11) (au (a9 (au (aw 8) (au (aF cP (au (aw 0) (au (aF cA (au (aw 10) (au (aw 5) (au (aw 6) (au (aw 12) ax))))) ax))) ax))) ax)))))
 (jl (ku gR (aw 9) (au (a9 (au (aw 4) (au (aw 10) (au (aw 5) (au (aw 6) (au (tupQ (dZ (aS (aw 11)))) ax)))))) ax)))))
section
variable{k j n iw:Nat}{S S0:aB}{ws:X6}
def Bw{r:Sh}{sh od rl:Nat}{a:Nat->Option D}{f:List (Str×Str)}{v:List Rm}{Q:Out->Prop}(x:Ex k j n S0 S)(hn:n<990000000)(I:∀w∈ws,PyData.strOk w=true)(h3:S[od]?=some (.lst (f.map gT)))
  (h4:S[rl]?=some (.lst (v.map Rm.d))) (C:r.ok ws) (K:S[r.at_]?=some (.lst (r.ds.map D.str))) (a3:f.length<=16) (B:∀d∈r.ds,(r.nm,d)∈f) (g:∀q∈f,q.1∈ws/\q.2∈ws) (k0:S0.length<=rl) (k1:k<od) (k2:k<r.at_) (kl:k<S0.length) (a1:v.length<60)
  (q:∀(A:Nat->Option D) (b:aB) (rm:Rm),rm.ok ws->rm.nm=r.nm->Ex k j (n+54000) S0 b->(∀i o,k<i->i≠rl->S[i]?=some o->b[i]?=some o)->b[rl]?=some (.lst ((v++ [rm]).map Rm.d))->
   Q (.nx [some (.ref k),some (.ref iw),some (.ref sh),some (.ref od),A 4,A 5,A 6,A 7,A 8,some (.ref rl),A 10,A 11,A 12] b)):
  T Eh [some (.ref k),some (.ref iw),some (.ref sh),some (.ref od),some (.str r.nm),some (.tup (r.th.map gO)),some (.tup (r.be.map mH)),some (.ref r.at_),a 8,some (.ref rl),some (.str r.mn),a 11,a 12] S Q:=by
 unfold Eh
 have M:∀q∈f,PyData.strOk q.1=true/\PyData.strOk q.2=true:=λq R=>#[I _ (g q R).1,I _ (g q R).2]
 have l1:r.th.length<50:=by have:=C.th.1.len;rw[lQm] at this;omega
 have l2:r.be.length<50:=by have:=C.be.1.len;rw[lQm] at this;omega
 let l3:=C.ds.len
 let kS:=x.lt
 let a5:=(gQs.mp h4).1
 symm
 apply#[by decide,?_]
 let m1:=aR (S:=S) (o:=.lst [])
 have Y:Ex k j n S (S++ [.lst []]):=x.here.app
 generalize S++ [.lst []]=S1 at m1 Y|-
 apply eV ?_
 refine bb (Y.at k2 K) ?_
 refine#[λt y b=>∃(P u:Option D) (l:List (Str×List Rw)),y= [some (.ref k),some (.ref iw),some (.ref sh),some (.ref od),some (.str r.nm),some (.tup (r.th.map gO)),some (.tup (r.be.map mH)),some (.ref r.at_),P,some (.ref rl),some (.str r.mn),some (.ref S.length),u]/\Ex k j (n+13000*t) S b/\b[S.length]?=some (.lst (l.map yM))/\l.map (·.1)=r.ds.take t/\(∀p∈l,∃ds:List (Str×Str),ds.length<=16/\(∀q∈ds,q.1∈ws/\q.2∈ws)/\Pr (oN (r.th.map (·.1)) (r.be.map (·.1)) ds (decide (r.mn="when free"))) p.2),?_,λt y b h=>?_,?_,?_]
 ·exact#[_,_,[],L,Y,m1,L,λ_ h=>by cases h]
 ·let#[_,_,_,_,e,_]:=h
  exact e.at k2 K
 ·rintro t d y b hd ⟨P,u,l,rfl,e2,m2,hde,hpr⟩
  dsimp only at hd
  rw[gQm] at hd
  let#[d,s,rfl]:=oQm.mp hd
  have ht:t<r.ds.length:=(gQs.mp s).1
  let#[m,a4,Z]:=CS (B d (mQg s))
  let N:=e2.at k1 h3
  apply bc ?_
  apply wu ?_
  refine bb N ?_
  apply eG ?_
  apply wK ?_
  refine bb N ?_
  apply#[L,?_]
  refine#[show 2<=sizeLine by decide,?_]
  apply#[N,sN (r.nm,d),f.map sN,m,yP (p:=(r.nm,d)) (M _ (B d (mQg s))),vd M,A6 _,Z,?_]
  refine#[_,L,eH #[#[L,N],?_]]
  rw[show((m:Nat):Int)+1=((m+1:Nat):Int) by omega,eX,<-List.map_drop]
  symm
  have X:(f.drop (m+1)).length<=16:=by rw[List.length_drop];omega
  let c3:=aR (S:=b) (o:=.lst ((f.drop (m+1)).map gT))
  have W:Ex k j (n+13000*t) S (b++ [.lst ((f.drop (m+1)).map gT)]):=e2.app
  let m3:=aM (G:= [.lst ((f.drop (m+1)).map gT)]) m2
  have s3:S.length<=b.length:=e2.len
  generalize b++ [.lst ((f.drop (m+1)).map gT)]=S3 at c3 W m3|-
  apply i4 ?_
  apply#[S.length,_,L,m3,?_]
  refine AA c3 l1 l2 (!0) λS4 c a2 ig ib ik H q1 q2 q3 q4 q5 J=>?_
  have e4:Ex k j (n+13000*t) S S4:=by let#[G,rfl]:=H;exact W.app
  have m4:S4[S.length]?=some (.lst (l.map yM)):=by let#[G,rfl]:=H;exact aM m3
  have s4:S.length<=S3.length:=W.len
  symm
  refine sT e4.here (!0) J (vz (by rw[lQm];exact l1) (by rw[lQm];exact l2) (!0)) (!0) (!0) (!0) (!0) (!0) (!0) (λi hi=>by cases hi) λrs S5 p1 p2 p3 e5 _ _=>?_
  let m5:=e5.at kS m4
  symm
  apply#[show 2<=sizeLine by decide,?_]
  have hl:l.length=t:=by have:=congrArg List.length hde;rw[lQm,Qxq] at this;omega
  refine#[_,m5,eY (by rw[lQm,hl];exact Qqq (show t<60 by omega) (!1)) ?_]
  symm
  refine#[_,_,l++ [(d,rs)],L,((e4.trans e5).put (Qmq _) kS).mono (!0),?_,?_,λp F=>?_]
  ·rw[bF m5,Qzq]
   rfl
  ·rw[Qzq,hde,QYq,s]
   rfl
  ·rcases mQa.mp F with F|F
   ·exact hpr p F
   ·rw[Qfq] at F
    subst F
    exact#[f.drop (m+1),X,λq R=>g q (List.mem_of_mem_drop R),p1,p2,p3]
 rintro y S2 ⟨P,u,l,rfl,e2,m2,hde,hpr⟩
 erw[lQm,QEq] at e2 hde
 have U:S2[rl]?=some (.lst (v.map Rm.d)):=e2.at (!0) h4
 symm
 apply i4 ?_
 apply#[rl,_,L,U,?_]
 refine bb m2 ?_
 apply#[L,?_]
 apply#[show 5<=sizeLine by decide,?_]
 refine#[_,U,eY (by rw[lQm];exact Nat.lt_trans a1 (!1)) ?_]
 symm
 refine q (λz=>([none,none,none,none,some (.str r.nm),some (.tup (r.th.map gO)),some (.tup (r.be.map mH)),some (.ref r.at_),P,none,some (.str r.mn),some (.ref S.length),u]:List (Option D)).getD z none) _ #[r.nm,r.mn,r.th,r.be,l] #[C.nm,C.mn,C.th,C.be,?_,hpr] L (((x.trans e2).put k0 kl).mono (!0)) (λi o h1 h2 h3=>bB h2 (e2.at h1 h3)) ?_
 ·show Sub ws (l.map (·.1)) 4
  rw[hde]
  exact C.ds
 ·rw[bF U,Qzq]
  rfl
end
section
variable{k j n iw:Nat}{S S0:aB}{ws:X6}{Q:Res->aB->Prop}
def jx{l:List Nat}:∀d∈l.map (λ(i:Nat)=>D.int i),bx 0 d=true:=λd a=>by
 let#[z,_,rfl]:=Qkq.mp a
 rfl
def wR(x:Ex k j n S0 S)(hn:n<900000000)(hi:k<iw)(hS:S[iw]?=some (.lst (ws.map D.str)))(hw:ws.length<27)(a2:∀w∈ws,PyData.strOk w=true)
  (h:∀(b:List Rm) (e:aB),Sub ws (b.map (·.nm)) 4->(∀r∈b,r.ok ws)->Ex k j (n+220000) S0 e->Ex k j (n+220000) S e->e.length=S.length->Q (.d (.tup (b.map Rm.d))) e):Fn fh [.ref k,.ref iw] S Q:=by
 let Y:=x.lt
 let il:=(gQs.mp hS).1
 refine dN ?_
 unfold kH
 symm
 apply tH ?_
 apply#[by decide,?_]
 apply#[by decide,?_]
 refine#[_,_,L,?_]
 have s1:((S++ [.lst []])++ [.lst []])[S.length]?=some (.lst ([]:List D)):=aM aR
 let o1:=aR (S:=S++ [.lst []]) (o:=.lst [])
 rw[show(S++ [O.lst []]).length=S.length+1 by simp] at o1|-
 have M:Ex k j n S ((S++ [.lst []])++ [.lst []]):=x.here.app.app
 have l1:((S++ [O.lst []])++ [O.lst []]).length=S.length+2:=by simp
 generalize (S++ [.lst []])++ [.lst []]=S1 at s1 o1 M l1|-
 apply fY (eV ?_)
 apply#[by decide,?_]
 refine fS M.here (!0) (!1) (!1) (jx (l:= [0,1,1,2,2,3,4])) λd S2 u y2 _=>?_
 let#[m,hm,rfl]:=Qkq.mp (show d∈([0,1,1,2,2,3,4]:List Nat).map (λ(i:Nat)=>D.int i) from u)
 have a5:m<=4:=by
  erw[Qsq,QXq,or_false] at hm
  omega
 let e2:=M.trans y2
 symm
 refine gh y2 (!0) hi (e2.at hi hS) (!0) (!0) (!0) λnames S3 a1 b0 U Z _ _=>?_
 have e3:Ex k j (n+40) S S3:=(M.trans Z).mono (!0)
 have A:Sub ws names 4:=#[a1,by omega,U]
 let a4:=A.len
 symm
 refine#[λi f e=>∃(a:Nat->Option D) (c:List Sh) (N:List (Str×Str)),f= [some (.ref k),some (.ref iw),some (.ref S.length),some (.ref (S.length+1)),a 4,a 5,a 6,a 7,a 8,a 9,a 10,a 11,a 12]/\Ex k j (n+40+200*i) S e/\e[iw]?=some (.lst (ws.map D.str))/\Sg ws e S.length (S.length+1) i names c N,#[λ_=>none,[],[],L,e3,e3.at hi hS,Z.at (!0) s1,Z.at (!0) o1,L,λ_ h=>(by cases h),by simp,λ_ h=>(by cases h),λ_ h=>(by cases h)],λ_ _ _ _=>trivial,?_,?_]
 ·rintro i d f e u ⟨a,c,N,rfl,e4,w4,g⟩
  rw[gQm] at u
  let#[nm,C,rfl]:=oQm.mp u
  have ht:i<names.length:=(gQs.mp C).1
  refine bc ?_
  exact B7 (names:=names) (a:=a) (sh:=S.length) (od:=S.length+1) e4 (!0) hi w4 hw C (A.mem (mQg C)) (!0) (!0) (!0) (Qmq _) Y (!0) g λX a3 J W K w5 v=>#[X,J,W,L,K.mono (!0),w5,v]
 rintro f q ⟨a,c,N,rfl,e4,w4,g⟩
 erw[lQm] at e4 g
 let gl:=g.len
 let P:=g.nm
 rw[QEq] at P
 symm
 apply#[by decide,?_]
 let r5:=aR (S:=q) (o:=.lst [])
 have K:Ex k j (n+900) S (q++ [.lst []]):=(e4.app).mono (!0)
 let R:=aM (G:= [.lst []]) g.f1
 let f2:=aM (G:= [.lst []]) g.f2
 have fa:∀r∈c,(q++ [.lst []])[r.at_]?=some (.lst (r.ds.map D.str)):=λr B=>aM (g.ok r B).2.2
 have fb:∀r∈c,r.at_<q.length:=λr B=>(gQs.mp (g.ok r B).2.2).1
 have fc:S.length+1<q.length:=(gQs.mp g.f2).1
 have fd:c.length=names.length:=by have:=congrArg List.length P;rwa [lQm] at this
 generalize q++ [.lst []]=S5 at r5 K R f2 fa|-
 apply eV ?_
 refine bb R ?_
 refine#[λi f e=>∃(a:Nat->Option D) (b:List Rm),f= [some (.ref k),some (.ref iw),some (.ref S.length),some (.ref (S.length+1)),a 4,a 5,a 6,a 7,a 8,some (.ref q.length),a 10,a 11,a 12]/\Ex k j (n+900+54000*i) S e/\e[S.length]?=some (.lst (c.map Sh.d))/\e[S.length+1]?=some (.lst (N.map gT))/\(∀r∈c,e[r.at_]?=some (.lst (r.ds.map D.str)))/\e[q.length]?=some (.lst (b.map Rm.d))/\b.map (·.nm)=names.take i/\∀r∈b,r.ok ws,#[a,[],L,K,R,f2,fa,r5,L,λ_ h=>(by cases h)],λt f e h=>?_,?_,?_]
 ·let#[_,_,_,_,h,_]:=h;exact h
 ·rintro i d f e u ⟨a,b,rfl,e6,g1,g2,g3,g4,v,g6⟩
  dsimp only at u
  rw[gQm] at u
  let#[r,B,rfl]:=oQm.mp u
  let s:=mQg B
  have ht:i<c.length:=(gQs.mp B).1
  have rl:b.length=i:=by have:=congrArg List.length v;rw[lQm,Qxq] at this;omega
  refine iI L (aD (bc (aD (bc (aD (bc (aD (bc (aD (bc (cy ?_)))))))))))
  refine Bw (r:=r) (sh:=S.length) (od:=S.length+1) (rl:=q.length) (a:=a) e6 (!0) a2 g2 g4 (g.ok r s).1 (g3 r s) (!0) (g.all r s) g.mem (!0) (!0) (by have:=(g.ok r s).2.1;omega) Y (!0) λX a3 rm H I e7 p r7=>?_
  refine#[X,b++ [rm],L,e7.mono (!0),p _ _ Y (!0) g1,p _ _ (!0) (!0) g2,λr' z=>p _ _ (by have:=(g.ok r' z).2.1;omega) (by have:=fb r' z;omega) (g3 r' z),r7,?_,λy F=>?_]
  ·rw[Qzq,v,QYq,<-P,gQm,B]
   simp[I]
  ·rcases mQa.mp F with F|F
   ·exact g6 y F
   ·rw[Qfq] at F;subst F;exact H
 rintro f S6 ⟨a,b,rfl,e6,g1,g2,g3,g4,v,g6⟩
 erw[lQm] at e6 v
 rw[fd,QEq] at v
 symm
 refine bb g4 ?_
 refine#[L,?_]
 refine gH (e6.mono (show _<=n+220000 by omega)) x ?_ λS7 b1 b2 b3=>h b _ (by rw[v];exact A) g6 b1 b2 b3
 erw[bx]
 exact cN λr _=>r.low
end
structure Hd where
 th:List (Str×Nat)
 pr:List Rw
def Hd.d(h:Hd):D:=.tup [.tup (h.th.map gO),.tup (h.pr.map Rw.d)]
structure Wr where
 rm:List Rm
 ps:List (Str×Nat)
 op:List (Str×Nat)
 hd:List Hd
def Wr.d(w:Wr):D:=.tup [.tup (w.rm.map Rm.d),.tup (w.ps.map gO),.tup (w.op.map gO),.tup (w.hd.map Hd.d)]
def xi(g d p:Bool):List Str:=((([("say":Str)])++rp g ["put"])++rp d ["do","do"])++rp p ["take","give","pass"]
def t8:∀g d p:Bool,(xi g d p).length<20/\(∀k∈xi g d p,k∈pL)/\(("put":Str)∈xi g d p->g=true)/\(("do":Str)∈xi g d p->d=true)/\(∀k∈(["take","give","pass"]:List Str),k∈xi g d p->p=true)/\∀k∈(["wait","call","all"]:List Str),k∉xi g d p:=by decide +kernel
def gK(a:X6)(b:List (Str×Str))(ps:X6):Sc:=#[a,a,[],b,xi (ne a) (!(b.map gT).isEmpty) (ne ps),ps]
def uB{b ps:X6}{a:List (Str×Str)}{d:Nat}(l:b.length<50)(p:ps.length<50)(o:a.length<50):(gK b a ps).fit (some d):=by
 let#[i,g,m,n,f,j]:=t8 (ne b) (!(a.map gT).isEmpty) (ne ps)
 refine#[#[by erw[gK];omega,l,by simp[gK],by erw[gK];omega,i,by erw[gK];omega],g,λh=>ne_is (m h),λh=>?_,λk c h=>absurd h (j k (by simpa using c)),λk c h=>#[ne_is (f k (by simpa using c) h),L]]
 have:=n h
 intro e
 have e:a= []:=e
 subst e
 cases this
def dec_not(p:Prop)[Decidable p]:(if true=true then !decide p else decide p)=decide (¬p):=by by_cases c:p <;>simp[c]
def bK(a:List Rm):List (Str×Str):=a.flatMap λr=>r.de.map λp=>(r.nm,p.1)
structure Hd.ok(ws ps op:X6)(ds:List (Str×Str))(h:Hd):Prop where
 th:Sub (ws.filter λw=>decide (w∉op)) (h.th.map (·.1)) 8/\∀v∈h.th,v.2<10
 pr:Pr (gK (h.th.map (·.1)++op) ds ps) h.pr
structure Wr.ok(ws:X6)(w:Wr):Prop where
 rm:Sub ws (w.rm.map (·.nm)) 4/\∀r∈w.rm,r.ok ws
 ps:Sub (ws.filter λz=>decide (z∉w.rm.map (·.nm))) (w.ps.map (·.1)) 16/\∀v∈w.ps,v.2<10
 op:Sub ws (w.op.map (·.1)) 16/\∀v∈w.op,v.2<10
 hd:1<=w.hd.length/\w.hd.length<=4/\∀h∈w.hd,h.ok ws (w.ps.map (·.1)) (w.op.map (·.1)) (bK w.rm)
section
variable{k j n iw:Nat}{S S0:aB}{ws:X6}{Q:Res->aB->Prop}
def xc{a:List Rm}(h:Sub ws (a.map (·.nm)) 4)(c:∀r∈a,r.ok ws):(bK a).length<=16:=by
 let e:=h.len
 rw[lQm] at e
 have b:∀l:List Rm,(∀r∈l,r.ok ws)->(bK l).length<=4*l.length:=by
  intro l
  induction l with
  |nil=>intro _;simp[bK]
  | cons r l f=>
    intro d
    let g:=f λr c=>d r (Qpq _ c)
    let i:=(d r (QBq ..)).de.1.len
    rw[lQm] at i
    erw[bK,QSq,lQa,lQm,Qnq] at g|-
    omega
 have:=b a c
 omega
def vG(x:Ex k j n S0 S)(hn:n<800000000)(hi:k<iw)(hS:S[iw]?=some (.lst (ws.map D.str)))(hw:ws.length<27)(f7:∀w∈ws,PyData.strOk w=true)
  (h:∀(w:Wr) (g:aB),w.ok ws->Ex k j (n+300000) S0 g->Ex k j (n+300000) S g->g.length=S.length->Q (.d w.d) g):Fn fq [.ref k,.ref iw] S Q:=by
 let kl:=x.lt
 let il:=(gQs.mp hS).1
 refine dN ?_
 unfold kI
 symm
 refine wR x.here (!0) hi hS hw f7 λc u K F e1 _ _=>?_
 let dl:=xc K F
 symm
 apply#[by decide,?_]
 let d2:=aR (S:=u) (o:=.lst [])
 have e2:Ex k j (n+220000) S (u++ [.lst []]):=e1.app
 have c1:S.length<=u.length:=e1.len
 generalize u++ [.lst []]=S2 at d2 e2|-
 apply eV ?_
 refine#[λi f g=>∃(a:Nat->Option D),f= [some (.ref k),some (.ref iw),some (.tup (c.map Rm.d)),some (.ref u.length),a 4,none,none,none,none,none,none,none,none,none]/\Ex k j (n+220000) S g/\g[u.length]?=some (.lst ((bK (c.take i)).map gT)),#[λ_=>none,L,e2,d2],λ_ _ _ _=>trivial,?_,?_]
 ·rintro i d f g hd ⟨a,rfl,e3,d3⟩
  rw[gQm] at hd
  let#[r,hr,rfl]:=oQm.mp hd
  let h5:=mQg hr
  apply bc ?_
  apply iW ?_
  refine#[u.length,_,L,d3,?_]
  apply eI (bU (α:=Str×List Rw) (λf=>∃a b,f= [a,b,some r.d]) yM (λp=>gT (r.nm,p.1)) (λ_=>true) #[none,none,L] (ed ?_))
  apply bM (aP (i:=4) L) ?_
  let f3:=(F r h5).de.1.len
  rw[lQm] at f3
  have h8:(bK (c.take i)).length<=16:=by
   have:(bK (c.take i)).length<=(bK c).length:=by
    conv=>rhs;rw[<-List.take_append_drop i c]
    erw[bK,List.flatMap_append,lQa]
    omega
   omega
  refine#[r.de,L,trivial,by omega,λp hp f v=>?_,?_]
  ·let#[a,b,rfl]:=v
   apply iI L (aD (bc (aD (bc (cy #[L,#[_,_,L],du #[L,L,λ_=>?_]])))))
   apply bM (aP (i:=0) L) ?_
   exact#[show 2<=sizeLine by decide,L,L]
  rw[i3]
  refine#[_,d3,#[L,sm (by erw[lQm];omega)],λ_=>some r.d,L,e3.put c1 kl,?_]
  rw[bF d3]
  rw[QYq,hr]
  simp[bK,QPq]
 rintro f S3 ⟨a,rfl,e3,d3⟩
 rw[lQm,QEq] at d3
 symm
 apply bU (α:=Str) (λf=>∃a,f= [a,some (.tup (c.map Rm.d))]) D.str D.str (λw=>decide (w∉c.map (·.nm))) #[none,L] (ed ?_)
 refine bb (e3.at hi hS) ?_
 refine#[ws,L,e3.at hi hS,by omega,λw _ f v=>?_,?_]
 ·let#[a,rfl]:=v
  apply bc #[L,#[_,L],?_]
  apply dC ?_
  apply bU (α:=Rm) (λf=>∃a,f= [a]) Rm.d (λr=>.str r.nm) (λ_=>true) #[none,L] (ed ?_)
  let h4:=K.len
  rw[lQm] at h4
  refine#[c,L,trivial,by omega,λr _ f v=>?_,?_]
  ·let#[a,rfl]:=v
   apply bc #[L,#[_,L],du #[L,L,λ_=>?_]]
   exact bM (aP (i:=0) L) #[L,L]
  rw[i3]
  refine#[w,c.map (·.nm),L,by rw[QPq];rfl,?_]
  apply#[L,dec_not _,λ_=>?_]
  exact#[L,L]
 have lf:(ws.filter λw=>decide (w∉c.map (·.nm))).length<27:=by have:=List.length_filter_le (λw=>decide (w∉c.map (·.nm))) ws;omega
 symm
 let f4:=aR (S:=S3) (o:=.lst ((ws.filter λw=>decide (w∉c.map (·.nm))).map D.str))
 have e4:Ex k j (n+220000) S (S3++ [.lst ((ws.filter λw=>decide (w∉c.map (·.nm))).map D.str)]):=e3.app
 let d4:=aM (G:= [.lst ((ws.filter λw=>decide (w∉c.map (·.nm))).map D.str)]) d3
 have c3:S.length<=S3.length:=e3.len
 generalize S3++ [.lst ((ws.filter λw=>decide (w∉c.map (·.nm))).map D.str)]=S4 at f4 e4 d4|-
 apply#[by decide,?_]
 refine fS e4.here (!0) (!1) (!1) (jx (l:= [0,0,1,2,3,16])) λz S5 hz y5 _=>?_
 let#[m1,a3,rfl]:=Qkq.mp (show z∈([0,0,1,2,3,16]:List Nat).map (λ(i:Nat)=>D.int i) from hz)
 have a3:m1<=16:=by
  erw[Qsq,QXq,or_false] at a3
  omega
 symm
 refine gh y5 (!0) (!0) (y5.at (!0) f4) (!0) (!0) (!0) λA t q1 q2 q3 y6 _ _=>?_
 have J:Sub (ws.filter λw=>decide (w∉c.map (·.nm))) A 16:=#[q1,by omega,q3]
 have y6:Ex k j (n+220040) S4 t:=y6.mono (!0)
 symm
 let p7:=aR (S:=t) (o:=.lst (A.map D.str))
 have e7:Ex k j (n+220040) S (t++ [.lst (A.map D.str)]):=(e4.trans y6).app
 let d7:=aM (G:= [.lst (A.map D.str)]) (y6.at (!0) d4)
 have c6:S.length<=t.length:=(e4.trans y6).len
 have h7:u.length<t.length:=(gQs.mp (y6.at (!0) d4)).1
 generalize t++ [.lst (A.map D.str)]=S7 at p7 e7 d7|-
 apply#[by decide,?_]
 refine fS e7.here (!0) (!1) (!1) (jx (l:= [0,0,1,2,16])) λz S8 hz y8 _=>?_
 let#[m2,a4,rfl]:=Qkq.mp (show z∈([0,0,1,2,16]:List Nat).map (λ(i:Nat)=>D.int i) from hz)
 have a4:m2<=16:=by
  erw[Qsq,QXq,or_false] at a4
  omega
 symm
 refine gh y8 (!0) hi ((e7.trans y8).at hi hS) (!0) (!0) (!0) λq M q4 q5 q6 y9 _ _=>?_
 have H:Sub ws q 16:=#[q4,by omega,q6]
 have y9:Ex k j (n+220080) S7 M:=y9.mono (!0)
 symm
 let Y:=aR (S:=M) (o:=.lst (q.map D.str))
 have e0:Ex k j (n+220080) S (M++ [.lst (q.map D.str)]):=(e7.trans y9).app
 let e5:=aM (G:= [.lst (q.map D.str)]) (y9.at (!0) d7)
 let c5:=aM (G:= [.lst (q.map D.str)]) (y9.at (!0) p7)
 have c9:t.length<M.length:=(gQs.mp (y9.at (!0) p7)).1
 generalize M++ [.lst (q.map D.str)]=S10 at Y e0 e5 c5|-
 apply#[by decide,?_]
 let a2:=aR (S:=S10) (o:=.lst [])
 have W:Ex k j (n+220080) S (S10++ [.lst []]):=e0.app
 let b9:=aM (G:= [.lst []]) e5
 let e6:=aM (G:= [.lst []]) c5
 let e8:=aM (G:= [.lst []]) Y
 have i2:M.length<S10.length:=(gQs.mp Y).1
 generalize S10++ [.lst []]=S11 at a2 W b9 e6 e8|-
 have kk:∀{r:Nat},S.length<=r->k<r:=λh=>by omega
 apply eV ?_
 apply bN W.here (!0) (!1) (!1) λmh k5 i6 I _ _=>?_
 refine#[_,L,#[by omega,by omega],?_]
 refine⟨λi f g=>∃(a:Nat->Option D) (C:List Hd),f= [some (.ref k),some (.ref iw),some (.tup (c.map Rm.d)),some (.ref u.length),a 4,some (.ref S3.length),some (.ref t.length),some (.ref M.length),some (.ref S10.length),a 9,a 10,a 11,a 12,a 13]/\Ex k j (n+220090+14000*i) S g/\g[u.length]?=some (.lst ((bK c).map gT))/\g[t.length]?=some (.lst (A.map D.str))/\g[M.length]?=some (.lst (q.map D.str))/\g[S10.length]?=some (.lst (C.map Hd.d))/\C.length=i/\∀h∈C,h.ok ws A q (bK c),
  #[λz=>([none,none,none,none,a 4]:List (Option D)).getD z none,[],L,(W.trans I).mono (!0),I.at (kk c1) b9,I.at (!0) e6,I.at (!0) e8,I.at (!0) a2,L,λ_ h=>(by cases h)],λ_ _ _ _=>trivial,?_,?_⟩
 ·rintro i d f g hd ⟨a,C,rfl,e,dd,pp,oo,hh,hl,hok2⟩
  let#[ht,rfl]:=lz hd
  apply bc ?_
  apply bU (α:=Str) (λf=>∃a,f= [a,some (.ref M.length)]) D.str D.str (λw=>decide (w∉q)) #[none,L] (ed ?_)
  refine bb (e.at hi hS) ?_
  refine#[ws,L,e.at hi hS,by omega,λw _ f v=>?_,?_]
  ·let#[a,rfl]:=v
   apply bc #[L,#[_,L],?_]
   apply dC ?_
   refine bb oo ?_
   refine#[w,q,L,L,?_]
   apply#[L,dec_not _,λ_=>?_]
   exact#[L,L]
  have j3:(ws.filter λw=>decide (w∉q)).length<27:=by have:=List.length_filter_le (λw=>decide (w∉q)) ws;omega
  symm
  let f1:=aR (S:=g) (o:=.lst ((ws.filter λw=>decide (w∉q)).map D.str))
  have g1:Ex k j (n+220090+14000*i) g (g++ [.lst ((ws.filter λw=>decide (w∉q)).map D.str)]):=e.here.app
  have b1:S10.length<g.length:=(gQs.mp hh).1
  generalize g++ [.lst ((ws.filter λw=>decide (w∉q)).map D.str)]=T1 at f1 g1|-
  apply#[by decide,?_]
  refine fS g1 (!0) (!1) (!1) (jx (l:= [0,1,2,8])) λz T2 hz g2 f5=>?_
  let#[m3,d1,rfl]:=Qkq.mp (show z∈([0,1,2,8]:List Nat).map (λ(i:Nat)=>D.int i) from hz)
  have d1:m3<=8:=by
   erw[Qsq,QXq,or_false] at d1
   omega
  symm
  refine gh g2 (!0) (!0) (f5.at (!0) f1) (!0) (!0) (!0) λs R w1 w2 w3 g3 _ _=>?_
  have U:Sub (ws.filter λw=>decide (w∉q)) s 8:=⟨w1,by omega,w3⟩
  have g3:Ex k j (n+220090+14000*i+40) g R:=g3.mono (!0)
  have b3:g.length<=R.length:=g3.len
  let lo:=H.len
  let lw:=U.len
  let lp:=J.len
  symm
  let w4:=aR (S:=R) (o:=.lst (s.map D.str))
  have g4:Ex k j (n+220090+14000*i+40) g (R++ [.lst (s.map D.str)]):=g3.app
  generalize R++ [.lst (s.map D.str)]=T4 at w4 g4|-
  have b4:R.length<T4.length:=(gQs.mp w4).1
  apply cE ?_
  apply bb w4 ?_
  refine bb (g4.at (!0) oo) ?_
  refine⟨⟨rfl,L,w4,sm (by erw[lQm];omega)⟩,?_⟩
  obtain⟨m,Z⟩:∃m,m=s++q:=#[_,L]
  have f0:m.length=s.length+q.length:=by rw[Z,lQa]
  rw[show((s.map D.str,Tag.st R.length).1++(q.map D.str,Tag.st M.length).1)=m.map D.str by rw[Z,Qzq]]
  symm
  let w5:=aR (S:=T4) (o:=.lst (m.map D.str))
  let e9:=aM (G:= [.lst (m.map D.str)]) w4
  have g5:Ex k j (n+220090+14000*i+40) g (T4++ [.lst (m.map D.str)]):=g4.app
  generalize T4++ [.lst (m.map D.str)]=T5 at w5 e9 g5|-
  have b5:T4.length<T5.length:=(gQs.mp w5).1
  apply cE ?_
  apply cE ?_
  refine#[by decide,?_]
  refine kb (lits:= ["put"]) (i0 (fs:= ["put"]) L (!1)) (!1) L w5 ?_
  refine#[#[L,L,trivial,sm (by have:= @dB (!(m.map D.str).isEmpty) ["put"];erw[Qnq,QGq,lQm] at this|-;omega)],?_]
  refine kb (lits:= ["do","do"]) (i0 (fs:= ["do","do"]) L (!1)) (!1) L (g5.at (!0) dd) ?_
  refine#[#[L,L,trivial,sm (by have:= @dB (!(m.map D.str).isEmpty) ["put"];have:= @dB (!((bK c).map gT).isEmpty) ["do","do"];erw[Qnq,QGq,lQm,lQa] at *;omega)],?_]
  have ek:([D.str "say"]++(rp (!(m.map D.str).isEmpty) ["put"]).map D.str)++(rp (!((bK c).map gT).isEmpty) ["do","do"]).map D.str=((([("say":Str)]++rp (ne m) ["put"])++rp (!((bK c).map gT).isEmpty) ["do","do"])).map D.str:=by erw[Qzq];rfl
  rw[ek]
  have lk:((([("say":Str)]++rp (ne m) ["put"])++rp (!((bK c).map gT).isEmpty) ["do","do"])).length<=4:=by have:= @dB (ne m) ["put"];have:= @dB (!((bK c).map gT).isEmpty) ["do","do"];erw[Qnq,QGq,lQa] at *;omega
  generalize hK:((([("say":Str)]++rp (ne m) ["put"])++rp (!((bK c).map gT).isEmpty) ["do","do"]))=K1 at lk|-
  symm
  let w6:=aR (S:=T5) (o:=.lst (K1.map D.str))
  let c4:=aM (G:= [.lst (K1.map D.str)]) w5
  let d8:=aM (G:= [.lst (K1.map D.str)]) e9
  have g6:Ex k j (n+220090+14000*i+40) g (T5++ [.lst (K1.map D.str)]):=g5.app
  generalize T5++ [.lst (K1.map D.str)]=T6 at w6 c4 d8 g6|-
  have b6:T5.length<T6.length:=(gQs.mp w6).1
  apply cE ?_
  refine bb w6 ?_
  refine kb (lits:= ["take","give","pass"]) (i0 (fs:= ["take","give","pass"]) L (!1)) (!1) L (g6.at (!0) pp) ?_
  refine#[#[L,L,w6,sm (by have:= @dB (!(A.map D.str).isEmpty) ["take","give","pass"];erw[Qnq,QGq,lQm] at *;omega)],?_]
  have f6:K1.map D.str++(rp (!(A.map D.str).isEmpty) ["take","give","pass"]).map D.str=(xi (ne m) (!((bK c).map gT).isEmpty) (ne A)).map D.str:=by
   erw[xi,hK,Qzq]
   rfl
  rw[f6]
  generalize f2:xi (ne m) (!((bK c).map gT).isEmpty) (ne A)=K2
  symm
  let w7:=aR (S:=T6) (o:=.lst (K2.map D.str))
  let a5:=aM (G:= [.lst (K2.map D.str)]) c4
  let d5:=aM (G:= [.lst (K2.map D.str)]) d8
  have g7:Ex k j (n+220090+14000*i+40) g (T6++ [.lst (K2.map D.str)]):=g6.app
  generalize T6++ [.lst (K2.map D.str)]=T7 at w7 a5 d5 g7|-
  have b7:T6.length<T7.length:=(gQs.mp w7).1
  apply yk ?_
  apply#[by decide,?_]
  let w8:=aR (S:=T7) (o:=.lst [])
  let d6:=aM (G:= [.lst []]) w7
  let a1:=aM (G:= [.lst []]) a5
  let b0:=aM (G:= [.lst []]) d5
  have g8:Ex k j (n+220090+14000*i+40) g (T7++ [.lst []]):=g7.app
  generalize T7++ [.lst []]=T8 at w8 d6 a1 b0 g8|-
  have b8:T7.length<T8.length:=(gQs.mp w8).1
  have h0:(gK m (bK c) A).fit (some t.length):=uB (!0) (!0) (!0)
  let w9:=aR (S:=T8) (o:=.dct (c0 [] ((([("words":Str),"goals","bells","does","kinds","passes"]).map (Sum.inr:Str->Key)).zip [D.ref T4.length,D.ref T4.length,D.ref T7.length,D.ref u.length,D.ref T6.length,D.ref t.length])))
  let g9:=g8.app (G:= [.dct (c0 [] ((([("words":Str),"goals","bells","does","kinds","passes"]).map (Sum.inr:Str->Key)).zip [D.ref T4.length,D.ref T4.length,D.ref T7.length,D.ref u.length,D.ref T6.length,D.ref t.length]))])
  have c8:At (T8++ [.dct (c0 [] ((([("words":Str),"goals","bells","does","kinds","passes"]).map (Sum.inr:Str->Key)).zip [D.ref T4.length,D.ref T4.length,D.ref T7.length,D.ref u.length,D.ref T6.length,D.ref t.length]))]) T8.length T4.length T4.length T7.length u.length T6.length (some t.length) (gK m (bK c) A):=
   #[#[_,w9,L,L,L,L,L,λi hi=>by cases hi;rfl],aM a1,aM a1,aM w8,aM (g8.at (kk c1) dd),by rw[show(gK m (bK c) A).ks=K2 from f2];exact aM d6,λi hi=>by cases hi;exact aM (g8.at (!0) pp)]
  let c7:=aM (G:= [.dct (c0 [] ((([("words":Str),"goals","bells","does","kinds","passes"]).map (Sum.inr:Str->Key)).zip [D.ref T4.length,D.ref T4.length,D.ref T7.length,D.ref u.length,D.ref T6.length,D.ref t.length]))]) b0
  generalize T8++ [.dct (c0 [] ((([("words":Str),"goals","bells","does","kinds","passes"]).map (Sum.inr:Str->Key)).zip [D.ref T4.length,D.ref T4.length,D.ref T7.length,D.ref u.length,D.ref T6.length,D.ref t.length]))]=T9 at w9 g9 c8 c7|-
  apply i4 ?_
  apply#[S10.length,_,L,g9.at (!0) hh,?_]
  refine iD (ws:=s) g9.here (!0) (!0) c7 (!0) λvs k0 v1 v2 P _ _=>?_
  subst v1
  rw[lQm] at P lw f0
  let d9:=c8.ex P (!0) (!0) (!0) (!0) (kk c1) (!0) (λi hi=>by cases hi;omega)
  symm
  refine sT P.here (!0) d9 h0 (!0) (!0) (!0) (!0) (kk c1) (!0) (λi hi=>by cases hi;omega) λrs k4 p1 p2 p3 f8 _ _=>?_
  let B:=(g9.trans P).trans f8
  symm
  apply#[show 2<=sizeLine by decide,?_]
  refine#[_,B.at (!0) hh,eY (by rw[lQm,hl];exact Qqq (show i<60 by omega) (!1)) ?_]
  symm
  refine#[λz=>([none,none,none,none,a 4,none,none,none,none,some (.int i),some (.ref R.length),some (.ref T4.length),some (.ref T6.length),some (.ref T8.length)]:List (Option D)).getD z none,C++ [#[vs,rs]],L,((e.trans B).put (!0) kl).mono (!0),bB (!0) (B.at (kk c1) dd),bB (!0) (B.at (!0) pp),bB (!0) (B.at (!0) oo),?_,by simp[hl],λy hy=>?_]
  ·rw[bF (B.at (!0) hh),Qzq]
   rfl
  ·rcases mQa.mp hy with hy|hy
   ·exact hok2 y hy
   ·rw[Qfq] at hy
    subst hy
    exact#[#[U,v2],by rw[<-Z];exact#[p1,p2,p3]]
 rintro f k1 ⟨a,C,rfl,e,dd,pp,oo,hh,hl,hok2⟩
 have k3:(C.length:Int)=1+(mh:Int):=by rw[hl,pM (!0)]
 have h3:1<=C.length:=by omega
 have g0:C.length<=4:=by omega
 let lo:=H.len
 let lp:=J.len
 rw[<-hl] at e
 symm
 refine iD e.here (!0) (!0) pp (!0) λvp i1 u1 u2 N _ _=>?_
 subst u1
 rw[lQm] at N lp
 let c2:=e.trans N
 symm
 refine iD c2.here (!0) (!0) (N.at (!0) oo) (!0) λvo k2 u3 u4 X _ _=>?_
 subst u3
 rw[lQm] at X lo
 let f9:=c2.trans X
 symm
 refine bb ((N.trans X).at (!0) hh) ?_
 apply#[L,?_]
 refine#[show 4<=sizeLine by decide,?_]
 refine gH (d:=(Wr.mk c vp vo C).d) (f9.mono (show _<=n+300000 by omega)) x ?_ λh6 b1 b2 b3=>h #[c,vp,vo,C] _ #[#[K,F],#[J,u2],#[H,u4],h3,g0,hok2] b1 b2 b3
 have l1:a6 0 (c.map Rm.d)=true:=cN λr _=>r.low
 have l2:a6 0 (vp.map gO)=true:=cN λ_ _=>rfl
 have l3:a6 0 (vo.map gO)=true:=cN λ_ _=>rfl
 have l4:a6 0 (C.map Hd.d)=true:=cN λh _=>by
  have h1:a6 0 (h.th.map gO)=true:=cN λ_ _=>rfl
  let h2:=qC h.pr
  erw[bx] at h2
  erw[Hd.d,bx,a6,h1,h2,Bool.and_true]
 erw[Wr.d,bx,a6,l1,l2,l3,l4,Bool.and_true]
end
end W28
namespace DL
open PySem PySem.Spec L2
def zb{i j:Int}{Q:D->Prop}(h:vD i j)(q:Q (.int (i^j.toNat))):Op (vi S (.int i) (.int j)) Q:=#[_,by erw[vi,intD];rw[Qhq h],q]
def pU{S:aB}{k:Nat}{a:List D}{Q:List D×Tag->Prop}(b:S[k]?=some (.frz a))(q:Q (a,.fz k)):Op (ly S (.ref k)) Q:=#[_,by erw[ly,b],q]
end DL
namespace W28
open PySem PySem.Spec L2 DL
section
variable{S:aB}{Q:Res->aB->Prop}
def Aw{ns:List Int}{i:Nat}(f:S[i]?=some (.frz (ns.map D.int)))(r:ns.length<=63)(q:∀(n:List Int) (b:Int),n.length<64->Q (.l [.ref S.length,.int b,.int 0]) (S++ [gj n])):Fn iq [.ref i] S Q:=by
 refine CM ?_
 unfold nN
 symm
 apply pU f ?_
 have k:∀l:List D,j6 l none (some 63)=l.take 63:=λl=>by
  unfold j6
  rw[HT.qh,show(some (63:Int))=some ((63:Nat):Int) from L,HT.tE,List.drop_zero,Nat.sub_zero]
  by_cases h:l.length<=63
  ·rw[Nat.min_eq_right h,List.take_of_length_le (Qmq _),List.take_of_length_le h]
  ·rw[Nat.min_eq_left (!0)]
 have m:(ns.map D.int).take 63=ns.map D.int:=List.take_of_length_le (by rw[lQm];exact r)
 apply eV ?_
 apply wu ?_
 apply pU f (eH (eG ?_))
 refine#[63,L,#[L,f],?_]
 rw[k,m]
 refine#[λt e j=>∃(b:Int) (o:Option D),(0<=b/\b<2305843009213693951)/\e= [some (.ref i),some (.int b),o]/\j=S,#[_,_,#[?_,?_],L,L],λ_ _ _ _=>trivial,?_,?_]
 ·erw[lQm];omega
 ·erw[lQm];omega
 ·rintro t d e j p ⟨b,o,s,rfl,rfl⟩
  rw[gQm] at p
  let#[z,_,rfl]:=oQm.mp p
  apply bc ?_
  apply kD (.inl #[by omega,by omega]) ?_
  refine zb #[by decide,by decide,by decide] ?_
  apply jr (by decide +kernel) ?_
  refine jr (!1) ?_
  exact#[_,_,#[Int.emod_nonneg _ (!1),Int.emod_lt_of_pos _ (!1)],L,L]
 rintro e j ⟨b,o,s,rfl,rfl⟩
 symm
 apply bU (α:=Int) (λe=>∃a,e= [a]) D.int D.int (λc=>decide ((10:Int)^(18:Int).toNat<=c)) #[none,L] (ed ?_)
 apply wu ?_
 apply pU f (eH (eG ?_))
 refine#[63,L,#[L,f],?_]
 rw[k,m]
 refine#[ns,L,trivial,by omega,λc _ e g=>?_,?_]
 ·let#[a,rfl]:=g
  apply bc #[L,#[_,L],?_]
  apply zb #[by decide,by decide,by decide] ?_
  apply#[L,L,λ_=>?_]
  exact#[L,L]
 symm
 refine#[show 3<=sizeLine by decide,?_]
 exact q _ _ (Nat.lt_of_le_of_lt (List.length_filter_le _ _) (!0))
end
end W28
namespace DL
open PySem PySem.Spec L2
def j1{sep x:Str}:Txt.join sep [x]=x:=by
 show Builtin.Str.glued sep [x]=_
 rw[StrLaws.glued_eq_join];rfl
def j2{sep x y:Str}{r:X6}:Txt.join sep (x::y::r)=x++sep++Txt.join sep (y::r):=by
 show Builtin.Str.glued sep _=_++Builtin.Str.glued sep _
 rw[StrLaws.glued_eq_join,StrLaws.glued_eq_join];rfl
theorem zi{sep:Str}:∀{l m:X6},l≠[]->m≠[]->Txt.join sep (l++m)=Txt.join sep l++sep++Txt.join sep m
 | [],_,h,_=>absurd L h
 | [x],[],_,h=>absurd L h
 | [x],y::m,_,_=>by rw[j1];exact j2
 | x::z::l,m,_,h=>by
   show Txt.join sep (x::z::(l++m))=_
   rw[j2,j2]
   have:=zi (sep:=sep) (l:=z::l) (m:=m) (by simp) h
   rw[List.cons_append] at this
   rw[this]
   erw[Str.append_assoc]
theorem pe{sep:Str}:∀{L:List (List Str)},(∀l∈L,l≠[])->Txt.join sep (L.map (Txt.join sep))=Txt.join sep L.flatten
 | [],_=>rfl
 | [l],_=>by simp[j1]
 | l::m::L,h=>by
   let a:=pe (sep:=sep) (L:=m::L) λx c=>h x (Qpq _ c)
   have b:(m::L).flatten≠[]:=by
     rw[List.flatten_cons]
     intro e
     exact h m (Qpq _ (QBq ..)) (List.append_eq_nil_iff.mp e).1
   rw[QDq,QDq,j2,<-QDq,a,List.flatten_cons (l:=l),zi (h l (QBq ..)) b]
def og{sep:Str}{l:X6}{b:Nat}(h:∀x∈l,x.length<=b):(l.map (·.length)).sum+l.length*sep.length<=l.length*(b+sep.length):=by
 induction l with
 |nil=>simp
 | cons x l a=>
   let c:=a λy d=>h y (Qpq _ d)
   let e:=h x (QBq ..)
   erw[QDq,List.sum_cons,Qnq,Nat.succ_mul] at c|-
   omega
def join_le{sep:Str}{l:X6}{b:Nat}(h:∀x∈l,x.length<=b):(Txt.join sep l).length<=l.length*(b+sep.length):=by
 refine QAq ?_ (og h)
 show(Builtin.Str.glued sep l).length<=_
 rw[StrLaws.glued_eq_join]
 exact StrLaws.join_length_le sep l
def lT{b:bV}{S:aB}{T:String}{f:a0}{Q:D->aB->Prop}(h:E f b S λd a=>Op (AO a T d) λk=>Q (.bl k) a):E (rh T f) b S Q:=by
 let#[d,a,c,k,e,q]:=h
 exact#[_,a,by unfold rh;rw[c];erw[Qbq];rw[e];rfl,q]
def ur{a:bV}{S:aB}{f:a0}{lo hi:xJ}{Q:D->aB->Prop}(h:E f a S λd g=>E lo a g λl e=>E hi a e λu c=>∃b,d=.tup b/\Q (.tup (j6 b l u)) c):E (zm f lo hi) a S Q:=by
 let#[d,g,j,l,e,k,u,c,i,b,rfl,q]:=h
 exact#[_,c,by unfold zm;rw[j];erw[Qbq];rw[k];erw[Qbq];rw[i];rfl,q]
end DL
namespace W28
open PySem PySem.Spec L2 DL
def jE(k:Str):Str:=(dU.lookup k).getD ""
def Tr.ws:Tr->List Str
 |.wd w=> [w]
 |.vl v=> [eE v]
 |.wt b=> ["?",b]
 |.nt t=>"!"::t.ws
 |.tw f a b=>jE f::(a.ws++b.ws)
def Tr.tx(t:Tr):Str:=Txt.join " " t.ws
def vL:∀f∈two,dU.lookup f=some (jE f)/\(jE f).length=1:=by decide +kernel
def d0:∀v,v<60->(eE (v:Nat)).length<=2/\((v:Nat):Int).natAbs.log2<1920:=by decide +kernel
def Tr.ne:∀t:Tr,t.ws≠[]
 |.wd _=>by simp[Tr.ws]
 |.vl _=>by simp[Tr.ws]
 |.wt _=>by simp[Tr.ws]
 |.nt _=>by simp[Tr.ws]
 |.tw _ _ _=>by simp[Tr.ws]
def pw:Nat->Nat
 |0=>2
 |n+1=>2*pw n+1
def ze:∀n,n<=5->pw n<=95:=by decide
theorem pH:∀n,2<=pw n
 |0=>by decide
 |n+1=>by have:=pH n;erw[pw];omega
theorem Tr.short{ws bs:X6}(e:∀w∈ws,w.length<=8)(d:∀w∈bs,w.length<=8):∀{n:Nat} {t:Tr},t.ok ws bs n->t.ws.length<=pw n/\∀x∈t.ws,x.length<=8
 | n,.wd w,h=>by
   have h:w∈ws:=by cases n <;>exact h
   exact#[by have:=pH n;erw[Tr.ws,Qnq,QGq];omega,λx c=>by erw[Tr.ws,Qsq,QXq,or_false] at c;subst c;exact e _ h]
 | n,.vl v,h=>by
   have h:v<10:=by cases n <;>exact h
   exact#[by have:=pH n;erw[Tr.ws,Qnq,QGq];omega,λx c=>by erw[Tr.ws,Qsq,QXq,or_false] at c;subst c;have:=(d0 v (!0)).1;omega]
 |n +1,.wt b,h=>⟨by have:=pH n;erw[Tr.ws,Qnq,QGq,pw];omega,λx c=>by
    erw[Tr.ws,Qsq,QXq,or_false] at c
    rcases c with rfl|rfl
    · decide
    · exact d _ h⟩
 | n+1,.nt t,h=>by
   let#[i,g]:=Tr.short e d (n:=n) (t:=t) h
   exact⟨by erw[Tr.ws,Qnq,pw];omega,λx c=>by
     rcases Qsq.mp c with rfl|c
     · decide
     · exact g x c⟩
 | n+1,.tw f a b,h=>by
   let#[i,g]:=Tr.short e d (n:=n) (t:=a) h.2.1
   let#[k,j]:=Tr.short e d (n:=n) (t:=b) h.2.2
   exact⟨by erw[Tr.ws,Qnq,lQa,pw];omega,λx c=>by
     rcases Qsq.mp c with rfl|c
     · have:=(vL f h.1).2;omega
     · rcases mQa.mp c with c|c
       · exact g x c
       · exact j x c⟩
 |0,.wt _,h=>h.elim
 |0,.nt _,h=>h.elim
 |0,.tw _ _ _,h=>h.elim
def Tr.txl{ws bs:X6}(e:∀w∈ws,w.length<=8)(b:∀w∈bs,w.length<=8){n:Nat}{t:Tr}(h:t.ok ws bs n)(c:n<=5):t.tx.length<=855:=by
 let#[f,d]:=Tr.short e b h
 let g:=ze n c
 let a:=join_le (sep:=" ") d
 have:(" ":Str).length=1:=by decide
 rw[this] at a
 have:t.ws.length*(8+1)<=95*9:=Nat.mul_le_mul (!0) (!1)
 exact QAq a this
section
variable{S:aB}{Q:Res->aB->Prop}{ws bs:X6}
def lG{d:D}(a:bx 0 d=true)(q:Q (.d d) S):Op (settle S d S) λp=>Q p.1 p.2:=
 fN gg (List.take_of_length_le (Qmq _)) (no_ref a) (jt a) q
def Cv{b:aB}{a:List D}(e:∃G,b=S++G)(c:∀d∈a,bx 0 d=true)(q:Q (.l a) S):Op (dJ S a b) λp=>Q p.1 p.2:=by
 let#[G,rfl]:=e
 exact mi (ke gg) (by simp) (eM (iA c)) q
def As{b:aB}{r:Nat}{a:List D}(f:∃G,b=S++G)(g:S.length<=r)(c:b[r]?=some (.lst a))(e:∀d∈a,bx 0 d=true)(q:Q (.l a) S):Op (settle S (.ref r) b) λp=>Q p.1 p.2:=by
 let#[G,rfl]:=f
 refine#[(.l a,(S++G).take S.length),?_,by simpa using q]
 unfold DL.settle
 rw[Qhq (ke gg)]
 erw[c]
 rw[Quq (!0),Qhq (eM (iA e))]
def yn{b:aB}{d:D}(c:∃G,b=S++G)(a:bx 0 d=true)(q:Q (.d d) S):Op (settle S d b) λp=>Q p.1 p.2:=by
 let#[G,rfl]:=c
 exact fN (ke gg) (by simp) (no_ref a) (jt a) q
def lC{m:Nat}{k sg:Str}{ps:List Tr}(r:dU.lookup k=some sg)(g:∀p∈ps,∀(Q:Res->aB->Prop),Q (.d (.str p.tx)) S->Fn (bC m) [p.d] S Q)(s:ps.length<=2)(e:∀p∈ps,p.tx.length<=855)(o:sg.length<=855)
  (q:Q (.d (.str (Txt.join " " (sg::ps.map Tr.tx)))) S):Fn (bC (m+1)) [.tup (.str k::ps.map Tr.d)] S Q:=by
 refine dN ?_
 unfold eL
 symm
 apply lT ?_
 refine cp L ?_
 refine cp L ?_
 apply aN (λc=>(by cases c)) (λ_=>?_)
 apply lT ?_
 refine cp L ?_
 refine cp L ?_
 apply aN (λc=>(by cases c)) (λ_=>?_)
 apply kd ?_
 refine#[_,L,?_]
 apply eI (cE ?_)
 apply CO ?_
 refine bM (aP (i:=0) L) ?_
 apply#[k,sg,L,r,?_]
 apply#[show 1<=sizeLine by decide,?_]
 apply bU (α:=Tr) (λf=>∃a,f= [a]) Tr.d (λt=>.str t.tx) (λ_=>true) #[none,L] (ed ?_)
 apply ur ?_
 apply eG ?_
 refine#[1,L,eH #[_,L,?_]]
 rw[show(some (1:Int))=some ((1:Nat):Int) from L,eX]
 symm
 refine#[ps,L,trivial,by omega,λp j f h=>?_,?_]
 ·let#[a,rfl]:=h
  apply bc #[L,#[_,L],du #[L,L,λ_=>?_]]
  exact g p j _ #[L,L]
 rw[i3]
 refine#[#[L,L,trivial,sm (by erw[Qnq,QGq,lQm];omega)],?_]
 refine#[L,sg::ps.map Tr.tx,by simp[QPq],?_,lG L q]
 have:=og (sep:=" ") (l:=sg::ps.map Tr.tx) (b:=855) (λx n=>by
  rcases Qsq.mp n with rfl|n
  ·exact o
  ·let#[p,j,rfl]:=Qkq.mp n
   exact e p j)
 refine QAq this ?_
 erw[Qnq,lQm]
 have:(" ":Str).length=1:=by decide
 rw[this]
 exact QAq (Nat.mul_le_mul (show ps.length+1<=3 by omega) (Qmq (855+1))) (!1)
def oS{m:Nat}{w:Str}(q:Q (.d (.str w)) S):Fn (bC (m+1)) [.str w] S Q:=by
 refine dN ?_
 unfold eL
 symm
 apply lT ?_
 refine cp L ?_
 refine cp L ?_
 apply aN (λ_=>?_) (λc=>(by cases c))
 exact lG L q
def qu{m v:Nat}(a:v<60)(q:Q (.d (.str (eE v))) S):Fn (bC (m+1)) [.int v] S Q:=by
 refine dN ?_
 unfold eL
 symm
 apply lT ?_
 refine cp L ?_
 refine cp L ?_
 apply aN (λc=>(by cases c)) (λ_=>?_)
 apply lT ?_
 refine cp L ?_
 refine cp L ?_
 apply aN (λ_=>?_) (λc=>(by cases c))
 refine cp (d:=.str (eE v)) ?_ (lG L q)
 erw[jc,qW]
 rw[Qhq (d0 v a).2]
 rfl
theorem lq(i:∀w∈ws,w.length<=8)(g:∀w∈bs,w.length<=8):∀(m:Nat) {n:Nat} {t:Tr},n<m->n<=5->t.ok ws bs n->∀(Q:Res->aB->Prop),Q (.d (.str t.tx)) S->Fn (bC m) [t.d] S Q
 |0,n,t,h,_,_,_,_=>absurd h (Nat.not_lt_zero _)
 | m+1,n,.wd w,h,h5,ok,Q,q=>by
   have e:(Tr.wd w).tx=w:=by simp[Tr.tx,Tr.ws,j1]
   rw[e] at q
   exact oS q
 | m+1,n,.vl v,h,h5,ok,Q,q=>by
   have A:v<10:=by cases n <;>exact ok
   have e:(Tr.vl v).tx=eE v:=by simp[Tr.tx,Tr.ws,j1]
   rw[e] at q
   exact qu (!0) q
 | m+1,n+1,.wt b,h,h5,ok,Q,q=>by
   have e:(Tr.wt b).tx=Txt.join " " ("?":: [Tr.wd b].map Tr.tx):=by simp[Tr.tx,Tr.ws,j1]
   rw[e] at q
   refine lC (k:="waits") (sg:="?") (ps:= [.wd b]) (!1) (λp c R r=>?_) (by simp) (λp c=>?_) (!1) q
   · rw[Qfq] at c
     subst c
     obtain⟨u,rfl⟩:∃u,m=u+1:=#[m-1,by omega]
     refine oS ?_
     simpa [Tr.tx,Tr.ws,j1] using r
   · rw[Qfq] at c
     subst c
     have:=g _ (show b∈bs from ok)
     erw[Tr.tx,Tr.ws,j1]
     omega
 | m+1,n+1,.nt t,h,h5,ok,Q,q=>by
   have ok:t.ok ws bs n:=ok
   have e:(Tr.nt t).tx=Txt.join " " ("!":: [t].map Tr.tx):=by
     have:=pe (sep:=" ") (L:= [["!"],t.ws]) (by intro l o;simp at o;rcases o with rfl|rfl;simp;exact t.ne)
     erw[QDq,List.map_nil,List.flatten_cons,List.flatten_nil,List.append_nil,j1,List.cons_append,List.nil_append] at this
     erw[Tr.tx,Tr.ws,QDq,List.map_nil]
     exact this.symm
   rw[e] at q
   refine lC (k:="not") (sg:="!") (ps:= [t]) (!1) (λp c R r=>?_) (by simp) (λp c=>?_) (!1) q
   · rw[Qfq] at c
     subst c
     exact lq i g m (!0) (!0) ok R r
   · rw[Qfq] at c
     subst c
     exact Tr.txl i g ok (!0)
 | m+1,n+1,.tw f a b,h,h5,ok,Q,q=>by
   let#[x,s,j]:=(show f∈two/\a.ok ws bs n/\b.ok ws bs n from ok)
   let#[y,z]:=vL f x
   have e:(Tr.tw f a b).tx=Txt.join " " (jE f:: [a,b].map Tr.tx):=by
     have:=pe (sep:=" ") (L:= [[jE f],a.ws,b.ws]) (by intro l o;simp at o;rcases o with rfl|rfl|rfl;simp;exact a.ne;exact b.ne)
     erw[QDq,List.map_nil,List.flatten_cons,List.flatten_nil,List.append_nil,j1,List.cons_append,List.nil_append] at this
     erw[Tr.tx,Tr.ws,QDq,List.map_nil]
     exact this.symm
   rw[e] at q
   refine lC (k:=f) (sg:=jE f) (ps:= [a,b]) y (λp c R r=>?_) (by simp) (λp c=>?_) (!0) q
   · erw[Qsq,QXq,or_false] at c
     rcases c with rfl|rfl
     · exact lq i g m (!0) (!0) s R r
     · exact lq i g m (!0) (!0) j R r
   · erw[Qsq,QXq,or_false] at c
     rcases c with rfl|rfl
     · exact Tr.txl i g s (!0)
     · exact Tr.txl i g j (!0)
 |m+1,0,.wt _,_,_,ok,_,_=>ok.elim
 |m+1,0,.nt _,_,_,ok,_,_=>ok.elim
 |m+1,0,.tw _ _ _,_,_,ok,_,_=>ok.elim
end
end W28
namespace DL
open PySem PySem.Spec L2
def CG{b:bV}{S:aB}{f:a0}{Q:D->aB->Prop}(h:E f b S λd a=>∃i,d=.int i/\Q (.int (-i)) a):E (yy f) b S Q:=by
 let#[d,a,c,i,rfl,q]:=h
 exact#[_,a,by unfold yy;rw[c];rfl,q]
def Aq{a:List D}{y:D}{Q:List D×D->Prop}(q:Q (a,y)):Op (uv (a++ [y]) []) Q:=#[_,by simp[uv],q]
def cx{S a:aB}{r:Nat}{o:O}(h:∃G,a=S++G)(b:S.length<=r):∃G,a.set r o=S++G:=by
 let#[G,rfl]:=h
 exact#[G.set (r-S.length) o,by rw[List.set_append_right _ _ b]]
end DL
namespace W28
open PySem PySem.Spec L2 DL
def Tr.nd:Tr->Nat
 |.wd _=>1
 |.vl _=>1
 |.wt _=>2
 |.nt t=>1+t.nd
 |.tw _ a b=>1+(a.nd+b.nd)
def Tr.nd_pos:∀t:Tr,1<=t.nd
 |.wd _=>Qmq _
 |.vl _=>Qmq _
 |.wt _=>by show 1<=2;decide
 |.nt t=>by erw[Tr.nd];omega
 |.tw _ a b=>by erw[Tr.nd];omega
def Tr.fine:Tr->Prop
 |.wd w=>w.length<=8
 |.vl v=>v<10
 |.wt b=>b.length<=8
 |.nt t=>t.fine
 |.tw f a b=>f∈two/\a.fine/\b.fine
def qn:Nat->Nat
 |0=>1
 |n+1=>1+(qn n+qn n)
def rP:∀n,1<=qn n
 |0=>by decide
 |n+1=>by erw[qn];omega
theorem Tr.ok.fine{ws bs:X6}(d:∀w∈ws,w.length<=8)(c:∀w∈bs,w.length<=8):∀{n:Nat} {t:Tr},t.ok ws bs n->t.fine/\t.nd<=qn n
 |n,.wd w,h=>#[d _ (by cases n <;>exact h),rP n]
 |n,.vl v,h=>#[by cases n <;>exact h,rP n]
 |n+1,.wt b,h=>#[c _ h,by have:=rP n;erw[Tr.nd,qn];omega]
 | n+1,.nt t,h=>by
   let#[e,i]:=Tr.ok.fine d c (n:=n) (t:=t) h
   exact#[e,by erw[Tr.nd,qn];omega]
 | n+1,.tw f a b,h=>by
   let#[e,i]:=Tr.ok.fine d c (n:=n) (t:=a) h.2.1
   let#[g,j]:=Tr.ok.fine d c (n:=n) (t:=b) h.2.2
   exact#[#[h.1,e,g],by erw[Tr.nd,qn];omega]
 |0,.wt _,h=>h.elim
 |0,.nt _,h=>h.elim
 |0,.tw _ _ _,h=>h.elim
def Tr.kinds:∀t:Tr,t.fine->(∃x,(t.d=.str x/\x.length<=8/\t.ws= [x])/\t.nd=1)\/(∃v:Nat,v<10/\t.d=.int v/\t.ws= [eE v]/\t.nd=1)\/∃(k:Str) (ps:List Tr),t.d=.tup (.str k::ps.map Tr.d)/\ps.length<=2/\(k="waits" \/k="not" \/k∈two)/\t.ws=jE k::(ps.map Tr.ws).flatten/\t.nd=1+(ps.map Tr.nd).sum/\∀p∈ps,p.fine
 |.wd w,h=>.inl #[w,#[L,h,L],L]
 |.vl v,h=>.inr (.inl #[v,h,L,L,L])
 |.wt b,h=>.inr (.inr #["waits",[.wd b],L,by simp,.inl L,by simp[Tr.ws];decide,L,λp c=>by rw[Qfq] at c;subst c;exact h])
 |.nt t,h=>.inr (.inr #["not",[t],L,by simp,.inr (.inl L),by simp[Tr.ws];decide,by simp[Tr.nd],λp c=>by rw[Qfq] at c;subst c;exact h])
 |.tw f a b,h=>.inr (.inr #[f,[a,b],L,by simp,.inr (.inr h.1),by simp[Tr.ws],by simp[Tr.nd],λp c=>by erw[Qsq,QXq,or_false] at c;rcases c with rfl|rfl;exact h.2.1;exact h.2.2])
section
variable{S:aB}{Q:Res->aB->Prop}
def kc{t:Tr}(ht:t.fine)(hn:t.nd<64)(q:Q (.l (t.ws.map D.str)) S):Fn bH [t.d] S Q:=by
 refine dN ?_
 unfold gM
 symm
 apply yk ?_
 let C:=aR (S:=S) (o:=.dct (c0 [] ((([("plus":Str),"minus","less","same","both","not","waits"]).map (Sum.inr:Str->Key)).zip [D.str "+",D.str "-",D.str "<",D.str "=",D.str "&",D.str "!",D.str "?"])))
 have P:∃G,S++ [.dct (c0 [] ((([("plus":Str),"minus","less","same","both","not","waits"]).map (Sum.inr:Str->Key)).zip [D.str "+",D.str "-",D.str "<",D.str "=",D.str "&",D.str "!",D.str "?"]))]=S++G:=#[_,L]
 have hv:∀k:Str,k="waits" \/k="not" \/k∈two->gP (c0 [] ((([("plus":Str),"minus","less","same","both","not","waits"]).map (Sum.inr:Str->Key)).zip [D.str "+",D.str "-",D.str "<",D.str "=",D.str "&",D.str "!",D.str "?"])) (.inr k)=some (.str (jE k)):=λk hk=>by
  erw[two,Qsq,QXq,or_false] at hk
  rcases hk with rfl|rfl|rfl|rfl|rfl|rfl|rfl <;>rfl
 generalize c0 [] ((([("plus":Str),"minus","less","same","both","not","waits"]).map (Sum.inr:Str->Key)).zip [D.str "+",D.str "-",D.str "<",D.str "=",D.str "&",D.str "!",D.str "?"])=sd at C P hv|-
 generalize S++ [.dct sd]=S1 at C P|-
 have l1:S.length<S1.length:=(gQs.mp C).1
 apply tH ?_
 apply#[by decide,?_]
 let R:=aR (S:=S1) (o:=.lst [])
 let s2:=aM (G:= [.lst []]) C
 have p2:∃G,S1++ [.lst []]=S++G:=by let#[G,rfl]:=P;exact#[_,Qvq _ _ _]
 generalize S1++ [.lst []]=S2 at R s2 p2|-
 have l2:S1.length<S2.length:=(gQs.mp R).1
 apply#[show 1<=sizeLine by decide,?_]
 let g3:=aR (S:=S2) (o:=.lst [t.d])
 let f3:=aM (G:= [.lst [t.d]]) R
 let s3:=aM (G:= [.lst [t.d]]) s2
 have Y:∃G,S2++ [.lst [t.d]]=S++G:=by let#[G,rfl]:=p2;exact#[_,Qvq _ _ _]
 generalize S2++ [.lst [t.d]]=S3 at g3 f3 s3 Y|-
 refine#[_,_,L,?_]
 refine fY (wA (λm s n=>∃(o:Option D) (e:X6) (b:List Tr),s= [some t.d,some (.ref S.length),some (.ref S1.length),some (.ref S2.length),o]/\(∃G,n=S++G)/\n[S.length]?=some (.dct sd)/\n[S1.length]?=some (.lst (e.map D.str))/\n[S2.length]?=some (.lst (b.reverse.map Tr.d))/\e++(b.map Tr.ws).flatten=t.ws/\m=(b.map Tr.nd).sum/\(∀p∈b,p.fine)/\e.length+m<70/\b.length<=m) (λm s n ⟨o,e,b,K,r,h1,Z,j,u,h6,B,h8⟩=>?_) 64 t.nd _ _ hn #[_,[],[t],L,Y,s3,f3,g3,by simp,by simp,λp r=>by rw[Qfq] at r;subst r;exact ht,by erw[QGq];omega,by have:=t.nd_pos;simpa using this])
 subst K
 symm
 refine bb j #[#[L,j],?_]
 cases b with
 | nil=>
   apply aN (λc=>(by cases c)) (λ_=>?_)
   have X:e=t.ws:=by simpa using u
   subst X
   exact As r (!0) Z (λd hd=>by let#[z,_,rfl]:=Qkq.mp hd;rfl) q
 | cons p b=>
   refine aN (λ_=>?_) (λc=>(by simp at c))
   rw[List.reverse_cons,Qzq] at j
   let N:=B p (QBq ..)
   erw[QDq,List.sum_cons,List.flatten_cons] at u h6
   have U:S.length<=S2.length:=by omega
   symm
   apply i4 ?_
   apply#[S2.length,_,L,j,?_]
   apply#[_,j,Aq ?_]
   let A:=bB (k:=S2.length) (o':=.lst (b.reverse.map Tr.d)) (!0) h1
   let f:=bB (k:=S2.length) (o':=.lst (b.reverse.map Tr.d)) (!0) Z
   let H:=bF (o':=.lst (b.reverse.map Tr.d)) j
   let F:=cx (o:=.lst (b.reverse.map Tr.d)) r U
   generalize n.set S2.length (.lst (b.reverse.map Tr.d))=S4 at A f H F|-
   apply lT ?_
   let hb:=h8.1
   let hc:=h8.2
   erw[Qnq] at hc
   rcases p.kinds N with⟨x,⟨I,M,w⟩,W⟩|⟨v,I,M,w,W⟩|⟨h,qs,I,M,w,W,X,e6⟩
   · rw[I]
     refine cp L ?_
     refine cp L ?_
     apply aN (λc=>(by cases c)) (λ_=>?_)
     apply i4 ?_
     apply#[S1.length,_,L,f,?_]
     refine cp (d:=.str x) (by erw[jc,qW];rw[Qhq (sm (!0))];rfl) ?_
     symm
     refine#[_,f,eY (by rw[lQm];exact Qqq (show e.length<70 by omega) (!1)) ?_]
     symm
     refine#[(b.map Tr.nd).sum,by omega,_,e++ [x],b,L,cx F (!0),bB (!0) A,?_,bB (!0) H,?_,L,λy g=>B y (Qpq _ g),?_,by omega]
     · rw[bF f,Qzq];rfl
     · rw[<-u,w];simp
     · erw[lQa,Qnq,QGq];omega
   · rw[M]
     refine cp L ?_
     refine cp L ?_
     apply aN (λc=>(by cases c)) (λ_=>?_)
     apply i4 ?_
     apply#[S1.length,_,L,f,?_]
     refine cp (d:=.str (eE v)) (by erw[jc,qW];rw[Qhq (d0 v (!0)).2];rfl) ?_
     symm
     refine#[_,f,eY (by rw[lQm];exact Qqq (show e.length<70 by omega) (!1)) ?_]
     symm
     refine#[(b.map Tr.nd).sum,by omega,_,e++ [eE v],b,L,cx F (!0),bB (!0) A,?_,bB (!0) H,?_,L,λy g=>B y (Qpq _ g),?_,by omega]
     · rw[bF f,Qzq];rfl
     · rw[<-u,w];simp
     · erw[lQa,Qnq,QGq];omega
   · rw[I]
     refine cp L ?_
     refine cp L ?_
     apply aN (λ_=>?_) (λc=>(by cases c))
     apply i4 ?_
     apply#[S1.length,_,L,f,?_]
     apply jJ ?_
     refine bM (aP (i:=0) L) ?_
     apply#[S.length,sd,h,_,L,L,A,hv h w,?_]
     refine#[_,f,eY (by rw[lQm];exact Qqq (show e.length<70 by omega) (!1)) ?_]
     symm
     let j1:=bB (k:=S1.length) (o':=.lst (e.map D.str++ [.str (jE h)])) (!0) A
     let j2:=bF (o':=.lst (e.map D.str++ [.str (jE h)])) f
     let J:=bB (k:=S1.length) (o':=.lst (e.map D.str++ [.str (jE h)])) (!0) H
     let jp:=cx (o:=.lst (e.map D.str++ [.str (jE h)])) F (show S.length<=S1.length by omega)
     generalize S4.set S1.length (.lst (e.map D.str++ [.str (jE h)]))=S5 at j1 j2 J jp|-
     apply iW ?_
     refine#[S2.length,_,L,J,?_]
     apply eI (BZ (eI (sG (fO (ur ?_)))))
     apply eG ?_
     refine#[1,L,eH #[_,L,?_]]
     rw[show(some (1:Int))=some ((1:Nat):Int) from L,eX]
     symm
     apply CG ?_
     refine#[1,L,L,L,trivial,_,J,#[L,sm (by erw[List.length_reverse,lQm,List.drop_succ_cons,List.drop_zero];omega)],?_]
     have hq:∀l:List Tr,l.length<=(l.map Tr.nd).sum:=by
       intro l
       induction l with
       |nil=>simp
       |cons a l ih=>have:=a.nd_pos;erw[Qnq,QDq,List.sum_cons];omega
     refine#[((qs++b).map Tr.nd).sum,by rw[Qzq,List.sum_append];omega,_,e++ [jE h],qs++b,L,cx jp (!0),bB (!0) j1,?_,?_,?_,L,λy g=>?_,?_,hq _]
     · rw[bB (!0) j2,Qzq];rfl
     · rw[bF J]
       erw[List.drop_succ_cons,List.drop_zero,List.reverse_append,Qzq,List.map_reverse]
     · rw[<-u,W];simp
     · rcases mQa.mp g with g|g
       · exact e6 y g
       · exact B y (Qpq _ g)
     · rw[Qzq,List.sum_append]
       erw[lQa,Qnq,QGq];omega
end
inductive Pt where
 |no|nu (n:Nat)|wd (w:Str)|tr (t:Tr)
def Pt.d:Pt->D
 |.no=>.non
 |.nu n=>.int n
 |.wd w=>.str w
 |.tr t=>t.d
def Pt.ws:Pt->List Str
 |.no=> ["-"]
 |.nu n=> [eE n]
 |.wd w=> [w]
 |.tr t=>t.ws
structure Sc.short(c:Sc):Prop where
 w:∀w∈c.ws,w.length<=8
 g:∀w∈c.gs,w.length<=8
 b:∀w∈c.bs,w.length<=8
 d:∀q∈c.ds,q.1.length<=8/\q.2.length<=8
 p:∀w∈c.ps,w.length<=8
def Pt.ok(c:Sc):Pt->Prop
 |.no=>True
 |.nu n=>n<60
 |.wd w=>w.length<=8
 |.tr t=>t.ok c.ws c.bs 5
theorem Pt.ne:∀p:Pt,p.ws≠[]
 |.no=>by simp[Pt.ws]
 |.nu _=>by simp[Pt.ws]
 |.wd _=>by simp[Pt.ws]
 |.tr t=>t.ne
theorem Pt.short{c:Sc}(s:c.short):∀{p:Pt},p.ok c->p.ws.length<=95/\(∀x∈p.ws,x.length<=8)/\bx 0 p.d=true
 |.no,_=>#[by simp[Pt.ws],λx a=>by erw[Pt.ws,Qsq,QXq,or_false] at a;subst a;decide,L]
 |.nu n,h=>#[by simp[Pt.ws],λx a=>by erw[Pt.ws,Qsq,QXq,or_false] at a;subst a;have:=(d0 n h).1;omega,L]
 |.wd w,h=>#[by simp[Pt.ws],λx a=>by erw[Pt.ws,Qsq,QXq,or_false] at a;subst a;exact h,L]
 | .tr t,h=>by
   let#[e,f]:=Tr.short s.w s.b (t:=t) h
   exact#[QAq e (ze 5 (!1)),f,t.low]
def Rw.k:Rw->Str
 |.un _ _=>"unless"
 |.go _=>"go"
 |.te k _=>k
 |.pu _ _=>"put"
 |.dd _ _ _ _=>"do"
 |.wa _ _=>"wait"
 |.on k _=>k
 |.pa _ _=>"pass"
def Rw.ps:Rw->List Pt
 |.un t n=> [.nu n,.tr t]
 |.go n=> [.nu n]
 |.te _ t=> [.tr t]
 |.pu w t=> [.wd w,.tr t]
 |.dd w r d t=> [match w with|none=>.no|some x=>.wd x,.wd r,.wd d,.tr t]
 |.wa b t=> [.wd b,.tr t]
 |.on _ b=> [.wd b]
 |.pa p q=> [.wd p,.wd q]
def Rw.ws(r:Rw):List Str:=r.k::(r.ps.map Pt.ws).flatten
def Rw.tx(r:Rw):Str:=Txt.join " " r.ws
def Rw.ps_ok{c:Sc}{m:Nat}(s:c.short)(j:m<=40):∀{r:Rw},r.ok c m->r.k.length<=8/\r.ps.length<=4/\∀p∈r.ps,p.ok c:=by
 intro r h
 have i:∀{k:Str} {l:X6},k∈l->(∀x∈l,x.length<=8)->k.length<=8:=λe f=>f _ e
 cases r with
 |un t n=>exact#[by show Str.length "unless" <=8;decide,by simp[Rw.ps],λp a=>by erw[Rw.ps,Qsq,QXq,or_false] at a;rcases a with rfl|rfl;(have:n<=m:=h.2);show n<60;omega;exact h.1]
 |go n=>exact#[by show Str.length "go" <=8;decide,by simp[Rw.ps],λp a=>by erw[Rw.ps,Qsq,QXq,or_false] at a;subst a;have:n<=m:=h;show n<60;omega]
 |te k t=>exact#[by rcases h.2.1 with rfl|rfl;(show Str.length "tell" <=8;decide);(show Str.length "say" <=8;decide),by simp[Rw.ps],λp a=>by erw[Rw.ps,Qsq,QXq,or_false] at a;subst a;exact h.2.2]
 |pu w t=>exact#[by show Str.length "put" <=8;decide,by simp[Rw.ps],λp a=>by erw[Rw.ps,Qsq,QXq,or_false] at a;rcases a with rfl|rfl;exact s.g _ h.2.1;exact h.2.2]
 | dd w r d t=>
   refine#[by show Str.length "do" <=8;decide,by simp[Rw.ps],λp a=>?_]
   erw[Rw.ps,Qsq,QXq,or_false] at a
   rcases a with rfl|rfl|rfl|rfl
   · cases w with
     |none=>trivial
     |some x=>exact s.g _ (h.2.1 x L)
   · exact(s.d _ h.2.2.1).1
   · exact(s.d _ h.2.2.1).2
   · exact h.2.2.2
 |wa b t=>exact#[by show Str.length "wait" <=8;decide,by simp[Rw.ps],λp a=>by erw[Rw.ps,Qsq,QXq,or_false] at a;rcases a with rfl|rfl;exact s.b _ h.2.1;exact h.2.2]
 |on k b=>exact#[by rcases h.2 with⟨rfl|rfl,_⟩|⟨rfl|rfl,_⟩;(show Str.length "call" <=8;decide);(show Str.length "all" <=8;decide);(show Str.length "take" <=8;decide);(show Str.length "give" <=8;decide),by simp[Rw.ps],λp a=>by erw[Rw.ps,Qsq,QXq,or_false] at a;subst a;rcases h.2 with⟨_,h⟩|⟨_,h⟩;exact s.b _ h;exact s.p _ h]
 |pa p q=>exact#[by show Str.length "pass" <=8;decide,by simp[Rw.ps],λp a=>by erw[Rw.ps,Qsq,QXq,or_false] at a;rcases a with rfl|rfl;exact s.p _ h.2.1;exact s.p _ h.2.2]
def Rw.txl{c:Sc}{m:Nat}(s:c.short)(k:m<=40){r:Rw}(h:r.ok c m):r.tx.length<=4000:=by
 let#[e,z,i]:=r.ps_ok s k h
 have n:∀l:List Pt,(∀p∈l,p.ok c)->((l.map Pt.ws).flatten).length<=95*l.length/\∀x∈(l.map Pt.ws).flatten,x.length<=8:=by
  intro l
  induction l with
  |nil=>intro _;simp
  | cons p l j=>
    intro d
    let#[w,o]:=j λq t=>d q (Qpq _ t)
    let#[y,f,_]:=Pt.short s (d p (QBq ..))
    refine#[by erw[QDq,List.flatten_cons,lQa,Qnq];omega,λx a=>?_]
    rw[QDq,List.flatten_cons] at a
    rcases mQa.mp a with a|a
    · exact f x a
    · exact o x a
 let#[v,g]:=n _ i
 have:=join_le (sep:=" ") (l:=r.ws) (b:=8) (λx a=>by
  rcases Qsq.mp a with rfl|a
  ·exact e
  ·exact g x a)
 have u:(" ":Str).length=1:=by decide
 rw[u] at this
 have:r.ws.length*(8+1)<=381*9:=Nat.mul_le_mul (by erw[Rw.ws,Qnq];omega) (!1)
 show(Txt.join " " r.ws).length<=4000
 omega
section
variable{S:aB}{Q:Res->aB->Prop}{c:Sc}
def xC(s:c.short){p:Pt}(h:p.ok c)(q:Q (.d (.str (Txt.join " " p.ws))) S):Fn ee [p.d] S Q:=by
 refine dN ?_
 unfold kq
 symm
 cases p with
 | no=>
   erw[Pt.d]
   apply cp L ?_
   apply aN (λ_=>?_) (λc=>(by cases c))
   rw[show Txt.join " " (Pt.ws .no)="-" by simp[Pt.ws,j1]] at q
   exact lG L q
 | nu n=>
   have e:Txt.join " " (Pt.ws (.nu n))=eE n:=by simp[Pt.ws,j1]
   rw[e] at q
   erw[Pt.d]
   apply cp L ?_
   apply aN (λc=>(by cases c)) (λ_=>?_)
   refine qu (by exact h) ?_
   exact lG L q
 | wd w=>
   have e:Txt.join " " (Pt.ws (.wd w))=w:=by simp[Pt.ws,j1]
   rw[e] at q
   erw[Pt.d]
   apply cp L ?_
   apply aN (λc=>(by cases c)) (λ_=>?_)
   refine oS ?_
   exact lG L q
 | tr t=>
   have:wZ false S t.d .non=some (.bl false):=by cases t <;>rfl
   erw[Pt.d]
   apply cp this ?_
   apply aN (λc=>(by cases c)) (λ_=>?_)
   refine lq s.w s.b 6 (n:=5) (!1) (!1) (show t.ok c.ws c.bs 5 from h) _ ?_
   exact lG L q
end
def Rw.form{c:Sc}{m:Nat}:∀{r:Rw},r.ok c m->(r.d=.tup (.str r.k::r.ps.map Pt.d)/\r.k≠"unless")\/∃t n,r=.un t n:=by
 intro r h
 cases r with
 |un t n=>exact .inr #[t,n,L]
 |go n=>exact .inl #[L,by show("go":Str)≠"unless";decide]
 |te k t=>exact .inl #[L,by rcases h.2.1 with rfl|rfl;(show("tell":Str)≠"unless";decide);(show("say":Str)≠"unless";decide)]
 |pu w t=>exact .inl #[L,by show("put":Str)≠"unless";decide]
 |dd w r d t=>exact .inl #[by cases w <;>rfl,by show("do":Str)≠"unless";decide]
 |wa b t=>exact .inl #[L,by show("wait":Str)≠"unless";decide]
 |on k b=>exact .inl #[L,by rcases h.2 with⟨rfl|rfl,_⟩|⟨rfl|rfl,_⟩;(show("call":Str)≠"unless";decide);(show("all":Str)≠"unless";decide);(show("take":Str)≠"unless";decide);(show("give":Str)≠"unless";decide)]
 |pa p q=>exact .inl #[L,by show("pass":Str)≠"unless";decide]
section
variable{S:aB}{Q:Res->aB->Prop}{c:Sc}{m:Nat}
def Rw.tx_is(r:Rw):Txt.join " " (r.k::r.ps.map λp=>Txt.join " " p.ws)=r.tx:=by
 have:=pe (sep:=" ") (L:= [r.k]::r.ps.map Pt.ws) (by
  intro l a
  rcases Qsq.mp a with rfl|a
  ·simp
  ·let#[p,_,rfl]:=Qkq.mp a
   exact p.ne)
 erw[QDq,QPq,List.flatten_cons,j1] at this
 exact this
def CC(s:c.short){r:Rw}(v:m<=40)(h:r.ok c m){x:D}(f:j4 (match x with|.tup l=>l|_=> []) 0=some (.str r.k))(ht:∃l,x=.tup l)(q:Q (.d (.str r.tx)) S):
  T (eQ (gI (cF (.str " ")) (b_ (dw (b_ (aV (au (bp eJ (aw 0) (cF (.int 0))) ax))) (b_ (bu [none] (fg (aS (aw 1))) (cf 0) bP (aF ee (au (aw 0) ax)))))))) [some x,some (.tup (r.ps.map Pt.d))] S λo=>match o with
    |.nx _ g=>Op (DL.settle S .non g) λp=>Q p.1 p.2|.rt d g=>Op (DL.settle S d g) λp=>Q p.1 p.2|.rl l g=>Op (dJ S l g) λp=>Q p.1 p.2|_=>False:=by
 let#[l,rfl]:=ht
 let#[y,z,n]:=r.ps_ok s v h
 symm
 apply kd ?_
 refine#[_,L,?_]
 apply eI (cE ?_)
 apply bM f ?_
 apply#[show 1<=sizeLine by decide,?_]
 apply bU (α:=Pt) (λe=>∃a,e= [a]) Pt.d (λp=>.str (Txt.join " " p.ws)) (λ_=>true) #[none,L] (ed ?_)
 refine#[r.ps,L,trivial,by omega,λp j e i=>?_,?_]
 ·let#[a,rfl]:=i
  apply bc #[L,#[_,L],du #[L,L,λ_=>?_]]
  exact xC s (n p j) #[L,L]
 rw[i3]
 refine#[#[L,L,trivial,sm (by erw[Qnq,QGq,lQm];omega)],?_]
 refine#[L,r.k::r.ps.map λp=>Txt.join " " p.ws,by simp[QPq],?_,lG L (by rw[r.tx_is];exact q)]
 have:=og (sep:=" ") (l:=r.k::r.ps.map λp=>Txt.join " " p.ws) (b:=900) (λx f=>by
  rcases Qsq.mp f with rfl|f
  ·omega
  ·let#[p,j,rfl]:=Qkq.mp f
   let#[u,t,_]:=Pt.short s (n p j)
   have:=join_le (sep:=" ") t
   have w:(" ":Str).length=1:=by decide
   rw[w] at this
   have:p.ws.length*(8+1)<=95*9:=Nat.mul_le_mul u (!1)
   omega)
 refine QAq this ?_
 erw[Qnq,lQm]
 have:(" ":Str).length=1:=by decide
 rw[this]
 exact QAq (Nat.mul_le_mul (show r.ps.length+1<=5 by omega) (Qmq (900+1))) (!1)
def wF(s:c.short){r:Rw}(a:m<=40)(h:r.ok c m)(q:Q (.d (.str r.tx)) S):Fn gf [r.d] S Q:=by
 refine dN ?_
 unfold lA
 rcases Rw.form h with⟨b,e⟩|⟨t,n,rfl⟩
 ·rw[b]
  symm
  apply bM (aP (i:=0) L) ?_
  apply cZ ?_
  refine aN (λc=>absurd (QZq c) e) (λ_=>?_)
  apply ur ?_
  apply eG ?_
  refine#[1,L,eH #[_,L,?_]]
  rw[show(some (1:Int))=some ((1:Nat):Int) from L,eX]
  exact CC s a h (aP (i:=0) L) #[_,L] q
 ·symm
  apply bM (aP (i:=0) L) ?_
  apply cZ ?_
  apply aN (λ_=>?_) (λc=>(by simp at c))
  apply bM (aP (i:=2) L) ?_
  apply bM (aP (i:=1) L) ?_
  refine#[show 2<=sizeLine by decide,?_]
  exact CC (r:=.un t n) s a h (aP (i:=0) L) #[_,L] q
def CH{x:D}{e:X6}{k:Str}{a:aB}{r:Nat}(h:∃G,a=S++G)(g:a[r]?=some (.lst (e.map D.str)))(s:e.length<=400)(i:k.length<=8)(j:∀x∈e,x.length<=8)(q:Q (.d (.str (Txt.join " " (k::e)))) S):
  T (eQ (gI (cF (.str " ")) (b_ (dw (b_ (aV (au (aw 1) ax))) (aS (aw 2)))))) [some x,some (.str k),some (.ref r)] a λo=>match o with
    |.nx _ a=>Op (DL.settle S .non a) λp=>Q p.1 p.2|.rt d a=>Op (DL.settle S d a) λp=>Q p.1 p.2|.rl l a=>Op (dJ S l a) λp=>Q p.1 p.2|_=>False:=by
 symm
 apply kd ?_
 refine#[_,L,?_]
 apply eI (cE ?_)
 apply#[show 1<=sizeLine by decide,?_]
 refine bb g ?_
 refine#[#[L,L,trivial,sm (by erw[Qnq,QGq,lQm];omega)],?_]
 refine#[L,k::e,by simp,?_,yn h L q]
 have:=og (sep:=" ") (l:=k::e) (b:=8) (λx f=>by
  rcases Qsq.mp f with rfl|f
  ·exact i
  ·exact j x f)
 refine QAq this ?_
 have n:(" ":Str).length=1:=by decide
 rw[n]
 exact QAq (Nat.mul_le_mul (show(k::e).length<=401 by erw[Qnq];omega) (Qmq (8+1))) (!1)
def nT{s:c.short}{t:Tr}(h:t.ok c.ws c.bs 5):t.fine/\t.nd<64:=by
 let#[a,d]:=Tr.ok.fine s.w s.b h
 exact#[a,Nat.lt_of_le_of_lt d (!1)]
def xv(s:c.short){r:Rw}(I:m<=40)(h:r.ok c m)(q:Q (.d (.str r.tx)) S):Fn dD [r.d] S Q:=by
 have C:∀x∈r.ws.tail,x.length<=8:=by
  let#[_,_,H]:=r.ps_ok s I h
  intro x F
  erw[Rw.ws,List.tail_cons] at F
  let#[l,J,F]:=List.mem_flatten.mp F
  let#[p,j,rfl]:=Qkq.mp J
  exact(Pt.short s (H p j)).2.1 x F
 have u:r.ws.tail.length<=400:=by
  let#[_,h2,H]:=r.ps_ok s I h
  have J:∀l:List Pt,(∀p∈l,p.ok c)->((l.map Pt.ws).flatten).length<=95*l.length:=by
   intro l
   induction l with
   |nil=>intro _;simp
   | cons p l P=>
     intro j
     let Z:=P λq X=>j q (Qpq _ X)
     let a1:=(Pt.short s (j p (QBq ..))).1
     erw[QDq,List.flatten_cons,lQa,Qnq]
     omega
  have:=J _ H
  erw[Rw.ws,List.tail_cons]
  omega
 let U:=(r.ps_ok s I h).1
 have f:∀{x:D} {B:aB},B=S->T (eQ (gI (cF (.str " ")) (b_ (dw (b_ (aV (au (aw 1) ax))) (aS (aw 2)))))) [some x,some (.str r.k),some (.ref S.length)] (B++ [.lst (r.ws.tail.map D.str)]) λo=>match o with
   |.nx _ B=>Op (DL.settle S .non B) λp=>Q p.1 p.2|.rt d B=>Op (DL.settle S d B) λp=>Q p.1 p.2|.rl l B=>Op (dJ S l B) λp=>Q p.1 p.2|_=>False:=λ{x B} e=>by
  subst e
  exact CH #[_,L] aR u U C (by rw[show(r.k::r.ws.tail)=r.ws from L];exact q)
 refine dN ?_
 unfold gW
 let Y:=h
 cases r with
 | te k t=>
   erw[Rw.d,Rw.k] at f|-
   symm
   apply bM (aP (i:=0) L) ?_
   apply dC ?_
   apply#[by decide,?_]
   refine#[k,["say","tell"],L,L,?_]
   refine aN (λ_=>?_) (λc=>?_)
   · symm
     apply bM (aP (i:=1) L) ?_
     let#[z,y]:=nT (s:=s) h.2.2
     refine kc z y ?_
     erw[Rw.ws,Rw.ps,Pt.ws,QDq,List.map_nil,List.flatten_cons,List.flatten_nil,List.append_nil,List.tail_cons,List.cons_append,List.nil_append] at f
     exact f L
   · rcases h.2.1 with rfl|rfl <;>simp at c
 | pu w t=>
   erw[Rw.d,Rw.k] at f|-
   symm
   apply bM (aP (i:=0) L) ?_
   apply dC ?_
   apply#[by decide,?_]
   refine#["put",["say","tell"],L,L,?_]
   apply aN (λc=>absurd c (!1)) (λ_=>?_)
   apply dC ?_
   apply#[by decide,?_]
   refine#["put",["put","wait"],L,L,?_]
   refine aN (λ_=>?_) (λc=>absurd c (!1))
   · symm
     apply cE ?_
     apply bM (aP (i:=1) L) ?_
     apply#[show 1<=sizeLine by decide,?_]
     apply bM (aP (i:=2) L) ?_
     let#[z,y]:=nT (s:=s) h.2.2
     refine kc z y ?_
     refine#[#[L,L,trivial,sm (by have:=u;erw[Rw.ws,Rw.ps,Pt.ws,QDq,List.map_nil,List.flatten_cons,List.flatten_nil,List.append_nil,List.tail_cons,List.cons_append,List.nil_append,Qnq] at this;erw[Qnq,QGq,lQm];omega)],?_]
     erw[Rw.ws,Rw.ps,Pt.ws,QDq,List.map_nil,List.flatten_cons,List.flatten_nil,List.append_nil,List.tail_cons,List.cons_append,List.nil_append] at f
     exact f L
 | wa b t=>
   erw[Rw.d,Rw.k] at f|-
   symm
   apply bM (aP (i:=0) L) ?_
   apply dC ?_
   apply#[by decide,?_]
   refine#["wait",["say","tell"],L,L,?_]
   apply aN (λc=>absurd c (!1)) (λ_=>?_)
   apply dC ?_
   apply#[by decide,?_]
   refine#["wait",["put","wait"],L,L,?_]
   refine aN (λ_=>?_) (λc=>absurd c (!1))
   · symm
     apply cE ?_
     apply bM (aP (i:=1) L) ?_
     apply#[show 1<=sizeLine by decide,?_]
     apply bM (aP (i:=2) L) ?_
     let#[z,y]:=nT (s:=s) h.2.2
     refine kc z y ?_
     refine#[#[L,L,trivial,sm (by have:=u;erw[Rw.ws,Rw.ps,Pt.ws,QDq,List.map_nil,List.flatten_cons,List.flatten_nil,List.append_nil,List.tail_cons,List.cons_append,List.nil_append,Qnq] at this;erw[Qnq,QGq,lQm];omega)],?_]
     erw[Rw.ws,Rw.ps,Pt.ws,QDq,List.map_nil,List.flatten_cons,List.flatten_nil,List.append_nil,List.tail_cons,List.cons_append,List.nil_append] at f
     exact f L
 | un t n=>
   erw[Rw.d,Rw.k] at f|-
   symm
   apply bM (aP (i:=0) L) ?_
   apply dC ?_
   apply#[by decide,?_]
   refine#["unless",["say","tell"],L,L,?_]
   apply aN (λc=>absurd c (!1)) (λ_=>?_)
   apply dC ?_
   apply#[by decide,?_]
   refine#["unless",["put","wait"],L,L,?_]
   apply aN (λc=>absurd c (!1)) (λ_=>?_)
   apply cZ ?_
   refine aN (λ_=>?_) (λc=>absurd c (!1))
   · symm
     apply cE ?_
     apply bM (aP (i:=2) L) ?_
     have R:n<=m:=h.2
     refine cp (d:=.str (eE n)) (by erw[jc,qW];rw[Qhq (d0 n (!0)).2];rfl) ?_
     symm
     apply#[show 1<=sizeLine by decide,?_]
     apply bM (aP (i:=1) L) ?_
     let#[z,y]:=nT (s:=s) h.1
     refine kc z y ?_
     refine#[#[L,L,trivial,sm (by have:=u;erw[Rw.ws,Rw.ps,Pt.ws,QDq,List.map_nil,List.flatten_cons,List.flatten_nil,List.append_nil,List.tail_cons,List.cons_append,List.nil_append,Qnq] at this;erw[Qnq,QGq,lQm];omega)],?_]
     erw[Rw.ws,Rw.ps,Pt.ws,QDq,List.map_nil,List.flatten_cons,List.flatten_nil,List.append_nil,List.tail_cons,List.cons_append,List.nil_append] at f
     exact f L
 | dd w r d t=>
   erw[Rw.d,Rw.k] at f|-
   symm
   apply bM (aP (i:=0) L) ?_
   apply dC ?_
   apply#[by decide,?_]
   refine#["do",["say","tell"],L,L,?_]
   apply aN (λc=>absurd c (!1)) (λ_=>?_)
   apply dC ?_
   apply#[by decide,?_]
   refine#["do",["put","wait"],L,L,?_]
   apply aN (λc=>absurd c (!1)) (λ_=>?_)
   apply cZ ?_
   apply aN (λc=>absurd c (!1)) (λ_=>?_)
   apply cZ ?_
   refine aN (λ_=>?_) (λc=>absurd c (!1))
   · symm
     apply cE ?_
     apply bM (aP (i:=1) L) ?_
     cases w with
     | none=>
       apply cp L ?_
       apply aN (λ_=>?_) (λc=>(by cases c))
       apply bM (aP (i:=2) L) ?_
       apply bM (aP (i:=3) L) ?_
       apply#[show 3<=sizeLine by decide,?_]
       apply bM (aP (i:=4) L) ?_
       let#[z,y]:=nT (s:=s) h.2.2.2
       refine kc z y ?_
       refine#[#[L,L,trivial,sm (by have:=u;erw[Rw.ws,Rw.ps,Pt.ws,QDq,List.map_nil,List.flatten_cons,List.flatten_nil,List.append_nil,List.tail_cons,List.cons_append,List.nil_append,Qnq] at this;erw[Qnq,QGq,lQm];omega)],?_]
       erw[Rw.ws,Rw.ps,Pt.ws,QDq,List.map_nil,List.flatten_cons,List.flatten_nil,List.append_nil,List.tail_cons,List.cons_append,List.nil_append] at f
       exact f L
     | some x=>
       apply cp L ?_
       apply aN (λc=>(by cases c)) (λ_=>?_)
       apply bM (aP (i:=1) L) ?_
       apply bM (aP (i:=2) L) ?_
       apply bM (aP (i:=3) L) ?_
       apply#[show 3<=sizeLine by decide,?_]
       apply bM (aP (i:=4) L) ?_
       let#[z,y]:=nT (s:=s) h.2.2.2
       refine kc z y ?_
       refine#[#[L,L,trivial,sm (by have:=u;erw[Rw.ws,Rw.ps,Pt.ws,QDq,List.map_nil,List.flatten_cons,List.flatten_nil,List.append_nil,List.tail_cons,List.cons_append,List.nil_append,Qnq] at this;erw[Qnq,QGq,lQm];omega)],?_]
       erw[Rw.ws,Rw.ps,Pt.ws,QDq,List.map_nil,List.flatten_cons,List.flatten_nil,List.append_nil,List.tail_cons,List.cons_append,List.nil_append] at f
       exact f L
 | go n=>
   erw[Rw.d,Rw.k] at f|-
   have R:n<=m:=h
   symm
   apply bM (aP (i:=0) L) ?_
   apply dC ?_
   apply#[by decide,?_]
   refine#[_,["say","tell"],L,L,?_]
   apply aN (λc=>absurd c (!1)) (λ_=>?_)
   apply dC ?_
   apply#[by decide,?_]
   refine#[_,["put","wait"],L,L,?_]
   apply aN (λc=>absurd c (!1)) (λ_=>?_)
   apply cZ ?_
   apply aN (λc=>absurd c (!1)) (λ_=>?_)
   apply cZ ?_
   apply aN (λc=>absurd c (!1)) (λ_=>?_)
   apply bU (α:=Pt) (λg=>∃a,g= [a]) Pt.d (λp=>.str (Txt.join " " p.ws)) (λ_=>true) #[none,L] (ed ?_)
   apply ur ?_
   apply eG ?_
   refine#[1,L,eH #[_,L,?_]]
   rw[show(some (1:Int))=some ((1:Nat):Int) from L,eX]
   symm
   refine#[[Pt.nu n],L,trivial,by simp,λp j g v=>?_,?_]
   · let#[a,rfl]:=v
     apply bc #[L,#[_,L],du #[L,L,λ_=>?_]]
     erw[Qsq,QXq,or_false] at j
     subst j
     refine cp (d:=.str (eE n)) (by erw[Pt.d,jc,qW];rw[Qhq (d0 n (!0)).2];rfl) #[by simp[Pt.ws,j1],L]
   rw[i3]
   erw[Rw.ws,Rw.ps,Pt.ws,QDq,List.map_nil,List.flatten_cons,List.flatten_nil,List.append_nil,List.tail_cons,List.cons_append,List.nil_append] at f
   erw[Pt.ws,QDq,List.map_nil,j1]
   exact f L
 | on k b=>
   erw[Rw.d,Rw.k] at f|-
   have A:k="call" \/k="all" \/k="take" \/k="give":=by rcases h.2 with⟨h|h,_⟩|⟨h|h,_⟩ <;>simp[h]
   have W:b.length<=8:=by rcases h.2 with⟨_,h⟩|⟨_,h⟩;exact s.b _ h;exact s.p _ h
   symm
   apply bM (aP (i:=0) L) ?_
   apply dC ?_
   apply#[by decide,?_]
   refine#[_,["say","tell"],L,L,?_]
   refine aN (λc=>absurd c (by rcases A with rfl|rfl|rfl|rfl <;>decide)) (λ_=>?_)
   symm
   apply dC ?_
   apply#[by decide,?_]
   refine#[_,["put","wait"],L,L,?_]
   refine aN (λc=>absurd c (by rcases A with rfl|rfl|rfl|rfl <;>decide)) (λ_=>?_)
   symm
   apply cZ ?_
   refine aN (λc=>absurd c (by rcases A with rfl|rfl|rfl|rfl <;>decide)) (λ_=>?_)
   symm
   apply cZ ?_
   refine aN (λc=>absurd c (by rcases A with rfl|rfl|rfl|rfl <;>decide)) (λ_=>?_)
   symm
   apply bU (α:=Pt) (λg=>∃a,g= [a]) Pt.d (λp=>.str (Txt.join " " p.ws)) (λ_=>true) #[none,L] (ed ?_)
   apply ur ?_
   apply eG ?_
   refine#[1,L,eH #[_,L,?_]]
   rw[show(some (1:Int))=some ((1:Nat):Int) from L,eX]
   symm
   refine#[[Pt.wd b],L,trivial,by simp,λp j g v=>?_,?_]
   · let#[a,rfl]:=v
     apply bc #[L,#[_,L],du #[L,L,λ_=>?_]]
     erw[Qsq,QXq,or_false] at j
     subst j
     refine cp (d:=.str b) (by erw[Pt.d,jc,qW];rw[Qhq (sm (by have:=W;omega))];rfl) #[by simp[Pt.ws,j1],L]
   rw[i3]
   erw[Rw.ws,Rw.ps,Pt.ws,QDq,List.map_nil,List.flatten_cons,List.flatten_nil,List.append_nil,List.tail_cons,List.cons_append,List.nil_append] at f
   erw[Pt.ws,QDq,List.map_nil,j1]
   exact f L
 | pa p N=>
   erw[Rw.d,Rw.k] at f|-
   let K:=s.p _ h.2.1
   let M:=s.p _ h.2.2
   symm
   apply bM (aP (i:=0) L) ?_
   apply dC ?_
   apply#[by decide,?_]
   refine#[_,["say","tell"],L,L,?_]
   apply aN (λc=>absurd c (!1)) (λ_=>?_)
   apply dC ?_
   apply#[by decide,?_]
   refine#[_,["put","wait"],L,L,?_]
   apply aN (λc=>absurd c (!1)) (λ_=>?_)
   apply cZ ?_
   apply aN (λc=>absurd c (!1)) (λ_=>?_)
   apply cZ ?_
   apply aN (λc=>absurd c (!1)) (λ_=>?_)
   apply bU (α:=Pt) (λg=>∃a,g= [a]) Pt.d (λp=>.str (Txt.join " " p.ws)) (λ_=>true) #[none,L] (ed ?_)
   apply ur ?_
   apply eG ?_
   refine#[1,L,eH #[_,L,?_]]
   rw[show(some (1:Int))=some ((1:Nat):Int) from L,eX]
   symm
   refine#[[Pt.wd p,Pt.wd N],L,trivial,by simp,λpt j g v=>?_,?_]
   · let#[a,rfl]:=v
     apply bc #[L,#[_,L],du #[L,L,λ_=>?_]]
     erw[Qsq,QXq,or_false] at j
     rcases j with rfl|rfl
     · refine cp (d:=.str p) (by erw[Pt.d,jc,qW];rw[Qhq (sm (by have:=K;omega))];rfl) #[by simp[Pt.ws,j1],L]
     · refine cp (d:=.str N) (by erw[Pt.d,jc,qW];rw[Qhq (sm (by have:=M;omega))];rfl) #[by simp[Pt.ws,j1],L]
   rw[i3]
   erw[Rw.ws,Rw.ps,Pt.ws,QDq,List.map_nil,List.flatten_cons,List.flatten_nil,List.append_nil,List.tail_cons,List.cons_append,List.nil_append] at f
   erw[Pt.ws,QDq,List.map_nil,j1]
   exact f L
end
def ln2(k a b:Str):Str:=Txt.join " " [k,a,b]
def kN(k:Str)(a:List (Str×Nat)):List Str:=a.map λv=>ln2 k v.1 (eE v.2)
def xD(a:List Rw):Prop:=a.length<=40/\∃c m,c.short/\m<=40/\∀r∈a,r.ok c m
def mC(m:Str):Str:=(eZ.lookup m).getD ""
def lI:∀m∈oA,eZ.lookup m=some (mC m)/\(mC m).length<=9:=by decide +kernel
def DF{k a b e:Str}(c:k++ " "=e):((((Str.empty++e)++a)++ " ")++b)=ln2 k a b:=by
 have d:∀x:Str,Str.empty++x=x:=λx=>by
  apply Str.ext'
  simp[Str.cps_append,Str.empty]
 rw[d,<-c,ln2,j2,j2,j1]
 erw[Str.append_assoc]
def EJ{k a e:Str}(b:k++ " "=e):((Str.empty++e)++a)=Txt.join " " [k,a]:=by
 have c:∀x:Str,Str.empty++x=x:=λx=>by
  apply Str.ext'
  simp[Str.cps_append,Str.empty]
 rw[c,<-b,j2,j1]
def cG(a b:Str):(a++b).length=a.length+b.length:=strLen_append a b
section
variable{S:aB}{Q:Res->aB->Prop}
def xg(a:List (Str×Nat)):Prop:=(∀v∈a,v.1.length<=8/\v.2<10)/\a.length<=16
def rF{x:Str}(h:x.length<=100):qW (.str x)=some x:=by erw[qW];rw[Qhq (sm (!0))]
def CP{v:Nat}(h:v<60):qW (.int v)=some (eE v):=by erw[qW];rw[Qhq (d0 v h).2]
def uT{j:bV}{k e:Str}{c:List (Str×Nat)}{i:q8}{R:List D->aB->Prop}(r:k++ " "=e)(he:e.length<=10)(l:xg c)(hi:E i j S λp g=>p.1=c.map gO/\p.2 g/\g=S)(q:R ((kN k c).map D.str) S):
  E (bu [none,none] i (mJ (nG 2 (aY (cf 0) (aY (cf 1) fF)))) bP (wY (iG (cF (.str e)) (iG (gN (aw 0)) (iG (cF (.str " ")) (iG (gN (aw 1)) xm)))))) j S R:=by
 refine bU (α:=Str×Nat) (λd=>∃a b,d= [a,b]) gO (λv=>.str (ln2 k v.1 (eE v.2))) (λ_=>true) #[none,none,L] (hi.mono λp g s=>?_)
 let#[m,o,n]:=s
 subst n
 refine#[c,m,o,by have:=l.2;omega,λv h d f=>?_,?_]
 ·let#[a,b,rfl]:=f
  let#[t,u]:=l.1 v h
  let x:=(d0 v.2 (!0)).1
  have y:(Str.empty).length=0:=rfl
  have w:(" ":Str).length=1:=by decide
  refine iI L (aD (bc (aD (bc (cy #[L,#[_,_,L],du #[L,L,λ_=>?_]])))))
  refine xt (cU (zh #[e,L,sm (by rw[cG];omega),cU (mD (di L (cp (rF (!0)) #[v.1,L,sm (by rw[cG,cG];omega),cU (zh #[" ",L,sm (by rw[cG,cG,cG];omega),cU (mD (di L (cp (CP (!0)) #[eE v.2,L,sm (by rw[cG,cG,cG,cG];omega),oi ?_])))])])))]))
  exact#[by rw[DF r],L]
 rw[i3]
 rw[show c.map (λv=>D.str (ln2 k v.1 (eE v.2)))=(kN k c).map D.str by rw[kN,QPq];rfl]
 exact q
def nZ{a:List (Str×Nat)}(c:xg a)(q:Q (.l ((kN "thing" a).map D.str)) S):Fn dj [.tup (a.map gO)] S Q:=by
 refine dN ?_
 unfold iX
 refine zP (uT (k:="thing") (!1) (!1) c (ed (fO (di L (fe #[L,trivial,L])))) ?_)
 exact Cv #[[],by simp] (λd b=>by let#[z,_,rfl]:=Qkq.mp b;rfl) q
def nQ{b:List Rw}(h:xD b)(q:Q (.l ((b.map Rw.tx).map D.str)) S):Fn cW [.tup (b.map Rw.d)] S Q:=by
 let#[n,c,m,s,k,j]:=h
 refine dN ?_
 unfold h_
 symm
 apply bU (α:=Rw) (λe=>∃a,e= [a]) Rw.d (λr=>.str r.tx) (λ_=>true) #[none,L] (ed ?_)
 refine#[b,L,trivial,by omega,λr g e f=>?_,?_]
 ·let#[a,rfl]:=f
  apply bc #[L,#[_,L],du #[L,L,λ_=>?_]]
  exact wF s k (j r g) #[L,L]
 rw[i3,show b.map (λr=>D.str r.tx)=(b.map Rw.tx).map D.str by rw[QPq];rfl]
 exact Cv #[[],by simp] (λd i=>by let#[z,_,rfl]:=Qkq.mp i;rfl) q
structure Rm.tok(r:Rm):Prop where
 nm:r.nm.length<=8
 mn:r.mn∈oA
 th:xg r.th
 be:(∀b∈r.be,b.1.length<=8/\b.2∈sorts)/\r.be.length<=3
 de:(∀p∈r.de,p.1.length<=8/\xD p.2)/\r.de.length<=4
def yZ(p:Str×List Rw):List Str:=Txt.join " " ["deed",p.1]::p.2.map Rw.tx
def fV(r:Rm):List Str:=(ln2 "room" r.nm (mC r.mn)::kN "thing" r.th)++(r.be.map λb=>ln2 "bell" b.1 b.2)++(r.de.map yZ).flatten
def sX{l:List (Str×List Rw)}(h:∀p∈l,xD p.2):((l.map yZ).flatten).length<=41*l.length:=by
 induction l with
 |nil=>simp
 | cons p l a=>
   let c:=a λq b=>h q (Qpq _ b)
   let d:=(h p (QBq ..)).1
   erw[QDq,List.flatten_cons,lQa,Qnq,yZ,lQm] at c|-
   omega
end
def lU{k a b:Str}(f:k.length<=9)(c:a.length<=9)(e:b.length<=9):(ln2 k a b).length<=40:=by
 have d:(" ":Str).length=1:=by decide
 rw[ln2,j2,j2,j1,cG,cG,cG,cG]
 omega
section
variable{S:aB}{Q:Res->aB->Prop}
def Cj{g:bV}{bs:List (Str×Str)}{i:q8}{R:List D->aB->Prop}(h:(∀b∈bs,b.1.length<=8/\b.2∈sorts)/\bs.length<=3)(hi:E i g S λp e=>p.1=bs.map mH/\p.2 e/\e=S)(q:R ((bs.map λb=>ln2 "bell" b.1 b.2).map D.str) S):
  E (bu [none,none] i (mJ (nG 2 (aY (cf 0) (aY (cf 1) fF)))) bP (wY (iG (cF (.str "bell ")) (iG (gN (aw 0)) (iG (cF (.str " ")) (iG (gN (aw 1)) xm)))))) g S R:=by
 refine bU (α:=Str×Str) (λc=>∃a b,c= [a,b]) mH (λv=>.str (ln2 "bell" v.1 v.2)) (λ_=>true) #[none,none,L] (hi.mono λp e o=>?_)
 let#[j,n,m]:=o
 subst m
 have sl:∀x∈sorts,x.length<=8:=by decide +kernel
 refine#[bs,j,n,by have:=h.2;omega,λv f c d=>?_,?_]
 ·let#[a,b,rfl]:=d
  let#[r,l]:=h.1 v f
  let u:=sl _ l
  have w:(Str.empty).length=0:=rfl
  have s:(" ":Str).length=1:=by decide
  have t:("bell ":Str).length=5:=by decide
  refine iI L (aD (bc (aD (bc (cy #[L,#[_,_,L],du #[L,L,λ_=>?_]])))))
  refine xt (cU (zh #["bell ",L,sm (by rw[cG];omega),cU (mD (di L (cp (rF (!0)) #[v.1,L,sm (by rw[cG,cG];omega),cU (zh #[" ",L,sm (by rw[cG,cG,cG];omega),cU (mD (di L (cp (rF (!0)) #[v.2,L,sm (by rw[cG,cG,cG,cG];omega),oi ?_])))])])))]))
  exact#[by rw[DF (k:="bell") (!1)],L]
 rw[i3]
 rw[show bs.map (λv=>D.str (ln2 "bell" v.1 v.2))=(bs.map λb=>ln2 "bell" b.1 b.2).map D.str by rw[QPq];rfl]
 exact q
def wU{l:X6}:∀d∈l.map D.str,bx 0 d=true:=λd a=>by
 let#[z,_,rfl]:=Qkq.mp a
 rfl
def xV{r:Rm}(h:r.tok)(q:Q (.l ((fV r).map D.str)) S):Fn fA [r.d] S Q:=by
 let#[P,H,t,B,y,F]:=h
 let#[v,J]:=lI _ H
 have l4:(Str.empty).length=0:=rfl
 have N:(" ":Str).length=1:=by decide
 have R:("room ":Str).length=5:=by decide
 have Z:("deed ":Str).length=5:=by decide
 refine dN ?_
 unfold kx
 symm
 apply iI L (aD (bc (aD (bc (aD (bc (aD (bc (aD (bc (cy ?_)))))))))))
 apply cE ?_
 refine xt (cU (zh ⟨"room ",L,sm (by rw[cG];omega),cU (mD (di L (cp (rF (!0)) ⟨r.nm,L,sm (by rw[cG,cG];omega),cU (zh ⟨" ",L,sm (by rw[cG,cG,cG];omega),cU (mD (CO (di L ⟨r.mn,mC r.mn,L,v,cp (rF (!0)) ⟨mC r.mn,L,sm (by rw[cG,cG,cG,cG];omega),oi ?_⟩⟩)))⟩)⟩)))⟩))
 rw[DF (k:="room") (!1)]
 symm
 apply⟨show 1<=sizeLine by decide,?_⟩
 refine nZ t ?_
 refine⟨⟨rfl,L,trivial,sm (by erw[Qnq,QGq,lQm,kN];have:=t.2;omega)⟩,?_⟩
 obtain⟨c,e⟩:∃c,c=ln2 "room" r.nm (mC r.mn)::kN "thing" r.th:=⟨_,L⟩
 rw[show([D.str (ln2 "room" r.nm (mC r.mn))]++(kN "thing" r.th).map D.str)=c.map D.str by rw[e];rfl]
 have W:c.length<=51:=by rw[e];erw[Qnq,lQm,kN];have:=t.2;omega
 let n:=aR (S:=S) (o:=.lst (c.map D.str))
 have A:∃G,S++ [.lst (c.map D.str)]=S++G:=⟨_,L⟩
 generalize S++ [.lst (c.map D.str)]=S1 at n A|-
 symm
 apply iW ?_
 refine⟨S.length,_,L,n,?_⟩
 refine eI (Cj B (ed (fO (di L (fe ⟨rfl,trivial,L⟩)))) ?_)
 let I:=B.2
 refine⟨_,n,⟨rfl,sm (by erw[lQm];omega)⟩,?_⟩
 rw[<-Qzq]
 obtain⟨a,g⟩:∃a,a=c++r.be.map λb=>ln2 "bell" b.1 b.2:=#[_,L]
 rw[<-g]
 have n2:a.length<=101:=by rw[g];erw[lQa,lQm];omega
 let x:=bF (o':=.lst (a.map D.str)) n
 let C:=cx (o:=.lst (a.map D.str)) A (Qmq S.length)
 generalize S1.set S.length (.lst (a.map D.str))=S2 at x C|-
 apply fY (eV ?_)
 refine#[λi f w=>∃(s u:Option D),f= [some r.d,some (.str r.nm),some (.str r.mn),some (.tup (r.th.map gO)),some (.tup (r.be.map mH)),some (.tup (r.de.map yM)),some (.ref S.length),s,u]/\(∃G,w=S++G)/\w[S.length]?=some (.lst ((a++((r.de.take i).map yZ).flatten).map D.str)),#[_,_,L,C,by simpa using x],λ_ _ _ _=>trivial,?_,?_]
 ·rintro i d f w j ⟨s,u,rfl,p3,m3⟩
  rw[gQm] at j
  let#[p,m,rfl]:=oQm.mp j
  let#[X,z]:=y p (mQg m)
  let M:=sX (l:=r.de.take i) λp m=>(y p (List.mem_of_mem_take m)).2
  have K:(r.de.take i).length<=4:=by rw[Qxq];omega
  apply iI L (aD (bc (aD (bc (cy ?_)))))
  apply iW ?_
  refine#[S.length,_,L,m3,?_]
  apply eI (cE ?_)
  refine xt (cU (zh #["deed ",L,sm (by rw[cG];omega),cU (mD (di L (cp (rF (!0)) #[p.1,L,sm (by rw[cG,cG];omega),oi ?_])))]))
  rw[EJ (k:="deed") (!1)]
  symm
  apply#[show 1<=sizeLine by decide,?_]
  refine nQ z ?_
  let U:=z.1
  refine#[#[L,L,trivial,sm (by erw[Qnq,QGq,lQm];omega)],?_]
  refine#[_,m3,#[L,sm (by erw[lQa,Qnq,QGq,lQm];omega)],_,_,L,cx p3 (Qmq _),?_]
  rw[bF m3,QYq,m]
  simp[yZ]
 rintro f Y ⟨s,u,rfl,p3,m3⟩
 erw[lQm,QEq] at m3
 symm
 refine As p3 (Qmq _) m3 wU ?_
 rw[show a++(r.de.map yZ).flatten=fV r by rw[g,e];rfl]
 exact q
end
def Cd{n:Nat}(h:n<=4000):n<=sizeLine:=QAq h (!1)
def NN(x:Str):Prop:=x≠"at once" /\x≠"when free"
def DI(a:List (Str×Nat)):Prop:=xg a/\∀v∈a,NN v.1
structure Rm.fit(r:Rm):Prop where
 t:r.tok
 n:NN r.nm
 th:∀v∈r.th,NN v.1
 be:∀v∈r.be,NN v.1
 de:∀v∈r.de,NN v.1
structure Hd.fit(h:Hd):Prop where
 th:DI h.th
 pr:xD h.pr
structure Wr.fit(w:Wr):Prop where
 rm:(∀r∈w.rm,r.fit)/\w.rm.length<=4
 ps:DI w.ps
 op:DI w.op
 hd:(∀h∈w.hd,h.fit)/\w.hd.length<=4
def xh(h:Hd):List Str:=(("hand":Str)::kN "thing" h.th)++h.pr.map Rw.tx
def dR(w:Wr):List Str:=((kN "pass" w.ps++kN "open" w.op)++(w.rm.map fV).flatten)++(w.hd.map xh).flatten
def iC{k:Str}{a:List (Str×Nat)}(h:xg a):(kN k a).length<=16:=by rw[kN,lQm];exact h.2
def iy{r:Rm}(h:r.tok):(fV r).length<=184:=by
 let c:=iC (k:="thing") h.th
 let e:=h.be.2
 let a:=sX λp b=>(h.de.1 p b).2
 let d:=h.de.2
 erw[fV,lQa,Qnq,lQm] at a|-
 omega
def om{h:Hd}(f:h.fit):(xh h).length<=57:=by
 let b:=iC (k:="thing") f.th.1
 let a:=f.pr.1
 erw[xh,lQa,Qnq,lQm]
 omega
def h9{α:Type}{f:α->List Str}{b:Nat}{l:List α}(h:∀x∈l,(f x).length<=b):((l.map f).flatten).length<=b*l.length:=by
 induction l with
 |nil=>simp
 | cons x l a=>
   let d:=a λy c=>h y (Qpq _ c)
   let e:=h x (QBq ..)
   erw[QDq,List.flatten_cons,lQa,Qnq,Nat.mul_succ]
   omega
def oq{k:Str}{c:List (Str×Nat)}(d:k.length<=9)(h:xg c):∀x∈kN k c,x.length<=4000:=λx e=>by
 let#[v,f,rfl]:=Qkq.mp e
 let g:=h.1 v f
 let i:=(d0 v.2 (!0)).1
 have:=lU (k:=k) (a:=v.1) (b:=eE v.2) d (!0) (!0)
 omega
def sV{a:List Rw}(h:xD a):∀x∈a.map Rw.tx,x.length<=4000:=λx e=>by
 let#[r,d,rfl]:=Qkq.mp e
 let#[_,c,m,s,f,b]:=h
 exact Rw.txl s f (b r d)
def vM{r:Rm}(h:r.tok):∀x∈fV r,x.length<=4000:=λx c=>by
 rcases mQa.mp c with c|c
 ·rcases mQa.mp c with c|c
  ·rcases Qsq.mp c with rfl|c
   ·have:=lU (k:="room") (a:=r.nm) (b:=mC r.mn) (!1) (by have:=h.nm;omega) (lI _ h.mn).2
    omega
   ·exact oq (!1) h.th x c
  ·let#[b,f,rfl]:=Qkq.mp c
   let#[g,d]:=h.be.1 b f
   have sl:∀x∈sorts,x.length<=8:=by decide +kernel
   have:=sl _ d
   have:=lU (k:="bell") (a:=b.1) (b:=b.2) (!1) (!0) (!0)
   omega
 ·let#[l,e,c]:=List.mem_flatten.mp c
  let#[p,i,rfl]:=Qkq.mp e
  let#[g,d]:=h.de.1 p i
  rcases Qsq.mp c with rfl|c
  ·have j:(" ":Str).length=1:=by decide
   have m:("deed":Str).length=4:=by decide
   rw[j2,j1,cG,cG]
   omega
  ·exact sV d x c
def um{w:Wr}(h:w.fit):∀x∈dR w,x.length<=4000:=λx a=>by
 rcases mQa.mp a with a|a
 ·rcases mQa.mp a with a|a
  ·rcases mQa.mp a with a|a
   ·exact oq (!1) h.ps.1 x a
   ·exact oq (!1) h.op.1 x a
  ·let#[l,c,a]:=List.mem_flatten.mp a
   let#[p,b,rfl]:=Qkq.mp c
   exact vM (h.rm.1 p b).t x a
 ·let#[l,c,a]:=List.mem_flatten.mp a
  let#[p,b,rfl]:=Qkq.mp c
  rcases mQa.mp a with a|a
  ·rcases Qsq.mp a with rfl|a
   ·exact QAq (show("hand":Str).length<=4 by decide) (!1)
   ·exact oq (!1) (h.hd.1 p b).th.1 x a
  ·exact sV (h.hd.1 p b).pr x a
def mj{w:Wr}(h:w.fit):(dR w).length<=1000:=by
 let c:=iC (k:="pass") h.ps.1
 let g:=iC (k:="open") h.op.1
 let d:=h9 (f:=fV) (b:=184) (l:=w.rm) λr a=>iy (h.rm.1 r a).t
 let e:=h9 (f:=xh) (b:=57) (l:=w.hd) λr a=>om (h.hd.1 r a)
 let j:=h.rm.2
 let i:=h.hd.2
 erw[dR,lQa]
 omega
section
variable{S:aB}{Q:Res->aB->Prop}
def l_{w:Wr}(h:w.fit):((dR w).map (·.length)).sum+(dR w).length*("\n":Str).length<=16777216:=by
 refine QAq (og (um h)) ?_
 have:("\n":Str).length=1:=by decide
 rw[this]
 exact QAq (Nat.mul_le_mul (mj h) (Qmq _)) (!1)
def sY{w:Wr}(h:w.fit)(q:Q (.d (.str (Txt.join "\n" (dR w)))) S):Fn eo [w.d] S Q:=by
 refine dN ?_
 unfold kg
 symm
 apply iI L (aD (bc (aD (bc (aD (bc (aD (bc (cy ?_)))))))))
 refine uT (k:="pass") (!1) (!1) h.ps.1 (ed (fO (di L (fe ⟨rfl,trivial,L⟩)))) ?_
 let U:=iC (k:="pass") h.ps.1
 let Y:=iC (k:="open") h.op.1
 let v:=aR (S:=S) (o:=.lst ((kN "pass" w.ps).map D.str))
 have A:∃G,S++ [.lst ((kN "pass" w.ps).map D.str)]=S++G:=⟨_,L⟩
 generalize S++ [.lst ((kN "pass" w.ps).map D.str)]=S1 at v A|-
 symm
 apply iW ?_
 refine⟨S.length,_,L,v,?_⟩
 refine eI (uT (k:="open") (!1) (!1) h.op.1 (ed (fO (di L (fe ⟨rfl,trivial,L⟩)))) ?_)
 refine⟨_,v,⟨rfl,sm (by erw[lQm];omega)⟩,?_⟩
 rw[<-Qzq]
 obtain⟨g,s⟩:∃g,g=kN "pass" w.ps++kN "open" w.op:=#[_,L]
 rw[<-s]
 have P:g.length<=100:=by rw[s,lQa];omega
 let z:=bF (o':=.lst (g.map D.str)) v
 let B:=cx (o:=.lst (g.map D.str)) A (Qmq S.length)
 generalize S1.set S.length (.lst (g.map D.str))=S2 at z B|-
 let F:=h.rm.2
 let K:=h.hd.2
 apply fY (eV ?_)
 refine#[λi a p=>∃(m:Option D),a= [some w.d,some (.tup (w.rm.map Rm.d)),some (.tup (w.ps.map gO)),some (.tup (w.op.map gO)),some (.tup (w.hd.map Hd.d)),some (.ref S.length),m,none,none]/\(∃G,p=S++G)/\p[S.length]?=some (.lst ((g++((w.rm.take i).map fV).flatten).map D.str)),#[_,L,B,by simpa using z],λ_ _ _ _=>trivial,?_,?_]
 ·rintro i d a p e ⟨m,rfl,p3,m3⟩
  rw[gQm] at e
  let#[r,c,rfl]:=oQm.mp e
  let j:=(h.rm.1 r (mQg c)).t
  let H:=h9 (f:=fV) (b:=184) (l:=w.rm.take i) λr c=>iy (h.rm.1 r (List.mem_of_mem_take c)).t
  have C:(w.rm.take i).length<=4:=by rw[Qxq];omega
  let J:=iy j
  apply bc ?_
  apply iW ?_
  apply⟨S.length,_,L,m3,?_⟩
  refine xV j ?_
  refine⟨_,m3,⟨rfl,Cd (by erw[lQa,lQm];omega)⟩,_,L,cx p3 (Qmq _),?_⟩
  rw[bF m3,QYq,c]
  simp
 rintro a X ⟨m,rfl,p3,m3⟩
 erw[lQm,QEq] at m3
 obtain⟨u,n⟩:∃u,u=g++(w.rm.map fV).flatten:=#[_,L]
 rw[<-n] at m3
 let H:=h9 (f:=fV) (b:=184) (l:=w.rm) λr c=>iy (h.rm.1 r c).t
 have C:u.length<=1200:=by rw[n,lQa];omega
 apply fY (eV ?_)
 refine#[λi a p=>∃(m x y:Option D),a= [some w.d,some (.tup (w.rm.map Rm.d)),some (.tup (w.ps.map gO)),some (.tup (w.op.map gO)),some (.tup (w.hd.map Hd.d)),some (.ref S.length),m,x,y]/\(∃G,p=S++G)/\p[S.length]?=some (.lst ((u++((w.hd.take i).map xh).flatten).map D.str)),#[_,_,_,L,p3,by simpa using m3],λ_ _ _ _=>trivial,?_,?_]
 ·rintro i d a p e ⟨m,x,y,rfl,p4,m4⟩
  rw[gQm] at e
  let#[r,c,rfl]:=oQm.mp e
  let j:=h.hd.1 r (mQg c)
  let J:=h9 (f:=xh) (b:=57) (l:=w.hd.take i) λr c=>om (h.hd.1 r (List.mem_of_mem_take c))
  have W:(w.hd.take i).length<=4:=by rw[Qxq];omega
  let M:=om j
  let R:=j.th.1.2
  let I:=j.pr.1
  apply iI L (aD (bc (aD (bc (cy ?_)))))
  apply iW ?_
  refine#[S.length,_,L,m4,?_]
  refine eI (cE ?_)
  apply eI (cE ?_)
  apply#[show 1<=sizeLine by decide,?_]
  refine nZ j.th.1 ?_
  refine#[#[L,L,trivial,sm (by erw[Qnq,QGq,lQm,kN];omega)],?_]
  symm
  refine nQ j.pr ?_
  refine#[#[L,L,trivial,sm (by erw[lQa,Qnq,QGq,lQm,kN];omega)],?_]
  refine#[_,m4,#[L,Cd (by erw[lQa,Qnq,QGq,lQm,kN];omega)],_,_,_,L,cx p4 (Qmq _),?_]
  rw[bF m4,QYq,c]
  simp[xh]
 rintro a N ⟨m,x,y,rfl,p4,m4⟩
 erw[lQm,QEq] at m4
 rw[show u++(w.hd.map xh).flatten=dR w by rw[n,s];rfl] at m4
 symm
 apply kd ?_
 apply#[_,L,?_]
 refine bb m4 ?_
 exact#[L,dR w,L,l_ h,yn p4 L q]
end
abbrev It:=D×Str
def vT(k:Str)(v:Str×Nat):It:=(.tup [.str k,gO v],ln2 k v.1 (eE v.2))
def zQ(r:Rm):It:=(.tup [.str "room",.tup [.str r.nm,.str r.mn]],ln2 "room" r.nm (mC r.mn))
def Dc(b:Str×Str):It:=(.tup [.str "bell",mH b],ln2 "bell" b.1 b.2)
def Ar(p:Str×List Rw):It:=(.tup [.str "deed",.tup [.str p.1]],Txt.join " " ["deed",p.1])
def AI(r:Rw):It:=(.tup [.str "row",r.d],r.tx)
def AK:It:=(.tup [.str "hand",.tup []],"hand")
def mQ(p:Str×List Rw):List It:=Ar p::p.2.map AI
def j_(r:Rm):List It:=([zQ r]++(r.th.map (vT "thing")++r.be.map Dc))++(r.de.map mQ).flatten
def k8(h:Hd):List It:= [AK]++(h.th.map (vT "thing")++h.pr.map AI)
def qF(w:Wr):List It:=((w.ps.map (vT "pass")++w.op.map (vT "open"))++(w.rm.map j_).flatten)++(w.hd.map k8).flatten
theorem jI{α:Type}{f:α->List It}{g:α->List Str}:∀{l:List α},(∀x,(f x).map (·.2)=g x)->((l.map f).flatten).map (·.2)=(l.map g).flatten
 | [],_=>rfl
 |x::l,h=>by erw[QDq,List.flatten_cons,Qzq];rw[h,jI h]
def tZ(w:Wr):(qF w).map (·.2)=dR w:=by
 have a:∀p,(mQ p).map (·.2)=yZ p:=λp=>by erw[mQ,yZ,QDq,QPq];rfl
 have c:∀r,(j_ r).map (·.2)=fV r:=λr=>by
  erw[j_,fV,Qzq,jI a,QPq,QDq,List.map_nil,kN]
  erw[List.cons_append,List.nil_append,Qvq]
  rfl
 have b:∀r,(k8 r).map (·.2)=xh r:=λr=>by
  erw[k8,xh,Qzq,QPq,QDq,List.map_nil,kN]
  erw[List.cons_append,List.nil_append,Qvq]
  rfl
 erw[qF,dR,Qzq,jI c,jI b,QPq,kN]
 rfl
def mM(x:It):Prop:=∀(S:aB) (Q:Res->aB->Prop),Q (.d (.str x.2)) S->Fn dn [x.1] S Q
section
variable{S:aB}{Q:Res->aB->Prop}
def Be:List (Key×D):=c0 [] ((([("at once":Str),"when free"]).map (Sum.inr:Str->Key)).zip [D.str "at-once",D.str "when-free"])
def C4(d:D)(y:Str):Prop:=∃z a,qW d=some z/\rV d=some a/\(gP Be a).getD (.str z)=.str y
def lE{x:Str}(h:x.length<=100)(n:NN x):C4 (.str x) x:=by
 refine#[x,.inr x,rF h,L,?_]
 have:gP Be (.inr x)=none:=by
  have b:¬((Sum.inr "at once":Key)=.inr x):=λe=>n.1 (Sum.inr.inj e).symm
  have c:¬((Sum.inr "when free":Key)=.inr x):=λe=>n.2 (Sum.inr.inj e).symm
  show(List.find? (λ(a:Key×D)=>decide (a.1=(Sum.inr x:Key))) ([((Sum.inr ("at once":Str):Key),D.str "at-once"),((Sum.inr ("when free":Str):Key),D.str "when-free")]:List (Key×D))).map (·.2)=none
  simp[b,c]
 rw[this]
 rfl
def A1{v:Nat}(h:v<60):C4 (.int v) (eE v):=by
 refine#[eE v,.inl v,CP h,L,?_]
 rfl
def BC:∀m∈oA,C4 (.str m) (mC m):=by
 intro m a
 have a:m="at once" \/m="when free":=by simpa [oA] using a
 rcases a with rfl|rfl
 ·exact#["at once",.inr "at once",by decide,L,L]
 ·exact#["when free",.inr "when free",by decide,L,L]
def jn{k:Str}{ps:List It}(t:k≠"row")(l:k.length<=9)(v:ps.length<=9)(h:∀p∈ps,C4 p.1 p.2/\p.2.length<=9):mM (.tup [.str k,.tup (ps.map (·.1))],Txt.join " " (k::ps.map (·.2))):=λS Q q=>by
 refine dN ?_
 unfold eF
 symm
 apply iI L (aD (bc (aD (bc (cy ?_)))))
 apply cZ ?_
 apply aN (λc=>absurd (QZq c) t) (λ_=>?_)
 apply yk ?_
 let i:=aR (S:=S) (o:=.dct Be)
 have m:∃G,S++ [.dct Be]=S++G:=#[_,L]
 rw[show c0 [] ((([("at once":Str),"when free"]).map (Sum.inr:Str->Key)).zip [D.str "at-once",D.str "when-free"])=Be from L]
 generalize S++ [.dct Be]=S1 at i m|-
 apply kd ?_
 refine#[_,L,?_]
 apply eI (cE ?_)
 apply#[show 1<=sizeLine by decide,?_]
 apply bU (α:=It) (λe=>∃a,e= [a,some (.ref S.length)]) (·.1) (λp=>.str p.2) (λ_=>true) #[none,L] (ed ?_)
 refine#[ps,L,trivial,by omega,λp g e f=>?_,?_]
 ·let#[a,rfl]:=f
  refine bc #[L,#[_,L],du #[L,L,λ_=>?_]]
  let#[#[z,u,n,s,r],w]:=h p g
  apply Cu ?_
  apply#[S.length,_,L,i,?_]
  refine cp (d:=.str z) (by erw[jc,n];rfl) ?_
  exact#[_,u,i,s,r,L]
 rw[i3]
 refine#[#[L,L,trivial,sm (by erw[Qnq,QGq,lQm];omega)],?_]
 refine#[L,k::ps.map (·.2),by simp[QPq],?_,yn m L q]
 refine QAq (og (b:=9) λx j=>?_) ?_
 ·rcases Qsq.mp j with rfl|j
  ·exact l
  ·let#[p,g,rfl]:=Qkq.mp j
   exact(h p g).2
 ·have:(" ":Str).length=1:=by decide
  rw[this]
  exact QAq (Nat.mul_le_mul (show(k::ps.map (·.2)).length<=10 by erw[Qnq,lQm];omega) (Qmq _)) (!1)
def zZ{k:Str}{v:Str×Nat}(c:k≠"row")(a:k.length<=9)(h:v.1.length<=8/\v.2<10)(n:NN v.1):mM (vT k v):=
 jn (k:=k) (ps:= [(.str v.1,v.1),(.int v.2,eE v.2)]) c a (by simp) λp b=>by
  erw[Qsq,QXq,or_false] at b
  rcases b with rfl|rfl
  ·exact#[lE (by have:=h.1;omega) n,by have:=h.1;show v.1.length<=9;omega]
  ·have:=(d0 v.2 (!0)).1
   exact#[A1 (!0),by show(eE v.2).length<=9;omega]
def A2{r:Rm}(f:r.fit):mM (zQ r):=
 jn (k:="room") (ps:= [(.str r.nm,r.nm),(.str r.mn,mC r.mn)]) (!1) (!1) (by simp) λp a=>by
  let h:=f.t.nm
  erw[Qsq,QXq,or_false] at a
  rcases a with rfl|rfl
  ·exact#[lE (!0) f.n,by show r.nm.length<=9;omega]
  ·exact#[BC _ f.t.mn,(lI _ f.t.mn).2]
def Af{b:Str×Str}(h:b.1.length<=8/\b.2∈sorts)(n:NN b.1):mM (Dc b):=
 jn (k:="bell") (ps:= [(.str b.1,b.1),(.str b.2,b.2)]) (!1) (!1) (by simp) λp a=>by
  have sl:∀x∈sorts,x.length<=8/\x≠"at once" /\x≠"when free":=by decide +kernel
  let c:=sl _ h.2
  let d:=h.1
  erw[Qsq,QXq,or_false] at a
  rcases a with rfl|rfl
  ·exact#[lE (!0) n,by show b.1.length<=9;omega]
  ·exact#[lE (!0) c.2,by show b.2.length<=9;omega]
def zG{p:Str×List Rw}(h:p.1.length<=8)(n:NN p.1):mM (Ar p):=
 jn (k:="deed") (ps:= [(.str p.1,p.1)]) (!1) (!1) (by simp) λq a=>by
  erw[Qsq,QXq,or_false] at a
  subst a
  exact#[lE (by show p.1.length<=100;omega) n,by show p.1.length<=9;omega]
def A5:mM AK:=by
 have:=jn (k:="hand") (ps:= []) (!1) (!1) (by simp) λq a=>by cases a
 rw[List.map_nil,List.map_nil,j1] at this
 exact this
def zB{r:Rw}{c:Sc}{m:Nat}(s:c.short)(a:m<=40)(h:r.ok c m):mM (AI r):=λS Q q=>by
 refine dN ?_
 unfold eF
 symm
 apply iI L (aD (bc (aD (bc (cy ?_)))))
 apply cZ ?_
 apply aN (λc=>?_) (λc=>(by simp at c))
 refine xv s a h ?_
 exact lG L q
def tT{a:List Rw}(h:xD a):∀x∈a.map AI,mM x:=λx e=>by
 let#[r,d,rfl]:=Qkq.mp e
 let#[_,c,m,s,f,b]:=h
 exact zB s f (b r d)
def pk{k:Str}{b:List (Str×Nat)}(d:k≠"row")(a:k.length<=9)(h:xg b)(n:∀v∈b,NN v.1):∀x∈b.map (vT k),mM x:=λx e=>by
 let#[v,c,rfl]:=Qkq.mp e
 exact zZ d a (h.1 v c) (n v c)
def xS{w:Wr}(h:w.fit):∀x∈qF w,mM x:=λx a=>by
 rcases mQa.mp a with a|a
 ·rcases mQa.mp a with a|a
  ·rcases mQa.mp a with a|a
   ·exact pk (!1) (!1) h.ps.1 h.ps.2 x a
   ·exact pk (!1) (!1) h.op.1 h.op.2 x a
  ·let#[l,c,a]:=List.mem_flatten.mp a
   let#[r,g,rfl]:=Qkq.mp c
   let f:=h.rm.1 r g
   rcases mQa.mp a with a|a
   ·rcases mQa.mp a with a|a
    ·rw[Qfq] at a
     subst a
     exact A2 f
    ·rcases mQa.mp a with a|a
     ·exact pk (!1) (!1) f.t.th f.th x a
     ·let#[b,e,rfl]:=Qkq.mp a
      exact Af (f.t.be.1 b e) (f.be b e)
   ·let#[l,c,a]:=List.mem_flatten.mp a
    let#[p,d,rfl]:=Qkq.mp c
    rcases Qsq.mp a with rfl|a
    ·exact zG (f.t.de.1 p d).1 (f.de p d)
    ·exact tT (f.t.de.1 p d).2 x a
 ·let#[l,c,a]:=List.mem_flatten.mp a
  let#[p,d,rfl]:=Qkq.mp c
  let f:=h.hd.1 p d
  rcases mQa.mp a with a|a
  ·rw[Qfq] at a
   subst a
   exact A5
  ·rcases mQa.mp a with a|a
   ·exact pk (!1) (!1) f.th.1 f.th.2 x a
   ·exact tT f.pr x a
end
def lu{k:Str}{b:List (Str×Nat)}:∀x∈b.map (vT k),bx 0 x.1=true:=λx a=>by
 let#[v,_,rfl]:=Qkq.mp a
 rfl
def sU{a:List Rw}:∀x∈a.map AI,bx 0 x.1=true:=λx b=>by
 let#[v,_,rfl]:=Qkq.mp b
 erw[AI,bx,a6,v.low,Bool.and_true]
def vY(w:Wr):∀x∈qF w,bx 0 x.1=true:=λx a=>by
 rcases mQa.mp a with a|a
 ·rcases mQa.mp a with a|a
  ·rcases mQa.mp a with a|a
   ·exact lu x a
   ·exact lu x a
  ·let#[l,c,a]:=List.mem_flatten.mp a
   let#[r,f,rfl]:=Qkq.mp c
   rcases mQa.mp a with a|a
   ·rcases mQa.mp a with a|a
    ·rw[Qfq] at a
     subst a
     rfl
    ·rcases mQa.mp a with a|a
     ·exact lu x a
     ·let#[b,e,rfl]:=Qkq.mp a
      rfl
   ·let#[l,c,a]:=List.mem_flatten.mp a
    let#[p,d,rfl]:=Qkq.mp c
    rcases Qsq.mp a with rfl|a
    ·rfl
    ·exact sU x a
 ·let#[l,c,a]:=List.mem_flatten.mp a
  let#[p,d,rfl]:=Qkq.mp c
  rcases mQa.mp a with a|a
  ·rw[Qfq] at a
   subst a
   rfl
  ·rcases mQa.mp a with a|a
   ·exact lu x a
   ·exact sU x a
section
variable{S:aB}{Q:Res->aB->Prop}
def lW{α:Type}{e:bV}{i:q8}{k:Str}{f:α->D}{xs:List α}{R:List D->aB->Prop}(l:xs.length<=1000)(hi:E i e S λp d=>p.1=xs.map f/\p.2 d/\d=S)(q:R (xs.map λx=>.tup [.str k,f x]) S):E (bu [none] i (cf 0) bP (a9 (au (cF (.str k)) (au (aw 0) ax)))) e S R:=by
 refine bU (α:=α) (λb=>∃a,b= [a]) f (λx=>.tup [.str k,f x]) (λ_=>true) #[none,L] (hi.mono λp d m=>?_)
 let#[g,j,h]:=m
 subst h
 refine#[xs,g,j,l,λx n b c=>?_,?_]
 ·let#[a,rfl]:=c
  apply bc ⟨rfl,⟨_,L⟩,du ⟨rfl,L,λ_=>?_⟩⟩
  exact⟨show 2<=sizeLine by decide,L,L⟩
 rw[i3]
 exact q
def uJ(l m:List It):l.map (·.1)++m.map (·.1)=(l++m).map (·.1):=by rw[Qzq]
def xW(k:Str)(a:List (Str×Nat)):(a.map λx=>D.tup [.str k,gO x])=(a.map (vT k)).map (·.1):=by rw[QPq];rfl
def DK(a:List (Str×Str)):(a.map λx=>D.tup [.str "bell",mH x])=(a.map Dc).map (·.1):=by rw[QPq];rfl
def CI(a:List Rw):(a.map λx=>D.tup [.str "row",Rw.d x])=(a.map AI).map (·.1):=by rw[QPq];rfl
def qG{l:List (Str×List Rw)}(h:∀p∈l,xD p.2):((l.map mQ).flatten).length<=41*l.length:=by
 induction l with
 |nil=>simp
 | cons p l a=>
   let c:=a λq b=>h q (Qpq _ b)
   let d:=(h p (QBq ..)).1
   erw[QDq,List.flatten_cons,lQa,Qnq,mQ,lQm] at c|-
   omega
def qb{r:Rm}(h:r.tok):(j_ r).length<=184:=by
 let c:=h.th.2
 let e:=h.be.2
 let a:=qG λp b=>(h.de.1 p b).2
 let d:=h.de.2
 erw[j_,lQa,Qnq,QGq,lQm] at a|-
 omega
def vS{h:Hd}(f:h.fit):(k8 h).length<=57:=by
 let b:=f.th.1.2
 let a:=f.pr.1
 erw[k8,lQa,Qnq,QGq,lQm]
 omega
def kf{α:Type}{f:α->List It}{b:Nat}{l:List α}(h:∀x∈l,(f x).length<=b):((l.map f).flatten).length<=b*l.length:=by
 induction l with
 |nil=>simp
 | cons x l a=>
   let d:=a λy c=>h y (Qpq _ c)
   let e:=h x (QBq ..)
   erw[QDq,List.flatten_cons,lQa,Qnq,Nat.mul_succ]
   omega
def wB{w:Wr}(h:w.fit)(q:Q (.l ((qF w).map (·.1))) S):Fn fo [w.d] S Q:=by
 let n1:=h.ps.1.2
 let n2:=h.op.1.2
 let X:=h.rm.2
 let a2:=h.hd.2
 refine dN ?_
 unfold kz
 symm
 apply iI L (aD (bc (aD (bc (aD (bc (aD (bc (cy ?_)))))))))
 refine cE ?_
 refine eI (lW (xs:=w.ps) (f:=gO) (!0) (ed (fO (di L (fe ⟨rfl,trivial,L⟩)))) ?_)
 refine eI (lW (xs:=w.op) (f:=gO) (!0) (ed (fO (di L (fe ⟨rfl,trivial,L⟩)))) ?_)
 refine⟨⟨rfl,L,trivial,sm (by erw[lQm];omega)⟩,?_⟩
 dsimp only
 rw[xW,xW,uJ]
 obtain⟨v,C⟩:∃v,v=w.ps.map (vT "pass")++w.op.map (vT "open"):=#[_,L]
 rw[<-C]
 have l1:v.length<=32:=by rw[C];erw[lQa,lQm];omega
 let P:=aR (S:=S) (o:=.lst (v.map (·.1)))
 have U:∃G,S++ [.lst (v.map (·.1))]=S++G:=#[_,L]
 generalize S++ [.lst (v.map (·.1))]=S1 at P U|-
 apply fY (eV ?_)
 refine#[λi c m=>∃(a:Nat->Option D),c= [some w.d,some (.tup (w.rm.map Rm.d)),some (.tup (w.ps.map gO)),some (.tup (w.op.map gO)),some (.tup (w.hd.map Hd.d)),some (.ref S.length),a 6,a 7,a 8,a 9,a 10,a 11,a 12]/\(∃G,m=S++G)/\m[S.length]?=some (.lst ((v++((w.rm.take i).map j_).flatten).map (·.1))),#[λ_=>none,L,U,by simpa using P],λ_ _ _ _=>trivial,?_,?_]
 ·rintro i d c m g ⟨a,rfl,p3,m3⟩
  rw[gQm] at g
  let#[r,u,rfl]:=oQm.mp g
  let A:=(h.rm.1 r (mQg u)).t
  let Y:=kf (f:=j_) (b:=184) (l:=w.rm.take i) λr u=>qb (h.rm.1 r (List.mem_of_mem_take u)).t
  have W:(w.rm.take i).length<=4:=by rw[Qxq];omega
  let n6:=A.th.2
  let n7:=A.be.2
  let n8:=A.de.2
  apply iI L (aD (bc (aD (bc (aD (bc (aD (bc (aD (bc (cy ?_)))))))))))
  apply i4 ?_
  apply⟨S.length,_,L,m3,?_⟩
  apply⟨show 2<=sizeLine by decide,?_⟩
  apply⟨show 2<=sizeLine by decide,?_⟩
  refine⟨_,m3,eY (Nat.lt_of_le_of_lt (show _<=999 by erw[lQa,lQm];omega) (!1)) ?_⟩
  rw[show(v++((w.rm.take i).map j_).flatten).map (·.1)++ [D.tup [.str "room",.tup [.str r.nm,.str r.mn]]]=((v++((w.rm.take i).map j_).flatten)++ [zQ r]).map (·.1) by simp[zQ,Ar,AK]]
  obtain⟨B,F⟩:∃B,B=(v++((w.rm.take i).map j_).flatten)++ [zQ r]:=⟨_,L⟩
  rw[<-F]
  have l2:B.length<=33+184*4:=by rw[F];erw[lQa,Qnq,QGq];omega
  let s:=bF (o':=.lst (B.map (·.1))) m3
  let H:=cx (o:=.lst (B.map (·.1))) p3 (Qmq S.length)
  generalize m.set S.length (.lst (B.map (·.1)))=S2 at s H|-
  symm
  apply iW ?_
  refine⟨S.length,_,L,s,?_⟩
  refine eI (cE ?_)
  refine eI (lW (xs:=r.th) (f:=gO) (!0) (ed (fO (di L (fe ⟨rfl,trivial,L⟩)))) ?_)
  refine eI (lW (xs:=r.be) (f:=mH) (!0) (ed (fO (di L (fe ⟨rfl,trivial,L⟩)))) ?_)
  refine⟨⟨rfl,L,trivial,sm (by erw[lQm];omega)⟩,?_⟩
  refine⟨_,s,⟨rfl,Cd (by erw[lQa,lQm];omega)⟩,?_⟩
  dsimp only
  rw[xW,DK,uJ,uJ]
  obtain⟨e,k⟩:∃e,e=B++(r.th.map (vT "thing")++r.be.map Dc):=#[_,L]
  rw[<-k]
  have l3:e.length<=53+184*4:=by rw[k];erw[lQa,lQm];omega
  let R:=bF (o':=.lst (e.map (·.1))) s
  let N:=cx (o:=.lst (e.map (·.1))) H (Qmq S.length)
  generalize S2.set S.length (.lst (e.map (·.1)))=S3 at R N|-
  apply eV ?_
  refine#[λt c m=>∃(a:Nat->Option D),c= [some w.d,some (.tup (w.rm.map Rm.d)),some (.tup (w.ps.map gO)),some (.tup (w.op.map gO)),some (.tup (w.hd.map Hd.d)),some (.ref S.length),a 6,a 7,a 8,a 9,a 10,a 11,a 12]/\(∃G,m=S++G)/\m[S.length]?=some (.lst ((e++((r.de.take t).map mQ).flatten).map (·.1))),#[λz=>([none,none,none,none,none,none,some (.str r.nm),some (.str r.mn),some (.tup (r.th.map gO)),some (.tup (r.be.map mH)),some (.tup (r.de.map yM)),a 11,a 12]:List (Option D)).getD z none,L,N,by simpa using R],λ_ _ _ _=>trivial,?_,?_]
  ·rintro t d c m g ⟨a,rfl,p6,m6⟩
   rw[gQm] at g
   let#[p,J,rfl]:=oQm.mp g
   let#[g2,g3]:=A.de.1 p (mQg J)
   let Z:=qG (l:=r.de.take t) λp J=>(A.de.1 p (List.mem_of_mem_take J)).2
   have M:(r.de.take t).length<=4:=by rw[Qxq];omega
   let a1:=g3.1
   apply iI L (aD (bc (aD (bc (cy ?_)))))
   apply i4 ?_
   apply⟨S.length,_,L,m6,?_⟩
   apply⟨show 1<=sizeLine by decide,?_⟩
   apply⟨show 2<=sizeLine by decide,?_⟩
   refine⟨_,m6,eY (Nat.lt_of_le_of_lt (show _<=999 by erw[lQa,lQm];omega) (!1)) ?_⟩
   rw[show(e++((r.de.take t).map mQ).flatten).map (·.1)++ [D.tup [.str "deed",.tup [.str p.1]]]=((e++((r.de.take t).map mQ).flatten)++ [Ar p]).map (·.1) by simp[zQ,Ar,AK]]
   obtain⟨n,j⟩:∃n,n=(e++((r.de.take t).map mQ).flatten)++ [Ar p]:=⟨_,L⟩
   rw[<-j]
   have l4:n.length<=1000:=by rw[j];erw[lQa,Qnq,QGq];omega
   let y:=bF (o':=.lst (n.map (·.1))) m6
   let I:=cx (o:=.lst (n.map (·.1))) p6 (Qmq S.length)
   generalize m.set S.length (.lst (n.map (·.1)))=K at y I|-
   symm
   apply iW ?_
   refine⟨S.length,_,L,y,?_⟩
   refine eI (lW (xs:=p.2) (f:=Rw.d) (!0) (ed (fO (di L (fe ⟨rfl,trivial,L⟩)))) ?_)
   refine⟨_,y,⟨rfl,Cd (by erw[lQm];omega)⟩,?_⟩
   dsimp only
   rw[CI,uJ]
   refine⟨λz=>([none,none,none,none,none,none,a 6,a 7,a 8,a 9,a 10,some (.str p.1),some (.tup (p.2.map Rw.d))]:List (Option D)).getD z none,L,cx I (Qmq _),?_⟩
   rw[bF y,QYq,J,j]
   simp[mQ]
  rintro c K ⟨a,rfl,p6,m6⟩
  erw[lQm,QEq] at m6
  refine⟨a,L,p6,?_⟩
  rw[m6,QYq,u,k,F]
  simp[j_]
 rintro c S3 ⟨a,rfl,p3,m3⟩
 erw[lQm,QEq] at m3
 obtain⟨e,k⟩:∃e,e=v++(w.rm.map j_).flatten:=#[_,L]
 rw[<-k] at m3
 let Y:=kf (f:=j_) (b:=184) (l:=w.rm) λr u=>qb (h.rm.1 r u).t
 have W:e.length<=768:=by rw[k,lQa];omega
 apply fY (eV ?_)
 refine#[λi c m=>∃(a:Nat->Option D),c= [some w.d,some (.tup (w.rm.map Rm.d)),some (.tup (w.ps.map gO)),some (.tup (w.op.map gO)),some (.tup (w.hd.map Hd.d)),some (.ref S.length),a 6,a 7,a 8,a 9,a 10,a 11,a 12]/\(∃G,m=S++G)/\m[S.length]?=some (.lst ((e++((w.hd.take i).map k8).flatten).map (·.1))),#[a,L,p3,by simpa using m3],λ_ _ _ _=>trivial,?_,?_]
 ·rintro i d c m g ⟨a,rfl,H,s⟩
  rw[gQm] at g
  let#[r,u,rfl]:=oQm.mp g
  let A:=h.hd.1 r (mQg u)
  let n6:=kf (f:=k8) (b:=57) (l:=w.hd.take i) λr u=>vS (h.hd.1 r (List.mem_of_mem_take u))
  have n7:(w.hd.take i).length<=4:=by rw[Qxq];omega
  let Z:=A.th.1.2
  let M:=A.pr.1
  apply iI L (aD (bc (aD (bc (cy ?_)))))
  apply i4 ?_
  apply⟨S.length,_,L,s,?_⟩
  apply⟨show 0<=sizeLine by decide,?_⟩
  apply⟨show 2<=sizeLine by decide,?_⟩
  refine⟨_,s,eY (Nat.lt_of_le_of_lt (show _<=999 by erw[lQa,lQm];omega) (!1)) ?_⟩
  rw[show(e++((w.hd.take i).map k8).flatten).map (·.1)++ [D.tup [.str "hand",.tup []]]=((e++((w.hd.take i).map k8).flatten)++ [AK]).map (·.1) by simp[zQ,Ar,AK]]
  obtain⟨n,j⟩:∃n,n=(e++((w.hd.take i).map k8).flatten)++ [AK]:=#[_,L]
  rw[<-j]
  have l4:n.length<=1000:=by rw[j];erw[lQa,Qnq,QGq];omega
  let y:=bF (o':=.lst (n.map (·.1))) s
  let I:=cx (o:=.lst (n.map (·.1))) H (Qmq S.length)
  generalize m.set S.length (.lst (n.map (·.1)))=K at y I|-
  symm
  apply iW ?_
  refine#[S.length,_,L,y,?_]
  refine eI (cE ?_)
  refine eI (lW (xs:=r.th) (f:=gO) (!0) (ed (fO (di L (fe #[L,trivial,L])))) ?_)
  refine eI (lW (xs:=r.pr) (f:=Rw.d) (!0) (ed (fO (di L (fe #[L,trivial,L])))) ?_)
  refine#[#[L,L,trivial,sm (by erw[lQm];omega)],?_]
  refine#[_,y,#[L,Cd (by erw[lQa,lQm];omega)],?_]
  dsimp only
  rw[xW,CI,uJ,uJ]
  refine#[λz=>([none,none,none,none,none,none,a 6,a 7,some (.tup (r.th.map gO)),a 9,a 10,a 11,some (.tup (r.pr.map Rw.d))]:List (Option D)).getD z none,L,cx I (Qmq _),?_]
  rw[bF y,QYq,u,j]
  simp[k8]
 rintro c K ⟨a,rfl,H,s⟩
 erw[lQm,QEq] at s
 rw[show e++(w.hd.map k8).flatten=qF w by rw[k,C];rfl] at s
 symm
 refine As H (Qmq _) s (λd hd=>?_) q
 let#[x,hx,rfl]:=Qkq.mp hd
 exact vY w x hx
def vm{w:Wr}(h:w.fit)(q:Q (.d (.str (Txt.join "\n" (dR w)))) S):Fn gm [w.d] S Q:=by
 have f:(qF w).length<=1000:=by
  let e:=congrArg List.length (tZ w)
  rw[lQm] at e
  rw[e]
  exact mj h
 refine dN ?_
 unfold me
 symm
 apply kd ?_
 refine#[_,L,?_]
 refine eI ?_
 apply bU (α:=It) (λb=>∃a,b= [a]) (·.1) (λp=>.str p.2) (λ_=>true) #[none,L] (ed ?_)
 refine wB h ?_
 refine#[qF w,L,trivial,f,λp g b c=>?_,?_]
 ·let#[a,rfl]:=c
  apply bc #[L,#[_,L],du #[L,L,λ_=>?_]]
  exact xS h p g S _ #[L,L]
 rw[i3]
 refine#[L,dR w,?_,l_ h,lG L q]
 rw[<-tZ,QPq]
 rfl
end
def G(m e:Nat)(d:D):Prop:=∃p,fU d=some p/\p.leavesShort 8=true/\p.showable=true/\p.weight<=m/\p.depth<=e
def Gs(m e:Nat)(b:List D):Prop:=∃a,fT b=some a/\PyData.leavesShortAll 8 a=true/\PyData.showableAll a=true/\PyData.weightAll a<=m/\PyData.depthAll a<=e
def Gs.nil{m e:Nat}:Gs m e []:=#[[],L,L,L,Nat.zero_le _,Nat.zero_le _]
def Gs.cons{m e b k:Nat}{d:D}{a:List D}(h:G m e d)(l:Gs b e a)(s:m+1+b<=k):Gs k e (d::a):=by
 let#[p,g,c,f,r,q]:=h
 let#[j,n,i,o,t,u]:=l
 refine#[p::j,by erw[fT,g,n];rfl,by simp[PyData.leavesShortAll,c,i],by simp[PyData.showableAll,f,o],by erw[PyData.weightAll];omega,by erw[PyData.depthAll];omega]
def Gs.tup{m e:Nat}{a:List D}(h:Gs m e a):G m (e+1) (.tup a):=by
 let#[c,d,b,f,g,i]:=h
 exact#[.tuple c,by erw[fU,d];rfl,by simpa only[PyData.leavesShort] using b,by simpa only[PyData.showable] using f,by simpa only[PyData.weight] using g,by erw[PyData.depth];omega]
def G.mono{m e b a:Nat}{d:D}(h:G m e d)(j:m<=b)(he:e<=a):G b a d:=by
 let#[p,f,g,c,k,i]:=h
 exact#[p,f,g,c,by omega,by omega]
theorem Gs.each{m e:Nat}:∀{a:List D},(∀d∈a,G m e d)->Gs ((m+1)*a.length) e a
 | [],_=>Gs.nil
 |d::a,h=>Gs.cons (h d (QBq ..)) (Gs.each λx b=>h x (Qpq _ b)) (by rw[Qnq,Nat.mul_succ];omega)
def Gs.of{m e n k:Nat}{a:List D}(h:∀d∈a,G m e d)(f:a.length<=n)(b:(m+1)*n<=k):Gs k e a:=by
 let#[g,i,c,j,l,o]:=Gs.each h
 exact#[g,i,c,j,QAq l (QAq (Nat.mul_le_mul (Qmq _) f) b),o]
def Nm(x:Str):Prop:=x.length<=8/\PyData.strOk x=true
def fi{x:Str}{m e:Nat}(h:x.length<=m)(o:PyData.strOk x=true):G m e (.str x):=by
 refine#[.str x,by erw[fU];rw[Qhq o],?_,by erw[PyData.showable],by erw[PyData.weight];exact h,by erw[PyData.depth];omega]
 erw[PyData.leavesShort]
 rw[QUq]
 intro c b
 let a:=o
 erw[PyData.strOk,Array.all_eq_true] at a
 let#[i,d,rfl]:=List.mem_iff_getElem.mp b
 have:=a i (by simpa using d)
 erw[decide_eq_true_eq] at this|-
 erw[Array.getElem_toList]
 exact Nat.lt_trans this (!1)
def Cs:∀v,v<60->((PyData.int (v:Nat)).shown.length<=8)/\(((v:Nat):Int).natAbs.log2<1920)/\(PyData.int (v:Nat)).weight<=8:=by decide +kernel
def tN{v m e:Nat}(h:v<60)(d:8<=m):G m e (.int v):=by
 let#[a,b,c]:=Cs v h
 exact#[.int v,L,by erw[PyData.leavesShort];exact Qeq a,by erw[PyData.showable];exact Qeq b,by omega,by erw[PyData.depth];omega]
def CB{m e:Nat}:G m e .non:=#[.none,L,by decide,L,by simp[PyData.weight],by simp[PyData.depth]]
def wN:Nat->Nat
 |0=>8
 |n+1=>wN n+wN n+10
theorem sE:∀n,8<=wN n
 |0=>by decide
 |n+1=>by have:=sE n;erw[wN];omega
def fw{x:Str}{m e:Nat}(h:Nm x)(a:8<=m):G m e (.str x):=fi (QAq h.1 a) h.2
def AM:∀x∈two,x.length<=5/\PyData.strOk x=true:=by decide +kernel
theorem Tr.g{ws bs:X6}(e:∀w∈ws,Nm w)(c:∀w∈bs,Nm w):∀{n:Nat} {t:Tr},t.ok ws bs n->G (wN n) n t.d
 |n,.wd w,h=>fw (e _ (by cases n <;>exact h)) (sE n)
 | n,.vl v,h=>by
   have h:v<10:=by cases n <;>exact h
   exact tN (!0) (sE n)
 | n+1,.wt b,h=>by
   refine(Gs.cons (m:=5) (fi (!1) (by decide +kernel)) (Gs.cons (m:=8) (fw (c _ h) (!1)) (Gs.nil (m:=0)) (Qmq _)) ?_).tup
   have:=sE n
   erw[wN]
   omega
 | n+1,.nt t,h=>by
   let i:=Tr.g e c (n:=n) (t:=t) h
   refine(Gs.cons (m:=3) (fi (!1) (by decide +kernel)) (Gs.cons i (Gs.nil (m:=0)) (Qmq _)) ?_).tup
   erw[wN]
   omega
 | n+1,.tw f a b,h=>by
   let i:=Tr.g e c (n:=n) (t:=a) h.2.1
   let l:=Tr.g e c (n:=n) (t:=b) h.2.2
   let#[k,j]:=AM f h.1
   refine(Gs.cons (m:=5) (fi k j) (Gs.cons i (Gs.cons l (Gs.nil (m:=0)) (Qmq _)) (Qmq _)) ?_).tup
   erw[wN]
   omega
 |0,.wt _,h=>h.elim
 |0,.nt _,h=>h.elim
 |0,.tw _ _ _,h=>h.elim
structure Sc.nmd(c:Sc):Prop where
 w:∀w∈c.ws,Nm w
 g:∀w∈c.gs,Nm w
 b:∀w∈c.bs,Nm w
 d:∀q∈c.ds,Nm q.1/\Nm q.2
 p:∀w∈c.ps,Nm w
def Sc.nmd.short{c:Sc}(h:c.nmd):c.short:=#[λw z=>(h.w w z).1,λw z=>(h.g w z).1,λw z=>(h.b w z).1,λq z=>#[(h.d q z).1.1,(h.d q z).2.1],λw z=>(h.p w z).1]
theorem Rw.g{c:Sc}{m:Nat}(s:c.nmd)(u:m<=40):∀{r:Rw},r.ok c m->G 620 6 r.d:=by
 have i:∀{t:Tr},t.ok c.ws c.bs 5->G 566 5 t.d:=λh=>(Tr.g s.w s.b h).mono (!1) (Qmq _)
 let a:=Gs.nil (m:=0) (e:=5)
 intro r h
 cases r with
 |un t n=>exact(Gs.cons (m:=6) (fi (!1) (by decide +kernel)) (Gs.cons (i h.1) (Gs.cons (m:=8) (tN (by have:=h.2;omega) (!1)) a (Qmq _)) (Qmq _)) (!1)).tup
 |go n=>exact(Gs.cons (m:=2) (fi (!1) (by decide +kernel)) (Gs.cons (m:=8) (tN (by have:n<=m:=h;omega) (!1)) a (Qmq _)) (!1)).tup
 | te k t=>
   have f:k.length<=4/\PyData.strOk k=true:=by rcases h.2.1 with rfl|rfl <;>decide +kernel
   exact(Gs.cons (m:=4) (fi f.1 f.2) (Gs.cons (i h.2.2) a (Qmq _)) (!1)).tup
 |pu w t=>exact(Gs.cons (m:=3) (fi (!1) (by decide +kernel)) (Gs.cons (m:=8) (fw (s.g _ h.2.1) (!1)) (Gs.cons (i h.2.2) a (Qmq _)) (Qmq _)) (!1)).tup
 | dd w r d t=>
   have o:G 8 5 (xX w):=by
     cases w with
     |none=>exact CB
     |some x=>exact fw (s.g _ (h.2.1 x L)) (!1)
   let#[j,l]:=s.d _ h.2.2.1
   exact(Gs.cons (m:=2) (fi (!1) (by decide +kernel)) (Gs.cons o (Gs.cons (m:=8) (fw j (!1)) (Gs.cons (m:=8) (fw l (!1)) (Gs.cons (i h.2.2.2) a (Qmq _)) (Qmq _)) (Qmq _)) (Qmq _)) (!1)).tup
 |wa b t=>exact(Gs.cons (m:=4) (fi (!1) (by decide +kernel)) (Gs.cons (m:=8) (fw (s.b _ h.2.1) (!1)) (Gs.cons (i h.2.2) a (Qmq _)) (Qmq _)) (!1)).tup
 | on k b=>
   have f:(k.length<=4/\PyData.strOk k=true)/\Nm b:=by
     rcases h.2 with⟨rfl|rfl,hb⟩|⟨rfl|rfl,hb⟩
     · exact#[by decide +kernel,s.b _ hb]
     · exact#[by decide +kernel,s.b _ hb]
     · exact#[by decide +kernel,s.p _ hb]
     · exact#[by decide +kernel,s.p _ hb]
   exact(Gs.cons (m:=4) (fi f.1.1 f.1.2) (Gs.cons (m:=8) (fw f.2 (!1)) a (Qmq _)) (!1)).tup
 |pa p q=>exact(Gs.cons (m:=4) (fi (!1) (by decide +kernel)) (Gs.cons (m:=8) (fw (s.p _ h.2.1) (!1)) (Gs.cons (m:=8) (fw (s.p _ h.2.2) (!1)) a (Qmq _)) (Qmq _)) (!1)).tup
def Pr.g{c:Sc}(s:c.nmd){a:List Rw}(h:Pr c a):G 25000 7 (.tup (a.map Rw.d))/\xD a:=by
 refine#[(Gs.of (m:=620) (n:=40) (λd b=>?_) (by rw[lQm];exact h.2.1) (!1)).tup,h.2.1,c,a.length,s.short,h.2.1,h.2.2]
 let#[r,e,rfl]:=Qkq.mp b
 exact Rw.g s h.2.1 (h.2.2 r e)
def yH{a:List (Str×Nat)}(b:xg a)(f:∀v∈a,Nm v.1):G 320 7 (.tup (a.map gO)):=
 ((Gs.of (m:=18) (e:=1) (n:=16) (λd c=>by
   let#[v,h,rfl]:=Qkq.mp c
   exact(Gs.cons (m:=8) (fw (f v h) (!1)) (Gs.cons (m:=8) (tN (by have:=(b.1 v h).2;omega) (!1)) (Gs.nil (m:=0)) (Qmq _)) (!1)).tup) (by rw[lQm];exact b.2) (!1)).tup).mono (Qmq _) (!1)
def Bs:∀i,i<26->∀j,j<5->nm i j≠"at once" /\nm i j≠"when free":=by decide +kernel
def i8.nn{x:Str}(h:i8 x):NN x:=by let#[i,j,b,a,rfl]:=h;exact Bs i b j a
def i8.nmd{x:Str}(h:i8 x):Nm x:=#[h.len,h.ok]
def wL:Nm ("given":Str):=#[by decide,by decide +kernel]
section
variable{ws:X6}(hws:∀w∈ws,i8 w)
include hws
def pE{c:X6}{a:List (Str×Nat)}{m:Nat}(e:∀x∈c,x∈ws)(h:Sub c (a.map (·.1)) m/\∀v∈a,v.2<10)(f:m<=16):xg a/\∀v∈a,i8 v.1:=by
 have d:∀v∈a,i8 v.1:=λv b=>hws _ (e _ (h.1.mem (Qkq.mpr #[v,b,L])))
 have:=h.1.len
 rw[lQm] at this
 exact#[#[λv b=>#[(d v b).len,h.2 v b],by omega],d]
def AC{r:Rm}(h:r.ok ws):r.fit/\G 102000 10 r.d:=by
 let#[C,z]:=pE hws (λ_ h=>h) h.th (!1)
 have j:∀b∈r.be,i8 b.1:=λb j=>hws _ (h.be.1.mem (Qkq.mpr #[b,j,L]))
 have k:∀b∈r.de,i8 b.1:=λb j=>hws _ (h.de.1.mem (Qkq.mpr #[b,j,L]))
 let t:=h.be.1.len
 let u:=h.de.1.len
 rw[lQm] at t u
 have l:∀p∈r.de,G 25000 7 (.tup (p.2.map Rw.d))/\xD p.2:=λp l=>by
  let#[N,_,F,M]:=h.de.2 p l
  refine Pr.g ?_ M
  have H:∀x∈r.th.map (·.1),Nm x:=λx a=>by
   let#[v,i,rfl]:=Qkq.mp a
   exact(z v i).nmd
  refine#[λx a=>?_,H,λx a=>?_,λq I=>#[(hws _ (F q I).1).nmd,(hws _ (F q I).2).nmd],λx a=>(by cases a)]
  ·rcases mQa.mp a with a|a
   ·exact H x a
   ·rw[Qfq] at a
    subst a
    exact wL
  ·let#[v,i,rfl]:=Qkq.mp a
   exact(j v i).nmd
 have s:∀x∈oA,x.length<=9/\PyData.strOk x=true:=by decide +kernel
 have y:∀x∈sorts,x.length<=8/\PyData.strOk x=true:=by decide +kernel
 refine#[#[#[(hws _ h.nm).len,h.mn,C,#[λb c=>#[(j b c).len,h.be.2 b c],t],#[λp f=>#[(k p f).len,(l p f).2],u]],(hws _ h.nm).nn,λv i=>(z v i).nn,λv i=>(j v i).nn,λv i=>(k v i).nn],?_]
 have J:G 57 7 (.tup (r.be.map mH)):=((Gs.of (m:=18) (e:=1) (n:=3) (λd k=>by
  let#[b,c,rfl]:=Qkq.mp k
  let#[B,A]:=y _ (h.be.2 b c)
  exact(Gs.cons (m:=8) (fw (j b c).nmd (!1)) (Gs.cons (m:=8) (fi B A) (Gs.nil (m:=0)) (Qmq _)) (!1)).tup) (by rw[lQm];exact t) (Qmq 57)).tup).mono (Qmq _) (!1)
 have K:G 100100 9 (.tup (r.de.map yM)):=(Gs.of (m:=25012) (e:=8) (n:=4) (λd o=>by
  let#[p,f,rfl]:=Qkq.mp o
  exact(Gs.cons (m:=8) (fw (k p f).nmd (!1)) (Gs.cons (l p f).1 (Gs.nil (m:=0)) (Qmq _)) (!1)).tup) (by rw[lQm];exact u) (!1)).tup
 let#[B,A]:=s _ h.mn
 exact((Gs.cons (m:=8) (e:=9) (fw (hws _ h.nm).nmd (!1)) (Gs.cons (m:=9) (fi B A) (Gs.cons ((yH C λv i=>(z v i).nmd).mono (Qmq _) (!1)) (Gs.cons (J.mono (Qmq _) (!1)) (Gs.cons K (Gs.nil (m:=0)) (Qmq _)) (Qmq _)) (Qmq _)) (Qmq _)) (!1)).tup).mono (Qmq _) (!1)
def An(U:ws.length<27){w:Wr}(h:w.ok ws):w.fit/\G 520000 12 w.d:=by
 let o:=h.rm.1.len
 rw[lQm] at o
 let#[S,I,R]:=h.hd
 have l:∀r∈w.rm,r.fit/\G 102000 10 r.d:=λr l=>AC hws (h.rm.2 r l)
 let#[H,A]:=pE hws (λ_ h=>(List.mem_filter.mp h).1) h.ps (Qmq _)
 let#[C,s]:=pE hws (λ_ h=>h) h.op (Qmq _)
 have F:∀x∈w.hd,x.fit/\G 25400 9 x.d:=λx t=>by
  let k:=R x t
  let#[J,u]:=pE hws (λ_ h=>(List.mem_filter.mp h).1) k.th (!1)
  have B:∀z∈x.th.map (·.1)++w.op.map (·.1),Nm z:=λz f=>by
   rcases mQa.mp f with f|f
   ·let#[v,a,rfl]:=Qkq.mp f
    exact(u v a).nmd
   ·let#[v,a,rfl]:=Qkq.mp f
    exact(s v a).nmd
  let#[P,K]:=Pr.g (c:=gK (x.th.map (·.1)++w.op.map (·.1)) (bK w.rm) (w.ps.map (·.1))) ⟨B,B,λz f=>(by cases f),λq y=>by
   let#[r,b,y]:=QOq.mp y
   let#[p,M,rfl]:=Qkq.mp y
   exact#[(hws _ (h.rm.2 r b).nm).nmd,(hws _ ((h.rm.2 r b).de.1.mem (Qkq.mpr #[p,M,L]))).nmd],λz f=>by
   let#[v,a,rfl]:=Qkq.mp f
   exact(A v a).nmd⟩ k.pr
  refine#[#[#[J,λv a=>(u v a).nn],K],?_]
  exact((Gs.cons (m:=320) (e:=7) (yH J λv a=>(u v a).nmd) (Gs.cons P (Gs.nil (m:=0)) (Qmq _)) (!1)).tup).mono (Qmq _) (!1)
 refine#[#[#[λr b=>(l r b).1,o],#[H,λv a=>(A v a).nn],#[C,λv a=>(s v a).nn],#[λx t=>(F x t).1,I]],?_]
 have Q:G 408004 11 (.tup (w.rm.map Rm.d)):=(Gs.of (m:=102000) (e:=10) (n:=4) (λd i=>by
  let#[p,j,rfl]:=Qkq.mp i
  exact(l p j).2) (by rw[lQm];exact o) (!1)).tup
 have N:G 101604 11 (.tup (w.hd.map Hd.d)):=((Gs.of (m:=25400) (e:=9) (n:=4) (λd i=>by
  let#[p,j,rfl]:=Qkq.mp i
  exact(F p j).2) (by rw[lQm];exact I) (Qmq 101604)).tup).mono (Qmq _) (!1)
 exact(Gs.cons (e:=11) Q (Gs.cons ((yH H λv a=>(A v a).nmd).mono (Qmq _) (!1)) (Gs.cons ((yH C λv a=>(s v a).nmd).mono (Qmq _) (!1)) (Gs.cons N (Gs.nil (m:=0)) (Qmq _)) (Qmq _)) (Qmq _)) (!1)).tup
end
def Bh:Wr:=#[[],[],[],[#[[],[.go 1]]]]
def vN:Bh.fit/\G 520000 12 Bh.d:=by
 have k:Pr (gK [] [] []) [Rw.go 1]:=#[by decide,by decide,λr b=>by rw[Qfq] at b;subst b;exact Qmq 1]
 let#[i,l]:=Pr.g (c:=gK [] [] []) #[λz a=>(by cases a),λz a=>(by cases a),λz a=>(by cases a),λz a=>(by cases a),λz a=>(by cases a)] k
 have j:xg ([]:List (Str×Nat)):=#[λv f=>(by cases f),Nat.zero_le _]
 refine#[#[#[λr b=>(by cases b),Nat.zero_le _],#[j,λv f=>(by cases f)],#[j,λv f=>(by cases f)],#[λr b=>?_,Nat.le_of_ble_eq_true L]],?_]
 ·erw[Bh,Qfq] at b
  subst b
  exact#[#[j,λv f=>(by cases f)],l]
 have h:∀{e},G 0 (e+1) (.tup []):=(Gs.nil (m:=0)).tup
 have i:G 25000 7 (.tup [Rw.d (.go 1)]):=i
 exact((Gs.cons (e:=9) h (Gs.cons h (Gs.cons h (Gs.cons (m:=26000) ((Gs.cons (e:=8) (m:=25500) ((Gs.cons (e:=7) h (Gs.cons i (Gs.nil (m:=0)) (Qmq _)) (show _<=25500 by decide)).tup) (Gs.nil (m:=0)) (show _<=26000 by decide)).tup) (Gs.nil (m:=0)) (Qmq _)) (Qmq _)) (Qmq _)) (show _<=520000 by decide)).tup).mono (Qmq _) (!1)
section
variable{S:aB}{Q:Res->aB->Prop}
def CU{e:bV}{f:a0}{d:D}{R:D->aB->Prop}(g:G 520000 12 d)(i:E f e S λx h=>x=d/\h=S)(q:∀y:Str,fU d=none\/(∃p,fU d=some p/\p.shown=y)->R (.str y) S):E (Bd f) e S R:=by
 let#[p,b,k,l,r,o]:=g
 refine DD (i.mono λx h n=>?_)
 let#[j,m]:=n
 subst j m
 let a:=PyData.shown_le 8 (!1) p k
 have c:sizeLine=16777216:=by decide
 exact⟨p,b,l,by omega,by omega,q _ (.inr ⟨p,b,L⟩)⟩
def mE{w:Wr}(h:w.fit)(g:G 520000 12 w.d)(q:Q (.d (.bl true)) S):Fn dz [w.d] S Q:=by
 refine dN ?_
 unfold kB
 symm
 apply CU g (di L ⟨rfl,L⟩) λy a=>?_
 apply sY h ?_
 refine qZ ?_
 apply lT ?_
 refine cp L ?_
 refine⟨_,L,aN (λ_=>?_) (λc=>(by cases c))⟩
 apply qZ ?_
 refine vm h ?_
 apply cZ ⟨_,L,aN (λ_=>?_) (λc=>(by simp at c))⟩
 apply CU g (di L ⟨rfl,L⟩) λi e=>?_
 refine cZ ?_
 obtain⟨p,b,rfl⟩:∃p,fU w.d=some p/\p.shown=y:=by
  rcases a with a|a
  ·let#[p,b,_]:=g
   rw[b] at a
   cases a
  ·exact a
 obtain⟨j,f,rfl⟩:∃p,fU w.d=some p/\p.shown=i:=by
  rcases e with a|a
  ·let#[p,b,_]:=g
   rw[b] at a
   cases a
  ·exact a
 rw[b] at f
 cases f
 rw[Qeq L]
 exact lG L q
end
def B6{i j:Int}{Q:D->Prop}(q:Q (.int (if j>i then j else i))):Op (maxD [.int i,.int j]) Q:=#[_,L,q]
def yz{f s m:Nat}:(zk f s m).length=m:=by simp[zk]
def Cy:Txt.join "\n" (dR Bh)="hand\ngo 1":=by decide +kernel
def ve:∀ns:List Int,ns.length<=63->∃n,xM [.ref 0] [.frz (ns.map D.int)]=some (.d (.bl true),n):=by
 intro ns u
 suffices h:Fn xM [.ref 0] [.frz (ns.map D.int)] λr _=>r=.d (.bl true) by
  let#[r,n,e,rfl]:=h
  exact⟨n,e⟩
 refine dN ?_
 unfold Ct
 symm
 apply Aw (ns:=ns) L u λp b A=>?_
 have N:Ex 2 1 0 [.frz (ns.map D.int),gj p,k9 1 b 0] [.frz (ns.map D.int),gj p,k9 1 b 0]:=⟨Qmq _,by decide,λ_ _ _ _ h=>h,p,b,0,L,L,A,Int.le_refl _,Int.le_refl _⟩
 refine vq (S:= [.frz (ns.map D.int),gj p,k9 1 b 0]) N (!1) (!1) λf s g Z hs k _ t=>?_
 have k:Ex 2 1 2 [.frz (ns.map D.int),gj p,k9 1 b 0] g:=k
 have t:g.length=3:=t
 obtain⟨a,l⟩:∃a,a=zk f s 26:=⟨_,L⟩
 have J:a.length<27:=by rw[l,yz];decide
 have K:∀w∈a,i8 w:=by rw[l];exact zK
 rw[<-l,t]
 have q:g[0]?=some (.frz (ns.map D.int)):=k.keep 0 _ (!1) (!1) L
 have I:(g++ [.lst (a.map D.str)])[3]?=some (.lst (a.map D.str)):=by rw[<-t];exact aR
 let q:=aM (G:= [.lst (a.map D.str)]) q
 have k:Ex 2 1 2 (g++ [.lst (a.map D.str)]) (g++ [.lst (a.map D.str)]):=(k.here.app).here
 symm
 generalize g++ [.lst (a.map D.str)]=S2 at q I k|-
 apply⟨show 0<=sizeLine by decide,?_⟩
 apply⟨show 0<=sizeLine by decide,?_⟩
 apply⟨show 0<=sizeLine by decide,?_⟩
 apply⟨show 0<=sizeLine by decide,?_⟩
 apply⟨show 2<=sizeLine by decide,?_⟩
 apply⟨show 1<=sizeLine by decide,?_⟩
 apply⟨show 2<=sizeLine by decide,?_⟩
 apply⟨show 1<=sizeLine by decide,?_⟩
 apply⟨show 4<=sizeLine by decide,?_⟩
 apply eV ?_
 apply pU q ?_
 apply zg ?_
 refine B6 ?_
 obtain⟨m,U,R⟩:∃m:Nat,(if (if ((ns.map D.int).length:Int)<8 then((ns.map D.int).length:Int) else 8)>4 then(if ((ns.map D.int).length:Int)<8 then((ns.map D.int).length:Int) else 8) else 4)=(m:Int)/\m<=8:=by
  refine#[(if (if ((ns.map D.int).length:Int)<8 then((ns.map D.int).length:Int) else 8)>4 then(if ((ns.map D.int).length:Int)<8 then((ns.map D.int).length:Int) else 8) else 4).toNat,?_,?_] <;>(repeat' split) <;>omega
 refine#[m,congrArg D.int U,#[by omega,by omega],?_]
 refine#[λi j n=>∃(w:Wr) (F C:Option D),j= [some (.ref 0),some (.ref 2),some (.ref 3),some w.d,F,C]/\(w.fit/\G 520000 12 w.d)/\Ex 2 1 (2+300000*i) S2 n,#[Bh,none,none,L,vN,k],λ_ _ _ _=>trivial,?_,?_]
 ·rintro i d j n P ⟨w,F,C,rfl,⟨wf,wg⟩,e⟩
  let#[hi,rfl]:=lz P
  apply bc ?_
  refine vG e (!0) (!1) (e.at (!1) I) J (λx W=>(K x W).ok) λX S4 v Y _ _=>?_
  let#[z,B]:=An K J v
  symm
  refine mE z B ?_
  refine cp L ?_
  apply aN (λc=>(by cases c)) (λ_=>?_)
  refine mE wf wg ?_
  refine cp L ?_
  apply aN (λc=>(by cases c)) (λ_=>?_)
  refine mE z B ?_
  refine cp L ?_
  apply aN (λc=>(by cases c)) (λ_=>?_)
  exact#[X,_,_,L,#[z,B],Y.mono (!0)]
 rintro j H ⟨w,F,C,rfl,_,e⟩
 symm
 apply#[show 0<=sizeLine by decide,?_]
 apply#[show 0<=sizeLine by decide,?_]
 apply#[show 0<=sizeLine by decide,?_]
 apply#[show 0<=sizeLine by decide,?_]
 apply#[show 2<=sizeLine by decide,?_]
 apply#[show 1<=sizeLine by decide,?_]
 apply#[show 2<=sizeLine by decide,?_]
 apply#[show 1<=sizeLine by decide,?_]
 apply#[show 4<=sizeLine by decide,?_]
 apply sY (w:=Bh) vN.1 ?_
 refine cZ ?_
 rw[Cy,Qeq L]
 let y:=e.keep 0 _ (!1) (!1) q
 have M:∃G,H= [.frz (ns.map D.int)]++G:=by
  cases H with
  |nil=>cases y
  | cons o G=>
    erw[List.getElem?_cons_zero,Option.some.injEq] at y
    subst y
    exact#[G,L]
 exact yn (Q:=λr _=>r=Res.d (D.bl true)) M L L
end W28
open PySem PySem.W PyProof.Rows L2 DL
theorem PySem.Challenge.cw_calledroom_k74_worlds_written_holds : PySem.Challenge.rw_calledroom_k74_worlds_written.Holds := by
  w_on; o_law; k_head; (case hw => w_witness2)
  k_fill
  refine DL.CW (l := PySem.Challenge.rw_calledroom_k74_worlds_written) (k := 14) rfl rfl #[rfl, by decide, by decide, rfl] (λw h Y => PySem.W.kIn_of Y) (λw => ?nl) ?F
  case nl => rfl
  case F =>
    intro w mg fa h KX G hmg
    refine' W28.all_mk KX G hmg ?_ ?_ ?_ ?_ ?_ ?_ ?_ ?_ ?_ ?_ ?_ ?_ ?_ ?_ ?_ ?_ ?_ ?_ ?_ ?_ ?_ ?_ ?_ ?_ ?_ ?_ ?_ ?_ ?_ ?_ ?_ ?_ ?_ ?_ ?_ ?_ ?_ ?_ ?_ ?_ ?_ ?_ ?_ ?_ ?_ ?_ ?_ ?_ ?_ ?_ ?_ ?_ ?_ ?_ W28.ve
    any_goals first | exact DL.bS.of (by k_is) (by k_is) (by k_is) (by k_is) | k_is
